/-
  The verifier's Strings on equal lists, and the sanity check of layer 2's statements ('awake'): it returns true. No conditions.
-/
import Derived.Test.YtlnghfmedkfkmaaGreatDoorTextLines
import Derived.Shelf.SlIter.Collect
import Derived.Test.YtlnghfmedkfkmaaGreatDoorProg
import Derived.Test.YtlnghfmedkfkmaaGreatDoorGTextBase
namespace Go.Proofs.YtlnghfmedkfkmaaGreatDoor
open Go.RowKit
namespace Tx
set_option maxRecDepth 100000 in
set_option maxHeartbeats 800000 in
theorem Strings_same (a b : Value) (xs : List ByteArray) (w : World) (hl : xs.length ≤ 4611686018427387904) (ha : RdS w a xs) (hb : RdS w b xs) :
    Calls Tryz.prog 28 #[a, b] w fun e w' => e = .returned (.bool true) ∧ Below w.heap.size w w' := by
  obtain ⟨A, c, rfl, _, hA⟩ := ha
  obtain ⟨B, d, rfl, _, hB⟩ := hb
  by_cases h0 : xs.length = 0
  · have e1 : ((xs.length : Int) != (xs.length : Int)) = false := by simp
    clear hA hB
    go_enter Tryz.func28, Tryz.ntmps28
    go_wp2_with fail
    refine wp_loop_rounds 1 ?_
    rw [rounds_succ]
    go_wp2_with fail
    go_ret
    exact ⟨rfl, Below.refl _ _⟩
  · obtain ⟨b1, o1, rfl, hA2⟩ := hA (by omega)
    obtain ⟨b2, o2, rfl, hB2⟩ := hB (by omega)
    have HA := Lib.hid hA2
    have HB := Lib.hid hB2
    clear hA hB hA2 hB2 h0
    generalize hn : xs.length = n at hl
    have HN := Lib.hid hn
    clear hn
    go_enter Tryz.func28, Tryz.ntmps28
    go_wp2_with fail
    go_loopw [5] (fun i wr => ∃ j : Nat, j ≤ n ∧ i = .int .i64 j ∧ ∃ m, wr = w.drewN m) (fun i _ => n - (intOf i).toNat)
    case atStart => exact ⟨0, Nat.zero_le _, rfl, 0, rfl⟩
    case round =>
      obtain ⟨j, hj, rfl, m, rfl⟩ := hrel
      by_cases hlt : j < n
      · have hx : j < xs.length := by rw [HN.out]; exact hlt
        have c1 : w.cell? ⟨b1, o1 + j, none⟩ = some (.string xs[j]) := HA.out j hx
        have c2 : w.cell? ⟨b2, o2 + j, none⟩ = some (.string xs[j]) := HB.out j hx
        generalize xs[j] = x at c1 c2
        have i1 : (0 : Int) ≤ (j : Int) := by omega
        have i2 : (j : Int) < (n : Int) := by omega
        go_wp2_with fail
        go_quiet (fail)
        go_wp2_with fail
        go_roundw
        case rel => exact ⟨j + 1, by omega, by go_num, _, rfl⟩
        case measure => simp [intOf]; omega
      · have hd : decide (j < n) = false := by simp only [decide_eq_false_iff_not]; omega
        go_wp2_with fail
        go_ret
        exact ⟨rfl, below_drewN (Below.refl _ _) _⟩
/-- A literal list. -/
theorem RdS.lit (w : World) (xs : List ByteArray) : RdS (w.alloc (.cells (xs.map Value.string).toArray 9)) (.slice (some ⟨w.heap.size, 0, none⟩) xs.length xs.length) xs := by
  refine ⟨_, _, rfl, ⟨Nat.le_refl _, fun e => by cases e⟩, fun _ => ⟨_, 0, rfl, fun j hj => ?_⟩⟩
  rw [World.cell?_alloc_mark]
  simp [List.getElem?_eq_getElem hj]
end Tx
end Go.Proofs.YtlnghfmedkfkmaaGreatDoor
