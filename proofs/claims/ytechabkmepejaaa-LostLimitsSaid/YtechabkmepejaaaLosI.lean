/-
  The verifier's Ints on equal lists: it returns true. No conditions beyond the lengths.
-/
import Derived.Test.YtechabkmepejaaaComIntsV
namespace Go.Proofs.Ytechabkmepejaaa
open Go.RowKit
namespace Cm
set_option maxRecDepth 100000 in
set_option maxHeartbeats 800000 in
theorem Ints_same (a b : Value) (l : List Int) (w : World) (hl : l.length ≤ 4611686018427387904) (ha : RdV w a (intsV l)) (hb : RdV w b (intsV l)) :
    Calls Try.prog 13 #[a, b] w fun e w' => e = .returned (.bool true) ∧ ∃ m, w' = w.drewN m := by
  obtain ⟨A, c, rfl, _, hA⟩ := ha
  obtain ⟨B, d, rfl, _, hB⟩ := hb
  have hlen := intsV_len l
  by_cases h0 : l.length = 0
  · have e1 : (((intsV l).length : Int) != ((intsV l).length : Int)) = false := by simp
    have e2 : (intsV l).length = 0 := by omega
    clear hA hB h0 hlen hl
    generalize (intsV l).length = n at e1 e2
    subst e2
    go_enter Try.func13, Try.ntmps13
    go_wp2_with fail
    refine wp_loop_rounds 1 ?_
    rw [rounds_succ]
    go_wp2_with fail
    go_ret
    exact ⟨rfl, 0, rfl⟩
  · obtain ⟨b1, o1, rfl, hA2⟩ := hA (by omega)
    obtain ⟨b2, o2, rfl, hB2⟩ := hB (by omega)
    have HA : Hid (∀ j (h : j < l.length), w.cell? ⟨b1, o1 + j, none⟩ = some (.int .i64 l[j])) := Lib.hid (fun j h => by rw [hA2 j (by omega)]; simp [intsV])
    have HB : Hid (∀ j (h : j < l.length), w.cell? ⟨b2, o2 + j, none⟩ = some (.int .i64 l[j])) := Lib.hid (fun j h => by rw [hB2 j (by omega)]; simp [intsV])
    clear hA hB hA2 hB2 h0
    rw [hlen]
    clear hlen
    generalize hn : l.length = n at hl
    have HN := Lib.hid hn
    clear hn
    go_enter Try.func13, Try.ntmps13
    go_wp2_with fail
    go_loopw [5] (fun i wr => ∃ j : Nat, j ≤ n ∧ i = .int .i64 j ∧ ∃ m, wr = w.drewN m) (fun i _ => n - (intOf i).toNat)
    case atStart => exact ⟨0, Nat.zero_le _, rfl, 0, rfl⟩
    case round =>
      obtain ⟨j, hj, rfl, m, rfl⟩ := hrel
      by_cases hlt : j < n
      · have hx : j < l.length := by rw [HN.out]; exact hlt
        have c1 : w.cell? ⟨b1, o1 + j, none⟩ = some (.int .i64 l[j]) := HA.out j hx
        have c2 : w.cell? ⟨b2, o2 + j, none⟩ = some (.int .i64 l[j]) := HB.out j hx
        generalize l[j] = x at c1 c2
        have i1 : (0 : Int) ≤ (j : Int) := by omega
        have i2 : (j : Int) < (n : Int) := by omega
        go_wp2_with fail
        go_quiet (fail)
        go_wp2_with fail
        go_roundw
        case rel => exact ⟨j + 1, by omega, by go_num, _, rfl⟩
        case measure => simp [intOf]; omega
      · have hd : decide (j < n) = false := by simp only [decide_eq_false_iff_not]; omega
        go_wp2_with fail
        go_ret
        exact ⟨rfl, _, rfl⟩
end Cm
end Go.Proofs.Ytechabkmepejaaa
