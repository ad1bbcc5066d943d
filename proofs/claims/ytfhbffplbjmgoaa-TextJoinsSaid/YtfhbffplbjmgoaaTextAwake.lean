/-
  The verifier's Strings on equal lists, and the sanity check of layer 2's statements ('awake'): it returns true. No conditions.
-/
import Derived.Test.YtfhbffplbjmgoaaTextCollect
import Derived.Test.YtfhbffplbjmgoaaTextBlob
namespace Go.Proofs.Ytfhbffplbjmgoaa
open Go.RowKit
namespace Tx
set_option maxRecDepth 100000 in
set_option maxHeartbeats 800000 in
theorem Strings_same (a b : Value) (xs : List ByteArray) (w : World) (hl : xs.length ≤ 4611686018427387904) (ha : RdS w a xs) (hb : RdS w b xs) :
    Calls Try.prog 14 #[a, b] w fun e w' => e = .returned (.bool true) ∧ Below w.heap.size w w' := by
  obtain ⟨A, c, rfl, _, hA⟩ := ha
  obtain ⟨B, d, rfl, _, hB⟩ := hb
  by_cases h0 : xs.length = 0
  · have e1 : ((xs.length : Int) != (xs.length : Int)) = false := by simp
    clear hA hB
    go_enter Try.func14, Try.ntmps14
    go_wp2_with fail
    refine wp_loop_rounds 1 ?_
    rw [rounds_succ]
    go_wp2_with fail
    go_ret
    exact ⟨rfl, Below.refl _ _⟩
  · obtain ⟨b1, o1, rfl, hA2⟩ := hA (by omega)
    obtain ⟨b2, o2, rfl, hB2⟩ := hB (by omega)
    have HA := Lib.hid hA2
    have HB := Lib.hid hB2
    clear hA hB hA2 hB2 h0
    generalize hn : xs.length = n at hl
    have HN := Lib.hid hn
    clear hn
    go_enter Try.func14, Try.ntmps14
    go_wp2_with fail
    go_loopw [5] (fun i wr => ∃ j : Nat, j ≤ n ∧ i = .int .i64 j ∧ ∃ m, wr = w.drewN m) (fun i _ => n - (intOf i).toNat)
    case atStart => exact ⟨0, Nat.zero_le _, rfl, 0, rfl⟩
    case round =>
      obtain ⟨j, hj, rfl, m, rfl⟩ := hrel
      by_cases hlt : j < n
      · have hx : j < xs.length := by rw [HN.out]; exact hlt
        have c1 : w.cell? ⟨b1, o1 + j, none⟩ = some (.string xs[j]) := HA.out j hx
        have c2 : w.cell? ⟨b2, o2 + j, none⟩ = some (.string xs[j]) := HB.out j hx
        generalize xs[j] = x at c1 c2
        have i1 : (0 : Int) ≤ (j : Int) := by omega
        have i2 : (j : Int) < (n : Int) := by omega
        go_wp2_with fail
        go_quiet (fail)
        go_wp2_with fail
        go_roundw
        case rel => exact ⟨j + 1, by omega, by go_num, _, rfl⟩
        case measure => simp [intOf]; omega
      · have hd : decide (j < n) = false := by simp only [decide_eq_false_iff_not]; omega
        go_wp2_with fail
        go_ret
        exact ⟨rfl, below_drewN (Below.refl _ _) _⟩
/-- A literal list. -/
theorem RdS.lit (w : World) (xs : List ByteArray) : RdS (w.alloc (.cells (xs.map Value.string).toArray 9)) (.slice (some ⟨w.heap.size, 0, none⟩) xs.length xs.length) xs := by
  refine ⟨_, _, rfl, ⟨Nat.le_refl _, fun e => by cases e⟩, fun _ => ⟨_, 0, rfl, fun j hj => ?_⟩⟩
  rw [World.cell?_alloc_mark]
  simp [List.getElem?_eq_getElem hj]
theorem aw_check : checkF [97, 10, 10, 98] = 0 := checkF_small _ (by decide)
theorem aw_lines : linesF [97, 10, 10, 98] = [[97, 10], [10], [98]] := by decide
theorem aw_list : isListF [[97], [98]] = false := by decide
/-- Split of a small blob. -/
theorem Split_small (s : ByteArray) (hs : s.size ≤ 4096) (w : World) : Calls Try.prog 10 #[.string s] w fun e w' => ∃ v, e = .returned (.tuple #[v, .int .i64 0]) ∧ RdS w' v (mks (linesF (bs s))) ∧ Below w.heap.size w w' :=
  (Split_any s w (by omega)).mono fun _ _ ⟨v, h1, h2, h3⟩ => by
    have h := checkF_small (bs s) (by rw [bs_len]; exact hs)
    rw [if_pos h] at h2
    exact ⟨v, by rw [h1, h], h2, h3⟩
set_option maxRecDepth 100000 in
set_option maxHeartbeats 800000 in
theorem awake_any (w : World) : Calls Try.prog 8 #[] w fun e w' => e = .returned (.bool true) ∧ Below w.heap.size w w' := by
  have H1 : Hid (∀ w, Calls Try.prog 10 #[.string ⟨#[97, 10, 10, 98]⟩] w fun e w' => ∃ v, e = .returned (.tuple #[v, .int .i64 0]) ∧ RdS w' v [⟨#[97, 10]⟩, ⟨#[10]⟩, ⟨#[98]⟩] ∧ Below w.heap.size w w') :=
    Lib.hid (fun w => by have := Split_small ⟨#[97, 10, 10, 98]⟩ (by decide) w; rw [show bs ⟨#[97, 10, 10, 98]⟩ = [97, 10, 10, 98] from rfl, aw_lines] at this; exact this)
  have H2 : Hid (∀ w v, RdS w v [⟨#[97]⟩, ⟨#[98]⟩] → Calls Try.prog 20 #[v] w fun e w' => e = .returned (.tuple #[.string ⟨#[]⟩, .int .i64 2]) ∧ Below w.heap.size w w') :=
    Lib.hid (fun w v h => (Join_any v _ w h (by decide) (by decide)).mono fun e w' ⟨h1, h2⟩ => by
      rw [show bss [⟨#[97]⟩, ⟨#[98]⟩] = [[97], [98]] from rfl, aw_list] at h1
      exact ⟨h1, h2⟩)
  have H3 := Lib.hid (fun w => Ended_any ⟨#[120, 10]⟩ w (by decide))
  have H4 := Lib.hid (fun w => Bare_any ⟨#[120, 10]⟩ w (by decide))
  rw [show endedF (bs ⟨#[120, 10]⟩) = true from by decide] at H3
  rw [show bareB ⟨#[120, 10]⟩ = ⟨#[120]⟩ from by unfold bareB; rw [show endedF (bs ⟨#[120, 10]⟩) = true from by decide, if_pos rfl]; rfl] at H4
  go_enter Try.func8, Try.ntmps8
  go_wp2_with fail
  refine (H1.out _).mono ?_
  rintro e w1 ⟨v1, rfl, r1, hb1⟩
  have R1 := Lib.hid r1
  clear r1
  go_wp2_with fail
  refine (H2.out _ _ (RdS.lit w1 [⟨#[97]⟩, ⟨#[98]⟩])).mono ?_
  rintro e w2 ⟨rfl, hb2⟩
  have hb3 : Below w1.heap.size w1 w2 := ((Below.refl _ w1).alloc (Nat.le_refl _) _).trans (hb2.mono (by simp))
  have R2 := Lib.hid (R1.out.below hb3)
  have hb4 := hb1.trans (hb3.mono hb1.size)
  clear hb2 hb3 hb1 R1
  go_wp2_with fail
  refine (Strings_same _ _ [⟨#[97, 10]⟩, ⟨#[10]⟩, ⟨#[98]⟩] _ (by decide) (R2.out.below ((Below.refl _ w2).alloc (Nat.le_refl _) _)) (RdS.lit w2 [⟨#[97, 10]⟩, ⟨#[10]⟩, ⟨#[98]⟩])).mono ?_
  rintro e w3 ⟨rfl, hb5⟩
  have hb6 : Below w2.heap.size w2 w3 := ((Below.refl _ w2).alloc (Nat.le_refl _) _).trans (hb5.mono (by simp))
  have hb7 := hb4.trans (hb6.mono hb4.size)
  clear hb5 hb6 hb4 R2
  go_wp2_with (first
    | (go_at_call 18; refine (H3.out _).mono ?_; rintro e w4 ⟨rfl, rfl⟩)
    | (go_at_call 16; refine (H4.out _).mono ?_; rintro e w4 ⟨rfl, rfl⟩))
  go_ret
  exact ⟨rfl, hb7⟩
end Tx
end Go.Proofs.Ytfhbffplbjmgoaa
