/-
  The verifier's Ints on any two lists: it says whether they are equal. No conditions beyond the lengths.
-/
import Derived.Test.YtlnjhacchnfbkaaComInts
namespace Go.Proofs.Ytlnjhacchnfbkaa
open Go.RowKit
namespace Cm
theorem ne_at : ∀ {a b : List Int}, a.length = b.length → a ≠ b → ∃ k, ∃ (h1 : k < a.length) (h2 : k < b.length), a[k] ≠ b[k] ∧ ∀ j (g1 : j < a.length) (g2 : j < b.length), j < k → a[j] = b[j]
  | [], [], _, h => absurd rfl h
  | [], _ :: _, h, _ => by simp at h
  | _ :: _, [], h, _ => by simp at h
  | x :: a, y :: b, hl, h => by
    by_cases e : x = y
    · subst e
      obtain ⟨k, h1, h2, h3, h4⟩ := ne_at (a := a) (b := b) (by simpa using hl) (fun e => h (by rw [e]))
      refine ⟨k + 1, by simpa using h1, by simpa using h2, by simpa using h3, fun j g1 g2 hj => ?_⟩
      cases j with
      | zero => rfl
      | succ j => simpa using h4 j (by simpa using g1) (by simpa using g2) (by omega)
    · exact ⟨0, by simp, by simp, by simpa using e, fun j _ _ hj => absurd hj (Nat.not_lt_zero _)⟩
set_option maxRecDepth 100000 in
set_option maxHeartbeats 1600000 in
theorem Ints_diff (A B : Option Addr) (c d n : Nat) (a b : List Int) (w : World) (hn : n ≤ 4611686018427387904) (HA : Hid (RdV w (.slice A n c) (intsV a))) (HB : Hid (RdV w (.slice B n d) (intsV b))) (HN : Hid (n = a.length)) (HM : Hid (n = b.length)) (k : Nat) (hk : k < n) (HK : Hid (∃ (h1 : k < a.length) (h2 : k < b.length), a[k] ≠ b[k] ∧ ∀ j (g1 : j < a.length) (g2 : j < b.length), j < k → a[j] = b[j])) :
    Calls Try.prog 28 #[.slice A n c, .slice B n d] w fun e w' => e = .returned (.bool false) ∧ ∃ m, w' = w.drewN m := by
  go_enter Try.func28, Try.ntmps28
  go_wp2_with fail
  go_loopw [5] (fun i wr => ∃ j : Nat, j ≤ k ∧ i = .int .i64 j ∧ ∃ m, wr = w.drewN m) (fun i _ => n - (intOf i).toNat)
  case atStart => exact ⟨0, Nat.zero_le _, rfl, 0, rfl⟩
  case round =>
    obtain ⟨j, hj, rfl, m, rfl⟩ := hrel
    have hx : j < a.length := by rw [← HN.out]; omega
    have hy : j < b.length := by rw [← HM.out]; omega
    obtain ⟨q1, b1, o1, rfl, hc1⟩ := HA.out.at (by rw [intsV_len]; omega)
    obtain ⟨q2, b2, o2, rfl, hc2⟩ := HB.out.at (by rw [intsV_len]; omega)
    have c1 := hc1 j (by rw [intsV_len]; exact hx)
    have c2 := hc2 j (by rw [intsV_len]; exact hy)
    rw [show (intsV a)[j]'(by rw [intsV_len]; exact hx) = .int .i64 a[j] from by simp [intsV]] at c1
    rw [show (intsV b)[j]'(by rw [intsV_len]; exact hy) = .int .i64 b[j] from by simp [intsV]] at c2
    clear hc1 hc2 q1 q2
    have i1 : (0 : Int) ≤ (j : Int) := by omega
    have i2 : (j : Int) < (n : Int) := by omega
    by_cases hlt : j < k
    · obtain ⟨h1, h2, h3, h4⟩ := HK.out
      rw [h4 j hx hy hlt] at c1
      generalize b[j] = x at c1 c2
      clear h4 h3 h1 h2 hx hy
      go_wp2_with fail
      go_quiet (fail)
      go_wp2_with fail
      go_roundw
      case rel => exact ⟨j + 1, by omega, by go_num, _, rfl⟩
      case measure => simp [intOf]; omega
    · obtain rfl : j = k := by omega
      obtain ⟨h1, h2, h3, h4⟩ := HK.out
      have e1 : (a[j] == b[j]) = false := by simpa using h3
      have e2 : (a[j] != b[j]) = true := by simpa using h3
      generalize a[j] = y at c1 e1 e2
      generalize b[j] = x at c2 e1 e2
      clear h4 h3 h1 h2 hx hy
      go_wp2_with fail
      go_quiet (fail)
      go_wp2_with fail
      go_ret
      exact ⟨rfl, _, World.drewN_drewN _ _ _⟩
open Classical in
noncomputable def eqL (a b : List Int) : Bool := decide (a = b)
open Classical in
theorem eqL_T {a b : List Int} (h : a = b) : eqL a b = true := decide_eq_true h
open Classical in
theorem eqL_F {a b : List Int} (h : a ≠ b) : eqL a b = false := decide_eq_false h
set_option maxRecDepth 100000 in
theorem Ints_any (va vb : Value) (a b : List Int) (w : World) (hla : a.length ≤ 1000000) (hlb : b.length ≤ 1000000) (ha : RdV w va (intsV a)) (hb : RdV w vb (intsV b)) :
    Calls Try.prog 28 #[va, vb] w fun e w' => e = .returned (.bool (eqL a b)) ∧ ∃ m, w' = w.drewN m := by
  by_cases e : a = b
  · subst e
    rw [eqL_T rfl]
    exact Ints_same va vb a w (by omega) ha hb
  · rw [eqL_F e]
    obtain ⟨A, c, rfl⟩ := ha.form
    obtain ⟨B, d, rfl⟩ := hb.form
    rw [intsV_len] at ha hb ⊢
    rw [intsV_len]
    by_cases hl : a.length = b.length
    · obtain ⟨k, h1, h2, h3, h4⟩ := ne_at hl e
      rw [← hl] at hb ⊢
      exact Ints_diff A B c d a.length a b w (by omega) (Lib.hid ha) (Lib.hid hb) (Lib.hid rfl) (Lib.hid hl) k h1 (Lib.hid ⟨h1, h2, h3, h4⟩)
    · have e1 : ((a.length : Int) != (b.length : Int)) = true := by rw [bne_iff_ne]; omega
      have e2 : ((a.length : Int) == (b.length : Int)) = false := by rw [beq_eq_false_iff_ne]; omega
      clear ha hb e
      generalize a.length = n at *
      generalize b.length = m at *
      go_enter Try.func28, Try.ntmps28
      go_wp2_with fail
      go_ret
      exact ⟨rfl, 0, rfl⟩
end Cm
end Go.Proofs.Ytlnjhacchnfbkaa
