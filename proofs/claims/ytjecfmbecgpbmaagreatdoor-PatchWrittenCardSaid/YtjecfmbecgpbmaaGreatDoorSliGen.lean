/- Facts; each states its conditions. -/
import Derived.Test.YtjecfmbecgpbmaaGreatDoorGSliClone
import Derived.Test.YtjecfmbecgpbmaaGreatDoorGShoTab
namespace Go.Proofs.YtjecfmbecgpbmaaGreatDoor
namespace Au
end Au
namespace Cm
end Cm
namespace Sc
end Sc
namespace Sh
end Sh
open Go.RowKit
namespace Sl
open Cm Sc Au Sh
theorem wk_equal (i j : Nat) (a b : List Int) : ∀ s ∈ wkF i j a b, ∃ p q : Nat, s.frm = (i + p : Nat) ∧ s.to = (j + q : Nat) ∧ ∃ (h1 : p < a.length) (h2 : q < b.length), a[p] = b[q] := by
 have key : ∀ (n : Nat) (i j : Nat) (a b : List Int), a.length + b.length ≤ n → ∀ s ∈ wkF i j a b, ∃ p q : Nat, s.frm = (i + p : Nat) ∧ s.to = (j + q : Nat) ∧ ∃ (h1 : p < a.length) (h2 : q < b.length), a[p] = b[q] := by
  intro n
  induction n with
  | zero =>
    intro i j a b h s hs
    obtain rfl : a = [] := List.eq_nil_of_length_eq_zero (by omega)
    rw [wkF_nil] at hs; cases hs
  | succ n ih =>
    intro i j a b h s hs
    cases a with
    | nil => rw [wkF_nil] at hs; cases hs
    | cons x a =>
      cases b with
      | nil => rw [wkF_nil'] at hs; cases hs
      | cons y b =>
        simp only [List.length_cons] at h
        by_cases e : x = y
        · subst e
          rw [wkF_eq] at hs
          rcases List.mem_cons.1 hs with rfl | hs
          · exact ⟨0, 0, rfl, rfl, by simp, by simp, rfl⟩
          · obtain ⟨p, q, h1, h2, h3, h4, h5⟩ := ih (i + 1) (j + 1) a b (by omega) s (by simpa using hs)
            exact ⟨p + 1, q + 1, by rw [h1]; omega, by rw [h2]; omega, by simpa using h3, by simpa using h4, by simpa using h5⟩
        · by_cases hl : lcs a (y :: b) = lcs (x :: a) (y :: b)
          · rw [wkF_old e hl] at hs
            obtain ⟨p, q, h1, h2, h3, h4, h5⟩ := ih (i + 1) j a (y :: b) (by simp only [List.length_cons]; omega) s (by simpa using hs)
            exact ⟨p + 1, q, by rw [h1]; omega, h2, by simpa using h3, h4, by simpa using h5⟩
          · rw [wkF_new e hl] at hs
            obtain ⟨p, q, h1, h2, h3, h4, h5⟩ := ih i (j + 1) (x :: a) b (by simp only [List.length_cons]; omega) s (by simpa using hs)
            exact ⟨p, q + 1, h1, by rw [h2]; omega, h3, by simpa using h4, by simpa using h5⟩
 exact key _ i j a b (Nat.le_refl _)
theorem scr_ok (a b : List Int) : OkL true 0 0 (scrF a b) (a.length : Int) (b.length : Int) :=
 frF_ok (wkF 0 0 a b) true 0 0 0 0 rfl (fun h => by cases h) (Int.le_refl _) (Int.le_refl _) (by omega) (by omega) (wk_okP a b)
theorem scr_mt (a b : List Int) : mtF (a.length : Int) 0 0 (scrF a b) = wkF 0 0 a b := by
 have h := mt_fr (m := (a.length : Int)) (n := (b.length : Int)) (wkF 0 0 a b) 0 0 0 0 rfl (Int.le_refl _) (by omega) (by omega) (wk_okP a b)
 rw [show ((0 : Int) - 0).toNat = 0 from rfl, run_zero, List.nil_append] at h
 exact h
theorem scr_fits (a b : List Int) (ha : a.length ≤ 4096) (hb : b.length ≤ 4096) : fitsB (scrF a b) a b = true := by
 refine fitsB_T (chkF_ok ⟨by omega, by omega⟩ ⟨by omega, by omega⟩ (scr_ok a b)) fun s hs => ?_
 rw [scr_mt] at hs
 obtain ⟨p, q, h1, h2, h3, h4, h5⟩ := wk_equal 0 0 a b s hs
 unfold eqAt
 rw [h1, h2]
 simp only [Nat.zero_add, Int.toNat_natCast, List.getD_eq_getElem?_getD, List.getElem?_eq_getElem h3, List.getElem?_eq_getElem h4, h5]
theorem pick_fit1 (a b : List Int) (ha : a.length ≤ 4096) (hb : b.length ≤ 4096) : FitL a b true 0 0 (scrF a b) := (fits_iff.1 (scr_fits a b ha hb)).2.2
def PkPost (w : World) (e : Ending) (w' : World) : Prop := ∃ vl va vb l a b, e = .returned (.tuple #[vl, va, vb]) ∧ FitL a b true 0 0 l ∧ a.length ≤ 12 ∧ b.length ≤ 12 ∧ RdC w' vl l ∧ RdV w' va (intsV a) ∧ RdV w' vb (intsV b) ∧ Below w.heap.size w w'
end Sl
end Go.Proofs.YtjecfmbecgpbmaaGreatDoor
