/-
  Partners are equal lines; any increasing choice of equal lines has at most as many pairs: plain mathematics, no conditions.
-/
import Derived.Test.YtlnjhacchnfbkaaShoMath
namespace Go.Proofs.Ytlnjhacchnfbkaa
namespace Sh
open Sc
theorem wk_equal (i j : Nat) (a b : List Int) : ∀ s ∈ wkF i j a b, ∃ p q : Nat, s.frm = (i + p : Nat) ∧ s.to = (j + q : Nat) ∧ ∃ (h1 : p < a.length) (h2 : q < b.length), a[p] = b[q] := by
  have key : ∀ (n : Nat) (i j : Nat) (a b : List Int), a.length + b.length ≤ n → ∀ s ∈ wkF i j a b, ∃ p q : Nat, s.frm = (i + p : Nat) ∧ s.to = (j + q : Nat) ∧ ∃ (h1 : p < a.length) (h2 : q < b.length), a[p] = b[q] := by
    intro n
    induction n with
    | zero =>
      intro i j a b h s hs
      obtain rfl : a = [] := List.eq_nil_of_length_eq_zero (by omega)
      rw [wkF_nil] at hs; cases hs
    | succ n ih =>
      intro i j a b h s hs
      cases a with
      | nil => rw [wkF_nil] at hs; cases hs
      | cons x a =>
        cases b with
        | nil => rw [wkF_nil'] at hs; cases hs
        | cons y b =>
          simp only [List.length_cons] at h
          by_cases e : x = y
          · subst e
            rw [wkF_eq] at hs
            rcases List.mem_cons.1 hs with rfl | hs
            · exact ⟨0, 0, rfl, rfl, by simp, by simp, rfl⟩
            · obtain ⟨p, q, h1, h2, h3, h4, h5⟩ := ih (i + 1) (j + 1) a b (by omega) s (by simpa using hs)
              exact ⟨p + 1, q + 1, by rw [h1]; omega, by rw [h2]; omega, by simpa using h3, by simpa using h4, by simpa using h5⟩
          · by_cases hl : lcs a (y :: b) = lcs (x :: a) (y :: b)
            · rw [wkF_old e hl] at hs
              obtain ⟨p, q, h1, h2, h3, h4, h5⟩ := ih (i + 1) j a (y :: b) (by simp only [List.length_cons]; omega) s (by simpa using hs)
              exact ⟨p + 1, q, by rw [h1]; omega, h2, by simpa using h3, h4, by simpa using h5⟩
            · rw [wkF_new e hl] at hs
              obtain ⟨p, q, h1, h2, h3, h4, h5⟩ := ih i (j + 1) (x :: a) b (by simp only [List.length_cons]; omega) s (by simpa using hs)
              exact ⟨p, q + 1, h1, by rw [h2]; omega, h3, by simpa using h4, by simpa using h5⟩
  exact key _ i j a b (Nat.le_refl _)
theorem lcs_pick {a b : List Int} {i j p q many : Nat} (h : many + lcs (a.drop i) (b.drop j) ≤ lcs a b) (hp : i ≤ p) (hq : j ≤ q) (h1 : p < a.length) (h2 : q < b.length) (he : a[p] = b[q]) : many + 1 + lcs (a.drop (p + 1)) (b.drop (q + 1)) ≤ lcs a b := by
  have e1 : a.drop p = (a.drop i).drop (p - i) := by rw [List.drop_drop]; congr 1; omega
  have e2 : b.drop q = (b.drop j).drop (q - j) := by rw [List.drop_drop]; congr 1; omega
  have h3 := lcs_dropL (b.drop j) (p - i) (a.drop i)
  have h4 := lcs_dropR (a.drop p) (q - j) (b.drop j)
  rw [← e1] at h3
  rw [← e2] at h4
  have h5 : lcs (a.drop p) (b.drop q) = lcs (a.drop (p + 1)) (b.drop (q + 1)) + 1 := by
    rw [List.drop_eq_getElem_cons h1, List.drop_eq_getElem_cons h2, he, lcs_eq]
  omega
end Sh
end Go.Proofs.Ytlnjhacchnfbkaa
