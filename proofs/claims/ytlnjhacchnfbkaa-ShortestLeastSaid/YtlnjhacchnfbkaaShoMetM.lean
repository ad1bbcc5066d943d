/-
  The distance is a metric: plain mathematics, no conditions.
-/
import Derived.Test.YtlnjhacchnfbkaaShoMath
namespace Go.Proofs.Ytlnjhacchnfbkaa
namespace Sh
open Sc
theorem lcs_comm : ∀ (a b : List Int), lcs a b = lcs b a := by
  have h : ∀ (n : Nat) (a b : List Int), a.length + b.length ≤ n → lcs a b = lcs b a := by
    intro n
    induction n with
    | zero =>
      intro a b h
      obtain rfl : a = [] := List.eq_nil_of_length_eq_zero (by omega)
      obtain rfl : b = [] := List.eq_nil_of_length_eq_zero (by omega)
      rfl
    | succ n ih =>
      intro a b h
      cases a with
      | nil => rw [lcs_nil, lcs_nil']
      | cons x a =>
        cases b with
        | nil => rw [lcs_nil, lcs_nil']
        | cons y b =>
          simp only [List.length_cons] at h
          by_cases e : x = y
          · subst e
            rw [lcs_eq, lcs_eq, ih a b (by omega)]
          · rw [lcs_ne e, lcs_ne (fun e2 => e e2.symm), ih a (y :: b) (by simp only [List.length_cons]; omega), ih (x :: a) b (by simp only [List.length_cons]; omega)]
            omega
  exact fun a b => h _ a b (Nat.le_refl _)
theorem lcs_self : ∀ a : List Int, lcs a a = a.length
  | [] => lcs_nil []
  | x :: a => by rw [lcs_eq, lcs_self a, List.length_cons]
/-- A common sublist is no longer. -/
theorem lcs_sub : ∀ (n : Nat) (a b s : List Int), a.length + b.length ≤ n → s.Sublist a → s.Sublist b → s.length ≤ lcs a b := by
  intro n
  induction n with
  | zero =>
    intro a b s h h1 h2
    obtain rfl : a = [] := List.eq_nil_of_length_eq_zero (by omega)
    rw [List.sublist_nil.1 h1]
    simp
  | succ n ih =>
    intro a b s h h1 h2
    cases a with
    | nil => rw [List.sublist_nil.1 h1]; simp
    | cons x a =>
      cases b with
      | nil => rw [List.sublist_nil.1 h2]; simp
      | cons y b =>
        simp only [List.length_cons] at h
        have l1 := lcs_consL x a (y :: b)
        have l2 := lcs_consR y (x :: a) b
        cases h1 with
        | cons _ h1 =>
          have := ih a (y :: b) s (by simp only [List.length_cons]; omega) h1 h2
          omega
        | cons_cons _ h1 =>
          rename_i s
          cases h2 with
          | cons _ h2 =>
            have := ih (x :: a) b (x :: s) (by simp only [List.length_cons]; omega) (h1.cons_cons x) h2
            omega
          | cons_cons _ h2 =>
            rw [lcs_eq, List.length_cons]
            have := ih a b s (by omega) h1 h2
            omega
theorem lcs_ex : ∀ (n : Nat) (a b : List Int), a.length + b.length ≤ n → ∃ s : List Int, s.Sublist a ∧ s.Sublist b ∧ s.length = lcs a b := by
  intro n
  induction n with
  | zero =>
    intro a b h
    obtain rfl : a = [] := List.eq_nil_of_length_eq_zero (by omega)
    exact ⟨[], List.nil_sublist _, List.nil_sublist _, by rw [lcs_nil]; rfl⟩
  | succ n ih =>
    intro a b h
    cases a with
    | nil => exact ⟨[], List.nil_sublist _, List.nil_sublist _, by rw [lcs_nil]; rfl⟩
    | cons x a =>
      cases b with
      | nil => exact ⟨[], List.nil_sublist _, List.nil_sublist _, by rw [lcs_nil']; rfl⟩
      | cons y b =>
        simp only [List.length_cons] at h
        by_cases e : x = y
        · subst e
          obtain ⟨s, h1, h2, h3⟩ := ih a b (by omega)
          exact ⟨x :: s, h1.cons_cons x, h2.cons_cons x, by rw [lcs_eq, List.length_cons, h3]⟩
        · by_cases hm : lcs (x :: a) b ≤ lcs a (y :: b)
          · obtain ⟨s, h1, h2, h3⟩ := ih a (y :: b) (by simp only [List.length_cons]; omega)
            exact ⟨s, h1.cons x, h2, by rw [lcs_ne e, h3]; omega⟩
          · obtain ⟨s, h1, h2, h3⟩ := ih (x :: a) b (by simp only [List.length_cons]; omega)
            exact ⟨s, h1, h2.cons y, by rw [lcs_ne e, h3]; omega⟩
theorem sub_meet {b : List Int} : ∀ {s t : List Int}, s.Sublist b → t.Sublist b → ∃ u : List Int, u.Sublist s ∧ u.Sublist t ∧ s.length + t.length ≤ u.length + b.length := by
  induction b with
  | nil => intro s t h1 h2; rw [List.sublist_nil.1 h1, List.sublist_nil.1 h2]; exact ⟨[], List.nil_sublist _, List.nil_sublist _, by simp⟩
  | cons x b ih =>
    intro s t h1 h2
    cases h1 with
    | cons _ h1 =>
      cases h2 with
      | cons _ h2 =>
        obtain ⟨u, a1, a2, a3⟩ := ih h1 h2
        exact ⟨u, a1, a2, by simp only [List.length_cons]; omega⟩
      | cons_cons _ h2 =>
        obtain ⟨u, a1, a2, a3⟩ := ih h1 h2
        exact ⟨u, a1, a2.cons x, by simp only [List.length_cons]; omega⟩
    | cons_cons _ h1 =>
      cases h2 with
      | cons _ h2 =>
        obtain ⟨u, a1, a2, a3⟩ := ih h1 h2
        exact ⟨u, a1.cons x, a2, by simp only [List.length_cons]; omega⟩
      | cons_cons _ h2 =>
        obtain ⟨u, a1, a2, a3⟩ := ih h1 h2
        exact ⟨x :: u, a1.cons_cons x, a2.cons_cons x, by simp only [List.length_cons]; omega⟩
theorem lcs_tri (a b c : List Int) : lcs a b + lcs b c ≤ lcs a c + b.length := by
  obtain ⟨s, s1, s2, s3⟩ := lcs_ex _ a b (Nat.le_refl _)
  obtain ⟨t, t1, t2, t3⟩ := lcs_ex _ b c (Nat.le_refl _)
  obtain ⟨u, u1, u2, u3⟩ := sub_meet s2 t1
  have := lcs_sub _ a c u (Nat.le_refl _) (u1.trans s1) (u2.trans t2)
  omega
theorem dist_comm (a b : List Int) : dist a b = dist b a := by
  unfold dist; rw [lcs_comm a b]; omega
theorem dist_self (a : List Int) : dist a a = 0 := by
  unfold dist; rw [lcs_self]; omega
theorem dist_tri (a b c : List Int) : dist a c ≤ dist a b + dist b c := by
  have := lcs_tri a b c
  unfold dist; omega
theorem dist_lo (a b : List Int) : (a.length : Int) - b.length ≤ dist a b ∧ (b.length : Int) - a.length ≤ dist a b ∧ 0 ≤ dist a b ∧ dist a b ≤ a.length + b.length := by
  obtain ⟨s, s1, s2, s3⟩ := lcs_ex _ a b (Nat.le_refl _)
  have := s1.length_le
  have := s2.length_le
  unfold dist; omega
theorem dist_zero (a b : List Int) : dist a b = 0 ↔ a = b := by
  constructor
  · intro h
    obtain ⟨s, s1, s2, s3⟩ := lcs_ex _ a b (Nat.le_refl _)
    have h1 := s1.length_le
    have h2 := s2.length_le
    unfold dist at h
    rw [← s1.eq_of_length (by omega), ← s2.eq_of_length (by omega)]
  · rintro rfl; exact dist_self a
end Sh
end Go.Proofs.Ytlnjhacchnfbkaa
