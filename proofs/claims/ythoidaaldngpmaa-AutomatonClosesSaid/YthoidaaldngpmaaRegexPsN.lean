/-
  Items of classes, as plain mathematics. No conditions.
-/
import Derived.Test.YthoidaaldngpmaaRegexPsJ
import Derived.Lib.IndexMore
namespace Go.Proofs.Ythoidaaldngpmaa
open Go.RowKit
namespace Px
open Cm Rx
section
variable {l : List UInt8}
theorem index_two (b : UInt8) (t : List UInt8) : Lib.index (b :: t) [58, 93] = if b = 58 ∧ t[0]? = some 93 then 0 else if Lib.index t [58, 93] == -1 then -1 else Lib.index t [58, 93] + 1 := by
  conv => lhs; unfold Lib.index
  have h : ([58, 93] : List UInt8).isPrefixOf (b :: t) = decide (b = 58 ∧ t[0]? = some 93) := by
    cases t with
    | nil => simp [List.isPrefixOf]
    | cons c t =>
      simp only [List.isPrefixOf, List.getElem?_cons_zero, Option.some.injEq]
      rw [Bool.eq_iff_iff]
      simp only [Bool.and_eq_true, beq_iff_eq, decide_eq_true_eq, Bool.and_true]
      constructor
      · rintro ⟨h1, h2⟩; exact ⟨h1.symm, h2.symm⟩
      · rintro ⟨h1, h2⟩; exact ⟨h1.symm, h2.symm⟩
  rw [h]
  by_cases hc : b = 58 ∧ t[0]? = some 93
  · rw [if_pos hc, decide_eq_true hc]; rfl
  · rw [if_neg hc, decide_eq_false hc]; rfl
theorem nameEnd_index (f : Nat) : ∀ k, k ≤ l.length → l.length ≤ k + f → (∀ n : Nat, Lib.index (l.drop k) [58, 93] = n → nameEnd l f k = k + n ∧ k + n + 1 < l.length) ∧ (Lib.index (l.drop k) [58, 93] = -1 → l.length ≤ nameEnd l f k + 1) := by
  induction f with
  | zero =>
    intro k h1 h2
    have hk : k = l.length := by omega
    subst hk
    rw [List.drop_length]
    have hi : Lib.index ([] : List UInt8) [58, 93] = -1 := rfl
    rw [hi]
    exact ⟨fun n hn => by omega, fun _ => by unfold nameEnd; omega⟩
  | succ f ih =>
    intro k h1 h2
    by_cases hk : k = l.length
    · subst hk
      rw [List.drop_length]
      have hi : Lib.index ([] : List UInt8) [58, 93] = -1 := rfl
      rw [hi]
      refine ⟨fun n hn => by omega, fun _ => ?_⟩
      unfold nameEnd
      rw [if_neg (by omega)]
      omega
    · have hlt : k < l.length := by omega
      have hd : l.drop k = l[k] :: l.drop (k + 1) := List.drop_eq_getElem_cons hlt
      have hg : l[k]? = some l[k] := List.getElem?_eq_getElem hlt
      have h0 : (l.drop (k + 1))[0]? = l[k + 1]? := by rw [List.getElem?_drop]
      rw [hd, index_two, h0]
      by_cases hp : l[k] = 58 ∧ l[k + 1]? = some 93
      · rw [if_pos hp]
        have hl := get_lt hp.2
        refine ⟨fun n hn => ?_, fun hn => by omega⟩
        have : n = 0 := by omega
        subst this
        unfold nameEnd
        rw [if_neg (by rintro ⟨_, h3⟩; exact h3 ⟨by rw [hg, hp.1], hp.2⟩)]
        exact ⟨by omega, by omega⟩
      · rw [if_neg hp]
        by_cases hl : k + 1 < l.length
        · have hne : nameEnd l (f + 1) k = nameEnd l f (k + 1) := by
            conv => lhs; unfold nameEnd
            rw [if_pos ⟨hl, by rintro ⟨h3, h4⟩; rw [hg] at h3; exact hp ⟨Option.some.inj h3, h4⟩⟩]
          rw [hne]
          obtain ⟨i1, i2⟩ := ih (k + 1) (by omega) (by omega)
          have hge := Lib.index_ge (l.drop (k + 1)) [58, 93]
          by_cases hm : Lib.index (l.drop (k + 1)) [58, 93] = -1
          · rw [hm]
            refine ⟨fun n hn => ?_, fun _ => i2 hm⟩
            have : (-1 : Int) = n := hn
            omega
          · obtain ⟨m, hm2⟩ : ∃ m : Nat, Lib.index (l.drop (k + 1)) [58, 93] = m := ⟨(Lib.index (l.drop (k + 1)) [58, 93]).toNat, by omega⟩
            have h3 := i1 m hm2
            rw [hm2]
            have hb : (((m : Nat) : Int) == -1) = false := by rw [beq_eq_false_iff_ne]; omega
            rw [hb]
            refine ⟨fun n hn => ?_, fun hn => ?_⟩
            · have : (m : Int) + 1 = n := hn
              omega
            · have : (m : Int) + 1 = -1 := hn
              omega
        · have hnil : l.drop (k + 1) = [] := List.drop_eq_nil_of_le (by omega)
          rw [hnil]
          have hi : Lib.index ([] : List UInt8) [58, 93] = -1 := rfl
          rw [hi]
          refine ⟨fun n hn => ?_, fun _ => ?_⟩
          · have : (-1 : Int) = n := hn
            omega
          · unfold nameEnd
            rw [if_neg (by omega)]
            omega
/-- One item of a class: what it stands for, and where the next one begins. -/
def itemF (l : List UInt8) (a : Nat) : Option ((Nat → Bool) × Nat) :=
  match l[a]? with
  | none => none
  | some c =>
    if c = 91 ∧ l[a + 1]? = some 58 then
      match clsF ((l.drop (a + 2)).take (nameEnd l l.length (a + 2) - (a + 2))) with
      | none => none
      | some p => if l.length ≤ nameEnd l l.length (a + 2) + 1 then none else some (fun x => decide (x < 256) && p x, nameEnd l l.length (a + 2) + 2)
    else if l[a + 1]? = some 45 ∧ a + 2 < l.length ∧ l[a + 2]? ≠ some 93 then
      if (l[a + 2]?.getD 0) < c then none else some (fun x => decide (c.toNat ≤ x) && decide (x ≤ (l[a + 2]?.getD 0).toNat), a + 3)
    else some (fun x => x == c.toNat, a + 1)
theorem items_step (f : Nat) (first : Bool) (a : Nat) (m : Nat → Bool) : itemsF l (f + 1) first a m = if (!first && l[a]? == some 93) = true then some (m, a) else match itemF l a with | none => none | some (p, a2) => itemsF l f false a2 (fun x => m x || p x) := by
  conv => lhs; unfold itemsF
  by_cases h : (!first && l[a]? == some 93) = true
  · rw [if_pos h, if_pos h]
  · rw [if_neg h, if_neg h]
    unfold itemF
    cases hx : l[a]? with
    | none => rfl
    | some c =>
      simp only
      by_cases h1 : c = 91 ∧ l[a + 1]? = some 58
      · rw [if_pos h1, if_pos h1]
        cases hc : clsF ((l.drop (a + 2)).take (nameEnd l l.length (a + 2) - (a + 2))) with
        | none => rfl
        | some p =>
          simp only
          by_cases h2 : l.length ≤ nameEnd l l.length (a + 2) + 1
          · rw [if_pos h2, if_pos h2]
          · rw [if_neg h2, if_neg h2]
      · rw [if_neg h1, if_neg h1]
        by_cases h2 : l[a + 1]? = some 45 ∧ a + 2 < l.length ∧ l[a + 2]? ≠ some 93
        · rw [if_pos h2, if_pos h2]
          by_cases h3 : (l[a + 2]?.getD 0) < c
          · rw [if_pos h3, if_pos h3]
          · rw [if_neg h3, if_neg h3]
        · rw [if_neg h2, if_neg h2]
theorem item_adv {a : Nat} {p : Nat → Bool} {a2 : Nat} (h : itemF l a = some (p, a2)) : a < a2 ∧ a2 ≤ l.length := by
  unfold itemF at h
  cases hx : l[a]? with
  | none => rw [hx] at h; cases h
  | some c =>
    have hl := get_lt hx
    rw [hx] at h
    simp only at h
    by_cases h1 : c = 91 ∧ l[a + 1]? = some 58
    · rw [if_pos h1] at h
      cases hc : clsF ((l.drop (a + 2)).take (nameEnd l l.length (a + 2) - (a + 2))) with
      | none => rw [hc] at h; cases h
      | some q =>
        rw [hc] at h
        simp only at h
        by_cases h2 : l.length ≤ nameEnd l l.length (a + 2) + 1
        · rw [if_pos h2] at h; cases h
        · rw [if_neg h2] at h
          injection h with h
          injection h with _ h
          have := nameEnd_ge (l := l) l.length (a + 2)
          omega
    · rw [if_neg h1] at h
      by_cases h2 : l[a + 1]? = some 45 ∧ a + 2 < l.length ∧ l[a + 2]? ≠ some 93
      · rw [if_pos h2] at h
        by_cases h3 : (l[a + 2]?.getD 0) < c
        · rw [if_pos h3] at h; cases h
        · rw [if_neg h3] at h
          injection h with h
          injection h with _ h
          omega
      · rw [if_neg h2] at h
        injection h with h
        injection h with _ h
        omega
end
end Px
end Go.Proofs.Ythoidaaldngpmaa
