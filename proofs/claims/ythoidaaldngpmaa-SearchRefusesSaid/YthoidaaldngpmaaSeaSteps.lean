/-
  Layer 6: the steps of an automaton by the states to which they lead, as lists of the last one and of the one before. No program. No conditions.
-/
import Derived.Test.YthoidaaldngpmaaSeaMath
namespace Go.Proofs.Ythoidaaldngpmaa
namespace Se
open Cm Rx Au
/-- The greatest number below k that has a property, or -1. -/
def prevS (p : Nat → Bool) : Nat → Int
  | 0 => -1
  | k + 1 => if p k = true then (k : Int) else prevS p k
theorem prevS_lt (p : Nat → Bool) : ∀ k, prevS p k < (k : Int)
  | 0 => by show (-1 : Int) < 0; omega
  | k + 1 => by
    have := prevS_lt p k
    unfold prevS
    by_cases h : p k = true
    · rw [if_pos h]; omega
    · rw [if_neg h]; omega
theorem prevS_ge (p : Nat → Bool) : ∀ k, -1 ≤ prevS p k
  | 0 => Int.le_refl _
  | k + 1 => by
    have := prevS_ge p k
    unfold prevS
    by_cases h : p k = true
    · rw [if_pos h]; omega
    · rw [if_neg h]; omega
theorem prevS_hit {p : Nat → Bool} {t : Nat} : ∀ {k}, prevS p k = (t : Int) → p t = true ∧ t < k
  | 0, h => by have h : (-1 : Int) = (t : Int) := h; omega
  | k + 1, h => by
    unfold prevS at h
    by_cases hp : p k = true
    · rw [if_pos hp] at h
      obtain rfl : k = t := by omega
      exact ⟨hp, by omega⟩
    · rw [if_neg hp] at h
      have := prevS_hit h
      exact ⟨this.1, by omega⟩
theorem prevS_out {p : Nat → Bool} {t : Nat} : ∀ {k}, t < k → prevS p k < (t : Int) → p t = false
  | 0, h, _ => by omega
  | k + 1, h, h2 => by
    unfold prevS at h2
    by_cases hp : p k = true
    · rw [if_pos hp] at h2; omega
    · rw [if_neg hp] at h2
      by_cases e : t = k
      · subst e; simpa using hp
      · exact prevS_out (by omega) h2
/-- For each state the last of the first m steps to it. -/
def lastF (X : Nat → Nat → Bool) (n m : Nat) : List Int := (List.range n).map fun q => prevS (X q) m
/-- For each of the first m steps the one to the same state before it. -/
def befF (X : Nat → Nat → Bool) (T : Nat → Nat) (n m : Nat) : List Int := (List.range (2 * n)).map fun t => if t < m ∧ X (T t) t = true then prevS (X (T t)) t else 0
theorem lastF_len (X : Nat → Nat → Bool) (n m : Nat) : (lastF X n m).length = n := by simp [lastF]
theorem befF_len (X : Nat → Nat → Bool) (T : Nat → Nat) (n m : Nat) : (befF X T n m).length = 2 * n := by simp [befF]
theorem lastF_get {X : Nat → Nat → Bool} {n m q : Nat} (h : q < n) : (lastF X n m)[q]'(by rw [lastF_len]; exact h) = prevS (X q) m := by simp [lastF]
theorem befF_get {X : Nat → Nat → Bool} {T : Nat → Nat} {n m t : Nat} (h : t < 2 * n) (hm : t < m) (hx : X (T t) t = true) : (befF X T n m)[t]'(by rw [befF_len]; exact h) = prevS (X (T t)) t := by
  simp [befF, hm, hx]
theorem lastF_zero (X : Nat → Nat → Bool) (n : Nat) : lastF X n 0 = List.replicate n (-1) := by
  refine List.ext_getElem (by simp [lastF]) fun i h1 h2 => ?_
  simp [lastF, prevS]
theorem befF_zero (X : Nat → Nat → Bool) (T : Nat → Nat) (n : Nat) : befF X T n 0 = List.replicate (2 * n) 0 := by
  refine List.ext_getElem (by simp [befF]) fun i h1 h2 => ?_
  simp [befF]
theorem lastF_no {X : Nat → Nat → Bool} {n m : Nat} (h : ∀ q, X q m = false) : lastF X n (m + 1) = lastF X n m := by
  refine List.ext_getElem (by simp [lastF]) fun i h1 h2 => ?_
  simp [lastF, prevS, h i]
theorem befF_no {X : Nat → Nat → Bool} {T : Nat → Nat} {n m : Nat} (h : ∀ q, X q m = false) : befF X T n (m + 1) = befF X T n m := by
  refine List.ext_getElem (by simp [befF]) fun i h1 h2 => ?_
  simp only [befF, List.getElem_map, List.getElem_range]
  by_cases e : i = m
  · subst e; simp [h]
  · by_cases hi : i < m
    · simp [hi, show i < m + 1 by omega]
    · simp [hi, show ¬ i < m + 1 by omega]
theorem lastF_yes {X : Nat → Nat → Bool} {n m r : Nat} (h : X r m = true) (hu : ∀ q, X q m = true → q = r) : (lastF X n m).set r (m : Int) = lastF X n (m + 1) := by
  refine List.ext_getElem (by simp [lastF]) fun i h1 h2 => ?_
  rw [List.getElem_set]
  simp only [lastF, List.getElem_map, List.getElem_range]
  by_cases e : r = i
  · subst e; rw [if_pos rfl]; simp [prevS, h]
  · rw [if_neg e]
    have : X i m = false := by
      cases hx : X i m with
      | false => rfl
      | true => exact absurd (hu i hx).symm e
    simp [prevS, this]
theorem befF_yes {X : Nat → Nat → Bool} {T : Nat → Nat} {n m r : Nat} (hT : T m = r) (h : X r m = true) : (befF X T n m).set m (prevS (X r) m) = befF X T n (m + 1) := by
  refine List.ext_getElem (by simp [befF]) fun i h1 h2 => ?_
  rw [List.getElem_set]
  simp only [befF, List.getElem_map, List.getElem_range]
  by_cases e : m = i
  · subst e; rw [if_pos rfl, hT]; simp [h]
  · rw [if_neg e]
    by_cases hi : i < m
    · simp [hi, show i < m + 1 by omega]
    · simp [hi, show ¬ i < m + 1 by omega]
/-- Where a step leads: step 2 q is the first one of the state q, step 2 q + 1 the second. -/
def tgtF (ss : List St) (t : Nat) : Nat := match ss[t / 2]? with | some s => if t % 2 = 0 then s.next.toNat else s.other.toNat | none => 0
def freeX (ss : List St) (r t : Nat) : Bool := match ss[t / 2]? with | some s => if t % 2 = 0 then (s.kind == 1 || s.kind == 2 || s.kind == 3) && s.next.toNat == r else s.kind == 1 && s.other.toNat == r | none => false
def readX (ss : List St) (r t : Nat) : Bool := match ss[t / 2]? with | some s => if t % 2 = 0 then s.kind == 0 && s.next.toNat == r else false | none => false
/-- Is a state that reads nothing passed at an offset? -/
def passX (s : St) (n i : Nat) : Bool := if s.kind = 2 then decide (i = 0) else if s.kind = 3 then decide (i = n) else true
theorem freeX_tgt {ss : List St} {r t : Nat} (h : freeX ss r t = true) : r = tgtF ss t := by
  unfold freeX at h
  unfold tgtF
  cases e : ss[t / 2]? with
  | none => rw [e] at h; cases h
  | some s =>
    rw [e] at h
    by_cases hm : t % 2 = 0
    · simp [hm] at h ⊢; exact h.2.symm
    · simp [hm] at h ⊢; exact h.2.symm
theorem readX_tgt {ss : List St} {r t : Nat} (h : readX ss r t = true) : r = tgtF ss t := by
  unfold readX at h
  unfold tgtF
  cases e : ss[t / 2]? with
  | none => rw [e] at h; cases h
  | some s =>
    rw [e] at h
    by_cases hm : t % 2 = 0
    · simp [hm] at h ⊢; exact h.2.symm
    · simp [hm] at h
theorem free_iff {ss : List St} {n i q r : Nat} : Free ss n i q r ↔ ∃ t, t / 2 = q ∧ freeX ss r t = true ∧ ∃ h : q < ss.length, passX ss[q] n i = true := by
  constructor
  · rintro ⟨hq, ⟨hp, hr⟩ | ⟨hk, hr⟩⟩
    · refine ⟨2 * q, by omega, ?_, hq, ?_⟩
      · unfold freeX
        rw [show 2 * q / 2 = q by omega, List.getElem?_eq_getElem hq]
        simp only [show 2 * q % 2 = 0 by omega, if_true, hr, beq_self_eq_true, Bool.and_true]
        unfold passS at hp
        simp only [Bool.or_eq_true, Bool.and_eq_true] at hp ⊢
        rcases hp with h | ⟨h, _⟩ | ⟨h, _⟩
        · exact .inl (.inl h)
        · exact .inl (.inr h)
        · exact .inr h
      · unfold passS at hp
        unfold passX
        simp only [Bool.or_eq_true, Bool.and_eq_true, beq_iff_eq] at hp
        rcases hp with h | ⟨h, h2⟩ | ⟨h, h2⟩
        · simp [h]
        · simpa [h] using h2
        · simpa [h] using h2
    · refine ⟨2 * q + 1, by omega, ?_, hq, by unfold passX; simp [hk]⟩
      unfold freeX
      rw [show (2 * q + 1) / 2 = q by omega, List.getElem?_eq_getElem hq]
      simp [show (2 * q + 1) % 2 = 1 by omega, hr, hk]
  · rintro ⟨t, rfl, hf, hq, hp⟩
    unfold freeX at hf
    rw [List.getElem?_eq_getElem hq] at hf
    refine ⟨hq, ?_⟩
    by_cases hm : t % 2 = 0
    · simp only [hm, if_true, Bool.and_eq_true, Bool.or_eq_true, beq_iff_eq] at hf
      refine .inl ⟨?_, hf.2⟩
      unfold passX at hp
      unfold passS
      rcases hf.1 with (h | h) | h
      · simp [h]
      · simpa [h] using hp
      · simpa [h] using hp
    · simp only [hm, if_false, Bool.and_eq_true, beq_iff_eq] at hf
      exact .inr ⟨hf.1, hf.2⟩
theorem readX_iff {ss : List St} {r t : Nat} : readX ss r t = true ↔ t % 2 = 0 ∧ ∃ h : t / 2 < ss.length, ss[t / 2].kind = 0 ∧ ss[t / 2].next.toNat = r := by
  unfold readX
  constructor
  · intro h
    cases e : ss[t / 2]? with
    | none => rw [e] at h; cases h
    | some s =>
      rw [e] at h
      obtain ⟨h1, h2⟩ := List.getElem?_eq_some_iff.1 e
      by_cases hm : t % 2 = 0
      · simp [hm] at h
        exact ⟨hm, h1, by rw [h2]; exact h.1, by rw [h2]; exact h.2⟩
      · simp [hm] at h
  · rintro ⟨hm, h1, hk, hr⟩
    rw [List.getElem?_eq_getElem h1]
    simp [hm, hk, hr]
end Se
end Go.Proofs.Ythoidaaldngpmaa
