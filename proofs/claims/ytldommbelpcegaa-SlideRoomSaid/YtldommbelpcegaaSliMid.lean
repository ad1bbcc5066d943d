/-
  The lists between the first and the last step of Down and Up; scripts that fit. Plain mathematics, no conditions.
-/
import Derived.Test.YtldommbelpcegaaSliClone
namespace Go.Proofs.Ytldommbelpcegaa
open Go.RowKit
namespace Sl
open Cm Sc
open Classical in
theorem fits_iff {l : List Ch} {a b : List Int} : fitsB l a b = true ↔ inI a.length ∧ inI b.length ∧ FitL a b true 0 0 l := by
  constructor
  · intro h
    have h := of_decide_eq_true h
    obtain ⟨h1, h2, h3⟩ := chkF_zero h.1
    exact ⟨h1, h2, h3, h.2⟩
  · rintro ⟨h1, h2, h3, h4⟩
    exact fitsB_T (chkF_ok h1 h2 h3) h4
theorem fit_chN {l : List Ch} {a b : List Int} (h : FitL a b true 0 0 l) (h1 : a.length ≤ 4096) (h2 : b.length ≤ 4096) : ∀ c ∈ l, ChN c := ok_chN (show inI (a.length : Int) from ⟨by omega, by omega⟩) (show inI (b.length : Int) from ⟨by omega, by omega⟩) h.1
theorem chN_B {c : Ch} (h : ChN c) : ChB c := by
  obtain ⟨⟨a0, a1⟩, ⟨b0, b1⟩, ⟨c0, c1⟩, d0, d1⟩ := h
  exact ⟨⟨by omega, by omega⟩, ⟨by omega, by omega⟩, ⟨by omega, by omega⟩, ⟨by omega, by omega⟩⟩
theorem fit_true {l : List Ch} {a b : List Int} (h : FitL a b true 0 0 l) (h1 : a.length ≤ 4096) (h2 : b.length ≤ 4096) : fitsB l a b = true := fits_iff.2 ⟨⟨by omega, by omega⟩, ⟨by omega, by omega⟩, h⟩
theorem fit_few {l : List Ch} {a b : List Int} (h : FitL a b true 0 0 l) : l.length ≤ a.length + 1 := by
  have key : ∀ (l : List Ch) (f : Bool) (i j : Int), 0 ≤ i → FitL a b f i j l → (f = true → i = 0) → l = [] ∨ ((l.length : Int) + i ≤ a.length + (if f = true then 1 else 0)) := by
    intro l
    induction l with
    | nil => intro f i j _ _ _; exact .inl rfl
    | cons c l ih =>
      intro f i j hi hf h0
      obtain ⟨⟨⟨⟨a0, a1, a2⟩, ⟨b0, b1, b2⟩, ne⟩, h2, h3⟩, h4, h5⟩ := fit_cons.1 hf
      right
      have hp := fit_pos hf
      have hx : (if f = true then (1 : Int) else 0) + c.old - i ≥ 1 := by
        cases f with
        | true => have := h0 rfl; simp; omega
        | false => have := h3 rfl; simp; omega
      rcases ih false _ _ hp.1 h5 (fun h => by cases h) with rfl | h6
      · simp only [List.length_cons, List.length_nil]
        omega
      · simp only [Bool.false_eq_true, if_false] at h6
        simp only [List.length_cons]
        omega
  rcases key l true 0 0 (Int.le_refl _) h (fun _ => rfl) with rfl | h
  · simp
  · simp at h; omega
def midD (a b : List Int) (l : List Ch) (k : Nat) : List Ch := l.take k ++ downF a b a.length (l.drop k)
theorem midD_len (a b : List Int) {l : List Ch} {k : Nat} (h : k ≤ l.length) : (midD a b l k).length = l.length := by
  unfold midD
  rw [List.length_append, downF_len, List.length_take, List.length_drop]
  omega
theorem midD_all (a b : List Int) (l : List Ch) : midD a b l l.length = l := by
  unfold midD
  rw [List.take_length, List.drop_length]
  simp [downF]
theorem midD_zero (a b : List Int) (l : List Ch) : midD a b l 0 = downF a b a.length l := rfl
theorem midD_fit {a b : List Int} {l : List Ch} (h : FitL a b true 0 0 l) (k : Nat) : FitL a b true 0 0 (midD a b l k) := fit_mid k l true 0 0 h
theorem midD_drop (a b : List Int) {l : List Ch} {p : Nat} (h : p < l.length) : (midD a b l (p + 1)).drop (p + 1) = downF a b a.length (l.drop (p + 1)) := by
  unfold midD
  rw [List.drop_append, List.drop_eq_nil_of_le (by rw [List.length_take]; omega), List.nil_append, List.length_take, show p + 1 - min (p + 1) l.length = 0 from by omega]
  rfl
theorem midD_get (a b : List Int) {l : List Ch} {p : Nat} (h : p < l.length) (h' : p < (midD a b l (p + 1)).length) : (midD a b l (p + 1))[p] = l[p] := by
  have e : (midD a b l (p + 1))[p]? = some l[p] := by
    unfold midD
    rw [List.getElem?_append_left (by rw [List.length_take]; omega), List.getElem?_take, if_pos (Nat.lt_succ_self p), List.getElem?_eq_getElem h]
  rw [List.getElem?_eq_getElem h'] at e
  exact Option.some.inj e
theorem midD_step (a b : List Int) {l : List Ch} {p : Nat} (h : p < l.length) : (midD a b l (p + 1)).set p (sh l[p] (dnR a b l[p] (lowD a.length ((midD a b l (p + 1)).drop (p + 1)) l[p]) : Nat)) = midD a b l p := by
  rw [midD_drop a b h]
  unfold midD
  rw [List.set_append_left _ _ (by rw [List.length_take]; omega)]
  have e : l.drop p = l[p] :: l.drop (p + 1) := List.drop_eq_getElem_cons h
  rw [e]
  simp only [downF]
  have e2 : l.take (p + 1) = l.take p ++ [l[p]] := by rw [List.take_succ_eq_append_getElem h]
  rw [e2, List.set_append_right _ _ (by rw [List.length_take]; omega), List.length_take, show p - min p l.length = 0 from by omega]
  simp
def midU (a b : List Int) (l : List Ch) (k : Nat) : List Ch := (upF a b 0 l).take k ++ l.drop k
theorem midU_len (a b : List Int) {l : List Ch} {k : Nat} (h : k ≤ l.length) : (midU a b l k).length = l.length := by
  unfold midU
  rw [List.length_append, List.length_take, List.length_drop, upF_len]
  omega
theorem midU_zero (a b : List Int) (l : List Ch) : midU a b l 0 = l := rfl
theorem midU_all (a b : List Int) (l : List Ch) : midU a b l l.length = upF a b 0 l := by
  unfold midU
  rw [List.drop_length, List.append_nil, List.take_of_length_le (by rw [upF_len]; omega)]
theorem midU_fit {a b : List Int} {l : List Ch} (h : FitL a b true 0 0 l) (k : Nat) : FitL a b true 0 0 (midU a b l k) := fit_midU k l true 0 0 (Int.le_refl _) (Int.le_refl _) h
def firK (first : Int) (Y : List Ch) : Nat → Int
  | 0 => first
  | k + 1 => (Y.getD k ⟨0, 0, 0, 0⟩).old + (Y.getD k ⟨0, 0, 0, 0⟩).oldLen + 1
theorem upF_get (a b : List Int) : ∀ (l : List Ch) (first : Int) (k : Nat) (h : k < l.length) (h' : k < (upF a b first l).length), (upF a b first l)[k] = sh l[k] (-(upR a b l[k] (l[k].old - firK first (upF a b first l) k).toNat : Nat))
  | [], _, k, h, _ => absurd h (Nat.not_lt_zero _)
  | c :: l, first, 0, _, _ => rfl
  | c :: l, first, k + 1, h, h' => by
    have ih := upF_get a b l (c.old - (upR a b c (c.old - first).toNat : Nat) + c.oldLen + 1) k (by simpa using h) (by rw [upF_len]; simpa using h)
    have e : firK first (upF a b first (c :: l)) (k + 1) = firK (c.old - (upR a b c (c.old - first).toNat : Nat) + c.oldLen + 1) (upF a b (c.old - (upR a b c (c.old - first).toNat : Nat) + c.oldLen + 1) l) k := by
      cases k with
      | zero => simp only [firK, upF, List.getD_cons_zero, sh]; omega
      | succ q => simp only [firK, upF, List.getD_cons_succ]
    rw [e]
    simp only [upF, List.getElem_cons_succ]
    exact ih
theorem midU_pr (a b : List Int) {l : List Ch} {k : Nat} (h : k < l.length) : prE (midU a b l k) k = firK 0 (upF a b 0 l) k := by
  cases k with
  | zero => rfl
  | succ q =>
    simp only [prE, firK]
    have e : (midU a b l (q + 1)).getD q ⟨0, 0, 0, 0⟩ = (upF a b 0 l).getD q ⟨0, 0, 0, 0⟩ := by
      unfold midU
      have hq : q < (upF a b 0 l).length := by rw [upF_len]; omega
      rw [List.getD_eq_getElem?_getD, List.getD_eq_getElem?_getD, List.getElem?_append_left (by rw [List.length_take]; omega), List.getElem?_take, if_pos (Nat.lt_succ_self q)]
    rw [e]
theorem midU_get (a b : List Int) {l : List Ch} {k : Nat} (h : k < l.length) (h' : k < (midU a b l k).length) : (midU a b l k)[k] = l[k] := by
  have e : (midU a b l k)[k]? = some l[k] := by
    unfold midU
    have hq : k ≤ (upF a b 0 l).length := by rw [upF_len]; omega
    rw [List.getElem?_append_right (by rw [List.length_take]; omega), List.getElem?_drop, List.length_take, show k + (k - min k (upF a b 0 l).length) = k from by omega, List.getElem?_eq_getElem h]
  rw [List.getElem?_eq_getElem h'] at e
  exact Option.some.inj e
theorem midU_step (a b : List Int) {l : List Ch} {k : Nat} (h : k < l.length) : (midU a b l k).set k (sh l[k] (-(upR a b l[k] (l[k].old - prE (midU a b l k) k).toNat : Nat))) = midU a b l (k + 1) := by
  rw [midU_pr a b h]
  have hk : k < (upF a b 0 l).length := by rw [upF_len]; exact h
  have g := upF_get a b l 0 k h hk
  rw [← g]
  unfold midU
  have e2 : (upF a b 0 l).take (k + 1) = (upF a b 0 l).take k ++ [(upF a b 0 l)[k]] := by rw [List.take_succ_eq_append_getElem hk]
  rw [e2, List.set_append_right _ _ (by rw [List.length_take]; omega), List.length_take, show k - min k (upF a b 0 l).length = 0 from by omega, List.drop_eq_getElem_cons h, List.append_assoc]
  rfl
end Sl
end Go.Proofs.Ytldommbelpcegaa
