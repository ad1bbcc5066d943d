/-
  Patterns of single bytes, one behind the other: their language, their weight, and both reversed. Plain mathematics, no conditions.
-/
import Derived.Test.YtgadomcbaenodaaAutoW
import Derived.Test.YtgadomcbaenodaaSeaLong
import Derived.Test.YtgadomcbaenodaaRegexGen
namespace Go.Proofs.Ytgadomcbaenodaa
namespace Rv
open Rx Au Th Se
abbrev Gs := List (Nat → Bool)
def oneN (g : Nat → Bool) : Nd := ⟨1, g, 0, 0, []⟩
def catN (n : Nat) : Nd := ⟨4, fun _ => false, 0, 0, upTo n⟩
def rowN (gs : Gs) : List Nd := gs.map oneN ++ [catN gs.length]
theorem rowN_len (gs : Gs) : (rowN gs).length = gs.length + 1 := by simp [rowN]
theorem rowN_set (gs : Gs) {k : Nat} (hk : k < gs.length) (h : k < (rowN gs).length) : (rowN gs)[k] = oneN gs[k] := by
  have e : rowN gs = gs.map oneN ++ [catN gs.length] := rfl
  rw [List.getElem_of_eq e h, List.getElem_append_left (by simpa using hk)]
  simp
theorem rowN_cat (gs : Gs) (h : gs.length < (rowN gs).length) : (rowN gs)[gs.length] = catN gs.length := by
  have e : rowN gs = gs.map oneN ++ [catN gs.length] := rfl
  rw [List.getElem_of_eq e h, List.getElem_append_right (by simp)]
  simp
theorem upTo_len (n : Nat) : (upTo n).length = n := by simp [upTo]
theorem upTo_mem {n : Nat} {k : Int} (h : k ∈ upTo n) : 0 ≤ k ∧ k < (n : Int) := by
  unfold upTo at h
  obtain ⟨j, hj, rfl⟩ := List.mem_map.1 h
  have := List.mem_range.1 hj
  omega
theorem row_valid (gs : Gs) (h2 : 2 ≤ gs.length) (h5 : gs.length ≤ 100) : Valid (rowN gs) := by
  refine ⟨by rw [rowN_len]; omega, by rw [rowN_len]; omega, fun k hk => ?_⟩
  have hl := rowN_len gs
  by_cases hks : k < gs.length
  · rw [rowN_set gs hks]
    refine ⟨fun x hx => (by cases hx), (fine_iff _).2 ?_⟩
    unfold FineP oneN
    exact .inr (.inr ⟨show (1 : Int) ≠ 6 by decide, show (1 : Int) ≠ 4 by decide, show (1 : Int) ≠ 5 by decide, rfl, show (0 : Int) ≤ 1 by decide, show (1 : Int) ≤ 6 by decide⟩)
  · obtain rfl : k = gs.length := by omega
    rw [rowN_cat]
    refine ⟨fun x hx => upTo_mem hx, (fine_iff _).2 ?_⟩
    unfold FineP catN
    exact .inr (.inl ⟨.inl rfl, by simp only [upTo_len]; exact h2⟩)
theorem sumW_one (ws : List Int) : ∀ l : List Int, (∀ k ∈ l, ws.getD k.toNat 0 = 1) → sumW ws l = l.length
  | [], _ => rfl
  | k :: r, h => by
    have h1 := h k (by simp)
    have h2 := sumW_one ws r (fun x hx => h x (List.mem_cons_of_mem _ hx))
    simp only [sumW, h1, h2, List.length_cons]
    omega
open Classical in
theorem row_code (gs : Gs) (h2 : 2 ≤ gs.length) (h5 : gs.length ≤ 100) : codeB (rowN gs) = 0 := by
  have hv := row_valid gs h2 h5
  have hl := rowN_len gs
  unfold codeB
  rw [if_pos hv]
  have e : weightR (rowN gs) = weightF (rowN gs) := by unfold weightR; rw [check_T hv, if_pos rfl]
  have e2 : weightF (rowN gs) = min ((bigW (rowN gs)).getD ((rowN gs).length - 1) 0) 4001 := cap_at hv.2.2 ((rowN gs).length - 1) (by omega)
  have hset : ∀ k, k < gs.length → (bigW (rowN gs)).getD k 0 = 1 := fun k hk => by
    unfold bigW
    rw [tabG_at (by omega), rowN_set gs hk]
    unfold oneN weighF
    simp
  have hcat : (bigW (rowN gs)).getD gs.length 0 = gs.length := by
    unfold bigW
    rw [tabG_at (by omega), rowN_cat]
    have hs : sumW (tabG (fun ws n => weighF n (sumW ws n.kids)) ((rowN gs).take gs.length)) (upTo gs.length) = ((upTo gs.length).length : Int) := by
      refine sumW_one _ _ fun k hk => ?_
      obtain ⟨k0, k1⟩ := upTo_mem hk
      have := hset k.toNat (by omega)
      unfold bigW at this
      rw [tabG_kid (by omega) (by omega), this]
    have hw : ∀ S, weighF (catN gs.length) S = S := fun S => by unfold weighF catN; simp
    rw [hw]
    show sumW _ (upTo gs.length) = _
    rw [hs, upTo_len]
  rw [show (rowN gs).length - 1 = gs.length from by omega, hcat] at e2
  rw [if_neg (by rw [e, e2]; omega)]
/-- Do the bytes lie in the sets, one by one? -/
def Fits (bs : List UInt8) (gs : Gs) : Prop := ∀ i (h : i < gs.length), ∃ c, bs[i]? = some c ∧ gs[i] c.toNat = true
def catT (bs : List UInt8) (gs : Gs) : Tb := gs.foldl (fun t g => compB bs.length t (setB bs g)) (emptyB true)
theorem catT_iff (bs : List UInt8) : ∀ (m : Nat) (gs : Gs), gs.length = m → gs.length ≤ bs.length → ∀ e, catT bs gs 0 e = true ↔ e = gs.length ∧ Fits bs gs := by
  intro m
  induction m with
  | zero =>
    intro gs hg hb e
    obtain rfl := List.eq_nil_of_length_eq_zero hg
    unfold catT emptyB
    simp only [List.foldl_nil, Bool.true_and, beq_iff_eq, List.length_nil]
    exact ⟨fun h => ⟨h.symm, fun i h => absurd h (Nat.not_lt_zero _)⟩, fun h => h.1.symm⟩
  | succ m ih =>
    intro gs hg hb e
    obtain ⟨xs, x, rfl⟩ : ∃ xs x, gs = xs ++ [x] := by
      refine ⟨gs.dropLast, gs.getLast (fun h => by rw [h] at hg; cases hg), ?_⟩
      rw [List.dropLast_concat_getLast]
    have hx : xs.length = m := by simpa using hg
    have hb2 : xs.length + 1 ≤ bs.length := by simpa using hb
    have hi := ih xs hx (by omega)
    have e1 : catT bs (xs ++ [x]) = compB bs.length (catT bs xs) (setB bs x) := by unfold catT; rw [List.foldl_append]; rfl
    rw [e1]
    unfold compB setB
    simp only [List.any_eq_true, List.mem_range, Bool.and_eq_true, decide_eq_true_eq, beq_iff_eq, List.length_append, List.length_singleton]
    constructor
    · rintro ⟨k, hk, ⟨_, h1⟩, _, h2, h3⟩
      obtain ⟨rfl, hf⟩ := (hi k).1 h1
      refine ⟨h2, fun i hi2 => ?_⟩
      rw [List.length_append, List.length_singleton] at hi2
      by_cases hlt : i < xs.length
      · rw [List.getElem_append_left hlt]
        exact hf i hlt
      · obtain rfl : i = xs.length := by omega
        have hlast : (xs ++ [x])[xs.length]'(by simp) = x := by simp
        rw [hlast]
        cases hc : bs[xs.length]? with
        | none => rw [hc] at h3; cases h3
        | some c => rw [hc] at h3; exact ⟨c, rfl, h3⟩
    · rintro ⟨rfl, hf⟩
      refine ⟨xs.length, by omega, ⟨Nat.zero_le _, (hi xs.length).2 ⟨rfl, fun i h => ?_⟩⟩, by omega, rfl, ?_⟩
      · have := hf i (by rw [List.length_append]; omega)
        rw [List.getElem_append_left h] at this
        exact this
      · obtain ⟨c, hc, h3⟩ := hf xs.length (by simp)
        have hlast : (xs ++ [x])[xs.length]'(by simp) = x := by simp
        rw [hlast] at h3
        rw [hc]
        exact h3
theorem foldl_map_eq (bs : List UInt8) (all : List Tb) (gs : Gs) (h : ∀ k (hk : k < gs.length), getB all (k : Int) = setB bs gs[k]) : (upTo gs.length).foldl (fun t k => compB bs.length t (getB all k)) (emptyB true) = catT bs gs := by
  have e : ∀ n, n ≤ gs.length → (upTo n).foldl (fun t k => compB bs.length t (getB all k)) (emptyB true) = catT bs (gs.take n) := by
    intro n
    induction n with
    | zero => intro _; rfl
    | succ n ih =>
      intro hn
      have e1 : upTo (n + 1) = upTo n ++ [(n : Int)] := by unfold upTo; rw [List.range_succ]; simp
      rw [e1, List.foldl_append, ih (by omega), List.take_succ_eq_append_getElem (show n < gs.length by omega)]
      unfold catT
      rw [List.foldl_append]
      simp only [List.foldl_cons, List.foldl_nil]
      rw [h n (by omega)]
  have := e gs.length (Nat.le_refl _)
  rw [List.take_length] at this
  exact this
theorem row_lang (bs : List UInt8) (gs : Gs) (hb : gs.length ≤ bs.length) (e : Nat) : getB (langsB bs (rowN gs)) (gs.length : Int) 0 e = true ↔ e = gs.length ∧ Fits bs gs := by
  have hl := rowN_len gs
  have hset : ∀ k (hk : k < gs.length), getB (tabG (nodeB bs) ((rowN gs).take gs.length)) (k : Int) = setB bs gs[k] := fun k hk => by
    unfold getB
    rw [Int.toNat_natCast, tabG_kid (by omega) hk, tabG_at (by omega), rowN_set gs hk]
    unfold nodeB oneN
    simp
  have e1 : getB (langsB bs (rowN gs)) (gs.length : Int) = catT bs gs := by
    unfold getB langsB
    rw [Int.toNat_natCast, tabG_at (by omega), rowN_cat]
    unfold nodeB catN
    simp only [show ¬ ((4 : Int) = 1) from by decide, show ¬ ((4 : Int) = 2) from by decide, show ¬ ((4 : Int) = 3) from by decide, if_false, if_true]
    exact foldl_map_eq bs _ gs hset
  rw [e1]
  exact catT_iff bs gs.length gs rfl hb e
theorem fits_rev {bs : List UInt8} {gs : Gs} (hl : bs.length = gs.length) (h : Fits bs gs) : Fits bs.reverse gs.reverse := fun i hi => by
  rw [List.length_reverse] at hi
  obtain ⟨c, hc, hg⟩ := h (gs.length - 1 - i) (by omega)
  refine ⟨c, ?_, ?_⟩
  · rw [List.getElem?_reverse (by omega), hl]
    exact hc
  · rw [List.getElem_reverse]
    exact hg
theorem fits_iff {bs : List UInt8} {gs : Gs} (hl : bs.length = gs.length) : Fits bs gs ↔ Fits bs.reverse gs.reverse := by
  refine ⟨fits_rev hl, fun h => ?_⟩
  have := fits_rev (bs := bs.reverse) (gs := gs.reverse) (by simpa using hl) h
  simpa using this
open Classical in
/-- A whole match of the row. -/
theorem whole_row {bs : List UInt8} {gs : Gs} {ss : List St} {st : Nat} (hl : bs.length = gs.length) (hacc : ∀ i e, Run ss bs i st e ↔ e ≤ bs.length ∧ getB (langsB bs (rowN gs)) (((rowN gs).length - 1 : Nat) : Int) i e = true) :
    decide (bestF ss st bs 0 = some bs.length) = decide (Fits bs gs) := by
  rw [rowN_len, Nat.add_sub_cancel] at hacc
  rw [decide_eq_decide, bestF_some]
  constructor
  · rintro ⟨h, _⟩
    exact ((row_lang bs gs (by omega) _).1 ((hacc 0 _).1 h).2).2
  · intro h
    refine ⟨(hacc 0 _).2 ⟨Nat.le_refl _, (row_lang bs gs (by omega) _).2 ⟨hl, h⟩⟩, fun e he => he.le.2⟩
end Rv
end Go.Proofs.Ytgadomcbaenodaa
