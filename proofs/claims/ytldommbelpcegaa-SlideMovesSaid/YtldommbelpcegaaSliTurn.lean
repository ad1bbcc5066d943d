/-
  Moving changes upside down and in the other direction of the comparison. Plain mathematics, no conditions.
-/
import Derived.Test.YtldommbelpcegaaSliMath
namespace Go.Proofs.Ytldommbelpcegaa
namespace Sl
open Sc
def tn (m n : Int) (c : Ch) : Ch := ⟨m - c.old - c.oldLen, c.oldLen, n - c.new - c.newLen, c.newLen⟩
def turnL (m n : Int) (l : List Ch) : List Ch := (l.map (tn m n)).reverse
theorem turn_cons (m n : Int) (c : Ch) (l : List Ch) : turnL m n (c :: l) = turnL m n l ++ [tn m n c] := by simp [turnL]
theorem turn_len (m n : Int) (l : List Ch) : (turnL m n l).length = l.length := by simp [turnL]
theorem gI_rev (a : List Int) (i : Int) (h0 : 0 ≤ i) (h1 : i < a.length) : gI a.reverse i = gI a (a.length - 1 - i) := by
  unfold gI
  rw [List.getD_eq_getElem?_getD, List.getD_eq_getElem?_getD, List.getElem?_reverse (by omega)]
  rw [show a.length - 1 - i.toNat = ((a.length : Int) - 1 - i).toNat from by omega]
theorem runE_rev {a b : List Int} {i j k : Int} (hi : 0 ≤ i) (hj : 0 ≤ j) (him : i + k ≤ a.length) (hjn : j + k ≤ b.length) (h : RunE a b i j k) : RunE a.reverse b.reverse (a.length - (i + k)) (b.length - (j + k)) k := by
  intro t h0 h1
  rw [gI_rev a _ (by omega) (by omega), gI_rev b _ (by omega) (by omega)]
  have := h (k - 1 - t) (by omega) (by omega)
  rw [show (a.length : Int) - 1 - (a.length - (i + k) + t) = i + (k - 1 - t) from by omega, show (b.length : Int) - 1 - (b.length - (j + k) + t) = j + (k - 1 - t) from by omega]
  exact this
def AccT (a b : List Int) (f : Bool) (i j : Int) (acc : List Ch) : Prop :=
  (f = true ∧ acc = [] ∧ i = 0 ∧ j = 0) ∨ (f = false ∧ ∃ y acc', acc = y :: acc' ∧ y.old = a.length - i ∧ y.new = b.length - j ∧ FitL a.reverse b.reverse true (a.length - i) (b.length - j) acc)
theorem acc_more {a b : List Int} {f f' : Bool} {i j k : Int} {acc : List Ch} (hi : 0 ≤ i) (hj : 0 ≤ j) (hf : f = false → f' = false → 1 ≤ k) (him : i + k ≤ a.length) (hjn : j + k ≤ b.length) (h : RunE a b i j k) (ha : AccT a b f i j acc) : FitL a.reverse b.reverse f' (a.length - (i + k)) (b.length - (j + k)) acc := by
  have hr := runE_rev hi hj him hjn h
  rcases ha with ⟨rfl, rfl, rfl, rfl⟩ | ⟨rfl, y, acc', rfl, e1, e2, h2⟩
  · refine fit_nil.2 ⟨by rw [List.length_reverse, List.length_reverse]; omega, ?_⟩
    rw [List.length_reverse, show (a.length : Int) - (a.length - (0 + k)) = k from by omega]
    exact hr
  · obtain ⟨⟨h3, h4, _⟩, h5, h6⟩ := fit_cons.1 h2
    refine fit_cons.2 ⟨⟨h3, by omega, fun h => ?_⟩, ?_, h6⟩
    · have := hf rfl h; omega
    · rw [e1, show (a.length : Int) - i - (a.length - (i + k)) = k from by omega]
      exact hr
theorem fit_turn {a b : List Int} : ∀ (l : List Ch) (f : Bool) (i j : Int) (acc : List Ch), 0 ≤ i → 0 ≤ j → i ≤ a.length → j ≤ b.length → (f = true → i = 0) → FitL a b f i j l → AccT a b f i j acc → FitL a.reverse b.reverse true 0 0 (turnL a.length b.length l ++ acc)
  | [], f, i, j, acc, hi, hj, him, hjn, _, h, ha => by
    obtain ⟨h1, h2⟩ := fit_nil.1 h
    have := acc_more (f' := true) (k := a.length - i) hi hj (fun _ h => by cases h) (by omega) (by omega) h2 ha
    rw [show (a.length : Int) - (i + (a.length - i)) = 0 from by omega, show (b.length : Int) - (j + (a.length - i)) = 0 from by omega] at this
    exact this
  | c :: l, f, i, j, acc, hi, hj, him, hjn, hf, h, ha => by
    obtain ⟨⟨⟨⟨a0, a1, a2⟩, ⟨b0, b1, b2⟩, ne⟩, h2, h3⟩, h4, h5⟩ := fit_cons.1 h
    have hge : i ≤ c.old := by
      cases f with
      | true => have := hf rfl; omega
      | false => have := h3 rfl; omega
    rw [turn_cons, List.append_assoc]
    refine fit_turn l false (c.old + c.oldLen) (c.new + c.newLen) _ (by omega) (by omega) (by omega) (by omega) (fun h => by cases h) h5 (.inr ⟨rfl, _, _, rfl, ?_, ?_, ?_⟩)
    · show (a.length : Int) - c.old - c.oldLen = _; omega
    · show (b.length : Int) - c.new - c.newLen = _; omega
    · have h6 := acc_more (f' := false) (k := c.old - i) hi hj (fun h _ => h3 h) (by omega) (by omega) h4 ha
      rw [show i + (c.old - i) = c.old from by omega, show j + (c.old - i) = c.new from by omega] at h6
      refine fit_cons.2 ⟨⟨⟨⟨?_, a1, ?_⟩, ⟨?_, b1, ?_⟩, ne⟩, ?_, fun h => by cases h⟩, ?_, ?_⟩
      · show 0 ≤ (a.length : Int) - c.old - c.oldLen; omega
      · rw [List.length_reverse]; show c.oldLen ≤ _ - ((a.length : Int) - c.old - c.oldLen); omega
      · show 0 ≤ (b.length : Int) - c.new - c.newLen; omega
      · rw [List.length_reverse]; show c.newLen ≤ _ - ((b.length : Int) - c.new - c.newLen); omega
      · show (a.length : Int) - c.old - c.oldLen - _ = (b.length : Int) - c.new - c.newLen - _; omega
      · intro t h0 h1
        exact absurd (show t < (a.length : Int) - c.old - c.oldLen - (a.length - (c.old + c.oldLen)) from h1) (by omega)
      · show FitL _ _ false ((a.length : Int) - c.old - c.oldLen + c.oldLen) ((b.length : Int) - c.new - c.newLen + c.newLen) acc
        rw [show (a.length : Int) - c.old - c.oldLen + c.oldLen = a.length - c.old from by omega, show (b.length : Int) - c.new - c.newLen + c.newLen = b.length - c.new from by omega]
        exact h6
theorem turn_fits {a b : List Int} {l : List Ch} (h : FitL a b true 0 0 l) : FitL a.reverse b.reverse true 0 0 (turnL a.length b.length l) := by
  have := fit_turn l true 0 0 [] (Int.le_refl _) (Int.le_refl _) (by omega) (by omega) (fun _ => rfl) h (.inl ⟨rfl, rfl, rfl, rfl⟩)
  rw [List.append_nil] at this
  exact this
theorem topE_snoc (e : Int) (y : Ch) : ∀ l : List Ch, topE e (l ++ [y]) = topE (y.old - 1) l
  | [] => rfl
  | _ :: _ => rfl
theorem downF_snoc (a b : List Int) (e : Int) (y y' : Ch) (hy : y' = sh y (dnR a b y (e - (y.old + y.oldLen)).toNat : Nat)) : ∀ x : List Ch, downF a b e (x ++ [y]) = downF a b (y'.old - 1) x ++ [y']
  | [] => by rw [hy]; rfl
  | c :: x => by
    have ih := downF_snoc a b e y y' hy x
    simp only [List.cons_append, downF, ih]
    unfold lowD
    rw [topE_snoc]
theorem txt_rev (a b : List Int) (m n : Int) (c : Ch) : txt a.reverse b.reverse (tn m n c) = (txt a b c).reverse := by
  unfold txt tn
  simp only
  split <;> rfl
theorem dn_turn {a b : List Int} : ∀ (L : Nat) (c : Ch), (L : Int) ≤ c.old → (L : Int) ≤ c.new → 0 ≤ c.oldLen → 0 ≤ c.newLen → c.old + c.oldLen ≤ a.length → c.new + c.newLen ≤ b.length → dnR a.reverse b.reverse (tn a.length b.length c) L = upR a b c L
  | 0, _, _, _, _, _, _, _ => rfl
  | L + 1, c, h1, h2, h3, h4, h5, h6 => by
    have hB : dnB a.reverse b.reverse (tn a.length b.length c) = upB a b c := by
      unfold dnB upB
      rw [txt_rev]
      have e1 : frC (tn a.length b.length c) = (txt a b c).length - frC c - lnC c := by
        unfold frC txt lnC tn
        simp only
        split <;> rfl
      have e2 : lnC (tn a.length b.length c) = lnC c := by unfold lnC tn; simp only
      have e3 : 1 ≤ frC c ∧ 0 ≤ lnC c ∧ frC c + lnC c ≤ (txt a b c).length := by
        unfold frC txt lnC
        split <;> omega
      rw [e1, e2, gI_rev _ _ (by omega) (by omega), gI_rev _ _ (by omega) (by omega)]
      have e4 : Pure (tn a.length b.length c) ↔ Pure c := Iff.rfl
      rw [show ((txt a b c).length : Int) - 1 - ((txt a b c).length - frC c - lnC c) = frC c + lnC c - 1 from by omega, show ((txt a b c).length : Int) - 1 - ((txt a b c).length - frC c - lnC c + lnC c) = frC c - 1 from by omega]
      exact decide_eq_decide.2 ⟨fun ⟨x, y⟩ => ⟨e4.1 x, y⟩, fun ⟨x, y⟩ => ⟨e4.2 x, y⟩⟩
    have hs : sh (tn a.length b.length c) 1 = tn a.length b.length (sh c (-1)) := by
      unfold sh tn
      simp only
      exact Ch.eq (by simp only; omega) rfl (by simp only; omega) rfl
    simp only [dnR, upR, hB, hs]
    rw [dn_turn L (sh c (-1)) (by show (L : Int) ≤ c.old + -1; omega) (by show (L : Int) ≤ c.new + -1; omega) h3 h4 (by show c.old + -1 + c.oldLen ≤ _; omega) (by show c.new + -1 + c.newLen ≤ _; omega)]
theorem down_turn {a b : List Int} : ∀ (l : List Ch) (f : Bool) (i j : Int), 0 ≤ i → 0 ≤ j → (f = true → i = 0) → FitL a b f i j l → downF a.reverse b.reverse (a.length - firstI f i) (turnL a.length b.length l) = turnL a.length b.length (upF a b (firstI f i) l)
  | [], _, _, _, _, _, _, _ => rfl
  | c :: l, f, i, j, hi, hj, hf0, h => by
    obtain ⟨⟨⟨⟨a0, a1, a2⟩, ⟨b0, b1, b2⟩, ne⟩, h2, h3⟩, h4, h5⟩ := fit_cons.1 h
    have hf : i ≤ firstI f i ∧ (c.old - firstI f i).toNat ≤ c.old - i := by
      unfold firstI
      cases f with
      | true => have := hf0 rfl; rw [if_pos rfl]; constructor <;> omega
      | false => have := h3 rfl; rw [if_neg (by simp)]; constructor <;> omega
    have hu := fit_un hi hj (c.old - firstI f i).toNat c h (Nat.le_refl _)
    have hp := fit_pos hu
    have e0 : ((a.length : Int) - firstI f i - ((tn a.length b.length c).old + (tn a.length b.length c).oldLen)).toNat = (c.old - firstI f i).toNat := by unfold tn; simp only; omega
    have ed := dn_turn (a := a) (b := b) (c.old - firstI f i).toNat c (by omega) (by omega) a1 b1 (by omega) (by omega)
    rw [turn_cons, downF_snoc _ _ _ _ _ rfl, e0, ed]
    simp only [upF]
    rw [turn_cons, up_next]
    have e1 : sh (tn a.length b.length c) (upR a b c (c.old - firstI f i).toNat : Nat) = tn a.length b.length (sh c (-(upR a b c (c.old - firstI f i).toNat : Nat))) := by
      unfold sh tn
      exact Ch.eq (by simp only; omega) rfl (by simp only; omega) rfl
    rw [e1]
    have ih := down_turn l false _ _ hp.1 hp.2 (fun h => by cases h) (fit_tail hu)
    rw [← ih]
    have e2 : (tn a.length b.length (sh c (-(upR a b c (c.old - firstI f i).toNat : Nat)))).old - 1 = a.length - firstI false ((sh c (-(upR a b c (c.old - firstI f i).toNat : Nat))).old + (sh c (-(upR a b c (c.old - firstI f i).toNat : Nat))).oldLen) := by
      unfold firstI tn
      simp only [Bool.false_eq_true, if_false]
      omega
    rw [e2]
theorem mirror {a b : List Int} {l : List Ch} (h : FitL a b true 0 0 l) : downF a.reverse b.reverse a.length (turnL a.length b.length l) = turnL a.length b.length (upF a b 0 l) := by
  have := down_turn l true 0 0 (Int.le_refl _) (Int.le_refl _) (fun _ => rfl) h
  rw [show firstI true 0 = 0 from rfl, Int.sub_zero] at this
  exact this
theorem turn_turn (m n : Int) (l : List Ch) : turnL m n (turnL m n l) = l := by
  unfold turnL
  rw [List.map_reverse, List.reverse_reverse, List.map_map]
  have : (tn m n ∘ tn m n) = id := by
    funext c
    unfold tn
    exact Ch.eq (by simp only [Function.comp, id]; omega) rfl (by simp only [Function.comp, id]; omega) rfl
  rw [this, List.map_id]
-- the inverse
theorem runE_swap {a b : List Int} {i j k : Int} (h : RunE a b i j k) : RunE b a j i k := fun t h0 h1 => (h t h0 h1).symm
theorem fit_inv {a b : List Int} : ∀ (l : List Ch) (f : Bool) (i j : Int), FitL a b f i j l → FitL b a f j i (l.map inv)
  | [], f, i, j, h => by
    obtain ⟨h1, h2⟩ := fit_nil.1 h
    refine fit_nil.2 ⟨h1.symm, ?_⟩
    rw [← h1]
    exact runE_swap h2
  | c :: l, f, i, j, h => by
    obtain ⟨⟨⟨h1, h1', ne⟩, h2, h3⟩, h4, h5⟩ := fit_cons.1 h
    refine fit_cons.2 ⟨⟨⟨h1', h1, fun h => ne ⟨h.2, h.1⟩⟩, h2.symm, fun hf => ?_⟩, ?_, fit_inv l _ _ _ h5⟩
    · have := h3 hf; show 1 ≤ c.new - j; omega
    · show RunE b a j i (c.new - j)
      rw [← h2]
      exact runE_swap h4
theorem dnB_inv (a b : List Int) (c : Ch) (ne : ¬ (c.oldLen = 0 ∧ c.newLen = 0)) : dnB b a (inv c) = dnB a b c := by
  unfold dnB
  have e : Pure (inv c) ↔ Pure c := ⟨fun h => h.symm, fun h => h.symm⟩
  have e2 : Pure c → txt b a (inv c) = txt a b c ∧ frC (inv c) = frC c ∧ lnC (inv c) = lnC c := by
    intro h
    unfold txt frC lnC
    show (if c.oldLen = 0 then b else a) = _ ∧ (if c.oldLen = 0 then c.new else c.old) = _ ∧ (if c.oldLen = 0 then c.newLen else c.oldLen) = _
    rcases h with h | h
    · have h' : ¬ c.oldLen = 0 := fun h2 => ne ⟨h2, h⟩
      simp only [if_pos h, if_neg h', and_self]
    · have h' : ¬ c.newLen = 0 := fun h2 => ne ⟨h, h2⟩
      simp only [if_pos h, if_neg h', and_self]
  refine decide_eq_decide.2 ⟨fun ⟨x, y⟩ => ?_, fun ⟨x, y⟩ => ?_⟩
  · obtain ⟨q1, q2, q3⟩ := e2 (e.1 x)
    rw [q1, q2, q3] at y
    exact ⟨e.1 x, y⟩
  · obtain ⟨q1, q2, q3⟩ := e2 x
    rw [← q1, ← q2, ← q3] at y
    exact ⟨e.2 x, y⟩
theorem dnR_inv (a b : List Int) : ∀ (L : Nat) (c : Ch), ¬ (c.oldLen = 0 ∧ c.newLen = 0) → dnR b a (inv c) L = dnR a b c L
  | 0, _, _ => rfl
  | L + 1, c, ne => by
    simp only [dnR, dnB_inv a b c ne]
    rw [show sh (inv c) 1 = inv (sh c 1) from rfl, dnR_inv a b L (sh c 1) ne]
theorem exchange {a b : List Int} : ∀ (l : List Ch) (f : Bool) (i j : Int), FitL a b f i j l → downF b a b.length (l.map inv) = (downF a b a.length l).map inv
  | [], _, _, _, _ => rfl
  | c :: l, f, i, j, h => by
    have ih := exchange l _ _ _ (fit_tail h)
    have h2 := fit_head h (fit_downF l _ _ _ (fit_tail h))
    obtain ⟨⟨⟨⟨a0, a1, a2⟩, ⟨b0, b1, b2⟩, ne⟩, _, _⟩, _, h5⟩ := fit_cons.1 h2
    simp only [List.map_cons, downF, ih]
    have e : lowD b.length ((downF a b a.length l).map inv) (inv c) = lowD a.length (downF a b a.length l) c := by
      unfold lowD
      generalize downF a b a.length l = r at *
      cases r with
      | nil =>
        have := (fit_nil.1 h5).1
        simp only [List.map_nil, topE]
        show ((b.length : Int) - (c.new + c.newLen)).toNat = _
        omega
      | cons x r =>
        have := (fit_cons.1 h5).1.2.1
        simp only [List.map_cons, topE]
        show (x.new - 1 - (c.new + c.newLen)).toNat = _
        omega
    rw [e, dnR_inv a b _ c ne]
    rfl
end Sl
end Go.Proofs.Ytldommbelpcegaa
