/-
  Layer 9 as mathematics: the greatest number of partners, the walk, the columns of bits. Plain mathematics, no conditions.
-/
import Derived.Test.YtechabkmepejaaaScrMath
namespace Go.Proofs.Ytechabkmepejaaa
namespace Sh
open Sc
/-- The greatest number of partners. -/
def lcs : List Int → List Int → Nat
  | [], _ => 0
  | _ :: _, [] => 0
  | x :: a, y :: b => if x = y then lcs a b + 1 else max (lcs a (y :: b)) (lcs (x :: a) b)
termination_by a b => a.length + b.length
theorem lcs_nil (b : List Int) : lcs [] b = 0 := by rw [lcs]
theorem lcs_nil' (a : List Int) : lcs a [] = 0 := by cases a <;> rw [lcs]
theorem lcs_eq (x : Int) (a b : List Int) : lcs (x :: a) (x :: b) = lcs a b + 1 := by rw [lcs, if_pos rfl]
theorem lcs_ne {x y : Int} (h : x ≠ y) (a b : List Int) : lcs (x :: a) (y :: b) = max (lcs a (y :: b)) (lcs (x :: a) b) := by rw [lcs, if_neg h]
theorem lcs_steps : ∀ (n : Nat) (a b : List Int), a.length + b.length ≤ n → (∀ x, lcs a b ≤ lcs (x :: a) b ∧ lcs (x :: a) b ≤ lcs a b + 1) ∧ ∀ y, lcs a b ≤ lcs a (y :: b) ∧ lcs a (y :: b) ≤ lcs a b + 1
  | 0, a, b, h => by
    obtain rfl : a = [] := List.eq_nil_of_length_eq_zero (by omega)
    obtain rfl : b = [] := List.eq_nil_of_length_eq_zero (by omega)
    simp [lcs_nil, lcs_nil']
  | n + 1, a, b, h => by
    have hA : ∀ b', b'.length < b.length → (∀ x, lcs a b' ≤ lcs (x :: a) b' ∧ lcs (x :: a) b' ≤ lcs a b' + 1) ∧ ∀ y, lcs a b' ≤ lcs a (y :: b') ∧ lcs a (y :: b') ≤ lcs a b' + 1 := fun b' hb => lcs_steps n a b' (by omega)
    have hB : ∀ a', a'.length < a.length → (∀ x, lcs a' b ≤ lcs (x :: a') b ∧ lcs (x :: a') b ≤ lcs a' b + 1) ∧ ∀ y, lcs a' b ≤ lcs a' (y :: b) ∧ lcs a' (y :: b) ≤ lcs a' b + 1 := fun a' ha => lcs_steps n a' b (by omega)
    refine ⟨fun x => ?_, fun y => ?_⟩
    · cases b with
      | nil => simp [lcs_nil']
      | cons y b =>
        obtain ⟨h1, h2⟩ := hA b (by simp)
        have := h1 x
        have := h2 y
        by_cases e : x = y
        · subst e; rw [lcs_eq]; omega
        · rw [lcs_ne e]; omega
    · cases a with
      | nil => simp [lcs_nil]
      | cons x a =>
        obtain ⟨h1, h2⟩ := hB a (by simp)
        have := h1 x
        have := h2 y
        by_cases e : x = y
        · subst e; rw [lcs_eq]; omega
        · rw [lcs_ne e]; omega
theorem lcs_consL (x : Int) (a b : List Int) : lcs a b ≤ lcs (x :: a) b ∧ lcs (x :: a) b ≤ lcs a b + 1 := (lcs_steps _ a b (Nat.le_refl _)).1 x
theorem lcs_consR (y : Int) (a b : List Int) : lcs a b ≤ lcs a (y :: b) ∧ lcs a (y :: b) ≤ lcs a b + 1 := (lcs_steps _ a b (Nat.le_refl _)).2 y
theorem lcs_dropL (b : List Int) : ∀ (k : Nat) (a : List Int), lcs (a.drop k) b ≤ lcs a b
  | 0, a => by simp
  | k + 1, [] => by simp
  | k + 1, x :: a => by
    have := lcs_dropL b k a
    have := lcs_consL x a b
    rw [List.drop_succ_cons]; omega
theorem lcs_dropR (a : List Int) : ∀ (k : Nat) (b : List Int), lcs a (b.drop k) ≤ lcs a b
  | 0, b => by simp
  | k + 1, [] => by simp
  | k + 1, y :: b => by
    have := lcs_dropR a k b
    have := lcs_consR y a b
    rw [List.drop_succ_cons]; omega
/-- The distance. -/
def dist (a b : List Int) : Int := (a.length : Int) + b.length - 2 * lcs a b
/-- The partners of the walk. -/
def wkF : Int → Int → List Int → List Int → List Sp
  | _, _, [], _ => []
  | _, _, _ :: _, [] => []
  | i, j, x :: a, y :: b => if x = y then ⟨i, j⟩ :: wkF (i + 1) (j + 1) a b else if lcs a (y :: b) = lcs (x :: a) (y :: b) then wkF (i + 1) j a (y :: b) else wkF i (j + 1) (x :: a) b
termination_by _ _ a b => a.length + b.length
theorem wkF_nil (i j : Int) (b : List Int) : wkF i j [] b = [] := by rw [wkF]
theorem wkF_nil' (i j : Int) (a : List Int) : wkF i j a [] = [] := by cases a <;> rw [wkF]
theorem wkF_eq (i j x : Int) (a b : List Int) : wkF i j (x :: a) (x :: b) = ⟨i, j⟩ :: wkF (i + 1) (j + 1) a b := by rw [wkF, if_pos rfl]
theorem wkF_old {i j x y : Int} {a b : List Int} (h : x ≠ y) (hl : lcs a (y :: b) = lcs (x :: a) (y :: b)) : wkF i j (x :: a) (y :: b) = wkF (i + 1) j a (y :: b) := by rw [wkF, if_neg h, if_pos hl]
theorem wkF_new {i j x y : Int} {a b : List Int} (h : x ≠ y) (hl : lcs a (y :: b) ≠ lcs (x :: a) (y :: b)) : wkF i j (x :: a) (y :: b) = wkF i (j + 1) (x :: a) b := by rw [wkF, if_neg h, if_neg hl]
/-- Induction along the walk. -/
theorem walk_ind {P : Int → Int → List Int → List Int → Prop} (h1 : ∀ i j b, P i j [] b) (h2 : ∀ i j a, P i j a []) (h3 : ∀ i j x a b, P (i + 1) (j + 1) a b → P i j (x :: a) (x :: b))
    (h4 : ∀ i j x y a b, x ≠ y → lcs a (y :: b) = lcs (x :: a) (y :: b) → P (i + 1) j a (y :: b) → P i j (x :: a) (y :: b))
    (h5 : ∀ i j x y a b, x ≠ y → lcs a (y :: b) ≠ lcs (x :: a) (y :: b) → lcs (x :: a) b = lcs (x :: a) (y :: b) → P i (j + 1) (x :: a) b → P i j (x :: a) (y :: b)) : ∀ (n : Nat) (i j : Int) (a b : List Int), a.length + b.length ≤ n → P i j a b
  | 0, i, j, a, b, h => by
    obtain rfl : a = [] := List.eq_nil_of_length_eq_zero (by omega)
    exact h1 _ _ _
  | n + 1, i, j, a, b, h => by
    cases a with
    | nil => exact h1 _ _ _
    | cons x a =>
      cases b with
      | nil => exact h2 _ _ _
      | cons y b =>
        simp only [List.length_cons] at h
        by_cases e : x = y
        · subst e
          exact h3 _ _ _ _ _ (walk_ind h1 h2 h3 h4 h5 n _ _ a b (by omega))
        · by_cases hl : lcs a (y :: b) = lcs (x :: a) (y :: b)
          · exact h4 _ _ _ _ _ _ e hl (walk_ind h1 h2 h3 h4 h5 n _ _ a (y :: b) (by simp only [List.length_cons]; omega))
          · refine h5 _ _ _ _ _ _ e hl ?_ (walk_ind h1 h2 h3 h4 h5 n _ _ (x :: a) b (by simp only [List.length_cons]; omega))
            have := lcs_ne e a b
            have := lcs_consL x a (y :: b)
            omega
theorem wkF_len (i j : Int) (a b : List Int) : (wkF i j a b).length = lcs a b := by
  refine walk_ind (P := fun i j a b => (wkF i j a b).length = lcs a b) ?_ ?_ ?_ ?_ ?_ _ i j a b (Nat.le_refl _)
  · intro i j b; rw [wkF_nil, lcs_nil]; rfl
  · intro i j a; rw [wkF_nil', lcs_nil']; rfl
  · intro i j x a b h; rw [wkF_eq, lcs_eq, List.length_cons, h]
  · intro i j x y a b e hl h; rw [wkF_old e hl, h, hl]
  · intro i j x y a b e hl hl2 h; rw [wkF_new e hl, h, hl2]
theorem wkF_okP (i j : Int) (a b : List Int) : OkP (i + a.length) (j + b.length) i j (wkF i j a b) := by
  refine walk_ind (P := fun i j a b => OkP (i + a.length) (j + b.length) i j (wkF i j a b)) ?_ ?_ ?_ ?_ ?_ _ i j a b (Nat.le_refl _)
  · intro i j b; rw [wkF_nil]; trivial
  · intro i j a; rw [wkF_nil']; trivial
  · intro i j x a b h
    rw [wkF_eq]
    refine ⟨⟨Int.le_refl _, ?_, Int.le_refl _, ?_⟩, ?_⟩
    · simp only [List.length_cons]; omega
    · simp only [List.length_cons]; omega
    · simp only [List.length_cons]
      rw [show i + ((a.length + 1 : Nat) : Int) = i + 1 + (a.length : Int) from by omega, show j + ((b.length + 1 : Nat) : Int) = j + 1 + (b.length : Int) from by omega]
      exact h
  · intro i j x y a b e hl h
    rw [wkF_old e hl, show i + ((x :: a).length : Int) = i + 1 + (a.length : Int) from by simp only [List.length_cons]; omega]
    exact h.mono (by omega) (Int.le_refl _)
  · intro i j x y a b e hl _ h
    rw [wkF_new e hl, show j + ((y :: b).length : Int) = j + 1 + (b.length : Int) from by simp only [List.length_cons]; omega]
    exact h.mono (Int.le_refl _) (by omega)
/-! ### the columns of bits -/
/-- The carry into a place. -/
def cr (V M : Nat → Bool) : Nat → Bool
  | 0 => false
  | p + 1 => (V p).atLeastTwo (V p && M p) (cr V M p)
/-- The next column. -/
def nx (V M : Nat → Bool) (p : Nat) : Bool := (V p ^^ ((V p && M p) ^^ cr V M p)) || (V p && !M p)
/-- The places of the lines equal to y, counted from the end. -/
def eqB (a : List Int) (y : Int) (p : Nat) : Bool := decide (p < a.length ∧ a[a.length - 1 - p]? = some y)
/-- The column for a rest. -/
def colB (a : List Int) : List Int → Nat → Bool
  | [] => fun _ => true
  | y :: bs => nx (colB a bs) (eqB a y)
theorem cr_none (V : Nat → Bool) : ∀ p, cr V (fun _ => false) p = false
  | 0 => rfl
  | p + 1 => by
    simp only [cr, cr_none V p, Bool.and_false]
    cases V p <;> rfl
theorem nx_none (V : Nat → Bool) : nx V (fun _ => false) = V := by
  funext p
  unfold nx
  rw [cr_none]
  cases V p <;> rfl
theorem eqB_none {a : List Int} {y : Int} (h : y ∉ a) : eqB a y = fun _ => false := by
  funext p
  unfold eqB
  rw [decide_eq_false_iff_not]
  rintro ⟨_, h2⟩
  exact h (List.mem_iff_getElem?.2 ⟨_, h2⟩)
theorem colB_skip {a bs : List Int} {y : Int} (h : y ∉ a) : colB a (y :: bs) = colB a bs := by
  show nx _ _ = _
  rw [eqB_none h, nx_none]
theorem drop_one {a : List Int} {p : Nat} (h : p < a.length) : a.drop (a.length - (p + 1)) = a[a.length - 1 - p]'(by omega) :: a.drop (a.length - p) := by
  rw [List.drop_eq_getElem_cons (show a.length - (p + 1) < a.length from by omega)]
  congr 1
  · congr 1; omega
  · congr 1; omega
theorem colB_bits (a : List Int) : ∀ (bs : List Int) (p : Nat), p < a.length → colB a bs p = decide (lcs (a.drop (a.length - (p + 1))) bs = lcs (a.drop (a.length - p)) bs)
  | [], p, _ => by simp [colB, lcs_nil']
  | y :: bs, p, hp => by
    have hV : ∀ q, q < a.length → colB a bs q = decide (lcs (a.drop (a.length - (q + 1))) bs = lcs (a.drop (a.length - q)) bs) := colB_bits a bs
    have key : ∀ q, q ≤ a.length → lcs (a.drop (a.length - q)) (y :: bs) = lcs (a.drop (a.length - q)) bs + (cr (colB a bs) (eqB a y) q).toNat ∧
        (∀ r, r + 1 = q → nx (colB a bs) (eqB a y) r = decide (lcs (a.drop (a.length - (r + 1))) (y :: bs) = lcs (a.drop (a.length - r)) (y :: bs))) := by
      intro q
      induction q with
      | zero => intro _; refine ⟨by simp [lcs_nil, cr], fun r hr => by omega⟩
      | succ q ih =>
        intro hq
        obtain ⟨i1, _⟩ := ih (by omega)
        have v := hV q (by omega)
        have d := drop_one (a := a) (p := q) (by omega)
        have hE : eqB a y q = decide (a[a.length - 1 - q]'(by omega) = y) := by
          unfold eqB
          rw [decide_eq_decide, List.getElem?_eq_getElem (by omega)]
          exact ⟨fun h => Option.some.inj h.2, fun h => ⟨by omega, by rw [h]⟩⟩
        generalize a[a.length - 1 - q]'(by omega) = x at d hE
        rw [d] at v ⊢
        generalize hA : a.drop (a.length - q) = A at *
        have s1 := lcs_consL x A bs
        have s2 := lcs_consR y A bs
        have hcr : cr (colB a bs) (eqB a y) (q + 1) = (colB a bs q).atLeastTwo (colB a bs q && eqB a y q) (cr (colB a bs) (eqB a y) q) := rfl
        have hnx : nx (colB a bs) (eqB a y) q = ((colB a bs q ^^ ((colB a bs q && eqB a y q) ^^ cr (colB a bs) (eqB a y) q)) || (colB a bs q && !eqB a y q)) := rfl
        have fin : lcs (x :: A) (y :: bs) = lcs (x :: A) bs + (cr (colB a bs) (eqB a y) (q + 1)).toNat ∧ nx (colB a bs) (eqB a y) q = decide (lcs (x :: A) (y :: bs) = lcs A (y :: bs)) := by
          rw [hcr, hnx, v, hE]
          generalize cr (colB a bs) (eqB a y) q = c at i1
          by_cases e : x = y
          · subst e
            rw [lcs_eq]
            by_cases e2 : lcs (x :: A) bs = lcs A bs
            · cases c <;> simp [e2, Bool.atLeastTwo] at i1 ⊢ <;> omega
            · cases c <;> simp [e2, Bool.atLeastTwo] at i1 ⊢ <;> omega
          · have h3 := lcs_ne e A bs
            by_cases e2 : lcs (x :: A) bs = lcs A bs
            · cases c <;> simp [e, e2, Bool.atLeastTwo] at i1 ⊢ <;> omega
            · cases c <;> simp [e, e2, Bool.atLeastTwo] at i1 ⊢ <;> omega
        refine ⟨fin.1, fun r hr => ?_⟩
        obtain rfl : r = q := by omega
        rw [d, hA]
        exact fin.2
    exact (key (p + 1) (by omega)).2 p rfl
/-- Whether line i is spare. -/
theorem colB_at {a bs : List Int} {i : Nat} (h : i < a.length) : colB a bs (a.length - 1 - i) = decide (lcs (a.drop i) bs = lcs (a.drop (i + 1)) bs) := by
  rw [colB_bits a bs _ (by omega), show a.length - (a.length - 1 - i + 1) = i from by omega, show a.length - (a.length - 1 - i) = i + 1 from by omega]
end Sh
end Go.Proofs.Ytechabkmepejaaa
