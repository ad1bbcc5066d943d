/-
  Other numbers for the lines give the same script; a list that is renumbered from its beginning. Plain mathematics, and stores into lists that lie apart. No conditions.
-/
import Derived.Test.YtlnjhacchnfbkaaShoBlb
import Derived.Test.YtlnjhacchnfbkaaInternRefD
namespace Go.Proofs.Ytlnjhacchnfbkaa
open Go.RowKit
namespace Sh
open Cm Sc Nt
theorem lcs_map {f : Int → Int} (hf : ∀ x y, f x = f y → x = y) (a b : List Int) : lcs (a.map f) (b.map f) = lcs a b := by
  have key : ∀ (n : Nat) (a b : List Int), a.length + b.length ≤ n → lcs (a.map f) (b.map f) = lcs a b := by
    intro n
    induction n with
    | zero =>
      intro a b h
      obtain rfl : a = [] := List.eq_nil_of_length_eq_zero (by omega)
      rw [List.map_nil, lcs_nil, lcs_nil]
    | succ n ih =>
      intro a b h
      cases a with
      | nil => rw [List.map_nil, lcs_nil, lcs_nil]
      | cons x a =>
        cases b with
        | nil => rw [List.map_nil, lcs_nil', lcs_nil']
        | cons y b =>
          simp only [List.length_cons] at h
          by_cases e : x = y
          · subst e
            rw [List.map_cons, List.map_cons, lcs_eq, lcs_eq, ih a b (by omega)]
          · have h1 := ih a (y :: b) (by simp only [List.length_cons]; omega)
            have h2 := ih (x :: a) b (by simp only [List.length_cons]; omega)
            rw [List.map_cons] at h1 h2
            rw [List.map_cons, List.map_cons, lcs_ne e, lcs_ne (fun h => e (hf _ _ h)), h1, h2]
  exact key _ a b (Nat.le_refl _)
theorem wkF_map {f : Int → Int} (hf : ∀ x y, f x = f y → x = y) (i j : Int) (a b : List Int) : wkF i j (a.map f) (b.map f) = wkF i j a b := by
  have key : ∀ (n : Nat) (i j : Int) (a b : List Int), a.length + b.length ≤ n → wkF i j (a.map f) (b.map f) = wkF i j a b := by
    intro n
    induction n with
    | zero =>
      intro i j a b h
      obtain rfl : a = [] := List.eq_nil_of_length_eq_zero (by omega)
      rw [List.map_nil, wkF_nil, wkF_nil]
    | succ n ih =>
      intro i j a b h
      cases a with
      | nil => rw [List.map_nil, wkF_nil, wkF_nil]
      | cons x a =>
        cases b with
        | nil => rw [List.map_nil, wkF_nil', wkF_nil']
        | cons y b =>
          simp only [List.length_cons] at h
          by_cases e : x = y
          · subst e
            rw [List.map_cons, List.map_cons, wkF_eq, wkF_eq, ih _ _ a b (by omega)]
          · have l1 := lcs_map hf a (y :: b)
            have l2 := lcs_map hf (x :: a) (y :: b)
            have e2 : f x ≠ f y := fun h => e (hf _ _ h)
            by_cases hl : lcs a (y :: b) = lcs (x :: a) (y :: b)
            · have h1 := ih (i + 1) j a (y :: b) (by simp only [List.length_cons]; omega)
              rw [wkF_old e hl, ← h1]
              rw [List.map_cons] at l1 ⊢
              rw [List.map_cons, List.map_cons] at l2
              rw [List.map_cons, wkF_old e2 (by rw [l1, l2, hl])]
            · have h1 := ih i (j + 1) (x :: a) b (by simp only [List.length_cons]; omega)
              rw [wkF_new e hl, ← h1]
              rw [List.map_cons] at l1 ⊢
              rw [List.map_cons, List.map_cons] at l2
              rw [List.map_cons, wkF_new e2 (by rw [l1, l2]; exact hl)]
  exact key _ i j a b (Nat.le_refl _)
theorem scr_map {f : Int → Int} (hf : ∀ x y, f x = f y → x = y) (a b : List Int) : scrF (a.map f) (b.map f) = scrF a b := by
  unfold scrF
  rw [wkF_map hf, List.length_map, List.length_map]
/-- The first i numbers are other ones. -/
def pre (f : Int → Int) (i : Nat) (l : List Int) : List Int := (l.take i).map f ++ l.drop i
theorem pre_len (f : Int → Int) (i : Nat) (l : List Int) : (pre f i l).length = l.length := by
  unfold pre; rw [List.length_append, List.length_map, List.length_take, List.length_drop]; omega
theorem pre_zero (f : Int → Int) (l : List Int) : pre f 0 l = l := by simp [pre]
theorem pre_all (f : Int → Int) (l : List Int) : pre f l.length l = l.map f := by simp [pre]
theorem pre_get (f : Int → Int) {i : Nat} {l : List Int} (h : i < l.length) : (pre f i l)[i]? = some l[i] := by
  unfold pre
  rw [List.getElem?_append_right (by rw [List.length_map, List.length_take]; omega), List.length_map, List.length_take, List.getElem?_drop, show i + (i - min i l.length) = i from by omega, List.getElem?_eq_getElem h]
theorem pre_set (f : Int → Int) {i : Nat} {l : List Int} (h : i < l.length) : (pre f i l).set i (f l[i]) = pre f (i + 1) l := by
  unfold pre
  rw [List.set_append, List.length_map, List.length_take, if_neg (by omega), show i - min i l.length = 0 from by omega, List.drop_eq_getElem_cons h, List.set_cons_zero, List.take_succ_eq_append_getElem h, List.map_append, List.append_assoc]
  rfl
/-- What a look at list f, place i finds, and a store there. -/
theorem ld_at {w : World} {base : Nat} {v : Value} {x y : List Int} (h : OwnLD w base v [x, y]) {f : Nat} (hf : f < 2) :
    ∃ B c A n cc, v = .slice (some ⟨B, 0, none⟩) 2 c ∧ base ≤ B ∧ w.cell? ⟨B, f, none⟩ = some (.slice A n cc) ∧ n = (if f = 0 then x else y).length ∧ (∀ i (hi : i < (if f = 0 then x else y).length), ∃ g, A = some ⟨g, 0, none⟩ ∧ base ≤ g ∧ w.cell? ⟨g, i, none⟩ = some (.int .i64 (if f = 0 then x else y)[i]) ∧ w.frozen? ⟨g, i, none⟩ = false ∧
      ∀ z, OwnLD (w.setCell ⟨g, i, none⟩ (.int .i64 z)) base v (if f = 0 then [x.set i z, y] else [x, y.set i z])) := by
  obtain ⟨us, h1, h2, h3, h4⟩ := h
  have hl : us.length = 2 := h1
  match us, hl with
  | [u0, u1], _ =>
    have r0 : w.ownsRow base 3 1 u0 x.length (intsV x) := h3 0 (by simp) (by simp)
    have r1 : w.ownsRow base 3 1 u1 y.length (intsV y) := h3 1 (by simp) (by simp)
    have hne : ∀ g, u0.ownBlock = some g → u1.ownBlock ≠ some g := h4 0 1 (by simp) (by simp) (by omega)
    obtain ⟨B, c, cur, rfl, hB, hh⟩ := own_some h2 (by simp)
    have cB : ∀ j (hj : j < 2), w.cell? ⟨B, j, none⟩ = some ([u0, u1][j]'(by simpa using hj)) := fun j hj => by
      rw [h2.cellAt j (by simp; omega), List.getElem?_eq_getElem (by simpa using hj)]
    have cellOf : ∀ {u : Value} {l : List Int}, w.ownsRow base 3 1 u l.length (intsV l) → ∀ i (hi : i < l.length), ∃ g cc, u = .slice (some ⟨g, 0, none⟩) l.length cc ∧ base ≤ g ∧ w.cell? ⟨g, i, none⟩ = some (.int .i64 l[i]) ∧ w.frozen? ⟨g, i, none⟩ = false ∧ B ≠ g ∧ ∀ z, (w.setCell ⟨g, i, none⟩ (.int .i64 z)).ownsRow base 3 1 u (l.set i z).length (intsV (l.set i z)) := fun {u l} hr i hi => by
      obtain ⟨g, cc, cur', rfl, hg, hh'⟩ := own_some hr (by omega)
      refine ⟨g, cc, rfl, hg, ?_, by simp [World.frozen?, hh'], ?_, fun z => ?_⟩
      · rw [hr.cellAt i (by omega), List.getElem?_eq_getElem (by rw [intsV_len]; exact hi)]
        simp [intsV]
      · rintro rfl
        rw [hh] at hh'
        injection hh' with hh'
        injection hh' with _ e
        exact absurd e (by decide)
      · have hs := (hr.stored i (.int .i64 z)).1
        rw [List.length_set, show intsV (l.set i z) = (intsV l).set i (.int .i64 z) from by simp [intsV, List.map_set]]
        exact hs
    have hf01 : f = 0 ∨ f = 1 := by omega
    rcases hf01 with rfl | rfl
    · obtain ⟨A, cc, hA⟩ := own_form r0
      refine ⟨B, c, A, x.length, cc, rfl, hB, by rw [cB 0 (by omega)]; exact congrArg some hA, rfl, fun i hi => ?_⟩
      simp only [if_true] at hi ⊢
      obtain ⟨g, cc', e, hg, hc, hfz, hBg, hst⟩ := cellOf r0 i hi
      rw [hA] at e
      injection e with e _ _
      refine ⟨g, e, hg, hc, hfz, fun z => ⟨[u0, u1], rfl, ownsRow_setCell_other h2 (by simp [Value.ownBlock, hBg]) _, fun j a b => ?_, h4⟩⟩
      have hu0 : u0.ownBlock = some g := by rw [hA, e]; rfl
      match j, a, b with
      | 0, _, _ => exact hst z
      | 1, _, _ => exact ownsRow_setCell_other r1 (hne g hu0) _
    · obtain ⟨A, cc, hA⟩ := own_form r1
      refine ⟨B, c, A, y.length, cc, rfl, hB, by rw [cB 1 (by omega)]; exact congrArg some hA, rfl, fun i hi => ?_⟩
      simp only [show ((1 : Nat) = 0) = False from by simp, if_false] at hi ⊢
      obtain ⟨g, cc', e, hg, hc, hfz, hBg, hst⟩ := cellOf r1 i hi
      rw [hA] at e
      injection e with e _ _
      refine ⟨g, e, hg, hc, hfz, fun z => ⟨[u0, u1], rfl, ownsRow_setCell_other h2 (by simp [Value.ownBlock, hBg]) _, fun j a b => ?_, h4⟩⟩
      have hu1 : u1.ownBlock = some g := by rw [hA, e]; rfl
      match j, a, b with
      | 0, _, _ => exact ownsRow_setCell_other r0 (fun hh => hne g hh hu1) _
      | 1, _, _ => exact hst z
end Sh
end Go.Proofs.Ytlnjhacchnfbkaa
