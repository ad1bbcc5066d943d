/-
  Layer 6: the longest match at each offset, the list of them, and those that do not overlap. No program. No conditions.
-/
import Derived.Test.YtgadomcbaenodaaSeaMath
namespace Go.Proofs.Ytgadomcbaenodaa
namespace Se
open Cm Rx Au
open Classical in
/-- How far the start reaches from an offset. -/
noncomputable def bestF (ss : List St) (st : Nat) (bs : List UInt8) (i : Nat) : Option Nat := if h : ∃ e, Best ss bs i st e then some (Classical.choose h) else none
variable {ss : List St} {st : Nat} {bs : List UInt8}
theorem bestF_some {i e : Nat} : bestF ss st bs i = some e ↔ Best ss bs i st e := by
  unfold bestF
  constructor
  · intro h
    split at h
    · rename_i hx
      injection h with h
      subst h
      exact Classical.choose_spec hx
    · cases h
  · intro h
    have hx : ∃ e, Best ss bs i st e := ⟨e, h⟩
    rw [dif_pos hx]
    exact congrArg some ((Classical.choose_spec hx).unique h)
theorem bestF_none {i : Nat} : bestF ss st bs i = none ↔ ∀ e, ¬ Run ss bs i st e := by
  constructor
  · intro h e hr
    obtain ⟨e', _, hb⟩ := Best.ex hr
    rw [bestF_some.2 hb] at h
    cases h
  · intro h
    cases hb : bestF ss st bs i with
    | none => rfl
    | some e => exact absurd (bestF_some.1 hb).1 (h e)
theorem bestF_le {i e : Nat} (h : bestF ss st bs i = some e) : i ≤ e ∧ e ≤ bs.length := (bestF_some.1 h).1.le
def hitL (i : Nat) (o : Option Nat) : List (Nat × Nat) := match o with
  | some e => [(i, e)]
  | none => []
noncomputable def ascF (ss : List St) (st : Nat) (bs : List UInt8) : Nat → Nat → List (Nat × Nat)
  | 0, _ => []
  | d + 1, p => hitL p (bestF ss st bs p) ++ ascF ss st bs d (p + 1)
/-- The matches from an offset on, the longest of each, ascending. -/
noncomputable def ascL (ss : List St) (st : Nat) (bs : List UInt8) (p : Nat) : List (Nat × Nat) := ascF ss st bs (bs.length + 1 - p) p
theorem ascL_step {p : Nat} (h : p ≤ bs.length) : ascL ss st bs p = hitL p (bestF ss st bs p) ++ ascL ss st bs (p + 1) := by
  unfold ascL
  rw [show bs.length + 1 - p = (bs.length + 1 - (p + 1)) + 1 by omega]
  rfl
theorem ascL_end {p : Nat} (h : bs.length < p) : ascL ss st bs p = [] := by
  unfold ascL
  rw [show bs.length + 1 - p = 0 by omega]
  rfl
theorem ascL_hit {p e : Nat} (h : bestF ss st bs p = some e) : ascL ss st bs p = (p, e) :: ascL ss st bs (p + 1) := by
  rw [ascL_step (by have := bestF_le h; omega), h]
  rfl
theorem ascL_miss {p : Nat} (h : bestF ss st bs p = none) : ascL ss st bs p = ascL ss st bs (p + 1) := by
  by_cases hp : p ≤ bs.length
  · rw [ascL_step hp, h]; rfl
  · rw [ascL_end (by omega), ascL_end (by omega)]
/-- .. descending, as they are found. -/
noncomputable def desL (ss : List St) (st : Nat) (bs : List UInt8) (p : Nat) : List (Nat × Nat) := (ascL ss st bs p).reverse
theorem desL_end {p : Nat} (h : bs.length < p) : desL ss st bs p = [] := by unfold desL; rw [ascL_end h]; rfl
theorem desL_hit {p e : Nat} (h : bestF ss st bs p = some e) : desL ss st bs p = desL ss st bs (p + 1) ++ [(p, e)] := by
  unfold desL; rw [ascL_hit h, List.reverse_cons]
theorem desL_miss {p : Nat} (h : bestF ss st bs p = none) : desL ss st bs p = desL ss st bs (p + 1) := by
  unfold desL; rw [ascL_miss h]
theorem desL_pre {p q : Nat} (h : p ≤ q) : desL ss st bs q <+: desL ss st bs p := by
  suffices H : ∀ d, desL ss st bs (p + d) <+: desL ss st bs p by
    have := H (q - p); rwa [show p + (q - p) = q by omega] at this
  intro d
  induction d with
  | zero => exact List.prefix_refl _
  | succ d ih =>
    refine List.IsPrefix.trans ?_ ih
    cases hb : bestF ss st bs (p + d) with
    | none => rw [desL_miss hb]; exact List.prefix_refl _
    | some e => rw [desL_hit hb]; exact List.prefix_append _ _
theorem ascL_mem {x : Nat × Nat} : ∀ d p, bs.length + 1 - p ≤ d → (x ∈ ascL ss st bs p ↔ p ≤ x.1 ∧ bestF ss st bs x.1 = some x.2)
  | 0, p, hd => by
    rw [ascL_end (by omega)]
    refine ⟨fun h => (by cases h), fun ⟨h1, h2⟩ => ?_⟩
    have := bestF_le h2
    omega
  | d + 1, p, hd => by
    cases hb : bestF ss st bs p with
    | none =>
      rw [ascL_miss hb]
      by_cases hp : p ≤ bs.length
      · rw [ascL_mem d (p + 1) (by omega)]
        refine ⟨fun ⟨h1, h2⟩ => ⟨by omega, h2⟩, fun ⟨h1, h2⟩ => ⟨?_, h2⟩⟩
        by_cases e : p = x.1
        · rw [← e, hb] at h2; cases h2
        · omega
      · rw [ascL_end (by omega)]
        refine ⟨fun h => (by cases h), fun ⟨h1, h2⟩ => ?_⟩
        have := bestF_le h2
        omega
    | some e =>
      have hp := bestF_le hb
      rw [ascL_hit hb, List.mem_cons, ascL_mem d (p + 1) (by omega)]
      constructor
      · rintro (rfl | ⟨h1, h2⟩)
        · exact ⟨Nat.le_refl _, hb⟩
        · exact ⟨by omega, h2⟩
      · rintro ⟨h1, h2⟩
        by_cases e2 : p = x.1
        · rw [← e2, hb] at h2
          injection h2 with h2
          exact .inl (Prod.ext e2.symm h2.symm)
        · exact .inr ⟨by omega, h2⟩
theorem ascL_in {x : Nat × Nat} {p : Nat} : x ∈ ascL ss st bs p ↔ p ≤ x.1 ∧ bestF ss st bs x.1 = some x.2 := ascL_mem _ p (Nat.le_refl _)
theorem ascL_len (ss : List St) (st : Nat) (bs : List UInt8) : ∀ d p, bs.length + 1 - p ≤ d → (ascL ss st bs p).length ≤ bs.length + 1 - p
  | 0, p, hd => by rw [ascL_end (by omega)]; simp
  | d + 1, p, hd => by
    by_cases hp : p ≤ bs.length
    · have := ascL_len ss st bs d (p + 1) (by omega)
      cases hb : bestF ss st bs p with
      | none => rw [ascL_miss hb]; omega
      | some e => rw [ascL_hit hb, List.length_cons]; omega
    · rw [ascL_end (by omega)]; simp
theorem desL_len (ss : List St) (st : Nat) (bs : List UInt8) (p : Nat) : (desL ss st bs p).length ≤ bs.length + 1 := by
  unfold desL
  rw [List.length_reverse]
  have := ascL_len ss st bs _ p (Nat.le_refl _)
  omega
/-- What Find returns. -/
noncomputable def findF (ss : List St) (st : Nat) (bs : List UInt8) (p : Nat) : Option (Nat × Nat) := (ascL ss st bs p).head?
theorem findF_hit {p e : Nat} (h : bestF ss st bs p = some e) : findF ss st bs p = some (p, e) := by unfold findF; rw [ascL_hit h]; rfl
theorem findF_miss {p : Nat} (h : bestF ss st bs p = none) : findF ss st bs p = findF ss st bs (p + 1) := by unfold findF; rw [ascL_miss h]
theorem findF_end {p : Nat} (h : bs.length < p) : findF ss st bs p = none := by unfold findF; rw [ascL_end h]; rfl
theorem findF_last (ss : List St) (st : Nat) (bs : List UInt8) (p : Nat) : (desL ss st bs p).getLast? = findF ss st bs p := by
  unfold desL findF
  rw [List.getLast?_reverse]
theorem findF_cons {x : Nat × Nat} : ∀ d p, bs.length + 1 - p ≤ d → findF ss st bs p = some x → ascL ss st bs p = x :: ascL ss st bs (x.1 + 1) ∧ p ≤ x.1 ∧ x.1 ≤ x.2 ∧ x.2 ≤ bs.length
  | 0, p, hd, h => by rw [findF_end (by omega)] at h; cases h
  | d + 1, p, hd, h => by
    by_cases hp : p ≤ bs.length
    · cases hb : bestF ss st bs p with
      | none =>
        rw [findF_miss hb] at h
        obtain ⟨h1, h2, h3⟩ := findF_cons d (p + 1) (by omega) h
        exact ⟨by rw [ascL_miss hb]; exact h1, by omega, h3⟩
      | some e =>
        rw [findF_hit hb] at h
        injection h with h
        subst h
        exact ⟨ascL_hit hb, Nat.le_refl _, bestF_le hb⟩
    · rw [findF_end (by omega)] at h; cases h
theorem findF_some {x : Nat × Nat} {p : Nat} (h : findF ss st bs p = some x) : ascL ss st bs p = x :: ascL ss st bs (x.1 + 1) ∧ p ≤ x.1 ∧ x.1 ≤ x.2 ∧ x.2 ≤ bs.length := findF_cons _ p (Nat.le_refl _) h
theorem findF_none {p : Nat} (h : findF ss st bs p = none) : ascL ss st bs p = [] := by
  unfold findF at h
  cases e : ascL ss st bs p with
  | nil => rfl
  | cons a l => rw [e] at h; cases h
/-- What apart keeps. -/
def apartL : Nat → List (Nat × Nat) → List (Nat × Nat)
  | _, [] => []
  | p, x :: r => if x.1 < p then apartL p r else x :: apartL x.2 r
theorem apartL_len : ∀ (p : Nat) (l : List (Nat × Nat)), (apartL p l).length ≤ l.length
  | _, [] => Nat.le_refl _
  | p, x :: r => by
    unfold apartL
    by_cases h : x.1 < p
    · rw [if_pos h]; have := apartL_len p r; simp; omega
    · rw [if_neg h]; have := apartL_len x.2 r; simp; omega
theorem apart_skip {p q : Nat} (h : p ≤ q) : apartL q (ascL ss st bs p) = apartL q (ascL ss st bs q) := by
  suffices H : ∀ d p, q = p + d → apartL q (ascL ss st bs p) = apartL q (ascL ss st bs q) from H (q - p) p (by omega)
  intro d
  induction d with
  | zero => intro p hp; rw [hp]; rfl
  | succ d ih =>
    intro p hp
    rw [← ih (p + 1) (by omega)]
    cases hb : bestF ss st bs p with
    | none => rw [ascL_miss hb]
    | some e =>
      rw [ascL_hit hb]
      show (if p < q then _ else _) = _
      rw [if_pos (by omega)]
theorem apart_from {p q : Nat} {l : List (Nat × Nat)} (h : p ≤ q) (hl : ∀ x ∈ l, q ≤ x.1) : apartL p l = apartL q l := by
  cases l with
  | nil => rfl
  | cons x r =>
    have := hl x (List.mem_cons_self)
    show (if x.1 < p then _ else _) = (if x.1 < q then _ else _)
    rw [if_neg (by omega), if_neg (by omega)]
/-- Where the next match may begin. -/
def nextP (x : Nat × Nat) : Nat := if x.2 = x.1 then x.2 + 1 else x.2
/-- What All returns, one match after another. -/
noncomputable def allG (ss : List St) (st : Nat) (bs : List UInt8) : Nat → Nat → List (Nat × Nat)
  | 0, _ => []
  | d + 1, p => match findF ss st bs p with
    | some x => x :: allG ss st bs d (nextP x)
    | none => []
theorem all_apart : ∀ d p, bs.length + 1 - p ≤ d → apartL p (ascL ss st bs p) = allG ss st bs d p
  | 0, p, hd => by rw [ascL_end (by omega)]; rfl
  | d + 1, p, hd => by
    cases hf : findF ss st bs p with
    | none => rw [findF_none hf]; simp only [allG, hf]; rfl
    | some x =>
      obtain ⟨h1, h2, h3, h4⟩ := findF_some hf
      have e : allG ss st bs (d + 1) p = x :: allG ss st bs d (nextP x) := by simp only [allG, hf]
      rw [e, h1]
      show (if x.1 < p then _ else _) = _
      rw [if_neg (by omega)]
      congr 1
      by_cases he : x.2 = x.1
      · have hn : nextP x = x.1 + 1 := by unfold nextP; rw [if_pos he, he]
        rw [hn, ← all_apart d (x.1 + 1) (by omega)]
        exact apart_from (by omega) (fun y hy => (ascL_in.1 hy).1)
      · have hn : nextP x = x.2 := if_neg he
        rw [hn, ← all_apart d x.2 (by omega)]
        exact apart_skip (by omega)
/-- The list of All. -/
noncomputable def allL (ss : List St) (st : Nat) (bs : List UInt8) : List (Nat × Nat) := allG ss st bs (bs.length + 1) 0
theorem allL_apart (ss : List St) (st : Nat) (bs : List UInt8) : apartL 0 (ascL ss st bs 0) = allL ss st bs := all_apart _ 0 (by omega)
theorem allG_nil {d p : Nat} (h : findF ss st bs p = none) : allG ss st bs d p = [] := by
  cases d with
  | zero => rfl
  | succ d => simp only [allG, h]
theorem allG_cons {d p : Nat} {x : Nat × Nat} (h : findF ss st bs p = some x) : allG ss st bs (d + 1) p = x :: allG ss st bs d (nextP x) := by simp only [allG, h]
end Se
end Go.Proofs.Ytgadomcbaenodaa
