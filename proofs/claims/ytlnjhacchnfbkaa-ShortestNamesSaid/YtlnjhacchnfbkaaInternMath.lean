/-
  Plain mathematics of layer 3 (numbers for lines), over lists of any elements: no program, no memory. No conditions.
-/
namespace Go.Proofs.Ytlnjhacchnfbkaa
namespace Nt
variable {α : Type} [DecidableEq α]
/-- Where an element stands first in a list; its length where it does not. -/
def posN : List α → α → Nat
  | [], _ => 0
  | x :: r, s => if x = s then 0 else posN r s + 1
def placeI (l : List α) (s : α) : Int := if s ∈ l then (posN l s : Int) else -1
theorem posN_lt {l : List α} {s : α} (h : s ∈ l) : posN l s < l.length := by
  induction l with
  | nil => cases h
  | cons x r ih =>
    rw [posN]
    split
    · simp
    · rename_i hx
      rcases List.mem_cons.1 h with e | h
      · exact absurd e.symm hx
      · have := ih h; rw [List.length_cons]; omega
theorem posN_le (l : List α) (s : α) : posN l s ≤ l.length := by
  induction l with
  | nil => exact Nat.le_refl _
  | cons x r ih => rw [posN]; split <;> simp; exact ih
theorem posN_get {l : List α} {s : α} (h : s ∈ l) : l[posN l s]? = some s := by
  induction l with
  | nil => cases h
  | cons x r ih =>
    rw [posN]
    split
    · rename_i hx; rw [hx]; rfl
    · rename_i hx
      rcases List.mem_cons.1 h with e | h
      · exact absurd e.symm hx
      · rw [List.getElem?_cons_succ]; exact ih h
/-- The first place is k: it holds s, none before does. -/
theorem posN_eq {l : List α} {s : α} {k : Nat} (h : l[k]? = some s) (hb : ∀ j, j < k → l[j]? ≠ some s) : posN l s = k := by
  induction l generalizing k with
  | nil => cases h
  | cons x r ih =>
    cases k with
    | zero =>
      have hx : x = s := Option.some.inj h
      rw [posN, if_pos hx]
    | succ k =>
      have hx : x ≠ s := fun e => hb 0 (by omega) (by rw [e]; rfl)
      rw [posN, if_neg hx, ih (by rwa [List.getElem?_cons_succ] at h) (fun j hj => by have := hb (j + 1) (by omega); rwa [List.getElem?_cons_succ] at this)]
theorem posN_append {l : List α} {s : α} (h : s ∈ l) (m : List α) : posN (l ++ m) s = posN l s := by
  induction l with
  | nil => cases h
  | cons x r ih =>
    rw [List.cons_append, posN, posN]
    split
    · rfl
    · rename_i hx
      rcases List.mem_cons.1 h with e | h
      · exact absurd e.symm hx
      · rw [ih h]
theorem placeI_at {l : List α} {s : α} {k : Nat} (h : l[k]? = some s) (hb : ∀ j, j < k → l[j]? ≠ some s) : placeI l s = k := by
  have hm : s ∈ l := List.mem_iff_getElem?.2 ⟨k, h⟩
  unfold placeI; rw [if_pos hm, posN_eq h hb]
theorem placeI_none {l : List α} {s : α} (hb : ∀ j, j < l.length → l[j]? ≠ some s) : placeI l s = -1 := by
  unfold placeI
  rw [if_neg]
  intro hm
  obtain ⟨j, hj⟩ := List.mem_iff_getElem?.1 hm
  rcases Nat.lt_or_ge j l.length with h | h
  · exact hb j h hj
  · rw [List.getElem?_eq_none h] at hj; cases hj
theorem placeI_lo (l : List α) (s : α) : -1 ≤ placeI l s := by unfold placeI; split <;> omega
theorem placeI_hi (l : List α) (s : α) : placeI l s ≤ l.length := by
  unfold placeI; split
  · have := posN_le l s; omega
  · omega
theorem placeI_neg (l : List α) (s : α) : placeI l s < 0 ↔ s ∉ l := by
  unfold placeI; split
  · rename_i h
    constructor
    · intro h2; omega
    · intro h2; exact absurd h h2
  · rename_i h
    exact ⟨fun _ => h, fun _ => by omega⟩
/-- One more name. -/
def add (out : List α) (s : α) : List α := if s ∈ out then out else out ++ [s]
def namesA (out l : List α) : List α := l.foldl add out
def namesF (files : List (List α)) : List α := namesA [] files.flatten
theorem namesA_nil (out : List α) : namesA out [] = out := rfl
theorem namesA_snoc (out l : List α) (s : α) : namesA out (l ++ [s]) = add (namesA out l) s := by
  unfold namesA; rw [List.foldl_append]; rfl
theorem namesA_append (out l m : List α) : namesA out (l ++ m) = namesA (namesA out l) m := by
  unfold namesA; rw [List.foldl_append]
theorem namesA_cons (out r : List α) (s : α) : namesA out (s :: r) = namesA (add out s) r := rfl
theorem add_len (out : List α) (s : α) : (add out s).length ≤ out.length + 1 := by unfold add; split <;> simp
theorem namesA_len (l : List α) : ∀ out : List α, (namesA out l).length ≤ out.length + l.length := by
  induction l with
  | nil => intro out; exact Nat.le_refl _
  | cons s r ih =>
    intro out
    rw [namesA_cons, List.length_cons]
    have h1 := ih (add out s)
    have h2 := add_len out s
    omega
theorem mem_add (out : List α) (s x : α) : x ∈ add out s ↔ x ∈ out ∨ x = s := by
  unfold add; split
  · rename_i h
    constructor
    · exact .inl
    · rintro (h1 | rfl)
      · exact h1
      · exact h
  · rw [List.mem_append, List.mem_singleton]
theorem mem_namesA (l : List α) : ∀ (out : List α) (x : α), x ∈ namesA out l ↔ x ∈ out ∨ x ∈ l := by
  induction l with
  | nil => intro out x; rw [namesA_nil]; simp
  | cons s r ih => intro out x; rw [namesA_cons, ih, mem_add, List.mem_cons, or_assoc]
theorem add_prefix (out : List α) (s : α) : ∃ t, add out s = out ++ t := by
  unfold add; split
  · exact ⟨[], (List.append_nil _).symm⟩
  · exact ⟨[s], rfl⟩
theorem namesA_prefix (l : List α) : ∀ out : List α, ∃ t, namesA out l = out ++ t := by
  induction l with
  | nil => intro out; exact ⟨[], (List.append_nil _).symm⟩
  | cons s r ih =>
    intro out
    obtain ⟨t, ht⟩ := ih (add out s)
    obtain ⟨u, hu⟩ := add_prefix out s
    exact ⟨u ++ t, by rw [namesA_cons, ht, hu, List.append_assoc]⟩
theorem add_nodup {out : List α} (s : α) (h : out.Nodup) : (add out s).Nodup := by
  unfold add; split
  · exact h
  · rename_i hs
    rw [List.nodup_append]
    refine ⟨h, by simp, ?_⟩
    intro a ha b hb
    rw [List.mem_singleton] at hb
    subst hb
    intro e; subst e; exact hs ha
theorem namesA_nodup (l : List α) : ∀ {out : List α}, out.Nodup → (namesA out l).Nodup := by
  induction l with
  | nil => intro out h; exact h
  | cons s r ih => intro out h; rw [namesA_cons]; exact ih (add_nodup s h)
def idsF (files : List (List α)) : List (List Int) := files.map fun f => f.map (placeI (namesF files))
theorem mem_namesF {files : List (List α)} {f : List α} {s : α} (hf : f ∈ files) (hs : s ∈ f) : s ∈ namesF files :=
  (mem_namesA _ _ _).2 (.inr (List.mem_flatten.2 ⟨f, hf, hs⟩))
/-- Numbers are equal exactly if the strings are. -/
theorem placeI_inj {l : List α} {s t : α} (hs : s ∈ l) (ht : t ∈ l) : placeI l s = placeI l t ↔ s = t := by
  constructor
  · intro h
    unfold placeI at h
    rw [if_pos hs, if_pos ht] at h
    have h2 : posN l s = posN l t := by omega
    have h3 := posN_get hs
    rw [h2, posN_get ht] at h3
    exact (Option.some.inj h3).symm
  · rintro rfl; rfl
/-- The names of earlier files come first: their numbers stay. -/
theorem placeI_prefix {l : List α} {s : α} (h : s ∈ l) (m : List α) : placeI (l ++ m) s = placeI l s := by
  unfold placeI; rw [if_pos h, if_pos (List.mem_append_left _ h), posN_append h]
theorem idsF_more (files : List (List α)) (more : List α) : (idsF (files ++ [more])).take files.length = idsF files := by
  have hn : ∃ t, namesF (files ++ [more]) = namesF files ++ t := by
    unfold namesF
    rw [List.flatten_append, namesA_append]
    exact namesA_prefix _ _
  obtain ⟨t, ht⟩ := hn
  unfold idsF
  rw [List.map_append, List.take_left' (by simp), ht]
  refine List.map_congr_left fun f hf => List.map_congr_left fun s hs => ?_
  exact placeI_prefix (mem_namesF hf hs) t
/-- Spelling the numbers of a file. -/
theorem spell_place {l : List α} {s : α} (h : s ∈ l) : 0 ≤ placeI l s ∧ placeI l s < l.length ∧ l[(placeI l s).toNat]? = some s := by
  unfold placeI; rw [if_pos h]
  have := posN_lt h
  exact ⟨by omega, by omega, by rw [Int.toNat_natCast]; exact posN_get h⟩
end Nt
end Go.Proofs.Ytlnjhacchnfbkaa
