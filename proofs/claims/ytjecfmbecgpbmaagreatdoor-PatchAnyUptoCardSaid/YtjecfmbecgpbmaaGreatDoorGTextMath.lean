/-
  Plain mathematics of layer 2 (blobs and lines), over lists of bytes: no program, no memory. No conditions. Plain mathematics of layer 1 (numbers, ranges, quoted words), over lists of bytes: no program, no memory. No conditions. Plain mathematics of layer 3 (numbers for lines), over lists of any elements: no program, no memory. No conditions.
-/

namespace Go.Proofs.YtjecfmbecgpbmaaGreatDoor
section
namespace Tx
/-- The lines of a blob. -/
def linesF : List UInt8 → List (List UInt8)
  | [] => []
  | b :: r => if b = 10 then [10] :: linesF r else match linesF r with
    | [] => [[b]]
    | x :: xs => (b :: x) :: xs
/-- Has a line a line feed at its end? -/
def endedF (l : List UInt8) : Bool := l.getLast? == some 10
/-- A line without its line feed. -/
def bareF (l : List UInt8) : List UInt8 := if endedF l then l.dropLast else l
/-- Is this a list of lines? -/
def isLine (l : List UInt8) : Bool := !l.isEmpty && !l.dropLast.contains 10
def isListF : List (List UInt8) → Bool
  | [] => true
  | [x] => isLine x
  | x :: y :: r => isLine x && endedF x && isListF (y :: r)

theorem linesF_lf (r : List UInt8) : linesF (10 :: r) = [10] :: linesF r := by rw [linesF, if_pos rfl]
theorem linesF_flatten (l : List UInt8) : (linesF l).flatten = l := by
  induction l with
  | nil => rfl
  | cons b r ih =>
    rw [linesF]
    split
    · rename_i h; subst h; rw [List.flatten_cons, ih]; rfl
    · split
      · rename_i h; rw [h] at ih; simp at ih; subst ih; rfl
      · rename_i x xs h; rw [h] at ih; rw [List.flatten_cons] at ih ⊢; rw [List.cons_append, ih]
/-- A first line that ends with a line feed. -/
theorem linesF_cons (x r : List UInt8) (h : (10 : UInt8) ∉ x) : linesF (x ++ 10 :: r) = (x ++ [10]) :: linesF r := by
  induction x with
  | nil => exact linesF_lf r
  | cons b x ih =>
    simp only [List.mem_cons, not_or] at h
    rw [List.cons_append, linesF, if_neg (fun e => h.1 e.symm), ih h.2]; rfl
/-- A blob without a line feed. -/
theorem linesF_one (x : List UInt8) (h : (10 : UInt8) ∉ x) (h0 : x ≠ []) : linesF x = [x] := by
  induction x with
  | nil => exact absurd rfl h0
  | cons b x ih =>
    simp only [List.mem_cons, not_or] at h
    rw [linesF, if_neg (fun e => h.1 e.symm)]
    by_cases hx : x = []
    · subst hx; rfl
    · rw [ih h.2 hx]
/-- How many lines. -/
def lfs (l : List UInt8) : Nat := l.count 10
theorem linesF_len (l : List UInt8) : (linesF l).length = lfs l + if l.isEmpty || endedF l then 0 else 1 := by
  induction l with
  | nil => rfl
  | cons b r ih =>
    rw [linesF]
    unfold lfs at ih ⊢
    by_cases hb : b = 10
    · subst hb
      rw [if_pos rfl, List.length_cons, ih, List.count_cons_self]
      cases r with
      | nil => rfl
      | cons c r =>
        unfold endedF
        rw [List.getLast?_cons_cons]
        simp only [List.isEmpty_cons, Bool.false_or]
        omega
    · rw [if_neg hb, List.count_cons_of_ne hb]
      cases r with
      | nil => simp [linesF, endedF, hb]
      | cons c r =>
        have hne : linesF (c :: r) ≠ [] := by
          intro e
          have := linesF_flatten (c :: r)
          rw [e] at this; cases this
        obtain ⟨x, xs, hx⟩ := List.exists_cons_of_ne_nil hne
        rw [hx] at ih ⊢
        unfold endedF at ih ⊢
        rw [List.getLast?_cons_cons]
        simp only [List.isEmpty_cons, Bool.false_or, List.length_cons] at ih ⊢
        exact ih
theorem linesF_le (l : List UInt8) : (linesF l).length ≤ l.length := by
  induction l with
  | nil => exact Nat.le_refl _
  | cons b r ih =>
    rw [linesF]
    split
    · simp; exact ih
    · split
      · simp
      · rename_i x xs h; rw [h] at ih; simp at ih ⊢; omega
theorem mem_len {l : List UInt8} {x : List UInt8} (h : x ∈ linesF l) : x.length ≤ l.length := by
  have h1 := linesF_flatten l
  have : x.length ≤ ((linesF l).flatten).length := (List.sublist_flatten_of_mem h).length_le
  rw [h1] at this; exact this
theorem isListF_cons (x : List UInt8) (r : List (List UInt8)) : isListF (x :: r) = (isLine x && (r.isEmpty || endedF x) && isListF r) := by
  cases r with
  | nil => simp [isListF]
  | cons y r => simp [isListF]
theorem endedF_split (l : List UInt8) (h : endedF l = true) : l = l.dropLast ++ [10] := by
  unfold endedF at h
  simp only [beq_iff_eq] at h
  obtain ⟨ys, rfl⟩ := List.getLast?_eq_some_iff.1 h
  rw [List.dropLast_concat]
theorem linesF_isList (l : List UInt8) : isListF (linesF l) = true := by
  induction l with
  | nil => rfl
  | cons b r ih =>
    rw [linesF]
    split
    · rw [isListF_cons, ih]
      have : isLine [10] = true := by decide
      have h2 : endedF [10] = true := by decide
      rw [this, h2]; simp
    · rename_i hb
      split
      · simp [isListF, isLine]
      · rename_i x xs h
        rw [h, isListF_cons] at ih
        simp only [Bool.and_eq_true] at ih
        rw [isListF_cons]
        simp only [Bool.and_eq_true]
        have hx : x ≠ [] := by
          intro e; rw [e] at ih; simp [isLine] at ih
        obtain ⟨c, x', rfl⟩ := List.exists_cons_of_ne_nil hx
        refine ⟨⟨?_, ?_⟩, ih.2⟩
        · have h1 := ih.1.1
          unfold isLine at h1 ⊢
          simp at h1 ⊢
          exact ⟨fun e => hb e.symm, h1⟩
        · have h2 := ih.1.2
          unfold endedF at h2 ⊢
          rw [List.getLast?_cons_cons]; exact h2
/-- The lines of the blob of a list of lines. -/
theorem linesF_join (ls : List (List UInt8)) (h : isListF ls = true) : linesF ls.flatten = ls := by
  induction ls with
  | nil => rfl
  | cons x r ih =>
    rw [isListF_cons] at h
    simp only [Bool.and_eq_true] at h
    obtain ⟨⟨h1, h2⟩, h3⟩ := h
    unfold isLine at h1
    simp only [Bool.and_eq_true, Bool.not_eq_true', List.isEmpty_eq_false_iff] at h1
    have hno : (10 : UInt8) ∉ x.dropLast := by
      intro hm
      have := List.contains_iff_mem.2 hm
      rw [h1.2] at this; cases this
    rw [List.flatten_cons]
    by_cases he : endedF x = true
    · have hx := endedF_split x he
      rw [hx, List.append_assoc, List.singleton_append, linesF_cons _ _ hno, ih h3]
    · have hr : r = [] := by
        rcases Bool.or_eq_true _ _ ▸ h2 with h2 | h2
        · exact List.isEmpty_iff.1 h2
        · exact absurd h2 he
      subst hr
      rw [List.flatten_nil, List.append_nil]
      refine linesF_one x ?_ h1.1
      intro hm
      rw [← List.dropLast_concat_getLast h1.1] at hm
      rcases List.mem_append.1 hm with hm | hm
      · exact hno hm
      · simp only [List.mem_singleton] at hm
        apply he
        unfold endedF
        rw [List.getLast?_eq_some_getLast h1.1, ← hm]; rfl

/-- The error of a blob: 0 or 1. -/
def checkF (l : List UInt8) : Int := if 1048576 < l.length ∨ 4096 < (linesF l).length then 1 else 0
theorem checkF_no (l : List UInt8) (h1 : l.length ≤ 1048576) (h2 : (linesF l).length ≤ 4096) : checkF l = 0 := by
  unfold checkF; rw [if_neg (by omega)]
theorem checkF_small (l : List UInt8) (h1 : l.length ≤ 4096) : checkF l = 0 :=
  checkF_no l (by omega) (Nat.le_trans (linesF_le l) h1)
end Tx
end
section
namespace Sc

/-! ### the longest run of bytes with a property -/
def endOf (p : UInt8 → Bool) (l : List UInt8) (k : Nat) : Nat := k + ((l.drop k).takeWhile p).length
theorem drop_eq (l : List UInt8) (k : Nat) (h : k < l.length) : l.drop k = l[k] :: l.drop (k + 1) := List.drop_eq_getElem_cons h
theorem endOf_step (p : UInt8 → Bool) (l : List UInt8) (k : Nat) (h : k < l.length) (hp : p l[k] = true) : endOf p l k = endOf p l (k + 1) := by
  unfold endOf; rw [drop_eq l k h, List.takeWhile_cons, if_pos hp, List.length_cons]; omega
theorem endOf_no (p : UInt8 → Bool) (l : List UInt8) (k : Nat) (h : k < l.length) (hp : p l[k] = false) : endOf p l k = k := by
  unfold endOf; rw [drop_eq l k h, List.takeWhile_cons, if_neg (by simp [hp])]; rfl
theorem endOf_end (p : UInt8 → Bool) (l : List UInt8) (k : Nat) (h : l.length ≤ k) : endOf p l k = k := by
  unfold endOf; rw [List.drop_eq_nil_of_le h]; rfl
/-! ### numbers -/
def isDig (b : UInt8) : Bool := decide (48 ≤ b.toNat) && decide (b.toNat ≤ 57)
/-- The value of a digit's byte, as bytes are subtracted. -/
def dig (b : UInt8) : Nat := (b.toNat + 208) % 256
def maxNum : Nat := 2147483647
/-- Reading digits: the value and the offset behind them. -/
def scanV : List UInt8 → Nat → Nat → Option (Nat × Nat)
  | [], n, i => some (n, i)
  | b :: r, n, i => if isDig b = true then (if maxNum < 10 * n + dig b then none else scanV r (10 * n + dig b) (i + 1)) else some (n, i)
/-- A number read at k (k not beyond the end). -/
def numAt (l : List UInt8) (k : Nat) : Option (Nat × Nat) :=
  if endOf isDig l k = k then none
  else if l[k]? = some 48 ∧ k + 1 < endOf isDig l k then none
  else scanV (l.drop k) 0 k
/-! ### words -/
def isPlain (b : UInt8) : Bool := decide (33 ≤ b.toNat) && decide (b.toNat ≤ 126) && !(b == 34) && !(b == 92)
def quoteB (b : UInt8) : List UInt8 :=
  if b = 34 ∨ b = 92 then [92, b] else if b = 10 then [92, 110] else if b = 9 then [92, 116]
  else if b.toNat < 32 ∨ 126 < b.toNat then [92, UInt8.ofNat (48 + b.toNat / 64), UInt8.ofNat (48 + b.toNat / 8 % 8), UInt8.ofNat (48 + b.toNat % 8)]
  else [b]
def quoteF (l : List UInt8) : List UInt8 := if l ≠ [] ∧ l.all isPlain = true then l else 34 :: l.flatMap quoteB ++ [34]
end Sc
end
section
namespace Nt
variable {α : Type} [DecidableEq α]
/-- Where an element stands first in a list; its length where it does not. -/
def posN : List α → α → Nat
  | [], _ => 0
  | x :: r, s => if x = s then 0 else posN r s + 1
def placeI (l : List α) (s : α) : Int := if s ∈ l then (posN l s : Int) else -1
theorem posN_get {l : List α} {s : α} (h : s ∈ l) : l[posN l s]? = some s := by
  induction l with
  | nil => cases h
  | cons x r ih =>
    rw [posN]
    split
    · rename_i hx; rw [hx]; rfl
    · rename_i hx
      rcases List.mem_cons.1 h with e | h
      · exact absurd e.symm hx
      · rw [List.getElem?_cons_succ]; exact ih h
/-- The first place is k: it holds s, none before does. -/
theorem posN_eq {l : List α} {s : α} {k : Nat} (h : l[k]? = some s) (hb : ∀ j, j < k → l[j]? ≠ some s) : posN l s = k := by
  induction l generalizing k with
  | nil => cases h
  | cons x r ih =>
    cases k with
    | zero =>
      have hx : x = s := Option.some.inj h
      rw [posN, if_pos hx]
    | succ k =>
      have hx : x ≠ s := fun e => hb 0 (by omega) (by rw [e]; rfl)
      rw [posN, if_neg hx, ih (by rwa [List.getElem?_cons_succ] at h) (fun j hj => by have := hb (j + 1) (by omega); rwa [List.getElem?_cons_succ] at this)]
theorem placeI_at {l : List α} {s : α} {k : Nat} (h : l[k]? = some s) (hb : ∀ j, j < k → l[j]? ≠ some s) : placeI l s = k := by
  have hm : s ∈ l := List.mem_iff_getElem?.2 ⟨k, h⟩
  unfold placeI; rw [if_pos hm, posN_eq h hb]
theorem placeI_none {l : List α} {s : α} (hb : ∀ j, j < l.length → l[j]? ≠ some s) : placeI l s = -1 := by
  unfold placeI
  rw [if_neg]
  intro hm
  obtain ⟨j, hj⟩ := List.mem_iff_getElem?.1 hm
  rcases Nat.lt_or_ge j l.length with h | h
  · exact hb j h hj
  · rw [List.getElem?_eq_none h] at hj; cases hj
theorem placeI_neg (l : List α) (s : α) : placeI l s < 0 ↔ s ∉ l := by
  unfold placeI; split
  · rename_i h
    constructor
    · intro h2; omega
    · intro h2; exact absurd h h2
  · rename_i h
    exact ⟨fun _ => h, fun _ => by omega⟩
/-- One more name. -/
def add (out : List α) (s : α) : List α := if s ∈ out then out else out ++ [s]
def namesA (out l : List α) : List α := l.foldl add out
def namesF (files : List (List α)) : List α := namesA [] files.flatten
theorem namesA_nil (out : List α) : namesA out [] = out := rfl
theorem namesA_snoc (out l : List α) (s : α) : namesA out (l ++ [s]) = add (namesA out l) s := by
  unfold namesA; rw [List.foldl_append]; rfl
theorem namesA_cons (out r : List α) (s : α) : namesA out (s :: r) = namesA (add out s) r := rfl
theorem add_len (out : List α) (s : α) : (add out s).length ≤ out.length + 1 := by unfold add; split <;> simp
theorem namesA_len (l : List α) : ∀ out : List α, (namesA out l).length ≤ out.length + l.length := by
  induction l with
  | nil => intro out; exact Nat.le_refl _
  | cons s r ih =>
    intro out
    rw [namesA_cons, List.length_cons]
    have h1 := ih (add out s)
    have h2 := add_len out s
    omega
theorem mem_add (out : List α) (s x : α) : x ∈ add out s ↔ x ∈ out ∨ x = s := by
  unfold add; split
  · rename_i h
    constructor
    · exact .inl
    · rintro (h1 | rfl)
      · exact h1
      · exact h
  · rw [List.mem_append, List.mem_singleton]
theorem mem_namesA (l : List α) : ∀ (out : List α) (x : α), x ∈ namesA out l ↔ x ∈ out ∨ x ∈ l := by
  induction l with
  | nil => intro out x; rw [namesA_nil]; simp
  | cons s r ih => intro out x; rw [namesA_cons, ih, mem_add, List.mem_cons, or_assoc]
def idsF (files : List (List α)) : List (List Int) := files.map fun f => f.map (placeI (namesF files))
theorem mem_namesF {files : List (List α)} {f : List α} {s : α} (hf : f ∈ files) (hs : s ∈ f) : s ∈ namesF files :=
  (mem_namesA _ _ _).2 (.inr (List.mem_flatten.2 ⟨f, hf, hs⟩))
/-- Numbers are equal exactly if the strings are. -/
theorem placeI_inj {l : List α} {s t : α} (hs : s ∈ l) (ht : t ∈ l) : placeI l s = placeI l t ↔ s = t := by
  constructor
  · intro h
    unfold placeI at h
    rw [if_pos hs, if_pos ht] at h
    have h2 : posN l s = posN l t := by omega
    have h3 := posN_get hs
    rw [h2, posN_get ht] at h3
    exact (Option.some.inj h3).symm
  · rintro rfl; rfl
end Nt
end
end Go.Proofs.YtjecfmbecgpbmaaGreatDoor
