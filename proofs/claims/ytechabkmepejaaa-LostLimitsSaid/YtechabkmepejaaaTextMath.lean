/-
  Plain mathematics of layer 2 (blobs and lines), over lists of bytes: no program, no memory. No conditions.
-/
namespace Go.Proofs.Ytechabkmepejaaa
namespace Tx
/-- The lines of a blob. -/
def linesF : List UInt8 → List (List UInt8)
  | [] => []
  | b :: r => if b = 10 then [10] :: linesF r else match linesF r with
    | [] => [[b]]
    | x :: xs => (b :: x) :: xs
/-- Has a line a line feed at its end? -/
def endedF (l : List UInt8) : Bool := l.getLast? == some 10
/-- A line without its line feed. -/
def bareF (l : List UInt8) : List UInt8 := if endedF l then l.dropLast else l
/-- Is this a list of lines? -/
def isLine (l : List UInt8) : Bool := !l.isEmpty && !l.dropLast.contains 10
def isListF : List (List UInt8) → Bool
  | [] => true
  | [x] => isLine x
  | x :: y :: r => isLine x && endedF x && isListF (y :: r)

theorem linesF_nil : linesF [] = [] := rfl
theorem linesF_lf (r : List UInt8) : linesF (10 :: r) = [10] :: linesF r := by rw [linesF, if_pos rfl]
theorem linesF_flatten (l : List UInt8) : (linesF l).flatten = l := by
  induction l with
  | nil => rfl
  | cons b r ih =>
    rw [linesF]
    split
    · rename_i h; subst h; rw [List.flatten_cons, ih]; rfl
    · split
      · rename_i h; rw [h] at ih; simp at ih; subst ih; rfl
      · rename_i x xs h; rw [h] at ih; rw [List.flatten_cons] at ih ⊢; rw [List.cons_append, ih]
/-- A first line that ends with a line feed. -/
theorem linesF_cons (x r : List UInt8) (h : (10 : UInt8) ∉ x) : linesF (x ++ 10 :: r) = (x ++ [10]) :: linesF r := by
  induction x with
  | nil => exact linesF_lf r
  | cons b x ih =>
    simp only [List.mem_cons, not_or] at h
    rw [List.cons_append, linesF, if_neg (fun e => h.1 e.symm), ih h.2]; rfl
/-- A blob without a line feed. -/
theorem linesF_one (x : List UInt8) (h : (10 : UInt8) ∉ x) (h0 : x ≠ []) : linesF x = [x] := by
  induction x with
  | nil => exact absurd rfl h0
  | cons b x ih =>
    simp only [List.mem_cons, not_or] at h
    rw [linesF, if_neg (fun e => h.1 e.symm)]
    by_cases hx : x = []
    · subst hx; rfl
    · rw [ih h.2 hx]
theorem linesF_append (s t : List UInt8) (h : s = [] ∨ endedF s = true) : linesF (s ++ t) = linesF s ++ linesF t := by
  induction s with
  | nil => rfl
  | cons b s ih =>
    have hs : s = [] ∨ endedF s = true := by
      rcases h with h | h
      · cases h
      · by_cases e : s = []
        · exact .inl e
        · right
          obtain ⟨c, s', rfl⟩ := List.exists_cons_of_ne_nil e
          unfold endedF at h ⊢; rw [List.getLast?_cons_cons] at h; exact h
    rw [List.cons_append, linesF, linesF]
    by_cases hb : b = 10
    · rw [if_pos hb, if_pos hb, ih hs]; rfl
    · rw [if_neg hb, if_neg hb, ih hs]
      cases hl : linesF s with
      | nil =>
        exfalso
        have hf := linesF_flatten s
        rw [hl] at hf
        simp at hf
        subst hf
        rcases h with h | h
        · cases h
        · unfold endedF at h; simp at h; exact hb h
      | cons x xs => rfl
/-- How many lines. -/
def lfs (l : List UInt8) : Nat := l.count 10
theorem linesF_len (l : List UInt8) : (linesF l).length = lfs l + if l.isEmpty || endedF l then 0 else 1 := by
  induction l with
  | nil => rfl
  | cons b r ih =>
    rw [linesF]
    unfold lfs at ih ⊢
    by_cases hb : b = 10
    · subst hb
      rw [if_pos rfl, List.length_cons, ih, List.count_cons_self]
      cases r with
      | nil => rfl
      | cons c r =>
        unfold endedF
        rw [List.getLast?_cons_cons]
        simp only [List.isEmpty_cons, Bool.false_or]
        omega
    · rw [if_neg hb, List.count_cons_of_ne hb]
      cases r with
      | nil => simp [linesF, endedF, hb]
      | cons c r =>
        have hne : linesF (c :: r) ≠ [] := by
          intro e
          have := linesF_flatten (c :: r)
          rw [e] at this; cases this
        obtain ⟨x, xs, hx⟩ := List.exists_cons_of_ne_nil hne
        rw [hx] at ih ⊢
        unfold endedF at ih ⊢
        rw [List.getLast?_cons_cons]
        simp only [List.isEmpty_cons, Bool.false_or, List.length_cons] at ih ⊢
        exact ih
theorem linesF_le (l : List UInt8) : (linesF l).length ≤ l.length := by
  induction l with
  | nil => exact Nat.le_refl _
  | cons b r ih =>
    rw [linesF]
    split
    · simp; exact ih
    · split
      · simp
      · rename_i x xs h; rw [h] at ih; simp at ih ⊢; omega
theorem linesF_mem_ne (l : List UInt8) : ∀ x ∈ linesF l, x ≠ [] := by
  induction l with
  | nil => intro x h; cases h
  | cons b r ih =>
    intro x h
    rw [linesF] at h
    split at h
    · rcases List.mem_cons.1 h with rfl | h
      · simp
      · exact ih x h
    · split at h
      · simp at h; subst h; simp
      · rename_i y ys hy
        rcases List.mem_cons.1 h with rfl | h
        · simp
        · exact ih x (by rw [hy]; exact List.mem_cons_of_mem _ h)
theorem mem_len {l : List UInt8} {x : List UInt8} (h : x ∈ linesF l) : x.length ≤ l.length := by
  have h1 := linesF_flatten l
  have : x.length ≤ ((linesF l).flatten).length := (List.sublist_flatten_of_mem h).length_le
  rw [h1] at this; exact this
theorem isListF_cons (x : List UInt8) (r : List (List UInt8)) : isListF (x :: r) = (isLine x && (r.isEmpty || endedF x) && isListF r) := by
  cases r with
  | nil => simp [isListF]
  | cons y r => simp [isListF]
theorem endedF_split (l : List UInt8) (h : endedF l = true) : l = l.dropLast ++ [10] := by
  unfold endedF at h
  simp only [beq_iff_eq] at h
  obtain ⟨ys, rfl⟩ := List.getLast?_eq_some_iff.1 h
  rw [List.dropLast_concat]
theorem linesF_isList (l : List UInt8) : isListF (linesF l) = true := by
  induction l with
  | nil => rfl
  | cons b r ih =>
    rw [linesF]
    split
    · rw [isListF_cons, ih]
      have : isLine [10] = true := by decide
      have h2 : endedF [10] = true := by decide
      rw [this, h2]; simp
    · rename_i hb
      split
      · simp [isListF, isLine]
      · rename_i x xs h
        rw [h, isListF_cons] at ih
        simp only [Bool.and_eq_true] at ih
        rw [isListF_cons]
        simp only [Bool.and_eq_true]
        have hx : x ≠ [] := by
          intro e; rw [e] at ih; simp [isLine] at ih
        obtain ⟨c, x', rfl⟩ := List.exists_cons_of_ne_nil hx
        refine ⟨⟨?_, ?_⟩, ih.2⟩
        · have h1 := ih.1.1
          unfold isLine at h1 ⊢
          simp at h1 ⊢
          exact ⟨fun e => hb e.symm, h1⟩
        · have h2 := ih.1.2
          unfold endedF at h2 ⊢
          rw [List.getLast?_cons_cons]; exact h2
/-- The lines of the blob of a list of lines. -/
theorem linesF_join (ls : List (List UInt8)) (h : isListF ls = true) : linesF ls.flatten = ls := by
  induction ls with
  | nil => rfl
  | cons x r ih =>
    rw [isListF_cons] at h
    simp only [Bool.and_eq_true] at h
    obtain ⟨⟨h1, h2⟩, h3⟩ := h
    unfold isLine at h1
    simp only [Bool.and_eq_true, Bool.not_eq_true', List.isEmpty_eq_false_iff] at h1
    have hno : (10 : UInt8) ∉ x.dropLast := by
      intro hm
      have := List.contains_iff_mem.2 hm
      rw [h1.2] at this; cases this
    rw [List.flatten_cons]
    by_cases he : endedF x = true
    · have hx := endedF_split x he
      rw [hx, List.append_assoc, List.singleton_append, linesF_cons _ _ hno, ih h3]
    · have hr : r = [] := by
        rcases Bool.or_eq_true _ _ ▸ h2 with h2 | h2
        · exact List.isEmpty_iff.1 h2
        · exact absurd h2 he
      subst hr
      rw [List.flatten_nil, List.append_nil]
      refine linesF_one x ?_ h1.1
      intro hm
      rw [← List.dropLast_concat_getLast h1.1] at hm
      rcases List.mem_append.1 hm with hm | hm
      · exact hno hm
      · simp only [List.mem_singleton] at hm
        apply he
        unfold endedF
        rw [List.getLast?_eq_some_getLast h1.1, ← hm]; rfl

/-- The error of a blob: 0 or 1. -/
def checkF (l : List UInt8) : Int := if 1048576 < l.length ∨ 4096 < (linesF l).length then 1 else 0
theorem checkF_no (l : List UInt8) (h1 : l.length ≤ 1048576) (h2 : (linesF l).length ≤ 4096) : checkF l = 0 := by
  unfold checkF; rw [if_neg (by omega)]
theorem checkF_small (l : List UInt8) (h1 : l.length ≤ 4096) : checkF l = 0 :=
  checkF_no l (by omega) (Nat.le_trans (linesF_le l) h1)
end Tx
end Go.Proofs.Ytechabkmepejaaa
