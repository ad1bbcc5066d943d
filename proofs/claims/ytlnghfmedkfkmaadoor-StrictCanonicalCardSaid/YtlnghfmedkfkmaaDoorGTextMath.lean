/-
  Plain mathematics of layer 2 (blobs and lines), over lists of bytes: no program, no memory. No conditions. Plain mathematics of layer 1 (numbers, ranges, quoted words), over lists of bytes: no program, no memory. No conditions. Plain mathematics of layer 3 (numbers for lines), over lists of any elements: no program, no memory. No conditions.
-/

namespace Go.Proofs.YtlnghfmedkfkmaaDoor
section
namespace Tx
/-- The lines of a blob. -/
def linesF : List UInt8 → List (List UInt8)
  | [] => []
  | b :: r => if b = 10 then [10] :: linesF r else match linesF r with
    | [] => [[b]]
    | x :: xs => (b :: x) :: xs
/-- Has a line a line feed at its end? -/
def endedF (l : List UInt8) : Bool := l.getLast? == some 10
/-- A line without its line feed. -/
def bareF (l : List UInt8) : List UInt8 := if endedF l then l.dropLast else l
/-- Is this a list of lines? -/
def isLine (l : List UInt8) : Bool := !l.isEmpty && !l.dropLast.contains 10
theorem linesF_lf (r : List UInt8) : linesF (10 :: r) = [10] :: linesF r := by rw [linesF, if_pos rfl]
theorem linesF_flatten (l : List UInt8) : (linesF l).flatten = l := by
  induction l with
  | nil => rfl
  | cons b r ih =>
    rw [linesF]
    split
    · rename_i h; subst h; rw [List.flatten_cons, ih]; rfl
    · split
      · rename_i h; rw [h] at ih; simp at ih; subst ih; rfl
      · rename_i x xs h; rw [h] at ih; rw [List.flatten_cons] at ih ⊢; rw [List.cons_append, ih]
/-- A first line that ends with a line feed. -/
theorem linesF_cons (x r : List UInt8) (h : (10 : UInt8) ∉ x) : linesF (x ++ 10 :: r) = (x ++ [10]) :: linesF r := by
  induction x with
  | nil => exact linesF_lf r
  | cons b x ih =>
    simp only [List.mem_cons, not_or] at h
    rw [List.cons_append, linesF, if_neg (fun e => h.1 e.symm), ih h.2]; rfl
theorem linesF_le (l : List UInt8) : (linesF l).length ≤ l.length := by
  induction l with
  | nil => exact Nat.le_refl _
  | cons b r ih =>
    rw [linesF]
    split
    · simp; exact ih
    · split
      · simp
      · rename_i x xs h; rw [h] at ih; simp at ih ⊢; omega
theorem mem_len {l : List UInt8} {x : List UInt8} (h : x ∈ linesF l) : x.length ≤ l.length := by
  have h1 := linesF_flatten l
  have : x.length ≤ ((linesF l).flatten).length := (List.sublist_flatten_of_mem h).length_le
  rw [h1] at this; exact this
theorem endedF_split (l : List UInt8) (h : endedF l = true) : l = l.dropLast ++ [10] := by
  unfold endedF at h
  simp only [beq_iff_eq] at h
  obtain ⟨ys, rfl⟩ := List.getLast?_eq_some_iff.1 h
  rw [List.dropLast_concat]
end Tx
end
section
namespace Sc

/-! ### the longest run of bytes with a property -/
def endOf (p : UInt8 → Bool) (l : List UInt8) (k : Nat) : Nat := k + ((l.drop k).takeWhile p).length
theorem drop_eq (l : List UInt8) (k : Nat) (h : k < l.length) : l.drop k = l[k] :: l.drop (k + 1) := List.drop_eq_getElem_cons h
theorem endOf_step (p : UInt8 → Bool) (l : List UInt8) (k : Nat) (h : k < l.length) (hp : p l[k] = true) : endOf p l k = endOf p l (k + 1) := by
  unfold endOf; rw [drop_eq l k h, List.takeWhile_cons, if_pos hp, List.length_cons]; omega
theorem endOf_no (p : UInt8 → Bool) (l : List UInt8) (k : Nat) (h : k < l.length) (hp : p l[k] = false) : endOf p l k = k := by
  unfold endOf; rw [drop_eq l k h, List.takeWhile_cons, if_neg (by simp [hp])]; rfl
theorem endOf_end (p : UInt8 → Bool) (l : List UInt8) (k : Nat) (h : l.length ≤ k) : endOf p l k = k := by
  unfold endOf; rw [List.drop_eq_nil_of_le h]; rfl
theorem endOf_le (p : UInt8 → Bool) (l : List UInt8) (k : Nat) (h : k ≤ l.length) : endOf p l k ≤ l.length := by
  unfold endOf
  have := (List.takeWhile_prefix p (l := l.drop k)).length_le
  rw [List.length_drop] at this; omega
theorem endOf_ge (p : UInt8 → Bool) (l : List UInt8) (k : Nat) : k ≤ endOf p l k := by unfold endOf; omega
theorem take_run (p : UInt8 → Bool) (l : List UInt8) (k : Nat) : (l.drop k).take (endOf p l k - k) = (l.drop k).takeWhile p := by
  unfold endOf
  rw [Nat.add_sub_cancel_left]
  generalize l.drop k = m
  induction m with
  | nil => rfl
  | cons a r ih =>
    rw [List.takeWhile_cons]
    split
    · simp only [List.length_cons, List.take_succ_cons, ih]
    · rfl

/-! ### numbers -/
def isDig (b : UInt8) : Bool := decide (48 ≤ b.toNat) && decide (b.toNat ≤ 57)
/-- The value of a digit's byte, as bytes are subtracted. -/
def dig (b : UInt8) : Nat := (b.toNat + 208) % 256
def maxNum : Nat := 2147483647
/-- The value of digits, behind n; none: beyond the limit. -/
def valOf : List UInt8 → Nat → Option Nat
  | [], n => some n
  | b :: r, n => if maxNum < 10 * n + dig b then none else valOf r (10 * n + dig b)
theorem valOf_le (l : List UInt8) : ∀ n m, n ≤ maxNum → valOf l n = some m → m ≤ maxNum := by
  induction l with
  | nil => intro n m h e; simp [valOf] at e; omega
  | cons b r ih =>
    intro n m h e
    rw [valOf] at e
    split at e
    · cases e
    · exact ih _ _ (by omega) e
/-- Reading digits: the value and the offset behind them. -/
def scanV : List UInt8 → Nat → Nat → Option (Nat × Nat)
  | [], n, i => some (n, i)
  | b :: r, n, i => if isDig b = true then (if maxNum < 10 * n + dig b then none else scanV r (10 * n + dig b) (i + 1)) else some (n, i)
theorem scanV_eq (l : List UInt8) : ∀ n i, scanV l n i = (valOf (l.takeWhile isDig) n).map fun v => (v, i + (l.takeWhile isDig).length) := by
  induction l with
  | nil => intro n i; simp [scanV, valOf]
  | cons b r ih =>
    intro n i
    rw [scanV, List.takeWhile_cons]
    split
    · rw [valOf]
      split
      · rfl
      · rw [ih, List.length_cons]
        have : i + 1 + (List.takeWhile isDig r).length = i + ((List.takeWhile isDig r).length + 1) := by omega
        rw [this]
    · simp [valOf]
/-- A number read at k (k not beyond the end). -/
def numAt (l : List UInt8) (k : Nat) : Option (Nat × Nat) :=
  if endOf isDig l k = k then none
  else if l[k]? = some 48 ∧ k + 1 < endOf isDig l k then none
  else scanV (l.drop k) 0 k
def numF (l : List UInt8) (k : Int) : Option (Nat × Nat) :=
  if k < 0 ∨ (l.length : Int) < k then none else numAt l k.toNat
theorem numAt_val (l : List UInt8) (k : Nat) (h1 : endOf isDig l k ≠ k) (h2 : ¬ (l[k]? = some 48 ∧ k + 1 < endOf isDig l k)) :
    numAt l k = (valOf ((l.drop k).take (endOf isDig l k - k)) 0).map fun v => (v, endOf isDig l k) := by
  unfold numAt
  rw [if_neg h1, if_neg h2, scanV_eq, take_run]
  rfl
theorem numAt_le (l : List UInt8) (k : Nat) (hk : k ≤ l.length) (n e : Nat) (h : numAt l k = some (n, e)) : n ≤ maxNum ∧ k < e ∧ e ≤ l.length := by
  by_cases h1 : endOf isDig l k = k
  · unfold numAt at h; rw [if_pos h1] at h; cases h
  by_cases h2 : l[k]? = some 48 ∧ k + 1 < endOf isDig l k
  · unfold numAt at h; rw [if_neg h1, if_pos h2] at h; cases h
  rw [numAt_val l k h1 h2] at h
  cases hv : valOf ((l.drop k).take (endOf isDig l k - k)) 0 with
  | none => rw [hv] at h; cases h
  | some v =>
    rw [hv] at h
    simp at h
    obtain ⟨rfl, rfl⟩ := h
    have := endOf_ge isDig l k
    exact ⟨valOf_le _ 0 _ (by decide) hv, by omega, endOf_le isDig l k hk⟩

/-! ### words -/
def isPlain (b : UInt8) : Bool := decide (33 ≤ b.toNat) && decide (b.toNat ≤ 126) && !(b == 34) && !(b == 92)
def quoteB (b : UInt8) : List UInt8 :=
  if b = 34 ∨ b = 92 then [92, b] else if b = 10 then [92, 110] else if b = 9 then [92, 116]
  else if b.toNat < 32 ∨ 126 < b.toNat then [92, UInt8.ofNat (48 + b.toNat / 64), UInt8.ofNat (48 + b.toNat / 8 % 8), UInt8.ofNat (48 + b.toNat % 8)]
  else [b]
def quoteF (l : List UInt8) : List UInt8 := if l ≠ [] ∧ l.all isPlain = true then l else 34 :: l.flatMap quoteB ++ [34]
/-- Three octal digits at the head. -/
def octF : List UInt8 → Option UInt8
  | a :: b :: c :: _ => if (48 ≤ a.toNat ∧ a.toNat ≤ 55) ∧ (48 ≤ b.toNat ∧ b.toNat ≤ 55) ∧ (48 ≤ c.toNat ∧ c.toNat ≤ 55) ∧ 64 * (a.toNat - 48) + 8 * (b.toNat - 48) + (c.toNat - 48) < 256
      then some (UInt8.ofNat (64 * (a.toNat - 48) + 8 * (b.toNat - 48) + (c.toNat - 48))) else none
  | _ => none
/-- One byte of a quoted word and how many bytes it takes. -/
def decB : List UInt8 → Option (UInt8 × Nat)
  | [] => none
  | c :: r => if c ≠ 92 then some (c, 1) else
    match r with
    | [] => none
    | d :: _ => if d = 34 ∨ d = 92 then some (d, 2) else if d = 110 then some (10, 2) else if d = 116 then some (9, 2) else (octF r).map fun b => (b, 4)
def runQ : Nat → List UInt8 → List UInt8 → Nat → Option (List UInt8 × Nat)
  | 0, _, _, _ => none
  | _ + 1, [], _, _ => none
  | f + 1, c :: r, acc, i => if c = 34 then some (acc, i + 1) else
    match decB (c :: r) with
    | none => none
    | some (b, k) => runQ f ((c :: r).drop k) (acc ++ [b]) (i + k)
def quotedAt (l : List UInt8) (k : Nat) : Option (List UInt8 × Nat) :=
  match runQ (l.length + 1) (l.drop (k + 1)) [] (k + 1) with
  | none => none
  | some (t, e) => if quoteF t = (l.drop k).take (e - k) then some (t, e) else none
def unqAt (l : List UInt8) (k : Nat) : Option (List UInt8 × Nat) :=
  if l[k]? = some 34 then quotedAt l k
  else if endOf isPlain l k = k then none
  else some ((l.drop k).take (endOf isPlain l k - k), endOf isPlain l k)
def unqF (l : List UInt8) (k : Int) : Option (List UInt8 × Nat) :=
  if k < 0 ∨ (l.length : Int) ≤ k then none else unqAt l k.toNat
end Sc
end
section
namespace Nt
variable {α : Type} [DecidableEq α]
/-- Where an element stands first in a list; its length where it does not. -/
def posN : List α → α → Nat
  | [], _ => 0
  | x :: r, s => if x = s then 0 else posN r s + 1
def placeI (l : List α) (s : α) : Int := if s ∈ l then (posN l s : Int) else -1
/-- One more name. -/
def add (out : List α) (s : α) : List α := if s ∈ out then out else out ++ [s]
def namesA (out l : List α) : List α := l.foldl add out
def namesF (files : List (List α)) : List α := namesA [] files.flatten
end Nt
end
end Go.Proofs.YtlnghfmedkfkmaaDoor
