/- Facts; each states its conditions. -/
import Derived.Lib.ItoaNum
namespace Go.Proofs.YtjecfmbecgpbmaaGreatDoor
section
section
namespace Tx
def linesF : List UInt8 → List (List UInt8)
 | [] => []
 | b :: r => if b = 10 then [10] :: linesF r else match linesF r with
   | [] => [[b]]
   | x :: xs => (b :: x) :: xs
def endedF (l : List UInt8) : Bool := l.getLast? == some 10
def bareF (l : List UInt8) : List UInt8 := if endedF l then l.dropLast else l
def isLine (l : List UInt8) : Bool := !l.isEmpty && !l.dropLast.contains 10
def isListF : List (List UInt8) → Bool
 | [] => true
 | [x] => isLine x
 | x :: y :: r => isLine x && endedF x && isListF (y :: r)
theorem linesF_lf (r : List UInt8) : linesF (10 :: r) = [10] :: linesF r := by rw [linesF, if_pos rfl]
theorem linesF_flatten (l : List UInt8) : (linesF l).flatten = l := by
 induction l with
 | nil => rfl
 | cons b r ih =>
   rw [linesF]
   split
   · rename_i h; subst h; rw [List.flatten_cons, ih]; rfl
   · split
     · rename_i h; rw [h] at ih; simp at ih; subst ih; rfl
     · rename_i x xs h; rw [h] at ih; rw [List.flatten_cons] at ih ⊢; rw [List.cons_append, ih]
theorem linesF_cons (x r : List UInt8) (h : (10 : UInt8) ∉ x) : linesF (x ++ 10 :: r) = (x ++ [10]) :: linesF r := by
 induction x with
 | nil => exact linesF_lf r
 | cons b x ih =>
   simp only [List.mem_cons, not_or] at h
   rw [List.cons_append, linesF, if_neg (fun e => h.1 e.symm), ih h.2]; rfl
theorem linesF_one (x : List UInt8) (h : (10 : UInt8) ∉ x) (h0 : x ≠ []) : linesF x = [x] := by
 induction x with
 | nil => exact absurd rfl h0
 | cons b x ih =>
   simp only [List.mem_cons, not_or] at h
   rw [linesF, if_neg (fun e => h.1 e.symm)]
   by_cases hx : x = []
   · subst hx; rfl
   · rw [ih h.2 hx]
def lfs (l : List UInt8) : Nat := l.count 10
theorem linesF_len (l : List UInt8) : (linesF l).length = lfs l + if l.isEmpty || endedF l then 0 else 1 := by
 induction l with
 | nil => rfl
 | cons b r ih =>
   rw [linesF]
   unfold lfs at ih ⊢
   by_cases hb : b = 10
   · subst hb
     rw [if_pos rfl, List.length_cons, ih, List.count_cons_self]
     cases r with
     | nil => rfl
     | cons c r =>
       unfold endedF
       rw [List.getLast?_cons_cons]
       simp only [List.isEmpty_cons, Bool.false_or]
       omega
   · rw [if_neg hb, List.count_cons_of_ne hb]
     cases r with
     | nil => simp [linesF, endedF, hb]
     | cons c r =>
       have hne : linesF (c :: r) ≠ [] := by
        intro e
        have := linesF_flatten (c :: r)
        rw [e] at this; cases this
       obtain ⟨x, xs, hx⟩ := List.exists_cons_of_ne_nil hne
       rw [hx] at ih ⊢
       unfold endedF at ih ⊢
       rw [List.getLast?_cons_cons]
       simp only [List.isEmpty_cons, Bool.false_or, List.length_cons] at ih ⊢
       exact ih
theorem linesF_le (l : List UInt8) : (linesF l).length ≤ l.length := by
 induction l with
 | nil => exact Nat.le_refl _
 | cons b r ih =>
   rw [linesF]
   split
   · simp; exact ih
   · split
     · simp
     · rename_i x xs h; rw [h] at ih; simp at ih ⊢; omega
theorem mem_len {l : List UInt8} {x : List UInt8} (h : x ∈ linesF l) : x.length ≤ l.length := by
 have h1 := linesF_flatten l
 have : x.length ≤ ((linesF l).flatten).length := (List.sublist_flatten_of_mem h).length_le
 rw [h1] at this; exact this
theorem isListF_cons (x : List UInt8) (r : List (List UInt8)) : isListF (x :: r) = (isLine x && (r.isEmpty || endedF x) && isListF r) := by
 cases r with
 | nil => simp [isListF]
 | cons y r => simp [isListF]
theorem endedF_split (l : List UInt8) (h : endedF l = true) : l = l.dropLast ++ [10] := by
 unfold endedF at h
 simp only [beq_iff_eq] at h
 obtain ⟨ys, rfl⟩ := List.getLast?_eq_some_iff.1 h
 rw [List.dropLast_concat]
theorem linesF_isList (l : List UInt8) : isListF (linesF l) = true := by
 induction l with
 | nil => rfl
 | cons b r ih =>
   rw [linesF]
   split
   · rw [isListF_cons, ih]
     have : isLine [10] = true := by decide
     have h2 : endedF [10] = true := by decide
     rw [this, h2]; simp
   · rename_i hb
     split
     · simp [isListF, isLine]
     · rename_i x xs h
       rw [h, isListF_cons] at ih
       simp only [Bool.and_eq_true] at ih
       rw [isListF_cons]
       simp only [Bool.and_eq_true]
       have hx : x ≠ [] := by
        intro e; rw [e] at ih; simp [isLine] at ih
       obtain ⟨c, x', rfl⟩ := List.exists_cons_of_ne_nil hx
       refine ⟨⟨?_, ?_⟩, ih.2⟩
       · have h1 := ih.1.1
         unfold isLine at h1 ⊢
         simp at h1 ⊢
         exact ⟨fun e => hb e.symm, h1⟩
       · have h2 := ih.1.2
         unfold endedF at h2 ⊢
         rw [List.getLast?_cons_cons]; exact h2
theorem linesF_join (ls : List (List UInt8)) (h : isListF ls = true) : linesF ls.flatten = ls := by
 induction ls with
 | nil => rfl
 | cons x r ih =>
   rw [isListF_cons] at h
   simp only [Bool.and_eq_true] at h
   obtain ⟨⟨h1, h2⟩, h3⟩ := h
   unfold isLine at h1
   simp only [Bool.and_eq_true, Bool.not_eq_true', List.isEmpty_eq_false_iff] at h1
   have hno : (10 : UInt8) ∉ x.dropLast := by
    intro hm
    have := List.contains_iff_mem.2 hm
    rw [h1.2] at this; cases this
   rw [List.flatten_cons]
   by_cases he : endedF x = true
   · have hx := endedF_split x he
     rw [hx, List.append_assoc, List.singleton_append, linesF_cons _ _ hno, ih h3]
   · have hr : r = [] := by
      rcases Bool.or_eq_true _ _ ▸ h2 with h2 | h2
      · exact List.isEmpty_iff.1 h2
      · exact absurd h2 he
     subst hr
     rw [List.flatten_nil, List.append_nil]
     refine linesF_one x ?_ h1.1
     intro hm
     rw [← List.dropLast_concat_getLast h1.1] at hm
     rcases List.mem_append.1 hm with hm | hm
     · exact hno hm
     · simp only [List.mem_singleton] at hm
       apply he
       unfold endedF
       rw [List.getLast?_eq_some_getLast h1.1, ← hm]; rfl
def checkF (l : List UInt8) : Int := if 1048576 < l.length ∨ 4096 < (linesF l).length then 1 else 0
theorem checkF_no (l : List UInt8) (h1 : l.length ≤ 1048576) (h2 : (linesF l).length ≤ 4096) : checkF l = 0 := by
 unfold checkF; rw [if_neg (by omega)]
theorem checkF_small (l : List UInt8) (h1 : l.length ≤ 4096) : checkF l = 0 :=
 checkF_no l (by omega) (Nat.le_trans (linesF_le l) h1)
end Tx
end
section
namespace Sc
/-! ### the longest run of bytes with a property -/
def endOf (p : UInt8 → Bool) (l : List UInt8) (k : Nat) : Nat := k + ((l.drop k).takeWhile p).length
theorem drop_eq (l : List UInt8) (k : Nat) (h : k < l.length) : l.drop k = l[k] :: l.drop (k + 1) := List.drop_eq_getElem_cons h
theorem endOf_step (p : UInt8 → Bool) (l : List UInt8) (k : Nat) (h : k < l.length) (hp : p l[k] = true) : endOf p l k = endOf p l (k + 1) := by
 unfold endOf; rw [drop_eq l k h, List.takeWhile_cons, if_pos hp, List.length_cons]; omega
theorem endOf_no (p : UInt8 → Bool) (l : List UInt8) (k : Nat) (h : k < l.length) (hp : p l[k] = false) : endOf p l k = k := by
 unfold endOf; rw [drop_eq l k h, List.takeWhile_cons, if_neg (by simp [hp])]; rfl
theorem endOf_end (p : UInt8 → Bool) (l : List UInt8) (k : Nat) (h : l.length ≤ k) : endOf p l k = k := by
 unfold endOf; rw [List.drop_eq_nil_of_le h]; rfl
theorem endOf_le (p : UInt8 → Bool) (l : List UInt8) (k : Nat) (h : k ≤ l.length) : endOf p l k ≤ l.length := by
 unfold endOf
 have := (List.takeWhile_prefix p (l := l.drop k)).length_le
 rw [List.length_drop] at this; omega
theorem endOf_ge (p : UInt8 → Bool) (l : List UInt8) (k : Nat) : k ≤ endOf p l k := by unfold endOf; omega
theorem take_run (p : UInt8 → Bool) (l : List UInt8) (k : Nat) : (l.drop k).take (endOf p l k - k) = (l.drop k).takeWhile p := by
 unfold endOf
 rw [Nat.add_sub_cancel_left]
 generalize l.drop k = m
 induction m with
 | nil => rfl
 | cons a r ih =>
   rw [List.takeWhile_cons]
   split
   · simp only [List.length_cons, List.take_succ_cons, ih]
   · rfl
/-! ### numbers -/
def isDig (b : UInt8) : Bool := decide (48 ≤ b.toNat) && decide (b.toNat ≤ 57)
def dig (b : UInt8) : Nat := (b.toNat + 208) % 256
def maxNum : Nat := 2147483647
def valOf : List UInt8 → Nat → Option Nat
 | [], n => some n
 | b :: r, n => if maxNum < 10 * n + dig b then none else valOf r (10 * n + dig b)
theorem valOf_le (l : List UInt8) : ∀ n m, n ≤ maxNum → valOf l n = some m → m ≤ maxNum := by
 induction l with
 | nil => intro n m h e; simp [valOf] at e; omega
 | cons b r ih =>
   intro n m h e
   rw [valOf] at e
   split at e
   · cases e
   · exact ih _ _ (by omega) e
def scanV : List UInt8 → Nat → Nat → Option (Nat × Nat)
 | [], n, i => some (n, i)
 | b :: r, n, i => if isDig b = true then (if maxNum < 10 * n + dig b then none else scanV r (10 * n + dig b) (i + 1)) else some (n, i)
theorem scanV_eq (l : List UInt8) : ∀ n i, scanV l n i = (valOf (l.takeWhile isDig) n).map fun v => (v, i + (l.takeWhile isDig).length) := by
 induction l with
 | nil => intro n i; simp [scanV, valOf]
 | cons b r ih =>
   intro n i
   rw [scanV, List.takeWhile_cons]
   split
   · rw [valOf]
     split
     · rfl
     · rw [ih, List.length_cons]
       have : i + 1 + (List.takeWhile isDig r).length = i + ((List.takeWhile isDig r).length + 1) := by omega
       rw [this]
   · simp [valOf]
def numAt (l : List UInt8) (k : Nat) : Option (Nat × Nat) :=
 if endOf isDig l k = k then none
 else if l[k]? = some 48 ∧ k + 1 < endOf isDig l k then none
 else scanV (l.drop k) 0 k
def numF (l : List UInt8) (k : Int) : Option (Nat × Nat) :=
 if k < 0 ∨ (l.length : Int) < k then none else numAt l k.toNat
theorem numAt_val (l : List UInt8) (k : Nat) (h1 : endOf isDig l k ≠ k) (h2 : ¬ (l[k]? = some 48 ∧ k + 1 < endOf isDig l k)) :
 numAt l k = (valOf ((l.drop k).take (endOf isDig l k - k)) 0).map fun v => (v, endOf isDig l k) := by
 unfold numAt
 rw [if_neg h1, if_neg h2, scanV_eq, take_run]
 rfl
theorem numAt_le (l : List UInt8) (k : Nat) (hk : k ≤ l.length) (n e : Nat) (h : numAt l k = some (n, e)) : n ≤ maxNum ∧ k < e ∧ e ≤ l.length := by
 by_cases h1 : endOf isDig l k = k
 · unfold numAt at h; rw [if_pos h1] at h; cases h
 by_cases h2 : l[k]? = some 48 ∧ k + 1 < endOf isDig l k
 · unfold numAt at h; rw [if_neg h1, if_pos h2] at h; cases h
 rw [numAt_val l k h1 h2] at h
 cases hv : valOf ((l.drop k).take (endOf isDig l k - k)) 0 with
 | none => rw [hv] at h; cases h
 | some v =>
   rw [hv] at h
   simp at h
   obtain ⟨rfl, rfl⟩ := h
   have := endOf_ge isDig l k
   exact ⟨valOf_le _ 0 _ (by decide) hv, by omega, endOf_le isDig l k hk⟩
/-! ### words -/
def isPlain (b : UInt8) : Bool := decide (33 ≤ b.toNat) && decide (b.toNat ≤ 126) && !(b == 34) && !(b == 92)
def quoteB (b : UInt8) : List UInt8 :=
 if b = 34 ∨ b = 92 then [92, b] else if b = 10 then [92, 110] else if b = 9 then [92, 116]
 else if b.toNat < 32 ∨ 126 < b.toNat then [92, UInt8.ofNat (48 + b.toNat / 64), UInt8.ofNat (48 + b.toNat / 8 % 8), UInt8.ofNat (48 + b.toNat % 8)]
 else [b]
def quoteF (l : List UInt8) : List UInt8 := if l ≠ [] ∧ l.all isPlain = true then l else 34 :: l.flatMap quoteB ++ [34]
def octF : List UInt8 → Option UInt8
 | a :: b :: c :: _ => if (48 ≤ a.toNat ∧ a.toNat ≤ 55) ∧ (48 ≤ b.toNat ∧ b.toNat ≤ 55) ∧ (48 ≤ c.toNat ∧ c.toNat ≤ 55) ∧ 64 * (a.toNat - 48) + 8 * (b.toNat - 48) + (c.toNat - 48) < 256
     then some (UInt8.ofNat (64 * (a.toNat - 48) + 8 * (b.toNat - 48) + (c.toNat - 48))) else none
 | _ => none
def decB : List UInt8 → Option (UInt8 × Nat)
 | [] => none
 | c :: r => if c ≠ 92 then some (c, 1) else
   match r with
   | [] => none
   | d :: _ => if d = 34 ∨ d = 92 then some (d, 2) else if d = 110 then some (10, 2) else if d = 116 then some (9, 2) else (octF r).map fun b => (b, 4)
def runQ : Nat → List UInt8 → List UInt8 → Nat → Option (List UInt8 × Nat)
 | 0, _, _, _ => none
 | _ + 1, [], _, _ => none
 | f + 1, c :: r, acc, i => if c = 34 then some (acc, i + 1) else
   match decB (c :: r) with
   | none => none
   | some (b, k) => runQ f ((c :: r).drop k) (acc ++ [b]) (i + k)
def quotedAt (l : List UInt8) (k : Nat) : Option (List UInt8 × Nat) :=
 match runQ (l.length + 1) (l.drop (k + 1)) [] (k + 1) with
 | none => none
 | some (t, e) => if quoteF t = (l.drop k).take (e - k) then some (t, e) else none
def unqAt (l : List UInt8) (k : Nat) : Option (List UInt8 × Nat) :=
 if l[k]? = some 34 then quotedAt l k
 else if endOf isPlain l k = k then none
 else some ((l.drop k).take (endOf isPlain l k - k), endOf isPlain l k)
def unqF (l : List UInt8) (k : Int) : Option (List UInt8 × Nat) :=
 if k < 0 ∨ (l.length : Int) ≤ k then none else unqAt l k.toNat
end Sc
end
section
namespace Nt
variable {α : Type} [DecidableEq α]
def posN : List α → α → Nat
 | [], _ => 0
 | x :: r, s => if x = s then 0 else posN r s + 1
def placeI (l : List α) (s : α) : Int := if s ∈ l then (posN l s : Int) else -1
theorem posN_le (l : List α) (s : α) : posN l s ≤ l.length := by
 induction l with
 | nil => exact Nat.le_refl _
 | cons x r ih => rw [posN]; split <;> simp; exact ih
theorem posN_get {l : List α} {s : α} (h : s ∈ l) : l[posN l s]? = some s := by
 induction l with
 | nil => cases h
 | cons x r ih =>
   rw [posN]
   split
   · rename_i hx; rw [hx]; rfl
   · rename_i hx
     rcases List.mem_cons.1 h with e | h
     · exact absurd e.symm hx
     · rw [List.getElem?_cons_succ]; exact ih h
theorem posN_eq {l : List α} {s : α} {k : Nat} (h : l[k]? = some s) (hb : ∀ j, j < k → l[j]? ≠ some s) : posN l s = k := by
 induction l generalizing k with
 | nil => cases h
 | cons x r ih =>
   cases k with
   | zero =>
     have hx : x = s := Option.some.inj h
     rw [posN, if_pos hx]
   | succ k =>
     have hx : x ≠ s := fun e => hb 0 (by omega) (by rw [e]; rfl)
     rw [posN, if_neg hx, ih (by rwa [List.getElem?_cons_succ] at h) (fun j hj => by have := hb (j + 1) (by omega); rwa [List.getElem?_cons_succ] at this)]
theorem posN_append {l : List α} {s : α} (h : s ∈ l) (m : List α) : posN (l ++ m) s = posN l s := by
 induction l with
 | nil => cases h
 | cons x r ih =>
   rw [List.cons_append, posN, posN]
   split
   · rfl
   · rename_i hx
     rcases List.mem_cons.1 h with e | h
     · exact absurd e.symm hx
     · rw [ih h]
theorem placeI_at {l : List α} {s : α} {k : Nat} (h : l[k]? = some s) (hb : ∀ j, j < k → l[j]? ≠ some s) : placeI l s = k := by
 have hm : s ∈ l := List.mem_iff_getElem?.2 ⟨k, h⟩
 unfold placeI; rw [if_pos hm, posN_eq h hb]
theorem placeI_none {l : List α} {s : α} (hb : ∀ j, j < l.length → l[j]? ≠ some s) : placeI l s = -1 := by
 unfold placeI
 rw [if_neg]
 intro hm
 obtain ⟨j, hj⟩ := List.mem_iff_getElem?.1 hm
 rcases Nat.lt_or_ge j l.length with h | h
 · exact hb j h hj
 · rw [List.getElem?_eq_none h] at hj; cases hj
theorem placeI_lo (l : List α) (s : α) : -1 ≤ placeI l s := by unfold placeI; split <;> omega
theorem placeI_hi (l : List α) (s : α) : placeI l s ≤ l.length := by
 unfold placeI; split
 · have := posN_le l s; omega
 · omega
theorem placeI_neg (l : List α) (s : α) : placeI l s < 0 ↔ s ∉ l := by
 unfold placeI; split
 · rename_i h
   constructor
   · intro h2; omega
   · intro h2; exact absurd h h2
 · rename_i h
   exact ⟨fun _ => h, fun _ => by omega⟩
def add (out : List α) (s : α) : List α := if s ∈ out then out else out ++ [s]
def namesA (out l : List α) : List α := l.foldl add out
def namesF (files : List (List α)) : List α := namesA [] files.flatten
theorem namesA_nil (out : List α) : namesA out [] = out := rfl
theorem namesA_snoc (out l : List α) (s : α) : namesA out (l ++ [s]) = add (namesA out l) s := by
 unfold namesA; rw [List.foldl_append]; rfl
theorem namesA_append (out l m : List α) : namesA out (l ++ m) = namesA (namesA out l) m := by
 unfold namesA; rw [List.foldl_append]
theorem namesA_cons (out r : List α) (s : α) : namesA out (s :: r) = namesA (add out s) r := rfl
theorem add_len (out : List α) (s : α) : (add out s).length ≤ out.length + 1 := by unfold add; split <;> simp
theorem namesA_len (l : List α) : ∀ out : List α, (namesA out l).length ≤ out.length + l.length := by
 induction l with
 | nil => intro out; exact Nat.le_refl _
 | cons s r ih =>
   intro out
   rw [namesA_cons, List.length_cons]
   have h1 := ih (add out s)
   have h2 := add_len out s
   omega
theorem mem_add (out : List α) (s x : α) : x ∈ add out s ↔ x ∈ out ∨ x = s := by
 unfold add; split
 · rename_i h
   constructor
   · exact .inl
   · rintro (h1 | rfl)
     · exact h1
     · exact h
 · rw [List.mem_append, List.mem_singleton]
theorem mem_namesA (l : List α) : ∀ (out : List α) (x : α), x ∈ namesA out l ↔ x ∈ out ∨ x ∈ l := by
 induction l with
 | nil => intro out x; rw [namesA_nil]; simp
 | cons s r ih => intro out x; rw [namesA_cons, ih, mem_add, List.mem_cons, or_assoc]
theorem add_prefix (out : List α) (s : α) : ∃ t, add out s = out ++ t := by
 unfold add; split
 · exact ⟨[], (List.append_nil _).symm⟩
 · exact ⟨[s], rfl⟩
theorem namesA_prefix (l : List α) : ∀ out : List α, ∃ t, namesA out l = out ++ t := by
 induction l with
 | nil => intro out; exact ⟨[], (List.append_nil _).symm⟩
 | cons s r ih =>
   intro out
   obtain ⟨t, ht⟩ := ih (add out s)
   obtain ⟨u, hu⟩ := add_prefix out s
   exact ⟨u ++ t, by rw [namesA_cons, ht, hu, List.append_assoc]⟩
def idsF (files : List (List α)) : List (List Int) := files.map fun f => f.map (placeI (namesF files))
theorem mem_namesF {files : List (List α)} {f : List α} {s : α} (hf : f ∈ files) (hs : s ∈ f) : s ∈ namesF files :=
 (mem_namesA _ _ _).2 (.inr (List.mem_flatten.2 ⟨f, hf, hs⟩))
theorem placeI_inj {l : List α} {s t : α} (hs : s ∈ l) (ht : t ∈ l) : placeI l s = placeI l t ↔ s = t := by
 constructor
 · intro h
   unfold placeI at h
   rw [if_pos hs, if_pos ht] at h
   have h2 : posN l s = posN l t := by omega
   have h3 := posN_get hs
   rw [h2, posN_get ht] at h3
   exact (Option.some.inj h3).symm
 · rintro rfl; rfl
theorem placeI_prefix {l : List α} {s : α} (h : s ∈ l) (m : List α) : placeI (l ++ m) s = placeI l s := by
 unfold placeI; rw [if_pos h, if_pos (List.mem_append_left _ h), posN_append h]
end Nt
end
end
section
namespace Sc
theorem valOf_append (a b : List UInt8) : ∀ m, valOf (a ++ b) m = (valOf a m).bind (valOf b) := by
 induction a with
 | nil => intro m; rfl
 | cons x r ih =>
   intro m
   rw [List.cons_append, valOf, valOf]
   split
   · rfl
   · exact ih _
theorem toNat_dig (r : Nat) (h : r < 10) : (UInt8.ofNat (48 + r)).toNat = 48 + r := by rw [UInt8.toNat_ofNat']; omega
theorem dig_of (r : Nat) (h : r < 10) : dig (UInt8.ofNat (48 + r)) = r := by unfold dig; rw [toNat_dig r h]; omega
theorem isDig_of (r : Nat) (h : r < 10) : isDig (UInt8.ofNat (48 + r)) = true := by unfold isDig; rw [toNat_dig r h]; simp; omega
theorem decD_big (n : Nat) (h : ¬ n < 10) : Lib.decDigits n = Lib.decDigits (n / 10) ++ [UInt8.ofNat (48 + n % 10)] := by rw [Lib.decDigits, dif_neg h]
theorem decD_val : ∀ (k n : Nat), n ≤ k → n ≤ maxNum → valOf (Lib.decDigits n) 0 = some n := by
 intro k
 induction k with
 | zero => intro n h _; have : n = 0 := by omega
           subst this; rw [Lib.decDigits_one (by decide)]; decide
 | succ k ih =>
   intro n h hm
   by_cases h10 : n < 10
   · rw [Lib.decDigits_one h10]
     show (if maxNum < 10 * 0 + dig _ then none else some (10 * 0 + dig _)) = _
     rw [dig_of n h10, if_neg (by omega)]
     congr 1; omega
   · rw [decD_big n h10, valOf_append, ih (n / 10) (by omega) (by omega)]
     show (if maxNum < 10 * (n / 10) + dig _ then none else some (10 * (n / 10) + dig _)) = _
     rw [dig_of _ (by omega), if_neg (by omega)]
     congr 1; omega
theorem decD_all : ∀ (k n : Nat), n ≤ k → (Lib.decDigits n).all isDig = true := by
 intro k
 induction k with
 | zero => intro n h; have : n = 0 := by omega
           subst this; rw [Lib.decDigits_one (by decide)]; decide
 | succ k ih =>
   intro n h
   by_cases h10 : n < 10
   · rw [Lib.decDigits_one h10]; show (isDig _ && true) = true; rw [isDig_of n h10]; rfl
   · rw [decD_big n h10, List.all_append, ih (n / 10) (by omega)]; show (true && (isDig _ && true)) = true; rw [isDig_of _ (show n % 10 < 10 by omega)]; rfl
theorem decD_ne (n : Nat) : Lib.decDigits n ≠ [] := by
 by_cases h10 : n < 10
 · rw [Lib.decDigits_one h10]; simp
 · rw [decD_big n h10]; simp
theorem decD_head : ∀ (k n : Nat), n ≤ k → 1 ≤ n → (Lib.decDigits n).head? ≠ some 48 := by
 intro k
 induction k with
 | zero => intro n h h1; omega
 | succ k ih =>
   intro n h h1
   by_cases h10 : n < 10
   · rw [Lib.decDigits_one h10]
     intro e
     have := congrArg UInt8.toNat (Option.some.inj e)
     rw [toNat_dig n h10] at this
     have h48 : UInt8.toNat 48 = 48 := rfl
     omega
   · rw [decD_big n h10, List.head?_append]
     have h2 := ih (n / 10) (by omega) (by omega)
     cases hd : (Lib.decDigits (n / 10)).head? with
     | none => exact absurd (List.head?_eq_none_iff.1 hd) (decD_ne _)
     | some b => rw [hd] at h2; exact h2
theorem takeWhile_all (p : UInt8 → Bool) (a r : List UInt8) (h : a.all p = true) : (a ++ r).takeWhile p = a ++ r.takeWhile p := by
 induction a with
 | nil => rfl
 | cons x a ih =>
   simp only [List.all_cons, Bool.and_eq_true] at h
   rw [List.cons_append, List.takeWhile_cons, if_pos h.1, ih h.2]; rfl
theorem takeWhile_stop (p : UInt8 → Bool) (r : List UInt8) (h : ∀ b, r.head? = some b → p b = false) : r.takeWhile p = [] := by
 cases r with
 | nil => rfl
 | cons x r => rw [List.takeWhile_cons, if_neg (by rw [h x rfl]; decide)]
theorem endOf_pre (p : UInt8 → Bool) (pre m r : List UInt8) (h : m.all p = true) (hr : ∀ b, r.head? = some b → p b = false) : endOf p (pre ++ m ++ r) pre.length = pre.length + m.length := by
 unfold endOf
 rw [List.append_assoc, List.drop_left, takeWhile_all p m r h, takeWhile_stop p r hr, List.append_nil]
theorem numAt_reads (pre r : List UInt8) (n : Nat) (hn : n ≤ maxNum) (hr : ∀ b, r.head? = some b → isDig b = false) :
 numAt (pre ++ Lib.decDigits n ++ r) pre.length = some (n, pre.length + (Lib.decDigits n).length) := by
 have he := endOf_pre isDig pre (Lib.decDigits n) r (decD_all n n (Nat.le_refl _)) hr
 have hpos : 0 < (Lib.decDigits n).length := List.length_pos_iff.2 (decD_ne n)
 rw [numAt_val _ _ (by rw [he]; omega) ?_, he]
 · have : ((pre ++ Lib.decDigits n ++ r).drop pre.length).take (pre.length + (Lib.decDigits n).length - pre.length) = Lib.decDigits n := by
    rw [List.append_assoc, List.drop_left, Nat.add_sub_cancel_left, List.take_left]
   rw [this, decD_val n n (Nat.le_refl _) hn]; rfl
 · rintro ⟨h1, h2⟩
   rw [he] at h2
   have h3 : (Lib.decDigits n).head? = some 48 := by
    rw [List.append_assoc, List.getElem?_append_right (Nat.le_refl _), Nat.sub_self] at h1
    cases hd : Lib.decDigits n with
    | nil => exact absurd hd (decD_ne n)
    | cons x t => rw [hd] at h1; exact h1
   rcases Nat.eq_zero_or_pos n with h0 | h0
   · subst h0; rw [Lib.decDigits_one (by decide)] at h2; simp at h2
   · exact decD_head n n (Nat.le_refl _) h0 h3
/-! ### words -/
theorem toNat_oct (r : Nat) (h : r < 8) : (UInt8.ofNat (48 + r)).toNat = 48 + r := by rw [UInt8.toNat_ofNat']; omega
theorem octF_enc (b : UInt8) (r : List UInt8) : octF (UInt8.ofNat (48 + b.toNat / 64) :: UInt8.ofNat (48 + b.toNat / 8 % 8) :: UInt8.ofNat (48 + b.toNat % 8) :: r) = some b := by
 have hb := b.toNat_lt
 have e1 := toNat_oct (b.toNat / 64) (by omega)
 have e2 := toNat_oct (b.toNat / 8 % 8) (by omega)
 have e3 := toNat_oct (b.toNat % 8) (by omega)
 refine (if_pos ?_).trans ?_
 · rw [e1, e2, e3]; omega
 · rw [e1, e2, e3]
   congr 1
   apply UInt8.toNat_inj.1
   rw [UInt8.toNat_ofNat']
   omega
theorem decB_enc (b : UInt8) (r : List UInt8) : decB (quoteB b ++ r) = some (b, (quoteB b).length) ∧ (quoteB b).head? ≠ some 34 := by
 by_cases h1 : b = 34 ∨ b = 92
 · rcases h1 with rfl | rfl <;> exact ⟨rfl, by decide⟩
 by_cases h2 : b = 10
 · subst h2; exact ⟨rfl, by decide⟩
 by_cases h3 : b = 9
 · subst h3; exact ⟨rfl, by decide⟩
 by_cases h4 : b.toNat < 32 ∨ 126 < b.toNat
 · have hq : quoteB b = [92, UInt8.ofNat (48 + b.toNat / 64), UInt8.ofNat (48 + b.toNat / 8 % 8), UInt8.ofNat (48 + b.toNat % 8)] := by unfold quoteB; rw [if_neg h1, if_neg h2, if_neg h3, if_pos h4]
   rw [hq]
   refine ⟨?_, by simp⟩
   have hd1 : ∀ n : Nat, n < 48 → ∀ m : Nat, m < 8 → UInt8.ofNat (48 + m) ≠ UInt8.ofNat n := by
    intro n hn m hm e
    have := congrArg UInt8.toNat e
    rw [toNat_oct m hm, UInt8.toNat_ofNat'] at this; omega
   have hd2 : ∀ n : Nat, 55 < n → n < 256 → ∀ m : Nat, m < 8 → UInt8.ofNat (48 + m) ≠ UInt8.ofNat n := by
    intro n hn hn2 m hm e
    have := congrArg UInt8.toNat e
    rw [toNat_oct m hm, UInt8.toNat_ofNat'] at this; omega
   have hb := b.toNat_lt
   have n34 : UInt8.ofNat (48 + b.toNat / 64) ≠ 34 := hd1 34 (by decide) _ (by omega)
   have n92 : UInt8.ofNat (48 + b.toNat / 64) ≠ 92 := hd2 92 (by decide) (by decide) _ (by omega)
   have n110 : UInt8.ofNat (48 + b.toNat / 64) ≠ 110 := hd2 110 (by decide) (by decide) _ (by omega)
   have n116 : UInt8.ofNat (48 + b.toNat / 64) ≠ 116 := hd2 116 (by decide) (by decide) _ (by omega)
   have ho := octF_enc b r
   show (if _ = 34 ∨ _ = 92 then _ else if _ = 110 then _ else if _ = 116 then _ else (octF (UInt8.ofNat (48 + b.toNat / 64) :: UInt8.ofNat (48 + b.toNat / 8 % 8) :: UInt8.ofNat (48 + b.toNat % 8) :: r)).map fun b => (b, 4)) = _
   rw [if_neg (by rintro (h | h); exact n34 h; exact n92 h), if_neg n110, if_neg n116, ho]
   rfl
 · have hq : quoteB b = [b] := by unfold quoteB; rw [if_neg h1, if_neg h2, if_neg h3, if_neg h4]
   rw [hq]
   exact ⟨if_pos (fun h => h1 (.inr h)), fun h => h1 (.inl (Option.some.inj h))⟩
theorem quoteB_ne (b : UInt8) : quoteB b ≠ [] := by unfold quoteB; repeat' split
                                                    all_goals simp
theorem runQ_enc (t : List UInt8) : ∀ (f : Nat) (r acc : List UInt8) (i : Nat), (t.flatMap quoteB).length < f →
 runQ f (t.flatMap quoteB ++ 34 :: r) acc i = some (acc ++ t, i + (t.flatMap quoteB).length + 1) := by
 induction t with
 | nil =>
   intro f r acc i hf
   obtain ⟨f, rfl⟩ : ∃ f', f = f' + 1 := ⟨f - 1, by omega⟩
   show (if (34 : UInt8) = 34 then _ else _) = _
   rw [if_pos rfl]; simp
 | cons b t ih =>
   intro f r acc i hf
   rw [List.flatMap_cons] at hf ⊢
   rw [List.length_append] at hf
   obtain ⟨f, rfl⟩ : ∃ f', f = f' + 1 := ⟨f - 1, by omega⟩
   obtain ⟨h1, h2⟩ := decB_enc b (t.flatMap quoteB ++ 34 :: r)
   have hpos : 0 < (quoteB b).length := List.length_pos_iff.2 (quoteB_ne b)
   cases hq : quoteB b with
   | nil => exact absurd hq (quoteB_ne b)
   | cons c q =>
     rw [hq] at h1 h2 hf hpos
     have hc : c ≠ 34 := fun h => h2 (by rw [h]; rfl)
     rw [List.append_assoc, List.cons_append]
     rw [List.cons_append] at h1
     rw [runQ, if_neg hc, h1]
     show runQ f ((c :: (q ++ (List.flatMap quoteB t ++ 34 :: r))).drop (c :: q).length) (acc ++ [b]) (i + (c :: q).length) = _
     have hd : (c :: (q ++ (List.flatMap quoteB t ++ 34 :: r))).drop (c :: q).length = List.flatMap quoteB t ++ 34 :: r := by
      rw [← List.cons_append, List.drop_left]
     rw [hd, ih f r (acc ++ [b]) _ (by simp only [List.length_cons] at hf; omega)]
     simp only [List.append_assoc, List.singleton_append, List.length_append, List.length_cons, Option.some.injEq, Prod.mk.injEq, true_and]
     omega
theorem unq_reads (pre t r : List UInt8) (hr : ∀ b, r.head? = some b → isPlain b = false) :
 unqF (pre ++ quoteF t ++ r) pre.length = some (t, pre.length + (quoteF t).length) := by
 have hne : 0 < (quoteF t).length := by
  unfold quoteF; split
  · rename_i h; exact List.length_pos_iff.2 h.1
  · simp
 have hin : unqF (pre ++ quoteF t ++ r) pre.length = unqAt (pre ++ quoteF t ++ r) pre.length := by
  unfold unqF; rw [if_neg (by simp only [List.length_append]; omega)]; rfl
 have hdrop : (pre ++ quoteF t ++ r).drop pre.length = quoteF t ++ r := by rw [List.append_assoc, List.drop_left]
 have htake : ((pre ++ quoteF t ++ r).drop pre.length).take (pre.length + (quoteF t).length - pre.length) = quoteF t := by
  rw [hdrop, Nat.add_sub_cancel_left, List.take_left]
 have hget : (pre ++ quoteF t ++ r)[pre.length]? = (quoteF t).head? := by
  rw [List.append_assoc, List.getElem?_append_right (Nat.le_refl _), Nat.sub_self]
  cases hq : quoteF t with
  | nil => rw [hq] at hne; exact absurd hne (by decide)
  | cons x q => rfl
 rw [hin]
 by_cases hpl : t ≠ [] ∧ t.all isPlain = true
 · have hq : quoteF t = t := by unfold quoteF; rw [if_pos hpl]
   have he : endOf isPlain (pre ++ quoteF t ++ r) pre.length = pre.length + (quoteF t).length := by rw [hq]; exact endOf_pre isPlain pre t r hpl.2 hr
   unfold unqAt
   rw [if_neg ?_, he, if_neg (by omega), htake]
   · rw [hq]
   · rw [hget, hq]
     intro h
     cases t with
     | nil => cases h
     | cons x q =>
       have hx : x = 34 := Option.some.inj h
       have := hpl.2
       rw [hx] at this
       simp only [List.all_cons, Bool.and_eq_true] at this
       exact absurd this.1 (by decide)
 · have hq : quoteF t = 34 :: t.flatMap quoteB ++ [34] := by unfold quoteF; rw [if_neg hpl]
   have hlen : (quoteF t).length = (t.flatMap quoteB).length + 2 := by rw [hq]; simp
   unfold unqAt
   rw [if_pos (by rw [hget, hq]; rfl)]
   have hd1 : (pre ++ quoteF t ++ r).drop (pre.length + 1) = t.flatMap quoteB ++ 34 :: r := by
    rw [← List.drop_drop, hdrop, hq]; simp
   unfold quotedAt
   rw [hd1, runQ_enc t _ r [] (pre.length + 1) (by simp only [List.length_append]; omega)]
   have he : pre.length + 1 + (t.flatMap quoteB).length + 1 = pre.length + (quoteF t).length := by omega
   simp only [List.nil_append, he]
   rw [if_pos htake.symm]
theorem plain_range (b : UInt8) (h : isPlain b = true) : 32 ≤ b.toNat ∧ b.toNat ≤ 126 := by unfold isPlain at h; simp at h; omega
theorem quoteB_range (b : UInt8) : ∀ c ∈ quoteB b, 32 ≤ c.toNat ∧ c.toNat ≤ 126 := by
 intro c hc
 have hb := b.toNat_lt
 unfold quoteB at hc
 split at hc
 · rename_i h
   simp only [List.mem_cons, List.not_mem_nil, or_false] at hc
   rcases h with rfl | rfl <;> rcases hc with rfl | rfl <;> decide
 · split at hc
   · simp only [List.mem_cons, List.not_mem_nil, or_false] at hc
     rcases hc with rfl | rfl <;> decide
   · split at hc
     · simp only [List.mem_cons, List.not_mem_nil, or_false] at hc
       rcases hc with rfl | rfl <;> decide
     · split at hc
       · simp only [List.mem_cons, List.not_mem_nil, or_false] at hc
         rcases hc with rfl | rfl | rfl | rfl
         · decide
         · rw [toNat_oct _ (by omega)]; omega
         · rw [toNat_oct _ (by omega)]; omega
         · rw [toNat_oct _ (by omega)]; omega
       · simp only [List.mem_cons, List.not_mem_nil, or_false] at hc
         subst hc; omega
theorem quote_range (t : List UInt8) : ∀ c ∈ quoteF t, 32 ≤ c.toNat ∧ c.toNat ≤ 126 := by
 intro c hc
 unfold quoteF at hc
 split at hc
 · rename_i h; exact plain_range c (List.all_eq_true.1 h.2 c hc)
 · simp only [List.cons_append, List.mem_cons, List.mem_append, List.mem_flatMap, List.not_mem_nil, or_false] at hc
   rcases hc with rfl | ⟨b, _, hb⟩ | rfl
   · decide
   · exact quoteB_range b c hb
   · decide
end Sc
end
end Go.Proofs.YtjecfmbecgpbmaaGreatDoor
