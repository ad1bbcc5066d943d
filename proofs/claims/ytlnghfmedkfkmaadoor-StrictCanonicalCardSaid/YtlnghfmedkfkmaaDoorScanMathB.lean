/-
  Plain mathematics of layer 1: written numbers, ranges and words are read back. No program, no memory. No conditions.
-/
import Derived.Test.YtlnghfmedkfkmaaDoorGTextMath
import Derived.Lib.ItoaNum
namespace Go.Proofs.YtlnghfmedkfkmaaDoor
namespace Sc
theorem valOf_append (a b : List UInt8) : ∀ m, valOf (a ++ b) m = (valOf a m).bind (valOf b) := by
  induction a with
  | nil => intro m; rfl
  | cons x r ih =>
    intro m
    rw [List.cons_append, valOf, valOf]
    split
    · rfl
    · exact ih _
theorem toNat_dig (r : Nat) (h : r < 10) : (UInt8.ofNat (48 + r)).toNat = 48 + r := by rw [UInt8.toNat_ofNat']; omega
theorem dig_of (r : Nat) (h : r < 10) : dig (UInt8.ofNat (48 + r)) = r := by unfold dig; rw [toNat_dig r h]; omega
theorem isDig_of (r : Nat) (h : r < 10) : isDig (UInt8.ofNat (48 + r)) = true := by unfold isDig; rw [toNat_dig r h]; simp; omega
theorem decD_big (n : Nat) (h : ¬ n < 10) : Lib.decDigits n = Lib.decDigits (n / 10) ++ [UInt8.ofNat (48 + n % 10)] := by rw [Lib.decDigits, dif_neg h]
theorem decD_val : ∀ (k n : Nat), n ≤ k → n ≤ maxNum → valOf (Lib.decDigits n) 0 = some n := by
  intro k
  induction k with
  | zero => intro n h _; have : n = 0 := by omega
            subst this; rw [Lib.decDigits_one (by decide)]; decide
  | succ k ih =>
    intro n h hm
    by_cases h10 : n < 10
    · rw [Lib.decDigits_one h10]
      show (if maxNum < 10 * 0 + dig _ then none else some (10 * 0 + dig _)) = _
      rw [dig_of n h10, if_neg (by omega)]
      congr 1; omega
    · rw [decD_big n h10, valOf_append, ih (n / 10) (by omega) (by omega)]
      show (if maxNum < 10 * (n / 10) + dig _ then none else some (10 * (n / 10) + dig _)) = _
      rw [dig_of _ (by omega), if_neg (by omega)]
      congr 1; omega
theorem decD_all : ∀ (k n : Nat), n ≤ k → (Lib.decDigits n).all isDig = true := by
  intro k
  induction k with
  | zero => intro n h; have : n = 0 := by omega
            subst this; rw [Lib.decDigits_one (by decide)]; decide
  | succ k ih =>
    intro n h
    by_cases h10 : n < 10
    · rw [Lib.decDigits_one h10]; show (isDig _ && true) = true; rw [isDig_of n h10]; rfl
    · rw [decD_big n h10, List.all_append, ih (n / 10) (by omega)]; show (true && (isDig _ && true)) = true; rw [isDig_of _ (show n % 10 < 10 by omega)]; rfl
theorem decD_ne (n : Nat) : Lib.decDigits n ≠ [] := by
  by_cases h10 : n < 10
  · rw [Lib.decDigits_one h10]; simp
  · rw [decD_big n h10]; simp
theorem decD_head : ∀ (k n : Nat), n ≤ k → 1 ≤ n → (Lib.decDigits n).head? ≠ some 48 := by
  intro k
  induction k with
  | zero => intro n h h1; omega
  | succ k ih =>
    intro n h h1
    by_cases h10 : n < 10
    · rw [Lib.decDigits_one h10]
      intro e
      have := congrArg UInt8.toNat (Option.some.inj e)
      rw [toNat_dig n h10] at this
      have h48 : UInt8.toNat 48 = 48 := rfl
      omega
    · rw [decD_big n h10, List.head?_append]
      have h2 := ih (n / 10) (by omega) (by omega)
      cases hd : (Lib.decDigits (n / 10)).head? with
      | none => exact absurd (List.head?_eq_none_iff.1 hd) (decD_ne _)
      | some b => rw [hd] at h2; exact h2
theorem takeWhile_all (p : UInt8 → Bool) (a r : List UInt8) (h : a.all p = true) : (a ++ r).takeWhile p = a ++ r.takeWhile p := by
  induction a with
  | nil => rfl
  | cons x a ih =>
    simp only [List.all_cons, Bool.and_eq_true] at h
    rw [List.cons_append, List.takeWhile_cons, if_pos h.1, ih h.2]; rfl
theorem takeWhile_stop (p : UInt8 → Bool) (r : List UInt8) (h : ∀ b, r.head? = some b → p b = false) : r.takeWhile p = [] := by
  cases r with
  | nil => rfl
  | cons x r => rw [List.takeWhile_cons, if_neg (by rw [h x rfl]; decide)]
theorem endOf_pre (p : UInt8 → Bool) (pre m r : List UInt8) (h : m.all p = true) (hr : ∀ b, r.head? = some b → p b = false) : endOf p (pre ++ m ++ r) pre.length = pre.length + m.length := by
  unfold endOf
  rw [List.append_assoc, List.drop_left, takeWhile_all p m r h, takeWhile_stop p r hr, List.append_nil]
theorem numAt_reads (pre r : List UInt8) (n : Nat) (hn : n ≤ maxNum) (hr : ∀ b, r.head? = some b → isDig b = false) :
    numAt (pre ++ Lib.decDigits n ++ r) pre.length = some (n, pre.length + (Lib.decDigits n).length) := by
  have he := endOf_pre isDig pre (Lib.decDigits n) r (decD_all n n (Nat.le_refl _)) hr
  have hpos : 0 < (Lib.decDigits n).length := List.length_pos_iff.2 (decD_ne n)
  rw [numAt_val _ _ (by rw [he]; omega) ?_, he]
  · have : ((pre ++ Lib.decDigits n ++ r).drop pre.length).take (pre.length + (Lib.decDigits n).length - pre.length) = Lib.decDigits n := by
      rw [List.append_assoc, List.drop_left, Nat.add_sub_cancel_left, List.take_left]
    rw [this, decD_val n n (Nat.le_refl _) hn]; rfl
  · rintro ⟨h1, h2⟩
    rw [he] at h2
    have h3 : (Lib.decDigits n).head? = some 48 := by
      rw [List.append_assoc, List.getElem?_append_right (Nat.le_refl _), Nat.sub_self] at h1
      cases hd : Lib.decDigits n with
      | nil => exact absurd hd (decD_ne n)
      | cons x t => rw [hd] at h1; exact h1
    rcases Nat.eq_zero_or_pos n with h0 | h0
    · subst h0; rw [Lib.decDigits_one (by decide)] at h2; simp at h2
    · exact decD_head n n (Nat.le_refl _) h0 h3

/-! ### words -/
theorem toNat_oct (r : Nat) (h : r < 8) : (UInt8.ofNat (48 + r)).toNat = 48 + r := by rw [UInt8.toNat_ofNat']; omega
theorem octF_enc (b : UInt8) (r : List UInt8) : octF (UInt8.ofNat (48 + b.toNat / 64) :: UInt8.ofNat (48 + b.toNat / 8 % 8) :: UInt8.ofNat (48 + b.toNat % 8) :: r) = some b := by
  have hb := b.toNat_lt
  have e1 := toNat_oct (b.toNat / 64) (by omega)
  have e2 := toNat_oct (b.toNat / 8 % 8) (by omega)
  have e3 := toNat_oct (b.toNat % 8) (by omega)
  refine (if_pos ?_).trans ?_
  · rw [e1, e2, e3]; omega
  · rw [e1, e2, e3]
    congr 1
    apply UInt8.toNat_inj.1
    rw [UInt8.toNat_ofNat']
    omega
/-- The code of a byte is decoded, whatever follows. -/
theorem decB_enc (b : UInt8) (r : List UInt8) : decB (quoteB b ++ r) = some (b, (quoteB b).length) ∧ (quoteB b).head? ≠ some 34 := by
  by_cases h1 : b = 34 ∨ b = 92
  · rcases h1 with rfl | rfl <;> exact ⟨rfl, by decide⟩
  by_cases h2 : b = 10
  · subst h2; exact ⟨rfl, by decide⟩
  by_cases h3 : b = 9
  · subst h3; exact ⟨rfl, by decide⟩
  by_cases h4 : b.toNat < 32 ∨ 126 < b.toNat
  · have hq : quoteB b = [92, UInt8.ofNat (48 + b.toNat / 64), UInt8.ofNat (48 + b.toNat / 8 % 8), UInt8.ofNat (48 + b.toNat % 8)] := by unfold quoteB; rw [if_neg h1, if_neg h2, if_neg h3, if_pos h4]
    rw [hq]
    refine ⟨?_, by simp⟩
    have hd1 : ∀ n : Nat, n < 48 → ∀ m : Nat, m < 8 → UInt8.ofNat (48 + m) ≠ UInt8.ofNat n := by
      intro n hn m hm e
      have := congrArg UInt8.toNat e
      rw [toNat_oct m hm, UInt8.toNat_ofNat'] at this; omega
    have hd2 : ∀ n : Nat, 55 < n → n < 256 → ∀ m : Nat, m < 8 → UInt8.ofNat (48 + m) ≠ UInt8.ofNat n := by
      intro n hn hn2 m hm e
      have := congrArg UInt8.toNat e
      rw [toNat_oct m hm, UInt8.toNat_ofNat'] at this; omega
    have hb := b.toNat_lt
    have n34 : UInt8.ofNat (48 + b.toNat / 64) ≠ 34 := hd1 34 (by decide) _ (by omega)
    have n92 : UInt8.ofNat (48 + b.toNat / 64) ≠ 92 := hd2 92 (by decide) (by decide) _ (by omega)
    have n110 : UInt8.ofNat (48 + b.toNat / 64) ≠ 110 := hd2 110 (by decide) (by decide) _ (by omega)
    have n116 : UInt8.ofNat (48 + b.toNat / 64) ≠ 116 := hd2 116 (by decide) (by decide) _ (by omega)
    have ho := octF_enc b r
    show (if _ = 34 ∨ _ = 92 then _ else if _ = 110 then _ else if _ = 116 then _ else (octF (UInt8.ofNat (48 + b.toNat / 64) :: UInt8.ofNat (48 + b.toNat / 8 % 8) :: UInt8.ofNat (48 + b.toNat % 8) :: r)).map fun b => (b, 4)) = _
    rw [if_neg (by rintro (h | h); exact n34 h; exact n92 h), if_neg n110, if_neg n116, ho]
    rfl
  · have hq : quoteB b = [b] := by unfold quoteB; rw [if_neg h1, if_neg h2, if_neg h3, if_neg h4]
    rw [hq]
    exact ⟨if_pos (fun h => h1 (.inr h)), fun h => h1 (.inl (Option.some.inj h))⟩
theorem quoteB_ne (b : UInt8) : quoteB b ≠ [] := by unfold quoteB; repeat' split
                                                    all_goals simp
/-- The codes of a text, then a quote, are run through. -/
theorem runQ_enc (t : List UInt8) : ∀ (f : Nat) (r acc : List UInt8) (i : Nat), (t.flatMap quoteB).length < f →
    runQ f (t.flatMap quoteB ++ 34 :: r) acc i = some (acc ++ t, i + (t.flatMap quoteB).length + 1) := by
  induction t with
  | nil =>
    intro f r acc i hf
    obtain ⟨f, rfl⟩ : ∃ f', f = f' + 1 := ⟨f - 1, by omega⟩
    show (if (34 : UInt8) = 34 then _ else _) = _
    rw [if_pos rfl]; simp
  | cons b t ih =>
    intro f r acc i hf
    rw [List.flatMap_cons] at hf ⊢
    rw [List.length_append] at hf
    obtain ⟨f, rfl⟩ : ∃ f', f = f' + 1 := ⟨f - 1, by omega⟩
    obtain ⟨h1, h2⟩ := decB_enc b (t.flatMap quoteB ++ 34 :: r)
    have hpos : 0 < (quoteB b).length := List.length_pos_iff.2 (quoteB_ne b)
    cases hq : quoteB b with
    | nil => exact absurd hq (quoteB_ne b)
    | cons c q =>
      rw [hq] at h1 h2 hf hpos
      have hc : c ≠ 34 := fun h => h2 (by rw [h]; rfl)
      rw [List.append_assoc, List.cons_append]
      rw [List.cons_append] at h1
      rw [runQ, if_neg hc, h1]
      show runQ f ((c :: (q ++ (List.flatMap quoteB t ++ 34 :: r))).drop (c :: q).length) (acc ++ [b]) (i + (c :: q).length) = _
      have hd : (c :: (q ++ (List.flatMap quoteB t ++ 34 :: r))).drop (c :: q).length = List.flatMap quoteB t ++ 34 :: r := by
        rw [← List.cons_append, List.drop_left]
      rw [hd, ih f r (acc ++ [b]) _ (by simp only [List.length_cons] at hf; omega)]
      simp only [List.append_assoc, List.singleton_append, List.length_append, List.length_cons, Option.some.injEq, Prod.mk.injEq, true_and]
      omega
/-- A word is read back from the middle of a text; behind a plain word no plain byte follows. -/
theorem unq_reads (pre t r : List UInt8) (hr : ∀ b, r.head? = some b → isPlain b = false) :
    unqF (pre ++ quoteF t ++ r) pre.length = some (t, pre.length + (quoteF t).length) := by
  have hne : 0 < (quoteF t).length := by
    unfold quoteF; split
    · rename_i h; exact List.length_pos_iff.2 h.1
    · simp
  have hin : unqF (pre ++ quoteF t ++ r) pre.length = unqAt (pre ++ quoteF t ++ r) pre.length := by
    unfold unqF; rw [if_neg (by simp only [List.length_append]; omega)]; rfl
  have hdrop : (pre ++ quoteF t ++ r).drop pre.length = quoteF t ++ r := by rw [List.append_assoc, List.drop_left]
  have htake : ((pre ++ quoteF t ++ r).drop pre.length).take (pre.length + (quoteF t).length - pre.length) = quoteF t := by
    rw [hdrop, Nat.add_sub_cancel_left, List.take_left]
  have hget : (pre ++ quoteF t ++ r)[pre.length]? = (quoteF t).head? := by
    rw [List.append_assoc, List.getElem?_append_right (Nat.le_refl _), Nat.sub_self]
    cases hq : quoteF t with
    | nil => rw [hq] at hne; exact absurd hne (by decide)
    | cons x q => rfl
  rw [hin]
  by_cases hpl : t ≠ [] ∧ t.all isPlain = true
  · have hq : quoteF t = t := by unfold quoteF; rw [if_pos hpl]
    have he : endOf isPlain (pre ++ quoteF t ++ r) pre.length = pre.length + (quoteF t).length := by rw [hq]; exact endOf_pre isPlain pre t r hpl.2 hr
    unfold unqAt
    rw [if_neg ?_, he, if_neg (by omega), htake]
    · rw [hq]
    · rw [hget, hq]
      intro h
      cases t with
      | nil => cases h
      | cons x q =>
        have hx : x = 34 := Option.some.inj h
        have := hpl.2
        rw [hx] at this
        simp only [List.all_cons, Bool.and_eq_true] at this
        exact absurd this.1 (by decide)
  · have hq : quoteF t = 34 :: t.flatMap quoteB ++ [34] := by unfold quoteF; rw [if_neg hpl]
    have hlen : (quoteF t).length = (t.flatMap quoteB).length + 2 := by rw [hq]; simp
    unfold unqAt
    rw [if_pos (by rw [hget, hq]; rfl)]
    have hd1 : (pre ++ quoteF t ++ r).drop (pre.length + 1) = t.flatMap quoteB ++ 34 :: r := by
      rw [← List.drop_drop, hdrop, hq]; simp
    unfold quotedAt
    rw [hd1, runQ_enc t _ r [] (pre.length + 1) (by simp only [List.length_append]; omega)]
    have he : pre.length + 1 + (t.flatMap quoteB).length + 1 = pre.length + (quoteF t).length := by omega
    simp only [List.nil_append, he]
    rw [if_pos htake.symm]
theorem plain_range (b : UInt8) (h : isPlain b = true) : 32 ≤ b.toNat ∧ b.toNat ≤ 126 := by unfold isPlain at h; simp at h; omega
theorem quoteB_range (b : UInt8) : ∀ c ∈ quoteB b, 32 ≤ c.toNat ∧ c.toNat ≤ 126 := by
  intro c hc
  have hb := b.toNat_lt
  unfold quoteB at hc
  split at hc
  · rename_i h
    simp only [List.mem_cons, List.not_mem_nil, or_false] at hc
    rcases h with rfl | rfl <;> rcases hc with rfl | rfl <;> decide
  · split at hc
    · simp only [List.mem_cons, List.not_mem_nil, or_false] at hc
      rcases hc with rfl | rfl <;> decide
    · split at hc
      · simp only [List.mem_cons, List.not_mem_nil, or_false] at hc
        rcases hc with rfl | rfl <;> decide
      · split at hc
        · simp only [List.mem_cons, List.not_mem_nil, or_false] at hc
          rcases hc with rfl | rfl | rfl | rfl
          · decide
          · rw [toNat_oct _ (by omega)]; omega
          · rw [toNat_oct _ (by omega)]; omega
          · rw [toNat_oct _ (by omega)]; omega
        · simp only [List.mem_cons, List.not_mem_nil, or_false] at hc
          subst hc; omega
theorem quote_range (t : List UInt8) : ∀ c ∈ quoteF t, 32 ≤ c.toNat ∧ c.toNat ≤ 126 := by
  intro c hc
  unfold quoteF at hc
  split at hc
  · rename_i h; exact plain_range c (List.all_eq_true.1 h.2 c hc)
  · simp only [List.cons_append, List.mem_cons, List.mem_append, List.mem_flatMap, List.not_mem_nil, or_false] at hc
    rcases hc with rfl | ⟨b, _, hb⟩ | rfl
    · decide
    · exact quoteB_range b c hb
    · decide
end Sc
end Go.Proofs.YtlnghfmedkfkmaaDoor
