/-
  Plain mathematics of layer 7: occurrences, the leftmost ones that do not overlap, borders of prefixes, the longest prefix that ends a text. No conditions.
-/
namespace Go.Proofs.Ythpolbiekdijjaa
namespace Oc
/-- n occurs at i of s. -/
def OccAt (n s : List UInt8) (i : Nat) : Prop := n ≠ [] ∧ (s.drop i).take n.length = n
instance (n s : List UInt8) (i : Nat) : Decidable (OccAt n s i) := by unfold OccAt; infer_instance
theorem OccAt.le {n s : List UInt8} {i : Nat} (h : OccAt n s i) : i + n.length ≤ s.length ∧ 0 < n.length := by
  obtain ⟨h0, h1⟩ := h
  have h2 := congrArg List.length h1
  rw [List.length_take, List.length_drop] at h2
  have h3 : 0 < n.length := List.length_pos_iff.2 h0
  omega
/-- The leftmost occurrences from p on that do not overlap. -/
def IsPos (n s : List UInt8) : Nat → List Nat → Prop
  | p, [] => ∀ j, p ≤ j → ¬ OccAt n s j
  | p, i :: l => p ≤ i ∧ OccAt n s i ∧ (∀ j, p ≤ j → j < i → ¬ OccAt n s j) ∧ IsPos n s (i + n.length) l
theorem IsPos.unique {n s : List UInt8} : ∀ {l l' : List Nat} {p : Nat}, IsPos n s p l → IsPos n s p l' → l = l'
  | [], [], _, _, _ => rfl
  | [], i :: l', p, h, h' => absurd h'.2.1 (h i h'.1)
  | i :: l, [], p, h, h' => absurd h.2.1 (h' i h.1)
  | i :: l, i' :: l', p, h, h' => by
    have e : i = i' := by
      rcases Nat.lt_trichotomy i i' with h1 | h1 | h1
      · exact absurd h.2.1 (h'.2.2.1 i h.1 h1)
      · exact h1
      · exact absurd h'.2.1 (h.2.2.1 i' h'.1 h1)
    subst e
    rw [IsPos.unique h.2.2.2 h'.2.2.2]
/-- The least occurrence from p on, below e. -/
def firstF (n s : List UInt8) : Nat → Nat → Option Nat
  | 0, _ => none
  | f + 1, p => if OccAt n s p then some p else firstF n s f (p + 1)
theorem firstF_some {n s : List UInt8} : ∀ {f p i : Nat}, firstF n s f p = some i → p ≤ i ∧ OccAt n s i ∧ ∀ j, p ≤ j → j < i → ¬ OccAt n s j
  | 0, p, i, h => by cases h
  | f + 1, p, i, h => by
    unfold firstF at h
    by_cases h1 : OccAt n s p
    · rw [if_pos h1] at h; injection h with h; subst h
      exact ⟨Nat.le_refl _, h1, fun j a b => by omega⟩
    · rw [if_neg h1] at h
      obtain ⟨a, b, c⟩ := firstF_some h
      refine ⟨by omega, b, fun j d e => ?_⟩
      by_cases h2 : j = p
      · subst h2; exact h1
      · exact c j (by omega) e
theorem firstF_none {n s : List UInt8} : ∀ {f p : Nat}, firstF n s f p = none → s.length ≤ p + f → ∀ j, p ≤ j → ¬ OccAt n s j
  | 0, p, _, hl, j, hj, ho => by have := ho.le; omega
  | f + 1, p, h, hl, j, hj, ho => by
    unfold firstF at h
    by_cases h1 : OccAt n s p
    · rw [if_pos h1] at h; cases h
    · rw [if_neg h1] at h
      by_cases h2 : j = p
      · subst h2; exact h1 ho
      · exact firstF_none h (by omega) j (by omega) ho
def nextF (n s : List UInt8) (p : Nat) : Option Nat := firstF n s (s.length - p) p
def posF (n s : List UInt8) : Nat → Nat → List Nat
  | 0, _ => []
  | f + 1, p => match nextF n s p with | none => [] | some i => i :: posF n s f (i + n.length)
def posL (n s : List UInt8) (p : Nat) : List Nat := posF n s (s.length + 1 - p) p
theorem posF_is {n s : List UInt8} : ∀ {f p : Nat}, s.length < p + f → IsPos n s p (posF n s f p)
  | 0, p, h => fun j hj ho => by have := ho.le; omega
  | f + 1, p, h => by
    unfold posF
    cases e : nextF n s p with
    | none => exact firstF_none e (by omega)
    | some i =>
      obtain ⟨a, b, c⟩ := firstF_some e
      have hb := b.le
      exact ⟨a, b, c, posF_is (by omega)⟩
theorem posL_is (n s : List UInt8) (p : Nat) : IsPos n s p (posL n s p) := posF_is (by omega)
theorem posL_eq {n s : List UInt8} {p : Nat} {l : List Nat} (h : IsPos n s p l) : posL n s p = l := (posL_is n s p).unique h
theorem IsPos.lt {n s : List UInt8} : ∀ {l : List Nat} {p : Nat}, IsPos n s p l → ∀ i ∈ l, p ≤ i ∧ i + n.length ≤ s.length ∧ 0 < n.length
  | [], _, _, i, hi => by cases hi
  | a :: l, p, h, i, hi => by
    have ha := h.2.1.le
    rcases List.mem_cons.1 hi with rfl | hi
    · exact ⟨h.1, ha.1, ha.2⟩
    · obtain ⟨b, c⟩ := h.2.2.2.lt i hi
      exact ⟨by have := h.1; omega, c⟩
theorem IsPos.len {n s : List UInt8} : ∀ {l : List Nat} {p : Nat}, IsPos n s p l → p ≤ s.length → p + l.length * n.length ≤ s.length
  | [], p, _, hp => by simp; omega
  | a :: l, p, h, _ => by
    have ha := h.2.1.le
    have := h.2.2.2.len ha.1
    have h1 := h.1
    rw [List.length_cons, Nat.add_mul, Nat.one_mul]
    omega
theorem IsPos.count {n s : List UInt8} {l : List Nat} {p : Nat} (h : IsPos n s p l) (hp : p ≤ s.length) : l.length ≤ s.length := by
  have h1 := h.len hp
  rcases Nat.eq_zero_or_pos l.length with h0 | h0
  · omega
  · have h2 : 0 < n.length := by
      cases l with
      | nil => cases h0
      | cons a l => exact h.2.1.le.2
    have := Nat.le_mul_of_pos_right l.length h2
    omega
theorem nextF_head {n s : List UInt8} {p : Nat} : nextF n s p = (posL n s p).head? := by
  have h := posL_is n s p
  cases e : nextF n s p with
  | none =>
    have h1 := firstF_none e (by omega)
    cases e2 : posL n s p with
    | nil => rfl
    | cons a l => rw [e2] at h; exact absurd h.2.1 (h1 a h.1)
  | some i =>
    obtain ⟨a, b, c⟩ := firstF_some e
    cases e2 : posL n s p with
    | nil => rw [e2] at h; exact absurd b (h i a)
    | cons x l =>
      rw [e2] at h
      have : x = i := by
        rcases Nat.lt_trichotomy x i with h1 | h1 | h1
        · exact absurd h.2.1 (c x h.1 h1)
        · exact h1
        · exact absurd b (h.2.2.1 i a h1)
      rw [this]; rfl
/-! Suffixes that are prefixes. -/
theorem concat_suffix {α : Type} {a b : α} {l t : List α} : (l ++ [a]) <:+ (t ++ [b]) ↔ l <:+ t ∧ a = b := by
  rw [← List.reverse_prefix, List.reverse_append, List.reverse_append, ← List.reverse_prefix (l₁ := l)]
  simp only [List.reverse_cons, List.reverse_nil, List.nil_append, List.cons_append]
  rw [List.cons_prefix_cons, and_comm]
theorem take_succ' {n : List UInt8} {k : Nat} (h : k < n.length) : n.take (k + 1) = n.take k ++ [n[k]] := List.take_succ_eq_append_getElem h
/-- k is the length of a prefix of n that ends t. -/
def Suf (n t : List UInt8) (k : Nat) : Prop := k ≤ n.length ∧ n.take k <:+ t
instance (n t : List UInt8) (k : Nat) : Decidable (Suf n t k) := by unfold Suf; infer_instance
theorem suf_zero (n t : List UInt8) : Suf n t 0 := ⟨Nat.zero_le _, by rw [List.take_zero]; exact List.nil_suffix⟩
theorem suf_snoc {n t : List UInt8} {b : UInt8} {k : Nat} : Suf n (t ++ [b]) (k + 1) ↔ Suf n t k ∧ n[k]? = some b := by
  constructor
  · rintro ⟨h1, h2⟩
    rw [take_succ' (by omega)] at h2
    obtain ⟨h3, h4⟩ := concat_suffix.1 h2
    exact ⟨⟨by omega, h3⟩, by rw [List.getElem?_eq_getElem (by omega), h4]⟩
  · rintro ⟨⟨h1, h2⟩, h3⟩
    obtain ⟨hk, e⟩ := List.getElem?_eq_some_iff.1 h3
    refine ⟨by omega, ?_⟩
    rw [take_succ' hk]
    exact concat_suffix.2 ⟨h2, e⟩
theorem suf_trans {n t : List UInt8} {k m : Nat} (h : Suf n (n.take m) k) (hm : Suf n t m) : Suf n t k := ⟨h.1, h.2.trans hm.2⟩
theorem suf_le {n : List UInt8} {m k : Nat} (h : Suf n (n.take m) k) : k ≤ m := by
  have h1 := h.2.length_le
  have h2 := h.1
  rw [List.length_take, List.length_take] at h1
  omega
theorem suf_of {n t : List UInt8} {k m : Nat} (h : Suf n t k) (hm : Suf n t m) (hk : k ≤ m) : Suf n (n.take m) k := by
  refine ⟨h.1, List.suffix_of_suffix_length_le h.2 hm.2 ?_⟩
  rw [List.length_take, List.length_take]; omega
theorem suf_self {n : List UInt8} {m : Nat} (h : m ≤ n.length) : Suf n (n.take m) m := ⟨h, List.suffix_refl _⟩
/-- The longest one. -/
def IsM (n t : List UInt8) (m : Nat) : Prop := Suf n t m ∧ ∀ k, Suf n t k → k ≤ m
theorem isM_nil (n : List UInt8) : IsM n [] 0 := ⟨suf_zero _ _, fun k h => by
  have h1 := h.2.length_le
  have h2 := h.1
  rw [List.length_take, List.length_nil] at h1
  omega⟩
/-- What 'longest' answers. -/
def LongP (n : List UInt8) (m : Nat) (b : UInt8) (r : Nat) : Prop :=
  (r = 0 ∨ ∃ k, r = k + 1 ∧ Suf n (n.take m) k ∧ n[k]? = some b) ∧ ∀ k, Suf n (n.take m) k → n[k]? = some b → k + 1 ≤ r
theorem LongP.unique {n : List UInt8} {m : Nat} {b : UInt8} {r r' : Nat} (h : LongP n m b r) (h' : LongP n m b r') : r = r' := by
  have a : ∀ {r r' : Nat}, LongP n m b r → LongP n m b r' → r ≤ r' := by
    intro r r' h h'
    rcases h.1 with rfl | ⟨k, rfl, h1, h2⟩
    · exact Nat.zero_le _
    · exact h'.2 k h1 h2
  exact Nat.le_antisymm (a h h') (a h' h)
theorem LongP.le {n : List UInt8} {m : Nat} {b : UInt8} {r : Nat} (h : LongP n m b r) : r ≤ m + 1 ∧ r ≤ n.length := by
  rcases h.1 with rfl | ⟨k, rfl, h1, h2⟩
  · omega
  · have := suf_le h1
    obtain ⟨hk, _⟩ := List.getElem?_eq_some_iff.1 h2
    omega
theorem IsM.step {n t : List UInt8} {m r : Nat} {b : UInt8} (h : IsM n t m) (hr : LongP n m b r) : IsM n (t ++ [b]) r := by
  constructor
  · rcases hr.1 with rfl | ⟨k, rfl, h1, h2⟩
    · exact suf_zero _ _
    · exact suf_snoc.2 ⟨suf_trans h1 h.1, h2⟩
  · intro k hk
    cases k with
    | zero => exact Nat.zero_le _
    | succ k =>
      obtain ⟨h1, h2⟩ := suf_snoc.1 hk
      exact hr.2 k (suf_of h1 h.1 (h.2 k h1)) h2
/-- The border of the first k bytes. -/
def IsB (n : List UInt8) (k b : Nat) : Prop := b < k ∧ Suf n (n.take k) b ∧ ∀ c, c < k → Suf n (n.take k) c → c ≤ b
theorem isB_one (n : List UInt8) : IsB n 1 0 := ⟨by omega, suf_zero _ _, fun c h _ => by omega⟩
theorem IsB.unique {n : List UInt8} {k b b' : Nat} (h : IsB n k b) (h' : IsB n k b') : b = b' :=
  Nat.le_antisymm (h'.2.2 b h.1 h.2.1) (h.2.2 b' h'.1 h'.2.1)
theorem IsB.step {n : List UInt8} {k b r : Nat} (hk : k < n.length) (h : IsB n k b) (hr : LongP n b n[k] r) : IsB n (k + 1) r := by
  have hb := h.1
  have hs := h.2.1
  have e : n.take (k + 1) = n.take k ++ [n[k]] := take_succ' hk
  refine ⟨by have := hr.le; omega, ?_, fun c hc hcs => ?_⟩
  · rw [e]
    rcases hr.1 with rfl | ⟨j, rfl, h1, h2⟩
    · exact suf_zero _ _
    · exact suf_snoc.2 ⟨suf_trans h1 hs, h2⟩
  · rw [e] at hcs
    cases c with
    | zero => exact Nat.zero_le _
    | succ c =>
      obtain ⟨h1, h2⟩ := suf_snoc.1 hcs
      exact hr.2 c (suf_of h1 hs (h.2.2 c (by omega) h1)) h2
/-- The borders as a function. -/
def downF (n : List UInt8) (k : Nat) : Nat → Nat
  | 0 => 0
  | b + 1 => if Suf n (n.take k) (b + 1) then b + 1 else downF n k b
theorem downF_is (n : List UInt8) (k : Nat) : ∀ b, downF n k b ≤ b ∧ Suf n (n.take k) (downF n k b) ∧ ∀ c, c ≤ b → Suf n (n.take k) c → c ≤ downF n k b
  | 0 => ⟨Nat.le_refl _, suf_zero _ _, fun c h _ => h⟩
  | b + 1 => by
    unfold downF
    by_cases h : Suf n (n.take k) (b + 1)
    · rw [if_pos h]; exact ⟨Nat.le_refl _, h, fun c hc _ => hc⟩
    · rw [if_neg h]
      obtain ⟨h1, h2, h3⟩ := downF_is n k b
      refine ⟨by omega, h2, fun c hc hs => ?_⟩
      by_cases e : c = b + 1
      · subst e; exact absurd hs h
      · exact h3 c (by omega) hs
def bordF (n : List UInt8) (k : Nat) : Nat := downF n k (k - 1)
theorem bordF_is (n : List UInt8) {k : Nat} (hk : 1 ≤ k) : IsB n k (bordF n k) := by
  obtain ⟨h1, h2, h3⟩ := downF_is n k (k - 1)
  exact ⟨by unfold bordF; omega, h2, fun c hc hs => h3 c (by omega) hs⟩
theorem bordF_eq {n : List UInt8} {k b : Nat} (h : IsB n k b) : bordF n k = b := (bordF_is n (by have := h.1; omega)).unique h
theorem bordF_lt (n : List UInt8) {k : Nat} (hk : 1 ≤ k) : bordF n k < k := (bordF_is n hk).1
/-- What 'longest' keeps between two rounds: no longer one than j goes on with b. -/
def LongI (n : List UInt8) (m : Nat) (b : UInt8) (j : Nat) : Prop := Suf n (n.take m) j ∧ ∀ k, Suf n (n.take m) k → n[k]? = some b → k ≤ j
theorem LongI.start {n : List UInt8} {m : Nat} (b : UInt8) (h : m ≤ n.length) : LongI n m b m := ⟨suf_self h, fun _ hk _ => suf_le hk⟩
theorem LongI.step {n : List UInt8} {m : Nat} {b : UInt8} {j : Nat} (h : LongI n m b j) (hj : 1 ≤ j) (hb : n[j]? ≠ some b) : LongI n m b (bordF n j) := by
  obtain ⟨h1, h2, h3⟩ := bordF_is n hj
  refine ⟨suf_trans h2 h.1, fun k hk e => ?_⟩
  have h4 := h.2 k hk e
  have h5 : k ≠ j := fun e2 => hb (by rw [← e2]; exact e)
  exact h3 k (by omega) (suf_of hk h.1 h4)
theorem LongI.yes {n : List UInt8} {m : Nat} {b : UInt8} {j : Nat} (h : LongI n m b j) (hb : n[j]? = some b) : LongP n m b (j + 1) :=
  ⟨.inr ⟨j, rfl, h.1, hb⟩, fun k hk e => by have := h.2 k hk e; omega⟩
theorem LongI.no {n : List UInt8} {m : Nat} {b : UInt8} (h : LongI n m b 0) (hb : n[0]? ≠ some b) : LongP n m b 0 :=
  ⟨.inl rfl, fun k hk e => by
    have h1 := h.2 k hk e
    have : k = 0 := by omega
    subst this; exact absurd e hb⟩
theorem long_ex {n : List UInt8} {m : Nat} {b : UInt8} : ∀ {j : Nat}, LongI n m b j → ∃ r, LongP n m b r := by
  intro j
  induction j using Nat.strongRecOn with
  | _ j ih =>
    intro h
    by_cases hb : n[j]? = some b
    · exact ⟨_, h.yes hb⟩
    · cases j with
      | zero => exact ⟨0, h.no hb⟩
      | succ i => exact ih _ (by have := bordF_lt n (k := i + 1) (by omega); omega) (h.step (by omega) hb)
open Classical in
/-- What 'longest' answers, as a function. -/
noncomputable def longF (n : List UInt8) (m : Nat) (b : UInt8) : Nat := if h : ∃ r, LongP n m b r then choose h else 0
theorem longF_is {n : List UInt8} {m : Nat} {b : UInt8} (h : m ≤ n.length) : LongP n m b (longF n m b) := by
  have h1 := long_ex (LongI.start b h)
  unfold longF
  rw [dif_pos h1]
  exact Classical.choose_spec h1
theorem longF_eq {n : List UInt8} {m : Nat} {b : UInt8} {r : Nat} (h : LongP n m b r) : longF n m b = r := by
  have h1 : ∃ r, LongP n m b r := ⟨r, h⟩
  unfold longF
  rw [dif_pos h1]
  exact (Classical.choose_spec h1).unique h
theorem bordF_step {n : List UInt8} {k : Nat} (hk : 1 ≤ k) (h : k < n.length) : bordF n (k + 1) = longF n (bordF n k) n[k] :=
  bordF_eq ((bordF_is n hk).step h (longF_is (by have := bordF_lt n hk; omega)))
/-! The scan. -/
/-- Between two bytes: lo is where the text since the last occurrence begins, i is what is read next, m is the length of the longest prefix that ends what has been read. -/
def Scan (n s : List UInt8) (p : Nat) (pre : List Nat) (i m : Nat) : Prop :=
  ∃ lo, lo ≤ i ∧ i ≤ s.length ∧ m < n.length ∧ IsM n ((s.drop lo).take (i - lo)) m ∧ (∀ j, lo ≤ j → j + n.length ≤ i → ¬ OccAt n s j) ∧
    ∀ rest, IsPos n s lo rest → IsPos n s p (pre ++ rest)
theorem Scan.start {n s : List UInt8} {p : Nat} (hn : 0 < n.length) (hp : p ≤ s.length) : Scan n s p [] p 0 :=
  ⟨p, Nat.le_refl _, hp, hn, by rw [Nat.sub_self, List.take_zero]; exact isM_nil n, fun j a b _ => by omega, fun rest h => h⟩
theorem seg_succ {s : List UInt8} {lo i : Nat} (h1 : lo ≤ i) (h2 : i < s.length) : (s.drop lo).take (i + 1 - lo) = (s.drop lo).take (i - lo) ++ [s[i]] := by
  have e : i + 1 - lo = (i - lo) + 1 := by omega
  rw [e, List.take_succ_eq_append_getElem (by rw [List.length_drop]; omega), List.getElem_drop]
  congr 2
  congr 1; omega
theorem occ_suf {n s : List UInt8} {lo i j : Nat} (hj : lo ≤ j) (e : j + n.length = i) (ho : OccAt n s j) : Suf n ((s.drop lo).take (i - lo)) n.length := by
  refine ⟨Nat.le_refl _, ?_⟩
  rw [List.take_length]
  refine ⟨(s.drop lo).take (j - lo), ?_⟩
  have e1 : (s.drop lo).take (i - lo) = (s.drop lo).take (j - lo) ++ ((s.drop lo).drop (j - lo)).take n.length := by
    have e2 : i - lo = (j - lo) + n.length := by omega
    rw [e2, List.take_add]
  rw [e1, List.drop_drop, show lo + (j - lo) = j by omega, ho.2]
theorem suf_occ {n s : List UInt8} {lo i : Nat} (hn : 0 < n.length) (hlo : lo ≤ i) (hi : i ≤ s.length) (h : Suf n ((s.drop lo).take (i - lo)) n.length) : lo + n.length ≤ i ∧ OccAt n s (i - n.length) := by
  obtain ⟨_, t, ht⟩ := h
  rw [List.take_length] at ht
  have hl := congrArg List.length ht
  rw [List.length_append, List.length_take, List.length_drop] at hl
  have h1 : t.length = i - lo - n.length := by omega
  have h2 : lo + n.length ≤ i := by omega
  refine ⟨h2, ⟨fun e => (by rw [e] at hn; cases hn), ?_⟩⟩
  have h3 : ((s.drop lo).take (i - lo)).drop t.length = n := by rw [← ht, List.drop_left]
  rw [List.drop_take, List.drop_drop] at h3
  rw [show i - n.length = lo + t.length by omega]
  rw [show i - lo - t.length = n.length by omega] at h3
  exact h3
/-- A byte that completes nothing. -/
theorem Scan.go {n s : List UInt8} {p : Nat} {pre : List Nat} {i m r : Nat} (h : Scan n s p pre i m) (hi : i < s.length) (hr : LongP n m s[i] r) (hlt : r < n.length) : Scan n s p pre (i + 1) r := by
  obtain ⟨lo, h1, h2, h3, h4, h5, h6⟩ := h
  have hM := h4.step hr
  rw [← seg_succ h1 hi] at hM
  refine ⟨lo, by omega, by omega, hlt, hM, fun j a b ho => ?_, h6⟩
  by_cases e : j + n.length = i + 1
  · have := hM.2 _ (occ_suf a e ho); omega
  · exact h5 j a (by omega) ho
/-- A byte that completes an occurrence. -/
theorem Scan.hit {n s : List UInt8} {p : Nat} {pre : List Nat} {i m r : Nat} (h : Scan n s p pre i m) (hi : i < s.length) (hr : LongP n m s[i] r) (hge : ¬ r < n.length) :
    n.length ≤ i + 1 ∧ Scan n s p (pre ++ [i + 1 - n.length]) (i + 1) 0 ∧ (pre = [] → ∀ rest, IsPos n s p rest → rest.head? = some (i + 1 - n.length)) := by
  obtain ⟨lo, h1, h2, h3, h4, h5, h6⟩ := h
  have hM := h4.step hr
  rw [← seg_succ h1 hi] at hM
  have hr2 := hr.le
  obtain rfl : r = n.length := by omega
  obtain ⟨ha, ho⟩ := suf_occ (by omega) (by omega) (by omega) hM.1
  have key : ∀ rest, IsPos n s (i + 1) rest → IsPos n s p (pre ++ (i + 1 - n.length) :: rest) := fun rest hp => by
    refine h6 _ ⟨by omega, ho, fun j a b hj => ?_, by rw [show i + 1 - n.length + n.length = i + 1 by omega]; exact hp⟩
    exact h5 j a (by omega) hj
  refine ⟨by omega, ⟨i + 1, Nat.le_refl _, by omega, by omega, by rw [Nat.sub_self, List.take_zero]; exact isM_nil n, fun j a b _ => by omega, fun rest hp => ?_⟩, ?_⟩
  · rw [List.append_assoc]; exact key rest hp
  · rintro rfl rest hp
    rw [hp.unique (key _ (posL_is n s (i + 1)))]; rfl
theorem Scan.stop {n s : List UInt8} {p : Nat} {pre : List Nat} {m : Nat} (h : Scan n s p pre s.length m) : IsPos n s p pre := by
  obtain ⟨lo, h1, h2, h3, h4, h5, h6⟩ := h
  have := h6 [] (fun j a ho => h5 j a ho.le.1 ho)
  rwa [List.append_nil] at this
theorem Scan.pre_le {n s : List UInt8} {p : Nat} {pre : List Nat} {i m : Nat} (h : Scan n s p pre i m) (hp : p ≤ s.length) : pre.length ≤ s.length := by
  obtain ⟨lo, h1, h2, h3, h4, h5, h6⟩ := h
  have := (h6 _ (posL_is n s lo)).count hp
  rw [List.length_append] at this
  omega
/-- What has come is a beginning of what will have come. -/
theorem Scan.isPre {n s : List UInt8} {p : Nat} {pre : List Nat} {i m : Nat} (h : Scan n s p pre i m) : pre <+: posL n s p := by
  obtain ⟨lo, h1, h2, h3, h4, h5, h6⟩ := h
  rw [posL_eq (h6 _ (posL_is n s lo))]
  exact ⟨_, rfl⟩
/-- Where no needle fits, nothing occurs. -/
theorem isPos_short {n s : List UInt8} {p : Nat} (h : n = [] ∨ s.length < p + n.length) : IsPos n s p [] := fun j hj ho => by
  have h1 := ho.le
  rcases h with rfl | h
  · cases h1.2
  · omega
end Oc
end Go.Proofs.Ythpolbiekdijjaa
