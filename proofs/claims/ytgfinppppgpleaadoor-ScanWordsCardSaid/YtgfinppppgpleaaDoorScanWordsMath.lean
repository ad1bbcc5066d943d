/-
  Plain mathematics of layer 1: the words of a text, and that joined words are read back. No program, no memory. No conditions.
-/
import Derived.Test.YtgfinppppgpleaaDoorScanMathB
namespace Go.Proofs.YtgfinppppgpleaaDoor
namespace Sc
def wordsRun : Nat → List UInt8 → Nat → List (List UInt8) → Option (List (List UInt8))
  | 0, _, _, _ => none
  | f + 1, l, k, acc => match unqF l k with
    | none => none
    | some (w, e) => if e = l.length then some (acc ++ [w]) else if l[e]? = some 32 then wordsRun f l (e + 1) (acc ++ [w]) else none
def wordsF (l : List UInt8) : Option (List (List UInt8)) := if l = [] then some [] else wordsRun (l.length + 1) l 0 []
theorem wr_none (f : Nat) (l : List UInt8) (k : Nat) (acc : List (List UInt8)) (h : unqF l k = none) : wordsRun f l k acc = none := by
  cases f with
  | zero => rfl
  | succ f => rw [wordsRun, h]
theorem wr_end (f : Nat) (l : List UInt8) (k e : Nat) (w : List UInt8) (acc : List (List UInt8)) (h : unqF l k = some (w, e)) (he : e = l.length) : wordsRun (f + 1) l k acc = some (acc ++ [w]) := by
  rw [wordsRun, h]; simp only [if_pos he]
theorem wr_step (f : Nat) (l : List UInt8) (k e : Nat) (w : List UInt8) (acc : List (List UInt8)) (h : unqF l k = some (w, e)) (he : e ≠ l.length) (h2 : l[e]? = some 32) : wordsRun (f + 1) l k acc = wordsRun f l (e + 1) (acc ++ [w]) := by
  rw [wordsRun, h]; simp only [if_neg he, if_pos h2]
theorem wr_bad (f : Nat) (l : List UInt8) (k e : Nat) (w : List UInt8) (acc : List (List UInt8)) (h : unqF l k = some (w, e)) (he : e ≠ l.length) (h2 : ¬ l[e]? = some 32) : wordsRun (f + 1) l k acc = none := by
  rw [wordsRun, h]; simp only [if_neg he, if_neg h2]
theorem quotedAt_le (l : List UInt8) (k e : Nat) (t : List UInt8) (hk : k < l.length) (h : quotedAt l k = some (t, e)) : k < e ∧ e ≤ l.length := by
  unfold quotedAt at h
  split at h
  · cases h
  · rename_i t' e' hr
    split at h
    · rename_i hq
      simp at h
      obtain ⟨rfl, rfl⟩ := h
      have hpos : 0 < (quoteF t').length := by
        unfold quoteF; split
        · rename_i h; exact List.length_pos_iff.2 h.1
        · simp
      have hr2 : ∀ (f : Nat) (m acc : List UInt8) (i : Nat) (t : List UInt8) (e : Nat), runQ f m acc i = some (t, e) → e ≤ i + m.length := by
        intro f
        induction f with
        | zero => intro m acc i t e h; cases h
        | succ f ih =>
          intro m acc i t e h
          cases m with
          | nil => cases h
          | cons c r =>
            rw [runQ] at h
            split at h
            · simp at h; obtain ⟨_, rfl⟩ := h; simp
            · split at h
              · cases h
              · rename_i b n hd
                have h1 := ih _ _ _ _ _ h
                have h2 : n ≤ (c :: r).length := by
                  rcases Nat.lt_or_ge (c :: r).length n with h3 | h3
                  · rw [List.drop_eq_nil_of_le (by omega)] at h
                    cases f <;> cases h
                  · exact h3
                rw [List.length_drop] at h1
                omega
      have h1 := hr2 _ _ _ _ _ _ hr
      rw [List.length_drop] at h1
      rw [hq, List.length_take, List.length_drop] at hpos
      omega
    · cases h
theorem unqF_le (l : List UInt8) (k e : Nat) (t : List UInt8) (h : unqF l k = some (t, e)) : k < e ∧ e ≤ l.length := by
  unfold unqF at h
  split at h
  · cases h
  · rename_i hk
    have hk : k < l.length := by omega
    have h : unqAt l k = some (t, e) := h
    unfold unqAt at h
    split at h
    · exact quotedAt_le l k e t hk h
    · split at h
      · cases h
      · rename_i hne
        simp at h
        obtain ⟨_, rfl⟩ := h
        have := endOf_ge isPlain l k
        have := endOf_le isPlain l k (by omega)
        omega
/-! ### joined words -/
def Jt : List (List UInt8) → List UInt8
  | [] => []
  | w :: ws => 32 :: (quoteF w ++ Jt ws)
def J : List (List UInt8) → List UInt8
  | [] => []
  | w :: ws => quoteF w ++ Jt ws
theorem Jt_snoc (ws : List (List UInt8)) (w : List UInt8) : Jt (ws ++ [w]) = Jt ws ++ 32 :: quoteF w := by
  induction ws with
  | nil => simp [Jt]
  | cons x r ih => simp [Jt, ih]
theorem J_one (w : List UInt8) : J [w] = quoteF w := by simp [J, Jt]
theorem J_snoc (ws : List (List UInt8)) (w : List UInt8) (h : ws ≠ []) : J (ws ++ [w]) = J ws ++ 32 :: quoteF w := by
  cases ws with
  | nil => exact absurd rfl h
  | cons x r => simp [J, Jt_snoc]
theorem Jt_len (ws : List (List UInt8)) : ws.length ≤ (Jt ws).length := by
  induction ws with
  | nil => simp
  | cons x r ih => simp [Jt]; omega
theorem wr_reads (ws : List (List UInt8)) : ∀ (w : List UInt8) (pre : List UInt8) (acc : List (List UInt8)) (f : Nat), ws.length < f →
    wordsRun f (pre ++ quoteF w ++ Jt ws) pre.length acc = some (acc ++ w :: ws) := by
  induction ws with
  | nil =>
    intro w pre acc f hf
    obtain ⟨f, rfl⟩ : ∃ f', f = f' + 1 := ⟨f - 1, by omega⟩
    have h := unq_reads pre w [] (by intro b hb; cases hb)
    show wordsRun (f + 1) (pre ++ quoteF w ++ []) pre.length acc = _
    rw [wr_end f _ _ _ w acc h (by simp)]
  | cons x r ih =>
    intro w pre acc f hf
    obtain ⟨f, rfl⟩ : ∃ f', f = f' + 1 := ⟨f - 1, by omega⟩
    have h := unq_reads pre w (Jt (x :: r)) (by intro b hb; have : b = 32 := (Option.some.inj hb).symm; subst this; decide)
    have h2 := ih x (pre ++ quoteF w ++ [32]) (acc ++ [w]) f (by simp at hf; omega)
    have hl : pre ++ quoteF w ++ [32] ++ quoteF x ++ Jt r = pre ++ quoteF w ++ Jt (x :: r) := by simp [Jt]
    have hk : (pre ++ quoteF w ++ [32]).length = pre.length + (quoteF w).length + 1 := by simp; omega
    rw [hl, hk] at h2
    rw [wr_step f _ _ _ w acc h (by simp [Jt]) ?_, h2]
    · simp
    · rw [← List.length_append, List.getElem?_append_right (Nat.le_refl _), Nat.sub_self]; rfl
theorem quoteF_pos (t : List UInt8) : 0 < (quoteF t).length := by
  unfold quoteF; split
  · rename_i h; exact List.length_pos_iff.2 h.1
  · simp
theorem words_reads (ws : List (List UInt8)) : wordsF (J ws) = some ws := by
  cases ws with
  | nil => rfl
  | cons w r =>
    have hpos := quoteF_pos w
    have hne : J (w :: r) ≠ [] := by
      intro e
      have h1 := congrArg List.length e
      simp only [J, List.length_append, List.length_nil] at h1
      omega
    unfold wordsF
    rw [if_neg hne]
    have h := wr_reads r w [] [] ((J (w :: r)).length + 1) (by have := Jt_len r; simp [J]; omega)
    simpa [J] using h
end Sc
end Go.Proofs.YtgfinppppgpleaaDoor
