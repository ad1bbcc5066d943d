/-
  Layer 6: what visit and reach keep of the walker's data. No program. No conditions.
-/
import Derived.Test.YthoidaaldngpmaaSeaVis
namespace Go.Proofs.Ythoidaaldngpmaa
namespace Se
open Cm Rx Au
theorem len_of_nodup : ∀ (n : Nat) (l : List Nat), l.Nodup → (∀ x ∈ l, x < n) → l.length ≤ n
  | 0, l, _, h => by
    cases l with
    | nil => exact Nat.le_refl _
    | cons a t => exact absurd (h a (List.mem_cons_self ..)) (Nat.not_lt_zero _)
  | n + 1, l, hn, h => by
    by_cases hm : n ∈ l
    · have h1 := len_of_nodup n (l.erase n) (hn.erase n) (fun x hx => by
        have h2 := (hn.mem_erase_iff).1 hx
        have := h x h2.2
        have := h2.1
        omega)
      rw [List.length_erase_of_mem hm] at h1
      omega
    · have h1 := len_of_nodup n l hn (fun x hx => by
        have := h x hx
        by_cases e : x = n
        · subst e; exact absurd hx hm
        · omega)
      omega
/-- The walker's data at an offset while the places are found. -/
structure DG (ss : List St) (st : Nat) (bs : List UInt8) (i E : Nat) (D : Dyn) : Prop where
  grow : Grow ss bs i E D.L
  seen : ∀ q, q < ss.length → (D.seen[q]? = some D.at_ ↔ ∃ e, (q, e) ∈ D.L)
  at_ : D.at_ = (i : Int)
  sl : D.seen.length = ss.length
  old : ∀ x ∈ D.seen, x = -1 ∨ (i : Int) ≤ x
  fin : (∃ e, (st, e) ∈ D.L ∧ D.fin = (e : Int)) ∨ ((∀ e, (st, e) ∉ D.L) ∧ D.fin = -1)
theorem DG.less {ss : List St} {st : Nat} {bs : List UInt8} {i E E' : Nat} {D : Dyn} (h : DG ss st bs i E D) (he : E' ≤ E) : DG ss st bs i E' D :=
  ⟨h.grow.less he, h.seen, h.at_, h.sl, h.old, h.fin⟩
theorem DG.len {ss : List St} {st : Nat} {bs : List UInt8} {i E : Nat} {D : Dyn} (h : DG ss st bs i E D) : D.L.length ≤ ss.length := by
  have := len_of_nodup ss.length (D.L.map Prod.fst) h.grow.nodup (fun x hx => by
    obtain ⟨⟨q, e⟩, h1, rfl⟩ := List.mem_map.1 hx
    exact (h.grow.sound q e h1).lt)
  rwa [List.length_map] at this
/-- The list has grown, by places of this end. -/
def Ext (E : Nat) (D D' : Dyn) : Prop := (∃ X : List (Nat × Nat), D'.L = D.L ++ X ∧ ∀ p ∈ X, p.2 = E) ∧ D'.M = D.M
theorem Ext.refl (E : Nat) (D : Dyn) : Ext E D D := ⟨⟨[], by simp, fun p h => (by cases h)⟩, rfl⟩
theorem Ext.trans {E : Nat} {D D' D'' : Dyn} (h : Ext E D D') (h' : Ext E D' D'') : Ext E D D'' := by
  obtain ⟨⟨X, h1, h2⟩, h3⟩ := h
  obtain ⟨⟨Y, h4, h5⟩, h6⟩ := h'
  refine ⟨⟨X ++ Y, by rw [h4, h1, List.append_assoc], fun p hp => ?_⟩, h6.trans h3⟩
  rcases List.mem_append.1 hp with h | h
  · exact h2 p h
  · exact h5 p h
theorem Ext.has {E : Nat} {D D' : Dyn} (h : Ext E D D') {q e : Nat} (hq : Se.Has D.L q e) : Se.Has D'.L q e := by
  obtain ⟨⟨X, h1, _⟩, _⟩ := h
  rw [h1]; exact hq.mono
theorem Ext.done {E : Nat} {D D' : Dyn} (h : Ext E D D') {ss : List St} {n i k : Nat} (hd : DoneTo ss n i D.L k) (hk : k ≤ D.L.length) : DoneTo ss n i D'.L k := by
  obtain ⟨⟨X, h1, _⟩, _⟩ := h
  rw [h1]; exact hd.grow hk
theorem Ext.at {E : Nat} {D D' : Dyn} (h : Ext E D D') {k : Nat} (hk : k < D.L.length) : ∃ hk' : k < D'.L.length, D'.L[k] = D.L[k] := by
  obtain ⟨⟨X, h1, _⟩, _⟩ := h
  have hk' : k < D'.L.length := by rw [h1, List.length_append]; omega
  refine ⟨hk', ?_⟩
  simp only [h1]
  exact List.getElem_append_left hk
theorem Ext.len {E : Nat} {D D' : Dyn} (h : Ext E D D') : D.L.length ≤ D'.L.length := by
  obtain ⟨⟨X, h1, _⟩, _⟩ := h
  rw [h1, List.length_append]; omega
theorem Ext.snd {E : Nat} {D D' : Dyn} (h : Ext E D D') {k : Nat} (hk : k < D'.L.length) (hk2 : D.L.length ≤ k) : D'.L[k].2 = E := by
  obtain ⟨⟨X, h1, h2⟩, _⟩ := h
  have hx : k - D.L.length < X.length := by rw [h1, List.length_append] at hk; omega
  have : D'.L[k] = X[k - D.L.length] := by
    simp only [h1]
    exact List.getElem_append_right hk2
  rw [this]
  exact h2 _ (List.getElem_mem hx)
/-- What visit does to the data. -/
theorem DG.visit {ss : List St} {st : Nat} {bs : List UInt8} {i E : Nat} {D : Dyn} (h : DG ss st bs i E D) {q : Nat} (hr : Run ss bs i q E) : DG ss st bs i E (visitD st D q E) ∧ Ext E D (visitD st D q E) ∧ Se.Has (visitD st D q E).L q E := by
  have hq := hr.lt
  unfold visitD
  by_cases hs : D.seen[q]? = some D.at_
  · rw [if_pos hs]
    obtain ⟨e, he⟩ := (h.seen q hq).1 hs
    exact ⟨h, Ext.refl _ _, h.grow.here he⟩
  · rw [if_neg hs]
    have hnew : ∀ e, (q, e) ∉ D.L := fun e he => hs ((h.seen q hq).2 ⟨e, he⟩)
    refine ⟨⟨h.grow.add hnew hr, fun r hr2 => ?_, h.at_, by rw [List.length_set]; exact h.sl, fun x hx => ?_, ?_⟩, ⟨⟨[(q, E)], rfl, fun p hp => by rw [List.mem_singleton] at hp; subst hp; rfl⟩, rfl⟩, ⟨E, Nat.le_refl _, List.mem_append_right _ (List.mem_singleton.2 rfl)⟩⟩
    · show (D.seen.set q D.at_)[r]? = some D.at_ ↔ ∃ e, (r, e) ∈ D.L ++ [(q, E)]
      rw [List.getElem?_set]
      by_cases e : q = r
      · subst e
        rw [if_pos rfl, if_pos (by rw [h.sl]; exact hq)]
        exact ⟨fun _ => ⟨E, List.mem_append_right _ (List.mem_singleton.2 rfl)⟩, fun _ => rfl⟩
      · rw [if_neg e, h.seen r hr2]
        constructor
        · rintro ⟨e2, h2⟩; exact ⟨e2, List.mem_append_left _ h2⟩
        · rintro ⟨e2, h2⟩
          rcases List.mem_append.1 h2 with h3 | h3
          · exact ⟨e2, h3⟩
          · rw [List.mem_singleton] at h3; injection h3 with h3 _; exact absurd h3.symm e
    · rcases List.mem_or_eq_of_mem_set hx with h5 | h5
      · exact h.old x h5
      · exact .inr (by rw [h5, h.at_]; exact Int.le_refl _)
    · show (∃ e, (st, e) ∈ D.L ++ [(q, E)] ∧ (if q = st then (E : Int) else D.fin) = (e : Int)) ∨ ((∀ e, (st, e) ∉ D.L ++ [(q, E)]) ∧ (if q = st then (E : Int) else D.fin) = -1)
      by_cases e : q = st
      · subst e
        exact .inl ⟨E, List.mem_append_right _ (List.mem_singleton.2 rfl), if_pos rfl⟩
      · rw [if_neg e]
        rcases h.fin with ⟨e2, h2, h3⟩ | ⟨h2, h3⟩
        · exact .inl ⟨e2, List.mem_append_left _ h2, h3⟩
        · refine .inr ⟨fun e2 h4 => ?_, h3⟩
          rcases List.mem_append.1 h4 with h5 | h5
          · exact h2 e2 h5
          · rw [List.mem_singleton] at h5; injection h5 with h5 _; exact e h5.symm
/-- All steps to r above t that are passed have been taken. -/
def StepsTo (ss : List St) (m i : Nat) (r : Nat) (t : Int) (L : List (Nat × Nat)) (E : Nat) : Prop := ∀ t' : Nat, t < (t' : Int) → freeX ss r t' = true → (∃ h : t' / 2 < ss.length, passX ss[t' / 2] m i = true) → Se.Has L (t' / 2) E
theorem freeX_lt {ss : List St} {r t : Nat} (h : freeX ss r t = true) : t / 2 < ss.length := by
  unfold freeX at h
  cases e : ss[t / 2]? with
  | none => rw [e] at h; cases h
  | some s => exact (List.getElem?_eq_some_iff.1 e).1
theorem StepsTo.start (ss : List St) (m i r : Nat) (L : List (Nat × Nat)) (E : Nat) : StepsTo ss m i r (prevS (freeX ss r) (2 * ss.length)) L E := fun t' ht hf _ => by
  have h1 := freeX_lt hf
  have := prevS_out (p := freeX ss r) (k := 2 * ss.length) (t := t') (by omega) ht
  rw [hf] at this; cases this
theorem StepsTo.next {ss : List St} {m i r t : Nat} {L : List (Nat × Nat)} {E : Nat} (h : StepsTo ss m i r (t : Int) L E) (hh : (∃ h : t / 2 < ss.length, passX ss[t / 2] m i = true) → Se.Has L (t / 2) E) : StepsTo ss m i r (prevS (freeX ss r) t) L E := fun t' ht hf hp => by
  by_cases e : t' = t
  · subst e; exact hh hp
  · by_cases hlt : t < t'
    · exact h t' (by omega) hf hp
    · have := prevS_out (p := freeX ss r) (k := t) (t := t') (by omega) ht
      rw [hf] at this; cases this
theorem StepsTo.has {ss : List St} {m i r : Nat} {t : Int} {D D' : Dyn} {E : Nat} (h : StepsTo ss m i r t D.L E) (hx : Ext E D D') : StepsTo ss m i r t D'.L E := fun t' h1 h2 h3 => hx.has (h t' h1 h2 h3)
theorem StepsTo.done {ss : List St} {m i k E : Nat} {L : List (Nat × Nat)} (hk : k < L.length) (he : L[k].2 = E) (hd : DoneTo ss m i L k) (h : StepsTo ss m i L[k].1 (-1) L E) : DoneTo ss m i L (k + 1) := fun j hj hjk q hf => by
  by_cases e : j = k
  · subst e
    obtain ⟨t, rfl, h1, h2⟩ := free_iff.1 hf
    rw [he]
    exact h t (by omega) h1 h2
  · exact hd j hj (by omega) q hf
/-- Where a free step to r is passed, a run goes on. -/
theorem run_step {ss : List St} {bs : List UInt8} {i r t e : Nat} (hf : freeX ss r t = true) (hp : ∃ h : t / 2 < ss.length, passX ss[t / 2] bs.length i = true) (hr : Run ss bs i r e) : Run ss bs i (t / 2) e :=
  hr.free (free_iff.2 ⟨t, rfl, hf, hp⟩)
end Se
end Go.Proofs.Ythoidaaldngpmaa
