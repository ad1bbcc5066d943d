/-
  Layer 6: runs of an automaton from a state on, the offsets that they reach, and what a pass backward through a text keeps. No program. No conditions.
-/
import Derived.Test.YtgadomcbaenodaaAutoE
namespace Go.Proofs.Ytgadomcbaenodaa
namespace Se
open Cm Rx Au
/-- A run from a state at an offset to an accepting state at an offset. -/
inductive Run (ss : List St) (bs : List UInt8) : Nat → Nat → Nat → Prop
  | acc {i q : Nat} (h : q < ss.length) (hk : ss[q].kind = 4) (hi : i ≤ bs.length) : Run ss bs i q i
  | next {i q e : Nat} (h : q < ss.length) (hp : passS ss[q] (decide (i = 0)) (decide (i = bs.length)) = true) (hr : Run ss bs i ss[q].next.toNat e) : Run ss bs i q e
  | other {i q e : Nat} (h : q < ss.length) (hk : ss[q].kind = 1) (hr : Run ss bs i ss[q].other.toNat e) : Run ss bs i q e
  | read {i q e : Nat} (h : q < ss.length) (hk : ss[q].kind = 0) (hi : i < bs.length) (hb : ss[q].set bs[i].toNat = true) (hr : Run ss bs (i + 1) ss[q].next.toNat e) : Run ss bs i q e
theorem Run.lt {ss : List St} {bs : List UInt8} {i q e : Nat} (h : Run ss bs i q e) : q < ss.length := by
  cases h <;> assumption
theorem Run.le {ss : List St} {bs : List UInt8} {i q e : Nat} (h : Run ss bs i q e) : i ≤ e ∧ e ≤ bs.length := by
  induction h with
  | acc _ _ hi => exact ⟨Nat.le_refl _, hi⟩
  | next _ _ _ ih => exact ih
  | other _ _ _ ih => exact ih
  | read _ _ _ _ _ ih => exact ⟨by omega, ih.2⟩
/-- What is reached from a state that is reached itself. -/
theorem run_acc {ss : List St} {start : Nat} {bs : List UInt8} {i j q e : Nat} (hr : Run ss bs j q e) : ∀ d, j = i + d → clAt ss start bs i d q → ∃ d', e = i + d' ∧ accAt ss start bs i d' := by
  induction hr with
  | acc h hk hi => exact fun d hd hc => ⟨d, hd, _, h, hc, hk⟩
  | @next j q e h hp hr ih =>
    intro d hd hc
    refine ih d hd ?_
    subst hd
    exact .next h hc hp
  | @other j q e h hk hr ih =>
    intro d hd hc
    exact ih d hd (.other h hc hk)
  | @read j q e h hk hi hb hr ih =>
    intro d hd hc
    subst hd
    refine ih (d + 1) (by omega) (.base ⟨hr.lt, q, h, hc, hk, ⟨bs[i + d], by rw [List.getElem?_eq_getElem hi], hb⟩, rfl⟩)
theorem acc_run {ss : List St} {start : Nat} {bs : List UInt8} {i : Nat} : ∀ d, i + d ≤ bs.length → ∀ q e, clAt ss start bs i d q → Run ss bs (i + d) q e → Run ss bs i start e
  | 0, _, q, e, hc, hr => by
    unfold clAt at hc
    induction hc generalizing e with
    | base h => obtain ⟨rfl, _⟩ := h; exact hr
    | next hi _ hp ih => exact ih e (.next hi hp hr)
    | other hi _ hp ih => exact ih e (.other hi hp hr)
  | d + 1, hd, q, e, hc, hr => by
    unfold clAt at hc
    induction hc generalizing e with
    | base h =>
      obtain ⟨_, x, hx, hc, hk, ⟨b, hb, hs⟩, rfl⟩ := h
      obtain ⟨hi, hb2⟩ := List.getElem?_eq_some_iff.1 hb
      refine acc_run d (by omega) x e hc (.read hx hk hi (by rw [hb2]; exact hs) ?_)
      exact hr
    | next hi _ hp ih => exact ih e (.next hi hp hr)
    | other hi _ hp ih => exact ih e (.other hi hp hr)
/-- The automaton accepts exactly what its runs reach. -/
theorem run_iff {ss : List St} {start : Nat} {bs : List UInt8} {i d : Nat} (hs : start < ss.length) (hd : i + d ≤ bs.length) : accAt ss start bs i d ↔ Run ss bs i start (i + d) := by
  constructor
  · rintro ⟨x, hx, hc, hk⟩
    exact acc_run d hd x _ hc (.acc hx hk hd)
  · intro hr
    obtain ⟨d', h1, h2⟩ := run_acc hr 0 rfl (.base ⟨rfl, hs⟩)
    obtain rfl : d = d' := by omega
    exact h2
/-- The farthest offset. -/
def Best (ss : List St) (bs : List UInt8) (i q e : Nat) : Prop := Run ss bs i q e ∧ ∀ e', Run ss bs i q e' → e' ≤ e
theorem Best.unique {ss : List St} {bs : List UInt8} {i q e e' : Nat} (h : Best ss bs i q e) (h' : Best ss bs i q e') : e = e' := by
  have h1 := h.2 _ h'.1
  have h2 := h'.2 _ h.1
  omega
theorem Best.ex {ss : List St} {bs : List UInt8} {i q e : Nat} (h : Run ss bs i q e) : ∃ e', e ≤ e' ∧ Best ss bs i q e' := by
  suffices H : ∀ m, ∀ e, Run ss bs i q e → bs.length - e ≤ m → ∃ e', e ≤ e' ∧ Best ss bs i q e' from H _ e h (Nat.le_refl _)
  intro m
  induction m with
  | zero =>
    intro e h hm
    refine ⟨e, Nat.le_refl _, h, fun e' h' => ?_⟩
    have := h'.le.2
    omega
  | succ m ih =>
    intro e h hm
    by_cases hx : ∃ e', e < e' ∧ Run ss bs i q e'
    · obtain ⟨e', h1, h2⟩ := hx
      obtain ⟨e2, h3, h4⟩ := ih e' h2 (by have := h2.le.2; omega)
      exact ⟨e2, by omega, h4⟩
    · refine ⟨e, Nat.le_refl _, h, fun e' h' => ?_⟩
      by_cases hlt : e < e'
      · exact absurd ⟨e', hlt, h'⟩ hx
      · omega
/-- A step that reads nothing leads from one state to the other. -/
def Free (ss : List St) (n i : Nat) (q r : Nat) : Prop := ∃ h : q < ss.length, (passS ss[q] (decide (i = 0)) (decide (i = n)) = true ∧ ss[q].next.toNat = r) ∨ (ss[q].kind = 1 ∧ ss[q].other.toNat = r)
theorem Run.free {ss : List St} {bs : List UInt8} {i q r e : Nat} (hf : Free ss bs.length i q r) (h : Run ss bs i r e) : Run ss bs i q e := by
  obtain ⟨hq, ⟨hp, rfl⟩ | ⟨hk, rfl⟩⟩ := hf
  · exact .next hq hp h
  · exact .other hq hk h
/-- The places of an offset: each live state with its farthest end, the farthest first. -/
structure Places (ss : List St) (bs : List UInt8) (i : Nat) (L : List (Nat × Nat)) : Prop where
  mem : ∀ q e, (q, e) ∈ L ↔ Best ss bs i q e
  sorted : L.Pairwise fun x y => y.2 ≤ x.2
  nodup : (L.map Prod.fst).Nodup
/-- The places while they are found, E being the end at hand. -/
structure Grow (ss : List St) (bs : List UInt8) (i E : Nat) (L : List (Nat × Nat)) : Prop where
  sound : ∀ q e, (q, e) ∈ L → Run ss bs i q e
  ends : ∀ q e, (q, e) ∈ L → E ≤ e
  sorted : L.Pairwise fun x y => y.2 ≤ x.2
  nodup : (L.map Prod.fst).Nodup
/-- Has the state a place of an end that is at least as far? -/
def Has (L : List (Nat × Nat)) (q e : Nat) : Prop := ∃ e', e ≤ e' ∧ (q, e') ∈ L
theorem Has.mono {L L' : List (Nat × Nat)} {q e : Nat} (h : Has L q e) : Has (L ++ L') q e := by
  obtain ⟨e', h1, h2⟩ := h
  exact ⟨e', h1, List.mem_append_left _ h2⟩
theorem Grow.nil (ss : List St) (bs : List UInt8) (i E : Nat) : Grow ss bs i E [] :=
  ⟨fun q e h => (by cases h), fun q e h => (by cases h), .nil, .nil⟩
theorem Grow.less {ss : List St} {bs : List UInt8} {i E E' : Nat} {L : List (Nat × Nat)} (h : Grow ss bs i E L) (he : E' ≤ E) : Grow ss bs i E' L :=
  ⟨h.sound, fun q e hm => Nat.le_trans he (h.ends q e hm), h.sorted, h.nodup⟩
theorem Grow.add {ss : List St} {bs : List UInt8} {i E : Nat} {L : List (Nat × Nat)} (h : Grow ss bs i E L) {q : Nat} (hq : ∀ e, (q, e) ∉ L) (hr : Run ss bs i q E) : Grow ss bs i E (L ++ [(q, E)]) := by
  refine ⟨fun a e hm => ?_, fun a e hm => ?_, ?_, ?_⟩
  · rcases List.mem_append.1 hm with h1 | h1
    · exact h.sound a e h1
    · rw [List.mem_singleton] at h1; cases h1; exact hr
  · rcases List.mem_append.1 hm with h1 | h1
    · exact h.ends a e h1
    · rw [List.mem_singleton] at h1; cases h1; exact Nat.le_refl _
  · rw [List.pairwise_append]
    refine ⟨h.sorted, List.pairwise_singleton _ _, fun a ha b hb => ?_⟩
    rw [List.mem_singleton] at hb; subst hb
    exact h.ends a.1 a.2 ha
  · rw [List.map_append, List.nodup_append]
    refine ⟨h.nodup, (by simp), fun a ha b hb => ?_⟩
    obtain ⟨⟨q1, e1⟩, h1, rfl⟩ := List.mem_map.1 ha
    simp only [List.map_cons, List.map_nil, List.mem_singleton] at hb
    subst hb
    intro e
    subst e
    exact hq e1 h1
theorem Grow.here {ss : List St} {bs : List UInt8} {i E : Nat} {L : List (Nat × Nat)} (h : Grow ss bs i E L) {q e : Nat} (hm : (q, e) ∈ L) : Has L q E := ⟨e, h.ends q e hm, hm⟩
/-- Nothing is left of the places before the k-th: what leads to them without reading has a place. -/
def DoneTo (ss : List St) (n i : Nat) (L : List (Nat × Nat)) (k : Nat) : Prop := ∀ j (h : j < L.length), j < k → ∀ q, Free ss n i q L[j].1 → Has L q L[j].2
theorem DoneTo.grow {ss : List St} {n i k : Nat} {L L' : List (Nat × Nat)} (h : DoneTo ss n i L k) (hk : k ≤ L.length) : DoneTo ss n i (L ++ L') k := fun j hj hjk q hf => by
  have hjl : j < L.length := by omega
  rw [List.getElem_append_left hjl] at hf ⊢
  exact (h j hjl hjk q hf).mono
/-- What is to be found at an offset: the accepting states, and the states that read the byte and go on. -/
def Seed (ss : List St) (bs : List UInt8) (i : Nat) (q e : Nat) : Prop :=
  (∃ h : q < ss.length, ss[q].kind = 4 ∧ e = i ∧ i ≤ bs.length) ∨
  (∃ h : q < ss.length, ∃ hi : i < bs.length, ss[q].kind = 0 ∧ ss[q].set bs[i].toNat = true ∧ Best ss bs (i + 1) ss[q].next.toNat e)
theorem Seed.run {ss : List St} {bs : List UInt8} {i q e : Nat} (h : Seed ss bs i q e) : Run ss bs i q e := by
  rcases h with ⟨h, hk, rfl, hi⟩ | ⟨h, hi, hk, hb, hr⟩
  · exact .acc h hk hi
  · exact .read h hk hi hb hr.1
/-- A list that has every seed and what leads to it is the list of places. -/
theorem Grow.places {ss : List St} {bs : List UInt8} {i E : Nat} {L : List (Nat × Nat)} (h : Grow ss bs i E L) (hd : DoneTo ss bs.length i L L.length) (hs : ∀ q e, Seed ss bs i q e → Has L q e) : Places ss bs i L := by
  have hall : ∀ j q e, Run ss bs j q e → j = i → Has L q e := by
    intro j q e hr
    have hfree : ∀ q r e, Free ss bs.length i q r → Has L r e → Has L q e := by
      rintro q r e hf ⟨e', h1, h2⟩
      obtain ⟨k, hk, ek⟩ := List.mem_iff_getElem.1 h2
      obtain ⟨e2, h3, h4⟩ := hd k hk hk q (by rw [ek]; exact hf)
      rw [ek] at h3
      exact ⟨e2, Nat.le_trans h1 h3, h4⟩
    induction hr with
    | @acc i' q hq hk hi => intro hj; subst hj; exact hs _ _ (.inl ⟨hq, hk, rfl, hi⟩)
    | @next j q e hq hp hr ih => intro hj; subst hj; exact hfree _ _ _ ⟨hq, .inl ⟨hp, rfl⟩⟩ (ih rfl)
    | @other j q e hq hk hr ih => intro hj; subst hj; exact hfree _ _ _ ⟨hq, .inr ⟨hk, rfl⟩⟩ (ih rfl)
    | @read j q e hq hk hi hb hr ih =>
      intro hj
      subst hj
      obtain ⟨e', h1, h2⟩ := Best.ex hr
      obtain ⟨e2, h3, h4⟩ := hs q e' (.inr ⟨hq, hi, hk, hb, h2⟩)
      exact ⟨e2, Nat.le_trans h1 h3, h4⟩
  have huniq : ∀ q e e', (q, e) ∈ L → (q, e') ∈ L → e = e' := by
    intro q e e' h1 h2
    obtain ⟨a, ha, ea⟩ := List.mem_iff_getElem.1 h1
    obtain ⟨b, hb, eb⟩ := List.mem_iff_getElem.1 h2
    have hab : a = b := by
      have hn := List.pairwise_iff_getElem.1 h.nodup
      by_cases hlt : a < b
      · exact absurd (by rw [List.getElem_map, List.getElem_map, ea, eb]) (hn a b (by simpa using ha) (by simpa using hb) hlt)
      · by_cases hlt2 : b < a
        · exact absurd (by rw [List.getElem_map, List.getElem_map, ea, eb]) (hn b a (by simpa using hb) (by simpa using ha) hlt2)
        · omega
    subst hab
    rw [ea] at eb
    injection eb
  refine ⟨fun q e => ⟨fun hm => ⟨h.sound q e hm, fun e' hr => ?_⟩, fun hb => ?_⟩, h.sorted, h.nodup⟩
  · obtain ⟨e2, h1, h2⟩ := hall _ _ _ hr rfl
    rw [huniq q e e2 hm h2]; exact h1
  · obtain ⟨e2, h1, h2⟩ := hall _ _ _ hb.1 rfl
    have h3 := hb.2 _ (h.sound _ _ h2)
    obtain rfl : e = e2 := by omega
    exact h2
/-- Behind the text there is no place. -/
theorem places_end (ss : List St) (bs : List UInt8) : Places ss bs (bs.length + 1) [] :=
  ⟨fun q e => ⟨fun h => (by cases h), fun h => by have := h.1.le; omega⟩, .nil, .nil⟩
end Se
end Go.Proofs.Ytgadomcbaenodaa
