/-
  Thompson's theorem, over the plain functions that Build lays: what is laid for a node leads from state to state by the node's language. No program, no memory. No conditions.
-/
import Derived.Test.YtgadomcbaenodaaAutoN
import Derived.Test.YtgadomcbaenodaaSeaMath
namespace Go.Proofs.Ytgadomcbaenodaa
namespace Th
open Cm Rx Au Se
/-- A run with so many steps. -/
inductive RunN (S : List St) (bs : List UInt8) : Nat → Nat → Nat → Nat → Prop
  | acc {i q : Nat} (h : q < S.length) (hk : S[q].kind = 4) (hi : i ≤ bs.length) : RunN S bs 0 i q i
  | next {m i q e : Nat} (h : q < S.length) (hp : passS S[q] (decide (i = 0)) (decide (i = bs.length)) = true) (hr : RunN S bs m i S[q].next.toNat e) : RunN S bs (m + 1) i q e
  | other {m i q e : Nat} (h : q < S.length) (hk : S[q].kind = 1) (hr : RunN S bs m i S[q].other.toNat e) : RunN S bs (m + 1) i q e
  | read {m i q e : Nat} (h : q < S.length) (hk : S[q].kind = 0) (hi : i < bs.length) (hb : S[q].set bs[i].toNat = true) (hr : RunN S bs m (i + 1) S[q].next.toNat e) : RunN S bs (m + 1) i q e
theorem RunN.run {S : List St} {bs : List UInt8} {m i q e : Nat} (h : RunN S bs m i q e) : Run S bs i q e := by
  induction h with
  | acc h hk hi => exact .acc h hk hi
  | next h hp _ ih => exact .next h hp ih
  | other h hk _ ih => exact .other h hk ih
  | read h hk hi hb _ ih => exact .read h hk hi hb ih
theorem run_runN {S : List St} {bs : List UInt8} {i q e : Nat} (h : Run S bs i q e) : ∃ m, RunN S bs m i q e := by
  induction h with
  | acc h hk hi => exact ⟨0, .acc h hk hi⟩
  | next h hp _ ih => obtain ⟨m, hm⟩ := ih; exact ⟨m + 1, .next h hp hm⟩
  | other h hk _ ih => obtain ⟨m, hm⟩ := ih; exact ⟨m + 1, .other h hk hm⟩
  | read h hk hi hb _ ih => obtain ⟨m, hm⟩ := ih; exact ⟨m + 1, .read h hk hi hb hm⟩
theorem RunN.le {S : List St} {bs : List UInt8} {m i q e : Nat} (h : RunN S bs m i q e) : i ≤ e ∧ e ≤ bs.length := h.run.le
abbrev Rel := Nat → Nat → Prop
def Idr (n : Nat) : Rel := fun i j => i = j ∧ i ≤ n
def Cmp (R R' : Rel) : Rel := fun i j => ∃ k, R i k ∧ R' k j
def Uni (R R' : Rel) : Rel := fun i j => R i j ∨ R' i j
def powR (n : Nat) (R : Rel) : Nat → Rel
  | 0 => Idr n
  | r + 1 => Cmp R (powR n R r)
/-- From a state on one comes, by the relation, to another one, and nowhere else. -/
structure Sem (bs : List UInt8) (S : List St) (R : Rel) (q p : Int) : Prop where
  snd : ∀ m i e, RunN S bs m i q.toNat e → ∃ k m', m' ≤ m ∧ R i k ∧ RunN S bs m' k p.toNat e
  cpl : ∀ i k e, R i k → Run S bs k p.toNat e → Run S bs i q.toNat e
theorem Sem.same (bs : List UInt8) (S : List St) (q : Int) : Sem bs S (Idr bs.length) q q :=
  ⟨fun m i _ h => ⟨i, m, Nat.le_refl _, ⟨rfl, by have := h.le; omega⟩, h⟩, fun _ _ _ h hr => by obtain ⟨rfl, _⟩ := h; exact hr⟩
theorem Sem.cmp {bs : List UInt8} {S : List St} {R R' : Rel} {q p p' : Int} (h : Sem bs S R q p) (h' : Sem bs S R' p p') : Sem bs S (Cmp R R') q p' := by
  refine ⟨fun m i e hr => ?_, fun i k e hk hr => ?_⟩
  · obtain ⟨k, m', h1, h2, h3⟩ := h.snd m i e hr
    obtain ⟨k', m'', h4, h5, h6⟩ := h'.snd m' k e h3
    exact ⟨k', m'', by omega, ⟨k, h2, h5⟩, h6⟩
  · obtain ⟨k', h1, h2⟩ := hk
    exact h.cpl i k' e h1 (h'.cpl k' k e h2 hr)
theorem Sem.iff {bs : List UInt8} {S : List St} {R R' : Rel} {q p : Int} (h : Sem bs S R q p) (hi : ∀ i j, j ≤ bs.length → (R i j ↔ R' i j)) : Sem bs S R' q p := by
  refine ⟨fun m i e hr => ?_, fun i k e hk hr => h.cpl i k e ((hi i k (by have := hr.le; omega)).2 hk) hr⟩
  obtain ⟨k, m', h1, h2, h3⟩ := h.snd m i e hr
  exact ⟨k, m', h1, (hi i k (by have := h3.le; omega)).1 h2, h3⟩
/-- A state that is split. -/
theorem Sem.split {bs : List UInt8} {S : List St} {R R' : Rel} {z : Nat} {q q' p : Int} (hz : S[z]? = some ⟨1, noSet, q, q'⟩) (h : Sem bs S R q p) (h' : Sem bs S R' q' p) : Sem bs S (Uni R R') (z : Int) p := by
  obtain ⟨hl, he⟩ := List.getElem?_eq_some_iff.1 hz
  refine ⟨fun m i e hr => ?_, fun i k e hk hr => ?_⟩
  · rw [Int.toNat_natCast] at hr
    cases hr with
    | acc _ hk _ => rw [he] at hk; exact absurd hk (by simp)
    | next _ hp hr =>
      rw [he] at hr
      obtain ⟨k, m', h1, h2, h3⟩ := h.snd _ _ _ hr
      exact ⟨k, m', by omega, .inl h2, h3⟩
    | other _ hk hr =>
      rw [he] at hr
      obtain ⟨k, m', h1, h2, h3⟩ := h'.snd _ _ _ hr
      exact ⟨k, m', by omega, .inr h2, h3⟩
    | read _ hk _ _ _ => rw [he] at hk; exact absurd hk (by simp)
  · rw [Int.toNat_natCast]
    rcases hk with hk | hk
    · refine .next hl ?_ ?_
      · rw [he]; rfl
      · rw [he]; exact h.cpl i k e hk hr
    · refine .other hl ?_ ?_
      · rw [he]
      · rw [he]; exact h'.cpl i k e hk hr
def setR (bs : List UInt8) (f : Nat → Bool) : Rel := fun i j => j = i + 1 ∧ ∃ h : i < bs.length, f bs[i].toNat = true
theorem Sem.set {bs : List UInt8} {S : List St} {f : Nat → Bool} {z : Nat} {p x : Int} (hz : S[z]? = some ⟨0, f, p, x⟩) : Sem bs S (setR bs f) (z : Int) p := by
  obtain ⟨hl, he⟩ := List.getElem?_eq_some_iff.1 hz
  refine ⟨fun m i e hr => ?_, fun i k e hk hr => ?_⟩
  · rw [Int.toNat_natCast] at hr
    cases hr with
    | acc _ hk _ => rw [he] at hk; exact absurd hk (by simp)
    | next _ hp hr => rw [he] at hp; exact absurd hp (by simp [passS])
    | other _ hk hr => rw [he] at hk; exact absurd hk (by simp)
    | read _ hk hi hb hr =>
      rw [he] at hb hr
      exact ⟨i + 1, _, Nat.le_succ _, ⟨rfl, hi, hb⟩, hr⟩
  · rw [Int.toNat_natCast]
    obtain ⟨rfl, hi, hb⟩ := hk
    refine .read hl (by rw [he]) hi (by rw [he]; exact hb) (by rw [he]; exact hr)
theorem Sem.start {bs : List UInt8} {S : List St} {f : Nat → Bool} {z : Nat} {p x : Int} (hz : S[z]? = some ⟨2, f, p, x⟩) : Sem bs S (fun i j => i = 0 ∧ j = 0) (z : Int) p := by
  obtain ⟨hl, he⟩ := List.getElem?_eq_some_iff.1 hz
  refine ⟨fun m i e hr => ?_, fun i k e hk hr => ?_⟩
  · rw [Int.toNat_natCast] at hr
    cases hr with
    | acc _ hk _ => rw [he] at hk; exact absurd hk (by simp)
    | next _ hp hr =>
      rw [he] at hp hr
      have h0 : i = 0 := by simpa [passS] using hp
      subst h0
      exact ⟨0, _, Nat.le_succ _, ⟨rfl, rfl⟩, hr⟩
    | other _ hk hr => rw [he] at hk; exact absurd hk (by simp)
    | read _ hk hi hb hr => rw [he] at hk; exact absurd hk (by simp)
  · rw [Int.toNat_natCast]
    obtain ⟨rfl, rfl⟩ := hk
    exact .next hl (by rw [he]; simp [passS]) (by rw [he]; exact hr)
theorem Sem.stop {bs : List UInt8} {S : List St} {f : Nat → Bool} {z : Nat} {p x : Int} (hz : S[z]? = some ⟨3, f, p, x⟩) : Sem bs S (fun i j => i = bs.length ∧ j = bs.length) (z : Int) p := by
  obtain ⟨hl, he⟩ := List.getElem?_eq_some_iff.1 hz
  refine ⟨fun m i e hr => ?_, fun i k e hk hr => ?_⟩
  · rw [Int.toNat_natCast] at hr
    cases hr with
    | acc _ hk _ => rw [he] at hk; exact absurd hk (by simp)
    | next _ hp hr =>
      rw [he] at hp hr
      have h0 : i = bs.length := by simpa [passS] using hp
      subst h0
      exact ⟨_, _, Nat.le_succ _, ⟨rfl, rfl⟩, hr⟩
    | other _ hk hr => rw [he] at hk; exact absurd hk (by simp)
    | read _ hk hi hb hr => rw [he] at hk; exact absurd hk (by simp)
  · rw [Int.toNat_natCast]
    obtain ⟨rfl, rfl⟩ := hk
    exact .next hl (by rw [he]; simp [passS]) (by rw [he]; exact hr)
/-- A state that leads through a kid back to itself, or on. -/
theorem Sem.loop {bs : List UInt8} {S : List St} {R : Rel} {z : Nat} {q p : Int} (hz : S[z]? = some ⟨1, noSet, q, p⟩) (h : Sem bs S R q (z : Int)) : Sem bs S (fun i j => ∃ r, powR bs.length R r i j) (z : Int) p := by
  obtain ⟨hl, he⟩ := List.getElem?_eq_some_iff.1 hz
  refine ⟨fun m => ?_, fun i k e hk hr => ?_⟩
  · rw [Int.toNat_natCast]
    induction m using Nat.strongRecOn with
    | _ m ih =>
      intro i e hr
      have hb := hr.le
      cases hr with
      | acc _ hk _ => rw [he] at hk; exact absurd hk (by simp)
      | @next m _ _ _ _ hp hr =>
        rw [he] at hr
        obtain ⟨k, m', h1, h2, h3⟩ := h.snd _ _ _ hr
        rw [Int.toNat_natCast] at h3
        obtain ⟨k', m'', h4, ⟨r, h5⟩, h6⟩ := ih m' (by omega) k e h3
        exact ⟨k', m'', by omega, ⟨r + 1, k, h2, h5⟩, h6⟩
      | other _ hk hr =>
        rw [he] at hr
        exact ⟨i, _, Nat.le_succ _, ⟨0, rfl, by omega⟩, hr⟩
      | read _ hk _ _ _ => rw [he] at hk; exact absurd hk (by simp)
  · obtain ⟨r, hk⟩ := hk
    induction r generalizing i with
    | zero =>
      obtain ⟨rfl, _⟩ := hk
      rw [Int.toNat_natCast]
      exact .other hl (by rw [he]) (by rw [he]; exact hr)
    | succ r ih =>
      obtain ⟨k', h1, h2⟩ := hk
      have h3 := ih k' h2
      have h4 := h.cpl i k' e h1 h3
      rw [Int.toNat_natCast]
      exact .next hl (by rw [he]; rfl) (by rw [he]; exact h4)
/-- Do the states of a text, from one on, read as those of a list? -/
def Agr (S r : List St) (a : Nat) : Prop := ∀ k, a ≤ k → k < r.length → S[k]? = r[k]?
theorem Agr.pre {S r t : List St} {a : Nat} (h : Agr S (r ++ t) a) : Agr S r a := fun k h1 h2 => by
  rw [h k h1 (by rw [List.length_append]; omega), List.getElem?_append_left h2]
theorem Agr.more {S r : List St} {a b : Nat} (h : Agr S r a) (hb : a ≤ b) : Agr S r b := fun k h1 h2 => h k (by omega) h2
/-- A state that is no accepting one, and leads to states of the text. -/
def okN (n : Nat) (s : St) : Prop := okS n s = true ∧ s.kind ≠ 4
theorem hasB_mono {n m : Nat} {i : Int} (h : hasB n i = true) (hm : n ≤ m) : hasB m i = true := by
  unfold hasB at *
  rw [decide_eq_true_eq] at *
  omega
theorem okN.mono {n m : Nat} {s : St} (h : okN n s) (hm : n ≤ m) : okN m s := by
  refine ⟨?_, h.2⟩
  have h1 := h.1
  unfold okS at *
  split
  · rename_i hk; rw [if_pos hk] at h1; exact hasB_mono h1 hm
  · rename_i hk
    rw [if_neg hk] at h1
    split
    · rename_i hk1
      rw [if_pos hk1, Bool.and_eq_true] at h1
      rw [Bool.and_eq_true]
      exact ⟨hasB_mono h1.1 hm, hasB_mono h1.2 hm⟩
    · rename_i hk1; rw [if_neg hk1] at h1; exact h1
/-- What is laid over a text, and leads by the relation to a state of it. -/
structure GoodX (bs : List UInt8) (next : Int) (ss : List St) (x : Xs) (R : Rel) (b : Int) : Prop where
  ext : ∃ t, x.2 = ss ++ t ∧ ∀ s ∈ t, okN x.2.length s
  len : (x.2.length : Int) ≤ ss.length + b
  rng : 0 ≤ x.1 ∧ x.1 < (x.2.length : Int)
  sem : ∀ S, Agr S x.2 ss.length → Sem bs S R x.1 next
def Good (bs : List UInt8) (f : Bf) (R : Rel) (b : Int) : Prop := ∀ next ss, 0 ≤ next → next < (ss.length : Int) → GoodX bs next ss (f next ss) R b
section
variable {bs : List UInt8} {next : Int} {ss : List St} {x : Xs} {R R' : Rel} {b b' : Int} {f : Bf}
theorem GoodX.le (h : GoodX bs next ss x R b) : ss.length ≤ x.2.length := by
  obtain ⟨t, h1, _⟩ := h.ext
  rw [h1, List.length_append]; omega
theorem GoodX.iff (h : GoodX bs next ss x R b) (hi : ∀ i j, j ≤ bs.length → (R i j ↔ R' i j)) (hb : b ≤ b') : GoodX bs next ss x R' b' :=
  ⟨h.ext, by have := h.len; omega, h.rng, fun S hS => (h.sem S hS).iff hi⟩
theorem Good.iff (h : Good bs f R b) (hi : ∀ i j, j ≤ bs.length → (R i j ↔ R' i j)) (hb : b ≤ b') : Good bs f R' b' := fun next ss h1 h2 => (h next ss h1 h2).iff hi hb
theorem GoodX.same (h0 : 0 ≤ next) (h1 : next < (ss.length : Int)) : GoodX bs next ss (next, ss) (Idr bs.length) 0 :=
  ⟨⟨[], (List.append_nil ss).symm, fun _ h => absurd h (List.not_mem_nil)⟩, by show (ss.length : Int) ≤ _; omega, ⟨h0, h1⟩, fun S _ => .same bs S next⟩
/-- One thing laid before the other. -/
theorem GoodX.cmp (h : GoodX bs next ss x R b) (hf : Good bs f R' b') : GoodX bs next ss (f x.1 x.2) (Cmp R' R) (b' + b) := by
  have g := hf x.1 x.2 h.rng.1 h.rng.2
  obtain ⟨t, h1, h2⟩ := h.ext
  obtain ⟨t', h3, h4⟩ := g.ext
  refine ⟨⟨t ++ t', by rw [h3, h1, List.append_assoc], fun s hs => ?_⟩, by have := h.len; have := g.len; omega, g.rng, fun S hS => ?_⟩
  · rcases List.mem_append.1 hs with hs | hs
    · exact (h2 s hs).mono g.le
    · exact h4 s hs
  · have hS' := hS
    rw [h3] at hS'
    exact (g.sem S (hS.more h.le)).cmp (h.sem S hS'.pre)
/-- A state laid over a text that leads to two things. -/
theorem GoodX.add {A : List St} {s : St} (hA : ∃ t, A = ss ++ t ∧ ∀ s ∈ t, okN A.length s) (hl : (A.length : Int) ≤ ss.length + b) (hs : okN (A.length + 1) s) (hm : ∀ S : List St, Agr S A ss.length → S[A.length]? = some s → Sem bs S R (A.length : Int) next) : GoodX bs next ss (addF s A) R (b + 1) := by
  obtain ⟨t, h1, h2⟩ := hA
  have hA2 : (addF s A).2.length = A.length + 1 := by show (A ++ [s]).length = _; rw [List.length_append]; rfl
  refine ⟨⟨t ++ [s], by show A ++ [s] = _; rw [h1, List.append_assoc], fun u hu => ?_⟩, by rw [hA2]; omega, ⟨Int.natCast_nonneg _, by rw [hA2]; show (A.length : Int) < _; omega⟩, fun S hS => ?_⟩
  · rw [hA2]
    rcases List.mem_append.1 hu with hu | hu
    · exact (h2 u hu).mono (Nat.le_succ _)
    · rw [List.mem_singleton] at hu; rw [hu]; exact hs
  · refine hm S (Agr.pre hS) ?_
    rw [hS A.length (by rw [h1, List.length_append]; omega) (by rw [hA2]; omega)]
    show (A ++ [s])[A.length]? = _
    rw [List.getElem?_append_right (Nat.le_refl _), Nat.sub_self]; rfl
theorem okN_split {n : Nat} {q q' : Int} (h : 0 ≤ q ∧ q < (n : Int)) (h' : 0 ≤ q' ∧ q' < (n : Int)) : okN n ⟨1, noSet, q, q'⟩ := by
  refine ⟨?_, by simp⟩
  show (if (1 : Int) = 0 ∨ (1 : Int) = 2 ∨ (1 : Int) = 3 then hasB n q else if (1 : Int) = 1 then hasB n q && hasB n q' else decide ((1 : Int) = 4)) = true
  rw [if_neg (by decide), if_pos rfl]
  simp [hasB, h, h']
theorem okN_one {n : Nat} {k : Int} {g : Nat → Bool} {q x : Int} (hk : k = 0 ∨ k = 2 ∨ k = 3) (h : 0 ≤ q ∧ q < (n : Int)) : okN n ⟨k, g, q, x⟩ := by
  refine ⟨?_, by show k ≠ 4; omega⟩
  show (if k = 0 ∨ k = 2 ∨ k = 3 then hasB n q else _) = true
  rw [if_pos hk]
  simp [hasB, h]
/-- A choice laid over what one of the two leads to. -/
theorem GoodX.alt (h0 : 0 ≤ next) (h1 : next < (ss.length : Int)) (h : GoodX bs next ss x R b) (hf : Good bs f R' b') : GoodX bs next ss (addF ⟨1, noSet, (f next x.2).1, x.1⟩ (f next x.2).2) (Uni R' R) (b' + b + 1) := by
  have hle := h.le
  have g := hf next x.2 h0 (by omega)
  have gle := g.le
  obtain ⟨t, e1, e2⟩ := h.ext
  obtain ⟨t', e3, e4⟩ := g.ext
  refine .add ⟨t ++ t', by rw [e3, e1, List.append_assoc], fun s hs => ?_⟩ (by have := h.len; have := g.len; omega) (okN_split ?_ ?_) fun S hS hz => ?_
  · rcases List.mem_append.1 hs with hs | hs
    · exact (e2 s hs).mono g.le
    · exact e4 s hs
  · have := g.rng; omega
  · have := h.rng; omega
  · have hS' := hS
    rw [e3] at hS'
    exact .split hz (g.sem S (hS.more h.le)) (h.sem S hS'.pre)
/-- A round that may be left out. -/
theorem GoodX.opt (h0 : 0 ≤ next) (h1 : next < (ss.length : Int)) (h : GoodX bs next ss x R b) (hf : Good bs f R' b') : GoodX bs next ss (optS f next x) (Uni (Cmp R' R) (Idr bs.length)) (b' + b + 1) := by
  have g := h.cmp hf
  have gle := g.le
  refine .add g.ext g.len (okN_split ?_ ?_) fun S hS hz => ?_
  · have := g.rng; omega
  · omega
  · exact .split hz (g.sem S hS) (.same bs S next)
theorem good_set (g : Nat → Bool) : Good bs (fun next ss => addF ⟨0, g, next, 0⟩ ss) (setR bs g) 1 := fun next ss h0 h1 =>
  .add (b := 0) ⟨[], (List.append_nil ss).symm, fun _ h => absurd h (List.not_mem_nil)⟩ (by omega) (okN_one (by omega) (by omega)) fun _ _ hz => .set hz
theorem good_start : Good bs (fun next ss => addF ⟨2, noSet, next, 0⟩ ss) (fun i j => i = 0 ∧ j = 0) 1 := fun next ss h0 h1 =>
  .add (b := 0) ⟨[], (List.append_nil ss).symm, fun _ h => absurd h (List.not_mem_nil)⟩ (by omega) (okN_one (by omega) (by omega)) fun _ _ hz => .start hz
theorem good_end : Good bs (fun next ss => addF ⟨3, noSet, next, 0⟩ ss) (fun i j => i = bs.length ∧ j = bs.length) 1 := fun next ss h0 h1 =>
  .add (b := 0) ⟨[], (List.append_nil ss).symm, fun _ h => absurd h (List.not_mem_nil)⟩ (by omega) (okN_one (by omega) (by omega)) fun _ _ hz => .stop hz
theorem get_mid {α : Type} (ss : List α) (a : α) (t : List α) (d : Nat) : (ss ++ ([a] ++ t))[ss.length + 1 + d]? = t[d]? := by
  rw [List.getElem?_append_right (by omega), show ss.length + 1 + d - ss.length = d + 1 by omega]; rfl
theorem modify_mid {α : Type} (ss : List α) (a : α) (t : List α) (g : α → α) : (ss ++ ([a] ++ t)).modify ss.length g = ss ++ ([g a] ++ t) := by
  induction ss with
  | nil => rfl
  | cons b r ih =>
    rw [List.cons_append, List.length_cons, List.modify_succ_cons, ih]; rfl
/-- Any number of rounds. -/
theorem good_loop (hf : Good bs f R b) : Good bs (loopF f) (fun i j => ∃ r, powR bs.length R r i j) (b + 1) := fun next ss h0 h1 => by
  have hA : (ss ++ [(⟨1, noSet, next, next⟩ : St)]).length = ss.length + 1 := by rw [List.length_append]; rfl
  have g := hf (ss.length : Int) (ss ++ [⟨1, noSet, next, next⟩]) (Int.natCast_nonneg _) (by rw [hA]; omega)
  have gle := g.le
  have glen := g.len
  have grng := g.rng
  obtain ⟨t, e1, e2⟩ := g.ext
  rw [hA] at gle glen
  have hset : (loopF f next ss).2 = ss ++ ([⟨1, noSet, (f (ss.length : Int) (ss ++ [⟨1, noSet, next, next⟩])).1, next⟩] ++ t) := by
    show Au.setN _ _ _ = _
    unfold Au.setN
    rw [e1, List.append_assoc]
    exact modify_mid ss _ t _
  have hl2 : (loopF f next ss).2.length = (f (ss.length : Int) (ss ++ [⟨1, noSet, next, next⟩])).2.length := setN_len _ _ _
  refine ⟨⟨_, hset, fun s hs => ?_⟩, by rw [hl2]; omega, ⟨Int.natCast_nonneg _, by rw [hl2]; show (ss.length : Int) < _; omega⟩, fun S hS => ?_⟩
  · rw [hl2]
    rcases List.mem_append.1 hs with hs | hs
    · rw [List.mem_singleton] at hs
      rw [hs]
      exact okN_split grng (by omega)
    · exact e2 s hs
  · have hz := hS ss.length (Nat.le_refl _) (by rw [hl2]; omega)
    rw [hset, List.getElem?_append_right (Nat.le_refl _), Nat.sub_self] at hz
    refine .loop hz (g.sem S fun k h2 h3 => ?_)
    rw [hA] at h2
    rw [hS k (by omega) (by rw [hl2]; exact h3), hset, e1, List.append_assoc]
    obtain ⟨d, rfl⟩ : ∃ d, k = ss.length + 1 + d := ⟨k - (ss.length + 1), by omega⟩
    exact (get_mid ss _ t d).trans (get_mid ss _ t d).symm
end
abbrev Tb := Nat → Nat → Bool
def toR (t : Tb) : Rel := fun i j => t i j = true
def emptyB (d : Bool) : Tb := fun i j => d && (i == j)
def compB (n : Nat) (a b : Tb) : Tb := fun i j => (List.range (n + 1)).any fun k => decide (i ≤ k) && a i k && (decide (k ≤ j) && b k j)
def uniB (a b : Tb) : Tb := fun i j => a i j || b i j
def setB (bs : List UInt8) (g : Nat → Bool) : Tb := fun i j => (j == i + 1) && (match bs[i]? with | some c => g c.toNat | none => false)
def startB : Tb := fun i j => (i == 0) && (j == 0)
def endB (n : Nat) : Tb := fun i j => (i == n) && (j == n)
def getB (t : List Tb) (k : Int) : Tb := t.getD k.toNat (fun _ _ => false)
def iterB (g : Tb → Tb) : Nat → Tb → Tb
  | 0, x => x
  | m + 1, x => g (iterB g m x)
def moreB (n : Nat) (mn mx : Int) : Nat := if mx < 0 then n + 1 else (mx - mn).toNat
/-- The language of a node, as a table of the offsets. -/
def nodeB (bs : List UInt8) (all : List Tb) (n : Nd) : Tb :=
  if n.kind = 1 then setB bs n.set
  else if n.kind = 2 then startB
  else if n.kind = 3 then endB bs.length
  else if n.kind = 4 then n.kids.foldl (fun t k => compB bs.length t (getB all k)) (emptyB true)
  else if n.kind = 5 then n.kids.foldl (fun t k => uniB t (getB all k)) (emptyB false)
  else if n.kind = 6 then iterB (fun t => uniB t (compB bs.length t (getB all (n.kids.headD 0)))) (moreB bs.length n.mn n.mx) (iterB (fun t => compB bs.length t (getB all (n.kids.headD 0))) n.mn.toNat (emptyB true))
  else emptyB true
def tabG {α : Type} (step : List α → Nd → α) (ns : List Nd) : List α := ns.foldl (fun t n => t ++ [step t n]) []
section
variable {α : Type} {step : List α → Nd → α}
theorem tabG_take {ns : List Nd} {j : Nat} (h : j < ns.length) : tabG step (ns.take (j + 1)) = tabG step (ns.take j) ++ [step (tabG step (ns.take j)) ns[j]] := by
  unfold tabG
  rw [List.take_succ_eq_append_getElem h, List.foldl_append]
  rfl
theorem tabG_len (ns : List Nd) : (tabG step ns).length = ns.length := by
  suffices h : ∀ (ns : List Nd) (t : List α), (ns.foldl (fun t n => t ++ [step t n]) t).length = t.length + ns.length by
    have := h ns []; simpa [tabG] using this
  intro ns
  induction ns with
  | nil => intro t; rfl
  | cons n r ih => intro t; rw [List.foldl_cons, ih]; simp; omega
theorem tabG_pre (ns : List Nd) : ∀ d j, j + d ≤ ns.length → ∀ k, k < j → (tabG step (ns.take (j + d)))[k]? = (tabG step (ns.take j))[k]? := by
  intro d
  induction d with
  | zero => intro j _ k _; rfl
  | succ d ih =>
    intro j h k hk
    rw [← Nat.add_assoc, tabG_take (by omega : j + d < ns.length), List.getElem?_append_left (by rw [tabG_len, List.length_take]; omega)]
    exact ih j (by omega) k hk
theorem tabG_kid {ns : List Nd} {j k : Nat} {a : α} (hj : j ≤ ns.length) (hk : k < j) : (tabG step (ns.take j)).getD k a = (tabG step ns).getD k a := by
  have h := tabG_pre (step := step) ns (ns.length - j) j (by omega) k hk
  rw [show j + (ns.length - j) = ns.length by omega, List.take_length] at h
  rw [List.getD_eq_getElem?_getD, List.getD_eq_getElem?_getD, h]
theorem tabG_at {ns : List Nd} {j : Nat} {a : α} (hj : j < ns.length) : (tabG step ns).getD j a = step (tabG step (ns.take j)) ns[j] := by
  rw [← tabG_kid (j := j + 1) (by omega) (by omega), tabG_take hj]
  rw [List.getD_eq_getElem?_getD, List.getElem?_append_right (by rw [tabG_len, List.length_take]; omega), tabG_len, List.length_take, Nat.min_eq_left (by omega), Nat.sub_self]
  rfl
end
def langsB (bs : List UInt8) (ns : List Nd) : List Tb := tabG (nodeB bs) ns
def bigW (ns : List Nd) : List Int := tabG (fun ws n => weighF n (sumW ws n.kids)) ns
/-- Do two relations hold of the same offsets of a text? -/
def Eqv (n : Nat) (R R' : Rel) : Prop := ∀ i j, j ≤ n → (R i j ↔ R' i j)
def Up (R : Rel) : Prop := ∀ i j, R i j → i ≤ j
theorem Eqv.symm {n : Nat} {R R' : Rel} (h : Eqv n R R') : Eqv n R' R := fun i j hj => (h i j hj).symm
theorem Eqv.trans {n : Nat} {R R' R'' : Rel} (h : Eqv n R R') (h' : Eqv n R' R'') : Eqv n R R'' := fun i j hj => (h i j hj).trans (h' i j hj)
theorem Eqv.refl (n : Nat) (R : Rel) : Eqv n R R := fun _ _ _ => Iff.rfl
theorem Eqv.cmp {n : Nat} {R R' Q Q' : Rel} (h : Eqv n R R') (h' : Eqv n Q Q') (hq : Up Q) (hq' : Up Q') : Eqv n (Cmp R Q) (Cmp R' Q') := fun i j hj => by
  constructor
  · rintro ⟨k, h1, h2⟩
    have := hq _ _ h2
    exact ⟨k, (h i k (by omega)).1 h1, (h' k j hj).1 h2⟩
  · rintro ⟨k, h1, h2⟩
    have := hq' _ _ h2
    exact ⟨k, (h i k (by omega)).2 h1, (h' k j hj).2 h2⟩
theorem Eqv.uni {n : Nat} {R R' Q Q' : Rel} (h : Eqv n R R') (h' : Eqv n Q Q') : Eqv n (Uni R Q) (Uni R' Q') := fun i j hj => or_congr (h i j hj) (h' i j hj)
theorem up_id (n : Nat) : Up (Idr n) := fun i j h => by obtain ⟨rfl, _⟩ := h; exact Nat.le_refl _
theorem Up.cmp {R Q : Rel} (h : Up R) (h' : Up Q) : Up (Cmp R Q) := fun i j => by
  rintro ⟨k, h1, h2⟩
  have := h _ _ h1; have := h' _ _ h2; omega
theorem up_pow {n : Nat} {R : Rel} (h : Up R) : ∀ r, Up (powR n R r)
  | 0 => up_id n
  | r + 1 => h.cmp (up_pow h r)
theorem id_cmp {n : Nat} {R : Rel} (h : Up R) : Eqv n (Cmp (Idr n) R) R := fun i j hj => by
  constructor
  · rintro ⟨k, ⟨rfl, _⟩, h2⟩; exact h2
  · intro h2; exact ⟨i, ⟨rfl, by have := h _ _ h2; omega⟩, h2⟩
theorem cmp_id {n : Nat} {R : Rel} : Eqv n (Cmp R (Idr n)) R := fun i j hj => by
  constructor
  · rintro ⟨k, h2, ⟨rfl, _⟩⟩; exact h2
  · intro h2; exact ⟨j, h2, rfl, hj⟩
theorem cmp_assoc {R Q P : Rel} (i j : Nat) : Cmp (Cmp R Q) P i j ↔ Cmp R (Cmp Q P) i j := by
  constructor
  · rintro ⟨k, ⟨k', h1, h2⟩, h3⟩; exact ⟨k', h1, k, h2, h3⟩
  · rintro ⟨k, h1, k', h2, h3⟩; exact ⟨k', ⟨k, h1, h2⟩, h3⟩
theorem pow_add {n : Nat} {R : Rel} (h : Up R) (a b : Nat) : Eqv n (Cmp (powR n R a) (powR n R b)) (powR n R (a + b)) := by
  induction a with
  | zero => rw [Nat.zero_add]; exact id_cmp (up_pow h b)
  | succ a ih =>
    rw [show a + 1 + b = a + b + 1 by omega]
    refine Eqv.trans (fun i j _ => cmp_assoc i j) (Eqv.cmp (.refl _ _) ih ((up_pow h a).cmp (up_pow h b)) (up_pow h _))
theorem pow_one {n : Nat} {R : Rel} : Eqv n (powR n R 1) R := cmp_id
theorem pow_right {n : Nat} {R : Rel} (h : Up R) (a : Nat) : Eqv n (Cmp (powR n R a) R) (powR n R (a + 1)) :=
  Eqv.trans (Eqv.cmp (.refl _ _) pow_one.symm h (up_pow h 1)) (pow_add h a 1)
/-- What many rounds reach, few rounds reach. -/
theorem pow_few {n : Nat} {R : Rel} (h : Up R) : ∀ r i j, j ≤ n → powR n R r i j → ∃ r', r' ≤ r ∧ r' ≤ j - i ∧ powR n R r' i j
  | 0, i, j, _, hp => ⟨0, Nat.le_refl _, Nat.zero_le _, hp⟩
  | r + 1, i, j, hj, hp => by
    obtain ⟨k, h1, h2⟩ := hp
    obtain ⟨r', h3, h4, h5⟩ := pow_few h r k j hj h2
    have := h _ _ h1
    have := up_pow h _ _ _ h2
    by_cases hk : k = i
    · subst hk; exact ⟨r', by omega, h4, h5⟩
    · exact ⟨r' + 1, by omega, by omega, k, h1, h5⟩
theorem comp_iff {n : Nat} {a b : Tb} (ha : Up (toR a)) (hb : Up (toR b)) : Eqv n (toR (compB n a b)) (Cmp (toR a) (toR b)) := fun i j hj => by
  unfold toR compB
  rw [List.any_eq_true]
  simp only [Bool.and_eq_true, decide_eq_true_eq, List.mem_range]
  constructor
  · rintro ⟨k, _, ⟨_, h2⟩, _, h4⟩; exact ⟨k, h2, h4⟩
  · rintro ⟨k, h2, h4⟩
    have h5 := ha _ _ h2
    have h6 := hb _ _ h4
    exact ⟨k, by omega, ⟨h5, h2⟩, h6, h4⟩
theorem up_comp {n : Nat} {a b : Tb} : Up (toR (compB n a b)) := fun i j h => by
  unfold toR compB at h
  rw [List.any_eq_true] at h
  simp only [Bool.and_eq_true, decide_eq_true_eq, List.mem_range] at h
  obtain ⟨k, _, ⟨h1, _⟩, h3, _⟩ := h
  omega
theorem uni_iff {n : Nat} {a b : Tb} : Eqv n (toR (uniB a b)) (Uni (toR a) (toR b)) := fun i j _ => by
  unfold toR uniB Uni
  rw [Bool.or_eq_true]
theorem up_uni {a b : Tb} (ha : Up (toR a)) (hb : Up (toR b)) : Up (toR (uniB a b)) := fun i j h => by
  unfold toR uniB at h
  rw [Bool.or_eq_true] at h
  exact h.elim (ha i j) (hb i j)
theorem up_empty (d : Bool) : Up (toR (emptyB d)) := fun i j h => by
  unfold toR emptyB at h
  rw [Bool.and_eq_true, beq_iff_eq] at h
  omega
theorem empty_iff (n : Nat) : Eqv n (toR (emptyB true)) (Idr n) := fun i j hj => by
  unfold toR emptyB Idr
  rw [Bool.true_and, beq_iff_eq]
  omega
theorem none_iff (n : Nat) : Eqv n (toR (emptyB false)) (fun _ _ => False) := fun i j hj => by
  unfold toR emptyB
  rw [Bool.false_and]
  exact ⟨(fun h => by cases h), False.elim⟩
theorem set_iff (bs : List UInt8) (g : Nat → Bool) : Eqv bs.length (toR (setB bs g)) (setR bs g) := fun i j hj => by
  unfold toR setB setR
  rw [Bool.and_eq_true, beq_iff_eq]
  refine and_congr Iff.rfl ?_
  by_cases h : i < bs.length
  · rw [List.getElem?_eq_getElem h]
    exact ⟨fun h1 => ⟨h, h1⟩, fun ⟨_, h1⟩ => h1⟩
  · rw [List.getElem?_eq_none (by omega)]
    exact ⟨(fun h1 => by cases h1), fun ⟨h1, _⟩ => absurd h1 h⟩
theorem up_set (bs : List UInt8) (g : Nat → Bool) : Up (toR (setB bs g)) := fun i j h => by
  unfold toR setB at h
  rw [Bool.and_eq_true, beq_iff_eq] at h
  omega
theorem up_start : Up (toR startB) := fun i j h => by
  unfold toR startB at h
  rw [Bool.and_eq_true, beq_iff_eq, beq_iff_eq] at h
  omega
theorem up_end (n : Nat) : Up (toR (endB n)) := fun i j h => by
  unfold toR endB at h
  rw [Bool.and_eq_true, beq_iff_eq, beq_iff_eq] at h
  omega
/-- Kids one after another. -/
def catR (n : Nat) (Rk : Int → Rel) : List Int → Rel
  | [] => Idr n
  | k :: r => Cmp (Rk k) (catR n Rk r)
theorem up_cat {n : Nat} {Rk : Int → Rel} (h : ∀ k, Up (Rk k)) : ∀ l, Up (catR n Rk l)
  | [] => up_id n
  | k :: r => (h k).cmp (up_cat h r)
theorem cat_fold {n : Nat} {all : List Tb} (h : ∀ k, Up (toR (getB all k))) (kids : List Int) : ∀ t : Tb, Up (toR t) → Eqv n (toR (kids.foldl (fun t k => compB n t (getB all k)) t)) (Cmp (toR t) (catR n (fun k => toR (getB all k)) kids)) := by
  induction kids with
  | nil => intro t _; exact cmp_id.symm
  | cons k r ih =>
    intro t ht
    rw [List.foldl_cons]
    refine (ih _ up_comp).trans ?_
    refine Eqv.trans (Eqv.cmp (comp_iff ht (h k)) (.refl _ _) (up_cat h r) (up_cat h r)) fun i j _ => cmp_assoc i j
theorem cat_heavy {n : Nat} {Rk : Int → Rel} (h : ∀ k, Up (Rk k)) {bl : List Bool} (kids : List Int) (hb : ∀ k ∈ kids, bl.getD k.toNat false = true → Eqv n (Rk k) (Idr n)) : Eqv n (catR n Rk (heavyF bl kids)) (catR n Rk kids) := by
  induction kids with
  | nil => exact .refl _ _
  | cons k r ih =>
    have ih := ih fun k hk => hb k (List.mem_cons_of_mem _ hk)
    unfold heavyF at ih ⊢
    by_cases hk : bl.getD k.toNat false = true
    · rw [List.filter_cons_of_neg (by rw [hk]; decide)]
      refine ih.trans ?_
      exact (Eqv.trans (Eqv.cmp (hb k List.mem_cons_self hk) (.refl _ _) (up_cat h r) (up_cat h r)) (id_cmp (up_cat h r))).symm
    · rw [List.filter_cons_of_pos (by simpa using hk)]
      exact Eqv.cmp (.refl _ _) ih (up_cat h _) (up_cat h _)
theorem alt_fold {all : List Tb} (kids : List Int) : ∀ t : Tb, ∀ i j, toR (kids.foldl (fun t k => uniB t (getB all k)) t) i j ↔ (toR t i j ∨ ∃ k ∈ kids, toR (getB all k) i j) := by
  induction kids with
  | nil => intro t i j; simp
  | cons k r ih =>
    intro t i j
    rw [List.foldl_cons, ih]
    have : toR (uniB t (getB all k)) i j ↔ toR t i j ∨ toR (getB all k) i j := by unfold toR uniB; rw [Bool.or_eq_true]
    rw [this, or_assoc]
    refine or_congr Iff.rfl ?_
    simp
theorem up_alt {all : List Tb} (h : ∀ k, Up (toR (getB all k))) (kids : List Int) : Up (toR (kids.foldl (fun t k => uniB t (getB all k)) (emptyB false))) := fun i j hij => by
  rw [alt_fold] at hij
  rcases hij with h1 | ⟨k, _, h1⟩
  · exact up_empty _ i j h1
  · exact h k i j h1
theorem up_catB {n : Nat} {all : List Tb} (kids : List Int) : ∀ t : Tb, Up (toR t) → Up (toR (kids.foldl (fun t k => compB n t (getB all k)) t)) := by
  induction kids with
  | nil => exact fun t h => h
  | cons k r ih => intro t _; rw [List.foldl_cons]; exact ih _ up_comp
theorem rep_min {n : Nat} {g : Tb} (h : Up (toR g)) : ∀ m, Eqv n (toR (iterB (fun t => compB n t g) m (emptyB true))) (powR n (toR g) m) ∧ Up (toR (iterB (fun t => compB n t g) m (emptyB true)))
  | 0 => ⟨empty_iff n, up_empty _⟩
  | m + 1 => by
    obtain ⟨h1, h2⟩ := rep_min h m
    exact ⟨(comp_iff h2 h).trans ((Eqv.cmp h1 (.refl _ _) h h).trans (pow_right h m)), up_comp⟩
theorem rep_more {n : Nat} {g : Tb} (h : Up (toR g)) (mn : Nat) : ∀ m, Eqv n (toR (iterB (fun t => uniB t (compB n t g)) m (iterB (fun t => compB n t g) mn (emptyB true)))) (fun i j => ∃ r, mn ≤ r ∧ r ≤ mn + m ∧ powR n (toR g) r i j) ∧ Up (toR (iterB (fun t => uniB t (compB n t g)) m (iterB (fun t => compB n t g) mn (emptyB true))))
  | 0 => by
    obtain ⟨h1, h2⟩ := rep_min (n := n) h mn
    refine ⟨h1.trans fun i j _ => ⟨fun hp => ⟨mn, Nat.le_refl _, Nat.le_refl _, hp⟩, ?_⟩, h2⟩
    rintro ⟨r, h3, h4, h5⟩
    obtain rfl : r = mn := by omega
    exact h5
  | m + 1 => by
    obtain ⟨h1, h2⟩ := rep_more (n := n) h mn m
    refine ⟨?_, up_uni h2 up_comp⟩
    refine uni_iff.trans ((Eqv.uni h1 ((comp_iff h2 h).trans (Eqv.cmp h1 (.refl _ _) h h))).trans fun i j hj => ?_)
    constructor
    · rintro (⟨r, h3, h4, h5⟩ | ⟨k, ⟨r, h3, h4, h5⟩, h6⟩)
      · exact ⟨r, h3, by omega, h5⟩
      · exact ⟨r + 1, by omega, by omega, (pow_right h r i j hj).1 ⟨k, h5, h6⟩⟩
    · rintro ⟨r, h3, h4, h5⟩
      by_cases hr : r ≤ mn + m
      · exact .inl ⟨r, h3, hr, h5⟩
      · obtain rfl : r = mn + m + 1 := by omega
        obtain ⟨k, h6, h7⟩ := (pow_right h (mn + m) i j hj).2 h5
        exact .inr ⟨k, ⟨mn + m, by omega, Nat.le_refl _, h6⟩, h7⟩
theorem up_node {bs : List UInt8} {all : List Tb} (h : ∀ k, Up (toR (getB all k))) (n : Nd) : Up (toR (nodeB bs all n)) := by
  unfold nodeB
  split
  · exact up_set _ _
  split
  · exact up_start
  split
  · exact up_end _
  split
  · exact up_catB _ _ (up_empty _)
  split
  · exact up_alt h _
  split
  · exact (rep_more (n := bs.length) (h _) _ _).2
  · exact up_empty _
theorem up_langs (bs : List UInt8) (ns : List Nd) (k : Int) : Up (toR (getB (langsB bs ns) k)) := by
  suffices h : ∀ m, ∀ ns : List Nd, ns.length = m → ∀ k, Up (toR (getB (langsB bs ns) k)) from h _ ns rfl k
  intro m
  induction m with
  | zero =>
    intro ns h k
    rw [List.length_eq_zero_iff] at h
    subst h
    intro i j hij
    cases hij
  | succ m ih =>
    intro ns h k
    by_cases hk : k.toNat < ns.length
    · have e : getB (langsB bs ns) k = nodeB bs (langsB bs (ns.take k.toNat)) ns[k.toNat] := tabG_at hk
      rw [e]
      refine up_node (fun k' => ?_) _
      by_cases hk' : k'.toNat < k.toNat
      · have e2 : getB (langsB bs (ns.take k.toNat)) k' = getB (langsB bs (ns.take m)) k' := by
          have h1 : getB (langsB bs (ns.take k.toNat)) k' = getB (langsB bs ns) k' := tabG_kid (by omega) hk'
          have h2 : getB (langsB bs (ns.take m)) k' = getB (langsB bs ns) k' := tabG_kid (by omega) (by omega)
          rw [h1, h2]
        rw [e2]
        exact ih _ (by rw [List.length_take]; omega) _
      · intro i j hij
        unfold toR getB at hij
        rw [List.getD_eq_getElem?_getD, List.getElem?_eq_none (by show (tabG _ _).length ≤ _; rw [tabG_len, List.length_take]; omega)] at hij
        cases hij
    · intro i j hij
      unfold toR getB at hij
      rw [List.getD_eq_getElem?_getD, List.getElem?_eq_none (by show (tabG _ _).length ≤ _; rw [tabG_len]; omega)] at hij
      cases hij
section
variable {bs : List UInt8} {next : Int} {ss : List St} {x : Xs} {R : Rel} {b : Int} {f : Bf}
theorem good_cat {t : List Bf} {Rk : Int → Rel} {W : Int → Int} (h0 : 0 ≤ next) (h1 : next < (ss.length : Int)) : ∀ kids : List Int, (∀ k ∈ kids, Good bs (getT t k) (Rk k) (W k)) → GoodX bs next ss (catF t kids (next, ss)) (catR bs.length Rk kids) (kids.map W).sum
  | [], _ => .same h0 h1
  | k :: r, hk => by
    have h := GoodX.cmp (good_cat h0 h1 r fun k' h => hk k' (List.mem_cons_of_mem _ h)) (hk k List.mem_cons_self)
    exact h.iff (fun _ _ _ => Iff.rfl) (by rw [List.map_cons, List.sum_cons]; exact Int.le_refl _)
theorem good_alts {t : List Bf} {Rk : Int → Rel} {W : Int → Int} (h0 : 0 ≤ next) (h1 : next < (ss.length : Int)) (hx : GoodX bs next ss x R b) : ∀ kids : List Int, (∀ k ∈ kids, Good bs (getT t k) (Rk k) (W k)) → GoodX bs next ss (kids.foldr (altS t next) x) (fun i j => (∃ k ∈ kids, Rk k i j) ∨ R i j) ((kids.map W).sum + b + (kids.length : Int))
  | [], _ => hx.iff (fun i j _ => by simp) (by simp)
  | k :: r, hk => by
    have h := GoodX.alt h0 h1 (good_alts h0 h1 hx r fun k' h => hk k' (List.mem_cons_of_mem _ h)) (hk k List.mem_cons_self)
    refine h.iff (fun i j _ => ?_) (by rw [List.map_cons, List.sum_cons, List.length_cons]; omega)
    unfold Uni
    simp [or_assoc]
theorem good_alt {t : List Bf} {Rk : Int → Rel} {W : Int → Int} {kids : List Int} (hn : 1 ≤ kids.length) (hk : ∀ k ∈ kids, Good bs (getT t k) (Rk k) (W k)) : Good bs (altF t kids) (fun i j => ∃ k ∈ kids, Rk k i j) ((kids.map W).sum + (kids.length : Int) - 1) := fun next ss h0 h1 => by
  have hne : kids ≠ [] := by intro e; rw [e] at hn; exact absurd hn (by decide)
  obtain ⟨l, z, rfl⟩ : ∃ l z, kids = l ++ [z] := ⟨kids.dropLast, kids.getLast hne, (List.dropLast_concat_getLast hne).symm⟩
  have hz := hk z (by simp) next ss h0 h1
  have h := good_alts h0 h1 hz l fun k h => hk k (by simp [h])
  have e : altF t (l ++ [z]) next ss = l.foldr (altS t next) (getT t z next ss) := by
    show (l ++ [z]).dropLast.foldr _ (getT t ((l ++ [z]).getLastD 0) next ss) = _
    rw [List.dropLast_concat, List.getLastD_concat]
  rw [e]
  refine h.iff (fun i j _ => ?_) ?_
  · simp [or_and_right, exists_or]
  · rw [List.map_append, List.sum_append, List.length_append]
    simp only [List.map_cons, List.map_nil, List.sum_cons, List.sum_nil, List.length_cons, List.length_nil]
    omega
theorem good_min (hf : Good bs f R b) (hR : Up R) {Q : Rel} {b' : Int} (hQ : Up Q) (hx : GoodX bs next ss x Q b') : ∀ m, GoodX bs next ss (iterF (minS f) m x) (Cmp (powR bs.length R m) Q) ((m : Int) * b + b')
  | 0 => hx.iff (id_cmp hQ).symm (by omega)
  | m + 1 => by
    have h := (good_min hf hR hQ hx m).cmp hf
    refine h.iff (fun i j _ => (cmp_assoc i j).symm) ?_
    rw [Int.natCast_add, Int.add_mul]
    omega
theorem good_opts (hf : Good bs f R b) (h0 : 0 ≤ next) (h1 : next < (ss.length : Int)) (hR : Up R) : ∀ m, GoodX bs next ss (iterF (optS f next) m (next, ss)) (fun i j => ∃ r, r ≤ m ∧ powR bs.length R r i j) ((m : Int) * (b + 1))
  | 0 => by
    refine (GoodX.same h0 h1).iff (fun i j _ => ⟨fun h => ⟨0, Nat.le_refl _, h⟩, ?_⟩) (by omega)
    rintro ⟨r, hr, h⟩
    obtain rfl : r = 0 := by omega
    exact h
  | m + 1 => by
    have h := (good_opts hf h0 h1 hR m).opt h0 h1 hf
    refine h.iff (fun i j hj => ?_) ?_
    · constructor
      · rintro (⟨k, h2, r, h3, h4⟩ | h2)
        · exact ⟨r + 1, by omega, k, h2, h4⟩
        · exact ⟨0, Nat.zero_le _, h2⟩
      · rintro ⟨r, h3, h4⟩
        cases r with
        | zero => exact .inr h4
        | succ r =>
          obtain ⟨k, h5, h6⟩ := h4
          exact .inl ⟨k, h5, r, by omega, h6⟩
    · rw [Int.natCast_add, Int.add_mul]
      omega
/-- The rounds of a repetition. -/
def repR (n : Nat) (R : Rel) (mn mx : Int) : Rel := fun i j => ∃ r : Nat, mn ≤ (r : Int) ∧ (mx = -1 ∨ (r : Int) ≤ mx) ∧ powR n R r i j
theorem good_rep (hf : Good bs f R b) (hR : Up R) {mn mx : Int} (hm : 0 ≤ mn) (hx : mx = -1 ∨ mn ≤ mx) : Good bs (repF f mn mx) (repR bs.length R mn mx) (mn * b + optW mn mx * (b + 1)) := fun next ss h0 h1 => by
  obtain ⟨m, rfl⟩ : ∃ m : Nat, mn = m := ⟨mn.toNat, by omega⟩
  have hfin : ∀ {Q : Rel} {c : Int}, (∀ i j, Q i j → ∃ r, powR bs.length R r i j) → GoodX bs next ss (firstF f (m : Int) mx next ss) Q c → Eqv bs.length (Cmp (powR bs.length R m) Q) (repR bs.length R (m : Int) mx) → c ≤ optW (m : Int) mx * (b + 1) → GoodX bs next ss (repF f (m : Int) mx next ss) (repR bs.length R (m : Int) mx) ((m : Int) * b + optW (m : Int) mx * (b + 1)) := fun {Q c} hq hg he hc => by
    have hQ : Up Q := fun i j h => by obtain ⟨r, h⟩ := hq i j h; exact up_pow hR r i j h
    have h := good_min hf hR hQ hg m
    show GoodX bs next ss (iterF (minS f) (m : Int).toNat (firstF f (m : Int) mx next ss)) _ _
    rw [Int.toNat_natCast]
    exact h.iff he (by omega)
  by_cases hmx : mx = -1
  · subst hmx
    have h := good_loop hf next ss h0 h1
    have e : firstF f (m : Int) (-1) next ss = loopF f next ss := if_pos rfl
    rw [← e] at h
    refine hfin (fun _ _ h => h) h (fun i j hj => ?_) (by show b + 1 ≤ (if (-1 : Int) = -1 then 1 else _) * (b + 1); rw [if_pos rfl]; omega)
    constructor
    · rintro ⟨k, h2, r, h3⟩
      exact ⟨m + r, by omega, .inl rfl, (pow_add hR m r i j hj).1 ⟨k, h2, h3⟩⟩
    · rintro ⟨r, h2, _, h3⟩
      obtain ⟨d, rfl⟩ : ∃ d, r = m + d := ⟨r - m, by omega⟩
      obtain ⟨k, h4, h5⟩ := (pow_add hR m d i j hj).2 h3
      exact ⟨k, h4, d, h5⟩
  · obtain ⟨d, hd⟩ : ∃ d : Nat, mx = (m : Int) + d := ⟨(mx - m).toNat, by omega⟩
    subst hd
    have h := good_opts hf h0 h1 hR d
    have e : firstF f (m : Int) ((m : Int) + d) next ss = iterF (optS f next) d (next, ss) := by
      show (if _ then _ else _) = _
      rw [if_neg hmx, show ((m : Int) + d - m).toNat = d by omega]
    rw [← e] at h
    refine hfin (fun _ _ ⟨r, _, h⟩ => ⟨r, h⟩) h (fun i j hj => ?_) ?_
    · constructor
      · rintro ⟨k, h2, r, h3, h4⟩
        exact ⟨m + r, by omega, .inr (by omega), (pow_add hR m r i j hj).1 ⟨k, h2, h4⟩⟩
      · rintro ⟨r, h2, h3, h4⟩
        obtain ⟨q, rfl⟩ : ∃ q, r = m + q := ⟨r - m, by omega⟩
        obtain ⟨k, h5, h6⟩ := (pow_add hR m q i j hj).2 h4
        exact ⟨k, h5, q, by omega, h6⟩
    · show _ ≤ (if _ then _ else _) * (b + 1)
      rw [if_neg hmx, show (m : Int) + d - m = d by omega]
      exact Int.le_refl _
end
/-- The document's table of a repetition. -/
theorem repB_iff {n : Nat} {g : Tb} (h : Up (toR g)) {mn mx : Int} (hm : 0 ≤ mn) (hx : mx = -1 ∨ mn ≤ mx) : Eqv n (toR (iterB (fun t => uniB t (compB n t g)) (moreB n mn mx) (iterB (fun t => compB n t g) mn.toNat (emptyB true)))) (repR n (toR g) mn mx) := by
  refine (rep_more h mn.toNat (moreB n mn mx)).1.trans fun i j hj => ?_
  unfold moreB
  constructor
  · rintro ⟨r, h1, h2, h3⟩
    refine ⟨r, by omega, ?_, h3⟩
    split at h2 <;> omega
  · rintro ⟨r, h1, h2, h3⟩
    by_cases hmx : mx < 0
    · rw [if_pos hmx]
      obtain ⟨d, rfl⟩ : ∃ d, r = mn.toNat + d := ⟨r - mn.toNat, by omega⟩
      obtain ⟨k, h4, h5⟩ := (pow_add h mn.toNat d i j hj).2 h3
      obtain ⟨d', h6, h7, h8⟩ := pow_few h d k j hj h5
      exact ⟨mn.toNat + d', by omega, by omega, (pow_add h mn.toNat d' i j hj).1 ⟨k, h4, h8⟩⟩
    · rw [if_neg hmx]
      exact ⟨r, by omega, by omega, h3⟩
theorem sum_map (ws : List Int) (kids : List Int) : (kids.map fun k => ws.getD k.toNat 0).sum = sumW ws kids := by
  induction kids with
  | nil => rfl
  | cons k r ih => rw [List.map_cons, List.sum_cons, ih]; rfl
theorem sum_nonneg {W : Int → Int} {l : List Int} (h : ∀ k ∈ l, 0 ≤ W k) : 0 ≤ (l.map W).sum := by
  induction l with
  | nil => exact Int.le_refl _
  | cons k r ih =>
    have := h k List.mem_cons_self
    have := ih fun k hk => h k (List.mem_cons_of_mem _ hk)
    rw [List.map_cons, List.sum_cons]; omega
theorem sum_filter {W : Int → Int} {p : Int → Bool} {l : List Int} (h : ∀ k ∈ l, 0 ≤ W k) : ((l.filter p).map W).sum ≤ (l.map W).sum := by
  induction l with
  | nil => exact Int.le_refl _
  | cons k r ih =>
    have h1 := h k List.mem_cons_self
    have h2 := ih fun k hk => h k (List.mem_cons_of_mem _ hk)
    rw [List.filter_cons]
    split
    · rw [List.map_cons, List.map_cons, List.sum_cons, List.sum_cons]; omega
    · rw [List.map_cons, List.sum_cons]; omega
theorem pow_id {n : Nat} {R : Rel} (h : Eqv n R (Idr n)) (hR : Up R) : ∀ r, Eqv n (powR n R r) (Idr n)
  | 0 => .refl _ _
  | r + 1 => (Eqv.cmp h (pow_id h hR r) (up_pow hR r) (up_id n)).trans cmp_id
theorem opt_nonneg {mn mx : Int} (hx : mx = -1 ∨ mn ≤ mx) : 0 ≤ optW mn mx := by
  unfold optW
  split <;> omega
theorem weigh_nonneg {n : Nd} {ws : List Int} (hf : fineF n = true) (h : ∀ k ∈ n.kids, 0 ≤ ws.getD k.toNat 0) : 0 ≤ weighF n (sumW ws n.kids) := by
  have hs : 0 ≤ sumW ws n.kids := by rw [← sum_map]; exact sum_nonneg h
  rw [fine_iff] at hf
  unfold FineP at hf
  unfold weighF
  split
  · exact hs
  split
  · have : (2 : Int) ≤ (n.kids.length : Int) := by omega
    omega
  split
  · have h1 := Int.mul_nonneg (show 0 ≤ n.mn by omega) hs
    have h2 := Int.mul_nonneg (opt_nonneg (mn := n.mn) (mx := n.mx) (by omega)) (show 0 ≤ sumW ws n.kids + 1 by omega)
    omega
  · decide
/-- What Build lays for a node leads by the node's language. -/
theorem node_good {bs : List UInt8} {t : List Bf} {bl : List Bool} {ls : List Tb} {ws : List Int} {n : Nd} (hf : fineF n = true) (hU : ∀ k, Up (toR (getB ls k)))
    (hk : ∀ k ∈ n.kids, Good bs (getT t k) (toR (getB ls k)) (ws.getD k.toNat 0) ∧ (bl.getD k.toNat false = true → Eqv bs.length (toR (getB ls k)) (Idr bs.length)) ∧ 0 ≤ ws.getD k.toNat 0) :
    Good bs (stepN t bl n) (toR (nodeB bs ls n)) (weighF n (sumW ws n.kids)) ∧ (blankN bl n = true → Eqv bs.length (toR (nodeB bs ls n)) (Idr bs.length)) ∧ 0 ≤ weighF n (sumW ws n.kids) := by
  have hw := weigh_nonneg (ws := ws) hf fun k h => (hk k h).2.2
  have hW : ∀ k ∈ n.kids, 0 ≤ (fun k : Int => ws.getD k.toNat 0) k := fun k h => (hk k h).2.2
  have hfp := (fine_iff n).1 hf
  unfold FineP at hfp
  have h4 : n.kind = 4 → Eqv bs.length (toR (nodeB bs ls n)) (catR bs.length (fun k => toR (getB ls k)) n.kids) := fun h => by
    unfold nodeB
    rw [if_neg (by omega), if_neg (by omega), if_neg (by omega), if_pos h]
    exact (cat_fold hU n.kids _ (up_empty _)).trans ((Eqv.cmp (empty_iff _) (.refl _ _) (up_cat hU _) (up_cat hU _)).trans (id_cmp (up_cat hU _)))
  have hh := cat_heavy (n := bs.length) hU (bl := bl) n.kids fun k h => (hk k h).2.1
  have h6 : n.kind = 6 → Eqv bs.length (toR (nodeB bs ls n)) (repR bs.length (toR (getB ls (n.kids.headD 0))) n.mn n.mx) := fun h => by
    unfold nodeB
    rw [if_neg (by omega), if_neg (by omega), if_neg (by omega), if_neg (by omega), if_neg (by omega), if_pos h]
    exact repB_iff (hU _) (by omega) (by omega)
  have hb : blankN bl n = true → Eqv bs.length (toR (nodeB bs ls n)) (Idr bs.length) := fun h => by
    unfold blankN at h
    split at h
    · rename_i hk4
      rw [decide_eq_true_eq, List.length_eq_zero_iff] at h
      rw [h] at hh
      exact (h4 hk4).trans hh.symm
    · split at h
      · rename_i hk6
        rw [Bool.and_eq_true, Bool.or_eq_true, beq_iff_eq, beq_iff_eq] at h
        refine (h6 hk6).trans ?_
        have hp : Eqv bs.length (powR bs.length (toR (getB ls (n.kids.headD 0))) n.mn.toNat) (Idr bs.length) := by
          rcases h.2 with h0 | h0
          · rw [h0]; exact .refl _ _
          · obtain ⟨k, hk1⟩ : ∃ k, n.kids = [k] := List.length_eq_one_iff.1 (by omega)
            rw [hk1] at h0 ⊢
            exact pow_id ((hk k (by rw [hk1]; exact List.mem_singleton.2 rfl)).2.1 h0) (hU _) _
        refine Eqv.trans (fun i j _ => ⟨?_, fun h1 => ⟨n.mn.toNat, by omega, by omega, h1⟩⟩) hp
        rintro ⟨r, h1, h2, h3⟩
        obtain rfl : r = n.mn.toNat := by omega
        exact h3
      · cases h
  refine ⟨?_, hb, hw⟩
  by_cases hbl : blankN bl n = true
  · intro next ss h0 h1
    have e : stepN t bl n next ss = (next, ss) := if_pos hbl
    rw [e]
    exact (GoodX.same h0 h1).iff (hb hbl).symm hw
  have e : stepN t bl n = fun next ss => if n.kind = 1 then addF ⟨0, n.set, next, 0⟩ ss
      else if n.kind = 2 then addF ⟨2, noSet, next, 0⟩ ss
      else if n.kind = 3 then addF ⟨3, noSet, next, 0⟩ ss
      else if n.kind = 4 then catF t (partN bl n) (next, ss)
      else if n.kind = 5 then altF t n.kids next ss
      else if n.kind = 6 then repF (getT t (n.kids.headD 0)) n.mn n.mx next ss
      else (next, ss) := funext fun _ => funext fun _ => if_neg hbl
  rw [e]
  by_cases k1 : n.kind = 1
  · have e2 : nodeB bs ls n = setB bs n.set := if_pos k1
    have e3 : weighF n (sumW ws n.kids) = 1 := by unfold weighF; rw [if_neg (by omega), if_neg (by omega), if_neg (by omega)]
    simp only [if_pos k1]
    rw [e2, e3]
    exact (good_set n.set).iff (set_iff bs n.set).symm (Int.le_refl _)
  simp only [if_neg k1]
  by_cases k2 : n.kind = 2
  · have e2 : nodeB bs ls n = startB := by unfold nodeB; rw [if_neg k1, if_pos k2]
    have e3 : weighF n (sumW ws n.kids) = 1 := by unfold weighF; rw [if_neg (by omega), if_neg (by omega), if_neg (by omega)]
    simp only [if_pos k2]
    rw [e2, e3]
    exact good_start.iff (fun i j _ => by unfold toR startB; rw [Bool.and_eq_true, beq_iff_eq, beq_iff_eq]) (Int.le_refl _)
  simp only [if_neg k2]
  by_cases k3 : n.kind = 3
  · have e2 : nodeB bs ls n = endB bs.length := by unfold nodeB; rw [if_neg k1, if_neg k2, if_pos k3]
    have e3 : weighF n (sumW ws n.kids) = 1 := by unfold weighF; rw [if_neg (by omega), if_neg (by omega), if_neg (by omega)]
    simp only [if_pos k3]
    rw [e2, e3]
    exact good_end.iff (fun i j _ => by unfold toR endB; rw [Bool.and_eq_true, beq_iff_eq, beq_iff_eq]) (Int.le_refl _)
  simp only [if_neg k3]
  by_cases k4 : n.kind = 4
  · have e3 : weighF n (sumW ws n.kids) = sumW ws n.kids := if_pos k4
    have e4 : partN bl n = heavyF bl n.kids := if_pos k4
    simp only [if_pos k4]
    rw [e3, e4]
    intro next ss h0 h1
    have g := good_cat (W := fun k => ws.getD k.toNat 0) h0 h1 (heavyF bl n.kids) fun k h => (hk k (List.mem_filter.1 h).1).1
    exact g.iff (hh.trans (h4 k4).symm) (by rw [← sum_map]; exact sum_filter hW)
  simp only [if_neg k4]
  by_cases k5 : n.kind = 5
  · have e2 : nodeB bs ls n = n.kids.foldl (fun t k => uniB t (getB ls k)) (emptyB false) := by unfold nodeB; rw [if_neg k1, if_neg k2, if_neg k3, if_neg k4, if_pos k5]
    have e3 : weighF n (sumW ws n.kids) = sumW ws n.kids + (n.kids.length : Int) - 1 := by unfold weighF; rw [if_neg k4, if_pos k5]
    simp only [if_pos k5]
    rw [e2, e3]
    have g := good_alt (kids := n.kids) (W := fun k => ws.getD k.toNat 0) (by omega) fun k h => (hk k h).1
    refine g.iff (fun i j hj => ?_) (by rw [← sum_map]; exact Int.le_refl _)
    rw [alt_fold]
    constructor
    · exact .inr
    · rintro (h | h)
      · exact absurd h (by unfold toR emptyB; simp)
      · exact h
  simp only [if_neg k5]
  by_cases k6 : n.kind = 6
  · obtain ⟨k, hk1⟩ : ∃ k, n.kids = [k] := List.length_eq_one_iff.1 (by omega)
    have e3 : weighF n (sumW ws n.kids) = n.mn * ws.getD k.toNat 0 + optW n.mn n.mx * (ws.getD k.toNat 0 + 1) := by
      have e4 : sumW ws n.kids = ws.getD k.toNat 0 := by rw [hk1]; show _ + 0 = _; omega
      unfold weighF; rw [if_neg k4, if_neg k5, if_pos k6, e4]
    have h6 := h6 k6
    simp only [if_pos k6]
    rw [e3]
    have e5 : n.kids.headD 0 = k := by rw [hk1]; rfl
    rw [e5] at h6 ⊢
    exact (good_rep (hk k (by rw [hk1]; exact List.mem_singleton.2 rfl)).1 (hU k) (by omega) (by omega)).iff h6.symm (Int.le_refl _)
  simp only [if_neg k6]
  have e2 : nodeB bs ls n = emptyB true := by unfold nodeB; rw [if_neg k1, if_neg k2, if_neg k3, if_neg k4, if_neg k5, if_neg k6]
  rw [e2]
  intro next ss h0 h1
  exact (GoodX.same h0 h1).iff (empty_iff _).symm hw
/-- What Build lays for the nodes leads by their languages. -/
theorem table_good {bs : List UInt8} {ns : List Nd} (hv : ∀ k (h : k < ns.length), NodeOk k ns[k]) : ∀ j, j < ns.length →
    Good bs (getT (tabF ns) (j : Int)) (toR (getB (langsB bs ns) (j : Int))) ((bigW ns).getD j 0) ∧ ((blanksF ns).getD j false = true → Eqv bs.length (toR (getB (langsB bs ns) (j : Int))) (Idr bs.length)) ∧ 0 ≤ (bigW ns).getD j 0 := by
  intro j
  induction j using Nat.strongRecOn with
  | _ j ih =>
    intro hj
    obtain ⟨hko, hf⟩ := hv j hj
    have e1 : getB (langsB bs ns) (j : Int) = nodeB bs (langsB bs (ns.take j)) ns[j] := tabG_at (j := j) hj
    have e2 : (bigW ns).getD j 0 = weighF ns[j] (sumW (bigW (ns.take j)) ns[j].kids) := tabG_at hj
    rw [tab_at hj, e1, e2, blanks_at hj]
    refine node_good hf (fun k => up_langs bs _ k) fun k hk => ?_
    obtain ⟨h0, h1⟩ := hko k hk
    obtain ⟨k, rfl⟩ : ∃ m : Nat, k = m := ⟨k.toNat, by omega⟩
    have hkj : k < j := by omega
    have h := ih k hkj (by omega)
    have e3 : getB (langsB bs (ns.take j)) (k : Int) = getB (langsB bs ns) (k : Int) := tabG_kid (by omega) (by omega)
    have e4 : (bigW (ns.take j)).getD k 0 = (bigW ns).getD k 0 := tabG_kid (by omega) hkj
    have e5 : (blanksF (ns.take j)).getD k false = (blanksF ns).getD k false := by
      have h := blanks_pre ns (ns.length - j) j (by omega) k hkj
      rw [show j + (ns.length - j) = ns.length by omega, List.take_length] at h
      rw [List.getD_eq_getElem?_getD, List.getD_eq_getElem?_getD, h]
    rw [tab_kid (by omega) hkj, e3, Int.toNat_natCast, e4, e5]
    exact h
theorem cap_sum {ws bw : List Int} : ∀ kids : List Int, (∀ k ∈ kids, 0 ≤ bw.getD k.toNat 0 ∧ ws.getD k.toNat 0 = min (bw.getD k.toNat 0) 4001) → 0 ≤ sumW ws kids ∧ sumW ws kids ≤ sumW bw kids ∧ (sumW bw kids ≤ 4000 → sumW ws kids = sumW bw kids) ∧ (4001 ≤ sumW bw kids → 4001 ≤ sumW ws kids)
  | [], _ => ⟨Int.le_refl _, Int.le_refl _, fun _ => rfl, fun h => h⟩
  | k :: r, h => by
    have h1 := cap_sum r fun k' hk => h k' (List.mem_cons_of_mem _ hk)
    have h2 := h k List.mem_cons_self
    show 0 ≤ _ + _ ∧ _ + _ ≤ _ + _ ∧ (_ + _ ≤ 4000 → _ + _ = _ + _) ∧ (4001 ≤ _ + _ → 4001 ≤ _ + _)
    omega
theorem mul_large {a S : Int} (h : 1 ≤ a) (hS : 0 ≤ S) : S ≤ a * S := by
  have := Int.mul_le_mul_of_nonneg_right h hS
  omega
theorem cap_weigh {n : Nd} {ws bw : List Int} (hf : fineF n = true) (h : ∀ k ∈ n.kids, 0 ≤ bw.getD k.toNat 0 ∧ ws.getD k.toNat 0 = min (bw.getD k.toNat 0) 4001) : capW (weighF n (sumW ws n.kids)) = min (weighF n (sumW bw n.kids)) 4001 := by
  obtain ⟨h0, h1, h2, h3⟩ := cap_sum n.kids h
  have hfp := (fine_iff n).1 hf
  unfold FineP at hfp
  show min _ _ = _
  by_cases hS : sumW bw n.kids ≤ 4000
  · rw [h2 hS]
  · have h3 := h3 (by omega)
    unfold weighF
    split
    · omega
    split
    · omega
    split
    · have ho := opt_nonneg (mn := n.mn) (mx := n.mx) (by omega)
      generalize optW n.mn n.mx = o at ho
      by_cases hm : 1 ≤ n.mn
      · have a1 := mul_large hm h0
        have a2 := mul_large hm (show 0 ≤ sumW bw n.kids by omega)
        have a3 := Int.mul_nonneg ho (show 0 ≤ sumW ws n.kids + 1 by omega)
        have a4 := Int.mul_nonneg ho (show 0 ≤ sumW bw n.kids + 1 by omega)
        omega
      · have e : n.mn = 0 := by omega
        rw [e, Int.zero_mul, Int.zero_mul, Int.zero_add, Int.zero_add]
        by_cases hm2 : 1 ≤ o
        · have a1 := mul_large hm2 (show 0 ≤ sumW ws n.kids + 1 by omega)
          have a2 := mul_large hm2 (show 0 ≤ sumW bw n.kids + 1 by omega)
          omega
        · have e2 : o = 0 := by omega
          rw [e2, Int.zero_mul, Int.zero_mul]
    · rfl
theorem cap_at {ns : List Nd} (hv : ∀ k (h : k < ns.length), NodeOk k ns[k]) : ∀ j, j < ns.length → (weightsF ns).getD j 0 = min ((bigW ns).getD j 0) 4001 := by
  intro j
  induction j using Nat.strongRecOn with
  | _ j ih =>
    intro hj
    obtain ⟨hko, hf⟩ := hv j hj
    have e1 : (weightsF ns).getD j 0 = capW (weighF ns[j] (sumW (weightsF (ns.take j)) ns[j].kids)) := tabG_at (step := fun ws n => capW (weighF n (sumW ws n.kids))) hj
    have e2 : (bigW ns).getD j 0 = weighF ns[j] (sumW (bigW (ns.take j)) ns[j].kids) := tabG_at hj
    rw [e1, e2]
    refine cap_weigh hf fun k hk => ?_
    obtain ⟨h0, h1⟩ := hko k hk
    obtain ⟨k, rfl⟩ : ∃ m : Nat, k = m := ⟨k.toNat, by omega⟩
    have hkj : k < j := by omega
    have e3 : (weightsF (ns.take j)).getD k 0 = (weightsF ns).getD k 0 := tabG_kid (step := fun ws n => capW (weighF n (sumW ws n.kids))) (by omega) hkj
    have e4 : (bigW (ns.take j)).getD k 0 = (bigW ns).getD k 0 := tabG_kid (by omega) hkj
    rw [Int.toNat_natCast, e3, e4]
    exact ⟨(table_good (bs := []) hv k (by omega)).2.2, ih k hkj (by omega)⟩
theorem run_accept {S : List St} {bs : List UInt8} {s : St} (h0 : S[0]? = some s) (hk : s.kind = 4) (i e : Nat) : Run S bs i 0 e ↔ i ≤ bs.length ∧ e = i := by
  obtain ⟨hl, he⟩ := List.getElem?_eq_some_iff.1 h0
  constructor
  · intro hr
    cases hr with
    | acc _ _ hi => exact ⟨hi, rfl⟩
    | next _ hp _ => rw [he] at hp; exact absurd hp (by unfold passS; rw [hk]; simp)
    | other _ h _ => rw [he, hk] at h; exact absurd h (by decide)
    | read _ h _ _ _ => rw [he, hk] at h; exact absurd h (by decide)
  · rintro ⟨h1, rfl⟩
    exact .acc hl (by rw [he]; exact hk) h1
/-- Thompson's theorem. -/
theorem thompson {bs : List UInt8} {ns : List Nd} (hv : Valid ns) (x : Xs) (hx : getT (tabF ns) ((ns.length - 1 : Nat) : Int) 0 [⟨4, noSet, 0, 0⟩] = x) :
    0 ≤ x.1 ∧ x.1 < (x.2.length : Int) ∧ (∀ k (h : k < x.2.length), okS x.2.length x.2[k] = true) ∧ (x.2.length : Int) ≤ 1 + (bigW ns).getD (ns.length - 1) 0 ∧
    ∀ i e, Run x.2 bs i x.1.toNat e ↔ e ≤ bs.length ∧ getB (langsB bs ns) ((ns.length - 1 : Nat) : Int) i e = true := by
  obtain ⟨hp, _, hn⟩ := hv
  have g := (table_good (bs := bs) hn (ns.length - 1) (by omega)).1 0 [⟨4, noSet, 0, 0⟩] (Int.le_refl _) (by decide)
  rw [hx] at g
  obtain ⟨t, e1, e2⟩ := g.ext
  have hS := g.sem x.2 fun _ _ _ => rfl
  have h0 : x.2[0]? = some ⟨4, noSet, 0, 0⟩ := by rw [e1]; rfl
  refine ⟨g.rng.1, g.rng.2, fun k hk => ?_, by have := g.len; simpa using this, fun i e => ?_⟩
  · have h1 : x.2[k] ∈ ([⟨4, noSet, 0, 0⟩] ++ t : List St) := by rw [← e1]; exact List.getElem_mem hk
    rcases List.mem_append.1 h1 with h2 | h2
    · rw [List.mem_singleton] at h2; rw [h2]; rfl
    · exact (e2 _ h2).1
  · constructor
    · intro hr
      obtain ⟨m, hm⟩ := run_runN hr
      obtain ⟨k, m', _, h1, h2⟩ := hS.snd m i e hm
      obtain ⟨_, rfl⟩ := (run_accept h0 rfl k e).1 h2.run
      exact ⟨hr.le.2, h1⟩
    · rintro ⟨h1, h2⟩
      exact hS.cpl i e e h2 ((run_accept h0 rfl e e).2 ⟨h1, rfl⟩)
/-- At most so many states more, whatever is laid before. -/
def GrowsI (f : Bf) (b : Int) : Prop := ∀ next ss, ((f next ss).2.length : Int) ≤ ss.length + b
theorem gr_cat {t : List Bf} {W : Int → Int} (x : Xs) : ∀ kids : List Int, (∀ k ∈ kids, GrowsI (getT t k) (W k)) → ((catF t kids x).2.length : Int) ≤ x.2.length + (kids.map W).sum
  | [], _ => by simp [catF]
  | k :: r, h => by
    have h1 := gr_cat x r fun k' hk => h k' (List.mem_cons_of_mem _ hk)
    have h2 := h k List.mem_cons_self (catF t r x).1 (catF t r x).2
    rw [List.map_cons, List.sum_cons]
    show ((getT t k (catF t r x).1 (catF t r x).2).2.length : Int) ≤ _
    omega
theorem gr_alts {t : List Bf} {W : Int → Int} (next : Int) (x : Xs) : ∀ kids : List Int, (∀ k ∈ kids, GrowsI (getT t k) (W k)) → ((kids.foldr (altS t next) x).2.length : Int) ≤ x.2.length + (kids.map W).sum + kids.length
  | [], _ => by simp
  | k :: r, h => by
    have h1 := gr_alts next x r fun k' hk => h k' (List.mem_cons_of_mem _ hk)
    have h2 := h k List.mem_cons_self next (r.foldr (altS t next) x).2
    rw [List.map_cons, List.sum_cons, List.length_cons]
    show (((getT t k next (r.foldr (altS t next) x).2).2 ++ [_] : List St).length : Int) ≤ _
    rw [List.length_append, List.length_singleton]
    omega
theorem gr_alt {t : List Bf} {W : Int → Int} {kids : List Int} (hn : 1 ≤ kids.length) (h : ∀ k ∈ kids, GrowsI (getT t k) (W k)) : GrowsI (altF t kids) ((kids.map W).sum + (kids.length : Int) - 1) := fun next ss => by
  have hne : kids ≠ [] := by intro e; rw [e] at hn; exact absurd hn (by decide)
  obtain ⟨l, z, rfl⟩ : ∃ l z, kids = l ++ [z] := ⟨kids.dropLast, kids.getLast hne, (List.dropLast_concat_getLast hne).symm⟩
  have hz := h z (by simp) next ss
  have h1 := gr_alts next (getT t z next ss) l fun k hk => h k (by simp [hk])
  have e : altF t (l ++ [z]) next ss = l.foldr (altS t next) (getT t z next ss) := by
    show (l ++ [z]).dropLast.foldr _ (getT t ((l ++ [z]).getLastD 0) next ss) = _
    rw [List.dropLast_concat, List.getLastD_concat]
  rw [e, List.map_append, List.sum_append, List.length_append]
  simp only [List.map_cons, List.map_nil, List.sum_cons, List.sum_nil, List.length_cons, List.length_nil]
  omega
theorem gr_min {f : Bf} {b : Int} (h : GrowsI f b) (x : Xs) : ∀ m, ((iterF (minS f) m x).2.length : Int) ≤ x.2.length + m * b
  | 0 => by simp [iterF]
  | m + 1 => by
    have h1 := gr_min h x m
    have h2 := h (iterF (minS f) m x).1 (iterF (minS f) m x).2
    rw [Int.natCast_add, Int.add_mul]
    show ((f (iterF (minS f) m x).1 (iterF (minS f) m x).2).2.length : Int) ≤ _
    omega
theorem gr_opt {f : Bf} {b : Int} (h : GrowsI f b) (next : Int) (x : Xs) : ∀ m, ((iterF (optS f next) m x).2.length : Int) ≤ x.2.length + m * (b + 1)
  | 0 => by simp [iterF]
  | m + 1 => by
    have h1 := gr_opt h next x m
    have h2 := h (iterF (optS f next) m x).1 (iterF (optS f next) m x).2
    rw [Int.natCast_add, Int.add_mul]
    show (((f (iterF (optS f next) m x).1 (iterF (optS f next) m x).2).2 ++ [_] : List St).length : Int) ≤ _
    rw [List.length_append, List.length_singleton]
    omega
theorem gr_rep {f : Bf} {b : Int} (h : GrowsI f b) {mn mx : Int} (hm : 0 ≤ mn) (hx : mx = -1 ∨ mn ≤ mx) : GrowsI (repF f mn mx) (mn * b + optW mn mx * (b + 1)) := fun next ss => by
  have h1 := gr_min h (firstF f mn mx next ss) mn.toNat
  have e1 : ((mn.toNat : Nat) : Int) = mn := by omega
  rw [e1] at h1
  suffices h2 : ((firstF f mn mx next ss).2.length : Int) ≤ ss.length + optW mn mx * (b + 1) by
    show ((iterF (minS f) mn.toNat (firstF f mn mx next ss)).2.length : Int) ≤ _
    omega
  unfold firstF optW
  by_cases h3 : mx = -1
  · rw [if_pos h3, if_pos h3]
    show ((Au.setN _ _ _).length : Int) ≤ _
    rw [setN_len]
    have h4 := h (ss.length : Int) (ss ++ [⟨1, noSet, next, next⟩])
    rw [List.length_append, List.length_singleton] at h4
    omega
  · rw [if_neg h3, if_neg h3]
    have h4 := gr_opt h next (next, ss) (mx - mn).toNat
    have e2 : (((mx - mn).toNat : Nat) : Int) = mx - mn := by omega
    rw [e2] at h4
    exact h4
theorem gr_node {t : List Bf} {bl : List Bool} {ws : List Int} {n : Nd} (hf : fineF n = true) (hk : ∀ k ∈ n.kids, GrowsI (getT t k) (ws.getD k.toNat 0) ∧ 0 ≤ ws.getD k.toNat 0) : GrowsI (stepN t bl n) (weighF n (sumW ws n.kids)) := fun next ss => by
  have hw := weigh_nonneg (ws := ws) hf fun k h => (hk k h).2
  have hfp := (fine_iff n).1 hf
  unfold FineP at hfp
  unfold stepN
  have hone : ∀ s : St, ((addF s ss).2.length : Int) ≤ ss.length + 1 := fun s => by show ((ss ++ [s]).length : Int) ≤ _; rw [List.length_append, List.length_singleton]; omega
  have e1 : n.kind ≠ 4 → n.kind ≠ 5 → n.kind ≠ 6 → weighF n (sumW ws n.kids) = 1 := fun h4 h5 h6 => by unfold weighF; rw [if_neg h4, if_neg h5, if_neg h6]
  split
  · show (ss.length : Int) ≤ _; omega
  split
  · rw [e1 (by omega) (by omega) (by omega)]; exact hone _
  split
  · rw [e1 (by omega) (by omega) (by omega)]; exact hone _
  split
  · rw [e1 (by omega) (by omega) (by omega)]; exact hone _
  split
  · rename_i k4
    have e3 : weighF n (sumW ws n.kids) = sumW ws n.kids := if_pos k4
    have e4 : partN bl n = heavyF bl n.kids := if_pos k4
    rw [e3, e4]
    have h := gr_cat (t := t) (W := fun k => ws.getD k.toNat 0) (next, ss) (heavyF bl n.kids) fun k h => (hk k (List.mem_filter.1 h).1).1
    have h2 := sum_filter (W := fun k => ws.getD k.toNat 0) (p := fun k => !bl.getD k.toNat false) (l := n.kids) fun k h => (hk k h).2
    rw [sum_map ws n.kids] at h2
    show ((catF t (heavyF bl n.kids) (next, ss)).2.length : Int) ≤ _
    unfold heavyF at h ⊢
    have h3 : (((next, ss) : Xs).2.length : Int) = ss.length := rfl
    omega
  split
  · rename_i k4 k5
    have e3 : weighF n (sumW ws n.kids) = sumW ws n.kids + (n.kids.length : Int) - 1 := by unfold weighF; rw [if_neg k4, if_pos k5]
    have h := gr_alt (t := t) (kids := n.kids) (W := fun k => ws.getD k.toNat 0) (by omega) (fun k h => (hk k h).1) next ss
    rw [sum_map] at h
    rw [e3]; omega
  split
  · rename_i k4 k5 k6
    obtain ⟨k, hk1⟩ : ∃ k, n.kids = [k] := List.length_eq_one_iff.1 (by omega)
    have e3 : weighF n (sumW ws n.kids) = n.mn * ws.getD k.toNat 0 + optW n.mn n.mx * (ws.getD k.toNat 0 + 1) := by
      have e4 : sumW ws n.kids = ws.getD k.toNat 0 := by rw [hk1]; show _ + 0 = _; omega
      unfold weighF; rw [if_neg k4, if_neg k5, if_pos k6, e4]
    have e5 : n.kids.headD 0 = k := by rw [hk1]; rfl
    rw [e3, e5]
    exact gr_rep (hk k (by rw [hk1]; exact List.mem_singleton.2 rfl)).1 (by omega) (by omega) next ss
  · show (ss.length : Int) ≤ _; omega
theorem gr_at {ns : List Nd} (hv : ∀ k (h : k < ns.length), NodeOk k ns[k]) : ∀ j, j < ns.length → GrowsI (getT (tabF ns) (j : Int)) ((bigW ns).getD j 0) := by
  intro j
  induction j using Nat.strongRecOn with
  | _ j ih =>
    intro hj
    obtain ⟨hko, hf⟩ := hv j hj
    have e2 : (bigW ns).getD j 0 = weighF ns[j] (sumW (bigW (ns.take j)) ns[j].kids) := tabG_at hj
    rw [tab_at hj, e2]
    refine gr_node hf fun k hk => ?_
    obtain ⟨h0, h1⟩ := hko k hk
    obtain ⟨k, rfl⟩ : ∃ m : Nat, k = m := ⟨k.toNat, by omega⟩
    have hkj : k < j := by omega
    have e4 : (bigW (ns.take j)).getD k 0 = (bigW ns).getD k 0 := tabG_kid (by omega) hkj
    rw [tab_kid (by omega) hkj, Int.toNat_natCast, e4]
    exact ⟨ih k hkj (by omega), (table_good (bs := []) hv k (by omega)).2.2⟩
/-- Nothing is taken away. -/
def UpL (f : Bf) : Prop := ∀ next ss, ss.length ≤ (f next ss).2.length
theorem ul_cat {t : List Bf} (x : Xs) : ∀ kids : List Int, (∀ k ∈ kids, UpL (getT t k)) → x.2.length ≤ (catF t kids x).2.length
  | [], _ => Nat.le_refl _
  | k :: r, h => Nat.le_trans (ul_cat x r fun k' hk => h k' (List.mem_cons_of_mem _ hk)) (h k List.mem_cons_self (catF t r x).1 (catF t r x).2)
theorem ul_alts {t : List Bf} (next : Int) (x : Xs) : ∀ kids : List Int, (∀ k ∈ kids, UpL (getT t k)) → x.2.length ≤ (kids.foldr (altS t next) x).2.length
  | [], _ => Nat.le_refl _
  | k :: r, h => by
    have h1 := ul_alts next x r fun k' hk => h k' (List.mem_cons_of_mem _ hk)
    have h2 := h k List.mem_cons_self next (r.foldr (altS t next) x).2
    show _ ≤ ((getT t k next (r.foldr (altS t next) x).2).2 ++ [_] : List St).length
    rw [List.length_append]
    omega
theorem ul_alt {t : List Bf} {kids : List Int} (hn : 1 ≤ kids.length) (h : ∀ k ∈ kids, UpL (getT t k)) : UpL (altF t kids) := fun next ss => by
  have hne : kids ≠ [] := by intro e; rw [e] at hn; exact absurd hn (by decide)
  obtain ⟨l, z, rfl⟩ : ∃ l z, kids = l ++ [z] := ⟨kids.dropLast, kids.getLast hne, (List.dropLast_concat_getLast hne).symm⟩
  have hz := h z (by simp) next ss
  have h1 := ul_alts next (getT t z next ss) l fun k hk => h k (by simp [hk])
  have e : altF t (l ++ [z]) next ss = l.foldr (altS t next) (getT t z next ss) := by
    show (l ++ [z]).dropLast.foldr _ (getT t ((l ++ [z]).getLastD 0) next ss) = _
    rw [List.dropLast_concat, List.getLastD_concat]
  rw [e]
  omega
theorem ul_min {f : Bf} (h : UpL f) (x : Xs) : ∀ m, x.2.length ≤ (iterF (minS f) m x).2.length
  | 0 => Nat.le_refl _
  | m + 1 => Nat.le_trans (ul_min h x m) (h (iterF (minS f) m x).1 (iterF (minS f) m x).2)
theorem ul_opt {f : Bf} (h : UpL f) (next : Int) (x : Xs) : ∀ m, x.2.length ≤ (iterF (optS f next) m x).2.length
  | 0 => Nat.le_refl _
  | m + 1 => by
    have h1 := ul_opt h next x m
    have h2 := h (iterF (optS f next) m x).1 (iterF (optS f next) m x).2
    show _ ≤ ((f (iterF (optS f next) m x).1 (iterF (optS f next) m x).2).2 ++ [_] : List St).length
    rw [List.length_append]
    omega
theorem ul_rep {f : Bf} (h : UpL f) (mn mx : Int) : UpL (repF f mn mx) := fun next ss => by
  refine Nat.le_trans ?_ (ul_min h (firstF f mn mx next ss) mn.toNat)
  unfold firstF
  split
  · show _ ≤ (Au.setN _ _ _).length
    rw [setN_len]
    have h4 := h (ss.length : Int) (ss ++ [⟨1, noSet, next, next⟩])
    rw [List.length_append] at h4
    omega
  · exact ul_opt h next (next, ss) _
theorem ul_node {t : List Bf} {bl : List Bool} {n : Nd} (hf : fineF n = true) (hk : ∀ k ∈ n.kids, UpL (getT t k)) : UpL (stepN t bl n) := fun next ss => by
  have hfp := (fine_iff n).1 hf
  unfold FineP at hfp
  unfold stepN
  have hone : ∀ s : St, ss.length ≤ (addF s ss).2.length := fun s => by show _ ≤ (ss ++ [s]).length; rw [List.length_append]; omega
  split
  · exact Nat.le_refl _
  split
  · exact hone _
  split
  · exact hone _
  split
  · exact hone _
  split
  · rename_i k4
    have e4 : partN bl n = heavyF bl n.kids := if_pos k4
    rw [e4]
    exact ul_cat (next, ss) (heavyF bl n.kids) fun k h => hk k (List.mem_filter.1 h).1
  split
  · exact ul_alt (by omega) hk next ss
  split
  · rename_i k4 k5 k6
    obtain ⟨k, hk1⟩ : ∃ k, n.kids = [k] := List.length_eq_one_iff.1 (by omega)
    have e5 : n.kids.headD 0 = k := by rw [hk1]; rfl
    rw [e5]
    exact ul_rep (hk k (by rw [hk1]; exact List.mem_singleton.2 rfl)) _ _ next ss
  · exact Nat.le_refl _
theorem ul_at {ns : List Nd} (hv : ∀ k (h : k < ns.length), NodeOk k ns[k]) : ∀ j, j < ns.length → UpL (getT (tabF ns) (j : Int)) := by
  intro j
  induction j using Nat.strongRecOn with
  | _ j ih =>
    intro hj
    obtain ⟨hko, hf⟩ := hv j hj
    rw [tab_at hj]
    refine ul_node hf fun k hk => ?_
    obtain ⟨h0, h1⟩ := hko k hk
    obtain ⟨k, rfl⟩ : ∃ m : Nat, k = m := ⟨k.toNat, by omega⟩
    rw [tab_kid (by omega) (by omega)]
    exact ih k (by omega) (by omega)
theorem sum_ge {W : Int → Int} {l : List Int} (h : ∀ k ∈ l, 0 ≤ W k) {k : Int} (hk : k ∈ l) : W k ≤ (l.map W).sum := by
  induction l with
  | nil => cases hk
  | cons a r ih =>
    have h1 := sum_nonneg fun k hk => h k (List.mem_cons_of_mem _ hk)
    rw [List.map_cons, List.sum_cons]
    rcases List.mem_cons.1 hk with rfl | hk
    · omega
    · have := ih (fun k hk => h k (List.mem_cons_of_mem _ hk)) hk
      have := h a List.mem_cons_self
      omega
/-- What is not blank weighs something. -/
theorem heavy_node {bl : List Bool} {ws : List Int} {n : Nd} (hf : fineF n = true) (h0 : ∀ k ∈ n.kids, 0 ≤ ws.getD k.toNat 0) (hk : ∀ k ∈ n.kids, bl.getD k.toNat false = false → 1 ≤ ws.getD k.toNat 0) (hb : blankN bl n = false) : 1 ≤ weighF n (sumW ws n.kids) ∧ ∀ k ∈ (if n.kind = 4 then heavyF bl n.kids else n.kids), ws.getD k.toNat 0 ≤ weighF n (sumW ws n.kids) := by
  have hfp := (fine_iff n).1 hf
  unfold FineP at hfp
  have hs : 0 ≤ sumW ws n.kids := by rw [← sum_map]; exact sum_nonneg h0
  have hge : ∀ k ∈ n.kids, ws.getD k.toNat 0 ≤ sumW ws n.kids := fun k hk => by rw [← sum_map]; exact sum_ge (W := fun k => ws.getD k.toNat 0) h0 hk
  unfold blankN at hb
  by_cases k4 : n.kind = 4
  · have e3 : weighF n (sumW ws n.kids) = sumW ws n.kids := if_pos k4
    rw [if_pos k4, decide_eq_false_iff_not] at hb
    rw [e3, if_pos k4]
    refine ⟨?_, fun k h => hge k (List.mem_filter.1 h).1⟩
    obtain ⟨k, hk1⟩ : ∃ k, k ∈ heavyF bl n.kids := by
      cases hq : heavyF bl n.kids with
      | nil => rw [hq] at hb; exact absurd rfl hb
      | cons a r => exact ⟨a, List.mem_cons_self⟩
    obtain ⟨hk2, hk3⟩ := List.mem_filter.1 hk1
    have h3 := hk k hk2 (by simpa using hk3)
    have h4 := hge k hk2
    omega
  · rw [if_neg k4] at hb
    rw [if_neg k4]
    by_cases k5 : n.kind = 5
    · have e3 : weighF n (sumW ws n.kids) = sumW ws n.kids + (n.kids.length : Int) - 1 := by unfold weighF; rw [if_neg k4, if_pos k5]
      rw [e3]
      exact ⟨by omega, fun k h => by have := hge k h; omega⟩
    · by_cases k6 : n.kind = 6
      · rw [if_pos k6] at hb
        obtain ⟨k, hk1⟩ : ∃ k, n.kids = [k] := List.length_eq_one_iff.1 (by omega)
        have e3 : weighF n (sumW ws n.kids) = n.mn * ws.getD k.toNat 0 + optW n.mn n.mx * (ws.getD k.toNat 0 + 1) := by
          have e4 : sumW ws n.kids = ws.getD k.toNat 0 := by rw [hk1]; show _ + 0 = _; omega
          unfold weighF; rw [if_neg k4, if_neg k5, if_pos k6, e4]
        rw [e3]
        have hkm : k ∈ n.kids := by rw [hk1]; exact List.mem_singleton.2 rfl
        have hw0 := h0 k hkm
        have e5 : n.kids.headD 0 = k := by rw [hk1]; rfl
        rw [e5] at hb
        have hop := opt_nonneg (mn := n.mn) (mx := n.mx) (by omega)
        have p1 := Int.mul_nonneg (show 0 ≤ n.mn by omega) hw0
        have p2 := Int.mul_nonneg hop (show 0 ≤ ws.getD k.toNat 0 + 1 by omega)
        suffices hq : 1 ≤ n.mn * ws.getD k.toNat 0 + optW n.mn n.mx * (ws.getD k.toNat 0 + 1) ∧ ws.getD k.toNat 0 ≤ n.mn * ws.getD k.toNat 0 + optW n.mn n.mx * (ws.getD k.toNat 0 + 1) by
          refine ⟨hq.1, fun k' h => ?_⟩
          rw [hk1, List.mem_singleton] at h
          rw [h]
          exact hq.2
        by_cases ho : 1 ≤ optW n.mn n.mx
        · have := mul_large ho (show 0 ≤ ws.getD k.toNat 0 + 1 by omega)
          omega
        · have ho0 : optW n.mn n.mx = 0 := by omega
          have hmm : n.mn = n.mx := by unfold optW at ho0; split at ho0 <;> omega
          rw [hmm, beq_self_eq_true, Bool.true_and, Bool.or_eq_false_iff, beq_eq_false_iff_ne] at hb
          have h3 := hk k hkm hb.2
          have := mul_large (show 1 ≤ n.mn by omega) hw0
          omega
      · have e3 : weighF n (sumW ws n.kids) = 1 := by unfold weighF; rw [if_neg k4, if_neg k5, if_neg k6]
        rw [e3]
        refine ⟨Int.le_refl _, fun k h => ?_⟩
        have : n.kids = [] := List.length_eq_zero_iff.1 (by omega)
        rw [this] at h; cases h
theorem heavy_at {ns : List Nd} (hv : ∀ k (h : k < ns.length), NodeOk k ns[k]) : ∀ j, j < ns.length → (blanksF ns).getD j false = false → 1 ≤ (bigW ns).getD j 0 := by
  intro j
  induction j using Nat.strongRecOn with
  | _ j ih =>
    intro hj hb
    obtain ⟨hko, hf⟩ := hv j hj
    have e2 : (bigW ns).getD j 0 = weighF ns[j] (sumW (bigW (ns.take j)) ns[j].kids) := tabG_at hj
    rw [blanks_at hj] at hb
    rw [e2]
    have hkid : ∀ k ∈ ns[j].kids, ∃ m : Nat, k = m ∧ m < j ∧ (bigW (ns.take j)).getD m 0 = (bigW ns).getD m 0 ∧ (blanksF (ns.take j)).getD m false = (blanksF ns).getD m false := fun k hk => by
      obtain ⟨h0, h1⟩ := hko k hk
      obtain ⟨k, rfl⟩ : ∃ m : Nat, k = m := ⟨k.toNat, by omega⟩
      refine ⟨k, rfl, by omega, tabG_kid (by omega) (by omega), ?_⟩
      have h := blanks_pre ns (ns.length - j) j (by omega) k (by omega)
      rw [show j + (ns.length - j) = ns.length by omega, List.take_length] at h
      rw [List.getD_eq_getElem?_getD, List.getD_eq_getElem?_getD, h]
    refine (heavy_node hf (fun k hk => ?_) (fun k hk hb2 => ?_) hb).1
    · obtain ⟨m, rfl, h1, h2, _⟩ := hkid k hk
      rw [Int.toNat_natCast, h2]
      exact (table_good (bs := []) hv m (by omega)).2.2
    · obtain ⟨m, rfl, h1, h2, h3⟩ := hkid k hk
      rw [Int.toNat_natCast, h3] at hb2
      rw [Int.toNat_natCast, h2]
      exact ih m h1 (by omega) hb2
end Th
end Go.Proofs.Ytgadomcbaenodaa
