/-
  Layer 6: what a step backward does to the walker's data, and the walker's cells in a world that only grew. No program. No conditions.
-/
import Derived.Test.YthoidaaldngpmaaSeaReach
namespace Go.Proofs.Ythoidaaldngpmaa
open Go.RowKit
namespace Se
open Cm Rx Au
/-- The walker's data behind an offset. -/
structure DP (ss : List St) (bs : List UInt8) (j : Nat) (D : Dyn) : Prop where
  pl : Places ss bs j D.L
  at_ : D.at_ = (j : Int)
  sl : D.seen.length = ss.length
  old : ∀ x ∈ D.seen, x = -1 ∨ (j : Int) ≤ x
/-- How far the start reaches, or -1. -/
def FinOk (ss : List St) (st : Nat) (bs : List UInt8) (j : Nat) (x : Int) : Prop := (∃ e, Best ss bs j st e ∧ x = (e : Int)) ∨ ((∀ e, ¬ Run ss bs j st e) ∧ x = -1)
def swapD (D : Dyn) (i : Nat) : Dyn := { at_ := (i : Int), L := [], M := D.L, seen := D.seen, fin := -1 }
theorem DP.start {ss : List St} {st : Nat} {bs : List UInt8} {i : Nat} {D : Dyn} (h : DP ss bs (i + 1) D) (E : Nat) : DG ss st bs i E (swapD D i) := by
  refine ⟨Grow.nil _ _ _ _, fun q hq => ⟨fun hs => ?_, fun hx => by obtain ⟨e, he⟩ := hx; cases he⟩, rfl, h.sl, fun x hx => ?_, .inr ⟨fun e he => (by cases he), rfl⟩⟩
  · have h1 : (i : Int) ∈ D.seen := List.mem_of_getElem? hs
    rcases h.old _ h1 with e | e
    · omega
    · omega
  · rcases h.old x hx with e | e
    · exact .inl e
    · exact .inr (by omega)
/-- The reading steps to the first m of the places behind have been taken. -/
def SeedsTo (ss : List St) (bs : List UInt8) (i : Nat) (M : List (Nat × Nat)) (m : Nat) (L : List (Nat × Nat)) : Prop :=
  ∀ j (h : j < M.length), j < m → ∀ t, readX ss M[j].1 t = true → (∃ h1 : t / 2 < ss.length, ∃ h2 : i < bs.length, ss[t / 2].set bs[i].toNat = true) → Se.Has L (t / 2) M[j].2
/-- All reading steps to r above t have been taken. -/
def ReadsTo (ss : List St) (bs : List UInt8) (i r : Nat) (t : Int) (L : List (Nat × Nat)) (E : Nat) : Prop :=
  ∀ t' : Nat, t < (t' : Int) → readX ss r t' = true → (∃ h1 : t' / 2 < ss.length, ∃ h2 : i < bs.length, ss[t' / 2].set bs[i].toNat = true) → Se.Has L (t' / 2) E
theorem readX_lt {ss : List St} {r t : Nat} (h : readX ss r t = true) : t / 2 < ss.length := by
  obtain ⟨_, h1, _⟩ := readX_iff.1 h
  exact h1
theorem ReadsTo.start (ss : List St) (bs : List UInt8) (i r : Nat) (L : List (Nat × Nat)) (E : Nat) : ReadsTo ss bs i r (prevS (readX ss r) (2 * ss.length)) L E := fun t' ht hf _ => by
  have h1 := readX_lt hf
  have := prevS_out (p := readX ss r) (k := 2 * ss.length) (t := t') (by omega) ht
  rw [hf] at this; cases this
theorem ReadsTo.next {ss : List St} {bs : List UInt8} {i r t : Nat} {L : List (Nat × Nat)} {E : Nat} (h : ReadsTo ss bs i r (t : Int) L E) (hh : (∃ h1 : t / 2 < ss.length, ∃ h2 : i < bs.length, ss[t / 2].set bs[i].toNat = true) → Se.Has L (t / 2) E) : ReadsTo ss bs i r (prevS (readX ss r) t) L E := fun t' ht hf hp => by
  by_cases e : t' = t
  · subst e; exact hh hp
  · by_cases hlt : t < t'
    · exact h t' (by omega) hf hp
    · have := prevS_out (p := readX ss r) (k := t) (t := t') (by omega) ht
      rw [hf] at this; cases this
theorem ReadsTo.has {ss : List St} {bs : List UInt8} {i r : Nat} {t : Int} {L L' : List (Nat × Nat)} {E : Nat} (h : ReadsTo ss bs i r t L E) (hx : ∀ q e, Se.Has L q e → Se.Has L' q e) : ReadsTo ss bs i r t L' E := fun t' h1 h2 h3 => hx _ _ (h t' h1 h2 h3)
theorem SeedsTo.has {ss : List St} {bs : List UInt8} {i m : Nat} {M L L' : List (Nat × Nat)} (h : SeedsTo ss bs i M m L) (hx : ∀ q e, Se.Has L q e → Se.Has L' q e) : SeedsTo ss bs i M m L' := fun j h1 h2 t h3 h4 => hx _ _ (h j h1 h2 t h3 h4)
theorem SeedsTo.step {ss : List St} {bs : List UInt8} {i m : Nat} {M L : List (Nat × Nat)} (h : SeedsTo ss bs i M m L) (hm : m < M.length) (hr : ReadsTo ss bs i M[m].1 (-1) L M[m].2) : SeedsTo ss bs i M (m + 1) L := fun j h1 h2 t h3 h4 => by
  by_cases e : j = m
  · subst e; exact hr t (by omega) h3 h4
  · exact h j h1 (by omega) t h3 h4
/-- A run of a reading step to a place behind. -/
theorem run_read {ss : List St} {bs : List UInt8} {i t r E : Nat} (hp : Run ss bs (i + 1) r E) (hx : readX ss r t = true) (hs : ∃ h1 : t / 2 < ss.length, ∃ h2 : i < bs.length, ss[t / 2].set bs[i].toNat = true) : Run ss bs i (t / 2) E := by
  obtain ⟨_, h1, hk, hn⟩ := readX_iff.1 hx
  obtain ⟨_, h2, hb⟩ := hs
  exact .read h1 hk h2 hb (by rw [hn]; exact hp)
/-- When all seeds are taken, the list is the list of places. -/
theorem DG.finish {ss : List St} {st : Nat} {bs : List UInt8} {i E : Nat} {D D0 : Dyn} {accs : List Int} (h0 : DP ss bs (i + 1) D0) (h : DG ss st bs i E D) (hd : DoneTo ss bs.length i D.L D.L.length) (hs : SeedsTo ss bs i D0.L D0.L.length D.L)
    (ha : ∀ x, x ∈ accs ↔ ∃ k : Nat, x = (k : Int) ∧ ∃ h : k < ss.length, ss[k].kind = 4) (hacc : ∀ k : Nat, (k : Int) ∈ accs → Se.Has D.L k i) : DP ss bs i D ∧ FinOk ss st bs i D.fin := by
  have hp := h.grow.places hd (fun q e hseed => by
    rcases hseed with ⟨hq, hk, rfl, _⟩ | ⟨hq, hi, hk, hb, hbest⟩
    · exact hacc q ((ha _).2 ⟨q, rfl, hq, hk⟩)
    · have hm := (h0.pl.mem _ _).2 hbest
      obtain ⟨j, hj, ej⟩ := List.mem_iff_getElem.1 hm
      have := hs j hj hj (2 * q) (by
        rw [readX_iff]
        refine ⟨by omega, ?_⟩
        have e : 2 * q / 2 = q := by omega
        refine ⟨by omega, ?_, ?_⟩
        · simp only [e]; exact hk
        · simp only [e]; rw [ej]) (by
        have e : 2 * q / 2 = q := by omega
        refine ⟨by omega, hi, ?_⟩
        simp only [e]; exact hb)
      rw [show 2 * q / 2 = q by omega, ej] at this
      exact this)
  refine ⟨⟨hp, h.at_, h.sl, h.old⟩, ?_⟩
  rcases h.fin with ⟨e, he, hf⟩ | ⟨hno, hf⟩
  · exact .inl ⟨e, (hp.mem _ _).1 he, hf⟩
  · refine .inr ⟨fun e hr => ?_, hf⟩
    obtain ⟨e', _, hb⟩ := Best.ex hr
    exact hno e' ((hp.mem _ _).2 hb)
variable {n st : Nat} {w0 w1 w : World} {P : Parts} {D : Dyn} {vL vM : Value}
theorem Wk.below {w' : World} (h : Wk n st w0 w1 w P D vL vM) (hb : Below w.heap.size w w') : Wk n st w0 w1 w' P D vL vM := by
  have hk : ∀ k, k < w.heap.size → w'.heap[k]? = w.heap[k]? := fun k hk => hb.block k hk
  exact ⟨(hk _ (lt_some h.blk)).trans h.blk, (hk _ (lt_some h.seen)).trans h.seen, h.sl, own_same h.lv hk, own_same h.fm hk, h.ne, fun k h1 h2 h3 => (hk k (by have := h.size; omega)).trans (h.chg k h1 h2 h3), Nat.le_trans h.size hb.size, h.bel.trans (hb.mono h.bel.size), h.lo⟩
theorem Wk.placeM (h : Wk n st w0 w1 w P D vL vM) {M : List (Nat × Nat)} (hM : D.M = M) {k : Nat} (hk : k < M.length) : ∃ g c, vM = .slice (some ⟨g, 0, none⟩) M.length c ∧ w.cell? ⟨g, k * 2, none⟩ = some (.int .i64 (M[k].1 : Int)) ∧ w.cell? ⟨g, k * 2 + 1, none⟩ = some (.int .i64 (M[k].2 : Int)) := by
  subst hM
  rcases h.fm.2 with ⟨_, e⟩ | ⟨g, cap, cur, e, _, hg, _⟩
  · omega
  · have hl := h.fm
    rw [e] at hl
    obtain ⟨h1, h2⟩ := flatP_get D.M k hk
    exact ⟨g, cap, e, (hl.cellAt (k * 2) (by omega)).trans h1, (hl.cellAt (k * 2 + 1) (by omega)).trans h2⟩
/-- The two lists change places. -/
theorem Wk.swap {A : Option Addr} {c m : Nat} (h : Wk n st w0 w1 w P D vL (.slice A m c)) (hgs : P.B ≠ P.gs) : Wk n st w0 w1 ((w.setCell ⟨P.B, 9, none⟩ (.slice A 0 c)).setCell ⟨P.B, 10, none⟩ vL) P { D with L := [], M := D.L } (.slice A 0 c) vL := by
  have ho : ∀ k, k ≠ P.B → ((w.setCell ⟨P.B, 9, none⟩ (.slice A 0 c)).setCell ⟨P.B, 10, none⟩ vL).heap[k]? = w.heap[k]? := fun k e => (Below.heap_setCell _ _ _ k e).trans (Below.heap_setCell _ _ _ k e)
  have hlo := h.lo
  refine ⟨?_, (ho _ (Ne.symm hgs)).trans h.seen, h.sl, ?_, own_setP (own_setP h.lv hlo.2.2.1) hlo.2.2.1, fun k h1 h2 => h.ne k h2 (by cases A <;> exact h1), fun k h1 h2 h3 => (ho k h2).trans (h.chg k h1 h2 h3), ?_, (h.bel.setCell (p := ⟨P.B, 9, none⟩) hlo.1 _).setCell (p := ⟨P.B, 10, none⟩) hlo.1 _, hlo⟩
  · have h1 := set_block (o := 9) (u := .slice A 0 c) h.blk
    have h2 := set_block (o := 10) (u := vL) h1
    rw [h2]; rfl
  · refine own_setP (own_setP ?_ hlo.2.2.1) hlo.2.2.1
    refine ⟨rfl, ?_⟩
    rcases h.fm.2 with ⟨e, _⟩ | ⟨g, cap, cur, e, hb, hg, _, hm, hs, _⟩
    · injection e with e1 e2 e3
      subst e1 e3
      exact .inl ⟨rfl, rfl⟩
    · injection e with e1 e2 e3
      subst e1 e3
      exact .inr ⟨g, c, cur, rfl, hb, hg, Nat.zero_le _, hm, hs, by simp [flatP]⟩
  · simp [World.setCell]; exact h.size
end Se
end Go.Proofs.Ythoidaaldngpmaa
