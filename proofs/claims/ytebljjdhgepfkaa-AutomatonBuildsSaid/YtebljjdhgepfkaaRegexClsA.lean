/-
  The reference's class: its state between two items. No conditions.
-/
import Derived.Test.YtebljjdhgepfkaaRegexPost
import Derived.Test.YtebljjdhgepfkaaRegexRead
namespace Go.Proofs.Ytebljjdhgepfkaa
open Go.RowKit
namespace Rx
open Cm
abbrev rowR (m : Nat → Bool) : Obj := .cells #[.int .u64 (word m 0 : Nat), .int .u64 (word m 1 : Nat), .int .u64 (word m 2 : Nat), .int .u64 (word m 3 : Nat)] tSet
/-- The reader, and the set in a block of its own. -/
def CR (w wr : World) (base rb H : Nat) (s : ByteArray) (a : Int) (D : Int) (ns : List Nd) (ks : List Value) (m : Nat → Bool) : Prop :=
  Rdr wr base rb s a D 0 ns ks ∧ wr.heap[H]? = some (rowR m) ∧ Below base w wr ∧ KeptR w wr ∧ w.heap.size ≤ H ∧ base ≤ H
section
variable {w wr : World} {base rb H : Nat} {s : ByteArray} {a D : Int} {ns : List Nd} {ks : List Value} {m : Nat → Bool}
theorem CR.drewN (h : CR w wr base rb H s a D ns ks m) (q : Nat) : CR w (wr.drewN q) base rb H s a D ns ks m := by
  obtain ⟨h1, h2, h3, h4, h5⟩ := h
  refine ⟨h1.drewN q, ?_, below_drewN h3 q, h4.trans (KeptX.drewN wr q), h5⟩
  have : (wr.drewN q).heap = wr.heap := by
    clear h1 h2 h3 h4 h5
    induction q generalizing wr with
    | zero => rfl
    | succ q ih => exact ih (wr := wr.drew)
  rw [this]; exact h2
theorem CR.below {w2 : World} (h : CR w wr base rb H s a D ns ks m) (hb : Below wr.heap.size wr w2) : CR w w2 base rb H s a D ns ks m := by
  obtain ⟨h1, h2, h3, h4, h5⟩ := h
  obtain ⟨r1, r2, r3⟩ := Rdr_below ⟨h1, h3, h4⟩ hb
  exact ⟨r1, (hb.block H (lt_some h2)).trans h2, r2, r3, h5⟩
theorem CR.cells (h : CR w wr base rb H s a D ns ks m) : (wr.cell? ⟨H, 0, none⟩ = some (.int .u64 (word m 0 : Nat)) ∧ wr.cell? ⟨H, 1, none⟩ = some (.int .u64 (word m 1 : Nat)) ∧ wr.cell? ⟨H, 2, none⟩ = some (.int .u64 (word m 2 : Nat)) ∧ wr.cell? ⟨H, 3, none⟩ = some (.int .u64 (word m 3 : Nat))) ∧
    wr.frozen? ⟨H, 0, none⟩ = false ∧ wr.frozen? ⟨H, 1, none⟩ = false ∧ wr.frozen? ⟨H, 2, none⟩ = false ∧ wr.frozen? ⟨H, 3, none⟩ = false := by
  have hh := h.2.1
  simp [World.cell?, World.frozen?, hh]
theorem CR.rdr (h : CR w wr base rb H s a D ns ks m) : ∃ v, (wr.cell? ⟨rb, 0, none⟩ = some (.string s) ∧ wr.cell? ⟨rb, 1, none⟩ = some (.int .i64 a) ∧ wr.cell? ⟨rb, 2, none⟩ = some (.int .i64 D) ∧ wr.cell? ⟨rb, 3, none⟩ = some v ∧ wr.cell? ⟨rb, 4, none⟩ = some (.int .i64 0)) ∧ wr.frozen? ⟨rb, 1, none⟩ = false := by
  obtain ⟨⟨v, hb, hh, _⟩, _⟩ := h
  obtain ⟨c0, c1, c2, c3, c4, hf⟩ := rdr_cells hh
  exact ⟨v, ⟨c0, c1, c2, c3, c4⟩, hf 1⟩
theorem rdr_ne (h : CR w wr base rb H s a D ns ks m) : rb ≠ H := by
  obtain ⟨⟨v, hb, hh, _⟩, h2, _⟩ := h
  rintro rfl
  rw [hh] at h2
  injection h2 with h2
  injection h2 with _ h2
  exact absurd h2 (by decide)
theorem CR.setAt (h : CR w wr base rb H s a D ns ks m) (z : Int) : CR w (wr.setCell ⟨rb, 1, none⟩ (.int .i64 z)) base rb H s z D ns ks m := by
  have hne := rdr_ne h
  obtain ⟨h1, h2, h3, h4, h5⟩ := h
  obtain ⟨r1, r2, r3⟩ := h1.setAt z
  exact ⟨r1, (Below.heap_setCell _ _ _ _ (fun e => hne e.symm)).trans h2, h3.trans r2, h4.trans r3, h5⟩
/-- One word of the set is written. -/
theorem CR.put1 {cs : Array Value} (h : Rdr wr base rb s a D 0 ns ks ∧ wr.heap[H]? = some (.cells cs tSet (0, 0)) ∧ Below base w wr ∧ KeptR w wr ∧ w.heap.size ≤ H ∧ base ≤ H) (j : Nat) (u : Value) :
    Rdr (wr.setCell ⟨H, j, none⟩ u) base rb s a D 0 ns ks ∧ (wr.setCell ⟨H, j, none⟩ u).heap[H]? = some (.cells (cs.setIfInBounds j u) tSet (0, 0)) ∧ Below base w (wr.setCell ⟨H, j, none⟩ u) ∧ KeptR w (wr.setCell ⟨H, j, none⟩ u) ∧ w.heap.size ≤ H ∧ base ≤ H := by
  obtain ⟨⟨v, b, hh, hn⟩, h2, h3, h4, h5, h6⟩ := h
  have hne : rb ≠ H := by
    rintro rfl
    rw [hh] at h2
    injection h2 with h2
    injection h2 with _ h2
    exact absurd h2 (by decide)
  refine ⟨⟨v, b, (Below.heap_setCell _ _ _ _ hne).trans hh, hn.setCell h2 (by decide) (by decide)⟩, set_block h2, h3.setCell (p := ⟨H, j, none⟩) h6 _, fun k cur e a1 a2 a3 => ?_, h5, h6⟩
  have hk := lt_some a3
  exact (Below.heap_setCell _ _ _ _ (show k ≠ H by omega)).trans (h4 k cur e a1 a2 a3)
theorem CR.put (h : CR w wr base rb H s a D ns ks m) (m' : Nat → Bool) :
    CR w ((((wr.setCell ⟨H, 0, none⟩ (.int .u64 (word m' 0 : Nat))).setCell ⟨H, 1, none⟩ (.int .u64 (word m' 1 : Nat))).setCell ⟨H, 2, none⟩ (.int .u64 (word m' 2 : Nat))).setCell ⟨H, 3, none⟩ (.int .u64 (word m' 3 : Nat))) base rb H s a D ns ks m' :=
  CR.put1 (CR.put1 (CR.put1 (CR.put1 h 0 _) 1 _) 2 _) 3 _
theorem CR.congr (h : CR w wr base rb H s a D ns ks m) {m' : Nat → Bool} (hm : ∀ x, x < 256 → m x = m' x) : CR w wr base rb H s a D ns ks m' := by
  obtain ⟨h1, h2, h3⟩ := h
  refine ⟨h1, ?_, h3⟩
  rw [h2]
  unfold rowR
  rw [word_congr (j := 0) (fun b hb => hm _ (by omega)), word_congr (j := 1) (fun b hb => hm _ (by omega)), word_congr (j := 2) (fun b hb => hm _ (by omega)), word_congr (j := 3) (fun b hb => hm _ (by omega))]
theorem CR.start {w : World} (h : Rdr wr base rb s a D 0 ns ks ∧ Below base w wr ∧ KeptR w wr) : CR w (wr.alloc (rowR noSet)) base rb wr.heap.size s a D ns ks noSet := by
  have hs := h.1.size
  have hl := h.2.1.size
  obtain ⟨r1, r2, r3⟩ := Rdr_below h ((Below.refl _ _).alloc (Nat.le_refl _) (rowR noSet))
  exact ⟨r1, heap_new wr _, r2, r3, hl, hs⟩
theorem CR.is (h : CR w wr base rb H s a D ns ks m) {at_ : Nat} (ha : a = at_) (c : Nat) : Calls Try.prog 44 #[.pointer (some ⟨rb, 0, none⟩), .int .u8 (c : Int)] wr fun en w' => en = .returned (.bool (isF (Tx.bs s) at_ c)) ∧ ∃ q, w' = wr.drewN q := by
  subst ha
  exact is_any h.1 c
theorem CR.fail (h : CR w wr base rb H s a D ns ks m) : Calls Try.prog 28 #[.pointer (some ⟨rb, 0, none⟩), .int .i64 40] wr fun en w' => en = .returned (.int .i64 0) ∧ RPost w base rb s D ns ks (.error 40) (.returned (.int .i64 0)) w' :=
  (fail_first h.1 40).mono fun en w' ⟨e1, e2⟩ => ⟨e1, RPost_fail (by decide) ⟨h.2.2.1, h.2.2.2.1⟩ e2⟩
theorem CR.node (h : CR w wr base rb H s a D ns ks m) {at_ : Nat} (ha : a = at_) (hl : ns.length ≤ 1000000) : Calls Try.prog 45 #[.pointer (some ⟨rb, 0, none⟩), ndV (setN m) (.slice none 0 0)] wr fun en w' => en = .returned (.int .i64 (ns.length : Int)) ∧ RPost w base rb s D ns ks (.ok (ns.length, at_, ns ++ [setN m])) (.returned (.int .i64 (ns.length : Int))) w' := by
  subst ha
  exact (node_any h.1 (setN m) (.slice none 0 0) (World.ownsRow_nil _ _ _ _) hl).mono fun en w' ⟨e1, e2⟩ => ⟨e1, RPost_one rfl ⟨h.2.2.1, h.2.2.2.1⟩ (late_nil _) e2⟩
end
end Rx
end Go.Proofs.Ytebljjdhgepfkaa
