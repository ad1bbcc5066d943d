/-
  Layer 6: a new walker's memory, while its steps are listed. No program. No conditions.
-/
import Derived.Test.YthoidaaldngpmaaSeaAdd
import Derived.Test.YthoidaaldngpmaaSeaKeep
import Derived.Deep.Cut
import Derived.Deep.CutRange
namespace Go.Proofs.Ythoidaaldngpmaa
open Go.RowKit
namespace Se
open Cm Rx Au
/-- Where the parts of a new walker lie. -/
structure Lay where
  B : Nat
  gs : Nat
  R1 : Nat
  R2 : Nat
  F1 : Nat
  F2 : Nat
/-- All parts lie at or beyond a block, and apart. -/
structure LayOk (H : Nat) (Y : Lay) : Prop where
  lo : H ≤ Y.B ∧ H ≤ Y.gs ∧ H ≤ Y.R1 ∧ H ≤ Y.R2 ∧ H ≤ Y.F1 ∧ H ≤ Y.F2
  b : Y.B ≠ Y.gs ∧ Y.R1 ≠ Y.B ∧ Y.R2 ≠ Y.B ∧ Y.F1 ≠ Y.B ∧ Y.F2 ≠ Y.B
  g : Y.R1 ≠ Y.gs ∧ Y.R2 ≠ Y.gs ∧ Y.F1 ≠ Y.gs ∧ Y.F2 ≠ Y.gs
  r : Y.R1 ≠ Y.R2 ∧ Y.R1 ≠ Y.F1 ∧ Y.R1 ≠ Y.F2 ∧ Y.R2 ≠ Y.F1 ∧ Y.R2 ≠ Y.F2 ∧ Y.F1 ≠ Y.F2
def cells0 (n st bA oA c : Nat) (s : ByteArray) (Y : Lay) (vacc : Value) : Array Value :=
  #[.slice (some ⟨bA, oA, none⟩) n c, .int .i64 (st : Int), .string s, .slice (some ⟨Y.R1, 0, none⟩) n n, .slice (some ⟨Y.R2, 0, none⟩) (2 * n : Nat) (2 * n : Nat), .slice (some ⟨Y.F1, 0, none⟩) n n, .slice (some ⟨Y.F2, 0, none⟩) (2 * n : Nat) (2 * n : Nat), vacc, .int .i64 ((s.size : Int) + 1), .slice none 0 0, .slice none 0 0, .slice (some ⟨Y.gs, 0, none⟩) n n, .int .i64 0]
/-- A new walker in the world w; w0 is the world before it. -/
structure NwA (n st bA oA c : Nat) (s : ByteArray) (w0 w : World) (Y : Lay) (vacc : Value) (r1 r2 f1 f2 : List Int) : Prop where
  ok : LayOk w0.heap.size Y
  bel : Below w0.heap.size w0 w
  blk : w.heap[Y.B]? = some (.cells (cells0 n st bA oA c s Y vacc) tWk (0, 0))
  gs : w.heap[Y.gs]? = some (.cells (intsV (List.replicate n (-1))).toArray tInt (0, 0))
  r1 : w.heap[Y.R1]? = some (.cells (intsV r1).toArray tInt (0, 0))
  r2 : w.heap[Y.R2]? = some (.cells (intsV r2).toArray tInt (0, 0))
  f1 : w.heap[Y.F1]? = some (.cells (intsV f1).toArray tInt (0, 0))
  f2 : w.heap[Y.F2]? = some (.cells (intsV f2).toArray tInt (0, 0))
theorem intsV_rep (n : Nat) (x : Int) : intsV (List.replicate n x) = List.replicate n (.int .i64 x) := by simp [intsV]
theorem below_pre {V X Y : World} (hp : Below V.heap.size V X) (hb : Below X.heap.size X Y) : Below V.heap.size V Y := hp.trans (hb.mono hp.size)
theorem nw_fin {n st bA oA c G F G2 F2 G3 : Nat} {s : ByteArray} {w0 w5 w6 w7 : World} (h5 : NsPost n w0 (.returned (stepsV G F n)) w5) (h6 : NsPost n w5 (.returned (stepsV G2 F2 n)) w6) (h7 : RepPost n (-1) w6 (.returned (.slice (some ⟨G3, 0, none⟩) n n)) w7) :
    NwA n st bA oA c s w0 (w7.alloc (.cells (cells0 n st bA oA c s ⟨w7.heap.size, G3, G, F, G2, F2⟩ (.slice none 0 0)) tWk)) ⟨w7.heap.size, G3, G, F, G2, F2⟩ (.slice none 0 0) (List.replicate n (-1)) (List.replicate (2 * n) 0) (List.replicate n (-1)) (List.replicate (2 * n) 0) := by
  obtain ⟨G', F', e5, a1, a2, a3, a4, a5, a6⟩ := h5
  obtain ⟨G2', F2', e6, b1, b2, b3, b4, b5, b6⟩ := h6
  obtain ⟨G3', e7, c1, c2, c3⟩ := h7
  simp only [Ending.returned.injEq, stepsV, Value.agg.injEq] at e5 e6
  have e5 := congrArg Array.toList e5
  have e6 := congrArg Array.toList e6
  simp only [List.cons.injEq, Value.slice.injEq, Option.some.injEq, Addr.mk.injEq, and_true] at e5 e6
  simp only [Ending.returned.injEq, Value.slice.injEq, Option.some.injEq, Addr.mk.injEq, and_true] at e7
  obtain ⟨rfl, rfl⟩ := e5
  obtain ⟨rfl, rfl⟩ := e6
  subst e7
  have z1 := lt_some a4
  have z2 := lt_some a5
  have z3 := lt_some b4
  have z4 := lt_some b5
  have z5 := lt_some c2
  have s5 := a6.size
  have s6 := b6.size
  have s7 := c3.size
  have al : ∀ (k : Nat) (o : Obj) {q : Obj}, w7.heap[k]? = some o → (w7.alloc q).heap[k]? = some o := fun k o q h => (Below.heap_alloc w7 q k (lt_some h)).trans h
  refine ⟨⟨by dsimp only; omega, by dsimp only; omega, by dsimp only; omega, by dsimp only; omega⟩, ?_, heap_new w7 _, ?_, ?_, ?_, ?_, ?_⟩
  · exact (below_pre (below_pre a6 b6) c3).alloc (by omega) _
  · rw [intsV_rep]; exact al _ _ c2
  · rw [intsV_rep]; exact al _ _ ((c3.block _ (by dsimp only; omega)).trans ((b6.block _ (by dsimp only; omega)).trans a4))
  · rw [intsV_rep]; exact al _ _ ((c3.block _ (by dsimp only; omega)).trans ((b6.block _ (by dsimp only; omega)).trans a5))
  · rw [intsV_rep]; exact al _ _ ((c3.block _ (by dsimp only; omega)).trans b4)
  · rw [intsV_rep]; exact al _ _ ((c3.block _ (by dsimp only; omega)).trans b5)
theorem NsPost.of {n : Nat} {V X w' : World} {e : Ending} (hp : Below V.heap.size V X) (h : NsPost n X e w') : NsPost n V e w' := by
  obtain ⟨G, F, h1, h2, h3, h4, h5, h6, h7⟩ := h
  have := hp.size
  exact ⟨G, F, h1, by omega, by omega, h4, h5, h6, below_pre hp h7⟩
theorem RepPost.of {n : Nat} {x : Int} {V X w' : World} {e : Ending} (hp : Below V.heap.size V X) (h : RepPost n x X e w') : RepPost n x V e w' := by
  obtain ⟨G, h1, h2, h3, h4⟩ := h
  have := hp.size
  exact ⟨G, h1, by omega, h3, below_pre hp h4⟩
theorem ns_blk {n k : Nat} {X w' : World} {e : Ending} {o : Obj} (h : NsPost n X e w') (hc : X.heap[k]? = some o) : w'.heap[k]? = some o := by
  obtain ⟨G, F, h1, h2, h3, h4, h5, h6, h7⟩ := h
  exact (h7.block k (lt_some hc)).trans hc
theorem rp_blk {n k : Nat} {x : Int} {X w' : World} {e : Ending} {o : Obj} (h : RepPost n x X e w') (hc : X.heap[k]? = some o) : w'.heap[k]? = some o := by
  obtain ⟨G, h1, h2, h3, h4⟩ := h
  exact (h4.block k (lt_some hc)).trans hc
theorem box_cells {W : World} {H : Nat} {a b : Value} {T : TypeId} (h : W.heap[H]? = some (.cells #[a, b] T (0, 0))) : (W.cell? ⟨H, 0, none⟩ = some a ∧ W.cell? ⟨H, 1, none⟩ = some b) ∧ (∀ o, (W.alloc o).cell? ⟨H, 0, none⟩ = some a) ∧ ∀ o, (W.alloc o).cell? ⟨H, 1, none⟩ = some b := by
  have h0 : W.cell? ⟨H, 0, none⟩ = some a := by simp [World.cell?, h]
  have h1 : W.cell? ⟨H, 1, none⟩ = some b := by simp [World.cell?, h]
  exact ⟨⟨h0, h1⟩, fun o => (World.cell?_of_block (w := W) (a := ⟨H, 0, none⟩) (Below.heap_alloc W o _ (lt_some h))).trans h0, fun o => (World.cell?_of_block (w := W) (a := ⟨H, 1, none⟩) (Below.heap_alloc W o _ (lt_some h))).trans h1⟩
theorem ns_cell {n b : Nat} {X w' : World} {e : Ending} {v : Value} (h : NsPost n X e w') (hc : X.cell? ⟨b, 0, none⟩ = some v) : w'.cell? ⟨b, 0, none⟩ = some v := by
  obtain ⟨G, F, h1, h2, h3, h4, h5, h6, h7⟩ := h
  exact (h7.cell (p := ⟨b, 0, none⟩) (Tx.cell_lt hc)).trans hc
section
variable {n st bA oA c : Nat} {s : ByteArray} {w0 w w' : World} {Y : Lay} {vacc : Value} {r1 r2 f1 f2 : List Int}
theorem NwA.below {w0 w w' : World} (h : NwA n st bA oA c s w0 w Y vacc r1 r2 f1 f2) (hb : Below w.heap.size w w') : NwA n st bA oA c s w0 w' Y vacc r1 r2 f1 f2 := by
  have hk : ∀ (k : Nat) (o : Obj), w.heap[k]? = some o → w'.heap[k]? = some o := fun k o hk => (hb.block k (lt_some hk)).trans hk
  exact ⟨h.ok, h.bel.trans (hb.mono h.bel.size), hk _ _ h.blk, hk _ _ h.gs, hk _ _ h.r1, hk _ _ h.r2, hk _ _ h.f1, hk _ _ h.f2⟩
theorem NwA.drewN (h : NwA n st bA oA c s w0 w Y vacc r1 r2 f1 f2) (m : Nat) : NwA n st bA oA c s w0 (w.drewN m) Y vacc r1 r2 f1 f2 := h.below (below_drewN (Below.refl _ _) m)
theorem NwA.addR {t q : Nat} {x : Int} {e : Ending} (h : NwA n st bA oA c s w0 w Y vacc r1 r2 f1 f2) (ha : AddPost Y.R1 Y.R2 r1 r2 t q x w e w') : NwA n st bA oA c s w0 w' Y vacc (r1.set q t) (r2.set t x) f1 f2 := by
  obtain ⟨-, a1, a2, a3, a4⟩ := ha
  have ho := h.ok
  have hk : ∀ (k : Nat) (o : Obj), w.heap[k]? = some o → k ≠ Y.R1 → k ≠ Y.R2 → w'.heap[k]? = some o := fun k o hk h1 h2 => (a3 k (lt_some hk) h1 h2).trans hk
  exact ⟨ho, h.bel.trans (a4 _ ho.lo.2.2.1 ho.lo.2.2.2.1), hk _ _ h.blk ho.b.2.1.symm ho.b.2.2.1.symm, hk _ _ h.gs ho.g.1.symm ho.g.2.1.symm, a1, a2, hk _ _ h.f1 ho.r.2.1.symm ho.r.2.2.2.1.symm, hk _ _ h.f2 ho.r.2.2.1.symm ho.r.2.2.2.2.1.symm⟩
theorem NwA.addF {t q : Nat} {x : Int} {e : Ending} (h : NwA n st bA oA c s w0 w Y vacc r1 r2 f1 f2) (ha : AddPost Y.F1 Y.F2 f1 f2 t q x w e w') : NwA n st bA oA c s w0 w' Y vacc r1 r2 (f1.set q t) (f2.set t x) := by
  obtain ⟨-, a1, a2, a3, a4⟩ := ha
  have ho := h.ok
  have hk : ∀ (k : Nat) (o : Obj), w.heap[k]? = some o → k ≠ Y.F1 → k ≠ Y.F2 → w'.heap[k]? = some o := fun k o hk h1 h2 => (a3 k (lt_some hk) h1 h2).trans hk
  exact ⟨ho, h.bel.trans (a4 _ ho.lo.2.2.2.2.1 ho.lo.2.2.2.2.2), hk _ _ h.blk ho.b.2.2.2.1.symm ho.b.2.2.2.2.symm, hk _ _ h.gs ho.g.2.2.1.symm ho.g.2.2.2.symm, hk _ _ h.r1 ho.r.2.1 ho.r.2.2.1, hk _ _ h.r2 ho.r.2.2.2.1 ho.r.2.2.2.2.1, a1, a2⟩
/-- The accepting states so far. -/
structure NwB (ss : List St) (base i : Nat) (w : World) (vacc : Value) (accs : List Int) : Prop where
  own : w.ownsRow base tInt 1 vacc accs.length (intsV accs)
  nil : accs = [] → vacc = .slice none 0 0
  mem : ∀ x, x ∈ accs ↔ ∃ k : Nat, x = (k : Int) ∧ k < i ∧ ∃ h : k < ss.length, ss[k].kind = 4
  len : accs.length ≤ i
/-- All parts lie below a block. -/
def LayLt (Y : Lay) (base : Nat) : Prop := Y.B < base ∧ Y.gs < base ∧ Y.R1 < base ∧ Y.R2 < base ∧ Y.F1 < base ∧ Y.F2 < base
theorem NwA.lt (h : NwA n st bA oA c s w0 w Y vacc r1 r2 f1 f2) : LayLt Y w.heap.size := ⟨lt_some h.blk, lt_some h.gs, lt_some h.r1, lt_some h.r2, lt_some h.f1, lt_some h.f2⟩
variable {ss : List St} {base i : Nat} {accs : List Int}
theorem NwB.below (h : NwB ss base i w vacc accs) (hb : Below w.heap.size w w') : NwB ss base i w' vacc accs :=
  ⟨own_same h.own (fun k hk => hb.block k hk), h.nil, h.mem, h.len⟩
theorem NwB.add {t q gl gb : Nat} {x : Int} {e : Ending} {L F : List Int} (h : NwB ss base i w vacc accs) (ha : AddPost gl gb L F t q x w e w') (h1 : gl < base) (h2 : gb < base) : NwB ss base i w' vacc accs :=
  ⟨by
    obtain ⟨-, a1, a2, a3, a4⟩ := ha
    refine ⟨h.own.1, ?_⟩
    rcases h.own.2 with e | ⟨g, cap, cur, e, hb, hg, r⟩
    · exact .inl e
    · exact .inr ⟨g, cap, cur, e, hb, (a3 g (lt_some hg) (by omega) (by omega)).trans hg, r⟩, h.nil, h.mem, h.len⟩
theorem NwB.next (h : NwB ss base i w vacc accs) (hk : ∀ hi : i < ss.length, ss[i].kind ≠ 4) : NwB ss base (i + 1) w vacc accs := by
  refine ⟨h.own, h.nil, fun x => ?_, by have := h.len; omega⟩
  rw [h.mem]
  constructor
  · rintro ⟨k, rfl, h1, h2⟩; exact ⟨k, rfl, by omega, h2⟩
  · rintro ⟨k, rfl, h1, h2, h3⟩
    refine ⟨k, rfl, ?_, h2, h3⟩
    by_cases e : k = i
    · subst e; exact absurd h3 (hk h2)
    · omega
theorem NwB.push {v' : Value} (h : NwB ss base i w vacc accs) (hi : i < ss.length) (hk : ss[i].kind = 4) (ho : w'.ownsRow base tInt 1 v' (accs ++ [(i : Int)]).length (intsV (accs ++ [(i : Int)]))) : NwB ss base (i + 1) w' v' (accs ++ [(i : Int)]) := by
  refine ⟨ho, fun e => by simp at e, fun x => ?_, by have := h.len; simp; omega⟩
  rw [List.mem_append, List.mem_singleton, h.mem]
  constructor
  · rintro (⟨k, rfl, h1, h2⟩ | rfl)
    · exact ⟨k, rfl, by omega, h2⟩
    · exact ⟨i, rfl, by omega, hi, hk⟩
  · rintro ⟨k, rfl, h1, h2, h3⟩
    by_cases e : k = i
    · subst e; exact .inr rfl
    · exact .inl ⟨k, rfl, by omega, h2, h3⟩
/-- The store of the longer list of accepting states. -/
theorem NwA.acc {w4 : World} {row : Option Nat} {v' : Value} (h : NwA n st bA oA c s w0 w Y vacc r1 r2 f1 f2) (hl : LayLt Y base) (hw : w0.heap.size ≤ base) (hg : w.grownBy w4 row) (hr : ∀ k, row = some k → base ≤ k) (i : Nat) (hi : i = 7) : NwA n st bA oA c s w0 (w4.setCell ⟨Y.B, i, none⟩ v') Y v' r1 r2 f1 f2 := by
  subst hi
  have ho := h.ok
  obtain ⟨l1, l2, l3, l4, l5, l6⟩ := hl
  have hk : ∀ (k : Nat) (o : Obj), w.heap[k]? = some o → k < base → w4.heap[k]? = some o := fun k o hk h1 => (hg.block k (lt_some hk) (fun e => by have := hr k e.symm; omega)).trans hk
  have hk2 : ∀ (k : Nat) (o : Obj), w.heap[k]? = some o → k < base → k ≠ Y.B → (w4.setCell ⟨Y.B, 7, none⟩ v').heap[k]? = some o := fun k o h1 h2 h3 => (Below.heap_setCell _ _ _ _ h3).trans (hk k o h1 h2)
  refine ⟨ho, ?_, ?_, hk2 _ _ h.gs l2 ho.b.1.symm, hk2 _ _ h.r1 l3 ho.b.2.1, hk2 _ _ h.r2 l4 ho.b.2.2.1, hk2 _ _ h.f1 l5 ho.b.2.2.2.1, hk2 _ _ h.f2 l6 ho.b.2.2.2.2⟩
  · exact (h.bel.grown hg h.bel.size (fun k e => by have := hr k e; omega)).setCell (p := ⟨Y.B, 7, none⟩) ho.lo.1 _
  · rw [set_block (o := 7) (u := v') (hk _ _ h.blk l1)]
    rfl
end
end Se
end Go.Proofs.Ythoidaaldngpmaa
