/-
  Layer 6: the walker as data and in the world; the program's reads, passes and visit. Condition: a valid automaton.
-/
import Derived.Test.YthoidaaldngpmaaSeaSteps
import Derived.Deep.RegionLaw
import Derived.StillTailTactics
import Derived.BigQuiet
import Derived.Deep.QuietTactic
import Derived.Deep.OwnRows
namespace Go.Proofs.Ythoidaaldngpmaa
open Go.RowKit
namespace Se
open Cm Rx Au
abbrev tPl : TypeId := 162
abbrev tPls : TypeId := 136
abbrev tWk : TypeId := 138
/-- The cells of a list of places. -/
def flatP (L : List (Nat × Nat)) : List Value := L.flatMap fun p => [.int .i64 (p.1 : Int), .int .i64 (p.2 : Int)]
theorem flatP_len (L : List (Nat × Nat)) : (flatP L).length = L.length * 2 := by
  induction L with
  | nil => rfl
  | cons a l ih => simp [flatP] at ih ⊢; omega
theorem flatP_snoc (L : List (Nat × Nat)) (q e : Nat) : flatP (L ++ [(q, e)]) = flatP L ++ [.int .i64 (q : Int), .int .i64 (e : Int)] := by
  simp [flatP]
theorem flatP_get : ∀ (L : List (Nat × Nat)) (j : Nat) (h : j < L.length), (flatP L)[j * 2]? = some (.int .i64 (L[j].1 : Int)) ∧ (flatP L)[j * 2 + 1]? = some (.int .i64 (L[j].2 : Int))
  | a :: l, 0, _ => ⟨rfl, rfl⟩
  | a :: l, j + 1, h => by
    have ih := flatP_get l j (by simpa using h)
    have e : flatP (a :: l) = .int .i64 (a.1 : Int) :: .int .i64 (a.2 : Int) :: flatP l := rfl
    rw [e, show (j + 1) * 2 = j * 2 + 1 + 1 by omega]
    simp only [List.getElem?_cons_succ, List.getElem_cons_succ]
    exact ih
/-- What stays of a walker. -/
structure Parts where
  B : Nat
  gs : Nat
  bA : Nat
  oA : Nat
  c : Nat
  s : ByteArray
  R1 : Nat
  R2 : Nat
  F1 : Nat
  F2 : Nat
  vacc : Value
  ba : Nat
  accs : List Int
/-- What changes. -/
structure Dyn where
  at_ : Int
  L : List (Nat × Nat)
  M : List (Nat × Nat)
  seen : List Int
  fin : Int
/-- The facts on the world behind newWalker. -/
structure WkS (ss : List St) (w1 : World) (P : Parts) : Prop where
  pos : 0 < ss.length
  ok : ∀ k (h : k < ss.length), okS ss.length ss[k] = true
  st : ∀ j (h : j < ss.length), StAt w1 P.bA (P.oA + j * 7) ss[j]
  r1 : w1.heap[P.R1]? = some (.cells (intsV (lastF (readX ss) ss.length (2 * ss.length))).toArray tInt (0, 0))
  r2 : w1.heap[P.R2]? = some (.cells (intsV (befF (readX ss) (tgtF ss) ss.length (2 * ss.length))).toArray tInt (0, 0))
  f1 : w1.heap[P.F1]? = some (.cells (intsV (lastF (freeX ss) ss.length (2 * ss.length))).toArray tInt (0, 0))
  f2 : w1.heap[P.F2]? = some (.cells (intsV (befF (freeX ss) (tgtF ss) ss.length (2 * ss.length))).toArray tInt (0, 0))
  acc : ∃ ca, P.vacc = .slice (if P.accs = [] then none else some ⟨P.ba, 0, none⟩) P.accs.length ca
  accc : ∀ j (h : j < P.accs.length), w1.cell? ⟨P.ba, j, none⟩ = some (.int .i64 P.accs[j])
  accm : ∀ x, x ∈ P.accs ↔ ∃ k : Nat, x = (k : Int) ∧ ∃ h : k < ss.length, ss[k].kind = 4
  accl : P.accs.length ≤ ss.length
  ne : P.B ≠ P.gs
  na : P.bA ≠ P.B ∧ P.bA ≠ P.gs
  n1 : P.R1 ≠ P.B ∧ P.R1 ≠ P.gs
  n2 : P.R2 ≠ P.B ∧ P.R2 ≠ P.gs
  n3 : P.F1 ≠ P.B ∧ P.F1 ≠ P.gs
  n4 : P.F2 ≠ P.B ∧ P.F2 ≠ P.gs
  n5 : P.ba ≠ P.B ∧ P.ba ≠ P.gs
/-- The cells of the walker. -/
def cellsK (n : Nat) (st : Nat) (P : Parts) (D : Dyn) (vL vM : Value) : Array Value :=
  #[.slice (some ⟨P.bA, P.oA, none⟩) n P.c, .int .i64 (st : Int), .string P.s, .slice (some ⟨P.R1, 0, none⟩) n n, .slice (some ⟨P.R2, 0, none⟩) (2 * n) (2 * n), .slice (some ⟨P.F1, 0, none⟩) n n, .slice (some ⟨P.F2, 0, none⟩) (2 * n) (2 * n), P.vacc, .int .i64 D.at_, vL, vM, .slice (some ⟨P.gs, 0, none⟩) n n, .int .i64 D.fin]
/-- A walker in the world w: w0 is the world before it was made, w1 the one behind newWalker. -/
structure Wk (n st : Nat) (w0 w1 w : World) (P : Parts) (D : Dyn) (vL vM : Value) : Prop where
  blk : w.heap[P.B]? = some (.cells (cellsK n st P D vL vM) tWk (0, 0))
  seen : w.heap[P.gs]? = some (.cells (intsV D.seen).toArray tInt (0, 0))
  sl : D.seen.length = n
  lv : w.ownsRow w1.heap.size tPl 2 vL D.L.length (flatP D.L)
  fm : w.ownsRow w1.heap.size tPl 2 vM D.M.length (flatP D.M)
  ne : ∀ k, vL.ownBlock = some k → vM.ownBlock ≠ some k
  chg : ∀ k, k < w1.heap.size → k ≠ P.B → k ≠ P.gs → w.heap[k]? = w1.heap[k]?
  size : w1.heap.size ≤ w.heap.size
  bel : Below w0.heap.size w0 w
  lo : w0.heap.size ≤ P.B ∧ w0.heap.size ≤ P.gs ∧ P.B < w1.heap.size ∧ P.gs < w1.heap.size ∧ w0.heap.size ≤ w1.heap.size
variable {n st : Nat} {w0 w1 w : World} {P : Parts} {D : Dyn} {vL vM : Value}
theorem Wk.block (h : Wk n st w0 w1 w P D vL vM) {k : Nat} {o : Obj} (h1 : k ≠ P.B) (h2 : k ≠ P.gs) (hc : w1.heap[k]? = some o) : w.heap[k]? = some o :=
  (h.chg k (lt_some hc) h1 h2).trans hc
theorem Wk.cell (h : Wk n st w0 w1 w P D vL vM) {k i : Nat} {v : Value} (h1 : k ≠ P.B) (h2 : k ≠ P.gs) (hc : w1.cell? ⟨k, i, none⟩ = some v) : w.cell? ⟨k, i, none⟩ = some v :=
  (World.cell?_of_block (w := w1) (a := ⟨k, i, none⟩) (h.chg k (Tx.cell_lt hc) h1 h2)).trans hc
theorem Wk.own (h : Wk n st w0 w1 w P D vL vM) (i : Nat) {v : Value} (hv : (cellsK n st P D vL vM)[i]? = some v) : w.cell? ⟨P.B, i, none⟩ = some v := by
  simp only [World.cell?, h.blk]; exact hv
theorem Wk.free (h : Wk n st w0 w1 w P D vL vM) (i : Nat) : w.frozen? ⟨P.B, i, none⟩ = false := by
  simp [World.frozen?, h.blk]
theorem Wk.sfree (h : Wk n st w0 w1 w P D vL vM) (i : Nat) : w.frozen? ⟨P.gs, i, none⟩ = false := by
  simp [World.frozen?, h.seen]
theorem Wk.drewN (h : Wk n st w0 w1 w P D vL vM) (m : Nat) : Wk n st w0 w1 (w.drewN m) P D vL vM := by
  have hb := below_drewN (Below.refl w.heap.size w) m
  have hk : ∀ k, k < w.heap.size → (w.drewN m).heap[k]? = w.heap[k]? := fun k hk => hb.block k hk
  exact ⟨(hk _ (lt_some h.blk)).trans h.blk, (hk _ (lt_some h.seen)).trans h.seen, h.sl, own_same h.lv hk, own_same h.fm hk, h.ne, fun k h1 h2 h3 => (hk k (by have := h.size; omega)).trans (h.chg k h1 h2 h3), Nat.le_trans h.size hb.size, below_drewN h.bel m, h.lo⟩
theorem own_hi {base m k : Nat} {v : Value} {xs : List Value} (h : w.ownsRow base tPl 2 v m xs) (hk : k < base) : v.ownBlock ≠ some k := fun e => by
  have := (h.lt k e).1
  omega
theorem own_setP {base m g j : Nat} {v u : Value} {xs : List Value} (h : w.ownsRow base tPl 2 v m xs) (hk : g < base) : (w.setCell ⟨g, j, none⟩ u).ownsRow base tPl 2 v m xs :=
  ownsRow_setCell_below h (a := ⟨g, j, none⟩) hk u
/-- A cell of the walker is written. -/
theorem Wk.setB (h : Wk n st w0 w1 w P D vL vM) (i : Nat) (u : Value) (D' : Dyn) (hL : D'.L = D.L) (hM : D'.M = D.M) (hs : D'.seen = D.seen) (hgs : P.B ≠ P.gs) (hc : (cellsK n st P D vL vM).setIfInBounds i u = cellsK n st P D' vL vM) : Wk n st w0 w1 (w.setCell ⟨P.B, i, none⟩ u) P D' vL vM := by
  have ho : ∀ k, k ≠ P.B → (w.setCell ⟨P.B, i, none⟩ u).heap[k]? = w.heap[k]? := fun k e => Below.heap_setCell _ _ _ k e
  refine ⟨by rw [← hc]; exact set_block h.blk, by rw [hs]; exact (ho _ (Ne.symm hgs)).trans h.seen, by rw [hs]; exact h.sl, by rw [hL]; exact own_setP h.lv h.lo.2.2.1, by rw [hM]; exact own_setP h.fm h.lo.2.2.1, h.ne, fun k h1 h2 h3 => (ho k h2).trans (h.chg k h1 h2 h3), ?_, h.bel.setCell (p := ⟨P.B, i, none⟩) h.lo.1 u, h.lo⟩
  simp [World.setCell]; exact h.size
/-- A cell of seen is written. -/
theorem Wk.setS (h : Wk n st w0 w1 w P D vL vM) (i : Nat) (x : Int) (hgs : P.B ≠ P.gs) : Wk n st w0 w1 (w.setCell ⟨P.gs, i, none⟩ (.int .i64 x)) P { D with seen := D.seen.set i x } vL vM := by
  have ho : ∀ k, k ≠ P.gs → (w.setCell ⟨P.gs, i, none⟩ (.int .i64 x)).heap[k]? = w.heap[k]? := fun k e => Below.heap_setCell _ _ _ k e
  refine ⟨(ho _ hgs).trans h.blk, ?_, by rw [List.length_set]; exact h.sl, own_setP h.lv h.lo.2.2.2.1, own_setP h.fm h.lo.2.2.2.1, h.ne, fun k h1 h2 h3 => (ho k h3).trans (h.chg k h1 h2 h3), ?_, h.bel.setCell (p := ⟨P.gs, i, none⟩) h.lo.2.1 _, h.lo⟩
  · have := set_block (o := i) (u := .int .i64 x) h.seen
    rw [this]
    congr 2
    simp [intsV, List.map_set]
  · simp [World.setCell]; exact h.size
end Se
end Go.Proofs.Ythoidaaldngpmaa
