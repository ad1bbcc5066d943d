/-
  Layer 6: what the iterator and the body of a loop over it leave alone, by the types of blocks; the walker behind a body. No program. No conditions.
-/
import Derived.Test.YthoidaaldngpmaaSeaBackM
import Derived.RangeFuncWrites
namespace Go.Proofs.Ythoidaaldngpmaa
open Go.RowKit
namespace Se
open Cm Rx Au
abbrev tSp : TypeId := 57
abbrev tSps : TypeId := 61
/-- The types of the blocks that a walker changes. -/
def walkT (t : TypeId) : Bool := t == tInt || t == tPl || t == tWk
/-- The types of the blocks that the body of a loop changes. -/
def callT (t : TypeId) : Bool := t == tSp || t == tSps || t == 4 || t == 24
structure K1 (w w' : World) : Prop where
  size : w.heap.size ≤ w'.heap.size
  same : ∀ (k : Nat) (o : Obj), w.heap[k]? = some o → (∀ cs t z, o = Obj.cells cs t z → walkT t = false) → w'.heap[k]? = some o
structure K2 (w w' : World) : Prop where
  size : w.heap.size ≤ w'.heap.size
  same : ∀ (k : Nat) (cs : Array Value) (t : TypeId) (z : Nat × Nat), w.heap[k]? = some (Obj.cells cs t z) → callT t = false → w'.heap[k]? = some (Obj.cells cs t z)
theorem K1.refl (w : World) : K1 w w := ⟨Nat.le_refl _, fun _ _ h _ => h⟩
theorem K2.refl (w : World) : K2 w w := ⟨Nat.le_refl _, fun _ _ _ _ h _ => h⟩
theorem K1.trans {a b c : World} (h : K1 a b) (k : K1 b c) : K1 a c := ⟨Nat.le_trans h.size k.size, fun i o h1 h2 => k.same i o (h.same i o h1 h2) h2⟩
theorem K2.trans {a b c : World} (h : K2 a b) (k : K2 b c) : K2 a c := ⟨Nat.le_trans h.size k.size, fun i cs t z h1 h2 => k.same i cs t z (h.same i cs t z h1 h2) h2⟩
theorem K1.below {w w' : World} (h : Below w.heap.size w w') : K1 w w' := ⟨h.size, fun k _ h1 _ => (h.block k (lt_some h1)).trans h1⟩
theorem K2.below {w w' : World} (h : Below w.heap.size w w') : K2 w w' := ⟨h.size, fun k _ _ _ h1 _ => (h.block k (lt_some h1)).trans h1⟩
theorem K1.drewN {a b : World} (h : K1 a b) (m : Nat) : K1 a (b.drewN m) := h.trans (.below (below_drewN (Below.refl _ _) m))
theorem K2.drewN {a b : World} (h : K2 a b) (m : Nat) : K2 a (b.drewN m) := h.trans (.below (below_drewN (Below.refl _ _) m))
/-- A block of such a type, or none of the old ones, has turned. -/
theorem K1.of {w w' : World} (hs : w.heap.size ≤ w'.heap.size) (h : ∀ k : Nat, k < w.heap.size → (∀ cs t z, w.heap[k]? = some (Obj.cells cs t z) → walkT t = false) → w'.heap[k]? = w.heap[k]?) : K1 w w' :=
  ⟨hs, fun k o h1 h2 => (h k (lt_some h1) (fun cs t z h3 => h2 cs t z (by rw [h1] at h3; exact Option.some.inj h3))).trans h1⟩
theorem K2.of {w w' : World} (hs : w.heap.size ≤ w'.heap.size) (h : ∀ (k : Nat) cs t z, w.heap[k]? = some (Obj.cells cs t z) → callT t = false → w'.heap[k]? = w.heap[k]?) : K2 w w' :=
  ⟨hs, fun k cs t z h1 h2 => (h k cs t z h1 h2).trans h1⟩
theorem K1.setCell {w : World} {g i : Nat} {u : Value} (h : ∀ cs t z, w.heap[g]? = some (Obj.cells cs t z) → walkT t = true) (hc : ∃ cs t z, w.heap[g]? = some (Obj.cells cs t z)) : K1 w (w.setCell ⟨g, i, none⟩ u) :=
  K1.of (by simp [World.setCell]) fun k hk h2 => Below.heap_setCell _ _ _ k (fun e => by
    have e : k = g := e
    subst e
    obtain ⟨cs, t, z, h3⟩ := hc
    have h4 := h cs t z h3
    rw [h2 cs t z h3] at h4
    cases h4)
theorem K2.setCell {w : World} {g i : Nat} {u : Value} {cs : Array Value} {t : TypeId} {z : Nat × Nat} (hc : w.heap[g]? = some (.cells cs t z)) (h : callT t = true) : K2 w (w.setCell ⟨g, i, none⟩ u) :=
  K2.of (by simp [World.setCell]) fun k cs' t' z' h1 h2 => Below.heap_setCell _ _ _ k (fun e => by
    have e : k = g := e
    subst e
    rw [hc] at h1
    injection h1 with h1
    injection h1 with _ h1 _
    subst h1
    rw [h] at h2
    cases h2)
theorem K2.putObj {w : World} {l : Nat} {o o' : Obj} (hl : w.heap[l]? = some o) (ho : o.isCells = false) : K2 w (w.putObj l o') :=
  K2.of (by simp [World.putObj]) fun k cs t z h1 _ => World.putObj_heap_other (fun e => by
    subst e
    rw [hl] at h1
    injection h1 with h1
    subst h1
    cases ho)
theorem K1.alloc (w : World) (o : Obj) : K1 w (w.alloc o) := .below ((Below.refl _ _).alloc (Nat.le_refl _) _)
theorem K2.alloc (w : World) (o : Obj) : K2 w (w.alloc o) := .below ((Below.refl _ _).alloc (Nat.le_refl _) _)
variable {n st : Nat} {w0 w1 w w' : World} {P : Parts} {D : Dyn} {vL vM : Value}
theorem own_cells {w : World} {base t s n : Nat} {v : Value} {xs : List Value} (h : w.ownsRow base t s v n xs) {k : Nat} (hk : v.ownBlock = some k) : ∃ cur, w.heap[k]? = some (.cells cur t (0, 0)) := by
  rcases h.2 with ⟨e, _⟩ | ⟨g, cap, cur, e, _, hg, _⟩
  · subst e; cases hk
  · subst e
    injection hk with hk
    subst hk
    exact ⟨cur, hg⟩
/-- visit and reach leave alone what a walker does not change. -/
theorem K1.keep {vL' : Value} (h : Wk n st w0 w1 w P D vL vM) (hk : Keep w w' P vL vL') : K1 w w' :=
  K1.of hk.size fun k h1 h2 => hk.same k h1
    (fun e => by subst e; have h3 := h2 _ _ _ h.blk; cases h3)
    (fun e => by subst e; have h3 := h2 _ _ _ h.seen; cases h3)
    (fun e => by obtain ⟨cur, hc⟩ := own_cells h.lv e; have h3 := h2 _ _ _ hc; cases h3)
theorem K1.setB (h : Wk n st w0 w1 w P D vL vM) (i : Nat) (u : Value) : K1 w (w.setCell ⟨P.B, i, none⟩ u) :=
  K1.setCell (fun cs t z h1 => by rw [h.blk] at h1; injection h1 with h1; injection h1 with _ h1 _; subst h1; rfl) ⟨_, _, _, h.blk⟩
theorem K1.setB2 (h : Wk n st w0 w1 w P D vL vM) (i j : Nat) (u u' : Value) : K1 w ((w.setCell ⟨P.B, i, none⟩ u).setCell ⟨P.B, j, none⟩ u') :=
  (K1.setB h i u).trans (K1.setCell (fun cs t z h1 => by rw [set_block (o := i) (u := u) h.blk] at h1; injection h1 with h1; injection h1 with _ h1 _; subst h1; rfl) ⟨_, _, _, set_block (o := i) (u := u) h.blk⟩)
/-- The first n blocks of a world. -/
def cutW (w : World) (n : Nat) : World := { w with heap := w.heap.extract 0 n }
theorem cutW_size {w : World} {n : Nat} (h : n ≤ w.heap.size) : (cutW w n).heap.size = n := by
  show (w.heap.extract 0 n).size = n
  simp; omega
theorem cutW_at {w : World} {n k : Nat} (hk : k < n) : (cutW w n).heap[k]? = w.heap[k]? := by
  show (w.heap.extract 0 n)[k]? = _
  simp [Array.getElem?_extract]
  omega
theorem cutW_below {w : World} {n : Nat} (h : n ≤ w.heap.size) : Below n (cutW w n) w := ⟨rfl, rfl, rfl, by rw [cutW_size h]; exact h, fun _ hk => (cutW_at hk).symm⟩
theorem own_one {w W : World} {base t s n : Nat} {v : Value} {xs : List Value} (h : w.ownsRow base t s v n xs) (hk : ∀ (k : Nat) cur, w.heap[k]? = some (Obj.cells cur t (0, 0)) → W.heap[k]? = some (Obj.cells cur t (0, 0))) : W.ownsRow base t s v n xs := by
  refine ⟨h.1, ?_⟩
  rcases h.2 with e | ⟨g, cap, cur, e, hb, hg, r⟩
  · exact .inl e
  · exact .inr ⟨g, cap, cur, e, hb, hk g cur hg, r⟩
/-- Of what types the blocks are that a walker reads. -/
structure WkT (w1 : World) (P : Parts) : Prop where
  aT : ∃ cs t z, w1.heap[P.bA]? = some (Obj.cells cs t z) ∧ callT t = false
  accT : P.accs = [] ∨ ∃ cs z, w1.heap[P.ba]? = some (Obj.cells cs tInt z)
theorem cell_same {w W : World} {b i : Nat} {v : Value} (h : W.heap[b]? = w.heap[b]?) (hc : w.cell? ⟨b, i, none⟩ = some v) : W.cell? ⟨b, i, none⟩ = some v := (World.cell?_of_block (w := w) (a := ⟨b, i, none⟩) h).trans hc
/-- A body has run: the walker goes on from the world behind it. -/
theorem Wk.turn {ss : List St} (hS : WkS ss w1 P) (hT : WkT w1 P) (h : Wk n st w0 w1 w P D vL vM) (hk : K2 w w') :
    WkS ss (cutW w' w1.heap.size) P ∧ WkT (cutW w' w1.heap.size) P ∧ Wk n st (cutW w' w0.heap.size) (cutW w' w1.heap.size) w' P D vL vM := by
  have hlo := h.lo
  have hz := h.size
  have hz2 := hk.size
  have e1 : (cutW w' w1.heap.size).heap.size = w1.heap.size := cutW_size (by omega)
  have e0 : (cutW w' w0.heap.size).heap.size = w0.heap.size := cutW_size (by omega)
  have hcut : ∀ (k : Nat) cs t z, w1.heap[k]? = some (Obj.cells cs t z) → k ≠ P.B → k ≠ P.gs → callT t = false → (cutW w' w1.heap.size).heap[k]? = some (.cells cs t z) := fun k cs t z h1 h2 h3 h4 => by
    rw [cutW_at (lt_some h1)]
    exact hk.same k cs t z (h.block h2 h3 h1) h4
  refine ⟨?_, ?_, ?_⟩
  · obtain ⟨cs, t, z, ha, hat⟩ := hT.aT
    have hA := hcut _ _ _ _ ha hS.na.1 hS.na.2 hat
    have hAe : (cutW w' w1.heap.size).heap[P.bA]? = w1.heap[P.bA]? := hA.trans ha.symm
    refine ⟨hS.pos, hS.ok, fun j hj => ?_, hcut _ _ _ _ hS.r1 hS.n1.1 hS.n1.2 rfl, hcut _ _ _ _ hS.r2 hS.n2.1 hS.n2.2 rfl, hcut _ _ _ _ hS.f1 hS.n3.1 hS.n3.2 rfl, hcut _ _ _ _ hS.f2 hS.n4.1 hS.n4.2 rfl, hS.acc, fun j hj => ?_, hS.accm, hS.accl, hS.ne, hS.na, hS.n1, hS.n2, hS.n3, hS.n4, hS.n5⟩
    · obtain ⟨s0, s1, s2, s3, s4, s5, s6⟩ := hS.st j hj
      exact ⟨cell_same hAe s0, cell_same hAe s1, cell_same hAe s2, cell_same hAe s3, cell_same hAe s4, cell_same hAe s5, cell_same hAe s6⟩
    · rcases hT.accT with e | ⟨cs, z, hb⟩
      · rw [e] at hj; cases hj
      · exact cell_same ((hcut _ _ _ _ hb hS.n5.1 hS.n5.2 rfl).trans hb.symm) (hS.accc j hj)
  · obtain ⟨cs, t, z, ha, hat⟩ := hT.aT
    refine ⟨⟨cs, t, z, hcut _ _ _ _ ha hS.na.1 hS.na.2 hat, hat⟩, ?_⟩
    rcases hT.accT with e | ⟨cs, z, hb⟩
    · exact .inl e
    · exact .inr ⟨cs, z, hcut _ _ _ _ hb hS.n5.1 hS.n5.2 rfl⟩
  · refine ⟨hk.same _ _ _ _ h.blk rfl, hk.same _ _ _ _ h.seen rfl, h.sl, ?_, ?_, h.ne, fun k h1 _ _ => (cutW_at (by rw [e1] at h1; exact h1)).symm, by rw [e1]; omega, ?_, ?_⟩
    · rw [e1]; exact own_one h.lv (fun k cur hc => hk.same _ _ _ _ hc rfl)
    · rw [e1]; exact own_one h.fm (fun k cur hc => hk.same _ _ _ _ hc rfl)
    · rw [e0]; exact cutW_below (by omega)
    · rw [e0, e1]; exact hlo
/-- What stays of the walker's data: its parts at the beginning of the text behind newWalker. -/
theorem Wk.types (hT : WkT w1 P) (h : Wk n st w0 w1 w P D vL vM) (hna : P.bA ≠ P.B ∧ P.bA ≠ P.gs) : ∃ cs t z, w.heap[P.bA]? = some (Obj.cells cs t z) ∧ callT t = false := by
  obtain ⟨cs, t, z, ha, hat⟩ := hT.aT
  exact ⟨cs, t, z, h.block hna.1 hna.2 ha, hat⟩
end Se
end Go.Proofs.Ythoidaaldngpmaa
