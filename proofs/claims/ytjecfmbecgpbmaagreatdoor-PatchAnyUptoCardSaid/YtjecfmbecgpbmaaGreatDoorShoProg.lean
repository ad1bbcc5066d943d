/-
  The program's tooLong, wordsFor, place, equalLines. Conditions: lists as long as a machine holds.
-/
import Derived.Test.YtjecfmbecgpbmaaGreatDoorShoBits
import Derived.Test.YtjecfmbecgpbmaaGreatDoorGScrBase
import Derived.Laws.Externs
import Derived.Deep.OwnRows
import Derived.StillTailTactics
namespace Go.Proofs.YtjecfmbecgpbmaaGreatDoor
namespace Cm
end Cm
namespace Sc
end Sc
open Go.RowKit
namespace Sh
open Cm Sc
abbrev tI : TypeId := 3
theorem info_i : (Tryz.prog.info? tI).map (fun i => (i.zero, i.size, i.bytes)) = some (some (.int .i64 0), 1, 8) := by kernel_rfl
/-- A block that holds these cells. -/
def Blk (w : World) (G : Nat) (t : TypeId) (l : List Value) : Prop := w.heap[G]? = some (.cells l.toArray t (0, 0))
theorem Blk.lt {w : World} {G : Nat} {t : TypeId} {l : List Value} (h : Blk w G t l) : G < w.heap.size := lt_of_block h
theorem Blk.cell {w : World} {G : Nat} {t : TypeId} {l : List Value} (h : Blk w G t l) {k : Nat} (hk : k < l.length) : w.cell? ⟨G, k, none⟩ = some l[k] := by
  unfold Blk at h
  simp only [World.cell?, h]
  simp [hk]
theorem Blk.free {w : World} {G : Nat} {t : TypeId} {l : List Value} (h : Blk w G t l) (k : Nat) : w.frozen? ⟨G, k, none⟩ = false := by
  unfold Blk at h
  simp [World.frozen?, h]
theorem Blk.below {w w' : World} {G : Nat} {t : TypeId} {l : List Value} (h : Blk w G t l) (hb : Below w.heap.size w w') : Blk w' G t l := (hb.block G h.lt).trans h
theorem Blk.set {w : World} {G : Nat} {t : TypeId} {l : List Value} (h : Blk w G t l) (k : Nat) (v : Value) : Blk (w.setCell ⟨G, k, none⟩ v) G t (l.set k v) := by
  have hlt := h.lt
  unfold Blk at h
  have h' : w.heap[G] = .cells l.toArray t (0, 0) := by simpa [Array.getElem?_eq_getElem hlt] using h
  show (w.heap.modify G _)[G]? = _
  rw [Array.getElem?_eq_getElem (by simpa using hlt), Array.getElem_modify_self, h']
  simp
theorem Blk.set_ne {w : World} {G H : Nat} {t : TypeId} {l : List Value} (h : Blk w G t l) (hne : G ≠ H) (k : Nat) (v : Value) : Blk (w.setCell ⟨H, k, none⟩ v) G t l :=
  (Below.heap_setCell _ _ _ _ hne).trans h
theorem Blk.alloc {w : World} {G : Nat} {t : TypeId} {l : List Value} (h : Blk w G t l) (o : Obj) : Blk (w.alloc o) G t l := (Below.heap_alloc w o G h.lt).trans h
theorem Blk.drew {w : World} {G : Nat} {t : TypeId} {l : List Value} (h : Blk w G t l) : Blk w.drew G t l := h
theorem Blk.drewN {w : World} {G : Nat} {t : TypeId} {l : List Value} (h : Blk w G t l) (m : Nat) : Blk (w.drewN m) G t l := h.below (below_drewN (Below.refl _ _) m)
/-- make of a row of cells. -/
theorem mk_row {ops : Array Oper} {rest : List Oper} {o : Oper} {a : Act} {Q : Exit → Act → World → Prop} {w : World} {tS e : TypeId} {z : Value} {bytes : Nat} (hgd : o.guard = none) (l c : Operand) (ho : o.op = Op.makeSlice tS l c)
    (hu : Tryz.prog.underlying tS = some (.slice e)) (hi : (Tryz.prog.info? e).map (fun i => (i.zero, i.size, i.bytes)) = some (some z, 1, bytes)) (hzz : z.cells = #[z]) (hby : bytes ≤ 24)
    (n : Nat) (hl : a.eval l = .int .i64 (n : Int)) (hc : a.eval c = .int .i64 (n : Int)) (hn : n ≤ 4194304)
    (h : ∀ w', Hid (Blk w' w.heap.size e (List.replicate n z)) → Hid (w'.heap.size = w.heap.size + 1) → Below w.heap.size w w' → wpList Tryz.prog ops Q rest (a.put o.dst (.slice (some ⟨w.heap.size, 0, none⟩) n n)) w') : wpList Tryz.prog ops Q (o :: rest) a w := by
  obtain ⟨i0, hi0, hz0, hz1, hz2⟩ := info_parts hi
  have hm := Nat.mul_le_mul_left n hby
  refine wpList_make_row w hgd l c _ ho e i0 z hu hi0 hz0 hz1 hzz .i64 .i64 n hl hc (by rw [hz2]; have := Nat.mul_comm bytes n; omega) (by omega) (h _ ?_ (Lib.hid (by simp)) ((Below.refl _ w).alloc (Nat.le_refl _) _))
  obtain ⟨c, h1, h2, h3⟩ := World.rowIs_made w z n e
  have e : c = (List.replicate n z).toArray := by
    refine Array.ext (by rw [h2, List.size_toArray, List.length_replicate]) fun i hi1 hi2 => ?_
    have h4 := h3 i (by omega)
    rw [Array.getElem?_eq_getElem hi1] at h4
    have h5 := Option.some.inj h4
    rw [h5, List.getElem_toArray, List.getElem_replicate]
  rw [e] at h1
  exact Lib.hid h1
theorem int_at {w : World} {A : Option Addr} {n c : Nat} {l : List Int} (h : RdV w (.slice A n c) (intsV l)) (k : Nat) (hk : k < l.length) : ∃ b off, A = some ⟨b, off, none⟩ ∧ w.cell? ⟨b, off + k, none⟩ = some (.int .i64 l[k]) := by
  obtain ⟨_, b, off, e, hc⟩ := h.at (by rw [intsV_len]; omega)
  refine ⟨b, off, e, ?_⟩
  rw [hc k (by rw [intsV_len]; exact hk)]
  simp [intsV]
end Sh
end Go.Proofs.YtjecfmbecgpbmaaGreatDoor
