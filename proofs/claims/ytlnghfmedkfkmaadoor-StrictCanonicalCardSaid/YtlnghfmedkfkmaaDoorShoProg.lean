/-
  The program's tooLong, wordsFor, place, equalLines. Conditions: lists as long as a machine holds.
-/
import Derived.Test.YtlnghfmedkfkmaaDoorShoBits
import Derived.Test.YtlnghfmedkfkmaaDoorGScrBase
import Derived.Laws.Externs
import Derived.Deep.OwnRows
import Derived.StillTailTactics
namespace Go.Proofs.YtlnghfmedkfkmaaDoor
namespace Cm
end Cm
namespace Sc
end Sc
open Go.RowKit
namespace Sh
open Cm Sc
abbrev tI : TypeId := 3
/-- A block that holds these cells. -/
def Blk (w : World) (G : Nat) (t : TypeId) (l : List Value) : Prop := w.heap[G]? = some (.cells l.toArray t (0, 0))
theorem Blk.lt {w : World} {G : Nat} {t : TypeId} {l : List Value} (h : Blk w G t l) : G < w.heap.size := lt_of_block h
theorem Blk.cell {w : World} {G : Nat} {t : TypeId} {l : List Value} (h : Blk w G t l) {k : Nat} (hk : k < l.length) : w.cell? ⟨G, k, none⟩ = some l[k] := by
  unfold Blk at h
  simp only [World.cell?, h]
  simp [hk]
theorem Blk.free {w : World} {G : Nat} {t : TypeId} {l : List Value} (h : Blk w G t l) (k : Nat) : w.frozen? ⟨G, k, none⟩ = false := by
  unfold Blk at h
  simp [World.frozen?, h]
theorem Blk.below {w w' : World} {G : Nat} {t : TypeId} {l : List Value} (h : Blk w G t l) (hb : Below w.heap.size w w') : Blk w' G t l := (hb.block G h.lt).trans h
theorem Blk.set {w : World} {G : Nat} {t : TypeId} {l : List Value} (h : Blk w G t l) (k : Nat) (v : Value) : Blk (w.setCell ⟨G, k, none⟩ v) G t (l.set k v) := by
  have hlt := h.lt
  unfold Blk at h
  have h' : w.heap[G] = .cells l.toArray t (0, 0) := by simpa [Array.getElem?_eq_getElem hlt] using h
  show (w.heap.modify G _)[G]? = _
  rw [Array.getElem?_eq_getElem (by simpa using hlt), Array.getElem_modify_self, h']
  simp
theorem Blk.alloc {w : World} {G : Nat} {t : TypeId} {l : List Value} (h : Blk w G t l) (o : Obj) : Blk (w.alloc o) G t l := (Below.heap_alloc w o G h.lt).trans h
end Sh
end Go.Proofs.YtlnghfmedkfkmaaDoor
