/-
  Blobs of the program and of the reference, on small blobs: the same script. Condition: at most 1000 bytes each.
-/
import Derived.Test.YtlnghfmedkfkmaaDoorShoScr
import Derived.StillTailTactics
import Derived.Test.YtlnghfmedkfkmaaDoorGScrBase
import Derived.Test.YtlnghfmedkfkmaaDoorGTextBase
import Derived.Test.YtlnghfmedkfkmaaDoorInternTab
import Derived.Deep.OwnRows
import Derived.Test.YtlnghfmedkfkmaaDoorTextProg
import Derived.RangeFuncGives
import Derived.RangeFuncOwn
import Derived.RangeFuncCalls
import Derived.RangeFuncLeaves
import Derived.Maps.AppendAt
import Derived.Shelf.AbstractIn
import Derived.OwnWalkIn
import Derived.TacticsInMore
import Derived.RegionIn
import Derived.LoopNIn
import Derived.LoopIn
import Derived.Shelf.SlIter.Collect
import Derived.Test.YtlnghfmedkfkmaaDoorProg
namespace Go.Proofs.YtlnghfmedkfkmaaDoor
namespace Cm
end Cm
namespace Sc
end Sc
open Go.RowKit
namespace Sh
open Cm Sc
/-- The lines of a blob. -/
def lnB (s : ByteArray) : List ByteArray := Tx.mks (Tx.linesF (Tx.bs s))
theorem lnB_len (s : ByteArray) : (lnB s).length ≤ s.size := by
  unfold lnB
  rw [Tx.mks_len]
  exact Tx.linesF_le (Tx.bs s)
theorem lnB_size (s : ByteArray) : ∀ x ∈ lnB s, x.size ≤ s.size := by
  intro x hx
  obtain ⟨l, hl, rfl⟩ := List.mem_map.1 hx
  rw [Tx.size_mk]
  exact Tx.mem_len hl
/-- The numbers of the lines of two blobs. -/
def idA (s t : ByteArray) : List Int := (lnB s).map (Nt.placeI (Nt.namesF [lnB s, lnB t]))
def idB (s t : ByteArray) : List Int := (lnB t).map (Nt.placeI (Nt.namesF [lnB s, lnB t]))
theorem idA_len (s t : ByteArray) : (idA s t).length ≤ s.size := by unfold idA; rw [List.length_map]; exact lnB_len s
theorem idB_len (s t : ByteArray) : (idB s t).length ≤ t.size := by unfold idB; rw [List.length_map]; exact lnB_len t
def SpPost2 (s : ByteArray) (w : World) (e : Ending) (w' : World) : Prop := ∃ v, e = .returned (.tuple #[v, .int .i64 0]) ∧ RdV w' v (stringsV (lnB s)) ∧ Below w.heap.size w w'
def blbF (s t : ByteArray) : List Ch := scrF (idA s t) (idB s t)
end Sh
end Go.Proofs.YtlnghfmedkfkmaaDoor
