/-
  The verifier's Strings on equal lists, and the sanity check of layer 2's statements ('awake'): it returns true. No conditions.
-/
import Derived.Test.YtlnghfmedkfkmaaDoorTextProg
import Derived.RangeFuncGives
import Derived.RangeFuncOwn
import Derived.RangeFuncCalls
import Derived.RangeFuncLeaves
import Derived.Maps.AppendAt
import Derived.Shelf.AbstractIn
import Derived.OwnWalkIn
import Derived.TacticsInMore
import Derived.RegionIn
import Derived.LoopNIn
import Derived.LoopIn
import Derived.Shelf.SlIter.Collect
import Derived.Test.YtlnghfmedkfkmaaDoorProg
import Derived.Test.YtlnghfmedkfkmaaDoorGTextBase
namespace Go.Proofs.YtlnghfmedkfkmaaDoor
open Go.RowKit
namespace Tx
/-- A literal list. -/
theorem RdS.lit (w : World) (xs : List ByteArray) : RdS (w.alloc (.cells (xs.map Value.string).toArray 9)) (.slice (some ⟨w.heap.size, 0, none⟩) xs.length xs.length) xs := by
  refine ⟨_, _, rfl, ⟨Nat.le_refl _, fun e => by cases e⟩, fun _ => ⟨_, 0, rfl, fun j hj => ?_⟩⟩
  rw [World.cell?_alloc_mark]
  simp [List.getElem?_eq_getElem hj]
end Tx
end Go.Proofs.YtlnghfmedkfkmaaDoor
