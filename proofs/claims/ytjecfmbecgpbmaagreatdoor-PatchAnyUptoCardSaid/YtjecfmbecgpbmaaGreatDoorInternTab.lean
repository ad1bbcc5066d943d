/-
  The program's table of layer 3: what its blocks hold; newTable, visit. Conditions: strings that the machine can hold, at most a million names.
-/
import Derived.Test.YtjecfmbecgpbmaaGreatDoorGComBase
import Derived.Maps.OwnSet
import Derived.Carry
namespace Go.Proofs.YtjecfmbecgpbmaaGreatDoor
namespace Cm
end Cm
open Go.RowKit Go.Maps
namespace Nt
open Cm
abbrev tTab : TypeId := 207
abbrev tStr : TypeId := 9
/-- Rows of other elements than strings and tables are as they were. -/
def KeptO (w w' : World) : Prop := ∀ (k : Nat) (cur : Array Value) (e : TypeId), e ≠ tTab → e ≠ tStr → w.heap[k]? = some (Obj.cells cur e (0, 0)) → w'.heap[k]? = w.heap[k]?
end Nt
end Go.Proofs.YtjecfmbecgpbmaaGreatDoor
