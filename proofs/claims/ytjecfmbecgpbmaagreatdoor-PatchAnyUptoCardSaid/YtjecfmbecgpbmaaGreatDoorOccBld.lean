/-
  Walks of layer 7: the library's strings.Builder: WriteString. Condition: short strings.
-/
import Derived.Test.YtjecfmbecgpbmaaGreatDoorGComBase
import Derived.Test.YtjecfmbecgpbmaaGreatDoorGTextBase
import Derived.Test.YtjecfmbecgpbmaaGreatDoorShelf
import Derived.Laws.LoneSync
namespace Go.Proofs.YtjecfmbecgpbmaaGreatDoor
namespace Cm
end Cm
namespace Tx
end Tx
open Go.RowKit
namespace Oc
open Tx Cm
abbrev tBld : TypeId := 93
abbrev tU8 : TypeId := 5
section
variable {w : World} {B b : Nat} {bs : List Value}
abbrev Keeps8 (b : Nat) (w w' : World) : Prop := Lib.OthersKept tU8 (some b) w w'
end
end Oc
end Go.Proofs.YtjecfmbecgpbmaaGreatDoor
