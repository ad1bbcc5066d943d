/-
  The program's table of layer 3: what its blocks hold; newTable, visit. Conditions: strings that the machine can hold, at most a million names.
-/
import Derived.Test.YtlnghfmedkfkmaaDoorGComBase
import Derived.Test.YtlnghfmedkfkmaaDoorGTextMath
import Derived.Maps.OwnSet
import Derived.Carry
namespace Go.Proofs.YtlnghfmedkfkmaaDoor
namespace Cm
end Cm
open Go.RowKit Go.Maps
namespace Nt
open Cm
abbrev tStr : TypeId := 9
end Nt
end Go.Proofs.YtlnghfmedkfkmaaDoor
