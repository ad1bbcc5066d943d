/-
  The program's Script, Common and Distance. Conditions: numbers that an int holds.
-/
import Derived.Test.YtlnghfmedkfkmaaDoorShoProg
import Derived.Maps.OwnSet
import Derived.Carry
import Derived.Test.YtlnghfmedkfkmaaDoorShelf
import Derived.Laws.CopyOwn
import Derived.Deep.RegionLaw
import Derived.Deep.OwnRows
import Derived.StillTailTactics
import Derived.Test.YtlnghfmedkfkmaaDoorGScrBase
import Derived.WalkSpells
namespace Go.Proofs.YtlnghfmedkfkmaaDoor
namespace Cm
end Cm
namespace Sc
end Sc
open Go.RowKit Go.Maps
namespace Sh
open Cm Sc
/-- The shortest script. -/
def scrF (a b : List Int) : List Ch := frF (a.length : Int) (b.length : Int) 0 0 (wkF 0 0 a b)
end Sh
end Go.Proofs.YtlnghfmedkfkmaaDoor
