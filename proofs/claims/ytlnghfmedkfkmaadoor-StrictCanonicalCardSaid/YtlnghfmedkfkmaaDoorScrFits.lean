/-
  The program's Fits. Conditions: the fields are numbers that an int holds, as few elements as the laws have.
-/
import Derived.Test.YtlnghfmedkfkmaaDoorScrRange
import Derived.Test.YtlnghfmedkfkmaaDoorGScrBase
import Derived.Maps.AppendAt
import Derived.Test.YtlnghfmedkfkmaaDoorScrSpoil
import Derived.Deep.AppendLies
import Derived.Tactics
import Derived.Tactics2
import Derived.WalkSpells
import Derived.StillTactics
import Derived.OwnWalk
import Derived.Laws.Pointers
import Derived.Sort.QuietTacIn
namespace Go.Proofs.YtlnghfmedkfkmaaDoor
namespace Cm
end Cm
open Go.RowKit
attribute [local go_sem] Oper.semAt_some
namespace Sc
open Cm
def eqAt (xs ys : List Int) (s : Sp) : Prop := xs.getD s.frm.toNat 0 = ys.getD s.to.toNat 0
open Classical in
/-- The verdict of Fits. -/
noncomputable def fitsB (l : List Ch) (xs ys : List Int) : Bool := decide (chkF l xs.length ys.length = 0 ∧ ∀ s ∈ mtF xs.length 0 0 l, eqAt xs ys s)
def FtPost (l : List Ch) (xs ys : List Int) (w : World) (e : Ending) (w' : World) : Prop := e = .returned (.bool (fitsB l xs ys)) ∧ Below w.heap.size w w'
end Sc
end Go.Proofs.YtlnghfmedkfkmaaDoor
