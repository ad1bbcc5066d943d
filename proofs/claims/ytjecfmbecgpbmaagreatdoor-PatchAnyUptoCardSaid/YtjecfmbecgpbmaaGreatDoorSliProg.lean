/-
  The program's changed, move, free of package slide. Conditions: a script that fits.
-/
import Derived.Test.YtjecfmbecgpbmaaGreatDoorScrSpoil
import Derived.Test.YtjecfmbecgpbmaaGreatDoorGScrIter
import Derived.Test.YtjecfmbecgpbmaaGreatDoorGTextBase
import Derived.StillTailTactics
import Derived.RegionTactic
import Derived.ChangeAlike
namespace Go.Proofs.YtjecfmbecgpbmaaGreatDoor
namespace Cm
end Cm
namespace Sc
end Sc
open Go.RowKit
namespace Sl
open Cm Sc
theorem topE_in {e : Int} {l : List Ch} {k : Nat} (h : k + 1 < l.length) : topE e (l.drop (k + 1)) = l[k + 1].old - 1 := by
  rw [List.drop_eq_getElem_cons h]
  rfl
theorem topE_out {e : Int} {l : List Ch} {k : Nat} (h : l.length ≤ k + 1) : topE e (l.drop (k + 1)) = e := by
  rw [List.drop_eq_nil_of_le h]
  rfl
end Sl
end Go.Proofs.YtjecfmbecgpbmaaGreatDoor
