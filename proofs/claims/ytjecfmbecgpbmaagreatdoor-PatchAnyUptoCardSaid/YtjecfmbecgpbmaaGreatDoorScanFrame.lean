/-
  What the rows of layer 1 share: the listed tables give the walks the powers of ten; a start that meets the condition; the row's last step where the call has made memory. No conditions.
-/
import Derived.Test.YtjecfmbecgpbmaaGreatDoorRows
import Derived.Test.YtjecfmbecgpbmaaGreatDoorScanRange
import Derived.ProofKit
import Derived.LaidMore
import Derived.OpenShut
import Derived.ShutString
import Derived.Stop.Joined
import Derived.Stop.LaidErr
import Derived.ChangeOld
import Derived.MakeChecks
namespace Go.Proofs.YtjecfmbecgpbmaaGreatDoor
open Go.ChangeShapes Go.WideShapes Go.ChangeAt Go.RowKit
namespace Sc
abbrev laid3 : List (String × DataW Unit) := Rows.patchAppliesRow.laid
theorem own : ownKnob Tryz.prog.godebug = none := by kernel_rfl
theorem door_met (os : Os) (args : Array Value) : laidMetH Tryz.prog laid3 ((World.doorLaid Tryz.prog 600 os).forCall (fun _ _ => 0) ⟨#[], args, []⟩).memory :=
  laidMetH_of_parts3 (fuel := 8) (laidMet_of_run' 8 (by kernel_rfl) (by kernel_rfl)) (by kernel_rfl) (by kernel_rfl)
theorem pow_of_laid {W : World} (h : laidMetH Tryz.prog laid3 W) : Pow W := by
  rw [MakeChecks.laidMetH_plain _ _ _ (by kernel_rfl)] at h
  have h2 : laidMet Tryz.prog [("internal/strconv.uint64pow10", Lib.tabData .u64 Lib.pow10Tab)] W := h.tail.tail
  exact Lib.tabIs_of_head powG (show (Tryz.prog.globals[3]?).map (·.type) = some 252 by kernel_rfl) Tryz.underlying252 Tryz.underlying75 (by kernel_rfl) (by kernel_rfl) h2
end Sc
section
variable {H : Type} {enc : TypeId × Value → H} {P : Program}
end
end Go.Proofs.YtjecfmbecgpbmaaGreatDoor
