/-
  The iterator over the partners of a script, for every loop body that keeps what is not its own. Conditions: the fields of the changes are numbers of lines. The iterator over the partners of a script, whole. Conditions: the fields of the changes are numbers of lines.
-/
import Derived.Test.YtjecfmbecgpbmaaGreatDoorGScrBase
import Derived.RangeFuncGives
import Derived.RangeFuncOwn
import Derived.RangeFuncCalls
import Derived.RangeFuncLeaves
import Derived.RangeFuncBound
import Derived.Maps.AppendAt
import Derived.Shelf.AbstractIn
import Derived.OwnWalkIn
import Derived.TacticsInMore
import Derived.RegionIn
import Derived.LoopNIn
import Derived.LoopIn
import Derived.Sort.QuietTacIn
namespace Go.Proofs.YtjecfmbecgpbmaaGreatDoor
section
namespace Cm
end Cm
open Go.RowKit
attribute [local go_sem] Oper.semAt_some
namespace Sc
open Cm
/-- Every block that is not one of these is as it was. -/
structure KeptO (O : List Nat) (w w' : World) : Prop where
  os : w'.os = w.os
  tape : w'.tape = w.tape
  output : w'.output = w.output
  size : w.heap.size ≤ w'.heap.size
  block : ∀ k, k < w.heap.size → k ∉ O → w'.heap[k]? = w.heap[k]?
def ItPost (J : List Sp → List Nat → World → Prop) (Jx : List Sp → World → Prop) (PL : List Sp) (e : Ending) (W' : World) : Prop :=
  (∃ v, e = .returned v) ∧ ((∃ O, J PL O W') ∨ (∃ pre, pre ≠ [] ∧ pre <+: PL ∧ Jx pre W'))
end Sc
end
section
namespace Cm
end Cm
open Go.RowKit
attribute [local go_sem] Oper.semAt_some
namespace Sc
open Cm
def ChN (c : Ch) : Prop := (0 ≤ c.old ∧ c.old ≤ 4096) ∧ (0 ≤ c.oldLen ∧ c.oldLen ≤ 4096) ∧ (0 ≤ c.new ∧ c.new ≤ 4096) ∧ (0 ≤ c.newLen ∧ c.newLen ≤ 4096)
end Sc
end
end Go.Proofs.YtjecfmbecgpbmaaGreatDoor
