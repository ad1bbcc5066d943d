/-
  A loop over the iterator of partners: what its body must keep, and what holds behind it. Conditions: the fields of the changes are numbers of lines.
-/
import Derived.Test.YtlnghfmedkfkmaaDoorScrIter
import Derived.RangeFuncWrites
import Derived.RangeFuncBox
import Derived.RangeFuncNested
namespace Go.Proofs.YtlnghfmedkfkmaaDoor
namespace Cm
end Cm
open Go.RowKit
attribute [local go_sem] Oper.semAt_some
namespace Sc
open Cm
/-- How the body of a round may be left. -/
def RdPost (I : List Sp → List Nat → World → Prop) (Ix : Code → List Sp → World → Prop) (xs : List Sp) (O : List Nat) (W : World) : Exit → Act → World → Prop
  | .normal, _, W' => ∃ O', I xs O' W' ∧ KeptO O W W' ∧ ∀ k ∈ O', k ∈ O ∨ W.heap.size ≤ k
  | .ret, _, W' => KeptO O W W' ∧ Ix .ret xs W'
  | .exit id, _, W' => KeptO O W W' ∧ Ix (.exit id) xs W'
  | .goto t, _, W' => KeptO O W W' ∧ Ix (.goto t) xs W'
  | .panic _, _, _ => False
  | .outgrown, _, _ => False
end Sc
end Go.Proofs.YtlnghfmedkfkmaaDoor
