/-
  The verifier's Strings and Lists on equal lists: they return true. No conditions beyond the lengths.
-/
import Derived.Test.YtechabkmepejaaaComIntsV
namespace Go.Proofs.Ytechabkmepejaaa
open Go.RowKit
namespace Cm
theorem RdLL.drewN {w : World} {v : Value} {uss : List (List Value)} (h : RdLL w v uss) (m : Nat) : RdLL (w.drewN m) v uss := by
  obtain ⟨us, h1, h2, h3⟩ := h
  exact ⟨us, h1.drewN m, h2, fun j a b => (h3 j a b).drewN m⟩
end Cm
end Go.Proofs.Ytechabkmepejaaa
