/-
  Lists of numbers and strings as values; slices of slices. No conditions.
-/
import Derived.Test.YtechabkmepejaaaComBase
namespace Go.Proofs.Ytechabkmepejaaa
open Go.RowKit
namespace Cm
def intsV (l : List Int) : List Value := l.map fun z => .int .i64 z
def stringsV (l : List ByteArray) : List Value := l.map Value.string
theorem intsV_len (l : List Int) : (intsV l).length = l.length := by simp [intsV]
theorem stringsV_len (l : List ByteArray) : (stringsV l).length = l.length := by simp [stringsV]
/-- A slice of slices that reads as a list of lists. -/
def RdLL (w : World) (v : Value) (uss : List (List Value)) : Prop :=
  ∃ us, RdV w v us ∧ us.length = uss.length ∧ ∀ j (h1 : j < us.length) (h2 : j < uss.length), RdV w us[j] uss[j]
theorem RdLL.below {w w' : World} {v : Value} {uss : List (List Value)} (h : RdLL w v uss) (hb : Below w.heap.size w w') : RdLL w' v uss := by
  obtain ⟨us, h1, h2, h3⟩ := h
  exact ⟨us, h1.below hb, h2, fun j a b => (h3 j a b).below hb⟩
end Cm
end Go.Proofs.Ytechabkmepejaaa
