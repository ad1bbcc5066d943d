/-
  The shelf's laying of slices.AppendSeq over strings, at this translation: one application. No conditions.
-/
import Derived.Shelf.SlIter.Collect
import Derived.Test.YtlnjhacchnfbkaaProg
namespace Go.Proofs
open Go.Shelf
def Try.appendSeqS_ren : Go.Shelf.Ren := ⟨fun | 11 => 66 | n => n, fun | 24 => 52 | 26 => 9 | 28 => 85 | 0 => 0 | 33 => 104 | 4 => 4 | n => n, fun | n => n⟩
theorem Try.appendSeqS : Go.Proofs.SlLaysZ.n11 Try.prog Try.appendSeqS_ren := {
  mixed := by kernel_rfl
  f11 := ⟨Try.f66.name, by decide, Try.func66.trans (congrArg some (by kernel_rfl))⟩
  t0 := Try.underlying0
  a0 := Try.isAgg0
  z0 := Try.sizeOf0
  v0 := Try.zeroValue0
  t24 := Try.underlying52
  a24 := Try.isAgg52
  z24 := Try.sizeOf52
  v24 := Try.zeroValue52
  t26 := Try.underlying9
  a26 := Try.isAgg9
  z26 := Try.sizeOf9
  v26 := Try.zeroValue9
  t28 := Try.underlying85
  a28 := Try.isAgg85
  z28 := Try.sizeOf85
  v28 := Try.zeroValue85
  i26 := by kernel_rfl }
end Go.Proofs
