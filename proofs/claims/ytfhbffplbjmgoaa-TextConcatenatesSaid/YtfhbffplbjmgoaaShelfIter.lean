/-
  The shelf's laying of slices.AppendSeq over strings, at this translation: one application. No conditions.
-/
import Derived.Shelf.SlIter.Collect
import Derived.Test.YtfhbffplbjmgoaaProg
namespace Go.Proofs
open Go.Shelf
def Try.appendSeqS_ren : Go.Shelf.Ren := ⟨fun | 11 => 35 | n => n, fun | 24 => 25 | 26 => 9 | 28 => 46 | 0 => 0 | 33 => 33 | 4 => 4 | n => n, fun | n => n⟩
theorem Try.appendSeqS : Go.Proofs.SlLaysZ.n11 Try.prog Try.appendSeqS_ren := {
  mixed := by kernel_rfl
  f11 := ⟨Try.f35.name, by decide, Try.func35.trans (congrArg some (by kernel_rfl))⟩
  t0 := Try.underlying0
  a0 := Try.isAgg0
  z0 := Try.sizeOf0
  v0 := Try.zeroValue0
  t24 := Try.underlying25
  a24 := Try.isAgg25
  z24 := Try.sizeOf25
  v24 := Try.zeroValue25
  t26 := Try.underlying9
  a26 := Try.isAgg9
  z26 := Try.sizeOf9
  v26 := Try.zeroValue9
  t28 := Try.underlying46
  a28 := Try.isAgg46
  z28 := Try.sizeOf46
  v28 := Try.zeroValue46
  i26 := by kernel_rfl }
end Go.Proofs
