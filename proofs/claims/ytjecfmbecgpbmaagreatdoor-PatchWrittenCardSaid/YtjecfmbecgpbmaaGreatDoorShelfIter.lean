/- Facts; each states its conditions. -/
import Derived.Shelf.SlIter.Collect
import Derived.Test.YtjecfmbecgpbmaaGreatDoorProg
namespace Go.Proofs
open Go.Shelf
def Tryz.appendSeqS_ren : Go.Shelf.Ren := ⟨fun | 11 => 137 | n => n, fun | 24 => 30 | 26 => 9 | 28 => 95 | 0 => 0 | 33 => 76 | 4 => 4 | n => n, fun | n => n⟩
theorem Tryz.appendSeqS : Go.Proofs.SlLaysZ.n11 Tryz.prog Tryz.appendSeqS_ren := {
 mixed := by kernel_rfl
 f11 := ⟨Tryz.f137.name, by decide, Tryz.func137.trans (congrArg some (by kernel_rfl))⟩
 t0 := Tryz.underlying0
 a0 := Tryz.isAgg0
 z0 := Tryz.sizeOf0
 v0 := Tryz.zeroValue0
 t24 := Tryz.underlying30
 a24 := Tryz.isAgg30
 z24 := Tryz.sizeOf30
 v24 := Tryz.zeroValue30
 t26 := Tryz.underlying9
 a26 := Tryz.isAgg9
 z26 := Tryz.sizeOf9
 v26 := Tryz.zeroValue9
 t28 := Tryz.underlying95
 a28 := Tryz.isAgg95
 z28 := Tryz.sizeOf95
 v28 := Tryz.zeroValue95
 i26 := by kernel_rfl }
end Go.Proofs
