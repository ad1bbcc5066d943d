/-
  The reader of layer 13: its patch in memory, and what each step makes of it. No conditions. Sizes of what the reader has read. No conditions.
-/
import Derived.Test.YtjecfmbecgpbmaaGreatDoorShelfS
import Derived.Test.YtjecfmbecgpbmaaGreatDoorStrM
import Derived.Test.YtjecfmbecgpbmaaGreatDoorShelf
import Derived.Test.YtjecfmbecgpbmaaGreatDoorTextJoin
import Derived.Test.YtjecfmbecgpbmaaGreatDoorTextCollect
import Derived.Test.YtjecfmbecgpbmaaGreatDoorGTextBase
import Derived.Test.YtjecfmbecgpbmaaGreatDoorUniMake
import Derived.Test.YtjecfmbecgpbmaaGreatDoorGScanUnqB
namespace Go.Proofs.YtjecfmbecgpbmaaGreatDoor
section
namespace Cm
end Cm
namespace Hn
end Hn
namespace Sc
end Sc
namespace Uf
end Uf
open Go.RowKit
namespace St
open Uf Cm Hn
open Sc (flatK ownK_below app_k flatK_snoc)
abbrev tRdr : TypeId := 136
/-- Hunks that the reader owns; no two of them share their lines. -/
def HksI (base : Nat) (w : World) (v : Value) (hs : List PH) : Prop :=
  ∃ zs : List HV, w.ownsRow base tPh 3 v zs.length (flatK hunkC zs) ∧ zs.length = hs.length ∧ (∀ j (a : j < zs.length) (b : j < hs.length), zs[j].old = hs[j].old ∧ zs[j].new = hs[j].new ∧ OwnL base w zs[j].u hs[j].lines) ∧
    ∀ i j (_ : i < j) (b : j < zs.length), (zs[i]'(by omega)).u.ownBlock = none ∨ (zs[i]'(by omega)).u.ownBlock ≠ zs[j].u.ownBlock
/-- The reader: its patch lies in the first block beyond w0. -/
structure RdI (w0 wr : World) (p : Pat) : Prop where
  bel : Below w0.heap.size w0 wr
  box : ∃ v, Blk wr w0.heap.size tRdr [.string p.on, .string p.nn, v] ∧ HksI (w0.heap.size + 1) wr v p.hunks
end St
end
section
namespace Cm
end Cm
namespace Hn
end Hn
namespace Sc
end Sc
namespace Uf
end Uf
open Go.RowKit
namespace St
open Uf Cm Hn
open Sc (rngF rngAt chkR numAt)
theorem mk_size (l : List UInt8) : (⟨l.toArray⟩ : ByteArray).size = l.length := by simp [ByteArray.size]
end St
end
end Go.Proofs.YtjecfmbecgpbmaaGreatDoor
