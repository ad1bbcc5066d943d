/-
  Walks of layer 1, the reference's Plain, Quote and octal. Conditions: the text has at most 2^20 bytes.
-/
import Derived.Test.YtjecfmbecgpbmaaGreatDoorGTextBase
import Derived.Test.YtjecfmbecgpbmaaGreatDoorScanRange
namespace Go.Proofs.YtjecfmbecgpbmaaGreatDoor
open Go.RowKit
namespace Sc
theorem bne_of (b c : UInt8) (h : b ≠ c) : ((b.toNat : Int) == (c.toNat : Int)) = false := by
  simp only [beq_eq_false_iff_ne, ne_eq]
  intro e; exact h (UInt8.toNat_inj.1 (by omega))
theorem beq_of (b c : UInt8) (h : b = c) : ((b.toNat : Int) == (c.toNat : Int)) = true := by rw [h]; simp
theorem bs_mk (l : List UInt8) : bs ⟨l.toArray⟩ = l := rfl
end Sc
end Go.Proofs.YtjecfmbecgpbmaaGreatDoor
