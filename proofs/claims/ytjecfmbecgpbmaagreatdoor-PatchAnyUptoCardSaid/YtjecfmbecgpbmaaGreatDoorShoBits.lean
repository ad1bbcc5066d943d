/-
  Sets of lines as words of 64 bits: and, and-not, or, the sum with its carry. No conditions.
-/
import Derived.Test.YtjecfmbecgpbmaaGreatDoorGTextBase
import Derived.Laws.Bits64
namespace Go.Proofs.YtjecfmbecgpbmaaGreatDoor
open Go.RowKit
namespace Sh
/-- The first n bits of word j of a set. -/
def wordN (m : Nat → Bool) (j : Nat) : Nat → Nat
  | 0 => 0
  | n + 1 => wordN m j n ||| (if m (64 * j + n) then 2 ^ n else 0)
def word (m : Nat → Bool) (j : Nat) : Nat := wordN m j 64
/-! ### the sum with its carry -/
end Sh
end Go.Proofs.YtjecfmbecgpbmaaGreatDoor
