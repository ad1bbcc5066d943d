/-
  Small facts that the walks of layer 1 share: strings as lists of bytes, digits and plain bytes in the walk's own spelling. No conditions.
-/
import Derived.Test.YtjecfmbecgpbmaaGreatDoorChecked
import Derived.Test.YtjecfmbecgpbmaaGreatDoorGTextMath
import Derived.WalkKit
import Derived.WalkSpells
import Derived.WalkLawsBesides
import Derived.LoopTactic
import Derived.Lib.Hide
import Derived.Deep.QuietTactic
import Derived.BigQuiet
import Derived.IntWalk
import Derived.Deep.LoopGhost
namespace Go.Proofs.YtjecfmbecgpbmaaGreatDoor
open Go.RowKit
namespace Sc
theorem ret_int {k : IntKind} {a b : Int} (h : a = b) : Ending.returned (.int k a) = .returned (.int k b) := by rw [h]
/-- The bytes of a string. -/
abbrev bs (s : ByteArray) : List UInt8 := s.data.toList
theorem bs_len (s : ByteArray) : (bs s).length = s.size := rfl
theorem bs_get? (s : ByteArray) (k : Nat) (h : k < s.size) : (bs s)[k]? = some s[k] := by rw [List.getElem?_eq_getElem (by simpa using h)]; rfl
theorem bs_drop (s : ByteArray) (k : Nat) (h : k < s.size) : (bs s).drop k = s[k] :: (bs s).drop (k + 1) := drop_eq (bs s) k h
theorem bs_extract (s : ByteArray) (a b : Nat) : bs (s.extract a b) = ((bs s).drop a).take (b - a) := by
  simp [bs, List.take_drop]
theorem u8_lt (b : UInt8) : (b.toNat : Int) < 256 := by have := b.toNat_lt; omega
end Sc
end Go.Proofs.YtjecfmbecgpbmaaGreatDoor
