/-
  Walks of layer 1, reading words: quotedByte, quoted, Unquote. Conditions: the text has at most 2^20 bytes. Walks of layer 1, reading words: quoted, Unquote. Conditions: the text has at most 2^20 bytes.
-/
import Derived.Test.YtjecfmbecgpbmaaGreatDoorGTextBase
import Derived.LoopN
namespace Go.Proofs.YtjecfmbecgpbmaaGreatDoor
section
open Go.RowKit
namespace Sc
theorem beq_of (b c : UInt8) (h : b = c) : ((b.toNat : Int) == (c.toNat : Int)) = true := by rw [h]; simp
theorem bne_of (b c : UInt8) (h : b ≠ c) : ((b.toNat : Int) == (c.toNat : Int)) = false := by
  simp only [beq_eq_false_iff_ne, ne_eq]
  intro e; exact h (UInt8.toNat_inj.1 (by omega))
end Sc
end
section
open Go.RowKit
namespace Sc
theorem own_below {w w' : World} {base : Nat} {v : Value} {n : Nat} {xs : List Value} (h : w.ownsRow base 5 1 v n xs) (hb : Below w.heap.size w w') : w'.ownsRow base 5 1 v n xs :=
  h.kept (row := none) ⟨hb.os, hb.tape, hb.output, hb.size, fun k hk _ => hb.block k hk⟩ (by cases v.ownBlock <;> simp)
end Sc
end
end Go.Proofs.YtjecfmbecgpbmaaGreatDoor
