/-
  Walks of the reference of layer 2: List, All, Join. Conditions: the list has at most 4096 elements of together at most 2^20 bytes.
-/
import Derived.Test.YtjecfmbecgpbmaaGreatDoorGTextBase
import Derived.Lib.AppendStr
namespace Go.Proofs.YtjecfmbecgpbmaaGreatDoor
open Go.RowKit
namespace Tx
theorem below_drewN {n : Nat} {w w' : World} (h : Below n w w') (m : Nat) : Below n w (w'.drewN m) := by
  induction m with
  | zero => exact h
  | succ m ih => exact ih.drew
/-- The strings as lists of bytes. -/
abbrev bss (xs : List ByteArray) : List (List UInt8) := xs.map bs
def total (xs : List ByteArray) : Nat := (bss xs).flatten.length
theorem isListF_step (xs : List ByteArray) (i : Nat) (h : i < xs.length) : isListF ((bss xs).drop i) = (isLine (bs xs[i]) && (decide (i + 1 = xs.length) || endedF (bs xs[i])) && isListF ((bss xs).drop (i + 1))) := by
  have hl : (bss xs).length = xs.length := by simp [bss]
  rw [List.drop_eq_getElem_cons (show i < (bss xs).length by rw [hl]; exact h), isListF_cons]
  have e1 : ((bss xs).drop (i + 1)).isEmpty = decide (i + 1 = xs.length) := by
    rw [Bool.eq_iff_iff, List.isEmpty_iff, List.drop_eq_nil_iff, hl, decide_eq_true_eq]; omega
  have e2 : (bss xs)[i]'(by rw [hl]; exact h) = bs xs[i] := by simp [bss]
  rw [e1, e2]
theorem isListF_end (xs : List ByteArray) (i : Nat) (h : xs.length ≤ i) : isListF ((bss xs).drop i) = true := by
  rw [List.drop_of_length_le (by simp [bss]; exact h)]; rfl
abbrev byteV (b : UInt8) : Value := .int .u8 (b.toNat : Int)
def bytesV (l : List UInt8) : List Value := l.map byteV
theorem bytesV_append (a b : List UInt8) : bytesV (a ++ b) = bytesV a ++ bytesV b := by simp [bytesV]
theorem bytesV_len (a : List UInt8) : (bytesV a).length = a.length := by simp [bytesV]
theorem info_u8 : (Tryz.prog.info? 5).map (fun i => (i.zero, i.size, i.bytes)) = some (some (.int .u8 0), 1, 1) := by kernel_rfl
theorem below_of_append {w w' : World} {base : Nat} {v : Value} {n : Nat} {xs : List Value} (hown : w.ownsRow base 5 1 v n xs) (hg : w.grownBy w' v.ownBlock) (hb : base ≤ w.heap.size) : Below base w w' :=
  (Below.refl _ _).grown hg hb (fun k hk => by
    rcases hown.2 with ⟨rfl, _⟩ | ⟨g, cap, cur, rfl, hg', _⟩
    · simp [Value.ownBlock] at hk
    · simp [Value.ownBlock] at hk; omega)
theorem flat_step (xs : List ByteArray) (j : Nat) (h : j < xs.length) : ((bss xs).take (j + 1)).flatten = ((bss xs).take j).flatten ++ bs xs[j] := by
  have hl : (bss xs).length = xs.length := by simp [bss]
  rw [List.take_succ_eq_append_getElem (show j < (bss xs).length by rw [hl]; exact h), List.flatten_append]
  simp [bss]
theorem flat_le (xs : List ByteArray) (j : Nat) : ((bss xs).take j).flatten.length ≤ total xs := by
  unfold total
  conv => rhs; rw [← List.take_append_drop j (bss xs)]
  rw [List.flatten_append, List.length_append]; omega
end Tx
end Go.Proofs.YtjecfmbecgpbmaaGreatDoor
