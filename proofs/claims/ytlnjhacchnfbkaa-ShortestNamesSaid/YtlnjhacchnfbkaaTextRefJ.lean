/-
  Walks of the reference of layer 2: List, All, Join. Conditions: the list has at most 4096 elements of together at most 2^20 bytes.
-/
import Derived.Test.YtlnjhacchnfbkaaTextRef
import Derived.Lib.AppendStr
namespace Go.Proofs.Ytlnjhacchnfbkaa
open Go.RowKit
namespace Tx
theorem below_drewN {n : Nat} {w w' : World} (h : Below n w w') (m : Nat) : Below n w (w'.drewN m) := by
  induction m with
  | zero => exact h
  | succ m ih => exact ih.drew
theorem q_same {P : Program} {f : FuncId} {args : Array Value} {v : Value} {g : Nat → World} {n : Nat} (h : Calls P f args (g n) fun e w' => e = .returned v ∧ g n = w') : Calls P f args (g n) fun e w'' => e = .returned v ∧ ∃ m, w'' = g m :=
  h.mono fun _ _ ⟨he, hm⟩ => ⟨he, n, hm.symm⟩
/-- The strings as lists of bytes. -/
abbrev bss (xs : List ByteArray) : List (List UInt8) := xs.map bs
def total (xs : List ByteArray) : Nat := (bss xs).flatten.length
theorem isListF_step (xs : List ByteArray) (i : Nat) (h : i < xs.length) : isListF ((bss xs).drop i) = (isLine (bs xs[i]) && (decide (i + 1 = xs.length) || endedF (bs xs[i])) && isListF ((bss xs).drop (i + 1))) := by
  have hl : (bss xs).length = xs.length := by simp [bss]
  rw [List.drop_eq_getElem_cons (show i < (bss xs).length by rw [hl]; exact h), isListF_cons]
  have e1 : ((bss xs).drop (i + 1)).isEmpty = decide (i + 1 = xs.length) := by
    rw [Bool.eq_iff_iff, List.isEmpty_iff, List.drop_eq_nil_iff, hl, decide_eq_true_eq]; omega
  have e2 : (bss xs)[i]'(by rw [hl]; exact h) = bs xs[i] := by simp [bss]
  rw [e1, e2]
theorem isListF_end (xs : List ByteArray) (i : Nat) (h : xs.length ≤ i) : isListF ((bss xs).drop i) = true := by
  rw [List.drop_of_length_le (by simp [bss]; exact h)]; rfl
/-- A line feed before the last byte. -/
theorem isLine_lf (x : ByteArray) (k : Nat) (h : k + 1 < x.size) (hb : x[k]'(by omega) = 10) : isLine (bs x) = false := by
  unfold isLine
  have hm : (10 : UInt8) ∈ (bs x).dropLast := by
    rw [List.mem_iff_getElem?]
    refine ⟨k, ?_⟩
    rw [List.getElem?_dropLast, if_pos (by rw [bs_len]; omega), bs_get? x k (by omega), hb]
  rw [List.contains_iff_mem.2 hm]; simp
theorem isLine_no (x : ByteArray) (h : ∀ j, j + 1 < x.size → (bs x)[j]? ≠ some 10) : isLine (bs x) = !(bs x).isEmpty := by
  unfold isLine
  have : (bs x).dropLast.contains 10 = false := by
    rw [Bool.eq_false_iff]
    intro hc
    obtain ⟨j, hj⟩ := List.mem_iff_getElem?.1 (List.contains_iff_mem.1 hc)
    rw [List.getElem?_dropLast] at hj
    split at hj
    · rename_i h1; rw [bs_len] at h1; exact h j (by omega) hj
    · cases hj
  rw [this]; simp
abbrev byteV (b : UInt8) : Value := .int .u8 (b.toNat : Int)
def bytesV (l : List UInt8) : List Value := l.map byteV
theorem bytesV_append (a b : List UInt8) : bytesV (a ++ b) = bytesV a ++ bytesV b := by simp [bytesV]
theorem bytesV_len (a : List UInt8) : (bytesV a).length = a.length := by simp [bytesV]
theorem info_u8 : (Try.prog.info? 5).map (fun i => (i.zero, i.size, i.bytes)) = some (some (.int .u8 0), 1, 1) := by kernel_rfl
theorem below_of_append {w w' : World} {base : Nat} {v : Value} {n : Nat} {xs : List Value} (hown : w.ownsRow base 5 1 v n xs) (hg : w.grownBy w' v.ownBlock) (hb : base ≤ w.heap.size) : Below base w w' :=
  (Below.refl _ _).grown hg hb (fun k hk => by
    rcases hown.2 with ⟨rfl, _⟩ | ⟨g, cap, cur, rfl, hg', _⟩
    · simp [Value.ownBlock] at hk
    · simp [Value.ownBlock] at hk; omega)
theorem strCells_eq (s : ByteArray) : Lib.strCells s = bytesV (bs s) := rfl
theorem flat_step (xs : List ByteArray) (j : Nat) (h : j < xs.length) : ((bss xs).take (j + 1)).flatten = ((bss xs).take j).flatten ++ bs xs[j] := by
  have hl : (bss xs).length = xs.length := by simp [bss]
  rw [List.take_succ_eq_append_getElem (show j < (bss xs).length by rw [hl]; exact h), List.flatten_append]
  simp [bss]
theorem flat_le (xs : List ByteArray) (j : Nat) : ((bss xs).take j).flatten.length ≤ total xs := by
  unfold total
  conv => rhs; rw [← List.take_append_drop j (bss xs)]
  rw [List.flatten_append, List.length_append]; omega
theorem mem_le (xs : List ByteArray) : ∀ x ∈ xs, x.size ≤ total xs := by
  intro x hx
  unfold total
  have : bs x ∈ bss xs := List.mem_map_of_mem hx
  exact (List.sublist_flatten_of_mem this).length_le
/-- What Join leaves: the blob, or no blob and the error of a list that is none. -/
def JoinPost (w : World) (l : List (List UInt8)) (e : Ending) (w' : World) : Prop :=
  e = .returned (.tuple (if isListF l then #[.string ⟨l.flatten.toArray⟩, .int .i64 0] else #[.string ⟨#[]⟩, .int .i64 2])) ∧ Below w.heap.size w w'
end Tx
end Go.Proofs.Ytlnjhacchnfbkaa
