/-
  Sets of bytes as four words: Put, complement, Named of the reference of layer 4. No conditions.
-/
import Derived.Test.YtgadomcbaenodaaTextBase
import Derived.Laws.Bits64
namespace Go.Proofs.Ytgadomcbaenodaa
open Go.RowKit
namespace Rx
/-- The first n bits of word j of a set. -/
def wordN (m : Nat → Bool) (j : Nat) : Nat → Nat
  | 0 => 0
  | n + 1 => wordN m j n ||| (if m (64 * j + n) then 2 ^ n else 0)
def word (m : Nat → Bool) (j : Nat) : Nat := wordN m j 64
theorem wordN_lt (m : Nat → Bool) (j n : Nat) : wordN m j n < 2 ^ n := by
  induction n with
  | zero => exact Nat.one_pos
  | succ n ih =>
    unfold wordN
    refine Nat.or_lt_two_pow (Nat.lt_of_lt_of_le ih (Nat.pow_le_pow_right (by omega) (by omega))) ?_
    split
    · exact Nat.pow_lt_pow_right (by omega) (by omega)
    · exact Nat.two_pow_pos _
theorem word_lt (m : Nat → Bool) (j : Nat) : word m j < 18446744073709551616 := wordN_lt m j 64
theorem testBit_wordN (m : Nat → Bool) (j n b : Nat) : (wordN m j n).testBit b = (decide (b < n) && m (64 * j + b)) := by
  induction n with
  | zero => simp [wordN]
  | succ n ih =>
    unfold wordN
    rw [Nat.testBit_or, ih]
    by_cases hb : b = n
    · subst hb
      by_cases hm : m (64 * j + b) = true
      · simp [hm]
      · simp [hm]
    · have h1 : decide (b < n + 1) = decide (b < n) := by rw [decide_eq_decide]; omega
      rw [h1]
      split
      · rw [Nat.testBit_two_pow_of_ne (by omega)]; simp
      · simp
theorem testBit_word (m : Nat → Bool) (j b : Nat) : (word m j).testBit b = (decide (b < 64) && m (64 * j + b)) := testBit_wordN m j 64 b
theorem word_congr {m m' : Nat → Bool} {j : Nat} (h : ∀ b, b < 64 → m (64 * j + b) = m' (64 * j + b)) : word m j = word m' j := by
  apply Nat.eq_of_testBit_eq
  intro b
  rw [testBit_word, testBit_word]
  by_cases hb : b < 64
  · rw [h b hb]
  · simp [hb]
/-- One byte more. -/
def putM (m : Nat → Bool) (c : Nat) : Nat → Bool := fun x => x == c || m x
theorem word_put (m : Nat → Bool) (c j : Nat) : word (putM m c) j = if c / 64 = j then word m j ||| 2 ^ (c % 64) else word m j := by
  apply Nat.eq_of_testBit_eq
  intro b
  rw [testBit_word]
  split
  · rename_i hj
    rw [Nat.testBit_or, testBit_word, Nat.testBit_two_pow]
    unfold putM
    by_cases hb : b < 64
    · have h1 : (64 * j + b == c) = decide (c % 64 = b) := by
        rw [Bool.eq_iff_iff, beq_iff_eq, decide_eq_true_iff]; omega
      rw [h1]; simp [hb, Bool.or_comm]
    · have h1 : decide (c % 64 = b) = false := by rw [decide_eq_false_iff_not]; omega
      rw [h1]; simp [hb]
  · rename_i hj
    rw [testBit_word]
    unfold putM
    by_cases hb : b < 64
    · have h1 : (64 * j + b == c) = false := by rw [beq_eq_false_iff_ne]; omega
      rw [h1]; simp
    · simp [hb]
theorem word_not (m : Nat → Bool) (j : Nat) : word (fun x => !m x) j = 18446744073709551615 - word m j := by
  apply Nat.eq_of_testBit_eq
  intro b
  have h := Nat.testBit_two_pow_sub_succ (word_lt m j) b (n := 64)
  rw [show (18446744073709551615 : Nat) - word m j = 2 ^ 64 - (word m j + 1) from by have := word_lt m j; omega, h, testBit_word, testBit_word]
  by_cases hb : b < 64
  · simp [hb]
  · simp [hb]
theorem word_none (j : Nat) : word (fun _ => false) j = 0 := by
  apply Nat.eq_of_testBit_eq
  intro b
  rw [testBit_word]; simp
theorem bits_or_nat (a b : Nat) (ha : a < 18446744073709551616) (hb : b < 18446744073709551616) : bits .or .u64 (a : Int) (b : Int) = ((a ||| b : Nat) : Int) := by
  have hx : a ||| b < 2 ^ 64 := Nat.or_lt_two_pow (by omega) (by omega)
  have h1 : (BitVec.ofInt 64 (a : Int)).toNat = a := by
    rw [BitVec.ofInt_natCast, BitVec.toNat_ofNat]; exact Nat.mod_eq_of_lt (by omega)
  have h2 : (BitVec.ofInt 64 (b : Int)).toNat = b := by
    rw [BitVec.ofInt_natCast, BitVec.toNat_ofNat]; exact Nat.mod_eq_of_lt (by omega)
  show IntKind.u64.wrap ((BitVec.ofInt 64 (a : Int) ||| BitVec.ofInt 64 (b : Int)).toNat : Int) = _
  rw [BitVec.toNat_or, h1, h2, IntKind.wrap_u64]
  omega
/-- The four words of a set, as a value. -/
def setV (m : Nat → Bool) : Value := .agg #[.int .u64 (word m 0 : Nat), .int .u64 (word m 1 : Nat), .int .u64 (word m 2 : Nat), .int .u64 (word m 3 : Nat)]
/-- A word with one bit more, as the walk spells it. -/
theorem or_walk (a k : Nat) (ha : a < 18446744073709551616) (hk : k < 64) : bits .or .u64 (a : Int) (IntKind.u64.wrap ((2 : Int) ^ k)) = ((a ||| 2 ^ k : Nat) : Int) := by
  have h2 : 2 ^ k < 18446744073709551616 := Nat.pow_lt_pow_right (a := 2) (by omega) hk
  have e : IntKind.u64.wrap ((2 : Int) ^ k) = ((2 ^ k : Nat) : Int) := by
    rw [IntKind.wrap_u64]
    rw [show (2 : Int) ^ k = ((2 ^ k : Nat) : Int) from by simp]
    exact Int.emod_eq_of_lt (Int.natCast_nonneg _) (Int.ofNat_lt.2 h2)
  rw [e]
  exact bits_or_nat _ _ ha h2
theorem put_ne {m : Nat → Bool} {c j : Nat} (h : c / 64 ≠ j) : word (putM m c) j = word m j := by rw [word_put, if_neg h]
theorem put_eq {m : Nat → Bool} {c j : Nat} (h : c / 64 = j) : word (putM m c) j = word m j ||| 2 ^ (c % 64) := by rw [word_put, if_pos h]
set_option maxRecDepth 100000 in
set_option maxHeartbeats 1000000 in
theorem Put_any (m : Nat → Bool) (x : UInt8) (w : World) :
    Calls Try.prog 14 #[setV m, .int .u8 (x.toNat : Int)] w fun e w' => e = .returned (setV (putM m x.toNat)) ∧ Below w.heap.size w w' := by
  unfold setV
  have hx := x.toNat_lt
  have hor := fun j => or_walk (word m j) (x.toNat % 64) (word_lt m j) (by omega)
  generalize x.toNat = n at hx hor
  have hx2 : (n : Int) < 256 := by omega
  have h0 : (0 : Int) ≤ (n : Int) := by omega
  have hc : n / 64 = 0 ∨ n / 64 = 1 ∨ n / 64 = 2 ∨ n / 64 = 3 := by omega
  rcases hc with h | h | h | h
  · have hV : Hid ((word (putM m n) 0 : Int) = ((word m 0 ||| 2 ^ (n % 64) : Nat) : Int) ∧ word (putM m n) 1 = word m 1 ∧ word (putM m n) 2 = word m 2 ∧ word (putM m n) 3 = word m 3) := Lib.hid ⟨by rw [put_eq h], put_ne (by omega), put_ne (by omega), put_ne (by omega)⟩
    have HO := Lib.hid (hor 0)
    have e1 : (n : Int) / 64 = 0 := by omega
    clear hor h hx
    generalize word m 0 = a at hV HO
    generalize word m 1 = b at hV
    generalize word m 2 = c at hV
    generalize word m 3 = d at hV
    go_enter Try.func14, Try.ntmps14
    go_wp2_with fail
    try simp only [Exit.inBlock, Exit.then]
    apply bodyPost_ret
    · exact results_cell_row (p := 4) rfl _ _ _ _ _ _ _ rfl (heap_alloc2_new _ _ _) Try.underlying45 rfl (by kernel_rfl)
    · rfl
    refine ⟨?_, ((Below.refl _ _).alloc (Nat.le_refl _) _).alloc (by simp) _⟩
    rw [HO.out, hV.out.1, hV.out.2.1, hV.out.2.2.1, hV.out.2.2.2]
  · have hV : Hid ((word (putM m n) 1 : Int) = ((word m 1 ||| 2 ^ (n % 64) : Nat) : Int) ∧ word (putM m n) 0 = word m 0 ∧ word (putM m n) 2 = word m 2 ∧ word (putM m n) 3 = word m 3) := Lib.hid ⟨by rw [put_eq h], put_ne (by omega), put_ne (by omega), put_ne (by omega)⟩
    have HO := Lib.hid (hor 1)
    have e1 : (n : Int) / 64 = 1 := by omega
    clear hor h hx
    generalize word m 0 = a at hV
    generalize word m 1 = b at hV HO
    generalize word m 2 = c at hV
    generalize word m 3 = d at hV
    go_enter Try.func14, Try.ntmps14
    go_wp2_with fail
    try simp only [Exit.inBlock, Exit.then]
    apply bodyPost_ret
    · exact results_cell_row (p := 4) rfl _ _ _ _ _ _ _ rfl (heap_alloc2_new _ _ _) Try.underlying45 rfl (by kernel_rfl)
    · rfl
    refine ⟨?_, ((Below.refl _ _).alloc (Nat.le_refl _) _).alloc (by simp) _⟩
    rw [HO.out, hV.out.1, hV.out.2.1, hV.out.2.2.1, hV.out.2.2.2]
  · have hV : Hid ((word (putM m n) 2 : Int) = ((word m 2 ||| 2 ^ (n % 64) : Nat) : Int) ∧ word (putM m n) 0 = word m 0 ∧ word (putM m n) 1 = word m 1 ∧ word (putM m n) 3 = word m 3) := Lib.hid ⟨by rw [put_eq h], put_ne (by omega), put_ne (by omega), put_ne (by omega)⟩
    have HO := Lib.hid (hor 2)
    have e1 : (n : Int) / 64 = 2 := by omega
    clear hor h hx
    generalize word m 0 = a at hV
    generalize word m 1 = b at hV
    generalize word m 2 = c at hV HO
    generalize word m 3 = d at hV
    go_enter Try.func14, Try.ntmps14
    go_wp2_with fail
    try simp only [Exit.inBlock, Exit.then]
    apply bodyPost_ret
    · exact results_cell_row (p := 4) rfl _ _ _ _ _ _ _ rfl (heap_alloc2_new _ _ _) Try.underlying45 rfl (by kernel_rfl)
    · rfl
    refine ⟨?_, ((Below.refl _ _).alloc (Nat.le_refl _) _).alloc (by simp) _⟩
    rw [HO.out, hV.out.1, hV.out.2.1, hV.out.2.2.1, hV.out.2.2.2]
  · have hV : Hid ((word (putM m n) 3 : Int) = ((word m 3 ||| 2 ^ (n % 64) : Nat) : Int) ∧ word (putM m n) 0 = word m 0 ∧ word (putM m n) 1 = word m 1 ∧ word (putM m n) 2 = word m 2) := Lib.hid ⟨by rw [put_eq h], put_ne (by omega), put_ne (by omega), put_ne (by omega)⟩
    have HO := Lib.hid (hor 3)
    have e1 : (n : Int) / 64 = 3 := by omega
    clear hor h hx
    generalize word m 0 = a at hV
    generalize word m 1 = b at hV
    generalize word m 2 = c at hV
    generalize word m 3 = d at hV HO
    go_enter Try.func14, Try.ntmps14
    go_wp2_with fail
    try simp only [Exit.inBlock, Exit.then]
    apply bodyPost_ret
    · exact results_cell_row (p := 4) rfl _ _ _ _ _ _ _ rfl (heap_alloc2_new _ _ _) Try.underlying45 rfl (by kernel_rfl)
    · rfl
    refine ⟨?_, ((Below.refl _ _).alloc (Nat.le_refl _) _).alloc (by simp) _⟩
    rw [HO.out, hV.out.1, hV.out.2.1, hV.out.2.2.1, hV.out.2.2.2]
theorem not_walk (a : Nat) (ha : a < 18446744073709551616) : bits .xor .u64 IntKind.u64.max (a : Int) = ((18446744073709551615 - a : Nat) : Int) := by
  have e : IntKind.u64.max = ((18446744073709551615 : Nat) : Int) := by decide
  rw [e, bits_xor_u64_nat _ _ (by omega) ha]
  congr 1
  apply Nat.eq_of_testBit_eq
  intro b
  have h := Nat.testBit_two_pow_sub_succ (n := 64) (x := a) ha b
  rw [show (18446744073709551615 : Nat) - a = 2 ^ 64 - (a + 1) from by omega, h, Nat.testBit_xor, show (18446744073709551615 : Nat) = 2 ^ 64 - 1 from rfl, Nat.testBit_two_pow_sub_one]
  by_cases hb : b < 64
  · simp [hb]
  · have hz : a.testBit b = false := Nat.testBit_lt_two_pow (Nat.lt_of_lt_of_le ha (Nat.pow_le_pow_right (n := 2) (i := 64) (by omega) (by omega)))
    simp [hb, hz]
def letterF (n : Nat) : Bool := (decide (97 ≤ n) && decide (n ≤ 122)) || (decide (65 ≤ n) && decide (n ≤ 90))
def digitF (n : Nat) : Bool := decide (48 ≤ n) && decide (n ≤ 57)
theorem ret_bool {a b : Bool} (h : a = b) : Ending.returned (.bool a) = .returned (.bool b) := by rw [h]
def clsF (l : List UInt8) : Option (Nat → Bool) :=
  if l = [97, 108, 112, 104, 97] then some letterF
  else if l = [100, 105, 103, 105, 116] then some digitF
  else if l = [97, 108, 110, 117, 109] then some (fun n => letterF n || digitF n)
  else if l = [117, 112, 112, 101, 114] then some (fun n => letterF n && decide (n ≤ 90))
  else if l = [108, 111, 119, 101, 114] then some (fun n => letterF n && decide (97 ≤ n))
  else if l = [115, 112, 97, 99, 101] then some (fun n => (decide (9 ≤ n) && decide (n ≤ 13)) || decide (n = 32))
  else if l = [112, 117, 110, 99, 116] then some (fun n => ((decide (33 ≤ n) && decide (n ≤ 126)) && !letterF n) && !digitF n)
  else none
def clsV (l : List UInt8) (n : Nat) : Value := match clsF l with | some p => .tuple #[.bool (p n), .bool true] | none => .tuple #[.bool false, .bool false]
theorem clsV_some {l : List UInt8} {p : Nat → Bool} (h : clsF l = some p) (n : Nat) : clsV l n = .tuple #[.bool (p n), .bool true] := by unfold clsV; rw [h]
theorem clsV_none {l : List UInt8} (h : clsF l = none) (n : Nat) : clsV l n = .tuple #[.bool false, .bool false] := by unfold clsV; rw [h]
theorem toList_T {s : ByteArray} {l : List UInt8} (h : Tx.bs s = l) : (s.toList == l) = true := by rw [← h, ByteArray.toList_eq]; exact beq_self_eq_true _
theorem toList_F {s : ByteArray} {l : List UInt8} (h : Tx.bs s ≠ l) : (s.toList == l) = false := by
  rw [beq_eq_false_iff_ne, ByteArray.toList_eq]; exact h
theorem ret_two {a b c d : Bool} (h : a = b) (h' : c = d) : Ending.returned (.tuple #[.bool a, .bool c]) = .returned (.tuple #[.bool b, .bool d]) := by rw [h, h']
end Rx
end Go.Proofs.Ytgadomcbaenodaa
