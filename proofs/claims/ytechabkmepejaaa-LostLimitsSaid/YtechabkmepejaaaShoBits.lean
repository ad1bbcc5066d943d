/-
  Sets of lines as words of 64 bits: and, and-not, or, the sum with its carry. No conditions.
-/
import Derived.Test.YtechabkmepejaaaShoMath
import Derived.Laws.Bits64
namespace Go.Proofs.Ytechabkmepejaaa
open Go.RowKit
namespace Sh
/-- The first n bits of word j of a set. -/
def wordN (m : Nat → Bool) (j : Nat) : Nat → Nat
  | 0 => 0
  | n + 1 => wordN m j n ||| (if m (64 * j + n) then 2 ^ n else 0)
def word (m : Nat → Bool) (j : Nat) : Nat := wordN m j 64
theorem wordN_lt (m : Nat → Bool) (j n : Nat) : wordN m j n < 2 ^ n := by
  induction n with
  | zero => exact Nat.one_pos
  | succ n ih =>
    unfold wordN
    refine Nat.or_lt_two_pow (Nat.lt_of_lt_of_le ih (Nat.pow_le_pow_right (by omega) (by omega))) ?_
    split
    · exact Nat.pow_lt_pow_right (by omega) (by omega)
    · exact Nat.two_pow_pos _
theorem word_lt (m : Nat → Bool) (j : Nat) : word m j < 18446744073709551616 := wordN_lt m j 64
theorem testBit_wordN (m : Nat → Bool) (j n b : Nat) : (wordN m j n).testBit b = (decide (b < n) && m (64 * j + b)) := by
  induction n with
  | zero => simp [wordN]
  | succ n ih =>
    unfold wordN
    rw [Nat.testBit_or, ih]
    by_cases hb : b = n
    · subst hb
      by_cases hm : m (64 * j + b) = true
      · simp [hm]
      · simp [hm]
    · have h1 : decide (b < n + 1) = decide (b < n) := by rw [decide_eq_decide]; omega
      rw [h1]
      split
      · rw [Nat.testBit_two_pow_of_ne (by omega)]; simp
      · simp
theorem testBit_word (m : Nat → Bool) (j b : Nat) : (word m j).testBit b = (decide (b < 64) && m (64 * j + b)) := testBit_wordN m j 64 b
theorem word_ext {m : Nat → Bool} {j x : Nat} (hx : x < 18446744073709551616) (h : ∀ b, b < 64 → x.testBit b = m (64 * j + b)) : x = word m j := by
  apply Nat.eq_of_testBit_eq
  intro b
  rw [testBit_word]
  by_cases hb : b < 64
  · rw [h b hb]; simp [hb]
  · rw [Nat.testBit_lt_two_pow (Nat.lt_of_lt_of_le hx (Nat.pow_le_pow_right (n := 2) (by omega) (show 64 ≤ b from by omega)))]; simp [hb]
theorem word_congr {m m' : Nat → Bool} {j : Nat} (h : ∀ b, b < 64 → m (64 * j + b) = m' (64 * j + b)) : word m j = word m' j :=
  word_ext (word_lt m j) fun b hb => by rw [testBit_word, ← h b hb]; simp [hb]
theorem word_all (j : Nat) : word (fun _ => true) j = 18446744073709551615 := by
  refine (word_ext (by omega) fun b hb => ?_).symm
  have h := Nat.testBit_two_pow_sub_one 64 b
  rw [show (2 : Nat) ^ 64 - 1 = 18446744073709551615 from rfl] at h
  rw [h]; simp [hb]
theorem word_none (j : Nat) : word (fun _ => false) j = 0 := (word_ext (by omega) fun b hb => by simp).symm
/-- One line more. -/
def putM (m : Nat → Bool) (c : Nat) : Nat → Bool := fun x => x == c || m x
theorem word_put (m : Nat → Bool) (c j : Nat) : word (putM m c) j = if c / 64 = j then word m j ||| 2 ^ (c % 64) else word m j := by
  apply Nat.eq_of_testBit_eq
  intro b
  rw [testBit_word]
  split
  · rename_i hj
    rw [Nat.testBit_or, testBit_word, Nat.testBit_two_pow]
    unfold putM
    by_cases hb : b < 64
    · have h1 : (64 * j + b == c) = decide (c % 64 = b) := by
        rw [Bool.eq_iff_iff, beq_iff_eq, decide_eq_true_iff]; omega
      rw [h1]; simp [hb, Bool.or_comm]
    · have h1 : decide (c % 64 = b) = false := by rw [decide_eq_false_iff_not]; omega
      rw [h1]; simp [hb]
  · rename_i hj
    rw [testBit_word]
    unfold putM
    by_cases hb : b < 64
    · have h1 : (64 * j + b == c) = false := by rw [beq_eq_false_iff_ne]; omega
      rw [h1]; simp
    · simp [hb]
theorem wrap_u (x : Nat) (h : x < 18446744073709551616) : IntKind.u64.wrap (x : Int) = (x : Int) := by
  rw [IntKind.wrap_u64]; exact Int.emod_eq_of_lt (Int.natCast_nonneg _) (Int.ofNat_lt.2 h)
theorem ofInt_toNat (a : Nat) (ha : a < 18446744073709551616) : (BitVec.ofInt 64 (a : Int)).toNat = a := by
  rw [BitVec.ofInt_natCast, BitVec.toNat_ofNat]; exact Nat.mod_eq_of_lt (by omega)
theorem bits_or (a b : Nat) (ha : a < 18446744073709551616) (hb : b < 18446744073709551616) : bits .or .u64 (a : Int) (b : Int) = ((a ||| b : Nat) : Int) := by
  show IntKind.u64.wrap ((BitVec.ofInt 64 (a : Int) ||| BitVec.ofInt 64 (b : Int)).toNat : Int) = _
  rw [BitVec.toNat_or, ofInt_toNat a ha, ofInt_toNat b hb]
  exact wrap_u _ (Nat.or_lt_two_pow (n := 64) ha hb)
theorem bits_and (a b : Nat) (ha : a < 18446744073709551616) (hb : b < 18446744073709551616) : bits .and .u64 (a : Int) (b : Int) = ((a &&& b : Nat) : Int) := by
  show IntKind.u64.wrap ((BitVec.ofInt 64 (a : Int) &&& BitVec.ofInt 64 (b : Int)).toNat : Int) = _
  rw [BitVec.toNat_and, ofInt_toNat a ha, ofInt_toNat b hb]
  exact wrap_u _ (Nat.and_lt_two_pow (n := 64) a hb)
theorem word_or (m m' : Nat → Bool) (j : Nat) : bits .or .u64 (word m j : Int) (word m' j : Int) = (word (fun p => m p || m' p) j : Int) := by
  rw [bits_or _ _ (word_lt m j) (word_lt m' j)]
  exact congrArg Nat.cast (word_ext (Nat.or_lt_two_pow (n := 64) (word_lt m j) (word_lt m' j)) fun b hb => by rw [Nat.testBit_or, testBit_word, testBit_word]; simp [hb])
theorem word_and (m m' : Nat → Bool) (j : Nat) : bits .and .u64 (word m j : Int) (word m' j : Int) = (word (fun p => m p && m' p) j : Int) := by
  rw [bits_and _ _ (word_lt m j) (word_lt m' j)]
  exact congrArg Nat.cast (word_ext (Nat.and_lt_two_pow (n := 64) _ (word_lt m' j)) fun b hb => by rw [Nat.testBit_and, testBit_word, testBit_word]; simp [hb])
theorem word_andNot (m m' : Nat → Bool) (j : Nat) : bits .andNot .u64 (word m j : Int) (word m' j : Int) = (word (fun p => m p && !m' p) j : Int) := by
  show IntKind.u64.wrap ((BitVec.ofInt 64 (word m j : Int) &&& ~~~(BitVec.ofInt 64 (word m' j : Int))).toNat : Int) = _
  rw [wrap_u _ (BitVec.isLt _)]
  refine congrArg Nat.cast (word_ext (BitVec.isLt _) fun b hb => ?_)
  rw [BitVec.testBit_toNat, BitVec.getLsbD_and, BitVec.getLsbD_not, ← BitVec.testBit_toNat, ← BitVec.testBit_toNat, ofInt_toNat _ (word_lt m j), ofInt_toNat _ (word_lt m' j), testBit_word, testBit_word]
  simp [hb]
/-- A line's bit in a word. -/
theorem bit_walk (m : Nat → Bool) (p : Nat) : (bits .and .u64 (word m (p / 64) : Int) ((2 ^ (p % 64) : Nat) : Int) != 0) = m p := by
  have h2 : 2 ^ (p % 64) < 18446744073709551616 := Nat.pow_lt_pow_right (a := 2) (by omega) (show p % 64 < 64 from by omega)
  rw [bits_and _ _ (word_lt _ _) h2]
  have hm : word m (p / 64) &&& 2 ^ (p % 64) = if m p then 2 ^ (p % 64) else 0 := by
    apply Nat.eq_of_testBit_eq
    intro b
    rw [Nat.testBit_and, testBit_word, Nat.testBit_two_pow]
    by_cases hb : p % 64 = b
    · subst hb
      have e : 64 * (p / 64) + p % 64 = p := by omega
      rw [e]
      have hl : p % 64 < 64 := by omega
      cases hmp : m p <;> simp [hl]
    · have h1 : decide (p % 64 = b) = false := by simpa using hb
      rw [h1, Bool.and_false]
      split
      · rw [Nat.testBit_two_pow_of_ne hb]
      · simp
  rw [hm]
  have h3 := Nat.two_pow_pos (p % 64)
  cases hmp : m p
  · simp
  · simp only [if_true]
    rw [bne_iff_ne]
    omega
theorem or_walk (a k : Nat) (ha : a < 18446744073709551616) (hk : k < 64) : bits .or .u64 (a : Int) ((2 ^ k : Nat) : Int) = ((a ||| 2 ^ k : Nat) : Int) :=
  bits_or _ _ ha (Nat.pow_lt_pow_right (a := 2) (by omega) hk)
/-! ### the sum with its carry -/
def smB (V M : Nat → Bool) (p : Nat) : Bool := V p ^^ ((V p && M p) ^^ cr V M p)
theorem nx_eq (V M : Nat → Bool) : (fun p => smB V M p || (V p && !M p)) = nx V M := rfl
theorem carry_cr (V M : Nat → Bool) (i : Nat) : ∀ b, b ≤ 64 → BitVec.carry b (BitVec.ofNat 64 (word V i)) (BitVec.ofNat 64 (word (fun p => V p && M p) i)) (cr V M (64 * i)) = cr V M (64 * i + b)
  | 0, _ => BitVec.carry_zero
  | b + 1, h => by
    rw [BitVec.carry_succ, carry_cr V M i b (by omega), BitVec.getLsbD_ofNat, BitVec.getLsbD_ofNat, testBit_word, testBit_word]
    have h1 : b < 64 := by omega
    simp only [h1, decide_true, Bool.true_and]
    rfl
theorem sum_word (V M : Nat → Bool) (i : Nat) : (word V i + word (fun p => V p && M p) i + (cr V M (64 * i)).toNat) % 18446744073709551616 = word (smB V M) i ∧ (word V i + word (fun p => V p && M p) i + (cr V M (64 * i)).toNat) / 18446744073709551616 = (cr V M (64 * (i + 1))).toNat := by
  have h1 := word_lt V i
  have h2 := word_lt (fun p => V p && M p) i
  have h3 : (cr V M (64 * i)).toNat ≤ 1 := by cases cr V M (64 * i) <;> simp
  constructor
  · refine word_ext (Nat.mod_lt _ (by omega)) fun b hb => ?_
    have h := BitVec.getLsbD_add_add_bool hb (BitVec.ofNat 64 (word V i)) (BitVec.ofNat 64 (word (fun p => V p && M p) i)) (cr V M (64 * i))
    rw [carry_cr V M i b (by omega), BitVec.getLsbD_ofNat, BitVec.getLsbD_ofNat, testBit_word, testBit_word, ← BitVec.testBit_toNat] at h
    have e : (BitVec.ofNat 64 (word V i) + BitVec.ofNat 64 (word (fun p => V p && M p) i) + BitVec.setWidth 64 (BitVec.ofBool (cr V M (64 * i)))).toNat = (word V i + word (fun p => V p && M p) i + (cr V M (64 * i)).toNat) % 18446744073709551616 := by
      rw [BitVec.toNat_add, BitVec.toNat_add, BitVec.toNat_ofNat, BitVec.toNat_ofNat, BitVec.toNat_setWidth, BitVec.toNat_ofBool]
      omega
    rw [e] at h
    rw [h]
    simp only [hb, decide_true, Bool.true_and]
    rfl
  · have h := carry_cr V M i 64 (Nat.le_refl _)
    unfold BitVec.carry at h
    rw [BitVec.toNat_ofNat, BitVec.toNat_ofNat] at h
    rw [show 64 * (i + 1) = 64 * i + 64 from by omega, ← h]
    generalize word V i = x at *
    generalize word (fun p => V p && M p) i = y at *
    generalize (cr V M (64 * i)).toNat = c at *
    by_cases hc : 18446744073709551616 ≤ x + y + c
    · have : decide (x % 2 ^ 64 % 2 ^ 64 + y % 2 ^ 64 % 2 ^ 64 + c ≥ 2 ^ 64) = true := by rw [decide_eq_true_iff]; omega
      rw [this]; simp only [Bool.toNat_true]; omega
    · have : decide (x % 2 ^ 64 % 2 ^ 64 + y % 2 ^ 64 % 2 ^ 64 + c ≥ 2 ^ 64) = false := by rw [decide_eq_false_iff_not]; omega
      rw [this]; simp only [Bool.toNat_false]; omega
/-- The words of a set, as values. -/
def wordsV (m : Nat → Bool) (n : Nat) : List Value := (List.range n).map fun i => .int .u64 (word m i : Int)
theorem wordsV_len (m : Nat → Bool) (n : Nat) : (wordsV m n).length = n := by simp [wordsV]
theorem wordsV_get {m : Nat → Bool} {n i : Nat} (h : i < (wordsV m n).length) : (wordsV m n)[i] = .int .u64 (word m i : Int) := by simp [wordsV]
theorem wordsV_congr {m m' : Nat → Bool} {n : Nat} (h : ∀ i, i < n → word m i = word m' i) : wordsV m n = wordsV m' n := List.map_congr_left fun i hi => by rw [h i (List.mem_range.1 hi)]
theorem wordsV_none (n : Nat) : wordsV (fun _ => false) n = List.replicate n (.int .u64 0) := by
  refine List.ext_getElem (by simp [wordsV]) fun i h1 h2 => ?_
  rw [wordsV_get, word_none, List.getElem_replicate]; rfl
theorem wordsV_all (n : Nat) : wordsV (fun _ => true) n = List.replicate n (.int .u64 18446744073709551615) := by
  refine List.ext_getElem (by simp [wordsV]) fun i h1 h2 => ?_
  rw [wordsV_get, word_all, List.getElem_replicate]; rfl
theorem wordsV_put (m : Nat → Bool) (c n : Nat) : wordsV (putM m c) n = (wordsV m n).set (c / 64) (.int .u64 ((word m (c / 64) ||| 2 ^ (c % 64) : Nat) : Int)) := by
  refine List.ext_getElem (by simp [wordsV]) fun i h1 h2 => ?_
  rw [List.getElem_set, wordsV_get, wordsV_get, word_put]
  by_cases e : c / 64 = i
  · subst e; rw [if_pos rfl, if_pos rfl]
  · rw [if_neg e, if_neg e]
end Sh
end Go.Proofs.Ytechabkmepejaaa
