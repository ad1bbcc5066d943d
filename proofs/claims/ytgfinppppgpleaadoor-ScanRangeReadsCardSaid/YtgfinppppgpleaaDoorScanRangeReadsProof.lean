/-
  Proved: the law ScanRangeReads of layer 1 returns true for every start, count and text, and its arguments read as before. Conditions: the package variables hold what the program's text lays (the card ties that).
-/
import Derived.Test.YtgfinppppgpleaaDoorScanRange
import Derived.Test.YtgfinppppgpleaaDoorScanMod
import Derived.Test.YtgfinppppgpleaaDoorScanMathB
import Derived.Test.YtgfinppppgpleaaDoorScanFrame
import Derived.Test.YtgfinppppgpleaaDoorScanAwake
import Derived.Test.YtgfinppppgpleaaDoorCards
import Derived.Test.YtgfinppppgpleaaDoorTie
import Derived.SevenTiedAt
namespace Go.Proofs.YtgfinppppgpleaaDoor
open Go.ChangeShapes Go.WideShapes Go.ChangeAt Go.RowKit
open Go.ChangeMaps (open_string shut_string)
namespace Sc.RangeReads

theorem bs_append (a b : ByteArray) : bs (a ++ b) = bs a ++ bs b := by simp [bs]
theorem fmtF_nat (n : Nat) (h : n ≤ 2147483647) : fmtF (n : Int) = Lib.decDigits n := by rw [fmtF_in _ (by omega) (by omega), Lib.itoa_nonneg]
theorem rngF_0 (l : List UInt8) : rngF l 0 = rngAt l 0 := by unfold rngF; rw [if_neg (by omega)]; rfl
theorem rngAt_plain (l : List UInt8) (first e : Nat) (h1 : numAt l 0 = some (first, e)) (h2 : ¬ l[e]? = some 44) : rngAt l 0 = chkR l 0 first 1 e := by unfold rngAt; rw [h1]; simp only [if_neg h2]
theorem rngAt_comma (l : List UInt8) (first e c e2 : Nat) (h1 : numAt l 0 = some (first, e)) (h2 : l[e]? = some 44) (h3 : numAt l (e + 1) = some (c, e2)) : rngAt l 0 = chkR l 0 first c e2 := by unfold rngAt; rw [h1]; simp only [if_pos h2, h3]
theorem chk_ok (l : List UInt8) (first c e : Nat) (a : Int) (ha : a = if 0 < c then (first : Int) - 1 else first) (h : fmtR a c = l.take e) : chkR l 0 first c e = some (a, c, e) := by
  unfold chkR
  rw [← ha, List.drop_zero, Nat.sub_zero, if_pos h]
/-- A written range is read back. -/
theorem rng_reads (a c : Nat) (r : List UInt8) (ha : a ≤ 1073741823) (hc : c ≤ 1073741823) (hr : ∀ b, r.head? = some b → isDig b = false ∧ b ≠ 44) :
    rngF (fmtR a c ++ r) 0 = some ((a : Int), c, (fmtR a c).length) := by
  rw [rngF_0]
  have hd : ∀ b, r.head? = some b → isDig b = false := fun b hb => (hr b hb).1
  have h44 : ∀ (m : List UInt8), ¬ (m ++ r)[m.length]? = some 44 := by
    intro m h
    rw [List.getElem?_append_right (Nat.le_refl _), Nat.sub_self, ← List.head?_eq_getElem?] at h
    exact (hr 44 h).2 rfl
  rcases Nat.eq_zero_or_pos c with h0 | hpos
  · subst h0
    have hf : fmtR a ((0 : Nat) : Int) = Lib.decDigits a ++ [44, 48] := by
      show fmtR a 0 = _
      rw [fmtR_0 _ (by omega) (by omega), fmtF_nat a (by omega)]
    rw [hf]
    have e1 : numAt ([] ++ Lib.decDigits a ++ (44 :: 48 :: r)) ([] : List UInt8).length = _ := numAt_reads [] (44 :: 48 :: r) a (by unfold maxNum; omega) (by intro b hb; have : b = 44 := (Option.some.inj hb).symm; subst this; decide)
    have e2 := numAt_reads (Lib.decDigits a ++ [44]) r 0 (by decide) hd
    have z0 : Lib.decDigits 0 = [48] := Lib.decDigits_one (by decide)
    rw [z0] at e2
    simp only [List.nil_append, List.length_nil, Nat.zero_add, List.append_assoc, List.cons_append, List.length_append, List.length_cons] at e1 e2 ⊢
    rw [rngAt_comma _ a _ 0 _ e1 ?_ e2, chk_ok _ a 0 _ (a : Int) rfl ?_]
    · rw [show ((0 : Nat) : Int) = 0 from rfl] at hf
      show fmtR a 0 = _
      rw [hf, show Lib.decDigits a ++ 44 :: 48 :: r = (Lib.decDigits a ++ [44, 48]) ++ r by simp, List.take_left' (by simp)]
    · rw [List.getElem?_append_right (Nat.le_refl _), Nat.sub_self]; rfl
  · by_cases h1 : c = 1
    · subst h1
      have hf : fmtR a ((1 : Nat) : Int) = Lib.decDigits (a + 1) := by
        show fmtR a 1 = _
        rw [fmtR_1 _ (by omega) (by omega), show (a : Int) + 1 = ((a + 1 : Nat) : Int) from rfl, fmtF_nat (a + 1) (by omega)]
      rw [hf]
      have e1 := numAt_reads [] r (a + 1) (by unfold maxNum; omega) hd
      simp only [List.nil_append, List.length_nil, Nat.zero_add] at e1
      rw [rngAt_plain _ (a + 1) _ e1 (h44 _), chk_ok _ (a + 1) 1 _ (a : Int) (by rw [if_pos (by decide)]; omega) (by rw [hf, List.take_left])]
    · have hf : fmtR a (c : Int) = Lib.decDigits (a + 1) ++ [44] ++ Lib.decDigits c := by
        rw [fmtR_n _ _ (by omega) (by omega) (by omega), show (a : Int) + 1 = ((a + 1 : Nat) : Int) from rfl, fmtF_nat (a + 1) (by omega), fmtF_nat c (by omega)]
      have e1 := numAt_reads [] (44 :: (Lib.decDigits c ++ r)) (a + 1) (by unfold maxNum; omega) (by intro b hb; have : b = 44 := (Option.some.inj hb).symm; subst this; decide)
      have e2 := numAt_reads (Lib.decDigits (a + 1) ++ [44]) r c (by unfold maxNum; omega) hd
      have hl : fmtR a (c : Int) ++ r = Lib.decDigits (a + 1) ++ 44 :: (Lib.decDigits c ++ r) := by rw [hf]; simp
      have hl2 : Lib.decDigits (a + 1) ++ [44] ++ Lib.decDigits c ++ r = Lib.decDigits (a + 1) ++ 44 :: (Lib.decDigits c ++ r) := by simp
      simp only [List.nil_append, List.length_nil, Nat.zero_add] at e1
      rw [hl2] at e2
      have hlen : (Lib.decDigits (a + 1) ++ [44]).length = (Lib.decDigits (a + 1)).length + 1 := by simp
      have hlen2 : (Lib.decDigits (a + 1) ++ [44]).length + (Lib.decDigits c).length = (fmtR a (c : Int)).length := by rw [hf]; simp only [List.length_append, List.length_cons, List.length_nil]
      rw [hlen2, hlen] at e2
      rw [hl, rngAt_comma _ (a + 1) _ c _ e1 ?_ e2, chk_ok _ (a + 1) c _ (a : Int) (by rw [if_pos hpos]; omega) (by rw [← hl, List.take_left])]
      rw [List.getElem?_append_right (Nat.le_refl _), Nat.sub_self]; rfl
theorem fmtR_pos (a c : Nat) (ha : a ≤ 1073741823) (hc : c ≤ 1073741823) : fmtR a c ≠ [] := by
  intro h
  have e := rng_reads a c [] ha hc (by intro b hb; cases hb)
  rw [h] at e
  revert e; intro e
  have : rngF ([] ++ []) 0 = none := by decide
  rw [this] at e; cases e
theorem Range_of (s : ByteArray) (k : Int) (r : Option (Int × Nat × Nat)) (w : World) (hs : s.size ≤ 4611686018427387904) (h : rngF (bs s) k = r) (hp : Pow w) :
    Calls Tryd.prog 16 #[.string s, .int .i64 k] w fun e w' => e = .returned (rngV r) ∧ Below w.heap.size w w' := by
  subst h; exact Range_any s k w hs hp
set_option maxRecDepth 100000 in
set_option maxHeartbeats 800000 in
theorem walk_big (a c : Int) (x y : Nat) (T s : ByteArray) (w : World) (HP : Hid (Pow w)) (HA : Hid (∀ w, Pow w → Calls Tryd.prog 10 #[] w fun e w' => e = .returned (.bool true) ∧ Below w.heap.size w w'))
    (M1 : Hid (∀ w, Calls Tryd.prog 13 #[.int .i64 a, .int .i64 1073741824] w fun e w' => e = .returned (.int .i64 x) ∧ w = w')) (M2 : Hid (∀ w, Calls Tryd.prog 13 #[.int .i64 c, .int .i64 1073741824] w fun e w' => e = .returned (.int .i64 y) ∧ w = w'))
    (hTs : T.size ≤ 43) (hT1 : (!T.toList.isEmpty) = true)
    (HT : Hid (∀ w, Pow w → Calls Tryd.prog 19 #[.int .i64 x, .int .i64 y] w fun e w' => e = .returned (.string T) ∧ Below w.heap.size w w'))
    (HX : Hid (∀ w, Pow w → Calls Tryd.prog 16 #[.string (T ++ ⟨#[32]⟩), .int .i64 0] w fun e w' => e = .returned (.tuple #[.int .i64 x, .int .i64 y, .int .i64 T.size, .bool true]) ∧ Below w.heap.size w w')) (hbig : (40 : Int) < (s.size : Int)) :
    Calls Tryd.prog 6 #[.int .i64 a, .int .i64 c, .string s] w fun e w' => e = .returned (.bool true) ∧ Below w.heap.size w w' := by
  go_enter Tryd.func6, Tryd.ntmps6
  go_wp2_with fail
  refine (M1.out _).mono ?_
  rintro e w1 ⟨rfl, rfl⟩
  go_wp2_with fail
  refine (M2.out _).mono ?_
  rintro e w1 ⟨rfl, rfl⟩
  go_wp2_with fail
  refine (HT.out _ HP.out).mono ?_
  rintro e w1 ⟨rfl, hb1⟩
  have HP1 := Lib.hid (HP.out.stays hb1)
  go_wp2_with fail
  refine (HX.out _ HP1.out).mono ?_
  rintro e w2 ⟨rfl, hb2⟩
  have hb12 := hb1.trans (hb2.mono hb1.size)
  have HP2 := Lib.hid (HP.out.stays hb12)
  clear hb1 hb2
  go_wp2_with (go_at_call 10; refine (HA.out _ HP2.out).mono ?_; rintro e w3 ⟨rfl, hb3⟩)
  go_ret
  exact ⟨rfl, hb12.trans (hb3.mono hb12.size)⟩
set_option maxRecDepth 100000 in
set_option maxHeartbeats 800000 in
theorem walk_dig (a c : Int) (x y : Nat) (T s : ByteArray) (w : World) (HP : Hid (Pow w)) (HA : Hid (∀ w, Pow w → Calls Tryd.prog 10 #[] w fun e w' => e = .returned (.bool true) ∧ Below w.heap.size w w'))
    (M1 : Hid (∀ w, Calls Tryd.prog 13 #[.int .i64 a, .int .i64 1073741824] w fun e w' => e = .returned (.int .i64 x) ∧ w = w')) (M2 : Hid (∀ w, Calls Tryd.prog 13 #[.int .i64 c, .int .i64 1073741824] w fun e w' => e = .returned (.int .i64 y) ∧ w = w'))
    (hTs : T.size ≤ 43) (hT1 : (!T.toList.isEmpty) = true)
    (HT : Hid (∀ w, Pow w → Calls Tryd.prog 19 #[.int .i64 x, .int .i64 y] w fun e w' => e = .returned (.string T) ∧ Below w.heap.size w w'))
    (HX : Hid (∀ w, Pow w → Calls Tryd.prog 16 #[.string (T ++ ⟨#[32]⟩), .int .i64 0] w fun e w' => e = .returned (.tuple #[.int .i64 x, .int .i64 y, .int .i64 T.size, .bool true]) ∧ Below w.heap.size w w')) (hle : s.size ≤ 40) (hz : 0 < s.size) (g1 : (48 : Int) ≤ (s[0].toNat : Int)) (g2 : (s[0].toNat : Int) ≤ 57) :
    Calls Tryd.prog 6 #[.int .i64 a, .int .i64 c, .string s] w fun e w' => e = .returned (.bool true) ∧ Below w.heap.size w w' := by
  go_enter Tryd.func6, Tryd.ntmps6
  go_wp2_with fail
  refine (M1.out _).mono ?_
  rintro e w1 ⟨rfl, rfl⟩
  go_wp2_with fail
  refine (M2.out _).mono ?_
  rintro e w1 ⟨rfl, rfl⟩
  go_wp2_with fail
  refine (HT.out _ HP.out).mono ?_
  rintro e w1 ⟨rfl, hb1⟩
  have HP1 := Lib.hid (HP.out.stays hb1)
  go_wp2_with fail
  refine (HX.out _ HP1.out).mono ?_
  rintro e w2 ⟨rfl, hb2⟩
  have hb12 := hb1.trans (hb2.mono hb1.size)
  have HP2 := Lib.hid (HP.out.stays hb12)
  clear hb1 hb2
  go_wp2_with (go_at_call 10; refine (HA.out _ HP2.out).mono ?_; rintro e w3 ⟨rfl, hb3⟩)
  go_ret
  exact ⟨rfl, hb12.trans (hb3.mono hb12.size)⟩
set_option maxRecDepth 100000 in
set_option maxHeartbeats 800000 in
theorem walk_hi (a c : Int) (x y : Nat) (T s : ByteArray) (w : World) (HP : Hid (Pow w)) (HA : Hid (∀ w, Pow w → Calls Tryd.prog 10 #[] w fun e w' => e = .returned (.bool true) ∧ Below w.heap.size w w'))
    (M1 : Hid (∀ w, Calls Tryd.prog 13 #[.int .i64 a, .int .i64 1073741824] w fun e w' => e = .returned (.int .i64 x) ∧ w = w')) (M2 : Hid (∀ w, Calls Tryd.prog 13 #[.int .i64 c, .int .i64 1073741824] w fun e w' => e = .returned (.int .i64 y) ∧ w = w'))
    (hTs : T.size ≤ 43) (hT1 : (!T.toList.isEmpty) = true)
    (HT : Hid (∀ w, Pow w → Calls Tryd.prog 19 #[.int .i64 x, .int .i64 y] w fun e w' => e = .returned (.string T) ∧ Below w.heap.size w w'))
    (HX : Hid (∀ w, Pow w → Calls Tryd.prog 16 #[.string (T ++ s), .int .i64 0] w fun e w' => e = .returned (.tuple #[.int .i64 x, .int .i64 y, .int .i64 T.size, .bool true]) ∧ Below w.heap.size w w')) (hle : s.size ≤ 40) (hz : 0 < s.size) (g1 : (48 : Int) ≤ (s[0].toNat : Int)) (g2 : ¬ (s[0].toNat : Int) ≤ 57) (n44 : ((s[0].toNat : Int) == 44) = false) :
    Calls Tryd.prog 6 #[.int .i64 a, .int .i64 c, .string s] w fun e w' => e = .returned (.bool true) ∧ Below w.heap.size w w' := by
  go_enter Tryd.func6, Tryd.ntmps6
  go_wp2_with fail
  refine (M1.out _).mono ?_
  rintro e w1 ⟨rfl, rfl⟩
  go_wp2_with fail
  refine (M2.out _).mono ?_
  rintro e w1 ⟨rfl, rfl⟩
  go_wp2_with fail
  refine (HT.out _ HP.out).mono ?_
  rintro e w1 ⟨rfl, hb1⟩
  have HP1 := Lib.hid (HP.out.stays hb1)
  go_wp2_with fail
  refine (HX.out _ HP1.out).mono ?_
  rintro e w2 ⟨rfl, hb2⟩
  have hb12 := hb1.trans (hb2.mono hb1.size)
  have HP2 := Lib.hid (HP.out.stays hb12)
  clear hb1 hb2
  go_wp2_with (go_at_call 10; refine (HA.out _ HP2.out).mono ?_; rintro e w3 ⟨rfl, hb3⟩)
  go_ret
  exact ⟨rfl, hb12.trans (hb3.mono hb12.size)⟩
set_option maxRecDepth 100000 in
set_option maxHeartbeats 800000 in
theorem walk_com (a c : Int) (x y : Nat) (T s : ByteArray) (w : World) (HP : Hid (Pow w)) (HA : Hid (∀ w, Pow w → Calls Tryd.prog 10 #[] w fun e w' => e = .returned (.bool true) ∧ Below w.heap.size w w'))
    (M1 : Hid (∀ w, Calls Tryd.prog 13 #[.int .i64 a, .int .i64 1073741824] w fun e w' => e = .returned (.int .i64 x) ∧ w = w')) (M2 : Hid (∀ w, Calls Tryd.prog 13 #[.int .i64 c, .int .i64 1073741824] w fun e w' => e = .returned (.int .i64 y) ∧ w = w'))
    (hTs : T.size ≤ 43) (hT1 : (!T.toList.isEmpty) = true)
    (HT : Hid (∀ w, Pow w → Calls Tryd.prog 19 #[.int .i64 x, .int .i64 y] w fun e w' => e = .returned (.string T) ∧ Below w.heap.size w w'))
    (HX : Hid (∀ w, Pow w → Calls Tryd.prog 16 #[.string (T ++ ⟨#[32]⟩), .int .i64 0] w fun e w' => e = .returned (.tuple #[.int .i64 x, .int .i64 y, .int .i64 T.size, .bool true]) ∧ Below w.heap.size w w')) (hle : s.size ≤ 40) (hz : 0 < s.size) (g1 : ¬ (48 : Int) ≤ (s[0].toNat : Int)) (n44 : ((s[0].toNat : Int) == 44) = true) :
    Calls Tryd.prog 6 #[.int .i64 a, .int .i64 c, .string s] w fun e w' => e = .returned (.bool true) ∧ Below w.heap.size w w' := by
  go_enter Tryd.func6, Tryd.ntmps6
  go_wp2_with fail
  refine (M1.out _).mono ?_
  rintro e w1 ⟨rfl, rfl⟩
  go_wp2_with fail
  refine (M2.out _).mono ?_
  rintro e w1 ⟨rfl, rfl⟩
  go_wp2_with fail
  refine (HT.out _ HP.out).mono ?_
  rintro e w1 ⟨rfl, hb1⟩
  have HP1 := Lib.hid (HP.out.stays hb1)
  go_wp2_with fail
  refine (HX.out _ HP1.out).mono ?_
  rintro e w2 ⟨rfl, hb2⟩
  have hb12 := hb1.trans (hb2.mono hb1.size)
  have HP2 := Lib.hid (HP.out.stays hb12)
  clear hb1 hb2
  go_wp2_with (go_at_call 10; refine (HA.out _ HP2.out).mono ?_; rintro e w3 ⟨rfl, hb3⟩)
  go_ret
  exact ⟨rfl, hb12.trans (hb3.mono hb12.size)⟩
set_option maxRecDepth 100000 in
set_option maxHeartbeats 800000 in
theorem walk_lo (a c : Int) (x y : Nat) (T s : ByteArray) (w : World) (HP : Hid (Pow w)) (HA : Hid (∀ w, Pow w → Calls Tryd.prog 10 #[] w fun e w' => e = .returned (.bool true) ∧ Below w.heap.size w w'))
    (M1 : Hid (∀ w, Calls Tryd.prog 13 #[.int .i64 a, .int .i64 1073741824] w fun e w' => e = .returned (.int .i64 x) ∧ w = w')) (M2 : Hid (∀ w, Calls Tryd.prog 13 #[.int .i64 c, .int .i64 1073741824] w fun e w' => e = .returned (.int .i64 y) ∧ w = w'))
    (hTs : T.size ≤ 43) (hT1 : (!T.toList.isEmpty) = true)
    (HT : Hid (∀ w, Pow w → Calls Tryd.prog 19 #[.int .i64 x, .int .i64 y] w fun e w' => e = .returned (.string T) ∧ Below w.heap.size w w'))
    (HX : Hid (∀ w, Pow w → Calls Tryd.prog 16 #[.string (T ++ s), .int .i64 0] w fun e w' => e = .returned (.tuple #[.int .i64 x, .int .i64 y, .int .i64 T.size, .bool true]) ∧ Below w.heap.size w w')) (hle : s.size ≤ 40) (hz : 0 < s.size) (g1 : ¬ (48 : Int) ≤ (s[0].toNat : Int)) (n44 : ((s[0].toNat : Int) == 44) = false) :
    Calls Tryd.prog 6 #[.int .i64 a, .int .i64 c, .string s] w fun e w' => e = .returned (.bool true) ∧ Below w.heap.size w w' := by
  go_enter Tryd.func6, Tryd.ntmps6
  go_wp2_with fail
  refine (M1.out _).mono ?_
  rintro e w1 ⟨rfl, rfl⟩
  go_wp2_with fail
  refine (M2.out _).mono ?_
  rintro e w1 ⟨rfl, rfl⟩
  go_wp2_with fail
  refine (HT.out _ HP.out).mono ?_
  rintro e w1 ⟨rfl, hb1⟩
  have HP1 := Lib.hid (HP.out.stays hb1)
  go_wp2_with fail
  refine (HX.out _ HP1.out).mono ?_
  rintro e w2 ⟨rfl, hb2⟩
  have hb12 := hb1.trans (hb2.mono hb1.size)
  have HP2 := Lib.hid (HP.out.stays hb12)
  clear hb1 hb2
  go_wp2_with (go_at_call 10; refine (HA.out _ HP2.out).mono ?_; rintro e w3 ⟨rfl, hb3⟩)
  go_ret
  exact ⟨rfl, hb12.trans (hb3.mono hb12.size)⟩
set_option maxRecDepth 100000 in
set_option maxHeartbeats 800000 in
theorem walk_nil (a c : Int) (x y : Nat) (T s : ByteArray) (w : World) (HP : Hid (Pow w)) (HA : Hid (∀ w, Pow w → Calls Tryd.prog 10 #[] w fun e w' => e = .returned (.bool true) ∧ Below w.heap.size w w'))
    (M1 : Hid (∀ w, Calls Tryd.prog 13 #[.int .i64 a, .int .i64 1073741824] w fun e w' => e = .returned (.int .i64 x) ∧ w = w')) (M2 : Hid (∀ w, Calls Tryd.prog 13 #[.int .i64 c, .int .i64 1073741824] w fun e w' => e = .returned (.int .i64 y) ∧ w = w'))
    (hTs : T.size ≤ 43) (hT1 : (!T.toList.isEmpty) = true)
    (HT : Hid (∀ w, Pow w → Calls Tryd.prog 19 #[.int .i64 x, .int .i64 y] w fun e w' => e = .returned (.string T) ∧ Below w.heap.size w w'))
    (HX : Hid (∀ w, Pow w → Calls Tryd.prog 16 #[.string (T ++ s), .int .i64 0] w fun e w' => e = .returned (.tuple #[.int .i64 x, .int .i64 y, .int .i64 T.size, .bool true]) ∧ Below w.heap.size w w')) (hz0 : s.size = 0) :
    Calls Tryd.prog 6 #[.int .i64 a, .int .i64 c, .string s] w fun e w' => e = .returned (.bool true) ∧ Below w.heap.size w w' := by
  go_enter Tryd.func6, Tryd.ntmps6
  go_wp2_with fail
  refine (M1.out _).mono ?_
  rintro e w1 ⟨rfl, rfl⟩
  go_wp2_with fail
  refine (M2.out _).mono ?_
  rintro e w1 ⟨rfl, rfl⟩
  go_wp2_with fail
  refine (HT.out _ HP.out).mono ?_
  rintro e w1 ⟨rfl, hb1⟩
  have HP1 := Lib.hid (HP.out.stays hb1)
  go_wp2_with fail
  refine (HX.out _ HP1.out).mono ?_
  rintro e w2 ⟨rfl, hb2⟩
  have hb12 := hb1.trans (hb2.mono hb1.size)
  have HP2 := Lib.hid (HP.out.stays hb12)
  clear hb1 hb2
  go_wp2_with (go_at_call 10; refine (HA.out _ HP2.out).mono ?_; rintro e w3 ⟨rfl, hb3⟩)
  go_ret
  exact ⟨rfl, hb12.trans (hb3.mono hb12.size)⟩
theorem walk (a c : Int) (s : ByteArray) (w : World) (ha0 : -9223372036854775808 ≤ a) (ha1 : a ≤ 9223372036854775807) (hc0 : -9223372036854775808 ≤ c) (hc1 : c ≤ 9223372036854775807) (hs : s.size ≤ maxLen) (hp : Pow w) :
    Calls Tryd.prog 6 #[.int .i64 a, .int .i64 c, .string s] w fun e w' => e = .returned (.bool true) ∧ Below w.heap.size w w' := by
  unfold maxLen at hs
  have HP := Lib.hid hp
  have HA := Lib.hid (fun w (h : Pow w) => awake_any w h)
  have M1 : Hid (∀ w, Calls Tryd.prog 13 #[.int .i64 a, .int .i64 1073741824] w fun e w' => e = .returned (.int .i64 (modF a 1073741824)) ∧ w = w') := Lib.hid (fun w => Mod_any a _ w (by omega) (by omega) ha0 ha1)
  have M2 : Hid (∀ w, Calls Tryd.prog 13 #[.int .i64 c, .int .i64 1073741824] w fun e w' => e = .returned (.int .i64 (modF c 1073741824)) ∧ w = w') := Lib.hid (fun w => Mod_any c _ w (by omega) (by omega) hc0 hc1)
  have m1 := modF_lo a 1073741824 (by omega)
  have m2 := modF_hi a 1073741824 (by omega)
  have m3 := modF_lo c 1073741824 (by omega)
  have m4 := modF_hi c 1073741824 (by omega)
  generalize modF a 1073741824 = x at M1 m1 m2
  generalize modF c 1073741824 = y at M2 m3 m4
  obtain ⟨x, rfl⟩ := Int.eq_ofNat_of_zero_le m1
  obtain ⟨y, rfl⟩ := Int.eq_ofNat_of_zero_le m3
  obtain ⟨T, hT⟩ : ∃ F : ByteArray, F = ⟨(fmtR x y).toArray⟩ := ⟨_, rfl⟩
  have hTs : T.size ≤ 43 := by rw [hT, size_mk]; exact fmtR_len x y
  have hT0 : ¬ T.toList = [] := by
    rw [hT, ByteArray.toList_eq]
    exact fmtR_pos x y (by omega) (by omega)
  have hT1 : (!T.toList.isEmpty) = true := by simpa using hT0
  have HT : Hid (∀ w, Pow w → Calls Tryd.prog 19 #[.int .i64 x, .int .i64 y] w fun e w' => e = .returned (.string T) ∧ Below w.heap.size w w') := Lib.hid (by rw [hT]; exact fun w h => FormatRange_any x y w (by omega) (by omega) (by omega) (by omega) h)
  have HR : ∀ s : ByteArray, s.size ≤ 40 → (∀ b, (bs s).head? = some b → isDig b = false ∧ b ≠ 44) → Hid (∀ w, Pow w → Calls Tryd.prog 16 #[.string (T ++ s), .int .i64 0] w fun e w' => e = .returned (.tuple #[.int .i64 x, .int .i64 y, .int .i64 T.size, .bool true]) ∧ Below w.heap.size w w') :=
    fun s h1 h2 => Lib.hid (fun w h => by
      have hb : rngF (bs (T ++ s)) 0 = some ((x : Int), y, T.size) := by
        rw [bs_append, hT, size_mk]; exact rng_reads x y (bs s) (by omega) (by omega) h2
      exact Range_of (T ++ s) 0 _ w (by rw [ByteArray.size_append]; omega) hb h)
  have HS := HR ⟨#[32]⟩ (by decide) (by intro b hb; have : b = 32 := (Option.some.inj hb).symm; subst this; exact ⟨by decide, by decide⟩)
  by_cases hbig : (40 : Int) < (s.size : Int)
  · exact walk_big a c x y T s w HP HA M1 M2 hTs hT1 HT HS hbig
  have hle : s.size ≤ 40 := by omega
  by_cases hz : 0 < s.size
  · have hh : (bs s).head? = some s[0] := by rw [List.head?_eq_getElem?]; exact bs_get? s 0 hz
    by_cases g1 : (48 : Int) ≤ (s[0].toNat : Int)
    · by_cases g2 : (s[0].toNat : Int) ≤ 57
      · exact walk_dig a c x y T s w HP HA M1 M2 hTs hT1 HT HS hle hz g1 g2
      · have HX := HR s hle (by intro b hb; rw [hh] at hb; have : s[0] = b := Option.some.inj hb; subst this; exact ⟨dig_hi s[0] (by omega), fun e => by rw [e] at g1; exact absurd g1 (by decide)⟩)
        exact walk_hi a c x y T s w HP HA M1 M2 hTs hT1 HT HX hle hz g1 g2 (by simp only [beq_eq_false_iff_ne, ne_eq]; omega)
    · by_cases h44 : s[0] = 44
      · exact walk_com a c x y T s w HP HA M1 M2 hTs hT1 HT HS hle hz g1 (eq44 _ h44)
      · have HX := HR s hle (by intro b hb; rw [hh] at hb; have : s[0] = b := Option.some.inj hb; subst this; exact ⟨dig_lo s[0] (by omega), h44⟩)
        exact walk_lo a c x y T s w HP HA M1 M2 hTs hT1 HT HX hle hz g1 (ne44 _ h44)
  · have HX := HR s hle (by intro b hb; have : bs s = [] := List.eq_nil_of_length_eq_zero (by rw [bs_len]; omega); rw [this] at hb; cases hb)
    exact walk_nil a c x y T s w HP HA M1 M2 hTs hT1 HT HX (by omega)
set_option maxRecDepth 100000 in
theorem lifted (os : Os) (started : os.Started) (H : Type) (enc : TypeId × Value → H) :
    ReturnsInHanded {} Tryd.checked os 6 .any (fun w args => (Rows.scanRangeReadsSpec.pre enc Tryd.prog Tryd.f6 [] false w args ∧ laidMetH Tryd.prog laid3 w) ∧ sizedMet enc Tryd.prog Tryd.f6 (OpenSpec.ofChange Rows.scanRangeReadsSpec) false w args)
      (Rows.scanRangeReadsSpec.post enc Tryd.prog Tryd.f6 false true false false) := by
  refine returnsInHanded_of_change_and (C := Tryd.checked) (X := fun w _ => laidMetH Tryd.prog laid3 w) (fun _ _ _ hh h => h.of_heap hh) own started (by kernel_rfl) Tryd.func6
    (ChangeSpec.witness_shaped (enc := enc) (C := Tryd.checked) (os := os) (X := fun w _ => laidMetH Tryd.prog laid3 w) false (World.doorLaid Tryd.prog 600 os) #[.int .i64 0, .int .i64 0, .string ⟨#[]⟩] 8 rfl (World.shaped_of_RefB (by kernel_rfl) (by kernel_rfl)) (by kernel_rfl) (by kernel_rfl) (by kernel_rfl) (door_met os _)) ?_
  intro W base args ds gs before hval0 hW _ _ hL _
  have hval : ∀ (j : Nat) t v, Tryd.f6.params[j]? = some t → args[j]? = some v → Value.okWide Tryd.prog W .any base t v := hval0
  have hW' := hW
  obtain ⟨p, q, hA0, hV, rfl, hfz, hnd⟩ := hW
  have hA : DataW.TrodAll enc Tryd.prog W 0 (fun _ => true) true Tryd.f6.params.toList args.toList ds p := hA0
  rw [Tryd.params6] at hA hval
  obtain ⟨v0, v1, v2, d0, d1, d2, p0, p1, p2, rfl, rfl, rfl, h0, h1, h2⟩ := trodAll_three hA
  obtain ⟨rfl, rfl⟩ := trodVars_none hV
  obtain ⟨a, rfl, rfl, rfl, wa⟩ := open_int Tryd.underlying3 (hval 0 3 v0 rfl rfl) h0
  have ba := bounds_i64 wa
  obtain ⟨c, rfl, rfl, rfl, wc⟩ := open_int Tryd.underlying3 (hval 1 3 v1 rfl rfl) h1
  have bc := bounds_i64 wc
  obtain ⟨s, rfl, rfl, rfl, ws⟩ := open_string Tryd.underlying9 (hval 2 9 v2 rfl rfl) h2
  have hp := pow_of_laid hL
  clear hA0 hval0
  simp only [List.append_nil] at hW'
  refine (walk a c s W ba.1 ba.2 bc.1 bc.2 ws hp).mono fun e W' ⟨he, hbel⟩ => ?_
  subst he
  exact ⟨_, rfl, post_of_below (pa := []) (pv := []) hW' (fun _ _ _ => trodAll_mk1 (shut_bool Tryd.underlying4 _)) (fun sp _ => trodAll_mk3 (shut_int Tryd.underlying3 wa) (shut_int Tryd.underlying3 wc) (shut_string Tryd.underlying9 ws)) (fun _ _ => rfl) rfl hbel (ok_one (by kernel_rfl) rfl (okWide_bool_mk Tryd.underlying4 _))⟩
theorem row_holds : Rows.ScanRangeReadsSaid :=
  OpenClaim.holds_of_wide 6 Tryd.f6 rfl rfl rfl rfl rfl rfl rfl ⟨rfl, rfl, rfl, rfl, rfl⟩ rfl rfl rfl rfl rfl (by kernel_rfl) Tryd.func6 (by kernel_rfl)
    (of_decide_eq_true (by kernel_rfl)) (by unfold Func.isWrapper; first | (rw [if_pos (by decide +kernel)]; kernel_rfl) | (rw [if_neg (by decide +kernel)]; exact ⟨rfl, rfl⟩))
    (fun os started H enc _ => lifted os started H enc)
theorem card_holds : Rows.ScanRangeReadsCardSaid :=
  Claim7.holds_tied_plain_at .later [] Rows.scanRangeReadsCard.laidKinds true Rows.scanRangeReadsCard.stood.harness false
    row_holds (fun _ h => by cases h) (by kernel_rfl) (fun _ h => by cases h) scanRangeReads_row_tie rfl ⟨rfl, rfl⟩ (by kernel_rfl) rfl
    (fun f fn hf hfn => by
      obtain rfl : f = 6 := Option.some.inj ((show Tryd.prog.funcNamed Rows.scanRangeReadsRow.func = some 6 by kernel_rfl).symm.trans hf) |>.symm
      obtain rfl : fn = Tryd.f6 := (Option.some.inj (Tryd.func6.symm.trans hfn)).symm
      exact ⟨by kernel_rfl, fun j t ht => by
        have hm : t ∈ Tryd.f6.params.toList := by simpa using Array.mem_of_getElem? ht
        have hall : (Tryd.f6.params.toList.all fun u => !Tryd.prog.wantsStandIn u) = true := by kernel_rfl
        show Tryd.prog.wantsStandIn t = false
        simpa using List.all_eq_true.1 hall t hm⟩)
    (by kernel_rfl)
end Sc.RangeReads
end Go.Proofs.YtgfinppppgpleaaDoor
