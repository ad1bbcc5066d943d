/- Facts; each states its conditions. -/
import Derived.Test.YtjecfmbecgpbmaaGreatDoorGScanBase
import Derived.Test.YtjecfmbecgpbmaaGreatDoorShelf
import Derived.Lib.ItoaLen
import Derived.Lib.ItoaMem
import Derived.Lib.SmallJoins
import Derived.WalkSmall
import Derived.Lib.AppendIntMem
import Derived.Deep.RegionHeld3
namespace Go.Proofs.YtjecfmbecgpbmaaGreatDoor
section
open Go.RowKit
namespace Sc
def fmtF (n : Int) : List UInt8 := if n < 0 ∨ 2147483647 < n then [] else Lib.decDigits n.toNat
theorem fmtF_out (n : Int) (h : n < 0 ∨ 2147483647 < n) : fmtF n = [] := by unfold fmtF; rw [if_pos h]
theorem fmtF_in (n : Int) (h0 : 0 ≤ n) (h1 : n ≤ 2147483647) : fmtF n = Lib.itoa n := by
 unfold fmtF Lib.itoa; rw [if_neg (by omega), if_neg (by omega)]
theorem fmtF_len (n : Int) : (fmtF n).length ≤ 21 := by
 by_cases h : n < 0 ∨ 2147483647 < n
 · rw [fmtF_out n h]; decide
 · rw [fmtF_in n (by omega) (by omega)]; exact Lib.itoa_length_le n (by omega) (by omega)
abbrev Pow (w : World) : Prop := Lib.TabIs Tryz.prog w "internal/strconv.uint64pow10" .u64 Lib.pow10Tab
theorem powG : Tryz.prog.globalNamed "internal/strconv.uint64pow10" = some 3 := by kernel_rfl
theorem Pow.stays {w w' : World} (h : Pow w) (hb : Below w.heap.size w w') : Pow w' := Joins.tab_stays powG h hb (Nat.le_refl _)
theorem below_drewN {B : Nat} {a w : World} (h : Below B a w) (n : Nat) : Below B a (w.drewN n) := ⟨h.os, h.tape, h.output, h.size, h.block⟩
set_option maxRecDepth 100000 in
theorem Format_any (n : Int) (w : World) (h0 : -9223372036854775808 ≤ n) (h1 : n ≤ 9223372036854775807) (hp : Pow w) :
 Calls Tryz.prog 154 #[.int .i64 n] w fun e w' => e = .returned (.string ⟨(fmtF n).toArray⟩) ∧ Below w.heap.size w w' := by
 have HP := Lib.hid hp
 clear hp
 by_cases hn : n < 0 ∨ 2147483647 < n
 · have HF := Lib.hid (fmtF_out n hn)
   rcases hn with hn | hn
   · clear h0 h1
     go_enter Tryz.func154, Tryz.ntmps154
     go_wp2
     go_ret
     exact ⟨by rw [HF.out]; rfl, Below.refl _ _⟩
   · have hn2 : ¬ n < 0 := by omega
     clear h0 h1
     go_enter Tryz.func154, Tryz.ntmps154
     go_wp2
     go_ret
     exact ⟨by rw [HF.out]; rfl, Below.refl _ _⟩
 · have HF := Lib.hid (fmtF_in n (by omega) (by omega))
   have hn1 : ¬ n < 0 := by omega
   have hn2 : ¬ 2147483647 < n := by omega
   have HI := Lib.hid (fun w (h : Pow w) => Tryz.strconv_Itoa n h0 h1 w h)
   clear hn h0 h1
   go_enter Tryz.func154, Tryz.ntmps154
   go_wp2_with (go_at_call 172; refine (HI.out _ HP.out).mono ?_; rintro e w' ⟨rfl, k, os, rfl⟩)
   go_ret
   exact ⟨congrArg (fun l : List UInt8 => Ending.returned (.string ⟨l.toArray⟩)) HF.out.symm, Lib.below_grow _ _ (Nat.le_refl _) _ _⟩
theorem decD_step (n : Nat) (h : ¬ n < 10) : Lib.decDigits n = Lib.decDigits (n / 10) ++ [UInt8.ofNat (48 + n % 10)] := by rw [Lib.decDigits, dif_neg h]
theorem digs10 (i : Nat) (h : i < 10) : (ByteArray.mk #[48, 49, 50, 51, 52, 53, 54, 55, 56, 57]).extract i (i + 1) = ⟨[UInt8.ofNat (48 + i)].toArray⟩ := by
 have : i = 0 ∨ i = 1 ∨ i = 2 ∨ i = 3 ∨ i = 4 ∨ i = 5 ∨ i = 6 ∨ i = 7 ∨ i = 8 ∨ i = 9 := by omega
 rcases this with rfl | rfl | rfl | rfl | rfl | rfl | rfl | rfl | rfl | rfl <;> rfl
theorem mk_append (a b : List UInt8) : (ByteArray.mk a.toArray) ++ (ByteArray.mk b.toArray) = ⟨(a ++ b).toArray⟩ := by
 rw [ByteArray.mk_append_mk]
set_option maxRecDepth 100000 in
set_option maxHeartbeats 400000 in
theorem FormatR_nat (k : Nat) : ∀ (n : Nat) (w : World), n < 10 ^ (k + 1) → n ≤ 2147483647 →
 Calls Tryz.prog 142 #[.int .i64 n] w fun e w' => e = .returned (.string ⟨(Lib.decDigits n).toArray⟩) ∧ ∃ m, w' = w.drewN m := by
 induction k with
 | zero =>
   intro n w hn hm
   have hn : n < 10 := hn
   have HX := Lib.hid (digs10 n hn)
   have HD := Lib.hid (Lib.decDigits_one hn)
   go_enter Tryz.func142, Tryz.ntmps142
   go_wp2_with fail
   go_ret
   exact ⟨by rw [HD.out]; exact congrArg (fun b => Ending.returned (.string b)) HX.out, 0, rfl⟩
 | succ k ih =>
   intro n w hn hm
   by_cases h10 : n < 10
   · have HX := Lib.hid (digs10 n h10)
     have HD := Lib.hid (Lib.decDigits_one h10)
     clear hn
     go_enter Tryz.func142, Tryz.ntmps142
     go_wp2_with fail
     go_ret
     exact ⟨by rw [HD.out]; exact congrArg (fun b => Ending.returned (.string b)) HX.out, 0, rfl⟩
   · have HX := Lib.hid (digs10 (n % 10) (by omega))
     have HD := Lib.hid (decD_step n h10)
     have hlen : (Lib.decDigits (n / 10)).length ≤ 21 := by
      have := Lib.itoa_length_le ((n / 10 : Nat) : Int) (by omega) (by omega)
      rw [Lib.itoa_nonneg] at this; exact this
     have HI : Hid (∀ w, Calls Tryz.prog 142 #[.int .i64 ((n : Int) / 10)] w fun e w' => e = .returned (.string ⟨(Lib.decDigits (n / 10)).toArray⟩) ∧ ∃ m, w' = w.drewN m) :=
      Lib.hid (fun w => ih (n / 10) w (by rw [Nat.pow_succ] at hn; omega) (by omega))
     have e1 : ((n : Int) % 10).toNat = n % 10 := by omega
     have hlo : (0 : Int) ≤ (n : Int) % 10 := by omega
     have hhi : (n : Int) % 10 < 10 := by omega
     clear hn ih
     go_enter Tryz.func142, Tryz.ntmps142
     go_wp2_with fail
     go_quiet ((go_at_call 142; exact Calls.quiet_of (HI.out _)))
     go_wp2_with fail
     go_ret
     exact ⟨congrArg (fun b => Ending.returned (.string b)) (by rw [HX.out, HD.out]; exact mk_append _ _), nq, rfl⟩
theorem FormatR_any (n : Int) (w : World) (h0 : -9223372036854775808 ≤ n) (h1 : n ≤ 9223372036854775807) :
 Calls Tryz.prog 142 #[.int .i64 n] w fun e w' => e = .returned (.string ⟨(fmtF n).toArray⟩) ∧ Below w.heap.size w w' := by
 by_cases hn : n < 0 ∨ 2147483647 < n
 · have HF := Lib.hid (fmtF_out n hn)
   rcases hn with hn | hn
   · clear h0 h1
     go_enter Tryz.func142, Tryz.ntmps142
     go_wp2_with fail
     go_ret
     exact ⟨by rw [HF.out]; rfl, Below.refl _ _⟩
   · have hn2 : ¬ n < 0 := by omega
     clear h0 h1
     go_enter Tryz.func142, Tryz.ntmps142
     go_wp2_with fail
     go_ret
     exact ⟨by rw [HF.out]; rfl, Below.refl _ _⟩
 · obtain ⟨m, rfl⟩ := Int.eq_ofNat_of_zero_le (show 0 ≤ n by omega)
   refine (FormatR_nat 10 m w (by omega) (by omega)).mono ?_
   rintro e w' ⟨rfl, k, rfl⟩
   refine ⟨?_, below_drewN (Below.refl _ _) _⟩
   rw [fmtF_in _ (by omega) (by omega), Lib.itoa_nonneg]
/-! ### FormatRange -/
def fmtR (start count : Int) : List UInt8 :=
 if start < 0 ∨ count < 0 ∨ 2147483647 - count < start then []
 else if count = 0 then fmtF start ++ [44, 48]
 else if count = 1 then fmtF (start + 1)
 else fmtF (start + 1) ++ [44] ++ fmtF count
theorem fmtR_out (a c : Int) (h : a < 0 ∨ c < 0 ∨ 2147483647 - c < a) : fmtR a c = [] := by unfold fmtR; rw [if_pos h]
theorem fmtR_0 (a : Int) (h0 : 0 ≤ a) (h1 : a ≤ 2147483647) : fmtR a 0 = fmtF a ++ [44, 48] := by unfold fmtR; rw [if_neg (by omega), if_pos rfl]
theorem fmtR_1 (a : Int) (h0 : 0 ≤ a) (h1 : a ≤ 2147483646) : fmtR a 1 = fmtF (a + 1) := by unfold fmtR; rw [if_neg (by omega), if_neg (by decide), if_pos rfl]
theorem fmtR_n (a c : Int) (h0 : 0 ≤ a) (hc : 2 ≤ c) (h1 : a ≤ 2147483647 - c) : fmtR a c = fmtF (a + 1) ++ [44] ++ fmtF c := by unfold fmtR; rw [if_neg (by omega), if_neg (by omega), if_neg (by omega)]
theorem fmtR_len (a c : Int) : (fmtR a c).length ≤ 43 := by
 have h1 := fmtF_len a; have h2 := fmtF_len (a + 1); have h3 := fmtF_len c
 unfold fmtR; split
 · simp
 · split
   · simp; omega
   · split
     · omega
     · simp; omega
theorem size_mk (l : List UInt8) : (ByteArray.mk l.toArray).size = l.length := by show l.toArray.size = _; simp
set_option maxRecDepth 100000 in
set_option maxHeartbeats 800000 in
theorem FormatRange_any (a c : Int) (w : World) (_h0 : -9223372036854775808 ≤ a) (_h1 : a ≤ 9223372036854775807) (g0 : -9223372036854775808 ≤ c) (g1 : c ≤ 9223372036854775807) (hp : Pow w) :
 Calls Tryz.prog 120 #[.int .i64 a, .int .i64 c] w fun e w' => e = .returned (.string ⟨(fmtR a c).toArray⟩) ∧ Below w.heap.size w w' := by
 have HP := Lib.hid hp
 clear hp
 by_cases ha : a < 0
 · have HF := Lib.hid (fmtR_out a c (.inl ha))
   go_enter Tryz.func120, Tryz.ntmps120
   go_wp2_with fail
   go_ret
   exact ⟨by rw [HF.out]; rfl, Below.refl _ _⟩
 by_cases hc : c < 0
 · have HF := Lib.hid (fmtR_out a c (.inr (.inl hc)))
   go_enter Tryz.func120, Tryz.ntmps120
   go_wp2_with fail
   go_ret
   exact ⟨by rw [HF.out]; rfl, Below.refl _ _⟩
 by_cases hs : 2147483647 - c < a
 · have HF := Lib.hid (fmtR_out a c (.inr (.inr hs)))
   go_enter Tryz.func120, Tryz.ntmps120
   go_wp2_with fail
   go_ret
   exact ⟨by rw [HF.out]; rfl, Below.refl _ _⟩
 have hs' : a ≤ 2147483647 - c := by omega
 clear _h0 _h1 g0 g1
 by_cases c0 : c = 0
 · subst c0
   have HF := Lib.hid (fmtR_0 a (by omega) (by omega))
   have hl := fmtF_len a
   go_enter Tryz.func120, Tryz.ntmps120
   go_wp2_with (go_at_call 154; refine (Format_any a _ (by omega) (by omega) HP.out).mono ?_; rintro e w1 ⟨rfl, hb⟩)
   go_ret
   exact ⟨congrArg (fun b => Ending.returned (.string b)) (by rw [HF.out]; exact mk_append _ _), hb⟩
 by_cases c1 : c = 1
 · subst c1
   have HF := Lib.hid (fmtR_1 a (by omega) (by omega))
   go_enter Tryz.func120, Tryz.ntmps120
   go_wp2_with (go_at_call 154; refine (Format_any (a + 1) _ (by omega) (by omega) HP.out).mono ?_; rintro e w1 ⟨rfl, hb⟩)
   go_ret
   exact ⟨by rw [HF.out]; rfl, hb⟩
 · have HF := Lib.hid (fmtR_n a c (by omega) (by omega) (by omega))
   have z1 := fmtF_len (a + 1)
   have z2 := fmtF_len c
   have e0 : (c == 0) = false := by simpa using c0
   have e1 : (c == 1) = false := by simpa using c1
   clear c0 c1
   go_enter Tryz.func120, Tryz.ntmps120
   go_wp2_with fail
   refine (Format_any (a + 1) _ (by omega) (by omega) HP.out).mono ?_
   rintro e w1 ⟨rfl, hb⟩
   go_wp2_with fail
   refine (Format_any c _ (by omega) (by omega) (HP.out.stays hb)).mono ?_
   rintro e w2 ⟨rfl, hb2⟩
   go_wp2_with fail
   go_ret
   exact ⟨congrArg (fun b => Ending.returned (.string b)) (by rw [HF.out]; exact (congrArg (· ++ _) (mk_append _ _)).trans (mk_append _ _)), hb.trans (hb2.mono hb.size)⟩
set_option maxRecDepth 100000 in
set_option maxHeartbeats 800000 in
theorem FormatRangeR_any (a c : Int) (w : World) (h0 : -9223372036854775808 ≤ a) (h1 : a ≤ 9223372036854775807) (g0 : -9223372036854775808 ≤ c) (g1 : c ≤ 9223372036854775807) :
 Calls Tryz.prog 107 #[.int .i64 a, .int .i64 c] w fun e w' => e = .returned (.string ⟨(fmtR a c).toArray⟩) ∧ Below w.heap.size w w' := by
 by_cases ha : a < 0
 · have HF := Lib.hid (fmtR_out a c (.inl ha))
   go_enter Tryz.func107, Tryz.ntmps107
   go_wp2_with fail
   go_ret
   exact ⟨by rw [HF.out]; rfl, Below.refl _ _⟩
 by_cases hc : c < 0
 · have HF := Lib.hid (fmtR_out a c (.inr (.inl hc)))
   go_enter Tryz.func107, Tryz.ntmps107
   go_wp2_with fail
   go_ret
   exact ⟨by rw [HF.out]; rfl, Below.refl _ _⟩
 by_cases hs0 : 2147483647 < a
 · have HF := Lib.hid (fmtR_out a c (.inr (.inr (by omega))))
   go_enter Tryz.func107, Tryz.ntmps107
   go_wp2_with fail
   go_ret
   exact ⟨by rw [HF.out]; rfl, Below.refl _ _⟩
 by_cases hs : 2147483647 - a < c
 · have HF := Lib.hid (fmtR_out a c (.inr (.inr (by omega))))
   go_enter Tryz.func107, Tryz.ntmps107
   go_wp2_with fail
   go_ret
   exact ⟨by rw [HF.out]; rfl, Below.refl _ _⟩
 have hs' : a ≤ 2147483647 - c := by omega
 clear h0 h1 g0 g1
 by_cases c0 : c = 0
 · subst c0
   have HF := Lib.hid (fmtR_0 a (by omega) (by omega))
   have hl := fmtF_len a
   go_enter Tryz.func107, Tryz.ntmps107
   go_wp2_with (go_at_call 142; refine (FormatR_any a _ (by omega) (by omega)).mono ?_; rintro e w1 ⟨rfl, hb⟩)
   go_ret
   exact ⟨congrArg (fun b => Ending.returned (.string b)) (by rw [HF.out]; exact mk_append _ _), hb⟩
 by_cases c1 : c = 1
 · subst c1
   have HF := Lib.hid (fmtR_1 a (by omega) (by omega))
   go_enter Tryz.func107, Tryz.ntmps107
   go_wp2_with (go_at_call 142; refine (FormatR_any (a + 1) _ (by omega) (by omega)).mono ?_; rintro e w1 ⟨rfl, hb⟩)
   go_ret
   exact ⟨by rw [HF.out]; rfl, hb⟩
 · have HF := Lib.hid (fmtR_n a c (by omega) (by omega) (by omega))
   have z1 := fmtF_len (a + 1)
   have z2 := fmtF_len c
   have e0 : (c == 0) = false := by simpa using c0
   have e1 : (c == 1) = false := by simpa using c1
   clear c0 c1
   go_enter Tryz.func107, Tryz.ntmps107
   go_wp2_with fail
   refine (FormatR_any (a + 1) _ (by omega) (by omega)).mono ?_
   rintro e w1 ⟨rfl, hb⟩
   go_wp2_with fail
   refine (FormatR_any c _ (by omega) (by omega)).mono ?_
   rintro e w2 ⟨rfl, hb2⟩
   go_wp2_with fail
   go_ret
   exact ⟨congrArg (fun b => Ending.returned (.string b)) (by rw [HF.out]; exact (congrArg (· ++ _) (mk_append _ _)).trans (mk_append _ _)), hb.trans (hb2.mono hb.size)⟩
end Sc
end
section
open Go.RowKit
namespace Sc
theorem results_tmp4 {fn : Func} {t u v x : Tmp} (h : fn.results = #[.tmp t, .tmp u, .tmp v, .tmp x]) (tmps : Array Value) (P : Program) (w : World) :
 (results fn tmps).run P w = .ok (.tuple #[tmps.getD t undef, tmps.getD u undef, tmps.getD v undef, tmps.getD x undef]) w := by simp [results, h]
def chkR (l : List UInt8) (k first c e : Nat) : Option (Int × Nat × Nat) :=
 if fmtR (if 0 < c then (first : Int) - 1 else first) c = (l.drop k).take (e - k) then some (if 0 < c then (first : Int) - 1 else first, c, e) else none
def rngAt (l : List UInt8) (k : Nat) : Option (Int × Nat × Nat) :=
 match numAt l k with
 | none => none
 | some (first, e) => if l[e]? = some 44 then (match numAt l (e + 1) with | none => none | some (c, e2) => chkR l k first c e2) else chkR l k first 1 e
def rngF (l : List UInt8) (k : Int) : Option (Int × Nat × Nat) := if k < 0 ∨ (l.length : Int) < k then none else rngAt l k.toNat
def rngV : Option (Int × Nat × Nat) → Value
 | some (a, c, e) => .tuple #[.int .i64 a, .int .i64 c, .int .i64 e, .bool true]
 | none => .tuple #[.int .i64 0, .int .i64 0, .int .i64 0, .bool false]
theorem rngF_none (l : List UInt8) (k : Int) (h : numF l k = none) : rngF l k = none := by
 unfold rngF; unfold numF at h; split
 · rfl
 · rename_i hk; rw [if_neg hk] at h; unfold rngAt; rw [h]
theorem toList_bs (s : ByteArray) : s.toList = bs s := ByteArray.toList_eq s
theorem chk_some (s : ByteArray) (k first c e : Nat) (a : Int) (ha : a = if 0 < c then (first : Int) - 1 else first) (h : (!fmtR a c == (s.extract k e).toList) = false) : chkR (bs s) k first c e = some (a, c, e) := by
 have h1 : fmtR a c = (s.extract k e).toList := by simpa using h
 rw [toList_bs, bs_extract] at h1
 unfold chkR; rw [← ha, if_pos h1]
theorem chk_none (s : ByteArray) (k first c e : Nat) (a : Int) (ha : a = if 0 < c then (first : Int) - 1 else first) (h : (!fmtR a c == (s.extract k e).toList) = true) : chkR (bs s) k first c e = none := by
 have h1 : ¬ fmtR a c = (s.extract k e).toList := by simpa using h
 rw [toList_bs, bs_extract] at h1
 unfold chkR; rw [← ha, if_neg h1]
theorem rng_at (s : ByteArray) (k : Nat) (hk : k ≤ s.size) : rngF (bs s) k = rngAt (bs s) k := by unfold rngF; rw [if_neg (by rw [bs_len]; omega)]; rfl
theorem rng_plain (s : ByteArray) (k first e : Nat) (hk : k ≤ s.size) (ha : numAt (bs s) k = some (first, e)) (h : ¬ (bs s)[e]? = some 44) : rngF (bs s) k = chkR (bs s) k first 1 e := by
 rw [rng_at s k hk]; unfold rngAt; rw [ha]; simp only [if_neg h]
theorem rng_comma (s : ByteArray) (k first e c e2 : Nat) (hk : k ≤ s.size) (ha : numAt (bs s) k = some (first, e)) (h : (bs s)[e]? = some 44) (h2 : numAt (bs s) (e + 1) = some (c, e2)) : rngF (bs s) k = chkR (bs s) k first c e2 := by
 rw [rng_at s k hk]; unfold rngAt; rw [ha]; simp only [if_pos h, h2]
theorem rng_bad (s : ByteArray) (k first e : Nat) (hk : k ≤ s.size) (ha : numAt (bs s) k = some (first, e)) (h : (bs s)[e]? = some 44) (h2 : numAt (bs s) (e + 1) = none) : rngF (bs s) k = none := by
 rw [rng_at s k hk]; unfold rngAt; rw [ha]; simp only [if_pos h, h2]
theorem eq44 (b : UInt8) (h : b = 44) : ((b.toNat : Int) == 44) = true := by rw [h]; rfl
theorem ne44 (b : UInt8) (h : ¬ b = 44) : ((b.toNat : Int) == 44) = false := by
 simp only [beq_eq_false_iff_ne, ne_eq]
 intro e; exact h (UInt8.toNat_inj.1 (show b.toNat = 44 by omega))
set_option maxRecDepth 100000 in
set_option maxHeartbeats 1600000 in
theorem Range_any (s : ByteArray) (k : Int) (w : World) (hs : s.size ≤ 4611686018427387904) (hp : Pow w) :
 Calls Tryz.prog 129 #[.string s, .int .i64 k] w fun e w' => e = .returned (rngV (rngF (bs s) k)) ∧ Below w.heap.size w w' := by
 have HP := Lib.hid hp
 clear hp
 have HN := Lib.hid (fun k w => Number_any s k w hs)
 cases h1 : numF (bs s) k with
 | none =>
   have HR := Lib.hid (rngF_none _ _ h1)
   have H1 := Lib.hid h1
   clear h1
   go_enter Tryz.func129, Tryz.ntmps129
   go_wp2_with (go_at_call 160; refine (HN.out _ _).mono ?_; rintro en w1 ⟨rfl, rfl⟩; rw [H1.out]; unfold numV)
   refine bodyPost_ret (results_tmp4 rfl _ _ _) rfl ?_
   exact ⟨by rw [HR.out]; rfl, Below.refl _ _⟩
 | some p =>
   obtain ⟨first, e⟩ := p
   have hk : 0 ≤ k ∧ k ≤ s.size := by
    unfold numF at h1
    split at h1
    · cases h1
    · rename_i h; rw [bs_len] at h; omega
   obtain ⟨k, rfl⟩ := Int.eq_ofNat_of_zero_le hk.1
   have hk : k ≤ s.size := by omega
   have ha : numAt (bs s) k = some (first, e) := by rw [← numF_in (bs s) k hk]; exact h1
   obtain ⟨hf, hke, hes⟩ := numAt_le (bs s) k hk _ _ ha
   rw [bs_len] at hes
   unfold maxNum at hf
   have H1 := Lib.hid h1
   have HA := Lib.hid ha
   clear h1 ha
   have i0 : (0 : Int) ≤ (k : Int) := by omega
   by_cases hc : ∃ h : e < s.size, s[e] = 44
   · obtain ⟨hlt, h44⟩ := hc
     have hb := eq44 _ h44
     have HQ : Hid ((bs s)[e]? = some 44) := Lib.hid (by rw [bs_get? s e hlt, h44])
     clear h44
     have HI := Lib.hid (numF_in (bs s) (e + 1) (by rw [bs_len]; omega))
     cases h2 : numAt (bs s) (e + 1) with
     | none =>
       have H2 : Hid (numF (bs s) ((e : Int) + 1) = none) := Lib.hid (HI.out.trans h2)
       have HR := Lib.hid (rng_bad s k first e hk HA.out HQ.out h2)
       clear h2
       go_enter Tryz.func129, Tryz.ntmps129
       go_wp2_with (go_at_call 160; refine (HN.out _ _).mono ?_; rintro en w1 ⟨rfl, rfl⟩; (first | rw [H1.out] | rw [H2.out]); unfold numV)
       refine bodyPost_ret (results_tmp4 rfl _ _ _) rfl ?_
       exact ⟨by rw [HR.out]; rfl, Below.refl _ _⟩
     | some p =>
       obtain ⟨c, e2⟩ := p
       have H2 : Hid (numF (bs s) ((e : Int) + 1) = some (c, e2)) := Lib.hid (HI.out.trans h2)
       have HR := Lib.hid (rng_comma s k first e c e2 hk HA.out HQ.out h2)
       obtain ⟨hf2, hke2, hes2⟩ := numAt_le (bs s) (e + 1) (by rw [bs_len]; omega) _ _ h2
       rw [bs_len] at hes2
       unfold maxNum at hf2
       clear h2
       have i1 : (k : Int) ≤ (e2 : Int) := by omega
       have i2 : (e2 : Int) ≤ (s.size : Int) := by omega
       by_cases h0 : 0 < c
       · have HE : Hid ((first : Int) - 1 = if 0 < c then (first : Int) - 1 else first) := Lib.hid (by rw [if_pos h0])
         have HG := Lib.hid (fun w (h : Pow w) => FormatRange_any ((first : Int) - 1) c w (by omega) (by omega) (by omega) (by omega) h)
         go_enter Tryz.func129, Tryz.ntmps129
         go_wp2_with (go_at_call 160; refine (HN.out _ _).mono ?_; rintro en w1 ⟨rfl, rfl⟩; (first | rw [H1.out] | rw [H2.out]); unfold numV)
         go_region_held3 (fun _ => True) (trivial) (first | (go_at_call 120; refine (HG.out _ (HP.out.stays ((Below.refl _ _).drew))).mono ?_; rintro en w1 ⟨rfl, hbel⟩))
         go_wp2_with fail
         · refine bodyPost_ret (results_tmp4 rfl _ _ _) rfl ?_
           exact ⟨by rw [HR.out, chk_none s k first c e2 _ HE.out (by assumption)]; rfl, (Below.refl _ _).drew.trans hbel⟩
         · refine bodyPost_ret (results_tmp4 rfl _ _ _) rfl ?_
           exact ⟨by rw [HR.out, chk_some s k first c e2 _ HE.out (by assumption)]; rfl, (Below.refl _ _).drew.trans hbel⟩
       · obtain rfl : c = 0 := by omega
         have HE : Hid ((first : Int) = if 0 < 0 then (first : Int) - 1 else first) := Lib.hid rfl
         have HG := Lib.hid (fun w (h : Pow w) => FormatRange_any (first : Int) 0 w (by omega) (by omega) (by omega) (by omega) h)
         clear h0
         go_enter Tryz.func129, Tryz.ntmps129
         go_wp2_with (go_at_call 160; refine (HN.out _ _).mono ?_; rintro en w1 ⟨rfl, rfl⟩; (first | rw [H1.out] | rw [H2.out]); unfold numV)
         go_region_held3 (fun _ => True) (trivial) (first | (go_at_call 120; refine (HG.out _ (HP.out.stays ((Below.refl _ _).drew))).mono ?_; rintro en w1 ⟨rfl, hbel⟩))
         go_wp2_with fail
         · refine bodyPost_ret (results_tmp4 rfl _ _ _) rfl ?_
           exact ⟨by rw [HR.out, chk_none s k first 0 e2 _ HE.out (by assumption)]; rfl, (Below.refl _ _).drew.trans hbel⟩
         · refine bodyPost_ret (results_tmp4 rfl _ _ _) rfl ?_
           exact ⟨by rw [HR.out, chk_some s k first 0 e2 _ HE.out (by assumption)]; rfl, (Below.refl _ _).drew.trans hbel⟩
   · have HR := Lib.hid (rng_plain s k first e hk HA.out (by
      intro h
      by_cases hlt : e < s.size
      · rw [bs_get? s e hlt] at h; exact hc ⟨hlt, Option.some.inj h⟩
      · rw [List.getElem?_eq_none (by rw [bs_len]; omega)] at h; cases h))
     have i1 : (k : Int) ≤ (e : Int) := by omega
     have i2 : (e : Int) ≤ (s.size : Int) := by omega
     have HE : Hid ((first : Int) - 1 = if 0 < 1 then (first : Int) - 1 else first) := Lib.hid rfl
     have HG := Lib.hid (fun w (h : Pow w) => FormatRange_any ((first : Int) - 1) 1 w (by omega) (by omega) (by omega) (by omega) h)
     by_cases hlt : e < s.size
     · have hb := ne44 s[e] (fun h => hc ⟨hlt, h⟩)
       clear hc
       go_enter Tryz.func129, Tryz.ntmps129
       go_wp2_with (go_at_call 160; refine (HN.out _ _).mono ?_; rintro en w1 ⟨rfl, rfl⟩; rw [H1.out]; unfold numV)
       go_region_held3 (fun _ => True) (trivial) (first | (go_at_call 120; refine (HG.out _ (HP.out.stays ((Below.refl _ _).drew))).mono ?_; rintro en w1 ⟨rfl, hbel⟩))
       go_wp2_with fail
       · refine bodyPost_ret (results_tmp4 rfl _ _ _) rfl ?_
         exact ⟨by rw [HR.out, chk_none s k first 1 e _ HE.out (by assumption)]; rfl, (Below.refl _ _).drew.trans hbel⟩
       · refine bodyPost_ret (results_tmp4 rfl _ _ _) rfl ?_
         exact ⟨by rw [HR.out, chk_some s k first 1 e _ HE.out (by assumption)]; rfl, (Below.refl _ _).drew.trans hbel⟩
     · have hd : decide ((e : Int) < (s.size : Int)) = false := by simp only [decide_eq_false_iff_not]; omega
       clear hc
       go_enter Tryz.func129, Tryz.ntmps129
       go_wp2_with (go_at_call 160; refine (HN.out _ _).mono ?_; rintro en w1 ⟨rfl, rfl⟩; rw [H1.out]; unfold numV)
       go_region_held3 (fun _ => True) (trivial) (first | (go_at_call 120; refine (HG.out _ (HP.out.stays ((Below.refl _ _).drew))).mono ?_; rintro en w1 ⟨rfl, hbel⟩))
       go_wp2_with fail
       · refine bodyPost_ret (results_tmp4 rfl _ _ _) rfl ?_
         exact ⟨by rw [HR.out, chk_none s k first 1 e _ HE.out (by assumption)]; rfl, (Below.refl _ _).drew.trans hbel⟩
       · refine bodyPost_ret (results_tmp4 rfl _ _ _) rfl ?_
         exact ⟨by rw [HR.out, chk_some s k first 1 e _ HE.out (by assumption)]; rfl, (Below.refl _ _).drew.trans hbel⟩
end Sc
end
end Go.Proofs.YtjecfmbecgpbmaaGreatDoor
