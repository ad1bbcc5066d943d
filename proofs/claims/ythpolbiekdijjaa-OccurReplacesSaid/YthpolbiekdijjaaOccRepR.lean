/-
  Walks of layer 7's reference: Replace. Conditions: needle, text and replacement have at most 1000 bytes.
-/
import Derived.Test.YthpolbiekdijjaaOccRefB
import Derived.Test.YthpolbiekdijjaaOccRep
import Derived.Test.YthpolbiekdijjaaComBytes
namespace Go.Proofs.Ythpolbiekdijjaa
open Go.RowKit
namespace Oc
open Tx Cm
theorem acc_take {n s b : List UInt8} {L : List Nat} {k : Nat} (h : k < L.length) : accR n s b (L.take (k + 1)) = stepR n s b (accR n s b (L.take k)) L[k] := by
  rw [List.take_succ_eq_append_getElem h, accR_snoc]
theorem row_cell {w : World} {base N c b o k : Nat} {L : List Nat} (h : w.ownsRow base tInt 1 (.slice (some ⟨b, o, none⟩) N c) N (intsV (natsI L))) (hx : k < L.length) : w.cell? ⟨b, o + k, none⟩ = some (.int .i64 (L[k] : Int)) := by
  have hlv : (intsV (natsI L)).length = L.length := by rw [intsV_len, natsI_len]
  obtain ⟨_, b1, o1, e, hcells⟩ := (RdV.of_own h).at (by omega)
  cases e
  rw [hcells k (by omega)]
  simp [intsV, natsI]
set_option maxRecDepth 100000 in
set_option maxHeartbeats 4000000 in
theorem ReplaceR_any (n s b : ByteArray) (w : World) (hn : n.size ≤ 1000) (hs : s.size ≤ 1000) (hb : b.size ≤ 1000) :
    Calls Try.prog 21 #[.string n, .string s, .string b] w (ReplPost (replF (bs n) (bs s) (bs b)) w) := by
  obtain ⟨i0, hi, hz0, hz1, hz2⟩ := info_parts info_byte
  have HPs := Lib.hid (PositionsR_any n s w (by omega) (by omega))
  obtain ⟨L, hL⟩ : ∃ L, posL (bs n) (bs s) 0 = L := ⟨_, rfl⟩
  have HPre : Hid (∀ k, L.take k <+: posL (bs n) (bs s) 0) := Lib.hid (fun k => by rw [hL]; exact List.take_prefix _ _)
  have HF : Hid (replF (bs n) (bs s) (bs b) = (accR (bs n) (bs s) (bs b) L).1 ++ (bs s).drop (accR (bs n) (bs s) (bs b) L).2) := Lib.hid (by unfold replF; rw [hL])
  have HLen := Lib.hid (replF_len (n := bs n) (s := bs s) (b := bs b))
  rw [hL] at HPs
  clear hL
  go_enter Try.func21, Try.ntmps21
  go_wp2_with (go_at_call 16; refine HPs.out.mono ?_; rintro e w1 ⟨v, rfl, hO, hB⟩; have HO := Lib.hid hO; have HB := Lib.hid hB; obtain ⟨A, c, rfl⟩ := own_form hO; clear hO hB HPs)
  obtain ⟨N, hN⟩ : ∃ N, N = L.length := ⟨_, rfl⟩
  rw [← hN] at HO ⊢
  have HN := Lib.hid hN
  have hN3 : N ≤ 1000 := by
    have h1 := acc_pre (b := bs b) (HPre.out N)
    rw [List.length_take, bs_len] at h1; omega
  clear hN
  go_loopw [9, 10, 11] (fun v at_ i wr => ∃ k : Nat, i = .int .i64 (k : Int) ∧ k ≤ N ∧ at_ = .int .i64 ((accR (bs n) (bs s) (bs b) (L.take k)).2 : Int) ∧ Hid (wr.ownsRow w.heap.size tU8 1 v (accR (bs n) (bs s) (bs b) (L.take k)).1.length (Lib.byteCells (accR (bs n) (bs s) (bs b) (L.take k)).1)) ∧
    Hid (wr.ownsRow w.heap.size tInt 1 (.slice A N c) N (intsV (natsI L))) ∧ Hid (Below w.heap.size w wr)) (fun _ _ i _ => N - (intOf i).toNat)
  case atStart => exact ⟨0, by go_num, Nat.zero_le _, by rfl, Lib.hid (World.ownsRow_nil _ _ _ _), HO, HB⟩
  case round =>
    obtain ⟨k, rfl, hk, rfl, HR, HI, HBr⟩ := hrel
    obtain ⟨hd1, hd2, hd3⟩ := acc_pre (b := bs b) (HPre.out k)
    rw [bs_len] at hd1 hd2 hd3
    have hbd : (L.take k).length * b.size ≤ 1000 * 1000 := Nat.mul_le_mul (by omega) hb
    have hln : (accR (bs n) (bs s) (bs b) (L.take k)).1.length ≤ 1001000 := by omega
    by_cases hlt : k < N
    · have hx : k < L.length := by rw [← HN.out]; exact hlt
      obtain ⟨hn1, hn2, hn3⟩ := acc_next (b := bs b) (n := bs n) (s := bs s) (pre := L.take k) (x := L[k]) (by rw [← List.take_succ_eq_append_getElem hx]; exact HPre.out (k + 1))
      rw [bs_len, bs_len] at hn2
      rw [bs_len] at hn3
      have HT : Hid (accR (bs n) (bs s) (bs b) (L.take (k + 1)) = stepR (bs n) (bs s) (bs b) (accR (bs n) (bs s) (bs b) (L.take k)) L[k]) := Lib.hid (acc_take hx)
      have hlv : (intsV (natsI L)).length = L.length := by rw [intsV_len, natsI_len]
      obtain ⟨he, b1, o1, rfl, hcells⟩ := (RdV.of_own HI.out).at (by omega)
      have hcell := row_cell HI.out hx
      have HCell : Hid (∀ W : World, W.ownsRow w.heap.size tInt 1 (.slice (some ⟨b1, o1, none⟩) N c) N (intsV (natsI L)) → W.cell? ⟨b1, o1 + k, none⟩ = some (.int .i64 (L[k] : Int))) := Lib.hid (fun W h => row_cell h hx)
      clear hcells hlv he
      generalize L[k] = x at hn1 hn2 HT hcell HCell
      have HX : Hid (Lib.byteCells (accR (bs n) (bs s) (bs b) (L.take (k + 1))).1 = Lib.byteCells (accR (bs n) (bs s) (bs b) (L.take k)).1 ++ Lib.strCells (s.extract (accR (bs n) (bs s) (bs b) (L.take k)).2 x) ++ Lib.strCells b) := Lib.hid (by
        rw [HT.out, strCells_bs, strCells_bs, bs_slice, ← cells_app, ← cells_app]; rfl)
      have HXl : Hid ((accR (bs n) (bs s) (bs b) (L.take (k + 1))).1.length = (accR (bs n) (bs s) (bs b) (L.take k)).1.length + (s.extract (accR (bs n) (bs s) (bs b) (L.take k)).2 x).size + b.size) := Lib.hid (by
        have h1 := congrArg List.length HX.out
        rw [List.length_append, List.length_append, Lib.byteCells_length, Lib.byteCells_length, Lib.strCells_length, Lib.strCells_length] at h1
        exact h1)
      have HX2 : Hid (((accR (bs n) (bs s) (bs b) (L.take (k + 1))).2 : Int) = (x : Int) + (n.size : Int)) := Lib.hid (by rw [HT.out]; show ((x + (bs n).length : Nat) : Int) = _; rw [bs_len]; omega)
      have hsl : (s.extract (accR (bs n) (bs s) (bs b) (L.take k)).2 x).size ≤ 1000 := by rw [ByteArray.size_extract]; omega
      have hsl2 := hsl
      rw [ByteArray.size_extract] at hsl2 HXl
      obtain ⟨Ao, co, rfl⟩ := own_form HR.out
      clear HT hbd hd2
      generalize (accR (bs n) (bs s) (bs b) (L.take k)).2 = d at hd1 hn1 HX HXl hsl hsl2
      generalize (accR (bs n) (bs s) (bs b) (L.take k)).1 = o at HR HX HXl hln
      have hmx : ∀ m, m ≤ 2000000 → m ≤ maxLen := fun m h => by unfold maxLen; omega
      have HMx := Lib.hid hmx
      clear hmx
      have i1 : (0 : Int) ≤ (k : Int) := by omega
      have i2 : (k : Int) < (N : Int) := by omega
      have hz := HBr.out.size
      go_wp2_with (first
        | (at_builtin; refine Lib.wpList_append_own_string _ rfl _ _ 51 9 rfl w.heap.size tU8 i0 Try.underlying51 Try.underlying9 hi hz0 hz1 hz2 _ _ _ rfl HR.out (s.extract d x) rfl (HMx.out _ (by omega)) (by omega) hz ?_; intro v3 w3 ho3 hg3 _; rw [ByteArray.size_extract] at ho3; have HR3 := Lib.hid ho3; have HI3 := Lib.hid (HI.out.kept hg3 (own_ne HI.out HR.out (by decide))); have HB3 := Lib.hid (HBr.out.trans (below_app HR.out hg3 hz)); have hz3 := HB3.out.size; clear HR hg3 hcell; obtain ⟨A3, c3, rfl⟩ := own_form ho3; clear ho3)
        | (at_builtin; refine Lib.wpList_append_own_string _ rfl _ _ 51 9 rfl w.heap.size tU8 i0 Try.underlying51 Try.underlying9 hi hz0 hz1 hz2 _ _ _ rfl HR3.out b rfl (HMx.out _ (by omega)) (by omega) hz3 ?_; intro v4 w4 ho4 hg4 _; have HR4 := Lib.hid ho4; have HI4 := Lib.hid (HI3.out.kept hg4 (own_ne HI3.out HR3.out (by decide))); have HB4 := Lib.hid (HB3.out.trans (below_app HR3.out hg4 hz3)); have hcell4 := HCell.out _ HI4.out; clear HR3 hg4; obtain ⟨A4, c4, rfl⟩ := own_form ho4; clear ho4))
      go_roundw
      case rel => exact ⟨k + 1, by go_num, by omega, by rw [HX2.out], Lib.hid (by rw [HXl.out, HX.out]; exact HR4.out), HI4, HB4⟩
      case measure => simp [intOf]; omega
    · obtain rfl : k = N := by omega
      have hd : decide (k < k) = false := by simp
      have hTk : L.take k = L := List.take_of_length_le (by rw [← HN.out]; exact Nat.le_refl _)
      rw [hTk] at HR hd1 hd2 hln
      have HXe : Hid (Lib.byteCells (accR (bs n) (bs s) (bs b) L).1 ++ Lib.strCells (s.extract (accR (bs n) (bs s) (bs b) L).2 s.size) = Lib.byteCells (replF (bs n) (bs s) (bs b))) := Lib.hid (by
        rw [strCells_bs, bs_slice, ← cells_app, HF.out, List.take_of_length_le (by rw [List.length_drop, bs_len]; exact Nat.le_refl _)])
      have HXl : Hid ((accR (bs n) (bs s) (bs b) L).1.length + (s.size - (accR (bs n) (bs s) (bs b) L).2) = (replF (bs n) (bs s) (bs b)).length) := Lib.hid (by
        rw [HF.out, List.length_append, List.length_drop, bs_len])
      have hrl : (replF (bs n) (bs s) (bs b)).length ≤ 1001000 := by
        have h1 := HLen.out
        rw [bs_len, bs_len] at h1
        have := Nat.mul_le_mul hs hb
        omega
      rw [hTk]
      have hz := HBr.out.size
      have HR0 := Lib.hid HR.out
      obtain ⟨Ao, co, rfl⟩ := own_form HR.out
      have HP := Lib.hid (fun (W : World) (v : Value) (h : W.ownsRow w.heap.size tU8 1 v (replF (bs n) (bs s) (bs b)).length (Lib.byteCells (replF (bs n) (bs s) (bs b)))) => own_string (L := replF (bs n) (bs s) (bs b)) h)
      have HMx : Hid (∀ m, m ≤ 2000000 → m ≤ maxLen) := Lib.hid (fun m h => by unfold maxLen; omega)
      have hes : (s.extract (accR (bs n) (bs s) (bs b) L).2 s.size).size ≤ 1000 := by rw [ByteArray.size_extract]; omega
      clear hbd hd2 hTk HR
      generalize (accR (bs n) (bs s) (bs b) L).2 = d at hd1 HXe HXl hes
      generalize (accR (bs n) (bs s) (bs b) L).1 = o at HR0 HXe HXl hln
      generalize hrl0 : replF (bs n) (bs s) (bs b) = rl at HXe HXl hrl HP
      have HRl := Lib.hid hrl0
      clear hrl0
      have hgt : decide (16777216 < rl.length) = false := by simp only [decide_eq_false_iff_not]; omega
      go_wp2_with (at_builtin; refine Lib.wpList_append_own_string _ rfl _ _ 51 9 rfl w.heap.size tU8 i0 Try.underlying51 Try.underlying9 hi hz0 hz1 hz2 _ _ _ rfl HR0.out (s.extract d s.size) rfl (HMx.out _ (by omega)) (by omega) hz ?_; intro v3 w3 ho3 hg3 _; rw [ByteArray.size_extract, Nat.min_self, HXl.out, HXe.out] at ho3; have HB3 := Lib.hid (HBr.out.trans (below_app HR0.out hg3 hz)); have hcv := HP.out _ _ ho3; clear HR0 hg3; obtain ⟨A3, c3, rfl⟩ := own_form ho3; clear ho3)
      go_ret2
      exact ⟨by rw [HRl.out]; rfl, HB3.out⟩
end Oc
end Go.Proofs.Ythpolbiekdijjaa
