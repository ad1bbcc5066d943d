/-
  The walk of the law OccurPeriod of layer 7. No conditions.
-/
import Derived.Test.YthpolbiekdijjaaOccWord
namespace Go.Proofs.Ythpolbiekdijjaa
open Go.RowKit
namespace Oc
open Tx Cm
theorem bordF_grow {n : List UInt8} {k : Nat} (hk : 1 ≤ k) (h : k < n.length) : bordF n (k + 1) ≤ bordF n k + 1 := by
  rw [bordF_step hk h]
  exact (longF_is (by have := bordF_lt n hk; omega)).le.1
theorem bordF_one (n : List UInt8) : bordF n 1 = 0 := bordF_eq (isB_one n)
theorem bord_per (s : ByteArray) {k i : Nat} (hk : 1 ≤ k) (hks : k ≤ s.size) (hi : i < bordF (bs s) k) : ∃ (p : Nat) (_ : p + bordF (bs s) k = i + k) (h1 : i < s.size) (h2 : p < s.size), s[i] = s[p] := by
  obtain ⟨h1, h2, _⟩ := bordF_is (bs s) hk
  refine ⟨i + k - bordF (bs s) k, by omega, by omega, by omega, ?_⟩
  have h3 := (suf_iff (by omega) (by rw [bs_len]; exact hks)).1 h2
  have h4 := congrArg (fun l => l[i]?) h3
  simp only [List.getElem?_take, List.getElem?_drop] at h4
  rw [if_pos hi, if_pos hi, bs_get? s i (by omega), show k - bordF (bs s) k + i = i + k - bordF (bs s) k by omega, bs_get? s _ (by omega)] at h4
  exact Option.some.inj h4
set_option maxRecDepth 100000 in
set_option maxHeartbeats 4000000 in
theorem period_walk (v : Value) (N : Nat) (w : World) (hv : RdI w v N) (hN : N ≤ maxLen) :
    Calls Try.prog 8 #[v] w fun e w' => e = .returned (.bool true) ∧ Below w.heap.size w w' := by
  have HAw := Lib.hid (fun w => awake_any w)
  have HW := Lib.hid (word_any v N 0 30 w hv hN (by omega) (by omega))
  clear hv hN
  go_enter Try.func8, Try.ntmps8
  go_wp2_with fail
  refine HW.out.mono ?_
  rintro e w1 ⟨s, hs, _, rfl, hb1⟩
  have HB1 := Lib.hid hb1
  have HBo := Lib.hid (Borders_any s w1 (by omega))
  clear hb1 HW
  go_wp2_with fail
  refine HBo.out.mono ?_
  rintro e w2 ⟨G, rfl, _, hr, hb2⟩
  have HB2 := Lib.hid (HB1.out.trans (hb2.mono HB1.out.size))
  rw [bs_len] at hr ⊢
  have HR := Lib.hid hr
  clear hr hb2 HBo HB1
  go_wp2_with fail
  go_loopw [5] (fun i wr => ∃ j : Nat, i = .int .i64 ((j : Int) + 1) ∧ j ≤ s.size ∧ ∃ m, wr = w2.drewN m) (fun i _ => s.size + 1 - (intOf i).toNat)
  case atStart => exact ⟨0, by go_num, Nat.zero_le _, 0, rfl⟩
  case round =>
    obtain ⟨j, rfl, hj, m, rfl⟩ := hrel
    by_cases hlt : j < s.size
    · have hd : decide ((j : Int) + 1 ≤ (s.size : Int)) = true := by simp only [decide_eq_true_eq]; omega
      have hc : w2.cell? ⟨G, j, none⟩ = some (.int .i64 (bordF (bs s) (j + 1) : Int)) := by
        rw [HR.out.cell hlt]
        show some (Value.int .i64 (bordI (bs s) (bs s).length j)) = _
        unfold bordI; rw [if_pos (by rw [bs_len]; exact hlt)]
      have hbl := bordF_lt (bs s) (k := j + 1) (by omega)
      have HPer := Lib.hid (fun i (h : i < bordF (bs s) (j + 1)) => bord_per s (k := j + 1) (by omega) (by omega) h)
      have i1 : (0 : Int) ≤ (j : Int) := by omega
      have i2 : (j : Int) < (s.size : Int) := by omega
      cases j with
      | zero =>
        have hb0 := bordF_one (bs s)
        rw [hb0] at hc hbl HPer
        rw [show ((0 : Nat) : Int) + 1 = 1 from rfl] at hd ⊢
        have hd1 : decide ((1 : Int) ≤ (s.size : Int)) = true := hd
        clear HPer hd
        go_wp2_with fail
        refine wp_loop_rounds 1 ?_
        rw [rounds_succ]
        go_wp2_with fail
        go_roundw
        case rel => exact ⟨1, by go_num, by omega, m, rfl⟩
        case measure => simp [intOf]; omega
      | succ i =>
        have hg := bordF_grow (n := bs s) (k := i + 1) (by omega) (by rw [bs_len]; omega)
        have hc2 : w2.cell? ⟨G, i, none⟩ = some (.int .i64 (bordF (bs s) (i + 1) : Int)) := by
          rw [HR.out.cell (by omega)]
          show some (Value.int .i64 (bordI (bs s) (bs s).length i)) = _
          unfold bordI; rw [if_pos (by rw [bs_len]; omega)]
        have hb0 := bordF_lt (bs s) (k := i + 1) (by omega)
        generalize bordF (bs s) (i + 1) = b0 at hg hc2 hb0
        generalize bordF (bs s) (i + 1 + 1) = b at hg hc hbl HPer
        rw [show ((i + 1 : Nat) : Int) = (i : Int) + 1 from rfl] at hd i1 i2 ⊢
        have i3 : (0 : Int) ≤ (i : Int) := by omega
        have i4 : (i : Int) < (s.size : Int) := by omega
        have i5 : (i : Int) + 1 + 1 - 2 = (i : Int) := by omega
        have i6 : ((i : Int) + 1).toNat = i + 1 := by omega
        have e1 : ((i : Int) + 1 + 1 == 1) = false := by rw [beq_eq_false_iff_ne]; omega
        have e2 : decide ((1 : Int) < (i : Int) + 1 + 1) = true := by simp only [decide_eq_true_eq]; omega
        have e3 : decide ((b0 : Int) + 1 < (b : Int)) = false := by simp only [decide_eq_false_iff_not]; omega
        have e4 : decide ((i : Int) + 1 + 1 ≤ (b : Int)) = false := by simp only [decide_eq_false_iff_not]; omega
        have e5 : decide ((b : Int) < 0) = false := by simp only [decide_eq_false_iff_not]; omega
        have i7 : (b0 : Int) ≤ 100 := by omega
        have i8 : (b : Int) ≤ 100 := by omega
        have i9 : (i : Int) ≤ 100 := by omega
        go_wp2_with fail
        go_loopw [7] (fun u wr => ∃ q : Nat, u = .int .i64 (q : Int) ∧ q ≤ b ∧ ∃ m, wr = w2.drewN m) (fun u _ => b - (intOf u).toNat)
        case atStart => exact ⟨0, by go_num, Nat.zero_le _, m, rfl⟩
        case round =>
          obtain ⟨q, rfl, hq, m2, rfl⟩ := hrel
          clear hc hc2 e1 e2 e3 e4 e5
          by_cases hqb : q < b
          · obtain ⟨p, hp, h1, h2, h3⟩ := HPer.out q hqb
            have f1 : decide ((p : Int) < (i : Int) + 1 + 1) = true := by simp only [decide_eq_true_eq]; omega
            have f8 : IntKind.i64.wrap ((q : Int) + ((i : Int) + 1 + 1) - (b : Int)) = (p : Int) := by rw [IntWalk.i64_in _ (by omega)]; omega
            have f3 : (0 : Int) ≤ (p : Int) := by omega
            have f4 : (p : Int) < (s.size : Int) := by omega
            clear hp
            have f5 : (0 : Int) ≤ (q : Int) := by omega
            have f6 : (q : Int) < (s.size : Int) := by omega
            have f7 : IntKind.i64.wrap ((q : Int) + ((i : Int) + 1 + 1)) = (q : Int) + ((i : Int) + 1 + 1) := IntWalk.i64_in _ (by omega)
            generalize hx : s[q] = x at h3
            have hne : ((x.toNat : Int) == (s[p].toNat : Int)) = true := by rw [h3]; simp
            go_wp2_with fail
            go_quiet (fail)
            go_wp2_with fail
            go_roundw
            case rel => exact ⟨q + 1, by go_num, by omega, m2 + nq, rfl⟩
            case measure => simp [intOf]; omega
          · have f1 : decide ((q : Int) + ((i : Int) + 1 + 1) - (b : Int) < (i : Int) + 1 + 1) = false := by simp only [decide_eq_false_iff_not]; omega
            go_wp2_with fail
            go_roundw
            case rel => exact ⟨i + 1 + 1, by go_num, by omega, m2, rfl⟩
            case measure => simp [intOf]; omega
    · have hd : decide ((j : Int) + 1 ≤ (s.size : Int)) = false := by simp only [decide_eq_false_iff_not]; omega
      go_wp2_with fail
      refine (HAw.out _).mono ?_
      rintro e w4 ⟨rfl, hb⟩
      go_wp2_with fail
      go_ret
      exact ⟨rfl, (below_drewN HB2.out m).trans (hb.mono (below_drewN HB2.out m).size)⟩
end Oc
end Go.Proofs.Ythpolbiekdijjaa
