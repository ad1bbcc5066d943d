/-
  The walk of the law ShortestMetric of layer 9. No conditions.
-/
import Derived.Test.YtlnjhacchnfbkaaShoGen
import Derived.Test.YtlnjhacchnfbkaaShoMetM
import Derived.Test.YtlnjhacchnfbkaaComIntsQ
namespace Go.Proofs.Ytlnjhacchnfbkaa
open Go.RowKit
namespace Sh
open Cm Sc Au
/-- Distance on lists that read, few lines. -/
theorem Dist_rd (va vb : Value) (a b : List Int) (w : World) (ha : RdV w va (intsV a)) (hb : RdV w vb (intsV b)) (hla : a.length ≤ 4096) (hlb : b.length ≤ 4096) (hza : ∀ z ∈ a, zB z) (hzb : ∀ z ∈ b, zB z) :
    Calls Try.prog 14 #[va, vb] w (NumPost (dist a b) w) := by
  obtain ⟨A, c, rfl⟩ := ha.form
  obtain ⟨B, d, rfl⟩ := hb.form
  rw [intsV_len] at ha hb ⊢
  rw [intsV_len]
  exact Distance_at A B c d _ _ a b w (Lib.hid ha) (Lib.hid hb) hla hlb (Lib.hid rfl) (Lib.hid rfl) (Lib.hid hza) (Lib.hid hzb)
theorem eqL_dist (a b : List Int) : (dist a b == 0) = eqL a b := by
  by_cases e : a = b
  · rw [eqL_T e, beq_iff_eq]; exact (dist_zero a b).2 e
  · rw [eqL_F e, beq_eq_false_iff_ne]; exact fun h => e ((dist_zero a b).1 h)
set_option maxRecDepth 100000 in
set_option maxHeartbeats 8000000 in
theorem metric_walk (v : Value) (us : List Int) (kinds : Int) (w : World) (h : RdV w v (intsV us)) (hu : us.length ≤ maxLen) (hk : -9223372036854775808 ≤ kinds ∧ kinds ≤ 9223372036854775807) :
    Calls Try.prog 6 #[v, .int .i64 kinds] w (AwPost w) := by
  have HAw := Lib.hid (fun w => awake_any w)
  have HPa := Lib.hid (pair_any v us kinds w h hu hk)
  have HAt := Lib.hid (fun (wq : World) (k : Int) (hb : Below w.heap.size w wq) (h0 : 0 ≤ k) (h1 : k ≤ 1000000) => At_fn v us k wq (h.below hb) hu h0 h1)
  have HId := Lib.hid (fun (wq : World) (fr : Int) (N : Nat) (kd : Int) (hb : Below w.heap.size w wq) hf hN hkd => Ids_any v us fr N kd wq (h.below hb) hu hf hN hkd)
  have HDs := Lib.hid Dist_rd
  have HIn := Lib.hid Ints_any
  obtain ⟨A, c, rfl⟩ := h.form
  clear h hu
  rw [intsV_len] at HAt HId HPa ⊢
  have HMk := Lib.hid (fun w => Tx.Mod_any kinds 5 w (by omega) (by omega) hk.1 hk.2)
  have m1 := Tx.modF_lo kinds 5 (by omega)
  have m2 := Tx.modF_hi kinds 5 (by omega)
  generalize Tx.modF kinds 5 = kd at *
  have HA0 := Lib.hid (fun wq hb => HAt.out wq 2 hb (by omega) (by omega))
  have x1 := atF_lo us 2
  have x2 := atF_hi us 2
  generalize atF us 2 = x at *
  have HM0 := Lib.hid (fun w => Tx.Mod_any x 13 w (by omega) (by omega) x1 x2)
  have n1 := Tx.modF_lo x 13 (by omega)
  have n2 := Tx.modF_hi x 13 (by omega)
  obtain ⟨N, hN⟩ : ∃ N : Nat, Tx.modF x 13 = (N : Int) := ⟨_, (Int.toNat_of_nonneg n1).symm⟩
  rw [hN] at HM0 n1 n2
  have HI0 := Lib.hid (fun wq hb => HId.out wq 70 N (1 + kd) hb ⟨by omega, by omega⟩ (by omega) ⟨by omega, by omega⟩)
  have hN12 : N ≤ 12 := by omega
  clear hN HAt HId x1 x2 hk
  generalize us.length = nu at *
  go_enter Try.func6, Try.ntmps6
  go_wp2_with fail
  refine HPa.out.mono ?_
  rintro e w1 ⟨va, vb, a, b, rfl, ⟨hla, hza⟩, ⟨hlb, hzb⟩, hoa, hob, hb1⟩
  obtain ⟨A1, c1, rfl⟩ := own_form hoa
  obtain ⟨A2, c2, rfl⟩ := own_form hob
  have HA1 := Lib.hid (RdV.of_own hoa)
  have HB1 := Lib.hid (RdV.of_own hob)
  have HW1 := Lib.hid hb1
  have HZa := Lib.hid hza
  have HZb := Lib.hid hzb
  clear hoa hob hb1 hza hzb HPa
  go_wp2_with fail
  refine (HA0.out _ HW1.out).mono ?_
  rintro e w2 ⟨rfl, rfl⟩
  go_wp2_with fail
  refine (HM0.out _).mono ?_
  rintro e w3 ⟨rfl, rfl⟩
  go_wp2_with fail
  refine (HMk.out _).mono ?_
  rintro e w3 ⟨rfl, rfl⟩
  go_wp2_with fail
  refine (HI0.out _ HW1.out).mono ?_
  rintro e w4 ⟨vc, cc, rfl, hlc, hzc, hoc, hb4⟩
  obtain ⟨A3, c3, rfl⟩ := own_form hoc
  have HLc := Lib.hid hlc
  have hlc2 : cc.length ≤ 12 := by rw [hlc]; exact hN12
  have HC4 := Lib.hid (RdV.of_own hoc)
  have HA4 := Lib.hid (HA1.out.below hb4)
  have HB4 := Lib.hid (HB1.out.below hb4)
  have HW4 := Lib.hid (HW1.out.trans (hb4.mono HW1.out.size))
  have HZc := Lib.hid hzc
  clear hoc hb4 hzc hlc HA1 HB1 HW1
  -- the five distances
  have d1 := dist_lo a b
  have dc := dist_comm a b
  have dt := dist_tri a b cc
  have ds := dist_self a
  have de := eqL_dist a b
  have d2 := dist_lo b cc
  have d3 := dist_lo a cc
  have HD1 := Lib.hid (fun w h1 h2 => HDs.out (.slice A1 a.length c1) (.slice A2 b.length c2) a b w h1 h2 (by omega) (by omega) HZa.out HZb.out)
  have HD2 := Lib.hid (fun w h1 h2 => HDs.out (.slice A2 b.length c2) (.slice A1 a.length c1) b a w h1 h2 (by omega) (by omega) HZb.out HZa.out)
  have HD3 := Lib.hid (fun w h1 h2 => HDs.out (.slice A2 b.length c2) (.slice A3 N c3) b cc w h1 h2 (by omega) (by omega) HZb.out HZc.out)
  have HD4 := Lib.hid (fun w h1 h2 => HDs.out (.slice A1 a.length c1) (.slice A3 N c3) a cc w h1 h2 (by omega) (by omega) HZa.out HZc.out)
  have HD5 := Lib.hid (fun w h1 h2 => HDs.out (.slice A1 a.length c1) (.slice A1 a.length c1) a a w h1 h2 (by omega) (by omega) HZa.out HZa.out)
  have HI1 := Lib.hid (fun w h1 h2 => HIn.out (.slice A1 a.length c1) (.slice A2 b.length c2) a b w (by omega) (by omega) h1 h2)
  rw [← dc] at HD2
  rw [ds] at HD5
  rw [← de] at HI1
  clear dc ds de HDs HIn
  generalize dist a b = x1 at *
  generalize dist b cc = x2 at *
  generalize dist a cc = x3 at *
  generalize ha' : a.length = na at *
  generalize hb' : b.length = nb at *
  clear ha' hb'
  obtain ⟨d11, d12, d13, d14⟩ := d1
  obtain ⟨d21, d22, d23, d24⟩ := d2
  obtain ⟨d31, d32, d33, d34⟩ := d3
  go_wp2_with fail
  refine (HD1.out _ HA4.out HB4.out).mono ?_
  rintro e w5 ⟨rfl, hb⟩
  have HA5 := Lib.hid (HA4.out.below hb)
  have HB5 := Lib.hid (HB4.out.below hb)
  have HC5 := Lib.hid (HC4.out.below hb)
  have HW5 := Lib.hid (HW4.out.trans (hb.mono HW4.out.size))
  clear hb HA4 HB4 HC4 HW4
  go_wp2_with fail
  refine (HD2.out _ HB5.out HA5.out).mono ?_
  rintro e w6 ⟨rfl, hb⟩
  have HA6 := Lib.hid (HA5.out.below hb)
  have HB6 := Lib.hid (HB5.out.below hb)
  have HC6 := Lib.hid (HC5.out.below hb)
  have HW6 := Lib.hid (HW5.out.trans (hb.mono HW5.out.size))
  clear hb HA5 HB5 HC5 HW5
  go_wp2_with fail
  refine (HD3.out _ HB6.out HC6.out).mono ?_
  rintro e w7 ⟨rfl, hb⟩
  have HA7 := Lib.hid (HA6.out.below hb)
  have HB7 := Lib.hid (HB6.out.below hb)
  have HC7 := Lib.hid (HC6.out.below hb)
  have HW7 := Lib.hid (HW6.out.trans (hb.mono HW6.out.size))
  clear hb HA6 HB6 HC6 HW6
  go_wp2_with fail
  refine (HD4.out _ HA7.out HC7.out).mono ?_
  rintro e w8 ⟨rfl, hb⟩
  have HA8 := Lib.hid (HA7.out.below hb)
  have HB8 := Lib.hid (HB7.out.below hb)
  have HW8 := Lib.hid (HW7.out.trans (hb.mono HW7.out.size))
  clear hb HA7 HB7 HC7 HW7
  go_wp2_with fail
  refine (HD5.out _ HA8.out HA8.out).mono ?_
  rintro e w9 ⟨rfl, hb⟩
  have HA9 := Lib.hid (HA8.out.below hb)
  have HB9 := Lib.hid (HB8.out.below hb)
  have HW9 := Lib.hid (HW8.out.trans (hb.mono HW8.out.size))
  clear hb HA8 HB8 HW8
  go_wp2_with fail
  refine (HI1.out _ HA9.out HB9.out).mono ?_
  rintro e _ ⟨rfl, q, rfl⟩
  have HW10 := Lib.hid (below_drewN HW9.out q)
  generalize World.drewN w9 q = w10 at *
  have hmm : max (na : Int) (nb : Int) - min (na : Int) (nb : Int) ≤ x1 := by omega
  clear d11 d12 d21 d22 d24 d31 d32 d34
  go_wp2_with fail
  refine (HAw.out _).mono ?_
  rintro e w11 ⟨rfl, hb⟩
  have HW11 := Lib.hid (HW10.out.trans (hb.mono HW10.out.size))
  go_wp2_with fail
  go_ret
  exact ⟨rfl, HW11.out⟩
end Sh
end Go.Proofs.Ytlnjhacchnfbkaa
