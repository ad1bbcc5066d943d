/-
  The walk of the law ShortestScripts of layer 9. No conditions.
-/
import Derived.Test.YtlnjhacchnfbkaaShoRfs
namespace Go.Proofs.Ytlnjhacchnfbkaa
open Go.RowKit
namespace Sh
open Cm Sc Au
set_option maxRecDepth 100000 in
set_option maxHeartbeats 16000000 in
theorem scripts_walk (v vx vy : Value) (us xs ys : List Int) (kinds : Int) (w : World) (h : RdV w v (intsV us)) (hu : us.length ≤ maxLen) (hk : -9223372036854775808 ≤ kinds ∧ kinds ≤ 9223372036854775807) (hx : RdV w vx (intsV xs)) (hxl : xs.length ≤ maxLen) (hxb : ∀ z ∈ xs, -9223372036854775808 ≤ z ∧ z ≤ 9223372036854775807) (hy : RdV w vy (intsV ys)) (hyl : ys.length ≤ maxLen) (hyb : ∀ z ∈ ys, -9223372036854775808 ≤ z ∧ z ≤ 9223372036854775807) :
    Calls Try.prog 3 #[v, .int .i64 kinds, vx, vy] w (AwPost w) := by
  have HAw := Lib.hid (fun w => awake_any w)
  have HPa := Lib.hid (pair_any v us kinds w h hu hk)
  obtain ⟨A, c, rfl⟩ := h.form
  obtain ⟨Ax, cx, rfl⟩ := hx.form
  obtain ⟨Ay, cy, rfl⟩ := hy.form
  clear h hu hk
  rw [intsV_len] at HPa
  rw [intsV_len] at hx
  rw [intsV_len] at hy
  rw [intsV_len, intsV_len, intsV_len]
  generalize us.length = nu at *
  have HX := Lib.hid hx
  have HY := Lib.hid hy
  have HZx : Hid (∀ z ∈ xs, zB z) := Lib.hid hxb
  have HZy : Hid (∀ z ∈ ys, zB z) := Lib.hid hyb
  unfold maxLen at hxl hyl
  obtain ⟨nx, hnx⟩ : ∃ nx, nx = xs.length := ⟨_, rfl⟩
  obtain ⟨ny, hny⟩ : ∃ ny, ny = ys.length := ⟨_, rfl⟩
  have HNx := Lib.hid hnx
  have HNy := Lib.hid hny
  rw [← hnx] at hxl HX
  rw [← hny] at hyl HY
  rw [← hnx, ← hny]
  clear hnx hny hx hy hxb hyb
  by_cases hs : nx ≤ 12 ∧ ny ≤ 12
  · obtain ⟨hs1, hs2⟩ := hs
    have d1 : decide ((12 : Int) < (nx : Int)) = false := by rw [decide_eq_false_iff_not]; omega
    have d2 : decide ((12 : Int) < (ny : Int)) = false := by rw [decide_eq_false_iff_not]; omega
    go_enter Try.func3, Try.ntmps3
    go_wp2_with fail
    refine (HPa.out).mono ?_
    rintro e w1 ⟨va, vb, a, b, rfl, ⟨hla, hza⟩, ⟨hlb, hzb⟩, hoa, hob, hb⟩
    have HW1 := Lib.hid hb
    clear hb
    obtain ⟨A1, c1, rfl⟩ := own_form hoa
    obtain ⟨A2, c2, rfl⟩ := own_form hob
    have HA := Lib.hid (RdV.of_own hoa)
    have HB := Lib.hid (RdV.of_own hob)
    have HX := Lib.hid (HX.out.below HW1.out)
    have HY := Lib.hid (HY.out.below HW1.out)
    clear hoa hob
    have HC1 := Lib.hid (fun W h1 h2 => Script_at A1 A2 c1 c2 _ _ a b W h1 h2 (by omega) (by omega) (Lib.hid rfl) (Lib.hid rfl) (Lib.hid hza) (Lib.hid hzb))
    have HC2 := Lib.hid (fun W h1 h2 => ScrR_at A1 A2 c1 c2 _ _ a b W h1 h2 (by omega) (by omega) (Lib.hid rfl) (Lib.hid rfl))
    have HC3 := Lib.hid (fun W h1 h2 => Distance_at A1 A2 c1 c2 _ _ a b W h1 h2 (by omega) (by omega) (Lib.hid rfl) (Lib.hid rfl) (Lib.hid hza) (Lib.hid hzb))
    have HC4 := Lib.hid (fun W h1 h2 => DistR_at A1 A2 c1 c2 _ _ a b W h1 h2 (by omega) (by omega) (Lib.hid rfl) (Lib.hid rfl))
    have HC5 := Lib.hid (fun W h1 h2 => Common_at A1 A2 c1 c2 _ _ a b W h1 h2 (by omega) (by omega) (Lib.hid rfl) (Lib.hid rfl) (Lib.hid hza) (Lib.hid hzb))
    have HC6 := Lib.hid (fun W h1 h2 => ComR_at A1 A2 c1 c2 _ _ a b W h1 h2 (by omega) (by omega) (Lib.hid rfl) (Lib.hid rfl))
    have HS1 := Lib.hid (scr_len a b)
    clear hza hzb
    generalize scrF a b = l at *
    generalize dist a b = di at *
    generalize lcs a b = co at *
    generalize hna : a.length = na at *
    generalize hnb : b.length = nb at *
    clear hna hnb
    go_wp2_with fail
    refine (HC1.out _ HA HB).mono ?_
    rintro e w2 ⟨vl1, rfl, ho, hb⟩
    have HW2 := Lib.hid (HW1.out.trans (hb.mono HW1.out.size))
    have HA := Lib.hid (HA.out.below hb)
    have HB := Lib.hid (HB.out.below hb)
    have HX := Lib.hid (HX.out.below hb)
    have HY := Lib.hid (HY.out.below hb)
    clear HW1
    clear hb
    obtain ⟨Al1, cl1, hfl1⟩ := ho.rd.form
    subst hfl1
    have Hl1 := Lib.hid ho.rd
    clear ho
    go_wp2_with fail
    refine (HC2.out _ HA HB).mono ?_
    rintro e w3 ⟨vm1, rfl, ho, hb⟩
    have HW3 := Lib.hid (HW2.out.trans (hb.mono HW2.out.size))
    have HA := Lib.hid (HA.out.below hb)
    have HB := Lib.hid (HB.out.below hb)
    have HX := Lib.hid (HX.out.below hb)
    have HY := Lib.hid (HY.out.below hb)
    have Hl1 := Lib.hid (Hl1.out.below hb)
    clear HW2
    clear hb
    obtain ⟨Am1, cm1, hfm1⟩ := ho.rd.form
    subst hfm1
    have Hm1 := Lib.hid ho.rd
    clear ho
    go_wp2_with fail
    refine (HC3.out _ HA HB).mono ?_
    rintro e w4 ⟨rfl, hb⟩
    have HW4 := Lib.hid (HW3.out.trans (hb.mono HW3.out.size))
    have HA := Lib.hid (HA.out.below hb)
    have HB := Lib.hid (HB.out.below hb)
    have HX := Lib.hid (HX.out.below hb)
    have HY := Lib.hid (HY.out.below hb)
    have Hl1 := Lib.hid (Hl1.out.below hb)
    have Hm1 := Lib.hid (Hm1.out.below hb)
    clear HW3
    clear hb
    go_wp2_with fail
    refine (HC4.out _ HA HB).mono ?_
    rintro e w5 ⟨rfl, hb⟩
    have HW5 := Lib.hid (HW4.out.trans (hb.mono HW4.out.size))
    have HA := Lib.hid (HA.out.below hb)
    have HB := Lib.hid (HB.out.below hb)
    have HX := Lib.hid (HX.out.below hb)
    have HY := Lib.hid (HY.out.below hb)
    have Hl1 := Lib.hid (Hl1.out.below hb)
    have Hm1 := Lib.hid (Hm1.out.below hb)
    clear HW4
    clear hb
    go_wp2_with fail
    refine (HC5.out _ HA HB).mono ?_
    rintro e w6 ⟨rfl, hb⟩
    have HW6 := Lib.hid (HW5.out.trans (hb.mono HW5.out.size))
    have HA := Lib.hid (HA.out.below hb)
    have HB := Lib.hid (HB.out.below hb)
    have HX := Lib.hid (HX.out.below hb)
    have HY := Lib.hid (HY.out.below hb)
    have Hl1 := Lib.hid (Hl1.out.below hb)
    have Hm1 := Lib.hid (Hm1.out.below hb)
    clear HW5
    clear hb
    go_wp2_with fail
    refine (HC6.out _ HA HB).mono ?_
    rintro e w7 ⟨rfl, hb⟩
    have HW7 := Lib.hid (HW6.out.trans (hb.mono HW6.out.size))
    have HA := Lib.hid (HA.out.below hb)
    have HB := Lib.hid (HB.out.below hb)
    have HX := Lib.hid (HX.out.below hb)
    have HY := Lib.hid (HY.out.below hb)
    have Hl1 := Lib.hid (Hl1.out.below hb)
    have Hm1 := Lib.hid (Hm1.out.below hb)
    clear HW6
    clear hb
    clear HA HB HC1 HC2 HC3 HC4 HC5 HC6
    have HD1 := Lib.hid (fun W h1 h2 => Script_at Ax Ay cx cy nx ny xs ys W h1 h2 (by omega) (by omega) HNx HNy HZx HZy)
    have HD2 := Lib.hid (fun W h1 h2 => ScrR_at Ax Ay cx cy nx ny xs ys W h1 h2 (by omega) (by omega) HNx HNy)
    have HS2 : Hid ((scrF xs ys).length ≤ nx + 1) := Lib.hid (by rw [HNx.out]; exact scr_len xs ys)
    generalize scrF xs ys = lx at *
    go_wp2_with fail
    refine (HD1.out _ HX HY).mono ?_
    rintro e w8 ⟨vl2, rfl, ho, hb⟩
    have HW8 := Lib.hid (HW7.out.trans (hb.mono HW7.out.size))
    have HX := Lib.hid (HX.out.below hb)
    have HY := Lib.hid (HY.out.below hb)
    have Hl1 := Lib.hid (Hl1.out.below hb)
    have Hm1 := Lib.hid (Hm1.out.below hb)
    clear HW7
    clear hb
    obtain ⟨Al2, cl2, hfl2⟩ := ho.rd.form
    subst hfl2
    have Hl2 := Lib.hid ho.rd
    clear ho
    go_wp2_with fail
    refine (HD2.out _ HX HY).mono ?_
    rintro e w9 ⟨vm2, rfl, ho, hb⟩
    have HW9 := Lib.hid (HW8.out.trans (hb.mono HW8.out.size))
    have HX := Lib.hid (HX.out.below hb)
    have HY := Lib.hid (HY.out.below hb)
    have Hl1 := Lib.hid (Hl1.out.below hb)
    have Hm1 := Lib.hid (Hm1.out.below hb)
    have Hl2 := Lib.hid (Hl2.out.below hb)
    clear HW8
    clear hb
    obtain ⟨Am2, cm2, hfm2⟩ := ho.rd.form
    subst hfm2
    have Hm2 := Lib.hid ho.rd
    clear ho
    clear HD1 HD2 HX HY
    go_wp2_with fail
    refine (Changes_same _ _ l _ (by have := HS1.out; omega) Hl1.out Hm1.out).mono ?_
    rintro e _ ⟨rfl, q, rfl⟩
    have hb := below_drewN (Below.refl w9.heap.size w9) q
    have HW10 := Lib.hid (HW9.out.trans (hb.mono HW9.out.size))
    have Hl1 := Lib.hid (Hl1.out.below hb)
    have Hm1 := Lib.hid (Hm1.out.below hb)
    have Hl2 := Lib.hid (Hl2.out.below hb)
    have Hm2 := Lib.hid (Hm2.out.below hb)
    clear HW9
    clear hb
    generalize World.drewN w9 q = w10 at *
    go_wp2_with fail
    refine (Changes_same _ _ lx _ (by have := HS2.out; omega) Hl2.out Hm2.out).mono ?_
    rintro e _ ⟨rfl, q, rfl⟩
    have hb := below_drewN (Below.refl w10.heap.size w10) q
    have HW11 := Lib.hid (HW10.out.trans (hb.mono HW10.out.size))
    have Hl1 := Lib.hid (Hl1.out.below hb)
    have Hm1 := Lib.hid (Hm1.out.below hb)
    have Hl2 := Lib.hid (Hl2.out.below hb)
    have Hm2 := Lib.hid (Hm2.out.below hb)
    clear HW10
    clear hb
    generalize World.drewN w10 q = w11 at *
    go_wp2_with fail
    refine (HAw.out _).mono ?_
    rintro e w12 ⟨rfl, hb⟩
    have HW12 := Lib.hid (HW11.out.trans (hb.mono HW11.out.size))
    have Hl1 := Lib.hid (Hl1.out.below hb)
    have Hm1 := Lib.hid (Hm1.out.below hb)
    have Hl2 := Lib.hid (Hl2.out.below hb)
    have Hm2 := Lib.hid (Hm2.out.below hb)
    clear HW11
    clear hb
    go_wp2_with fail
    go_ret
    exact ⟨rfl, HW12.out⟩
  · by_cases hs1 : nx ≤ 12
    · have d1 : decide ((12 : Int) < (nx : Int)) = false := by rw [decide_eq_false_iff_not]; omega
      have d2 : decide ((12 : Int) < (ny : Int)) = true := by rw [decide_eq_true_iff]; omega
      clear hs HPa
      go_enter Try.func3, Try.ntmps3
      go_wp2_with fail
      refine (HAw.out _).mono ?_
      rintro e w1 ⟨rfl, hb⟩
      go_wp2_with fail
      go_ret
      exact ⟨rfl, hb⟩
    · have d1 : decide ((12 : Int) < (nx : Int)) = true := by rw [decide_eq_true_iff]; omega
      clear hs HPa
      go_enter Try.func3, Try.ntmps3
      go_wp2_with fail
      refine (HAw.out _).mono ?_
      rintro e w1 ⟨rfl, hb⟩
      go_wp2_with fail
      go_ret
      exact ⟨rfl, hb⟩
end Sh
end Go.Proofs.Ytlnjhacchnfbkaa
