/-
  Walks of layer 10's laws: SlideFits. Conditions: what a row asks of its arguments.
-/
import Derived.Test.YtldommbelpcegaaSliBack
namespace Go.Proofs.Ytldommbelpcegaa
open Go.RowKit
namespace Sl
open Cm Sc Au Sh
theorem changes_f (a b : Value) (l : List Ch) (w : World) (hl : l.length ≤ 4611686018427387904) (ha : RdC w a l) (hb : RdC w b l) :
    Calls Try.prog 14 #[a, b] w fun e w' => e = .returned (.bool true) ∧ Below w.heap.size w w' :=
  (Changes_same a b l w hl ha hb).mono (by rintro e w' ⟨rfl, q, rfl⟩; exact ⟨rfl, below_drewN (Below.refl _ _) q⟩)
set_option maxRecDepth 100000 in
set_option maxHeartbeats 8000000 in
theorem fits_walk (v : Value) (us : List Int) (other : Bool) (w : World) (h : RdV w v (intsV us)) (hu : us.length ≤ maxLen) :
    Calls Try.prog 6 #[v, .bool other] w (AwPost w) := by
  have HAw := Lib.hid (fun w => awake_any w)
  have HPk := Lib.hid (pick_any v us other w h hu)
  obtain ⟨A, c, rfl⟩ := h.form
  clear h hu
  rw [intsV_len] at HPk ⊢
  generalize us.length = nu at *
  go_enter Try.func6, Try.ntmps6
  go_wp2_with fail
  refine (HPk.out).mono ?_
  rintro e w1 ⟨vl, va, vb, l, a, b, rfl, hf, hla, hlb, hl, ha, hbv, hb⟩
  have HB1 := Lib.hid hb
  obtain ⟨Al, cl, rfl⟩ := hl.form
  obtain ⟨Aa, ca, ea⟩ := ha.form
  rw [intsV_len] at ea
  subst ea
  obtain ⟨Ab, cb, eb⟩ := hbv.form
  rw [intsV_len] at eb
  subst eb
  have HL := Lib.hid hl
  have HA := Lib.hid ha
  have HV := Lib.hid hbv
  have hla2 : a.length ≤ 4096 := by omega
  have hlb2 : b.length ≤ 4096 := by omega
  have hfew := fit_few hf
  have HD := Lib.hid (fun wq (h1 : RdC wq (.slice Al l.length cl) l) (h2 : RdV wq (.slice Aa a.length ca) (intsV a)) (h3 : RdV wq (.slice Ab b.length cb) (intsV b)) => Down_any _ l _ _ a b wq h1 h2 h3 hla2 hlb2 hf)
  have HU := Lib.hid (fun wq (h1 : RdC wq (.slice Al l.length cl) l) (h2 : RdV wq (.slice Aa a.length ca) (intsV a)) (h3 : RdV wq (.slice Ab b.length cb) (intsV b)) => Up_any _ l _ _ a b wq h1 h2 h3 hla2 hlb2 hf)
  have hfx := fit_downF l true 0 0 hf
  have hfy := fit_upF l true 0 0 (Int.le_refl _) (Int.le_refl _) hf
  rw [show firstI true 0 = 0 from rfl] at hfy
  have HDx := Lib.hid (fun v wq (h1 : RdC wq v (downF a b a.length l)) (h2 : RdV wq (.slice Aa a.length ca) (intsV a)) (h3 : RdV wq (.slice Ab b.length cb) (intsV b)) => Down_any v _ _ _ a b wq h1 h2 h3 hla2 hlb2 hfx)
  have HUy := Lib.hid (fun v wq (h1 : RdC wq v (upF a b 0 l)) (h2 : RdV wq (.slice Aa a.length ca) (intsV a)) (h3 : RdV wq (.slice Ab b.length cb) (intsV b)) => Up_any v _ _ _ a b wq h1 h2 h3 hla2 hlb2 hfy)
  rw [downF_idem] at HDx
  rw [upF_idem] at HUy
  have hxl : (downF a b a.length l).length = l.length := downF_len a b a.length l
  have hyl : (upF a b 0 l).length = l.length := upF_len a b l 0
  have HFx := Lib.hid (fun v wq (h1 : RdC wq v (downF a b a.length l)) (h2 : RdV wq (.slice Aa a.length ca) (intsV a)) (h3 : RdV wq (.slice Ab b.length cb) (intsV b)) => FitsR_any v _ _ _ a b wq h1 (by omega) h2 h3)
  have HFy := Lib.hid (fun v wq (h1 : RdC wq v (upF a b 0 l)) (h2 : RdV wq (.slice Aa a.length ca) (intsV a)) (h3 : RdV wq (.slice Ab b.length cb) (intsV b)) => FitsR_any v _ _ _ a b wq h1 (by omega) h2 h3)
  unfold FtPost at HFx HFy
  rw [fit_true hfx hla2 hlb2] at HFx
  rw [fit_true hfy hla2 hlb2] at HFy
  have HS := Lib.hid (fun wq (h1 : RdC wq (.slice Al l.length cl) l) => SizeR_any _ l wq h1 (by omega))
  have HSx := Lib.hid (fun v wq (h1 : RdC wq v (downF a b a.length l)) => SizeR_any v _ wq h1 (by omega))
  have HSy := Lib.hid (fun v wq (h1 : RdC wq v (upF a b 0 l)) => SizeR_any v _ wq h1 (by omega))
  unfold SzPost at HS HSx HSy
  rw [(sz_down a b a.length l).1, (sz_down a b a.length l).2] at HSx
  rw [(sz_up a b l 0).1, (sz_up a b l 0).2] at HSy
  generalize szO l = so at *
  generalize szN l = sn at *
  have HAx := Lib.hid (fun (k : Nat) (h : k < l.length) (h2 : k < (downF a b a.length l).length) => downF_at a b a.length l k h h2)
  have HAy := Lib.hid (fun (k : Nat) (h : k < l.length) (h2 : k < (upF a b 0 l).length) => upF_at a b l 0 k h h2)
  have HLX := Lib.hid hxl
  have HLY := Lib.hid hyl
  have hX : (downF a b a.length l).length ≤ 100 := by omega
  have hY : (upF a b 0 l).length ≤ 100 := by omega
  clear hfx hfy hxl hyl
  generalize downF a b a.length l = X at *
  generalize upF a b 0 l = Y at *
  clear HPk hl ha hbv hf
  clear hb
  go_wp2_with fail
  refine (HD.out _ HL.out HA.out HV.out).mono ?_
  rintro e w2 ⟨v1, rfl, ho, hb⟩
  have HB2 := Lib.hid (HB1.out.trans (hb.mono HB1.out.size))
  have HL := Lib.hid (HL.out.below hb)
  have HA := Lib.hid (HA.out.below hb)
  have HV := Lib.hid (HV.out.below hb)
  obtain ⟨A1, c1, ev⟩ := ho.rd.form
  rw [HLX.out] at ev
  subst ev
  have HX1 := Lib.hid ho.rd
  clear ho
  clear hb HB1
  clear HD
  go_wp2_with fail
  refine (HU.out _ HL.out HA.out HV.out).mono ?_
  rintro e w3 ⟨v2, rfl, ho, hb⟩
  have HB3 := Lib.hid (HB2.out.trans (hb.mono HB2.out.size))
  have HL := Lib.hid (HL.out.below hb)
  have HA := Lib.hid (HA.out.below hb)
  have HV := Lib.hid (HV.out.below hb)
  have HX1 := Lib.hid (HX1.out.below hb)
  obtain ⟨A2, c2, ev⟩ := ho.rd.form
  rw [HLY.out] at ev
  subst ev
  have HX2 := Lib.hid ho.rd
  clear ho
  clear hb HB2
  clear HU
  go_wp2_with fail
  refine (HFx.out _ _ HX1.out HA.out HV.out).mono ?_
  rintro e w4 ⟨rfl, hb⟩
  have HB4 := Lib.hid (HB3.out.trans (hb.mono HB3.out.size))
  have HL := Lib.hid (HL.out.below hb)
  have HA := Lib.hid (HA.out.below hb)
  have HV := Lib.hid (HV.out.below hb)
  have HX1 := Lib.hid (HX1.out.below hb)
  have HX2 := Lib.hid (HX2.out.below hb)
  clear hb HB3
  clear HFx
  go_wp2_with fail
  refine (HFy.out _ _ HX2.out HA.out HV.out).mono ?_
  rintro e w5 ⟨rfl, hb⟩
  have HB5 := Lib.hid (HB4.out.trans (hb.mono HB4.out.size))
  have HL := Lib.hid (HL.out.below hb)
  have HA := Lib.hid (HA.out.below hb)
  have HV := Lib.hid (HV.out.below hb)
  have HX1 := Lib.hid (HX1.out.below hb)
  have HX2 := Lib.hid (HX2.out.below hb)
  clear hb HB4
  clear HFy
  go_wp2_with fail
  refine (HS.out _ HL.out).mono ?_
  rintro e w6 ⟨rfl, hb⟩
  have HB6 := Lib.hid (HB5.out.trans (hb.mono HB5.out.size))
  have HL := Lib.hid (HL.out.below hb)
  have HA := Lib.hid (HA.out.below hb)
  have HV := Lib.hid (HV.out.below hb)
  have HX1 := Lib.hid (HX1.out.below hb)
  have HX2 := Lib.hid (HX2.out.below hb)
  clear hb HB5
  clear HS
  go_wp2_with fail
  refine (HSx.out _ _ HX1.out).mono ?_
  rintro e w7 ⟨rfl, hb⟩
  have HB7 := Lib.hid (HB6.out.trans (hb.mono HB6.out.size))
  have HL := Lib.hid (HL.out.below hb)
  have HA := Lib.hid (HA.out.below hb)
  have HV := Lib.hid (HV.out.below hb)
  have HX1 := Lib.hid (HX1.out.below hb)
  have HX2 := Lib.hid (HX2.out.below hb)
  clear hb HB6
  clear HSx
  go_wp2_with fail
  refine (HSy.out _ _ HX2.out).mono ?_
  rintro e w8 ⟨rfl, hb⟩
  have HB8 := Lib.hid (HB7.out.trans (hb.mono HB7.out.size))
  have HL := Lib.hid (HL.out.below hb)
  have HA := Lib.hid (HA.out.below hb)
  have HV := Lib.hid (HV.out.below hb)
  have HX1 := Lib.hid (HX1.out.below hb)
  have HX2 := Lib.hid (HX2.out.below hb)
  clear hb HB7
  clear HSy
  go_wp2_with fail
  refine (HDx.out _ _ HX1.out HA.out HV.out).mono ?_
  rintro e w9 ⟨v3, rfl, ho, hb⟩
  have HB9 := Lib.hid (HB8.out.trans (hb.mono HB8.out.size))
  have HL := Lib.hid (HL.out.below hb)
  have HA := Lib.hid (HA.out.below hb)
  have HV := Lib.hid (HV.out.below hb)
  have HX1 := Lib.hid (HX1.out.below hb)
  have HX2 := Lib.hid (HX2.out.below hb)
  obtain ⟨A3, c3, ev⟩ := ho.rd.form
  rw [HLX.out] at ev
  subst ev
  have HX3 := Lib.hid ho.rd
  clear ho
  clear hb HB8
  clear HDx
  go_wp2_with fail
  refine (HUy.out _ _ HX2.out HA.out HV.out).mono ?_
  rintro e w10 ⟨v4, rfl, ho, hb⟩
  have HB10 := Lib.hid (HB9.out.trans (hb.mono HB9.out.size))
  have HL := Lib.hid (HL.out.below hb)
  have HA := Lib.hid (HA.out.below hb)
  have HV := Lib.hid (HV.out.below hb)
  have HX1 := Lib.hid (HX1.out.below hb)
  have HX2 := Lib.hid (HX2.out.below hb)
  have HX3 := Lib.hid (HX3.out.below hb)
  obtain ⟨A4, c4, ev⟩ := ho.rd.form
  rw [HLY.out] at ev
  subst ev
  have HX4 := Lib.hid ho.rd
  clear ho
  clear hb HB9
  clear HUy
  clear HA HV
  obtain ⟨N, hN⟩ : ∃ N, N = l.length := ⟨_, rfl⟩
  rw [← hN] at HL HX1 HX2 HX3 HX4 ⊢
  have HN := Lib.hid hN
  have hN2 : N ≤ 100 := by omega
  clear hN
  go_wp2_with fail
  go_loopw [22] (fun k' wr => ∃ k : Nat, k ≤ N ∧ k' = .int .i64 (k : Int) ∧ ∃ q, wr = w10.drewN q) (fun k' _ => N - (intOf k').toNat)
  case atStart => exact ⟨0, Nat.zero_le _, rfl, 0, rfl⟩
  case round =>
    obtain ⟨k, hk, rfl, q, rfl⟩ := hrel
    by_cases hlt : k < N
    · have hkl : k < l.length := by rw [← HN.out]; exact hlt
      have hkx : k < X.length := by rw [HLX.out, ← HN.out]; exact hlt
      have hky : k < Y.length := by rw [HLY.out, ← HN.out]; exact hlt
      obtain ⟨bl, ol, rfl, c0, c1, -, c3⟩ := RdC_at HL.out k hkl
      obtain ⟨bx, ox, rfl, x0, x1, -, x3⟩ := RdC_at HX1.out k hkx
      obtain ⟨by_, oy, rfl, y0, y1, -, y3⟩ := RdC_at HX2.out k hky
      obtain ⟨dx, ex⟩ := HAx.out k hkl hkx
      obtain ⟨dy, ey⟩ := HAy.out k hkl hky
      rw [ex] at x0 x1 x3
      rw [ey] at y0 y1 y3
      unfold sh at x0 x1 x3 y0 y1 y3
      simp only at x0 x1 x3 y0 y1 y3
      clear ex ey
      generalize l[k] = c at *
      obtain ⟨o, oLen, nw, nLen⟩ := c
      simp only at c0 c1 c3 x0 x1 x3 y0 y1 y3
      have d1 : decide (o + (dx : Int) < o) = false := decide_eq_false (by omega)
      have d2 : decide (o < o + -(dy : Int)) = false := decide_eq_false (by omega)
      generalize o + (dx : Int) = xo at *
      generalize o + -(dy : Int) = yo at *
      have dk : decide (k < N) = true := decide_eq_true hlt
      have i1 : (0 : Int) ≤ (k : Int) := by omega
      have i2 : (k : Int) < (N : Int) := by omega
      clear hkl hkx hky HLX HLY HAx HAy
      go_wp2_with fail
      go_quiet (fail)
      go_wp2_with fail
      go_roundw
      case rel => exact ⟨k + 1, by omega, by go_num, _, rfl⟩
      case measure => simp [intOf]; omega
    · have dk : decide (k < N) = false := decide_eq_false hlt
      obtain ⟨wz, hwz⟩ : ∃ wz, w10.drewN q = wz := ⟨_, rfl⟩
      have HL := Lib.hid (HL.out.drewN q)
      have HX1 := Lib.hid (HX1.out.drewN q)
      have HX2 := Lib.hid (HX2.out.drewN q)
      have HX3 := Lib.hid (HX3.out.drewN q)
      have HX4 := Lib.hid (HX4.out.drewN q)
      have HB11 := Lib.hid (below_drewN HB10.out q)
      rw [hwz] at HL HX1 HX2 HX3 HX4 HB11 ⊢
      clear hwz HB10
      go_wp2_with fail
      refine (changes_f _ _ X _ (by omega) HX3.out HX1.out).mono ?_
      rintro e w12 ⟨rfl, hb⟩
      have HB12 := Lib.hid (HB11.out.trans (hb.mono HB11.out.size))
      have HL := Lib.hid (HL.out.below hb)
      have HX1 := Lib.hid (HX1.out.below hb)
      have HX2 := Lib.hid (HX2.out.below hb)
      have HX3 := Lib.hid (HX3.out.below hb)
      have HX4 := Lib.hid (HX4.out.below hb)
      clear hb HB11
      clear HX3 HX1
      go_wp2_with fail
      refine (changes_f _ _ Y _ (by omega) HX4.out HX2.out).mono ?_
      rintro e w13 ⟨rfl, hb⟩
      have HB13 := Lib.hid (HB12.out.trans (hb.mono HB12.out.size))
      have HL := Lib.hid (HL.out.below hb)
      have HX2 := Lib.hid (HX2.out.below hb)
      have HX4 := Lib.hid (HX4.out.below hb)
      clear hb HB12
      clear HX4 HX2
      go_wp2_with fail
      refine (HAw.out _).mono ?_
      rintro e w14 ⟨rfl, hb⟩
      have HB14 := Lib.hid (HB13.out.trans (hb.mono HB13.out.size))
      have HL := Lib.hid (HL.out.below hb)
      clear hb HB13
      go_wp2_with fail
      go_ret
      exact ⟨rfl, HB14.out⟩
end Sl
end Go.Proofs.Ytldommbelpcegaa
