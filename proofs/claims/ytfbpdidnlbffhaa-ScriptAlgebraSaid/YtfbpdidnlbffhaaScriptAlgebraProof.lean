/-
  Proved: the law ScriptAlgebra of layer 8 returns true for every input, and its arguments read as before. No conditions.
-/
import Derived.Test.YtfbpdidnlbffhaaScrAlg
import Derived.Test.YtfbpdidnlbffhaaScrSec
import Derived.Test.YtfbpdidnlbffhaaScrAwake
import Derived.Test.YtfbpdidnlbffhaaScrFrame
namespace Go.Proofs.Ytfbpdidnlbffhaa
open Go.ChangeShapes Go.WideShapes Go.ChangeAt Go.RowKit
namespace Sc.ScriptAlgebra
open Cm Au Sc
set_option maxRecDepth 100000 in
set_option maxHeartbeats 16000000 in
theorem walk (vr : Value) (us : List Int) (w : World) (hr : RdV w vr (intsV us)) (hrl : us.length ≤ maxLen) :
    Calls Try.prog 7 #[vr] w fun e w' => e = .returned (.bool true) ∧ Below w.heap.size w w' := by
  have HAw := Lib.hid (fun w => awake_any w)
  obtain ⟨A0, c0, rfl⟩ := hr.form
  have HScr := Lib.hid (Script_any _ us 0 w hr hrl (by omega))
  have HSec := Lib.hid (fun (wq : World) (fr mm : Int) (hb : Below w.heap.size w wq) (f0 : 0 ≤ fr) (f1 : fr ≤ 1000) (h0 : 0 ≤ mm) (h1 : mm ≤ 9) => second_any _ us fr mm wq (hr.below hb) hrl ⟨f0, by omega⟩ ⟨h0, h1⟩)
  clear hr hrl
  rw [intsV_len] at HScr HSec ⊢
  generalize us.length = nu at *
  go_enter Try.func7, Try.ntmps7
  go_wp2_with fail
  refine HScr.out.mono ?_
  rintro e w1 ⟨vx, x, a, b, rfl, hG, ho, hb1⟩
  obtain ⟨Ax, cx, rfl⟩ := ho.rd.form
  have HB1 := Lib.hid hb1
  have HG := Lib.hid hG
  have HX := Lib.hid ho.rd
  obtain ⟨hk0, hk1⟩ := hG.bn
  clear hb1 HScr hG ho
  go_wp2_with fail
  refine (HSec.out w1 200 b HB1.out (by omega) (by omega) hk0 hk1).mono ?_
  rintro e w2 ⟨vy, y, c, rfl, hG2, ho, hb⟩
  obtain ⟨Ay, cy, rfl⟩ := ho.rd.form
  have HB2 := Lib.hid (HB1.out.trans (hb.mono HB1.out.size))
  have HX := Lib.hid (HX.out.below hb)
  have HY := Lib.hid ho.rd
  have HG2 := Lib.hid hG2
  obtain ⟨hc0, hc1⟩ := hG2.bn
  clear hb hG2 ho HB1
  go_wp2_with fail
  refine (HSec.out w2 400 c HB2.out (by omega) (by omega) hc0 hc1).mono ?_
  rintro e w3 ⟨vz, z, d, rfl, hG3, ho, hb⟩
  obtain ⟨Az, cz, rfl⟩ := ho.rd.form
  have HB3 := Lib.hid (HB2.out.trans (hb.mono HB2.out.size))
  have HX := Lib.hid (HX.out.below hb)
  have HY := Lib.hid (HY.out.below hb)
  have HZ := Lib.hid ho.rd
  have hG := HG.out
  have hG2 := HG2.out
  have HC1 := Lib.hid (fun vx vy wq (h1 : RdC wq vx x) (h2 : RdC wq vy y) => Compose_good vx vy x y a b c wq h1 h2 hG hG2)
  have HC2 := Lib.hid (fun vx vy wq (h1 : RdC wq vx y) (h2 : RdC wq vy z) => Compose_good vx vy y z b c d wq h1 h2 hG2 hG3)
  have HC3 := Lib.hid (fun vx vy wq (h1 : RdC wq vx (cmL x y a b c)) (h2 : RdC wq vy z) => Compose_good vx vy (cmL x y a b c) z a c d wq h1 h2 (cm_good hG hG2) hG3)
  have HC4 := Lib.hid (fun vx vy wq (h1 : RdC wq vx x) (h2 : RdC wq vy (cmL y z b c d)) => Compose_good vx vy x (cmL y z b c d) a b d wq h1 h2 hG (cm_good hG2 hG3))
  have HC5 := Lib.hid (fun vy wq (h2 : RdC wq vy x) => Compose_good (.slice none 0 0) vy [] x a a b wq (OwnC.nil 0 wq).rd h2 (good_nil hG.bm) hG)
  have HC6 := Lib.hid (fun vx wq (h1 : RdC wq vx x) => Compose_good vx (.slice none 0 0) x [] a b b wq h1 (OwnC.nil 0 wq).rd hG (good_nil hG.bn))
  have HC7 := Lib.hid (fun vx vy wq (h1 : RdC wq vx (y.map inv)) (h2 : RdC wq vy (x.map inv)) => Compose_good vx vy (y.map inv) (x.map inv) c b a wq h1 h2 hG2.inv hG.inv)
  have hgxy := cm_good hG hG2
  have hgp := cm_good hgxy hG3
  have HI1 := Lib.hid (fun v wq (h : RdC wq v y) => Invert_any v y wq h (by have := hG2.len; omega))
  have HI2 := Lib.hid (fun v wq (h : RdC wq v x) => Invert_any v x wq h (by have := hG.len; omega))
  have HI3 := Lib.hid (fun v wq (h : RdC wq v (cmL x y a b c)) => Invert_any v (cmL x y a b c) wq h (by have := hgxy.len; omega))
  have HLp := Lib.hid (show (cmL (cmL x y a b c) z a c d).length ≤ 4611686018427387904 from by have := hgp.len; omega)
  have HSx := Lib.hid (fun va vb wq (h1 : RdC wq va x) (h2 : RdC wq vb x) => Changes_same va vb x wq (by have := hG.len; omega) h1 h2)
  have HLi := Lib.hid (show ((cmL x y a b c).map inv).length ≤ 4611686018427387904 from by have := hgxy.len; rw [List.length_map]; omega)
  rw [cm_assoc hG hG2 hG3] at HC4
  rw [cm_nilL hG] at HC5
  rw [cm_nilR hG] at HC6
  rw [cm_inv hG hG2] at HC7
  unfold GoodC at HC1 HC2 HC3 HC4 HC5 HC6 HC7
  clear hG hG2 hG3 hgxy hgp ho hb HG HG2 HB2 HSec
  generalize hpp : cmL (cmL x y a b c) z a c d = pp at *
  clear hpp
  generalize hxy : cmL x y a b c = xy at *
  clear hxy
  generalize hyz : cmL y z b c d = yz at *
  clear hyz
  generalize xy.map inv = xyi at *
  generalize x.map inv = xi at *
  generalize y.map inv = yi at *
  generalize x.length = nx at *
  generalize y.length = ny at *
  generalize z.length = nz at *
  go_wp2_with fail
  refine (HC1.out _ _ _ HX.out HY.out).mono ?_
  rintro e w4 ⟨va, rfl, hv, hb⟩
  have HB4 := Lib.hid (HB3.out.trans (hb.mono HB3.out.size))
  have HX := Lib.hid (HX.out.below hb)
  have HY := Lib.hid (HY.out.below hb)
  have HZ := Lib.hid (HZ.out.below hb)
  clear hb HB3
  obtain ⟨Aa, ca, hva⟩ := hv.rd.form
  subst hva
  have HXY := Lib.hid hv.rd
  clear hv
  go_wp2_with fail
  refine (HC2.out _ _ _ HY.out HZ.out).mono ?_
  rintro e w5 ⟨va, rfl, hv, hb⟩
  have HB5 := Lib.hid (HB4.out.trans (hb.mono HB4.out.size))
  have HX := Lib.hid (HX.out.below hb)
  have HY := Lib.hid (HY.out.below hb)
  have HZ := Lib.hid (HZ.out.below hb)
  have HXY := Lib.hid (HXY.out.below hb)
  clear hb HB4
  obtain ⟨Ab, cb, hva⟩ := hv.rd.form
  subst hva
  have HYZ := Lib.hid hv.rd
  clear hv
  go_wp2_with fail
  refine (HC3.out _ _ _ HXY.out HZ.out).mono ?_
  rintro e w6 ⟨va, rfl, hv, hb⟩
  have HB6 := Lib.hid (HB5.out.trans (hb.mono HB5.out.size))
  have HX := Lib.hid (HX.out.below hb)
  have HY := Lib.hid (HY.out.below hb)
  have HZ := Lib.hid (HZ.out.below hb)
  have HXY := Lib.hid (HXY.out.below hb)
  have HYZ := Lib.hid (HYZ.out.below hb)
  clear hb HB5
  obtain ⟨Ad, cd, hva⟩ := hv.rd.form
  subst hva
  have HP := Lib.hid hv.rd
  clear hv
  go_wp2_with fail
  refine (HC4.out _ _ _ HX.out HYZ.out).mono ?_
  rintro e w7 ⟨va, rfl, hv, hb⟩
  have HB7 := Lib.hid (HB6.out.trans (hb.mono HB6.out.size))
  have HX := Lib.hid (HX.out.below hb)
  have HY := Lib.hid (HY.out.below hb)
  have HZ := Lib.hid (HZ.out.below hb)
  have HXY := Lib.hid (HXY.out.below hb)
  have HYZ := Lib.hid (HYZ.out.below hb)
  have HP := Lib.hid (HP.out.below hb)
  clear hb HB6
  obtain ⟨Ae, ce, hva⟩ := hv.rd.form
  subst hva
  have HQ := Lib.hid hv.rd
  clear hv
  go_wp2_with fail
  refine (HC5.out _ _ HX.out).mono ?_
  rintro e w8 ⟨va, rfl, hv, hb⟩
  have HB8 := Lib.hid (HB7.out.trans (hb.mono HB7.out.size))
  have HX := Lib.hid (HX.out.below hb)
  have HY := Lib.hid (HY.out.below hb)
  have HZ := Lib.hid (HZ.out.below hb)
  have HXY := Lib.hid (HXY.out.below hb)
  have HYZ := Lib.hid (HYZ.out.below hb)
  have HP := Lib.hid (HP.out.below hb)
  have HQ := Lib.hid (HQ.out.below hb)
  clear hb HB7
  obtain ⟨Af, cf, hva⟩ := hv.rd.form
  subst hva
  have HL := Lib.hid hv.rd
  clear hv
  go_wp2_with fail
  refine (HC6.out _ _ HX.out).mono ?_
  rintro e w9 ⟨va, rfl, hv, hb⟩
  have HB9 := Lib.hid (HB8.out.trans (hb.mono HB8.out.size))
  have HX := Lib.hid (HX.out.below hb)
  have HY := Lib.hid (HY.out.below hb)
  have HZ := Lib.hid (HZ.out.below hb)
  have HXY := Lib.hid (HXY.out.below hb)
  have HYZ := Lib.hid (HYZ.out.below hb)
  have HP := Lib.hid (HP.out.below hb)
  have HQ := Lib.hid (HQ.out.below hb)
  have HL := Lib.hid (HL.out.below hb)
  clear hb HB8
  obtain ⟨Ag, cg, hva⟩ := hv.rd.form
  subst hva
  have HR := Lib.hid hv.rd
  clear hv
  go_wp2_with fail
  refine (HI1.out _ _ HY.out).mono ?_
  rintro e w10 ⟨va, rfl, hv, hb⟩
  have HB10 := Lib.hid (HB9.out.trans (hb.mono HB9.out.size))
  have HX := Lib.hid (HX.out.below hb)
  have HY := Lib.hid (HY.out.below hb)
  have HZ := Lib.hid (HZ.out.below hb)
  have HXY := Lib.hid (HXY.out.below hb)
  have HYZ := Lib.hid (HYZ.out.below hb)
  have HP := Lib.hid (HP.out.below hb)
  have HQ := Lib.hid (HQ.out.below hb)
  have HL := Lib.hid (HL.out.below hb)
  have HR := Lib.hid (HR.out.below hb)
  clear hb HB9
  obtain ⟨Ah, ch, hva⟩ := hv.rd.form
  subst hva
  have HYi := Lib.hid hv.rd
  clear hv
  go_wp2_with fail
  refine (HI2.out _ _ HX.out).mono ?_
  rintro e w11 ⟨va, rfl, hv, hb⟩
  have HB11 := Lib.hid (HB10.out.trans (hb.mono HB10.out.size))
  have HX := Lib.hid (HX.out.below hb)
  have HY := Lib.hid (HY.out.below hb)
  have HZ := Lib.hid (HZ.out.below hb)
  have HXY := Lib.hid (HXY.out.below hb)
  have HYZ := Lib.hid (HYZ.out.below hb)
  have HP := Lib.hid (HP.out.below hb)
  have HQ := Lib.hid (HQ.out.below hb)
  have HL := Lib.hid (HL.out.below hb)
  have HR := Lib.hid (HR.out.below hb)
  have HYi := Lib.hid (HYi.out.below hb)
  clear hb HB10
  obtain ⟨Ai, ci, hva⟩ := hv.rd.form
  subst hva
  have HXi := Lib.hid hv.rd
  clear hv
  go_wp2_with fail
  refine (HC7.out _ _ _ HYi.out HXi.out).mono ?_
  rintro e w12 ⟨va, rfl, hv, hb⟩
  have HB12 := Lib.hid (HB11.out.trans (hb.mono HB11.out.size))
  have HX := Lib.hid (HX.out.below hb)
  have HY := Lib.hid (HY.out.below hb)
  have HZ := Lib.hid (HZ.out.below hb)
  have HXY := Lib.hid (HXY.out.below hb)
  have HYZ := Lib.hid (HYZ.out.below hb)
  have HP := Lib.hid (HP.out.below hb)
  have HQ := Lib.hid (HQ.out.below hb)
  have HL := Lib.hid (HL.out.below hb)
  have HR := Lib.hid (HR.out.below hb)
  have HYi := Lib.hid (HYi.out.below hb)
  have HXi := Lib.hid (HXi.out.below hb)
  clear hb HB11
  obtain ⟨Aj, cj, hva⟩ := hv.rd.form
  subst hva
  have HV := Lib.hid hv.rd
  clear hv
  go_wp2_with fail
  refine (Changes_same _ _ pp _ HLp.out HP.out HQ.out).mono ?_
  rintro e _ ⟨rfl, q13, rfl⟩
  have hb := below_drewN (Below.refl w12.heap.size w12) q13
  have HB13 := Lib.hid (HB12.out.trans (hb.mono HB12.out.size))
  have HX := Lib.hid (HX.out.below hb)
  have HY := Lib.hid (HY.out.below hb)
  have HZ := Lib.hid (HZ.out.below hb)
  have HXY := Lib.hid (HXY.out.below hb)
  have HYZ := Lib.hid (HYZ.out.below hb)
  have HP := Lib.hid (HP.out.below hb)
  have HQ := Lib.hid (HQ.out.below hb)
  have HL := Lib.hid (HL.out.below hb)
  have HR := Lib.hid (HR.out.below hb)
  have HYi := Lib.hid (HYi.out.below hb)
  have HXi := Lib.hid (HXi.out.below hb)
  have HV := Lib.hid (HV.out.below hb)
  clear hb HB12
  generalize World.drewN w12 q13 = w13 at *
  go_wp2_with fail
  refine (HSx.out _ _ _ HL.out HX.out).mono ?_
  rintro e _ ⟨rfl, q14, rfl⟩
  have hb := below_drewN (Below.refl w13.heap.size w13) q14
  have HB14 := Lib.hid (HB13.out.trans (hb.mono HB13.out.size))
  have HX := Lib.hid (HX.out.below hb)
  have HY := Lib.hid (HY.out.below hb)
  have HZ := Lib.hid (HZ.out.below hb)
  have HXY := Lib.hid (HXY.out.below hb)
  have HYZ := Lib.hid (HYZ.out.below hb)
  have HP := Lib.hid (HP.out.below hb)
  have HQ := Lib.hid (HQ.out.below hb)
  have HL := Lib.hid (HL.out.below hb)
  have HR := Lib.hid (HR.out.below hb)
  have HYi := Lib.hid (HYi.out.below hb)
  have HXi := Lib.hid (HXi.out.below hb)
  have HV := Lib.hid (HV.out.below hb)
  clear hb HB13
  generalize World.drewN w13 q14 = w14 at *
  go_wp2_with fail
  refine (HSx.out _ _ _ HR.out HX.out).mono ?_
  rintro e _ ⟨rfl, q15, rfl⟩
  have hb := below_drewN (Below.refl w14.heap.size w14) q15
  have HB15 := Lib.hid (HB14.out.trans (hb.mono HB14.out.size))
  have HX := Lib.hid (HX.out.below hb)
  have HY := Lib.hid (HY.out.below hb)
  have HZ := Lib.hid (HZ.out.below hb)
  have HXY := Lib.hid (HXY.out.below hb)
  have HYZ := Lib.hid (HYZ.out.below hb)
  have HP := Lib.hid (HP.out.below hb)
  have HQ := Lib.hid (HQ.out.below hb)
  have HL := Lib.hid (HL.out.below hb)
  have HR := Lib.hid (HR.out.below hb)
  have HYi := Lib.hid (HYi.out.below hb)
  have HXi := Lib.hid (HXi.out.below hb)
  have HV := Lib.hid (HV.out.below hb)
  clear hb HB14
  generalize World.drewN w14 q15 = w15 at *
  go_wp2_with fail
  refine (HI3.out _ _ HXY.out).mono ?_
  rintro e w16 ⟨va, rfl, hv, hb⟩
  have HB16 := Lib.hid (HB15.out.trans (hb.mono HB15.out.size))
  have HX := Lib.hid (HX.out.below hb)
  have HY := Lib.hid (HY.out.below hb)
  have HZ := Lib.hid (HZ.out.below hb)
  have HXY := Lib.hid (HXY.out.below hb)
  have HYZ := Lib.hid (HYZ.out.below hb)
  have HP := Lib.hid (HP.out.below hb)
  have HQ := Lib.hid (HQ.out.below hb)
  have HL := Lib.hid (HL.out.below hb)
  have HR := Lib.hid (HR.out.below hb)
  have HYi := Lib.hid (HYi.out.below hb)
  have HXi := Lib.hid (HXi.out.below hb)
  have HV := Lib.hid (HV.out.below hb)
  clear hb HB15
  obtain ⟨Ak, ck, hva⟩ := hv.rd.form
  subst hva
  have HXYi := Lib.hid hv.rd
  clear hv
  go_wp2_with fail
  refine (Changes_same _ _ xyi _ HLi.out HV.out HXYi.out).mono ?_
  rintro e _ ⟨rfl, q17, rfl⟩
  have hb := below_drewN (Below.refl w16.heap.size w16) q17
  have HB17 := Lib.hid (HB16.out.trans (hb.mono HB16.out.size))
  have HX := Lib.hid (HX.out.below hb)
  have HY := Lib.hid (HY.out.below hb)
  have HZ := Lib.hid (HZ.out.below hb)
  have HXY := Lib.hid (HXY.out.below hb)
  have HYZ := Lib.hid (HYZ.out.below hb)
  have HP := Lib.hid (HP.out.below hb)
  have HQ := Lib.hid (HQ.out.below hb)
  have HL := Lib.hid (HL.out.below hb)
  have HR := Lib.hid (HR.out.below hb)
  have HYi := Lib.hid (HYi.out.below hb)
  have HXi := Lib.hid (HXi.out.below hb)
  have HV := Lib.hid (HV.out.below hb)
  have HXYi := Lib.hid (HXYi.out.below hb)
  clear hb HB16
  generalize World.drewN w16 q17 = w17 at *
  go_wp2_with fail
  refine (HAw.out _).mono ?_
  rintro e w18 ⟨rfl, hb⟩
  have HB18 := Lib.hid (HB17.out.trans (hb.mono HB17.out.size))
  clear hb HB17
  go_wp2_with fail
  go_ret
  exact ⟨rfl, HB18.out⟩
set_option maxRecDepth 100000 in
theorem lifted (os : Os) (started : os.Started) (H : Type) (enc : TypeId × Value → H) :
    ReturnsInHanded {} Try.checked os 7 .any (Rows.scriptAlgebraSpec.pre6 enc Try.prog Try.f7 Rows.scriptAlgebraRow.domain false) (Rows.scriptAlgebraSpec.post enc Try.prog Try.f7 false true false false) := by
  refine returnsInHanded_of_change (C := Try.checked) own started (by kernel_rfl) Try.func7
    (ChangeSpec.witness6 (enc := enc) (C := Try.checked) false ⟨#[], #[.slice none 0 0], []⟩ 8 (by kernel_rfl) (by kernel_rfl) (by kernel_rfl) (by kernel_rfl)) ?_
  intro W base args ds gs before hval0 hW _ _
  have hval : ∀ (j : Nat) t v, Try.f7.params[j]? = some t → args[j]? = some v → Value.okWide Try.prog W .any base t v := hval0
  have hW' := hW
  obtain ⟨p, q, hA0, hV, rfl, hfz, hnd⟩ := hW
  have hA : DataW.TrodAll enc Try.prog W 0 (fun _ => true) true Try.f7.params.toList args.toList ds p := hA0
  rw [Try.params7] at hA hval
  obtain ⟨v0, d0, rfl, rfl, h0⟩ := trodAll_one hA
  obtain ⟨p0, rfl⟩ : ∃ p0, p0 = p := ⟨p, rfl⟩
  obtain ⟨rfl, rfl⟩ := trodVars_none hV
  obtain ⟨A0, n0, c0, rfl⟩ := okWide_slice Try.underlying23 (hval 0 23 v0 rfl rfl)
  have k0 := h0
  have lt0 : ∀ x ∈ p0, x.block < W.heap.size := by obtain ⟨m, hm⟩ := k0; exact DataW.trod_lt m _ _ _ hm
  obtain ⟨us, r0, s0, t0⟩ : ∃ l : List Int, RdV W (.slice A0 n0 c0) (intsV l) ∧ l.length ≤ maxLen ∧ ∀ z ∈ l, -9223372036854775808 ≤ z ∧ z ≤ 9223372036854775807 := by obtain ⟨fuel, hf⟩ := h0; exact open_intsV hf
  clear hA0 hval0
  simp only [List.append_nil] at hW'
  refine (walk _ us W r0 s0).mono fun e W' ⟨he, hbel⟩ => ?_
  subst he
  exact ⟨_, rfl, _, _, _, [], _, [], hW', trodAll_mk1 (shut_bool Try.underlying4 _), trodAll_mk1 (Below.trod laidOut (by kernel_rfl) (of_decide_eq_true (by kernel_rfl)) k0 hbel lt0), rfl, hbel.frame _, fun h => by cases h⟩
theorem row_holds : Rows.ScriptAlgebraSaid :=
  OpenClaim.holds_of_wide 7 Try.f7 rfl rfl rfl rfl rfl rfl rfl ⟨rfl, rfl, rfl, rfl, rfl⟩ rfl rfl rfl rfl rfl (by kernel_rfl) Try.func7 (by kernel_rfl)
    (of_decide_eq_true (by kernel_rfl)) (by unfold Func.isWrapper; first | (rw [if_pos (by decide +kernel)]; kernel_rfl) | (rw [if_neg (by decide +kernel)]; exact ⟨rfl, rfl⟩))
    (fun os started H enc _ => lifted os started H enc)
end Sc.ScriptAlgebra
end Go.Proofs.Ytfbpdidnlbffhaa
