/-
  Proved: the law ScriptComposes of layer 8 returns true for every input, and its arguments read as before. No conditions.
-/
import Derived.Test.YtfbpdidnlbffhaaScrCmpR
import Derived.Test.YtfbpdidnlbffhaaScrSec
import Derived.Test.YtfbpdidnlbffhaaScrAwake
import Derived.Test.YtfbpdidnlbffhaaScrFrame
namespace Go.Proofs.Ytfbpdidnlbffhaa
open Go.ChangeShapes Go.WideShapes Go.ChangeAt Go.RowKit
namespace Sc.ScriptComposes
open Cm Au Sc
set_option maxRecDepth 100000 in
set_option maxHeartbeats 16000000 in
theorem walk (vr : Value) (us : List Int) (vl : Value) (l : List Ch) (sh : Int) (w : World) (hr : RdV w vr (intsV us)) (hrl : us.length ≤ maxLen) (hl : RdC w vl l) (hll : l.length ≤ maxLen) (bs : zB sh) :
    Calls Try.prog 6 #[vr, vl, .int .i64 sh] w fun e w' => e = .returned (.bool true) ∧ Below w.heap.size w w' := by
  have HAw := Lib.hid (fun w => awake_any w)
  obtain ⟨A0, c0, rfl⟩ := hr.form
  obtain ⟨A1, c1, rfl⟩ := hl.form
  have HScr := Lib.hid (Script_any _ us 0 w hr hrl (by omega))
  have HSec := Lib.hid (fun (wq : World) (mm : Int) (hb : Below w.heap.size w wq) (h0 : 0 ≤ mm) (h1 : mm ≤ 9) => second_any _ us 200 mm wq (hr.below hb) hrl (by omega) ⟨h0, h1⟩)
  have HIa := Lib.hid (fun (wq : World) (hb : Below w.heap.size w wq) (h : l.length ≤ 10) => Invert_any _ l wq (hl.below hb) (by omega))
  have HIb := Lib.hid (fun (wq : World) (hb : Below w.heap.size w wq) (h : l.length ≤ 10) => InvertR_any _ l wq (hl.below hb) (by omega))
  obtain ⟨bs0, bs1⟩ := bs
  unfold maxLen at hll
  clear hr hrl hl
  rw [intsV_len] at HScr HSec ⊢
  generalize us.length = nu at *
  by_cases h10 : (10 : Int) < (l.length : Int)
  · have hd : decide ((10 : Int) < (l.length : Int)) = true := decide_eq_true h10
    generalize l.length = N0 at *
    go_enter Try.func6, Try.ntmps6
    go_wp2_with fail
    refine (HAw.out _).mono ?_
    rintro e w1 ⟨rfl, hb⟩
    go_wp2_with fail
    go_ret
    exact ⟨rfl, hb⟩
  · have hd : decide ((10 : Int) < (l.length : Int)) = false := decide_eq_false h10
    have hl10 : l.length ≤ 10 := by omega
    have HI1 := Lib.hid (fun wq hb => HIa.out wq hb hl10)
    have HI2 := Lib.hid (fun wq hb => HIb.out wq hb hl10)
    have HIl : Hid ((l.map inv).length ≤ 4611686018427387904) := Lib.hid (by rw [List.length_map]; omega)
    generalize l.map inv = li at *
    clear HIa HIb hl10 h10
    generalize l.length = N0 at *
    have s0 := Tx.modF_lo sh 3 (by decide)
    have s1 := Tx.modF_hi sh 3 (by decide)
    have HMs := Lib.hid (fun wq => Tx.Mod_any sh 3 wq (by decide) (by decide) bs0 bs1)
    generalize Tx.modF sh 3 = sm at *
    go_enter Try.func6, Try.ntmps6
    go_wp2_with fail
    refine HScr.out.mono ?_
    rintro e w1 ⟨vx, x, m, k, rfl, hG, ho, hb1⟩
    obtain ⟨Ax, cx, rfl⟩ := ho.rd.form
    have HB1 := Lib.hid hb1
    have HG := Lib.hid hG
    have HX := Lib.hid ho.rd
    obtain ⟨hk0, hk1⟩ := hG.bn
    clear hb1 HScr hG ho
    go_wp2_with fail
    refine (HSec.out w1 k HB1.out hk0 hk1).mono ?_
    rintro e w2 ⟨vy, y, n, rfl, hG2, ho, hb⟩
    obtain ⟨Ay, cy, rfl⟩ := ho.rd.form
    have HB2 := Lib.hid (HB1.out.trans (hb.mono HB1.out.size))
    have HX := Lib.hid (HX.out.below hb)
    have HY := Lib.hid ho.rd
    have HC1 := Lib.hid (fun vx vy kk wq (h1 : RdC wq vx x) (h2 : RdC wq vy y) => (Compose_any vx vy x y m kk n wq h1 (by have := HG.out.len; omega) HG.out.chB h2 (by have := hG2.len; omega) hG2.chB).mono fun e w' h => CmPost.rd h)
    have HC2 := Lib.hid (fun vx vy kk wq (h1 : RdC wq vx x) (h2 : RdC wq vy y) => (ComposeR_any vx vy x y m kk n wq h1 (by have := HG.out.len; omega) h2 (by have := hG2.len; omega)).mono fun e w' h => CmPost.rd h)
    have HLa := Lib.hid (show (cmR x y m k n).length ≤ 4611686018427387904 from by have := cmR_len x y m k n; omega)
    have HLc := Lib.hid (show (cmR x y m (k + sm) n).length ≤ 4611686018427387904 from by have := cmR_len x y m (k + sm) n; omega)
    have HCa := Lib.hid (fun vx vy wq h1 h2 => HC1.out vx vy k wq h1 h2)
    have HCb := Lib.hid (fun vx vy wq h1 h2 => HC2.out vx vy k wq h1 h2)
    have HCc := Lib.hid (fun vx vy wq h1 h2 => HC1.out vx vy (k + sm) wq h1 h2)
    have HCd := Lib.hid (fun vx vy wq h1 h2 => HC2.out vx vy (k + sm) wq h1 h2)
    unfold CmRd at HCa HCb HCc HCd
    clear HC1 HC2 hG2 ho hb HSec HB1 HG
    generalize cmR x y m k n = ra at *
    generalize cmR x y m (k + sm) n = rc at *
    generalize cmE x y m k n = ea at *
    generalize cmE x y m (k + sm) n = ec at *
    generalize x.length = nx at *
    generalize y.length = ny at *
    go_wp2_with fail
    refine (HCa.out _ _ _ HX.out HY.out).mono ?_
    rintro e w3 ⟨va, rfl, hv, hb⟩
    have HB3 := Lib.hid (HB2.out.trans (hb.mono HB2.out.size))
    have HX := Lib.hid (HX.out.below hb)
    have HY := Lib.hid (HY.out.below hb)
    clear hb HB2
    obtain ⟨Aa, ca, hva⟩ := hv.form
    subst hva
    have HVa := Lib.hid hv
    clear hv
    go_wp2_with fail
    refine (HCb.out _ _ _ HX.out HY.out).mono ?_
    rintro e w4 ⟨va, rfl, hv, hb⟩
    have HB4 := Lib.hid (HB3.out.trans (hb.mono HB3.out.size))
    have HX := Lib.hid (HX.out.below hb)
    have HY := Lib.hid (HY.out.below hb)
    have HVa := Lib.hid (HVa.out.below hb)
    clear hb HB3
    obtain ⟨Ab, cb, hva⟩ := hv.form
    subst hva
    have HVb := Lib.hid hv
    clear hv
    go_upto_region 8 with (go_at_call 11; refine (HMs.out _).mono ?_; rintro e w9 ⟨rfl, rfl⟩)
    have wk : IntKind.i64.wrap (k + sm) = k + sm := by rw [IntWalk.i64_in _ (by omega)]
    go_wp2_with fail
    refine (HCc.out _ _ _ HX.out HY.out).mono ?_
    rintro e w5 ⟨va, rfl, hv, hb⟩
    have HB5 := Lib.hid (HB4.out.trans (hb.mono HB4.out.size))
    have HX := Lib.hid (HX.out.below hb)
    have HY := Lib.hid (HY.out.below hb)
    have HVa := Lib.hid (HVa.out.below hb)
    have HVb := Lib.hid (HVb.out.below hb)
    clear hb HB4
    obtain ⟨Ac, cc, hva⟩ := hv.form
    subst hva
    have HVc := Lib.hid hv
    clear hv
    go_wp2_with fail
    refine (HCd.out _ _ _ HX.out HY.out).mono ?_
    rintro e w6 ⟨va, rfl, hv, hb⟩
    have HB6 := Lib.hid (HB5.out.trans (hb.mono HB5.out.size))
    have HX := Lib.hid (HX.out.below hb)
    have HY := Lib.hid (HY.out.below hb)
    have HVa := Lib.hid (HVa.out.below hb)
    have HVb := Lib.hid (HVb.out.below hb)
    have HVc := Lib.hid (HVc.out.below hb)
    clear hb HB5
    obtain ⟨Ad, cd, hva⟩ := hv.form
    subst hva
    have HVd := Lib.hid hv
    clear hv
    go_wp2_with fail
    refine (Changes_same _ _ ra _ HLa.out HVa.out HVb.out).mono ?_
    rintro e _ ⟨rfl, q7, rfl⟩
    have hb := below_drewN (Below.refl w6.heap.size w6) q7
    have HB7 := Lib.hid (HB6.out.trans (hb.mono HB6.out.size))
    have HX := Lib.hid (HX.out.below hb)
    have HY := Lib.hid (HY.out.below hb)
    have HVa := Lib.hid (HVa.out.below hb)
    have HVb := Lib.hid (HVb.out.below hb)
    have HVc := Lib.hid (HVc.out.below hb)
    have HVd := Lib.hid (HVd.out.below hb)
    clear hb HB6
    generalize World.drewN w6 q7 = w7 at *
    go_wp2_with fail
    refine (Changes_same _ _ rc _ HLc.out HVc.out HVd.out).mono ?_
    rintro e _ ⟨rfl, q8, rfl⟩
    have hb := below_drewN (Below.refl w7.heap.size w7) q8
    have HB8 := Lib.hid (HB7.out.trans (hb.mono HB7.out.size))
    have HX := Lib.hid (HX.out.below hb)
    have HY := Lib.hid (HY.out.below hb)
    have HVa := Lib.hid (HVa.out.below hb)
    have HVb := Lib.hid (HVb.out.below hb)
    have HVc := Lib.hid (HVc.out.below hb)
    have HVd := Lib.hid (HVd.out.below hb)
    clear hb HB7
    generalize World.drewN w7 q8 = w8 at *
    go_wp2_with fail
    refine (HI1.out _ HB8.out).mono ?_
    rintro e w9 ⟨va, rfl, hv, hb⟩
    have HB9 := Lib.hid (HB8.out.trans (hb.mono HB8.out.size))
    have HX := Lib.hid (HX.out.below hb)
    have HY := Lib.hid (HY.out.below hb)
    have HVa := Lib.hid (HVa.out.below hb)
    have HVb := Lib.hid (HVb.out.below hb)
    have HVc := Lib.hid (HVc.out.below hb)
    have HVd := Lib.hid (HVd.out.below hb)
    clear hb HB8
    obtain ⟨Ae, ce, hva⟩ := hv.rd.form
    subst hva
    have HVe := Lib.hid hv.rd
    clear hv
    go_wp2_with fail
    refine (HI2.out _ HB9.out).mono ?_
    rintro e w10 ⟨va, rfl, hv, hb⟩
    have HB10 := Lib.hid (HB9.out.trans (hb.mono HB9.out.size))
    have HX := Lib.hid (HX.out.below hb)
    have HY := Lib.hid (HY.out.below hb)
    have HVa := Lib.hid (HVa.out.below hb)
    have HVb := Lib.hid (HVb.out.below hb)
    have HVc := Lib.hid (HVc.out.below hb)
    have HVd := Lib.hid (HVd.out.below hb)
    have HVe := Lib.hid (HVe.out.below hb)
    clear hb HB9
    obtain ⟨Af, cf, hva⟩ := hv.rd.form
    subst hva
    have HVf := Lib.hid hv.rd
    clear hv
    go_wp2_with fail
    refine (Changes_same _ _ li _ HIl.out HVe.out HVf.out).mono ?_
    rintro e _ ⟨rfl, q11, rfl⟩
    have hb := below_drewN (Below.refl w10.heap.size w10) q11
    have HB11 := Lib.hid (HB10.out.trans (hb.mono HB10.out.size))
    have HX := Lib.hid (HX.out.below hb)
    have HY := Lib.hid (HY.out.below hb)
    have HVa := Lib.hid (HVa.out.below hb)
    have HVb := Lib.hid (HVb.out.below hb)
    have HVc := Lib.hid (HVc.out.below hb)
    have HVd := Lib.hid (HVd.out.below hb)
    have HVe := Lib.hid (HVe.out.below hb)
    have HVf := Lib.hid (HVf.out.below hb)
    clear hb HB10
    generalize World.drewN w10 q11 = w11 at *
    go_wp2_with fail
    refine (HAw.out _).mono ?_
    rintro e w12 ⟨rfl, hb⟩
    have HB12 := Lib.hid (HB11.out.trans (hb.mono HB11.out.size))
    clear hb HB11
    go_wp2_with fail
    go_ret
    exact ⟨rfl, HB12.out⟩
set_option maxRecDepth 100000 in
theorem lifted (os : Os) (started : os.Started) (H : Type) (enc : TypeId × Value → H) :
    ReturnsInHanded {} Try.checked os 6 .any (Rows.scriptComposesSpec.pre6 enc Try.prog Try.f6 Rows.scriptComposesRow.domain false) (Rows.scriptComposesSpec.post enc Try.prog Try.f6 false true false false) := by
  refine returnsInHanded_of_change (C := Try.checked) own started (by kernel_rfl) Try.func6
    (ChangeSpec.witness6 (enc := enc) (C := Try.checked) false ⟨#[], #[.slice none 0 0, .slice none 0 0, .int .i64 0], []⟩ 8 (by kernel_rfl) (by kernel_rfl) (by kernel_rfl) (by kernel_rfl)) ?_
  intro W base args ds gs before hval0 hW _ _
  have hval : ∀ (j : Nat) t v, Try.f6.params[j]? = some t → args[j]? = some v → Value.okWide Try.prog W .any base t v := hval0
  have hW' := hW
  obtain ⟨p, q, hA0, hV, rfl, hfz, hnd⟩ := hW
  have hA : DataW.TrodAll enc Try.prog W 0 (fun _ => true) true Try.f6.params.toList args.toList ds p := hA0
  rw [Try.params6] at hA hval
  obtain ⟨v0, v1, v2, d0, d1, d2, p0, p1, p2, rfl, rfl, rfl, h0, h1, h2⟩ := trodAll_three hA
  obtain ⟨rfl, rfl⟩ := trodVars_none hV
  obtain ⟨A0, n0, c0, rfl⟩ := okWide_slice Try.underlying23 (hval 0 23 v0 rfl rfl)
  have k0 := h0
  have lt0 : ∀ x ∈ p0, x.block < W.heap.size := by obtain ⟨m, hm⟩ := k0; exact DataW.trod_lt m _ _ _ hm
  obtain ⟨us, r0, s0, t0⟩ : ∃ l : List Int, RdV W (.slice A0 n0 c0) (intsV l) ∧ l.length ≤ maxLen ∧ ∀ z ∈ l, -9223372036854775808 ≤ z ∧ z ≤ 9223372036854775807 := by obtain ⟨fuel, hf⟩ := h0; exact open_intsV hf
  obtain ⟨A1, n1, c1, rfl⟩ := okWide_slice Try.underlying22 (hval 1 22 v1 rfl rfl)
  have k1 := h1
  have lt1 : ∀ x ∈ p1, x.block < W.heap.size := by obtain ⟨m, hm⟩ := k1; exact DataW.trod_lt m _ _ _ hm
  obtain ⟨l, r1, s1, t1⟩ : ∃ l : List Ch, RdC W (.slice A1 n1 c1) l ∧ l.length ≤ maxLen ∧ ∀ z ∈ l, ChB z := by obtain ⟨fuel, hf⟩ := h1; exact open_changesV hf
  obtain ⟨sh, rfl, rfl, rfl, wsh⟩ := open_int Try.underlying3 (hval 2 3 v2 rfl rfl) h2
  have bsh := bounds_int wsh
  clear hA0 hval0
  simp only [List.append_nil] at hW'
  refine (walk _ us _ l sh W r0 s0 r1 s1 bsh).mono fun e W' ⟨he, hbel⟩ => ?_
  subst he
  exact ⟨_, rfl, _, _, _, [], _, [], hW', trodAll_mk1 (shut_bool Try.underlying4 _), trodAll_mk3 (Below.trod laidOut (by kernel_rfl) (of_decide_eq_true (by kernel_rfl)) k0 hbel lt0) (Below.trod laidOut (by kernel_rfl) (of_decide_eq_true (by kernel_rfl)) k1 hbel lt1) (shut_int Try.underlying3 wsh), rfl, hbel.frame _, fun h => by cases h⟩
theorem row_holds : Rows.ScriptComposesSaid :=
  OpenClaim.holds_of_wide 6 Try.f6 rfl rfl rfl rfl rfl rfl rfl ⟨rfl, rfl, rfl, rfl, rfl⟩ rfl rfl rfl rfl rfl (by kernel_rfl) Try.func6 (by kernel_rfl)
    (of_decide_eq_true (by kernel_rfl)) (by unfold Func.isWrapper; first | (rw [if_pos (by decide +kernel)]; kernel_rfl) | (rw [if_neg (by decide +kernel)]; exact ⟨rfl, rfl⟩))
    (fun os started H enc _ => lifted os started H enc)
end Sc.ScriptComposes
end Go.Proofs.Ytfbpdidnlbffhaa
