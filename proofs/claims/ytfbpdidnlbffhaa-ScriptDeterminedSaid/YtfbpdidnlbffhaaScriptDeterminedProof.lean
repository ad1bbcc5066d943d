/-
  Proved: the law ScriptDetermined of layer 8 returns true for every input, and its arguments read as before. No conditions.
-/
import Derived.Test.YtfbpdidnlbffhaaScrGood
import Derived.Test.YtfbpdidnlbffhaaScrAwake
import Derived.Test.YtfbpdidnlbffhaaScrFrame
namespace Go.Proofs.Ytfbpdidnlbffhaa
open Go.ChangeShapes Go.WideShapes Go.ChangeAt Go.RowKit
namespace Sc.ScriptDetermined
open Cm Au Sc
set_option maxRecDepth 100000 in
set_option maxHeartbeats 16000000 in
theorem walk (vr : Value) (us : List Int) (w : World) (hr : RdV w vr (intsV us)) (hrl : us.length ≤ maxLen) :
    Calls Try.prog 5 #[vr] w fun e w' => e = .returned (.bool true) ∧ Below w.heap.size w w' := by
  have HAw := Lib.hid (fun w => awake_any w)
  obtain ⟨A3, c3, rfl⟩ := hr.form
  have HScr := Lib.hid (Script_any _ us 0 w hr hrl (by omega))
  rw [intsV_len] at HScr ⊢
  generalize us.length = nu at HScr ⊢
  clear hr hrl
  go_enter Try.func5, Try.ntmps5
  go_wp2_with fail
  refine HScr.out.mono ?_
  rintro e w1 ⟨vx, x, m, n, rfl, hG, ho, hb1⟩
  obtain ⟨Ax, cx, rfl⟩ := ho.rd.form
  have HB1 := Lib.hid hb1
  have HG := Lib.hid hG
  have HX := Lib.hid ho.rd
  have HXl := Lib.hid (show x.length ≤ 4611686018427387904 from by have := hG.len; omega)
  have HXs := Lib.hid (show x.length ≤ 100000 from by have := hG.len; omega)
  obtain ⟨hp1, hp2⟩ := hG.mtlen
  have hps := hG.mtsm
  have hOkp := Lib.hid hG.okp
  have hFr := Lib.hid hG.fr
  have hInv := Lib.hid (mt_inv x true 0 0 hG.ok)
  obtain ⟨hm0, hm1⟩ := hG.bm
  obtain ⟨hn0, hn1⟩ := hG.bn
  obtain ⟨so0, so1⟩ := szO_bd x
  obtain ⟨sn0, sn1⟩ := szN_bd x
  have hxl := hG.len
  have HPa := Lib.hid (fun v wq (h : RdC wq v x) => Pairs_good v x m n wq h hG)
  have HPb := Lib.hid (fun v wq (h : RdC wq v (x.map inv)) => Pairs_good v (x.map inv) n m wq h hG.inv)
  have HFp := Lib.hid (fun v wq (h : RdS wq v (mtF m 0 0 x)) => FromPairs_good v (mtF m 0 0 x) m n wq h (by omega) hG.im hG.in_ hG.okp)
  have HSz := Lib.hid (fun v wq (h : RdC wq v x) => Size_any v x wq h (by omega))
  unfold SzPost at HSz
  rw [hInv.out] at HPb
  rw [hFr.out] at HFp
  clear hb1 HScr hG ho
  generalize mtF m 0 0 x = p at *
  generalize szO x = sO at *
  generalize szN x = sN at *
  go_wp2_with fail
  refine (HPa.out _ _ HX.out).mono ?_
  rintro e w2 ⟨vp, rfl, hop, hb⟩
  have HB2 := Lib.hid (HB1.out.trans (hb.mono HB1.out.size))
  have HX := Lib.hid (HX.out.below hb)
  clear hb HB1
  obtain ⟨Ap, cp, rfl⟩ := hop.rd.form
  have HP := Lib.hid hop.rd
  clear hop
  go_wp2_with fail
  refine (HFp.out _ _ HP.out).mono ?_
  rintro e w3 ⟨vq, rfl, hoq, hb⟩
  have HB3 := Lib.hid (HB2.out.trans (hb.mono HB2.out.size))
  have HX := Lib.hid (HX.out.below hb)
  have HP := Lib.hid (HP.out.below hb)
  clear hb HB2
  obtain ⟨Aq, cq, rfl⟩ := hoq.rd.form
  have HQ := Lib.hid hoq.rd
  clear hoq
  go_wp2_with fail
  refine (Invert_any _ x _ HX.out HXs.out).mono ?_
  rintro e w4 ⟨vi, rfl, hoi, hb⟩
  have HB4 := Lib.hid (HB3.out.trans (hb.mono HB3.out.size))
  have HX := Lib.hid (HX.out.below hb)
  have HP := Lib.hid (HP.out.below hb)
  have HQ := Lib.hid (HQ.out.below hb)
  clear hb HB3
  obtain ⟨Ai, ci, hvi⟩ := hoi.rd.form
  rw [List.length_map] at hvi
  subst hvi
  have HI := Lib.hid hoi.rd
  clear hoi
  go_wp2_with fail
  refine (HPb.out _ _ HI.out).mono ?_
  rintro e w5 ⟨vy, rfl, hoy, hb⟩
  have HB5 := Lib.hid (HB4.out.trans (hb.mono HB4.out.size))
  have HX := Lib.hid (HX.out.below hb)
  have HP := Lib.hid (HP.out.below hb)
  have HQ := Lib.hid (HQ.out.below hb)
  have HI := Lib.hid (HI.out.below hb)
  clear hb HB4
  obtain ⟨Ay, cy, hvy⟩ := hoy.rd.form
  rw [List.length_map] at hvy
  subst hvy
  have HY := Lib.hid hoy.rd
  clear hoy
  go_wp2_with fail
  refine (HSz.out _ _ HX.out).mono ?_
  rintro e w6 ⟨rfl, hb⟩
  have HB6 := Lib.hid (HB5.out.trans (hb.mono HB5.out.size))
  have HX := Lib.hid (HX.out.below hb)
  have HP := Lib.hid (HP.out.below hb)
  have HQ := Lib.hid (HQ.out.below hb)
  have HI := Lib.hid (HI.out.below hb)
  have HY := Lib.hid (HY.out.below hb)
  clear hb HB5
  have HIl := Lib.hid (show (x.map inv).length ≤ 100000 from by rw [List.length_map]; exact HXs.out)
  generalize hnp : p.length = np at *
  have HNp := Lib.hid hnp
  clear hnp
  have t1 : ((np : Int) != (m - sO)) = false := by rw [bne_eq_false_iff_eq]; exact hp1
  have t2 : ((np : Int) != (n - sN)) = false := by rw [bne_eq_false_iff_eq]; exact hp2
  have u1 : sO ≤ 9 := by omega
  have u2 : sN ≤ 9 := by omega
  clear hp1 hp2
  go_wp2_with fail
  refine (Changes_same _ _ x _ HXl.out HQ.out HX.out).mono ?_
  rintro e _ ⟨rfl, q7, rfl⟩
  have hb := below_drewN (Below.refl w6.heap.size w6) q7
  have HB7 := Lib.hid (HB6.out.trans (hb.mono HB6.out.size))
  have HX := Lib.hid (HX.out.below hb)
  have HP := Lib.hid (HP.out.below hb)
  have HQ := Lib.hid (HQ.out.below hb)
  have HI := Lib.hid (HI.out.below hb)
  have HY := Lib.hid (HY.out.below hb)
  clear hb HB6
  generalize World.drewN w6 q7 = w7 at *
  go_wp2_with fail
  refine (Invert_any _ (x.map inv) _ HI.out HIl.out).mono ?_
  rintro e w8 ⟨vj, rfl, hoj, hb⟩
  have HB8 := Lib.hid (HB7.out.trans (hb.mono HB7.out.size))
  have HX := Lib.hid (HX.out.below hb)
  have HP := Lib.hid (HP.out.below hb)
  have HQ := Lib.hid (HQ.out.below hb)
  have HI := Lib.hid (HI.out.below hb)
  have HY := Lib.hid (HY.out.below hb)
  clear hb HB7
  rw [inv_inv] at hoj
  have HJ := Lib.hid hoj.rd
  clear hoj
  go_wp2_with fail
  refine (Changes_same _ _ x _ HXl.out HJ.out HX.out).mono ?_
  rintro e _ ⟨rfl, q9, rfl⟩
  have hb := below_drewN (Below.refl w8.heap.size w8) q9
  have HB9 := Lib.hid (HB8.out.trans (hb.mono HB8.out.size))
  have HX := Lib.hid (HX.out.below hb)
  have HP := Lib.hid (HP.out.below hb)
  have HQ := Lib.hid (HQ.out.below hb)
  have HI := Lib.hid (HI.out.below hb)
  have HY := Lib.hid (HY.out.below hb)
  have HJ := Lib.hid (HJ.out.below hb)
  clear hb HB8
  generalize World.drewN w8 q9 = w9 at *
  go_wp2_with fail
  go_loopw [15] (fun k' wr => ∃ (k : Nat), k ≤ np ∧ k' = .int .i64 (k : Int) ∧ ∃ q, wr = w9.drewN q) (fun k' _ => np - (intOf k').toNat)
  case atStart => exact ⟨0, Nat.zero_le _, rfl, 0, rfl⟩
  case round =>
    obtain ⟨k, hk, rfl, q, rfl⟩ := hrel
    by_cases hlt : k < np
    · have hx : k < p.length := by rw [HNp.out]; exact hlt
      have hx2 : k < (p.map swp).length := by rw [List.length_map]; exact hx
      obtain ⟨g1, o1, rfl, a0, a1⟩ := RdS_at HP.out k hx
      obtain ⟨g2, o2, rfl, b0, b1⟩ := RdS_at HY.out k hx2
      rw [List.getElem_map] at b0 b1
      generalize p[k] = sp at a0 a1 b0 b1
      obtain ⟨za, zb⟩ := sp
      simp only [swp] at a0 a1 b0 b1
      have i1 : (0 : Int) ≤ (k : Int) := by omega
      have i2 : (k : Int) < (np : Int) := by omega
      have dk : decide (k < np) = true := decide_eq_true hlt
      go_wp2_with fail
      go_quiet (fail)
      go_wp2_with fail
      go_roundw
      case rel => exact ⟨k + 1, by omega, by go_num, _, rfl⟩
      case measure => simp [intOf]; omega
    · have dk : decide (k < np) = false := decide_eq_false hlt
      go_wp2_with fail
      refine (HAw.out _).mono ?_
      rintro e w20 ⟨rfl, hb⟩
      have hb0 := below_drewN HB9.out q
      have HBz := Lib.hid (hb0.trans (hb.mono hb0.size))
      clear hb hb0
      go_wp2_with fail
      go_ret
      exact ⟨rfl, HBz.out⟩
set_option maxRecDepth 100000 in
theorem lifted (os : Os) (started : os.Started) (H : Type) (enc : TypeId × Value → H) :
    ReturnsInHanded {} Try.checked os 5 .any (Rows.scriptDeterminedSpec.pre6 enc Try.prog Try.f5 Rows.scriptDeterminedRow.domain false) (Rows.scriptDeterminedSpec.post enc Try.prog Try.f5 false true false false) := by
  refine returnsInHanded_of_change (C := Try.checked) own started (by kernel_rfl) Try.func5
    (ChangeSpec.witness6 (enc := enc) (C := Try.checked) false ⟨#[], #[.slice none 0 0], []⟩ 8 (by kernel_rfl) (by kernel_rfl) (by kernel_rfl) (by kernel_rfl)) ?_
  intro W base args ds gs before hval0 hW _ _
  have hval : ∀ (j : Nat) t v, Try.f5.params[j]? = some t → args[j]? = some v → Value.okWide Try.prog W .any base t v := hval0
  have hW' := hW
  obtain ⟨p, q, hA0, hV, rfl, hfz, hnd⟩ := hW
  have hA : DataW.TrodAll enc Try.prog W 0 (fun _ => true) true Try.f5.params.toList args.toList ds p := hA0
  rw [Try.params5] at hA hval
  obtain ⟨v0, d0, rfl, rfl, h0⟩ := trodAll_one hA
  obtain ⟨p0, rfl⟩ : ∃ p0, p0 = p := ⟨p, rfl⟩
  obtain ⟨rfl, rfl⟩ := trodVars_none hV
  obtain ⟨A0, n0, c0, rfl⟩ := okWide_slice Try.underlying23 (hval 0 23 v0 rfl rfl)
  have k0 := h0
  have lt0 : ∀ x ∈ p0, x.block < W.heap.size := by obtain ⟨m, hm⟩ := k0; exact DataW.trod_lt m _ _ _ hm
  obtain ⟨us, r0, s0, t0⟩ : ∃ l : List Int, RdV W (.slice A0 n0 c0) (intsV l) ∧ l.length ≤ maxLen ∧ ∀ z ∈ l, -9223372036854775808 ≤ z ∧ z ≤ 9223372036854775807 := by obtain ⟨fuel, hf⟩ := h0; exact open_intsV hf
  clear hA0 hval0
  simp only [List.append_nil] at hW'
  refine (walk _ us W r0 s0).mono fun e W' ⟨he, hbel⟩ => ?_
  subst he
  exact ⟨_, rfl, _, _, _, [], _, [], hW', trodAll_mk1 (shut_bool Try.underlying4 _), trodAll_mk1 (Below.trod laidOut (by kernel_rfl) (of_decide_eq_true (by kernel_rfl)) k0 hbel lt0), rfl, hbel.frame _, fun h => by cases h⟩
theorem row_holds : Rows.ScriptDeterminedSaid :=
  OpenClaim.holds_of_wide 5 Try.f5 rfl rfl rfl rfl rfl rfl rfl ⟨rfl, rfl, rfl, rfl, rfl⟩ rfl rfl rfl rfl rfl (by kernel_rfl) Try.func5 (by kernel_rfl)
    (of_decide_eq_true (by kernel_rfl)) (by unfold Func.isWrapper; first | (rw [if_pos (by decide +kernel)]; kernel_rfl) | (rw [if_neg (by decide +kernel)]; exact ⟨rfl, rfl⟩))
    (fun os started H enc _ => lifted os started H enc)
end Sc.ScriptDetermined
end Go.Proofs.Ytfbpdidnlbffhaa
