/-
  Proved: the law ScriptPairs of layer 8 returns true for every input, and its arguments read as before. No conditions.
-/
import Derived.Test.YtfbpdidnlbffhaaScrPrM
import Derived.Test.YtfbpdidnlbffhaaScrAwake
import Derived.Test.YtfbpdidnlbffhaaScrFrame
namespace Go.Proofs.Ytfbpdidnlbffhaa
open Go.ChangeShapes Go.WideShapes Go.ChangeAt Go.RowKit
namespace Sc.ScriptPairs
open Cm Au Sc
set_option maxRecDepth 100000 in
set_option maxHeartbeats 16000000 in
theorem walk (vr : Value) (us : List Int) (vp : Value) (p : List Sp) (m n : Int) (fit : Bool) (w : World) (hr : RdV w vr (intsV us)) (hrl : us.length ≤ maxLen) (hp : RdS w vp p) (hpl : p.length ≤ maxLen) (hpb : ∀ s ∈ p, SpB s) (bm : zB m) (bn : zB n) :
    Calls Try.prog 4 #[vr, vp, .int .i64 m, .int .i64 n, .bool fit] w fun e w' => e = .returned (.bool true) ∧ Below w.heap.size w w' := by
  have HAw := Lib.hid (fun w => awake_any w)
  obtain ⟨A3, c3, rfl⟩ := hr.form
  obtain ⟨Ap, cp, rfl⟩ := hp.form
  have HScr := Lib.hid (Script_any _ us 0 w hr hrl (by omega))
  have HPr := Lib.hid (fun (wq : World) (hb : Below w.heap.size w wq) => RdK.below hp hb)
  have HPb := Lib.hid hpb
  unfold maxLen at hpl
  rw [intsV_len] at HScr ⊢
  generalize us.length = nu at HScr ⊢
  clear hr hrl hp hpb
  obtain ⟨bm0, bm1⟩ := bm
  obtain ⟨bn0, bn1⟩ := bn
  by_cases h10 : (10 : Int) < (p.length : Int)
  · have hd : decide ((10 : Int) < (p.length : Int)) = true := decide_eq_true h10
    generalize p.length = N0 at *
    go_enter Try.func4, Try.ntmps4
    go_wp2_with fail
    refine (HAw.out _).mono ?_
    rintro e w1 ⟨rfl, hb⟩
    go_wp2_with fail
    go_ret
    exact ⟨rfl, hb⟩
  · have hd : decide ((10 : Int) < (p.length : Int)) = false := decide_eq_false h10
    have HFl := Lib.hid (fun k (hk : k ≤ p.length) => fitP_len p hk)
    have HSt := Lib.hid (fun k (hk : k < p.length) => fitP_step hk)
    generalize hN0 : p.length = N0 at *
    have HN0 := Lib.hid hN0
    clear hN0
    have hN10 : N0 ≤ 10 := by omega
    clear h10 hpl
    cases fit with
    | false =>
      go_enter Try.func4, Try.ntmps4
      go_wp2_with fail
      refine HScr.out.mono ?_
      rintro e w1 ⟨vx, x, a, b, rfl, hG, ho, hb1⟩
      obtain ⟨Ax, cx, rfl⟩ := ho.rd.form
      have HB1 := Lib.hid hb1
      have HG := Lib.hid hG
      have HX := Lib.hid ho.rd
      have hxl := hG.len
      obtain ⟨ha0, ha1⟩ := hG.bm
      obtain ⟨hb0, hb2⟩ := hG.bn
      have hps := hG.mtsm
      have HPa := Lib.hid (fun v wq (h : RdC wq v x) => Pairs_good v x a b wq h hG)
      have HPr2 := Lib.hid (fun v wq (h : RdC wq v x) => PairsR_good v x a b wq h hG)
      have HOff := Lib.hid (fun v wq (h : RdC wq v x) => Pairs_off v x a b wq h hG)
      have HMl : Hid ((mtF a 0 0 x).length ≤ 4611686018427387904) := Lib.hid (by omega)
      clear hb1 HScr hG ho
      generalize mtF a 0 0 x = pp at *
      go_wp2_with fail
      refine (HPa.out _ _ HX.out).mono ?_
      rintro e w2 ⟨vy, rfl, hoy, hb⟩
      have HB2 := Lib.hid (HB1.out.trans (hb.mono HB1.out.size))
      have HX := Lib.hid (HX.out.below hb)
      clear hb HB1
      obtain ⟨Ay, cy, rfl⟩ := hoy.rd.form
      have HY := Lib.hid hoy.rd
      clear hoy
      go_wp2_with fail
      refine (HPr2.out _ _ HX.out).mono ?_
      rintro e w3 ⟨vz, rfl, hoz, hb⟩
      have HB3 := Lib.hid (HB2.out.trans (hb.mono HB2.out.size))
      have HX := Lib.hid (HX.out.below hb)
      have HY := Lib.hid (HY.out.below hb)
      clear hb HB2
      obtain ⟨Az, cz, rfl⟩ := hoz.rd.form
      have HZ := Lib.hid hoz.rd
      clear hoz
      have HPq := Lib.hid ((HPr.out w3 HB3.out).below ((Below.refl _ _).alloc (Nat.le_refl _) (.cells #[] tSp)))
      have HBe := Lib.hid ((Below.refl w3.heap.size w3).alloc (Nat.le_refl _) (.cells #[] tSp))
      have HZs : Hid (w3.heap.size ≤ (w3.alloc (.cells #[] tSp)).heap.size) := Lib.hid (by simp)
      have hN11 : 0 + p.length ≤ 1000000 := by rw [HN0.out]; omega
      have HEm2 : Hid ((w3.alloc (.cells #[] tSp)).ownsRow w3.heap.size tSp 2 (.slice (some ⟨w3.heap.size, 0, none⟩) 0 0) 0 []) := Lib.hid (OwnS.empty w3)
      go_wp2_with (at_builtin; refine app_rdK (by decide) spC_len one_sp rfl Try.underlying36 info_sp rfl (by decide) (.tmp 50) (.tmp 51) rfl w3.heap.size 0 [] p (.slice (some ⟨w3.heap.size, 0, none⟩) 0 0) _ rfl HEm2.out rfl HPq.out hN11 HZs.out ?_; intro vq w5 hoq hbq; have HOq : Hid (OwnS w3.heap.size w5 vq (fitP p 0)) := Lib.hid (by have h := hoq; rw [Nat.zero_add, List.nil_append] at h; exact h); have HK5 := Lib.hid (HBe.out.trans hbq); have HBw5 := Lib.hid (HB3.out.trans (HK5.out.mono HB3.out.size)); obtain ⟨Aq, cq, hvq⟩ := HOq.out.rd.form; rw [fitP_zero, HN0.out] at hvq; subst hvq; clear hoq hbq HPq HBe HZs hN11 HEm2)
      go_loopw [19] (fun k' wr => wr = w5 ∧ k' = .int .i64 0) (fun _ _ => 0)
      case atStart => exact ⟨rfl, rfl⟩
      case round =>
        obtain ⟨rfl, rfl⟩ := hrel
        have HQ := Lib.hid HOq.out.rd
        have HBw := HBw5
        have HKr := HK5
        have HQb := HPb
        have HQl := Lib.hid (show p.length ≤ 10 from by rw [HN0.out]; exact hN10)
        clear HOq HBw5 HK5 HFl HSt
        by_cases hz : 0 < N0
        · have dz : decide (0 < N0) = true := decide_eq_true hz
          have HX := Lib.hid (HX.out.below HKr.out)
          have HY := Lib.hid (HY.out.below HKr.out)
          have HZ := Lib.hid (HZ.out.below HKr.out)
          have HF1 := Lib.hid ((FromPairs_any _ p m n wr HQ.out (by have := HQl.out; omega) HQb.out).mono (fun _ _ h => h.rd))
          have HF2 := Lib.hid (fun v wq (h : RdS wq v p) => (FromPairsR_any v p m n wq h (by have := HQl.out; omega)).mono (fun _ _ h => h.rd))
          have HLl : Hid ((fpL p m n).length ≤ 4611686018427387904) := Lib.hid (by have h1 := fpL_len p m n; have h2 := HQl.out; omega)
          unfold FpRd at HF1 HF2
          generalize fpF p m n = code at HF1 HF2
          generalize fpL p m n = fl at HF1 HF2 HLl
          clear HKr HQb HQl
          go_wp2_with fail
          refine (HF1.out).mono ?_
          rintro e y1 ⟨vu, rfl, hru, hb⟩
          have HBw := Lib.hid (HBw.out.trans (hb.mono HBw.out.size))
          have HX := Lib.hid (HX.out.below hb)
          have HY := Lib.hid (HY.out.below hb)
          have HZ := Lib.hid (HZ.out.below hb)
          have HQ := Lib.hid (HQ.out.below hb)
          clear hb
          have HU := Lib.hid hru
          clear hru
          go_wp2_with fail
          refine (HF2.out _ _ HQ.out).mono ?_
          rintro e y2 ⟨vv, rfl, hrv, hb⟩
          have HBw := Lib.hid (HBw.out.trans (hb.mono HBw.out.size))
          have HX := Lib.hid (HX.out.below hb)
          have HY := Lib.hid (HY.out.below hb)
          have HZ := Lib.hid (HZ.out.below hb)
          have HU := Lib.hid (HU.out.below hb)
          clear hb
          have HV := Lib.hid hrv
          clear hrv
          go_wp2_with fail
          refine (HOff.out _ _ HX.out).mono ?_
          rintro e y3 ⟨rfl, hb⟩
          have HBw := Lib.hid (HBw.out.trans (hb.mono HBw.out.size))
          have HY := Lib.hid (HY.out.below hb)
          have HZ := Lib.hid (HZ.out.below hb)
          have HU := Lib.hid (HU.out.below hb)
          have HV := Lib.hid (HV.out.below hb)
          clear hb
          go_wp2_with fail
          refine (Spans_same _ _ pp _ HMl.out HY.out HZ.out).mono ?_
          rintro e _ ⟨rfl, qq4, rfl⟩
          have hb := below_drewN (Below.refl y3.heap.size y3) qq4
          have HBw := Lib.hid (HBw.out.trans (hb.mono HBw.out.size))
          have HU := Lib.hid (HU.out.below hb)
          have HV := Lib.hid (HV.out.below hb)
          clear hb
          generalize World.drewN y3 qq4 = y4 at *
          go_wp2_with fail
          refine (Changes_same _ _ fl _ HLl.out HU.out HV.out).mono ?_
          rintro e _ ⟨rfl, qq5, rfl⟩
          have hb := below_drewN (Below.refl y4.heap.size y4) qq5
          have HBw := Lib.hid (HBw.out.trans (hb.mono HBw.out.size))
          clear hb
          generalize World.drewN y4 qq5 = y5 at *
          go_wp2_with fail
          refine (HAw.out _).mono ?_
          rintro e y6 ⟨rfl, hb⟩
          have HBw := Lib.hid (HBw.out.trans (hb.mono HBw.out.size))
          clear hb
          go_wp2_with fail
          go_ret
          exact ⟨rfl, HBw.out⟩
        · have dz : decide (0 < N0) = false := decide_eq_false hz
          have HX := Lib.hid (HX.out.below HKr.out)
          have HY := Lib.hid (HY.out.below HKr.out)
          have HZ := Lib.hid (HZ.out.below HKr.out)
          have HF1 := Lib.hid ((FromPairs_any _ p m n wr HQ.out (by have := HQl.out; omega) HQb.out).mono (fun _ _ h => h.rd))
          have HF2 := Lib.hid (fun v wq (h : RdS wq v p) => (FromPairsR_any v p m n wq h (by have := HQl.out; omega)).mono (fun _ _ h => h.rd))
          have HLl : Hid ((fpL p m n).length ≤ 4611686018427387904) := Lib.hid (by have h1 := fpL_len p m n; have h2 := HQl.out; omega)
          unfold FpRd at HF1 HF2
          generalize fpF p m n = code at HF1 HF2
          generalize fpL p m n = fl at HF1 HF2 HLl
          clear HKr HQb HQl
          go_wp2_with fail
          refine (HF1.out).mono ?_
          rintro e y1 ⟨vu, rfl, hru, hb⟩
          have HBw := Lib.hid (HBw.out.trans (hb.mono HBw.out.size))
          have HX := Lib.hid (HX.out.below hb)
          have HY := Lib.hid (HY.out.below hb)
          have HZ := Lib.hid (HZ.out.below hb)
          have HQ := Lib.hid (HQ.out.below hb)
          clear hb
          have HU := Lib.hid hru
          clear hru
          go_wp2_with fail
          refine (HF2.out _ _ HQ.out).mono ?_
          rintro e y2 ⟨vv, rfl, hrv, hb⟩
          have HBw := Lib.hid (HBw.out.trans (hb.mono HBw.out.size))
          have HX := Lib.hid (HX.out.below hb)
          have HY := Lib.hid (HY.out.below hb)
          have HZ := Lib.hid (HZ.out.below hb)
          have HU := Lib.hid (HU.out.below hb)
          clear hb
          have HV := Lib.hid hrv
          clear hrv
          go_wp2_with fail
          refine (HOff.out _ _ HX.out).mono ?_
          rintro e y3 ⟨rfl, hb⟩
          have HBw := Lib.hid (HBw.out.trans (hb.mono HBw.out.size))
          have HY := Lib.hid (HY.out.below hb)
          have HZ := Lib.hid (HZ.out.below hb)
          have HU := Lib.hid (HU.out.below hb)
          have HV := Lib.hid (HV.out.below hb)
          clear hb
          go_wp2_with fail
          refine (Spans_same _ _ pp _ HMl.out HY.out HZ.out).mono ?_
          rintro e _ ⟨rfl, qq4, rfl⟩
          have hb := below_drewN (Below.refl y3.heap.size y3) qq4
          have HBw := Lib.hid (HBw.out.trans (hb.mono HBw.out.size))
          have HU := Lib.hid (HU.out.below hb)
          have HV := Lib.hid (HV.out.below hb)
          clear hb
          generalize World.drewN y3 qq4 = y4 at *
          go_wp2_with fail
          refine (Changes_same _ _ fl _ HLl.out HU.out HV.out).mono ?_
          rintro e _ ⟨rfl, qq5, rfl⟩
          have hb := below_drewN (Below.refl y4.heap.size y4) qq5
          have HBw := Lib.hid (HBw.out.trans (hb.mono HBw.out.size))
          clear hb
          generalize World.drewN y4 qq5 = y5 at *
          go_wp2_with fail
          refine (HAw.out _).mono ?_
          rintro e y6 ⟨rfl, hb⟩
          have HBw := Lib.hid (HBw.out.trans (hb.mono HBw.out.size))
          clear hb
          go_wp2_with fail
          go_ret
          exact ⟨rfl, HBw.out⟩
    | true =>
      have m0 := Tx.modF_lo m 30 (by decide)
      have m1 := Tx.modF_hi m 30 (by decide)
      have n0 := Tx.modF_lo n 30 (by decide)
      have n1 := Tx.modF_hi n 30 (by decide)
      have HMm := Lib.hid (fun wq => Tx.Mod_any m 30 wq (by decide) (by decide) bm0 bm1)
      have HMn := Lib.hid (fun wq => Tx.Mod_any n 30 wq (by decide) (by decide) bn0 bn1)
      generalize Tx.modF m 30 = mm at *
      generalize Tx.modF n 30 = nn at *
      go_enter Try.func4, Try.ntmps4
      go_wp2_with fail
      refine HScr.out.mono ?_
      rintro e w1 ⟨vx, x, a, b, rfl, hG, ho, hb1⟩
      obtain ⟨Ax, cx, rfl⟩ := ho.rd.form
      have HB1 := Lib.hid hb1
      have HG := Lib.hid hG
      have HX := Lib.hid ho.rd
      have hxl := hG.len
      obtain ⟨ha0, ha1⟩ := hG.bm
      obtain ⟨hb0, hb2⟩ := hG.bn
      have hps := hG.mtsm
      have HPa := Lib.hid (fun v wq (h : RdC wq v x) => Pairs_good v x a b wq h hG)
      have HPr2 := Lib.hid (fun v wq (h : RdC wq v x) => PairsR_good v x a b wq h hG)
      have HOff := Lib.hid (fun v wq (h : RdC wq v x) => Pairs_off v x a b wq h hG)
      have HMl : Hid ((mtF a 0 0 x).length ≤ 4611686018427387904) := Lib.hid (by omega)
      clear hb1 HScr hG ho
      generalize mtF a 0 0 x = pp at *
      go_wp2_with fail
      refine (HPa.out _ _ HX.out).mono ?_
      rintro e w2 ⟨vy, rfl, hoy, hb⟩
      have HB2 := Lib.hid (HB1.out.trans (hb.mono HB1.out.size))
      have HX := Lib.hid (HX.out.below hb)
      clear hb HB1
      obtain ⟨Ay, cy, rfl⟩ := hoy.rd.form
      have HY := Lib.hid hoy.rd
      clear hoy
      go_wp2_with fail
      refine (HPr2.out _ _ HX.out).mono ?_
      rintro e w3 ⟨vz, rfl, hoz, hb⟩
      have HB3 := Lib.hid (HB2.out.trans (hb.mono HB2.out.size))
      have HX := Lib.hid (HX.out.below hb)
      have HY := Lib.hid (HY.out.below hb)
      clear hb HB2
      obtain ⟨Az, cz, rfl⟩ := hoz.rd.form
      have HZ := Lib.hid hoz.rd
      clear hoz
      have HPq := Lib.hid ((HPr.out w3 HB3.out).below ((Below.refl _ _).alloc (Nat.le_refl _) (.cells #[] tSp)))
      have HBe := Lib.hid ((Below.refl w3.heap.size w3).alloc (Nat.le_refl _) (.cells #[] tSp))
      have HZs : Hid (w3.heap.size ≤ (w3.alloc (.cells #[] tSp)).heap.size) := Lib.hid (by simp)
      have hN11 : 0 + p.length ≤ 1000000 := by rw [HN0.out]; omega
      have HEm2 : Hid ((w3.alloc (.cells #[] tSp)).ownsRow w3.heap.size tSp 2 (.slice (some ⟨w3.heap.size, 0, none⟩) 0 0) 0 []) := Lib.hid (OwnS.empty w3)
      go_wp2_with (at_builtin; refine app_rdK (by decide) spC_len one_sp rfl Try.underlying36 info_sp rfl (by decide) (.tmp 50) (.tmp 51) rfl w3.heap.size 0 [] p (.slice (some ⟨w3.heap.size, 0, none⟩) 0 0) _ rfl HEm2.out rfl HPq.out hN11 HZs.out ?_; intro vq w5 hoq hbq; have HOq : Hid (OwnS w3.heap.size w5 vq (fitP p 0)) := Lib.hid (by have h := hoq; rw [Nat.zero_add, List.nil_append] at h; exact h); have HK5 := Lib.hid (HBe.out.trans hbq); have HBw5 := Lib.hid (HB3.out.trans (HK5.out.mono HB3.out.size)); obtain ⟨Aq, cq, hvq⟩ := HOq.out.rd.form; rw [fitP_zero, HN0.out] at hvq; subst hvq; clear hoq hbq HPq HBe HZs hN11 HEm2)
      go_loopw [19] (fun k' wr => ∃ k : Nat, k ≤ N0 ∧ k' = .int .i64 (k : Int) ∧ Hid (OwnS w3.heap.size wr (.slice Aq N0 cq) (fitP p k)) ∧ Hid (Below w3.heap.size w5 wr)) (fun k' _ => N0 - (intOf k').toNat)
      case atStart => exact ⟨0, Nat.zero_le _, rfl, HOq, Lib.hid (Below.refl _ _)⟩
      case round =>
        obtain ⟨k, hk, rfl, HO1, HB1⟩ := hrel
        have HKr := Lib.hid (HK5.out.trans HB1.out)
        have HBw := Lib.hid (HB3.out.trans (HKr.out.mono HB3.out.size))
        by_cases hlt : k < N0
        · have dk : decide (k < N0) = true := decide_eq_true hlt
          have hx : k < p.length := by rw [HN0.out]; exact hlt
          obtain ⟨b0, off, rfl, a0, a1⟩ := RdS_at (HPr.out wr HBw.out) k hx
          obtain ⟨⟨ba0, ba1⟩, ⟨bb0, bb1⟩⟩ := HPb.out _ (List.getElem_mem hx)
          have HFs : Hid (fitS p k = ⟨Tx.modF p[k].frm 3 + 2 * (k : Int), Tx.modF p[k].to 3 + 2 * (k : Int)⟩) := Lib.hid (by
            unfold fitS
            rw [List.getD_eq_getElem?_getD, List.getElem?_eq_getElem hx]; rfl)
          have HStk := Lib.hid (HSt.out k hlt)
          have hxq : k < (fitP p k).length := by rw [HFl.out k (by omega)]; exact hlt
          obtain ⟨g, cq2, hvq⟩ : ∃ g c, (Value.slice Aq N0 cq) = .slice (some ⟨g, 0, none⟩) N0 c := by
            rcases HO1.out.2 with ⟨e, h0⟩ | ⟨g, cap, cur, e, _⟩
            · rw [HFl.out k (by omega)] at h0; omega
            · injection e with e1 e2 e3
              exact ⟨g, cap, by rw [e1, e3]⟩
          injection hvq with hv1 _ hv2
          subst hv1
          subst hv2
          generalize p[k] = sp at a0 a1 ba0 ba1 bb0 bb1 HFs
          obtain ⟨za, zb⟩ := sp
          simp only at a0 a1 ba0 ba1 bb0 bb1
          have s0 := Tx.modF_lo za 3 (by decide)
          have s1 := Tx.modF_hi za 3 (by decide)
          have t0 := Tx.modF_lo zb 3 (by decide)
          have t1 := Tx.modF_hi zb 3 (by decide)
          have HMa := Lib.hid (fun wq => Tx.Mod_any za 3 wq (by decide) (by decide) ba0 ba1)
          have HMb := Lib.hid (fun wq => Tx.Mod_any zb 3 wq (by decide) (by decide) bb0 bb1)
          generalize Tx.modF za 3 = xa at *
          generalize Tx.modF zb 3 = xb at *
          have HOd := Lib.hid (HO1.out.below (Below.refl _ _).drew)
          obtain ⟨⟨e0, e1⟩, ef⟩ := HOd.out.cells k hxq
          obtain ⟨⟨e3, e4⟩, ef2⟩ := HO1.out.cells k hxq
          have HPut : Hid (OwnS w3.heap.size ((wr.drew.setCell ⟨g, k * 2, none⟩ (.int .i64 (xa + 2 * (k : Int)))).setCell ⟨g, k * 2 + 1, none⟩ (.int .i64 (xb + 2 * (k : Int)))) (.slice (some ⟨g, 0, none⟩) N0 cq) (fitP p (k + 1))) := Lib.hid (by
            have h := HOd.out.put2 k hxq (fitS p k)
            rw [HStk.out, HFs.out] at h
            exact h)
          have hgb : w3.heap.size ≤ g := by
            rcases HO1.out.2 with ⟨e, _⟩ | ⟨g2, cap, cur, e, hb, _⟩
            · cases e
            · injection e with e1
              injection e1 with e1
              injection e1 with e1
              subst e1
              exact hb
          have HBn := Lib.hid ((HB1.out.drew.setCell (p := ⟨g, k * 2, none⟩) hgb (.int .i64 (xa + 2 * (k : Int)))).setCell (p := ⟨g, k * 2 + 1, none⟩) hgb (.int .i64 (xb + 2 * (k : Int))))
          generalize (fitP p k)[k] = z at e0 e1 e3 e4
          obtain ⟨z0, z1⟩ := z
          simp only at e0 e1 e3 e4
          have i1 : (0 : Int) ≤ (k : Int) := by omega
          have i2 : (k : Int) < (N0 : Int) := by omega
          have x1 : IntKind.i64.wrap (2 * (k : Int)) = 2 * (k : Int) := IntWalk.i64_in _ (by omega)
          have x2 : IntKind.i64.wrap (xa + 2 * (k : Int)) = xa + 2 * (k : Int) := IntWalk.i64_in _ (by omega)
          have x3 : IntKind.i64.wrap (xb + 2 * (k : Int)) = xb + 2 * (k : Int) := IntWalk.i64_in _ (by omega)
          clear hgb hx hxq HOd HO1 HB1
          go_wp2_with fail
          go_still_tail 22, (by kernel_rfl)
          still_call ((HMa.out _).mono fun _ _ h => ⟨h.1, h.2.symm⟩)
          repeat still_step
          still_call ((HMb.out _).mono fun _ _ h => ⟨h.1, h.2.symm⟩)
          repeat still_step
          refine wpStill_nil ?_
          change wpList _ _ _ _ _ wr.drew
          clear x1 x2 x3
          go_wp2_with fail
          go_roundw
          case rel => exact ⟨k + 1, by omega, by go_num, HPut, HBn⟩
          case measure => simp [intOf]; omega
        · have dk : decide (k < N0) = false := decide_eq_false hlt
          obtain rfl : k = N0 := by omega
          have HQ := Lib.hid HO1.out.rd
          have HQb := Lib.hid (fitP_B HPb.out (k := k) (by omega))
          have HQl := Lib.hid (show (fitP p k).length ≤ 10 from by rw [HFl.out k (Nat.le_refl _)]; exact hN10)
          clear HO1 HB1 HFl HSt HOq HBw5 HK5
          generalize fitP p k = qq at *
          have HX := Lib.hid (HX.out.below HKr.out)
          have HY := Lib.hid (HY.out.below HKr.out)
          have HZ := Lib.hid (HZ.out.below HKr.out)
          have HF1 := Lib.hid ((FromPairs_any _ qq mm nn wr HQ.out (by have := HQl.out; omega) HQb.out).mono (fun _ _ h => h.rd))
          have HF2 := Lib.hid (fun v wq (h : RdS wq v qq) => (FromPairsR_any v qq mm nn wq h (by have := HQl.out; omega)).mono (fun _ _ h => h.rd))
          have HLl : Hid ((fpL qq mm nn).length ≤ 4611686018427387904) := Lib.hid (by have h1 := fpL_len qq mm nn; have h2 := HQl.out; omega)
          unfold FpRd at HF1 HF2
          generalize fpF qq mm nn = code at HF1 HF2
          generalize fpL qq mm nn = fl at HF1 HF2 HLl
          clear HKr HQb HQl
          go_wp2_with (first | (go_at_call 11; refine (HMm.out _).mono ?_; rintro e w9 ⟨rfl, rfl⟩; clear HMm) | (go_at_call 11; refine (HMn.out _).mono ?_; rintro e w9 ⟨rfl, rfl⟩; clear HMn))
          go_wp2_with fail
          refine (HF1.out).mono ?_
          rintro e y1 ⟨vu, rfl, hru, hb⟩
          have HBw := Lib.hid (HBw.out.trans (hb.mono HBw.out.size))
          have HX := Lib.hid (HX.out.below hb)
          have HY := Lib.hid (HY.out.below hb)
          have HZ := Lib.hid (HZ.out.below hb)
          have HQ := Lib.hid (HQ.out.below hb)
          clear hb
          have HU := Lib.hid hru
          clear hru
          go_wp2_with fail
          refine (HF2.out _ _ HQ.out).mono ?_
          rintro e y2 ⟨vv, rfl, hrv, hb⟩
          have HBw := Lib.hid (HBw.out.trans (hb.mono HBw.out.size))
          have HX := Lib.hid (HX.out.below hb)
          have HY := Lib.hid (HY.out.below hb)
          have HZ := Lib.hid (HZ.out.below hb)
          have HU := Lib.hid (HU.out.below hb)
          clear hb
          have HV := Lib.hid hrv
          clear hrv
          go_wp2_with fail
          refine (HOff.out _ _ HX.out).mono ?_
          rintro e y3 ⟨rfl, hb⟩
          have HBw := Lib.hid (HBw.out.trans (hb.mono HBw.out.size))
          have HY := Lib.hid (HY.out.below hb)
          have HZ := Lib.hid (HZ.out.below hb)
          have HU := Lib.hid (HU.out.below hb)
          have HV := Lib.hid (HV.out.below hb)
          clear hb
          go_wp2_with fail
          refine (Spans_same _ _ pp _ HMl.out HY.out HZ.out).mono ?_
          rintro e _ ⟨rfl, qq4, rfl⟩
          have hb := below_drewN (Below.refl y3.heap.size y3) qq4
          have HBw := Lib.hid (HBw.out.trans (hb.mono HBw.out.size))
          have HU := Lib.hid (HU.out.below hb)
          have HV := Lib.hid (HV.out.below hb)
          clear hb
          generalize World.drewN y3 qq4 = y4 at *
          go_wp2_with fail
          refine (Changes_same _ _ fl _ HLl.out HU.out HV.out).mono ?_
          rintro e _ ⟨rfl, qq5, rfl⟩
          have hb := below_drewN (Below.refl y4.heap.size y4) qq5
          have HBw := Lib.hid (HBw.out.trans (hb.mono HBw.out.size))
          clear hb
          generalize World.drewN y4 qq5 = y5 at *
          go_wp2_with fail
          refine (HAw.out _).mono ?_
          rintro e y6 ⟨rfl, hb⟩
          have HBw := Lib.hid (HBw.out.trans (hb.mono HBw.out.size))
          clear hb
          go_wp2_with fail
          go_ret
          exact ⟨rfl, HBw.out⟩
set_option maxRecDepth 100000 in
theorem lifted (os : Os) (started : os.Started) (H : Type) (enc : TypeId × Value → H) :
    ReturnsInHanded {} Try.checked os 4 .any (Rows.scriptPairsSpec.pre6 enc Try.prog Try.f4 Rows.scriptPairsRow.domain false) (Rows.scriptPairsSpec.post enc Try.prog Try.f4 false true false false) := by
  refine returnsInHanded_of_change (C := Try.checked) own started (by kernel_rfl) Try.func4
    (ChangeSpec.witness6 (enc := enc) (C := Try.checked) false ⟨#[], #[.slice none 0 0, .slice none 0 0, .int .i64 0, .int .i64 0, .bool false], []⟩ 8 (by kernel_rfl) (by kernel_rfl) (by kernel_rfl) (by kernel_rfl)) ?_
  intro W base args ds gs before hval0 hW _ _
  have hval : ∀ (j : Nat) t v, Try.f4.params[j]? = some t → args[j]? = some v → Value.okWide Try.prog W .any base t v := hval0
  have hW' := hW
  obtain ⟨p, q, hA0, hV, rfl, hfz, hnd⟩ := hW
  have hA : DataW.TrodAll enc Try.prog W 0 (fun _ => true) true Try.f4.params.toList args.toList ds p := hA0
  rw [Try.params4] at hA hval
  obtain ⟨v0, v1, v2, v3, v4, d0, d1, d2, d3, d4, p0, p1, p2, p3, p4, rfl, rfl, rfl, h0, h1, h2, h3, h4⟩ := trodAll_five hA
  obtain ⟨rfl, rfl⟩ := trodVars_none hV
  obtain ⟨A0, n0, c0, rfl⟩ := okWide_slice Try.underlying23 (hval 0 23 v0 rfl rfl)
  have k0 := h0
  have lt0 : ∀ x ∈ p0, x.block < W.heap.size := by obtain ⟨m, hm⟩ := k0; exact DataW.trod_lt m _ _ _ hm
  obtain ⟨us, r0, s0, t0⟩ : ∃ l : List Int, RdV W (.slice A0 n0 c0) (intsV l) ∧ l.length ≤ maxLen ∧ ∀ z ∈ l, -9223372036854775808 ≤ z ∧ z ≤ 9223372036854775807 := by obtain ⟨fuel, hf⟩ := h0; exact open_intsV hf
  obtain ⟨A1, n1, c1, rfl⟩ := okWide_slice Try.underlying36 (hval 1 36 v1 rfl rfl)
  have k1 := h1
  have lt1 : ∀ x ∈ p1, x.block < W.heap.size := by obtain ⟨m, hm⟩ := k1; exact DataW.trod_lt m _ _ _ hm
  obtain ⟨p, r1, s1, t1⟩ : ∃ l : List Sp, RdS W (.slice A1 n1 c1) l ∧ l.length ≤ maxLen ∧ ∀ z ∈ l, SpB z := by obtain ⟨fuel, hf⟩ := h1; exact open_spansV hf
  obtain ⟨m, rfl, rfl, rfl, wm⟩ := open_int Try.underlying3 (hval 2 3 v2 rfl rfl) h2
  have bm := bounds_int wm
  obtain ⟨n, rfl, rfl, rfl, wn⟩ := open_int Try.underlying3 (hval 3 3 v3 rfl rfl) h3
  have bn := bounds_int wn
  obtain ⟨fit, rfl, rfl, rfl⟩ := open_bool Try.underlying4 (hval 4 4 v4 rfl rfl) h4
  clear hA0 hval0
  simp only [List.append_nil] at hW'
  refine (walk _ us _ p m n fit W r0 s0 r1 s1 t1 bm bn).mono fun e W' ⟨he, hbel⟩ => ?_
  subst he
  exact ⟨_, rfl, _, _, _, [], _, [], hW', trodAll_mk1 (shut_bool Try.underlying4 _), trodAll_mk5 (Below.trod laidOut (by kernel_rfl) (of_decide_eq_true (by kernel_rfl)) k0 hbel lt0) (Below.trod laidOut (by kernel_rfl) (of_decide_eq_true (by kernel_rfl)) k1 hbel lt1) (shut_int Try.underlying3 wm) (shut_int Try.underlying3 wn) (shut_bool Try.underlying4 fit), rfl, hbel.frame _, fun h => by cases h⟩
theorem row_holds : Rows.ScriptPairsSaid :=
  OpenClaim.holds_of_wide 4 Try.f4 rfl rfl rfl rfl rfl rfl rfl ⟨rfl, rfl, rfl, rfl, rfl⟩ rfl rfl rfl rfl rfl (by kernel_rfl) Try.func4 (by kernel_rfl)
    (of_decide_eq_true (by kernel_rfl)) (by unfold Func.isWrapper; first | (rw [if_pos (by decide +kernel)]; kernel_rfl) | (rw [if_neg (by decide +kernel)]; exact ⟨rfl, rfl⟩))
    (fun os started H enc _ => lifted os started H enc)
end Sc.ScriptPairs
end Go.Proofs.Ytfbpdidnlbffhaa
