/-
  Proved: the law ScriptFits of layer 8 returns true for every input, and its arguments read as before. No conditions.
-/
import Derived.Test.YtfbpdidnlbffhaaScrFitR
import Derived.Test.YtfbpdidnlbffhaaScrAwake
import Derived.Test.YtfbpdidnlbffhaaScrFrame
namespace Go.Proofs.Ytfbpdidnlbffhaa
open Go.ChangeShapes Go.WideShapes Go.ChangeAt Go.RowKit
namespace Sc.ScriptFits
open Cm Au Sc
set_option maxRecDepth 100000 in
set_option maxHeartbeats 16000000 in
theorem walk (vr : Value) (us : List Int) (vl : Value) (l : List Ch) (va : Value) (xs : List Int) (vb : Value) (ys : List Int) (at_ by_ : Int) (w : World) (hr : RdV w vr (intsV us)) (hrl : us.length ≤ maxLen) (hl : RdC w vl l) (hll : l.length ≤ maxLen) (hlb : ∀ c ∈ l, ChB c)
    (hx : RdV w va (intsV xs)) (hxl : xs.length ≤ maxLen) (hy : RdV w vb (intsV ys)) (hyl : ys.length ≤ maxLen) (ba : zB at_) (bb : zB by_) :
    Calls Try.prog 8 #[vr, vl, va, vb, .int .i64 at_, .int .i64 by_] w fun e w' => e = .returned (.bool true) ∧ Below w.heap.size w w' := by
  have HAw := Lib.hid (fun w => awake_any w)
  obtain ⟨A0, c0, rfl⟩ := hr.form
  obtain ⟨A1, c1, rfl⟩ := hl.form
  obtain ⟨A2, c2, rfl⟩ := hx.form
  obtain ⟨A3, c3, rfl⟩ := hy.form
  have HScr := Lib.hid (Script_any _ us 0 w hr hrl (by omega))
  have HIds := Lib.hid (fun (fr : Int) (k : Nat) (wq : World) (hb : Below w.heap.size w wq) (h1 : 0 ≤ fr) (h2 : fr ≤ 1000) (h3 : k ≤ 1000) => Ids_any _ us fr 3 k wq (hr.below hb) hrl ⟨h1, by omega⟩ h3 (by omega))
  have HFa := Lib.hid (fun (wq : World) (hb : Below w.heap.size w wq) (h1 : l.length ≤ 10) (h2 : xs.length ≤ 12) (h3 : ys.length ≤ 12) => Fits_any _ l _ _ xs ys wq (hl.below hb) (by omega) hlb (hx.below hb) (hy.below hb) (by omega) (by omega))
  have HFb := Lib.hid (fun (wq : World) (hb : Below w.heap.size w wq) (h1 : l.length ≤ 10) => FitsR_any _ l _ _ xs ys wq (hl.below hb) (by omega) (hx.below hb) (hy.below hb))
  obtain ⟨ba0, ba1⟩ := ba
  obtain ⟨bb0, bb1⟩ := bb
  unfold maxLen at hll hxl hyl
  unfold FtPost at HFa HFb
  clear hr hrl hl hx hy hlb
  rw [intsV_len, intsV_len, intsV_len]
  rw [intsV_len] at HScr HIds HFa HFb
  try rw [intsV_len] at HFa HFb
  generalize fitsB l xs ys = fb at HFa HFb
  generalize us.length = nu at *
  generalize l.length = nl at *
  generalize xs.length = nx at *
  generalize ys.length = ny at *
  by_cases h10 : (10 : Int) < (nl : Int)
  · have hd1 : decide ((10 : Int) < (nl : Int)) = true := decide_eq_true h10
    go_enter Try.func8, Try.ntmps8
    go_wp2_with fail
    refine (HAw.out _).mono ?_
    rintro e w1 ⟨rfl, hb⟩
    go_wp2_with fail
    go_ret
    exact ⟨rfl, hb⟩
  · have hd1 : decide ((10 : Int) < (nl : Int)) = false := decide_eq_false h10
    by_cases h12 : (12 : Int) < (nx : Int)
    · have hd2 : decide ((12 : Int) < (nx : Int)) = true := decide_eq_true h12
      go_enter Try.func8, Try.ntmps8
      go_wp2_with fail
      refine (HAw.out _).mono ?_
      rintro e w1 ⟨rfl, hb⟩
      go_wp2_with fail
      go_ret
      exact ⟨rfl, hb⟩
    · have hd2 : decide ((12 : Int) < (nx : Int)) = false := decide_eq_false h12
      by_cases h13 : (12 : Int) < (ny : Int)
      · have hd3 : decide ((12 : Int) < (ny : Int)) = true := decide_eq_true h13
        go_enter Try.func8, Try.ntmps8
        go_wp2_with fail
        refine (HAw.out _).mono ?_
        rintro e w1 ⟨rfl, hb⟩
        go_wp2_with fail
        go_ret
        exact ⟨rfl, hb⟩
      · have hd3 : decide ((12 : Int) < (ny : Int)) = false := decide_eq_false h13
        have HF1 := Lib.hid (fun wq hb => HFa.out wq hb (by omega) (by omega) (by omega))
        have HF2 := Lib.hid (fun wq hb => HFb.out wq hb (by omega))
        clear HFa HFb h10 h12 h13 hll hxl hyl
        go_enter Try.func8, Try.ntmps8
        go_wp2_with fail
        refine HScr.out.mono ?_
        rintro e w1 ⟨vx, x, m, n, rfl, hG, ho, hb1⟩
        obtain ⟨Ax, cx, rfl⟩ := ho.rd.form
        have HB1 := Lib.hid hb1
        have HG := Lib.hid hG
        have HX := Lib.hid ho.rd
        have hxl := hG.len
        have HOp := Lib.hid (okP_mem (Int.le_refl 0) (Int.le_refl 0) hG.okp)
        have hps := hG.mtsm
        obtain ⟨hm0, hm1⟩ := hG.bm
        obtain ⟨hn0, hn1⟩ := hG.bn
        obtain ⟨mm, rfl⟩ : ∃ k : Nat, m = (k : Int) := ⟨m.toNat, by omega⟩
        obtain ⟨nn, rfl⟩ : ∃ k : Nat, n = (k : Int) := ⟨n.toNat, by omega⟩
        have HMt := Lib.hid (fun v wq (h : RdC wq v x) => Matched_any v x (mm : Int) (nn : Int) wq h (by omega) hG.im hG.in_ hG.ok)
        have HFx := Lib.hid (fun v va vb cs ds wq (h : RdC wq v x) (h1 : RdV wq va (intsV cs)) (h2 : RdV wq vb (intsV ds)) (h3 : cs.length = mm) (h4 : ds.length = nn) => Fits_any v x va vb cs ds wq h (by omega) hG.chB h1 h2 (by omega) (by omega))
        have HFy := Lib.hid (fun v va vb cs ds wq (h : RdC wq v x) (h1 : RdV wq va (intsV cs)) (h2 : RdV wq vb (intsV ds)) => FitsR_any v x va vb cs ds wq h (by omega) h1 h2)
        have HTr : Hid (∀ cs ds : List Int, cs.length = mm → ds.length = nn → (∀ s ∈ mtF (mm : Int) 0 0 x, eqAt cs ds s) → fitsB x cs ds = true) := Lib.hid (fun cs ds h1 h2 h3 => fitsB_T (by rw [h1, h2]; exact hG.ck) (by rw [h1]; exact h3))
        have hInd := Lib.hid (show ∀ i j, ∀ (hi : i < (mtF (mm : Int) 0 0 x).length) (hj : j < (mtF (mm : Int) 0 0 x).length), i < j → (mtF (mm : Int) 0 0 x)[i].to < (mtF (mm : Int) 0 0 x)[j].to from okP_asc hG.okp)
        clear hb1 HScr hG ho
        generalize mtF (mm : Int) 0 0 x = p at *
        go_wp2_with fail
        refine (HIds.out 300 mm w1 HB1.out (by omega) (by omega) (by omega)).mono ?_
        rintro e w2 ⟨vc, cs, rfl, hcl, hoc, hb⟩
        have HB2 := Lib.hid (HB1.out.trans (hb.mono HB1.out.size))
        have HX2 := Lib.hid (HX.out.below hb)
        clear hb HB1 HX
        obtain ⟨Ac, cc, hvc⟩ := own_form hoc
        subst hvc
        have HCs := Lib.hid (RdV.of_own hoc)
        have HCl := Lib.hid hcl
        clear hcl hoc
        go_wp2_with fail
        refine (HIds.out 350 nn w2 HB2.out (by omega) (by omega) (by omega)).mono ?_
        rintro e w3 ⟨vd, ds, rfl, hdl, hod, hb⟩
        have HB3 := Lib.hid (HB2.out.trans (hb.mono HB2.out.size))
        have HX3 := Lib.hid (HX2.out.below hb)
        have HC3 := Lib.hid (HCs.out.below hb)
        have HK3 := Lib.hid hb
        clear hb HIds
        obtain ⟨Ad, cd, hvd⟩ := own_form hod
        subst hvd
        have HD3 := Lib.hid hod
        have HDl := Lib.hid hdl
        clear hdl hod
        go_wp2_with fail
        refine (HMt.out _ _ HX3.out).mono ?_
        rintro e w4 ⟨vp, rfl, hop, hb⟩
        have HB4 := Lib.hid (HB3.out.trans (hb.mono HB3.out.size))
        have HX4 := Lib.hid (HX3.out.below hb)
        have HC4 := Lib.hid (HC3.out.below hb)
        have HD4 := Lib.hid (own_below HD3.out hb)
        have HK4 := Lib.hid (HK3.out.trans (hb.mono HK3.out.size))
        obtain ⟨Ap, cp, rfl⟩ := hop.rd.form
        have HP4 := Lib.hid hop
        have h34 := hb.size
        have HGd : Hid (∀ g, 0 < nn → Ad = some ⟨g, 0, none⟩ → g < w3.heap.size) := Lib.hid (fun g hn he => by obtain ⟨g2, c2, e, _, hl⟩ := row_block HD3.out hn; injection e with e1; rw [he] at e1; injection e1 with e1; injection e1 with e1; omega)
        clear hb HX3 HC3 HD3 HK3 HMt hop
        obtain ⟨np, hnp⟩ : ∃ np, p.length = np := ⟨_, rfl⟩
        rw [hnp] at HP4 hps ⊢
        have HNp := Lib.hid hnp
        clear hnp
        go_wp2_with fail
        go_loopw [19] (fun k' wr => ∃ (k : Nat) (ds : List Int), k ≤ np ∧ k' = .int .i64 (k : Int) ∧ Hid (ds.length = nn) ∧ Hid (wr.ownsRow w2.heap.size 3 1 (.slice Ad nn cd) nn (intsV ds)) ∧ Hid (Below w2.heap.size w2 wr) ∧ Hid (∀ i (hi : i < p.length), i < k → eqAt cs ds p[i]) ∧ Hid (OwnS w3.heap.size wr (.slice Ap np cp) p)) (fun k' _ => np - (intOf k').toNat)
        case atStart => exact ⟨0, ds, Nat.zero_le _, rfl, HDl, HD4, HK4, Lib.hid (fun i _ h => absurd h (Nat.not_lt_zero _)), HP4⟩
        case round =>
          obtain ⟨k, ds, hk, rfl, HDl, HD, HK, HEq, HP⟩ := hrel
          by_cases hlt : k < np
          · have dk : decide (k < np) = true := decide_eq_true hlt
            have hx : k < p.length := by rw [HNp.out]; exact hlt
            obtain ⟨g, off, rfl, a0, a1⟩ := RdS_at HP.out.rd k hx
            obtain ⟨⟨f0, f1⟩, t0, t1⟩ := HOp.out p[k] (List.getElem_mem hx)
            have HAsc := Lib.hid (fun i (hi : i < p.length) (hik : i < k) => hInd.out i k hi hx hik)
            have HSx : Hid (∀ i (hi : i < p.length), i < k + 1 → i = k ∨ i < k) := Lib.hid (fun i _ h => by omega)
            have HPos := Lib.hid (fun i (hi : i < p.length) => (HOp.out p[i] (List.getElem_mem hi)).2.1)
            generalize hsp : p[k] = sp at *
            have HSp2 := Lib.hid hsp
            clear hsp
            obtain ⟨za, zb⟩ := sp
            simp only at f0 f1 t0 t1 a0 a1
            obtain ⟨a, rfl⟩ : ∃ a : Nat, za = (a : Int) := ⟨za.toNat, by omega⟩
            obtain ⟨b, rfl⟩ : ∃ b : Nat, zb = (b : Int) := ⟨zb.toNat, by omega⟩
            have hc1 : a < cs.length := by rw [HCl.out]; omega
            have hd1 : b < ds.length := by rw [HDl.out]; omega
            obtain ⟨gd, cd2, hvd, hgb, hgl⟩ := row_block HD.out (show 0 < nn by omega)
            injection hvd with hv1 _ hv2
            subst hv1
            subst hv2
            have HCw := Lib.hid (HCs.out.below HK.out)
            obtain ⟨gc, oc, rfl, cc1⟩ := RdV_at HCw.out a hc1
            have cd1 : wr.cell? ⟨gd, b, none⟩ = some (.int .i64 ds[b]) := by rw [HD.out.cellAt b (by rw [HDl.out] at hd1; omega)]; simp [intsV, hd1]
            have fd : wr.frozen? ⟨gd, b, none⟩ = false := World.ownsRow.frozenAt HD.out b
            have hgd3 := HGd.out gd (by omega) rfl
            have HDd := Lib.hid (own_below HD.out (Below.refl _ _).drew)
            have HPn : Hid (OwnS w3.heap.size (wr.drew.setCell ⟨gd, b, none⟩ (.int .i64 cs[a])) (.slice (some ⟨g, off, none⟩) np cp) p) := Lib.hid (by
              have h1 := HP.out.below (Below.refl _ _).drew
              refine h1.same (fun k hk => Below.heap_setCell _ _ _ _ (fun e => ?_))
              have h2 := (h1.own k hk).1
              have h3 : k = gd := e
              omega)
            have HDn : Hid ((wr.drew.setCell ⟨gd, b, none⟩ (.int .i64 cs[a])).ownsRow w2.heap.size 3 1 (.slice (some ⟨gd, 0, none⟩) nn cd) nn (intsV (ds.set b cs[a]))) := Lib.hid (by rw [← set_ints]; exact (World.ownsRow.stored HDd.out b (.int .i64 cs[a])).1)
            have HKn := Lib.hid (HK.out.drew.setCell (p := ⟨gd, b, none⟩) hgb (.int .i64 cs[a]))
            have HEn : Hid (∀ i (hi : i < p.length), i < k + 1 → eqAt cs (ds.set b cs[a]) p[i]) := Lib.hid (fun i hi hik => by
              rcases HSx.out i hi hik with e | e
              · subst e; rw [HSp2.out]; exact eqAt_same hc1 hd1
              · exact eqAt_other (HEq.out i hi e) (HPos.out i hi) (HAsc.out i hi e))
            have HDl2 : Hid ((ds.set b cs[a]).length = nn) := Lib.hid (by rw [List.length_set]; exact HDl.out)
            generalize ds.set b cs[a] = ds2 at *
            generalize cs[a] = ca at *
            generalize ds[b] = db at *
            have i1 : (0 : Int) ≤ (k : Int) := by omega
            have i2 : (k : Int) < (np : Int) := by omega
            clear hc1 hd1 hgb hgl hgd3 HD HDd HP HEq HK HDl HCw
            go_wp2_with fail
            go_still_tail 15, (by kernel_rfl)
            change wpList _ _ _ _ _ wr.drew
            go_wp2_with fail
            go_roundw
            case rel => exact ⟨k + 1, ds2, by omega, by go_num, HDl2, HDn, HKn, HEn, HPn⟩
            case measure => simp [intOf]; omega
          · have dk : decide (k < np) = false := decide_eq_false hlt
            obtain rfl : k = np := by omega
            have HKw := Lib.hid (HB2.out.trans (HK.out.mono HB2.out.size))
            have HXw := Lib.hid (HX2.out.below HK.out)
            have HCw := Lib.hid (HCs.out.below HK.out)
            have HDw := Lib.hid (RdV.of_own HD.out)
            have HTt := Lib.hid (HTr.out cs ds HCl.out HDl.out (fun s hs => by
              obtain ⟨i, hi, rfl⟩ := List.mem_iff_getElem.1 hs
              exact HEq.out i hi (by rw [HNp.out] at hi; exact hi)))
            have H1 := Lib.hid (HFx.out _ _ _ cs ds _ HXw.out HCw.out HDw.out HCl.out HDl.out)
            unfold FtPost at H1
            rw [HTt.out] at H1
            clear HEq HP HTt hInd HOp HTr
            go_wp2_with fail
            refine H1.out.mono ?_
            rintro e w6 ⟨rfl, hb⟩
            have HKw := Lib.hid (HKw.out.trans (hb.mono HKw.out.size))
            have HD6 := Lib.hid (own_below HD.out hb)
            have HK6 := Lib.hid (HK.out.trans (hb.mono HK.out.size))
            clear hb H1 HD HK HXw HCw HDw
            by_cases hn0 : 0 < nn
            · have dn : decide ((0 : Int) < (nn : Int)) = true := decide_eq_true (by omega)
              have dn2 : decide (0 < nn) = true := decide_eq_true hn0
              have b0 := Tx.modF_lo at_ (nn : Int) (by omega)
              have b1 := Tx.modF_hi at_ (nn : Int) (by omega)
              have HM1 := Lib.hid (fun wq => Tx.Mod_any at_ (nn : Int) wq (by omega) (by omega) ba0 ba1)
              have HM2 := Lib.hid (fun wq => Tx.Mod_any by_ 3 wq (by decide) (by decide) bb0 bb1)
              generalize Tx.modF by_ 3 = z at *
              obtain ⟨b, hbq⟩ : ∃ b : Nat, Tx.modF at_ (nn : Int) = b := ⟨(Tx.modF at_ (nn : Int)).toNat, by omega⟩
              rw [hbq] at b0 b1 HM1
              clear hbq
              obtain ⟨gd, cd2, hvd, hgb, hgl⟩ := row_block HD6.out hn0
              injection hvd with hv1 _ hv2
              subst hv1
              subst hv2
              have hbd : b < ds.length := by rw [HDl.out]; omega
              have cd1 : w6.cell? ⟨gd, b, none⟩ = some (.int .i64 ds[b]) := by rw [HD6.out.cellAt b (by omega)]; simp [intsV, hbd]
              have fd : w6.frozen? ⟨gd, b, none⟩ = false := World.ownsRow.frozenAt HD6.out b
              have HDn : Hid ((w6.setCell ⟨gd, b, none⟩ (.int .i64 z)).ownsRow w2.heap.size 3 1 (.slice (some ⟨gd, 0, none⟩) nn cd) nn (intsV (ds.set b z))) := Lib.hid (by rw [← set_ints]; exact (World.ownsRow.stored HD6.out b (.int .i64 z)).1)
              have HKn := Lib.hid (HK6.out.setCell (p := ⟨gd, b, none⟩) hgb (.int .i64 z))
              have HDl2 : Hid ((ds.set b z).length = nn) := Lib.hid (by rw [List.length_set]; exact HDl.out)
              generalize ds.set b z = ds2 at *
              generalize ds[b] = db at *
              clear hgb hgl hbd HD6 HK6 HKw
              have HKw := Lib.hid (HB2.out.trans (HKn.out.mono HB2.out.size))
              go_upto_region 13 with (first | (go_at_call 11; refine (HM1.out _).mono ?_; rintro e w9 ⟨rfl, rfl⟩; clear HM1) | (go_at_call 11; refine (HM2.out _).mono ?_; rintro e w9 ⟨rfl, rfl⟩; clear HM2))
              generalize w6.setCell ⟨gd, b, none⟩ (.int .i64 z) = w7 at *
              have HXw := Lib.hid (HX2.out.below HKn.out)
              have HCw := Lib.hid (HCs.out.below HKn.out)
              have HDw := Lib.hid (RdV.of_own HDn.out)
              have H1 := Lib.hid (HFx.out _ _ _ cs ds2 _ HXw.out HCw.out HDw.out HCl.out HDl2.out)
              have H2 := Lib.hid (fun wq (hb : Below w7.heap.size w7 wq) => HFy.out _ _ _ cs ds2 wq (HXw.out.below hb) (HCw.out.below hb) (HDw.out.below hb))
              unfold FtPost at H1 H2
              generalize fitsB x cs ds2 = f2 at *
              go_wp2_with fail
              refine H1.out.mono ?_
              rintro e z1 ⟨rfl, hb⟩
              have HKw := Lib.hid (HKw.out.trans (hb.mono HKw.out.size))
              have H3 := Lib.hid (H2.out _ hb)
              clear hb H1 H2
              go_wp2_with fail
              refine H3.out.mono ?_
              rintro e z2 ⟨rfl, hb⟩
              have HKw := Lib.hid (HKw.out.trans (hb.mono HKw.out.size))
              clear hb H3
              go_wp2_with fail
              refine (HF1.out _ HKw.out).mono ?_
              rintro e z3 ⟨rfl, hb⟩
              have HKw := Lib.hid (HKw.out.trans (hb.mono HKw.out.size))
              clear hb
              go_wp2_with fail
              refine (HF2.out _ HKw.out).mono ?_
              rintro e z4 ⟨rfl, hb⟩
              have HKw := Lib.hid (HKw.out.trans (hb.mono HKw.out.size))
              clear hb
              go_wp2_with fail
              refine (HAw.out _).mono ?_
              rintro e z5 ⟨rfl, hb⟩
              have HKw := Lib.hid (HKw.out.trans (hb.mono HKw.out.size))
              clear hb
              go_wp2_with fail
              go_ret
              exact ⟨rfl, HKw.out⟩
            · have dn : decide ((0 : Int) < (nn : Int)) = false := decide_eq_false (by omega)
              have dn2 : decide (0 < nn) = false := decide_eq_false hn0
              go_upto_region 13 with fail
              have HDn := HD6
              have HKn := HK6
              have HDl2 := HDl
              have HXw := Lib.hid (HX2.out.below HKn.out)
              have HCw := Lib.hid (HCs.out.below HKn.out)
              have HDw := Lib.hid (RdV.of_own HDn.out)
              have H1 := Lib.hid (HFx.out _ _ _ cs ds _ HXw.out HCw.out HDw.out HCl.out HDl2.out)
              have H2 := Lib.hid (fun wq (hb : Below w6.heap.size w6 wq) => HFy.out _ _ _ cs ds wq (HXw.out.below hb) (HCw.out.below hb) (HDw.out.below hb))
              unfold FtPost at H1 H2
              generalize fitsB x cs ds = f2 at *
              go_wp2_with fail
              refine H1.out.mono ?_
              rintro e z1 ⟨rfl, hb⟩
              have HKw := Lib.hid (HKw.out.trans (hb.mono HKw.out.size))
              have H3 := Lib.hid (H2.out _ hb)
              clear hb H1 H2
              go_wp2_with fail
              refine H3.out.mono ?_
              rintro e z2 ⟨rfl, hb⟩
              have HKw := Lib.hid (HKw.out.trans (hb.mono HKw.out.size))
              clear hb H3
              go_wp2_with fail
              refine (HF1.out _ HKw.out).mono ?_
              rintro e z3 ⟨rfl, hb⟩
              have HKw := Lib.hid (HKw.out.trans (hb.mono HKw.out.size))
              clear hb
              go_wp2_with fail
              refine (HF2.out _ HKw.out).mono ?_
              rintro e z4 ⟨rfl, hb⟩
              have HKw := Lib.hid (HKw.out.trans (hb.mono HKw.out.size))
              clear hb
              go_wp2_with fail
              refine (HAw.out _).mono ?_
              rintro e z5 ⟨rfl, hb⟩
              have HKw := Lib.hid (HKw.out.trans (hb.mono HKw.out.size))
              clear hb
              go_wp2_with fail
              go_ret
              exact ⟨rfl, HKw.out⟩
set_option maxRecDepth 100000 in
theorem lifted (os : Os) (started : os.Started) (H : Type) (enc : TypeId × Value → H) :
    ReturnsInHanded {} Try.checked os 8 .any (Rows.scriptFitsSpec.pre6 enc Try.prog Try.f8 Rows.scriptFitsRow.domain false) (Rows.scriptFitsSpec.post enc Try.prog Try.f8 false true false false) := by
  refine returnsInHanded_of_change (C := Try.checked) own started (by kernel_rfl) Try.func8
    (ChangeSpec.witness6 (enc := enc) (C := Try.checked) false ⟨#[], #[.slice none 0 0, .slice none 0 0, .slice none 0 0, .slice none 0 0, .int .i64 0, .int .i64 0], []⟩ 8 (by kernel_rfl) (by kernel_rfl) (by kernel_rfl) (by kernel_rfl)) ?_
  intro W base args ds gs before hval0 hW _ _
  have hval : ∀ (j : Nat) t v, Try.f8.params[j]? = some t → args[j]? = some v → Value.okWide Try.prog W .any base t v := hval0
  have hW' := hW
  obtain ⟨p, q, hA0, hV, rfl, hfz, hnd⟩ := hW
  have hA : DataW.TrodAll enc Try.prog W 0 (fun _ => true) true Try.f8.params.toList args.toList ds p := hA0
  rw [Try.params8] at hA hval
  obtain ⟨v0, v1, v2, v3, v4, v5, d0, d1, d2, d3, d4, d5, p0, p1, p2, p3, p4, p5, rfl, rfl, rfl, h0, h1, h2, h3, h4, h5⟩ := trodAll_six hA
  obtain ⟨rfl, rfl⟩ := trodVars_none hV
  obtain ⟨A0, n0, c0, rfl⟩ := okWide_slice Try.underlying23 (hval 0 23 v0 rfl rfl)
  have k0 := h0
  have lt0 : ∀ x ∈ p0, x.block < W.heap.size := by obtain ⟨m, hm⟩ := k0; exact DataW.trod_lt m _ _ _ hm
  obtain ⟨us, r0, s0, t0⟩ : ∃ l : List Int, RdV W (.slice A0 n0 c0) (intsV l) ∧ l.length ≤ maxLen ∧ ∀ z ∈ l, -9223372036854775808 ≤ z ∧ z ≤ 9223372036854775807 := by obtain ⟨fuel, hf⟩ := h0; exact open_intsV hf
  obtain ⟨A1, n1, c1, rfl⟩ := okWide_slice Try.underlying22 (hval 1 22 v1 rfl rfl)
  have k1 := h1
  have lt1 : ∀ x ∈ p1, x.block < W.heap.size := by obtain ⟨m, hm⟩ := k1; exact DataW.trod_lt m _ _ _ hm
  obtain ⟨l, r1, s1, t1⟩ : ∃ l : List Ch, RdC W (.slice A1 n1 c1) l ∧ l.length ≤ maxLen ∧ ∀ z ∈ l, ChB z := by obtain ⟨fuel, hf⟩ := h1; exact open_changesV hf
  obtain ⟨A2, n2, c2, rfl⟩ := okWide_slice Try.underlying23 (hval 2 23 v2 rfl rfl)
  have k2 := h2
  have lt2 : ∀ x ∈ p2, x.block < W.heap.size := by obtain ⟨m, hm⟩ := k2; exact DataW.trod_lt m _ _ _ hm
  obtain ⟨xs, r2, s2, t2⟩ : ∃ l : List Int, RdV W (.slice A2 n2 c2) (intsV l) ∧ l.length ≤ maxLen ∧ ∀ z ∈ l, -9223372036854775808 ≤ z ∧ z ≤ 9223372036854775807 := by obtain ⟨fuel, hf⟩ := h2; exact open_intsV hf
  obtain ⟨A3, n3, c3, rfl⟩ := okWide_slice Try.underlying23 (hval 3 23 v3 rfl rfl)
  have k3 := h3
  have lt3 : ∀ x ∈ p3, x.block < W.heap.size := by obtain ⟨m, hm⟩ := k3; exact DataW.trod_lt m _ _ _ hm
  obtain ⟨ys, r3, s3, t3⟩ : ∃ l : List Int, RdV W (.slice A3 n3 c3) (intsV l) ∧ l.length ≤ maxLen ∧ ∀ z ∈ l, -9223372036854775808 ≤ z ∧ z ≤ 9223372036854775807 := by obtain ⟨fuel, hf⟩ := h3; exact open_intsV hf
  obtain ⟨at_, rfl, rfl, rfl, wat_⟩ := open_int Try.underlying3 (hval 4 3 v4 rfl rfl) h4
  have bat_ := bounds_int wat_
  obtain ⟨by_, rfl, rfl, rfl, wby_⟩ := open_int Try.underlying3 (hval 5 3 v5 rfl rfl) h5
  have bby_ := bounds_int wby_
  clear hA0 hval0
  simp only [List.append_nil] at hW'
  refine (walk _ us _ l _ xs _ ys at_ by_ W r0 s0 r1 s1 t1 r2 s2 r3 s3 bat_ bby_).mono fun e W' ⟨he, hbel⟩ => ?_
  subst he
  exact ⟨_, rfl, _, _, _, [], _, [], hW', trodAll_mk1 (shut_bool Try.underlying4 _), trodAll_mk6 (Below.trod laidOut (by kernel_rfl) (of_decide_eq_true (by kernel_rfl)) k0 hbel lt0) (Below.trod laidOut (by kernel_rfl) (of_decide_eq_true (by kernel_rfl)) k1 hbel lt1) (Below.trod laidOut (by kernel_rfl) (of_decide_eq_true (by kernel_rfl)) k2 hbel lt2) (Below.trod laidOut (by kernel_rfl) (of_decide_eq_true (by kernel_rfl)) k3 hbel lt3) (shut_int Try.underlying3 wat_) (shut_int Try.underlying3 wby_), rfl, hbel.frame _, fun h => by cases h⟩
theorem row_holds : Rows.ScriptFitsSaid :=
  OpenClaim.holds_of_wide 8 Try.f8 rfl rfl rfl rfl rfl rfl rfl ⟨rfl, rfl, rfl, rfl, rfl⟩ rfl rfl rfl rfl rfl (by kernel_rfl) Try.func8 (by kernel_rfl)
    (of_decide_eq_true (by kernel_rfl)) (by unfold Func.isWrapper; first | (rw [if_pos (by decide +kernel)]; kernel_rfl) | (rw [if_neg (by decide +kernel)]; exact ⟨rfl, rfl⟩))
    (fun os started H enc _ => lifted os started H enc)
end Sc.ScriptFits
end Go.Proofs.Ytfbpdidnlbffhaa
