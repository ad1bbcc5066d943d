/-
  The verifier's two lists and the script of them (pick), lists and scripts turned round. Conditions: the lengths that the laws have.
-/
import Derived.Test.YtldommbelpcegaaSliRefC
import Derived.Test.YtldommbelpcegaaShoWkR
namespace Go.Proofs.Ytldommbelpcegaa
open Go.RowKit
namespace Sl
open Cm Sc Au Sh
theorem wk_equal (i j : Nat) (a b : List Int) : ∀ s ∈ wkF i j a b, ∃ p q : Nat, s.frm = (i + p : Nat) ∧ s.to = (j + q : Nat) ∧ ∃ (h1 : p < a.length) (h2 : q < b.length), a[p] = b[q] := by
  have key : ∀ (n : Nat) (i j : Nat) (a b : List Int), a.length + b.length ≤ n → ∀ s ∈ wkF i j a b, ∃ p q : Nat, s.frm = (i + p : Nat) ∧ s.to = (j + q : Nat) ∧ ∃ (h1 : p < a.length) (h2 : q < b.length), a[p] = b[q] := by
    intro n
    induction n with
    | zero =>
      intro i j a b h s hs
      obtain rfl : a = [] := List.eq_nil_of_length_eq_zero (by omega)
      rw [wkF_nil] at hs; cases hs
    | succ n ih =>
      intro i j a b h s hs
      cases a with
      | nil => rw [wkF_nil] at hs; cases hs
      | cons x a =>
        cases b with
        | nil => rw [wkF_nil'] at hs; cases hs
        | cons y b =>
          simp only [List.length_cons] at h
          by_cases e : x = y
          · subst e
            rw [wkF_eq] at hs
            rcases List.mem_cons.1 hs with rfl | hs
            · exact ⟨0, 0, rfl, rfl, by simp, by simp, rfl⟩
            · obtain ⟨p, q, h1, h2, h3, h4, h5⟩ := ih (i + 1) (j + 1) a b (by omega) s (by simpa using hs)
              exact ⟨p + 1, q + 1, by rw [h1]; omega, by rw [h2]; omega, by simpa using h3, by simpa using h4, by simpa using h5⟩
          · by_cases hl : lcs a (y :: b) = lcs (x :: a) (y :: b)
            · rw [wkF_old e hl] at hs
              obtain ⟨p, q, h1, h2, h3, h4, h5⟩ := ih (i + 1) j a (y :: b) (by simp only [List.length_cons]; omega) s (by simpa using hs)
              exact ⟨p + 1, q, by rw [h1]; omega, h2, by simpa using h3, h4, by simpa using h5⟩
            · rw [wkF_new e hl] at hs
              obtain ⟨p, q, h1, h2, h3, h4, h5⟩ := ih i (j + 1) (x :: a) b (by simp only [List.length_cons]; omega) s (by simpa using hs)
              exact ⟨p, q + 1, h1, by rw [h2]; omega, h3, by simpa using h4, by simpa using h5⟩
  exact key _ i j a b (Nat.le_refl _)
theorem scr_ok (a b : List Int) : OkL true 0 0 (scrF a b) (a.length : Int) (b.length : Int) :=
  frF_ok (wkF 0 0 a b) true 0 0 0 0 rfl (fun h => by cases h) (Int.le_refl _) (Int.le_refl _) (by omega) (by omega) (wk_okP a b)
theorem scr_mt (a b : List Int) : mtF (a.length : Int) 0 0 (scrF a b) = wkF 0 0 a b := by
  have h := mt_fr (m := (a.length : Int)) (n := (b.length : Int)) (wkF 0 0 a b) 0 0 0 0 rfl (Int.le_refl _) (by omega) (by omega) (wk_okP a b)
  rw [show ((0 : Int) - 0).toNat = 0 from rfl, run_zero, List.nil_append] at h
  exact h
theorem scr_fits (a b : List Int) (ha : a.length ≤ 4096) (hb : b.length ≤ 4096) : fitsB (scrF a b) a b = true := by
  refine fitsB_T (chkF_ok ⟨by omega, by omega⟩ ⟨by omega, by omega⟩ (scr_ok a b)) fun s hs => ?_
  rw [scr_mt] at hs
  obtain ⟨p, q, h1, h2, h3, h4, h5⟩ := wk_equal 0 0 a b s hs
  unfold eqAt
  rw [h1, h2]
  simp only [Nat.zero_add, Int.toNat_natCast, List.getD_eq_getElem?_getD, List.getElem?_eq_getElem h3, List.getElem?_eq_getElem h4, h5]
theorem pick_fit1 (a b : List Int) (ha : a.length ≤ 4096) (hb : b.length ≤ 4096) : FitL a b true 0 0 (scrF a b) := (fits_iff.1 (scr_fits a b ha hb)).2.2
def PkPost (w : World) (e : Ending) (w' : World) : Prop := ∃ vl va vb l a b, e = .returned (.tuple #[vl, va, vb]) ∧ FitL a b true 0 0 l ∧ a.length ≤ 12 ∧ b.length ≤ 12 ∧ RdC w' vl l ∧ RdV w' va (intsV a) ∧ RdV w' vb (intsV b) ∧ Below w.heap.size w w'
theorem pk_mk {w w' : World} {vl va vb : Value} {l : List Ch} {a b : List Int} (h : FitL a b true 0 0 l) (ha : a.length ≤ 12) (hb : b.length ≤ 12) (h1 : RdC w' vl l) (h2 : RdV w' va (intsV a)) (h3 : RdV w' vb (intsV b)) (h4 : Below w.heap.size w w') : PkPost w (.returned (.tuple #[vl, va, vb])) w' :=
  ⟨vl, va, vb, l, a, b, rfl, h, ha, hb, h1, h2, h3, h4⟩
set_option maxRecDepth 100000 in
set_option maxHeartbeats 8000000 in
theorem pick_any (v : Value) (us : List Int) (other : Bool) (w : World) (h : RdV w v (intsV us)) (hu : us.length ≤ maxLen) :
    Calls Try.prog 9 #[v, .bool other] w (PkPost w) := by
  have HAt := Lib.hid (fun (wq : World) (k : Int) (hb : Below w.heap.size w wq) (h0 : 0 ≤ k) (h1 : k ≤ 1000000) => At_fn v us k wq (h.below hb) hu h0 h1)
  have HIds := Lib.hid (fun (fr : Int) (N : Nat) (wq : World) (hb : Below w.heap.size w wq) hf hN => Sc.Ids_any v us fr 2 N wq (h.below hb) hu hf hN ⟨by omega, by omega⟩)
  have HScr := Lib.hid (fun (wq : World) (hb : Below w.heap.size w wq) => Script_any v us 100 wq (h.below hb) hu (by omega))
  obtain ⟨A, c, rfl⟩ := h.form
  clear h hu
  rw [intsV_len] at HAt HIds HScr ⊢
  have HA0 := Lib.hid (fun wq hb => HAt.out wq 0 hb (by omega) (by omega))
  have HA1 := Lib.hid (fun wq hb => HAt.out wq 1 hb (by omega) (by omega))
  have x1 := atF_lo us 0
  have x2 := atF_hi us 0
  have y1 := atF_lo us 1
  have y2 := atF_hi us 1
  generalize atF us 0 = x at *
  generalize atF us 1 = y at *
  have HM0 := Lib.hid (fun w => Tx.Mod_any x 12 w (by omega) (by omega) x1 x2)
  have HM1 := Lib.hid (fun w => Tx.Mod_any y 12 w (by omega) (by omega) y1 y2)
  have n1 := Tx.modF_lo x 12 (by omega)
  have n2 := Tx.modF_hi x 12 (by omega)
  have n3 := Tx.modF_lo y 12 (by omega)
  have n4 := Tx.modF_hi y 12 (by omega)
  obtain ⟨N, hN⟩ : ∃ N : Nat, Tx.modF x 12 = (N : Int) := ⟨_, (Int.toNat_of_nonneg n1).symm⟩
  obtain ⟨M, hM⟩ : ∃ M : Nat, Tx.modF y 12 = (M : Int) := ⟨_, (Int.toNat_of_nonneg n3).symm⟩
  rw [hN] at HM0 n1 n2
  rw [hM] at HM1 n3 n4
  have HI0 := Lib.hid (fun wq hb => HIds.out 10 N wq hb ⟨by omega, by omega⟩ (by omega))
  have HI1 := Lib.hid (fun wq hb => HIds.out 40 M wq hb ⟨by omega, by omega⟩ (by omega))
  have hN12 : N ≤ 12 := by omega
  have hM12 : M ≤ 12 := by omega
  clear hN hM HAt x1 x2 y1 y2
  generalize us.length = nu at *
  have HB0 := Lib.hid (Below.refl w.heap.size w)
  go_enter Try.func9, Try.ntmps9
  go_wp2_with fail
  refine (HA0.out _ HB0.out).mono ?_
  rintro e w2 ⟨rfl, rfl⟩
  go_wp2_with fail
  refine (HM0.out _).mono ?_
  rintro e w3 ⟨rfl, rfl⟩
  go_wp2_with fail
  refine (HI0.out _ HB0.out).mono ?_
  rintro e w4 ⟨va, a, rfl, hla, hoa, hb4⟩
  have HRa := Lib.hid (RdV.of_own hoa)
  have HBa := Lib.hid hb4
  have HLa := Lib.hid hla
  obtain ⟨A1, c1, rfl⟩ := own_form hoa
  clear hla hoa hb4 HB0 HI0
  go_wp2_with fail
  refine (HA1.out _ HBa.out).mono ?_
  rintro e w5 ⟨rfl, rfl⟩
  go_wp2_with fail
  refine (HM1.out _).mono ?_
  rintro e w6 ⟨rfl, rfl⟩
  go_wp2_with fail
  refine (HI1.out _ HBa.out).mono ?_
  rintro e w7 ⟨vb, b, rfl, hlb, hob, hb7⟩
  have HRb := Lib.hid (RdV.of_own hob)
  have HRa2 := Lib.hid (HRa.out.below hb7)
  have HBb := Lib.hid (HBa.out.trans (hb7.mono HBa.out.size))
  have HLb := Lib.hid hlb
  obtain ⟨A2, c2, rfl⟩ := own_form hob
  clear hlb hob hb7 HRa HBa HI1
  cases other with
  | false =>
    have HW := Lib.hid (WalkR_at A1 A2 c1 c2 N M a b w7 HRa2 HRb (by omega) (by omega) (Lib.hid HLa.out.symm) (Lib.hid HLb.out.symm))
    go_wp2_with fail
    refine HW.out.mono ?_
    rintro e w8 ⟨vl, rfl, hol, hb8⟩
    have HRl := Lib.hid hol.rd
    have HRa3 := Lib.hid (HRa2.out.below hb8)
    have HRb3 := Lib.hid (HRb.out.below hb8)
    have HB8 := Lib.hid (HBb.out.trans (hb8.mono HBb.out.size))
    clear hol hb8 HW HRa2 HRb HBb
    go_wp2_with fail
    go_ret3
    exact pk_mk (pick_fit1 a b (by rw [HLa.out]; omega) (by rw [HLb.out]; omega)) (by rw [HLa.out]; exact hN12) (by rw [HLb.out]; exact hM12) HRl.out HRa3.out HRb3.out HB8.out
  | true =>
    clear HRa2 HRb HLa HLb hN12 hM12 n1 n2 n3 n4 HM0 HM1 HA0 HA1
    go_wp2_with fail
    refine (HScr.out _ HBb.out).mono ?_
    rintro e w1 ⟨vx, xl, m, n, rfl, hG, ho, hb1⟩
    obtain ⟨Ax, cx, rfl⟩ := ho.rd.form
    have HB1 := Lib.hid (HBb.out.trans (hb1.mono HBb.out.size))
    have HX := Lib.hid ho.rd
    have hxl := hG.len
    have hokp := mt_okp xl true 0 0 hG.bm.1 (fun _ => rfl) hG.ok
    have HOp := Lib.hid (okP_mem (Int.le_refl 0) (Int.le_refl 0) hokp)
    have hps := mt_small hG.im hG.in_ hG.ok
    obtain ⟨hm0, hm1⟩ := hG.bm
    obtain ⟨hn0, hn1⟩ := hG.bn
    obtain ⟨mm, rfl⟩ : ∃ k : Nat, m = (k : Int) := ⟨m.toNat, by omega⟩
    obtain ⟨nn, rfl⟩ : ∃ k : Nat, n = (k : Int) := ⟨n.toNat, by omega⟩
    have HMt := Lib.hid (fun v wq (h : RdC wq v xl) => Matched_any v xl (mm : Int) (nn : Int) wq h (by omega) hG.im hG.in_ hG.ok)
    have HTr : Hid (∀ cs ds : List Int, cs.length = mm → ds.length = nn → (∀ s ∈ mtF (mm : Int) 0 0 xl, eqAt cs ds s) → FitL cs ds true 0 0 xl) := Lib.hid (fun cs ds h1 h2 h3 => ⟨by rw [h1, h2]; exact hG.ok, by rw [h1]; exact h3⟩)
    have hInd := Lib.hid (show ∀ i j, ∀ (hi : i < (mtF (mm : Int) 0 0 xl).length) (hj : j < (mtF (mm : Int) 0 0 xl).length), i < j → (mtF (mm : Int) 0 0 xl)[i].to < (mtF (mm : Int) 0 0 xl)[j].to from okP_asc hokp)
    clear hb1 HScr hG ho HBb hokp
    generalize mtF (mm : Int) 0 0 xl = p at *
    go_wp2_with fail
    refine (HIds.out 10 mm w1 HB1.out ⟨by omega, by omega⟩ (by omega)).mono ?_
    rintro e w2 ⟨vc, cs, rfl, hcl, hoc, hb⟩
    have HB2 := Lib.hid (HB1.out.trans (hb.mono HB1.out.size))
    have HX2 := Lib.hid (HX.out.below hb)
    clear hb HB1 HX
    obtain ⟨Ac, cc, hvc⟩ := own_form hoc
    subst hvc
    have HCs := Lib.hid (RdV.of_own hoc)
    have HCl := Lib.hid hcl
    clear hcl hoc
    go_wp2_with fail
    refine (HIds.out 40 nn w2 HB2.out ⟨by omega, by omega⟩ (by omega)).mono ?_
    rintro e w3 ⟨vd, ds, rfl, hdl, hod, hb⟩
    have HB3 := Lib.hid (HB2.out.trans (hb.mono HB2.out.size))
    have HX3 := Lib.hid (HX2.out.below hb)
    have HC3 := Lib.hid (HCs.out.below hb)
    have HK3 := Lib.hid hb
    clear hb HIds
    obtain ⟨Ad, cd, hvd⟩ := own_form hod
    subst hvd
    have HD3 := Lib.hid hod
    have HDl := Lib.hid hdl
    clear hdl hod
    go_wp2_with fail
    refine (HMt.out _ _ HX3.out).mono ?_
    rintro e w4 ⟨vp, rfl, hop, hb⟩
    have HB4 := Lib.hid (HB3.out.trans (hb.mono HB3.out.size))
    have HX4 := Lib.hid (HX3.out.below hb)
    have HC4 := Lib.hid (HC3.out.below hb)
    have HD4 := Lib.hid (own_below HD3.out hb)
    have HK4 := Lib.hid (HK3.out.trans (hb.mono HK3.out.size))
    obtain ⟨Ap, cp, rfl⟩ := hop.rd.form
    have HP4 := Lib.hid hop
    have h34 := hb.size
    have HGd : Hid (∀ g, 0 < nn → Ad = some ⟨g, 0, none⟩ → g < w3.heap.size) := Lib.hid (fun g hn he => by obtain ⟨g2, c2, e, _, hl⟩ := row_block HD3.out hn; injection e with e1; rw [he] at e1; injection e1 with e1; injection e1 with e1; omega)
    clear hb HX3 HC3 HD3 HK3 HMt hop
    obtain ⟨np, hnp⟩ : ∃ np, p.length = np := ⟨_, rfl⟩
    rw [hnp] at HP4 hps ⊢
    have HNp := Lib.hid hnp
    clear hnp
    go_wp2_with fail
    go_loopw [13] (fun k' wr => ∃ (k : Nat) (ds : List Int), k ≤ np ∧ k' = .int .i64 (k : Int) ∧ Hid (ds.length = nn) ∧ Hid (wr.ownsRow w2.heap.size 3 1 (.slice Ad nn cd) nn (intsV ds)) ∧ Hid (Below w2.heap.size w2 wr) ∧ Hid (∀ i (hi : i < p.length), i < k → eqAt cs ds p[i]) ∧ Hid (OwnS w3.heap.size wr (.slice Ap np cp) p)) (fun k' _ => np - (intOf k').toNat)
    case atStart => exact ⟨0, ds, Nat.zero_le _, rfl, HDl, HD4, HK4, Lib.hid (fun i _ h => absurd h (Nat.not_lt_zero _)), HP4⟩
    case round =>
      obtain ⟨k, ds, hk, rfl, HDl, HD, HK, HEq, HP⟩ := hrel
      by_cases hlt : k < np
      · have dk : decide (k < np) = true := decide_eq_true hlt
        have hx : k < p.length := by rw [HNp.out]; exact hlt
        obtain ⟨g, off, rfl, a0, a1⟩ := RdS_at HP.out.rd k hx
        obtain ⟨⟨f0, f1⟩, t0, t1⟩ := HOp.out p[k] (List.getElem_mem hx)
        have HAsc := Lib.hid (fun i (hi : i < p.length) (hik : i < k) => hInd.out i k hi hx hik)
        have HSx : Hid (∀ i (hi : i < p.length), i < k + 1 → i = k ∨ i < k) := Lib.hid (fun i _ h => by omega)
        have HPos := Lib.hid (fun i (hi : i < p.length) => (HOp.out p[i] (List.getElem_mem hi)).2.1)
        generalize hsp : p[k] = sp at *
        have HSp2 := Lib.hid hsp
        clear hsp
        obtain ⟨za, zb⟩ := sp
        simp only at f0 f1 t0 t1 a0 a1
        obtain ⟨a, rfl⟩ : ∃ a : Nat, za = (a : Int) := ⟨za.toNat, by omega⟩
        obtain ⟨b, rfl⟩ : ∃ b : Nat, zb = (b : Int) := ⟨zb.toNat, by omega⟩
        have hc1 : a < cs.length := by rw [HCl.out]; omega
        have hd1 : b < ds.length := by rw [HDl.out]; omega
        obtain ⟨gd, cd2, hvd, hgb, hgl⟩ := row_block HD.out (show 0 < nn by omega)
        injection hvd with hv1 _ hv2
        subst hv1
        subst hv2
        have HCw := Lib.hid (HCs.out.below HK.out)
        obtain ⟨gc, oc, rfl, cc1⟩ := RdV_at HCw.out a hc1
        have cd1 : wr.cell? ⟨gd, b, none⟩ = some (.int .i64 ds[b]) := by rw [HD.out.cellAt b (by rw [HDl.out] at hd1; omega)]; simp [intsV, hd1]
        have fd : wr.frozen? ⟨gd, b, none⟩ = false := World.ownsRow.frozenAt HD.out b
        have hgd3 := HGd.out gd (by omega) rfl
        have HDd := Lib.hid (own_below HD.out (Below.refl _ _).drew)
        have HPn : Hid (OwnS w3.heap.size (wr.drew.setCell ⟨gd, b, none⟩ (.int .i64 cs[a])) (.slice (some ⟨g, off, none⟩) np cp) p) := Lib.hid (by
          have h1 := HP.out.below (Below.refl _ _).drew
          refine h1.same (fun k hk => Below.heap_setCell _ _ _ _ (fun e => ?_))
          have h2 := (h1.own k hk).1
          have h3 : k = gd := e
          omega)
        have HDn : Hid ((wr.drew.setCell ⟨gd, b, none⟩ (.int .i64 cs[a])).ownsRow w2.heap.size 3 1 (.slice (some ⟨gd, 0, none⟩) nn cd) nn (intsV (ds.set b cs[a]))) := Lib.hid (by rw [← set_ints]; exact (World.ownsRow.stored HDd.out b (.int .i64 cs[a])).1)
        have HKn := Lib.hid (HK.out.drew.setCell (p := ⟨gd, b, none⟩) hgb (.int .i64 cs[a]))
        have HEn : Hid (∀ i (hi : i < p.length), i < k + 1 → eqAt cs (ds.set b cs[a]) p[i]) := Lib.hid (fun i hi hik => by
          rcases HSx.out i hi hik with e | e
          · subst e; rw [HSp2.out]; exact eqAt_same hc1 hd1
          · exact eqAt_other (HEq.out i hi e) (HPos.out i hi) (HAsc.out i hi e))
        have HDl2 : Hid ((ds.set b cs[a]).length = nn) := Lib.hid (by rw [List.length_set]; exact HDl.out)
        generalize ds.set b cs[a] = ds2 at *
        generalize cs[a] = ca at *
        generalize ds[b] = db at *
        have i1 : (0 : Int) ≤ (k : Int) := by omega
        have i2 : (k : Int) < (np : Int) := by omega
        clear hc1 hd1 hgb hgl hgd3 HD HDd HP HEq HK HDl HCw
        go_wp2_with fail
        go_still_tail 15, (by kernel_rfl)
        change wpList _ _ _ _ _ wr.drew
        go_wp2_with fail
        go_roundw
        case rel => exact ⟨k + 1, ds2, by omega, by go_num, HDl2, HDn, HKn, HEn, HPn⟩
        case measure => simp [intOf]; omega
      · have dk : decide (k < np) = false := decide_eq_false hlt
        obtain rfl : k = np := by omega
        have HKw := Lib.hid (HB2.out.trans (HK.out.mono HB2.out.size))
        have HXw := Lib.hid (HX2.out.below HK.out)
        have HCw := Lib.hid (HCs.out.below HK.out)
        have HDw := Lib.hid (RdV.of_own HD.out)
        have HFt := Lib.hid (HTr.out cs ds HCl.out HDl.out (fun s hs => by
          obtain ⟨i, hi, rfl⟩ := List.mem_iff_getElem.1 hs
          exact HEq.out i hi (by rw [HNp.out] at hi; exact hi)))
        clear HEq HP hInd HOp HTr HD HK
        go_wp2_with fail
        go_ret3
        exact pk_mk HFt.out (by rw [HCl.out]; omega) (by rw [HDl.out]; omega) HXw.out HCw.out HDw.out HKw.out
end Sl
end Go.Proofs.Ytldommbelpcegaa
