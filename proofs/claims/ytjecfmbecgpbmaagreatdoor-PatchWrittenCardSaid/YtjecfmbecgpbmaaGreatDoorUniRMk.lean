/- Facts; each states its conditions. -/
import Derived.Test.YtjecfmbecgpbmaaGreatDoorGGUniFmt
import Derived.Deep.CutRange
namespace Go.Proofs.YtjecfmbecgpbmaaGreatDoor
namespace Cm
end Cm
namespace Hn
end Hn
namespace Sc
end Sc
namespace Sh
end Sh
namespace Sl
end Sl
open Go.RowKit
namespace Uf
open Cm Sc Hn Sl
open Sh (lnB_len lnB_size idA idB idA_len idB_len blbF SplR_any SpPost2 LinesR_two IdsR_two ll_lit ll_two)
set_option maxRecDepth 100000 in
set_option maxHeartbeats 4000000 in
theorem MakeR_bad (on nn s t : ByteArray) (ctx : Int) (down : Bool) (w : World) (h : ¬ (nameB on = true ∧ nameB nn = true)) : Calls Tryz.prog 31 #[.string on, .string nn, .string s, .string t, .int .i64 ctx, .bool down] w (PtPost (mkP on nn s t ctx down) (mkC on nn ctx) w) := by
 have HC : Hid (mkC on nn ctx = 120) := Lib.hid (by unfold mkC; rw [if_neg h])
 have HI1 := Lib.hid (fun w => NameR_any on w)
 have HI2 := Lib.hid (fun w => NameR_any nn w)
 have HEnd := Lib.hid (fun w' (hb : Below w.heap.size w w') => pt_zero (s := s) (t := t) (down := down) HC.out (by decide) hb)
 have HB0 := Lib.hid ((Below.refl w.heap.size w).alloc (Nat.le_refl _) (.cells #[.string ⟨#[]⟩, .string ⟨#[]⟩, .slice none 0 0] tPat))
 have HZ := blk3 (show Blk (w.alloc (.cells #[.string ⟨#[]⟩, .string ⟨#[]⟩, .slice none 0 0] tPat)) w.heap.size tPat [.string ⟨#[]⟩, .string ⟨#[]⟩, .slice none 0 0] from heap_new w _)
 obtain ⟨z0, z1, z2, fz, hlt⟩ := HZ
 have HB3 := Lib.hid (((HB0.out.setCell (p := ⟨w.heap.size, 0, none⟩) (Nat.le_refl _) (.string ⟨#[]⟩)).setCell (p := ⟨w.heap.size, 1, none⟩) (Nat.le_refl _) (.string ⟨#[]⟩)).setCell (p := ⟨w.heap.size, 2, none⟩) (Nat.le_refl _) (.slice none 0 0))
 by_cases h1 : nameB on = true
 · have h2 : nameB nn = false := by
    cases hh : nameB nn
    · rfl
    · exact absurd ⟨h1, hh⟩ h
   rw [h1] at HI1
   rw [h2] at HI2
   clear h h1 h2
   go_enter Tryz.func31, Tryz.ntmps31
   go_wp2_with fail
   refine (HI1.out _).mono ?_
   rintro e w1 ⟨rfl, rfl⟩
   go_wp2_with fail
   refine (HI2.out _).mono ?_
   rintro e w1 ⟨rfl, rfl⟩
   go_wp2_with fail
   exact bodyPost_ret (v := .tuple #[.agg #[.string ⟨#[]⟩, .string ⟨#[]⟩, .slice none 0 0], .int .i64 120]) (by simp [results, Tryz.f31, go_sem, z0, z1, z2]) rfl (HEnd.out _ HB0.out)
 · have h1 : nameB on = false := by simpa using h1
   rw [h1] at HI1
   clear h h1
   go_enter Tryz.func31, Tryz.ntmps31
   go_wp2_with fail
   refine (HI1.out _).mono ?_
   rintro e w1 ⟨rfl, rfl⟩
   go_wp2_with fail
   exact bodyPost_ret (v := .tuple #[.agg #[.string ⟨#[]⟩, .string ⟨#[]⟩, .slice none 0 0], .int .i64 120]) (by simp [results, Tryz.f31, go_sem, z0, z1, z2]) rfl (HEnd.out _ HB0.out)
structure HkI (wo : World) (oF nF : Int) (wr : World) (v : Value) (L : List Ln) : Prop where
 bel : Below wo.heap.size wo wr
 blk : Blk wr wo.heap.size tPh [.int .i64 oF, .int .i64 nF, v]
 own : OwnL (wo.heap.size + 1) wr v L
theorem HkI.drew {wo wr : World} {oF nF : Int} {v : Value} {L : List Ln} (h : HkI wo oF nF wr v L) : HkI wo oF nF wr.drew v L := ⟨h.bel.drew, h.blk, h.own.below (Below.refl _ wr).drew⟩
theorem OwnL.box {base g o : Nat} {w : World} {v u : Value} {l : List Ln} (h : OwnL base w v l) (hg : g < base) : OwnL base (w.setCell ⟨g, o, none⟩ u) v l := own_box h hg
theorem HkI.put {wo wr w' : World} {oF nF : Int} {v v' : Value} {L L' : List Ln} (h : HkI wo oF nF wr v L) (hb : Below (wo.heap.size + 1) wr w') (ho : OwnL (wo.heap.size + 1) w' v' L') : HkI wo oF nF (w'.setCell ⟨wo.heap.size, 2, none⟩ v') v' L' := by
 have b : Blk w' wo.heap.size tPh [.int .i64 oF, .int .i64 nF, v] := (hb.block _ (Nat.lt_succ_self _)).trans h.blk
 have hw : Below wo.heap.size wo w' := h.bel.trans (hb.mono (Nat.le_succ _))
 exact ⟨hw.setCell (p := ⟨wo.heap.size, 2, none⟩) (Nat.le_refl _) _, b.set 2 v', ho.box (Nat.lt_succ_self _)⟩
theorem MkI.next {V wr w7 : World} {on nn : ByteArray} {v v7 : Value} {ps ps' : List PH} (h : MkI V on nn wr v ps) (hb : Below (V.heap.size + 1) wr w7) (ho : OwnP (V.heap.size + 1) w7 v7 ps') : MkI V on nn (w7.setCell ⟨V.heap.size, 2, none⟩ v7) v7 ps' := by
 have b : Blk w7 V.heap.size tPat [.string on, .string nn, v] := (hb.block _ (Nat.lt_succ_self _)).trans h.blk
 have hw : Below V.heap.size V w7 := h.bel.trans (hb.mono (Nat.le_succ _))
 exact ⟨hw.setCell (p := ⟨V.heap.size, 2, none⟩) (Nat.le_refl _) _, b.set 2 v7, ho.box (Nat.lt_succ_self _)⟩
section
variable {x y : List ByteArray} {l : List Ch}
theorem rnd_at {oF nF oT nT p k : Nat} (hpk : p ≤ k) (hk : k ≤ l.length) (hf : Lf x y oF nF (cut l p k) oT nT) (n : Nat) (h1 : p ≤ n) (h2 : n < k) : ∃ (o ol nw nl nx : Nat) (h : n < l.length), l[n] = ⟨o, ol, nw, nl⟩ ∧ nx = lstO oF ((cut l p k).take (n - p)) ∧ nx ≤ o ∧ o + ol ≤ x.length ∧ nw + nl ≤ y.length ∧ lstO oF ((cut l p k).take (n + 1 - p)) = o + ol ∧
 lnsP x y oF ((cut l p k).take (n + 1 - p)) = lnsP x y oF ((cut l p k).take (n - p)) ++ lnsK 32 (cut x nx o) ++ lnsK 45 (cut x o (o + ol)) ++ lnsK 43 (cut y nw (nw + nl)) := by
 have hn : n < l.length := by omega
 have hl := cut_len l (i := p) (j := k) hk
 have h : n - p < (cut l p k).length := by omega
 have eq : (cut l p k)[n - p] = l[n] := by
  have hg := cut_get l (i := p) (j := k) (k := n - p) (by omega)
  rw [List.getElem?_eq_getElem h, show p + (n - p) = n from by omega, List.getElem?_eq_getElem hn] at hg
  exact Option.some.inj hg
 have e : cut l p k = (cut l p k).take (n - p) ++ (cut l p k)[n - p] :: (cut l p k).drop (n - p + 1) := by rw [← List.drop_eq_getElem_cons h, List.take_append_drop]
 have hR : Lf x y oF nF ((cut l p k).take (n - p) ++ (cut l p k)[n - p] :: (cut l p k).drop (n - p + 1)) oT nT := by rw [← e]; exact hf
 have hR := Lf.rest hR
 obtain ⟨o, ol, nw, nl, ec, g1, g2, g3, g4, g5, g6⟩ := hR
 have hl6 := g6.le
 have e2 : n + 1 - p = n - p + 1 := by omega
 refine ⟨o, ol, nw, nl, lstO oF ((cut l p k).take (n - p)), hn, by rw [← eq, ec], rfl, g1, by omega, by omega, ?_, ?_⟩
 · rw [e2, List.take_succ_eq_append_getElem h, (lst_snoc _ _ oF 0).1, ec]; exact nat_add o ol
 · rw [e2, List.take_succ_eq_append_getElem h, lnsP_snoc, ec]
   simp only [nat_add, Int.toNat_natCast]
theorem rnd_len {cs : List Ch} {oF nF oT nT : Nat} (hx : x.length ≤ 5000) (hy : y.length ≤ 5000) (hf : Lf x y oF nF cs oT nT) (q : Nat) : (lnsP x y oF (cs.take q)).length ≤ 10000 := by
 have h1 := hf.lenP
 have h2 := hf.le
 have h3 := lnsP_app (x := x) (y := y) (cs.take q) (cs.drop q) oF
 rw [List.take_append_drop] at h3
 rw [h3, List.length_append] at h1
 omega
theorem rnd_fin {cs : List Ch} {oF nF oT nT : Nat} (hx : x.length ≤ 5000) (hy : y.length ≤ 5000) (hf : Lf x y oF nF cs oT nT) : lstO oF cs ≤ oT ∧ oT ≤ x.length ∧ (lnsP x y oF cs).length ≤ 10000 ∧ lnsF x y oF cs oT = lnsP x y oF cs ++ lnsK 32 (cut x (lstO oF cs) oT) := by
 have h1 := rnd_len hx hy hf cs.length
 rw [List.take_length] at h1
 have hR : Lf x y oF nF (cs ++ []) oT nT := by rw [List.append_nil]; exact hf
 have h2 := (Lf.rest hR).le
 exact ⟨h2.1, hf.le.2.2.1, h1, lnsF_P _ _ _⟩
end
set_option maxRecDepth 100000 in
set_option maxHeartbeats 8000000 in
theorem MakeR_good (on nn s t : ByteArray) (ctx : Int) (down : Bool) (hs : s.size ≤ 1000) (ht : t.size ≤ 1000) (w : World) (h : nameB on = true ∧ nameB nn = true) : Calls Tryz.prog 31 #[.string on, .string nn, .string s, .string t, .int .i64 ctx, .bool down] w (PtPost (mkP on nn s t ctx down) (mkC on nn ctx) w) := by
 have HI1 := Lib.hid (fun w => NameR_any on w)
 have HI2 := Lib.hid (fun w => NameR_any nn w)
 rw [h.1] at HI1
 rw [h.2] at HI2
 have HSa := Lib.hid (fun w => SplR_any s hs w)
 have HSb := Lib.hid (fun w => SplR_any t ht w)
 have HLr := Lib.hid (fun v1 v2 w h1 h2 => LinesR_two s t hs ht v1 v2 w h1 h2)
 have HIr := Lib.hid (fun u w h => IdsR_two s t hs ht u w h)
 unfold SpPost2 at HSa HSb
 unfold NewC at HLr
 unfold Sh.IdPost at HIr
 have l1 := lnB_len s
 have l2 := lnB_len t
 have la : (idA s t).length = (Sh.lnB s).length := by unfold idA; rw [List.length_map]
 have lb : (idB s t).length = (Sh.lnB t).length := by unfold idB; rw [List.length_map]
 have hlf := scrD_lf (s := s) (t := t) (by omega) (by omega) down
 have hfit0 := scrD_fit (s := s) (t := t) (by omega) (by omega) false
 have hfit := scrD_fit (s := s) (t := t) (by omega) (by omega) down
 have hfew := hlf.few
 have hgc : gcF ctx (scrD down s t) ((Sh.lnB s).length : Int) ((Sh.lnB t).length : Int) = if ctx < 0 ∨ 1048576 < ctx then 3 else 0 := by
  have hok := hfit.1
  rw [la, lb] at hok
  unfold gcF
  split
  · rfl
  · exact chkF_ok ⟨by omega, by omega⟩ ⟨by omega, by omega⟩ hok
 have e0 : scrD false s t = blbF s t := by unfold scrD; rw [if_neg (by decide)]
 rw [e0] at hfit0
 have HDn : Hid (down = true → ∀ v va vb w, RdC w v (blbF s t) → RdV w va (intsV (idA s t)) → RdV w vb (intsV (idB s t)) → Calls Tryz.prog 56 #[v, va, vb] w (DnPost (scrD down s t) w)) := Lib.hid (fun hd v va vb w h1 h2 h3 => by
  have e1 : scrD down s t = downF (idA s t) (idB s t) (idA s t).length (blbF s t) := by unfold scrD; rw [if_pos hd]
  rw [e1]
  exact DownR_any v _ va vb _ _ w h1 h2 h3 (by omega) (by omega) hfit0)
 have HNd : Hid (down = false → scrD down s t = blbF s t) := Lib.hid (fun hd => by rw [hd, e0])
 have HGr := Lib.hid (fun v w (hr : RdC w v (scrD down s t)) => GroupR_any v (scrD down s t) ((Sh.lnB s).length : Int) ((Sh.lnB t).length : Int) ctx w hr (by omega))
 unfold GrPost at HGr
 rw [hgc] at HGr
 unfold DnPost at HDn
 have hmk : mkC on nn ctx = if ctx < 0 ∨ 1048576 < ctx then 3 else 0 := by unfold mkC; rw [if_pos h]
 have HEndBad := Lib.hid (fun w' (hb : Below w.heap.size w w') (hc : ctx < 0 ∨ 1048576 < ctx) => pt_zero (on := on) (nn := nn) (s := s) (t := t) (down := down) (ctx := ctx) (z := 3) (by rw [hmk, if_pos hc]) (by decide) hb)
 have HEndGood : Hid (¬ (ctx < 0 ∨ 1048576 < ctx) → ∀ v w', OwnP w.heap.size w' v (patH (Sh.lnB s) (Sh.lnB t) ctx (scrD down s t)) → Below w.heap.size w w' → PtPost (mkP on nn s t ctx down) (mkC on nn ctx) w (.returned (.tuple #[.agg #[.string on, .string nn, v], .int .i64 0])) w') := Lib.hid (fun hc v w' h1 h2 => by
  have e : mkC on nn ctx = 0 := by rw [hmk, if_neg hc]
  have e2 : mkP on nn s t ctx down = ⟨on, nn, patH (Sh.lnB s) (Sh.lnB t) ctx (scrD down s t)⟩ := by unfold mkP; rw [if_pos e]
  rw [e, e2]
  exact ⟨v, rfl, h1, h2⟩)
 have HPh := Lib.hid (fun (hc : 0 ≤ ctx) => ph_group hc hlf)
 have HCk : Hid (¬ (ctx < 0 ∨ 1048576 < ctx) → ∀ v w', RdP w' v (patH (Sh.lnB s) (Sh.lnB t) ctx (scrD down s t)) → Calls Tryz.prog 40 #[.agg #[.string on, .string nn, v]] w' fun e w'' => e = .returned (.int .i64 0) ∧ Below w'.heap.size w' w'') := Lib.hid (fun hc v w' hr => by
  have hm := mk_ok (ctx := ctx) (by omega) hs ht down h.1 h.2
  have := CheckR_any _ v w' hr hm.sh
  unfold CkPost at this
  rw [hm.chk] at this
  exact this)
 have hpat : patH (Sh.lnB s) (Sh.lnB t) ctx (scrD down s t) = (group ctx (Sh.lnB s).length (scrD down s t)).map (mkPH (Sh.lnB s) (Sh.lnB t) (scrD down s t)) := rfl
 rw [hpat] at HEndGood HCk
 have hglen := group_len ctx ((Sh.lnB s).length : Int) (scrD down s t)
 clear hfit hfit0 hgc hmk hpat hlf h e0 la lb
 generalize scrD down s t = l at *
 generalize blbF s t = l0 at *
 generalize idA s t = ia at *
 generalize idB s t = ib at *
 generalize hX : Sh.lnB s = xs at *
 generalize hY : Sh.lnB t = ys at *
 clear hX hY
 have HB0 := Lib.hid ((Below.refl w.heap.size w).alloc (Nat.le_refl _) (.cells #[.string ⟨#[]⟩, .string ⟨#[]⟩, .slice none 0 0] tPat))
 have HZ0 : Hid (Blk (w.alloc (.cells #[.string ⟨#[]⟩, .string ⟨#[]⟩, .slice none 0 0] tPat)) w.heap.size tPat [.string ⟨#[]⟩, .string ⟨#[]⟩, .slice none 0 0]) := Lib.hid (heap_new w _)
 go_enter Tryz.func31, Tryz.ntmps31
 go_wp2_with fail
 refine (HI1.out _).mono ?_
 rintro e w1 ⟨rfl, rfl⟩
 go_wp2_with fail
 refine (HI2.out _).mono ?_
 rintro e w1 ⟨rfl, rfl⟩
 go_wp2_with fail
 refine (HSa.out _).mono ?_
 rintro e w1 ⟨vx, rfl, hrx, hb⟩
 have HX1 := Lib.hid hrx
 have HB1 := Lib.hid (HB0.out.trans (hb.mono HB0.out.size))
 have HZ1 := Lib.hid (HZ0.out.below hb)
 obtain ⟨Ax, cx, rfl⟩ := hrx.form
 rw [stringsV_len] at HX1 ⊢
 clear hrx hb HB0 HZ0 HI1 HI2 HSa
 go_wp2_with fail
 refine (HSb.out _).mono ?_
 rintro e w2 ⟨vy, rfl, hry, hb⟩
 have HY2 := Lib.hid hry
 have HX2 := Lib.hid (HX1.out.below hb)
 have HB2 := Lib.hid (HB1.out.trans (hb.mono HB1.out.size))
 have HZ2 := Lib.hid (HZ1.out.below hb)
 obtain ⟨Ay, cy, rfl⟩ := hry.form
 rw [stringsV_len] at HY2 ⊢
 clear hry hb HB1 HZ1 HX1 HSb
 generalize hXn : xs.length = X at *
 generalize hYn : ys.length = Y at *
 have HXn := Lib.hid hXn
 have HYn := Lib.hid hYn
 clear hXn hYn
 go_wp2_with fail
 refine (HLr.out _ _ _ HX2.out HY2.out).mono ?_
 rintro e w3 ⟨v0, rfl, hown, hb⟩
 have HL3 := Lib.hid hown.rd
 have HX3 := Lib.hid (HX2.out.below hb)
 have HY3 := Lib.hid (HY2.out.below hb)
 have HB3 := Lib.hid (HB2.out.trans (hb.mono HB2.out.size))
 have HZ3 := Lib.hid (HZ2.out.below hb)
 obtain ⟨A0, c0, rfl⟩ := hown.rd.form
 clear hown hb HB2 HZ2 HX2 HY2 HLr
 go_upto_if 56 with fail
 go_cut [17, 18] from 57 to 71 (fun u _ wx => ∃ A c, u = .slice A l.length c ∧ Hid (RdC wx (.slice A l.length c) l) ∧ Hid (Below w3.heap.size w3 wx))
 case first =>
  clear HEndBad HEndGood HPh HCk HGr hglen hfew HB3 HZ3
  cases down with
  | false =>
    have hd := HNd.out rfl
    subst hd
    clear HNd HDn HIr
    go_wp2_with fail
    go_meet
    case rel => exact ⟨_, _, rfl, HL3, Lib.hid (Below.refl _ _)⟩
  | true =>
    have HD := Lib.hid (HDn.out rfl)
    clear HNd HDn
    go_wp2_with fail
    refine (HIr.out _ _ (ll_lit HX3.out HY3.out _)).mono ?_
    rintro e w4 ⟨vi, rfl, hll, hb⟩
    obtain ⟨bi, oi, ci, u0, u1, rfl, i0, i1, hr0, hr1⟩ := ll_two hll
    have HA4 := Lib.hid (((Below.refl w3.heap.size w3).alloc (Nat.le_refl _) (.cells #[.slice Ax X cx, .slice Ay Y cy] 30)).trans (hb.mono (by simp)))
    have HL4 := Lib.hid (HL3.out.below HA4.out)
    have HR0 := Lib.hid (hr0.below (Below.refl _ w4).drew)
    have HR1 := Lib.hid (hr1.below (Below.refl _ w4).drew)
    have HLd := Lib.hid (HL4.out.below (Below.refl _ w4).drew)
    obtain ⟨Ai, ni, ci0, rfl⟩ : ∃ A n c, u0 = .slice A n c := by obtain ⟨A, c, h⟩ := hr0.form; exact ⟨A, _, c, h⟩
    obtain ⟨Aj, nj, cj0, rfl⟩ : ∃ A n c, u1 = .slice A n c := by obtain ⟨A, c, h⟩ := hr1.form; exact ⟨A, _, c, h⟩
    clear hll hr0 hr1 hb HX3 HY3 HL3 HIr
    have HBr : Hid (Below w4.heap.size w4 w4.drew) := Lib.hid (Below.refl _ w4).drew
    have HKi : Hid (∀ V : World, Below w4.heap.size w4 V → V.cell? ⟨bi, oi, none⟩ = some (.slice Ai ni ci0) ∧ V.cell? ⟨bi, oi + 1, none⟩ = some (.slice Aj nj cj0)) := Lib.hid (fun V hV => ⟨(hV.cell (Tx.cell_lt i0)).trans i0, (hV.cell (Tx.cell_lt i1)).trans i1⟩)
    go_upto_region 12 with fail
    go_region_held3 (fun V => V.cell? ⟨bi, oi, none⟩ = some (.slice Ai ni ci0) ∧ V.cell? ⟨bi, oi + 1, none⟩ = some (.slice Aj nj cj0))
     (first | exact HKi.out _ HBr.out | exact (HKi.out _ HBr.out).1 | exact (HKi.out _ HBr.out).2 | go_keep)
     ((go_at_call 56; refine (HD.out _ _ _ _ HLd.out HR0.out HR1.out).mono ?_; rintro e w5 ⟨v5, rfl, ho5, hb5⟩; have HBr := Lib.hid (HBr.out.trans (hb5.mono HBr.out.size)); clear hb5; have HL5 := Lib.hid ho5.rd; obtain ⟨A5, c5, rfl⟩ := ho5.rd.form; clear ho5))
    have HB5 := Lib.hid (HA4.out.trans (HBr.out.mono HA4.out.size))
    clear HL4 HR0 HR1 HLd HBr HKi HD HA4 i0 i1
    go_wp2_with fail
    go_meet
    case rel => exact ⟨_, _, rfl, HL5, HB5⟩
 case rest =>
  obtain ⟨AL, cL, rfl, HLc, HBc⟩ := hcut
  have HX4 := Lib.hid (HX3.out.below HBc.out)
  have HY4 := Lib.hid (HY3.out.below HBc.out)
  have HB4 := Lib.hid (HB3.out.trans (HBc.out.mono HB3.out.size))
  have HZ4 := Lib.hid (HZ3.out.below HBc.out)
  clear HX3 HY3 HB3 HZ3 HL3 HNd HDn HIr HBc
  have HX3 := HX4
  have HY3 := HY4
  have HB3 := HB4
  have HZ3 := HZ4
  have HL3 := HLc
  clear HX4 HY4 HB4 HZ4 HLc
  by_cases hc : ctx < 0 ∨ 1048576 < ctx
  · rw [if_pos hc] at HGr
    have HE := Lib.hid (fun w' hb => HEndBad.out w' hb hc)
    clear HEndGood HEndBad HPh HCk hc
    go_wp2_with fail
    refine (HGr.out _ _ HL3.out).mono ?_
    rintro e w6 ⟨vh, rfl, -, hnil, hb⟩
    obtain rfl := hnil (by decide)
    have HB6 := Lib.hid (HB3.out.trans (hb.mono HB3.out.size))
    obtain ⟨z0, z1, z2, fz, hlt⟩ := blk3 (HZ3.out.below hb)
    have HB7 := Lib.hid (((HB6.out.setCell (p := ⟨w.heap.size, 0, none⟩) (Nat.le_refl _) (.string ⟨#[]⟩)).setCell (p := ⟨w.heap.size, 1, none⟩) (Nat.le_refl _) (.string ⟨#[]⟩)).setCell (p := ⟨w.heap.size, 2, none⟩) (Nat.le_refl _) (.slice none 0 0))
    clear hb hnil HB3 HZ3 HGr
    go_wp2_with fail
    exact bodyPost_ret (v := .tuple #[.agg #[.string ⟨#[]⟩, .string ⟨#[]⟩, .slice none 0 0], .int .i64 3]) (by simp [results, Tryz.f31, go_sem, z0, z1, z2]) rfl (HE.out _ HB7.out)
  · rw [if_neg hc] at HGr
    have hc0 : 0 ≤ ctx := by omega
    have HE := Lib.hid (HEndGood.out hc)
    have HP := Lib.hid (HPh.out hc0)
    have HC := Lib.hid (HCk.out hc)
    clear HEndGood HEndBad HPh HCk hc
    go_wp2_with fail
    refine (HGr.out _ _ HL3.out).mono ?_
    rintro e w6 ⟨vh, rfl, hown, -, hb⟩
    have HH6 := Lib.hid (hown trivial).rd
    have HB6 := Lib.hid (HB3.out.trans (hb.mono HB3.out.size))
    have HX6 := Lib.hid (HX3.out.below hb)
    have HY6 := Lib.hid (HY3.out.below hb)
    have HL6 := Lib.hid (HL3.out.below hb)
    have HZ6 := Lib.hid (HZ3.out.below hb)
    obtain ⟨Ah, ch, rfl⟩ := (hown trivial).rd.form
    clear hb hown HB3 HX3 HY3 HL3 HZ3 HGr
    generalize hgr : group ctx (X : Int) l = gs at *
    generalize hN : gs.length = N at *
    generalize hLn : l.length = L at *
    have HN := Lib.hid hN
    have HLn := Lib.hid hLn
    clear hgr hN hLn
    have HI0 : Hid (MkI w6 on nn (w6.alloc (.cells #[.string on, .string nn, .slice none 0 0] tPat)) (.slice none 0 0) []) := Lib.hid ⟨(Below.refl _ _).alloc (Nat.le_refl _) _, heap_new w6 _, OwnP.nil _ _⟩
    have HSx := Lib.hid (fun a b h1 h2 => slice_strs w6 HX6.out a b h1 h2)
    have HSy := Lib.hid (fun a b h1 h2 => slice_strs w6 HY6.out a b h1 h2)
    rw [HXn.out] at HSx
    rw [HYn.out] at HSy
    go_wp2_with fail
    go_loopw [21] (fun i wr => ∃ (j : Nat) (v : Value), j ≤ N ∧ i = .int .i64 j ∧ Hid (MkI w6 on nn wr v ((gs.take j).map (mkPH xs ys l)))) (fun i _ => N - (intOf i).toNat)
    case atStart => exact ⟨0, _, Nat.zero_le _, rfl, HI0⟩
    case round =>
     obtain ⟨j, v, hj, rfl, HI⟩ := hrel
     clear HI0
     by_cases hlt : j < N
     · have hx : j < gs.length := by rw [HN.out]; exact hlt
       obtain ⟨p, k, oF, nF, oT, nT, eg, hpk, hkl, hlf⟩ := ph_at HP.out j hx
       have HTk : Hid ((gs.take (j + 1)).map (mkPH xs ys l) = (gs.take j).map (mkPH xs ys l) ++ [⟨oF, nF, lnsF xs ys oF (cut l p k) oT⟩]) := Lib.hid (by
        rw [List.take_succ_eq_append_getElem hx, List.map_append, List.map_singleton, eg, mkPH_nat])
       have hlj : ((gs.take j).map (mkPH xs ys l)).length + 1 ≤ 1000000 := by rw [List.length_map, List.length_take]; omega
       obtain ⟨bh, off, hA, c0, c1, c2, c3, c4, c5⟩ := RdH_at HH6.out j hx
       obtain rfl := hA
       rw [eg] at c0 c1 c2 c3 c4 c5
       simp only at c0 c1 c2 c3 c4 c5
       have HHc : Hid (∀ V : World, Below w6.heap.size w6 V → V.cell? ⟨bh, off + j * 6, none⟩ = some (.int .i64 (p : Int)) ∧ V.cell? ⟨bh, off + j * 6 + 1, none⟩ = some (.int .i64 (k : Int)) ∧ V.cell? ⟨bh, off + j * 6 + 2, none⟩ = some (.int .i64 (oF : Int)) ∧ V.cell? ⟨bh, off + j * 6 + 3, none⟩ = some (.int .i64 (oT : Int)) ∧ V.cell? ⟨bh, off + j * 6 + 4, none⟩ = some (.int .i64 (nF : Int))) := Lib.hid (fun V hV => ⟨(hV.cell (Tx.cell_lt c0)).trans c0, (hV.cell (Tx.cell_lt c1)).trans c1, (hV.cell (Tx.cell_lt c2)).trans c2, (hV.cell (Tx.cell_lt c3)).trans c3, (hV.cell (Tx.cell_lt c4)).trans c4⟩)
       clear c0 c1 c2 c3 c4 c5 eg hx
       rw [HLn.out] at hkl
       have HRn := Lib.hid (fun n (h1 : p ≤ n) (h2 : n < k) => rnd_at (by omega) (by rw [HLn.out]; exact hkl) hlf n h1 h2)
       have HFi := Lib.hid (rnd_fin (by rw [HXn.out]; omega) (by rw [HYn.out]; omega) hlf)
       have HLe := Lib.hid (fun q => rnd_len (by rw [HXn.out]; omega) (by rw [HYn.out]; omega) hlf q)
       have hle := hlf.le
       rw [HXn.out, HYn.out] at hle
       have HCc := Lib.hid (fun cs => (show (cut l p k).take cs = (cut l p k).take cs from rfl))
       have hcl := cut_len l (i := p) (j := k) (by rw [HLn.out]; exact hkl)
       clear HCc
       generalize lnsF xs ys oF (cut l p k) oT = LN at *
       generalize cut l p k = cs at *
       generalize (gs.take j).map (mkPH xs ys l) = ps at *
       clear hlf
       have i1 : (0 : Int) ≤ (j : Int) := by omega
       have i2 : (j : Int) < (N : Int) := by omega
       obtain ⟨wo, hwo⟩ : ∃ wo, wo = wr := ⟨_, rfl⟩
       rw [← hwo] at HI ⊢
       clear hwo
       have hPB := HI.out.blk.lt
       have HPd := Lib.hid (HI.out.blk)
       obtain ⟨c0, c1, c2, c3, c4⟩ := HHc.out wo HI.out.bel
       go_upto_region 20 with fail
       obtain ⟨d0, d1, d2, d3, d4⟩ := HHc.out (wo.alloc (.cells #[.int .i64 0, .int .i64 0, .slice none 0 0] 39)) (HI.out.bel.trans (((Below.refl wo.heap.size wo).alloc (Nat.le_refl _) _).mono HI.out.bel.size))
       go_region
       clear d0 d1 d2 d3 d4 c0 c1 c2 c3 c4
       have HK0 : Hid (HkI wo oF nF (wo.alloc (.cells #[.int .i64 (oF : Int), .int .i64 (nF : Int), .slice none 0 0] 39)).drew (.slice none 0 0) []) := Lib.hid ⟨((Below.refl wo.heap.size wo).alloc (Nat.le_refl _) _).drew, heap_new wo _, OwnL.nil _ _⟩
       obtain ⟨W1, hW1⟩ : ∃ W1, W1 = (wo.alloc (.cells #[.int .i64 (oF : Int), .int .i64 (nF : Int), .slice none 0 0] 39)).drew := ⟨_, rfl⟩
       rw [← hW1] at HK0 ⊢
       clear hW1
       have HHo := Lib.hid (fun V (hV : Below wo.heap.size wo V) => HHc.out V (HI.out.bel.trans (hV.mono HI.out.bel.size)))
       have HXo := Lib.hid (fun V (hV : Below wo.heap.size wo V) => HX6.out.below (HI.out.bel.trans (hV.mono HI.out.bel.size)))
       have HYo := Lib.hid (fun V (hV : Below wo.heap.size wo V) => HY6.out.below (HI.out.bel.trans (hV.mono HI.out.bel.size)))
       have HPt := Lib.hid (fun (ls : List Ln) (k : Int) (xs : List ByteArray) (v u : Value) (wq : World) (ho : OwnL (wo.heap.size + 1) wq v ls) (hr : ∀ w', Below (wo.heap.size + 1) wq w' → RdV w' u (stringsV xs)) (hb : wo.heap.size + 1 ≤ wq.heap.size) (hl : ls.length + xs.length ≤ 999999) => put_any (wo.heap.size + 1) ls k xs v u wq ho hr hb hl)
       unfold ApPost at HPt
       obtain ⟨g0, g1, g2, -, -⟩ := blk3 HK0.out.blk
       obtain ⟨c0, c1, c2, c3, c4⟩ := HHo.out _ HK0.out.bel
       have hcs0 : lstO oF (cs.take (p - p)) = oF ∧ lnsP xs ys oF (cs.take (p - p)) = [] := by rw [Nat.sub_self]; exact ⟨rfl, rfl⟩
       go_wp2_with fail
       go_loopw [23, 24] (fun u i wr => ∃ (n : Nat) (v1 : Value), p ≤ n ∧ n ≤ k ∧ i = .int .i64 n ∧ u = .int .i64 (lstO oF (cs.take (n - p)) : Nat) ∧ Hid (HkI wo oF nF wr v1 (lnsP xs ys oF (cs.take (n - p))))) (fun _ i _ => k - (intOf i).toNat)
       case atStart => exact ⟨p, _, Nat.le_refl _, by omega, rfl, by rw [hcs0.1], by rw [hcs0.2]; exact HK0⟩
       case round =>
        obtain ⟨n, v1, hn1, hn2, rfl, rfl, HK⟩ := hrel
        clear HK0 hcs0 g0 g1 g2 c0 c1 c2 c3 c4
        obtain ⟨A1, cv1, rfl⟩ := HK.out.own.form
        obtain ⟨c0, c1, c2, c3, c4⟩ := HHo.out _ HK.out.bel
        obtain ⟨g0, g1, g2, gf, glt⟩ := blk3 HK.out.blk
        have hl1 := HLe.out (n - p)
        by_cases hlt2 : n < k
        · obtain ⟨o, ol, nw, nl, nx, hnl, hln, hnx, hno, hox, hnw, hst, hlp⟩ := HRn.out n hn1 hlt2
          rw [HXn.out] at hox
          rw [HYn.out] at hnw
          obtain ⟨bl, ofl, hA, d0, d1, d2, d3⟩ := RdC_at HL6.out n hnl
          obtain rfl := hA
          rw [hln] at d0 d1 d2 d3
          simp only at d0 d1 d2 d3
          have HCc : Hid (∀ V : World, Below wo.heap.size wo V → V.cell? ⟨bl, ofl + n * 4, none⟩ = some (.int .i64 (o : Int)) ∧ V.cell? ⟨bl, ofl + n * 4 + 1, none⟩ = some (.int .i64 (ol : Int)) ∧ V.cell? ⟨bl, ofl + n * 4 + 2, none⟩ = some (.int .i64 (nw : Int)) ∧ V.cell? ⟨bl, ofl + n * 4 + 3, none⟩ = some (.int .i64 (nl : Int))) := Lib.hid (fun V hV => by
           have hV2 := HI.out.bel.trans (hV.mono HI.out.bel.size)
           exact ⟨(hV2.cell (Tx.cell_lt d0)).trans d0, (hV2.cell (Tx.cell_lt d1)).trans d1, (hV2.cell (Tx.cell_lt d2)).trans d2, (hV2.cell (Tx.cell_lt d3)).trans d3⟩)
          clear d0 d1 d2 d3 hln
          obtain ⟨S1, hs1, hr1⟩ := HSx.out nx o hno (by omega)
          obtain ⟨S2, hs2, hr2⟩ := HSx.out o (o + ol) (by omega) (by omega)
          obtain ⟨S3, hs3, hr3⟩ := HSy.out nw (nw + nl) (by omega) (by omega)
          simp only [Int.natCast_add, Nat.add_sub_cancel_left] at hs2 hs3 hr2 hr3
          have e1 : (cut xs nx o).length = o - nx := cut_len xs (by rw [HXn.out]; omega)
          have e2 : (cut xs o (o + ol)).length = ol := by rw [cut_len xs (by rw [HXn.out]; omega)]; omega
          have e3 : (cut ys nw (nw + nl)).length = nl := by rw [cut_len ys (by rw [HYn.out]; omega)]; omega
          have HR1 := Lib.hid (fun V (hV : Below wo.heap.size wo V) => hr1 V (HXo.out V hV))
          have HR2 := Lib.hid (fun V (hV : Below wo.heap.size wo V) => hr2 V (HXo.out V hV))
          have HR3 := Lib.hid (fun V (hV : Below wo.heap.size wo V) => hr3 V (HYo.out V hV))
          have q1 : o + ol ≤ 1000 := by omega
          have q2 : nw + nl ≤ 1000 := by omega
          have m1 : (0 : Int) ≤ (n : Int) := by omega
          have m2 : (n : Int) < (L : Int) := by omega
          rw [← hnx] at *
          have HSt := Lib.hid hst
          have HLp := Lib.hid hlp
          generalize lnsP xs ys oF (cs.take (n - p)) = LP at *
          clear hr1 hr2 hr3 hst hlp hnx
          obtain ⟨L1, hL1⟩ : ∃ L1, LP ++ lnsK 32 (cut xs nx o) = L1 := ⟨_, rfl⟩
          obtain ⟨L2, hL2⟩ : ∃ L2, L1 ++ lnsK 45 (cut xs o (o + ol)) = L2 := ⟨_, rfl⟩
          obtain ⟨L3, hL3⟩ : ∃ L3, L2 ++ lnsK 43 (cut ys nw (nw + nl)) = L3 := ⟨_, rfl⟩
          have z1 : L1.length ≤ 20000 := by rw [← hL1, List.length_append, lnsK_len, e1]; omega
          have z2 : L2.length ≤ 30000 := by rw [← hL2, List.length_append, lnsK_len, e2]; omega
          have HL1 := Lib.hid hL1
          have HL2 := Lib.hid hL2
          have HL3 := Lib.hid hL3
          have HLq := Lib.hid (HLp.out.trans (by rw [hL1, hL2, hL3]))
          clear hL1 hL2 hL3 HLp
          go_upto_region 25 with fail
          have HKd := Lib.hid HK.out.drew
          refine wp_region_held_drew (S := (fun V => V.cell? ⟨bl, ofl + n * 4, none⟩ = some (.int .i64 (o : Int)))) (by kernel_rfl) ((HCc.out _ HKd.out.bel).1) (fun hHeld => ?_)
          refine wpAnyH_take (i := 0) (v := .pointer (some ⟨wo.heap.size, 2, none⟩)) rfl (by kernel_rfl) (by kernel_rfl) (by kernel_rfl) (fun _ _ _ h => h) (Or.inl ⟨by kernel_rfl, ?_⟩) (by assumption) ?_
          · intro V hV
            have h0 := hV
            go_simp
          change wpAnyH _ _ _ _ _ _ _ (Act.put _ (some 124) _) _
          simp only [Act.put, List.setIfInBounds_toArray, List.set_cons_zero, List.set_cons_succ]
          refine wpAnyH_take (i := 2) (v := .slice Ax X cx) rfl (by kernel_rfl) (by kernel_rfl) (by kernel_rfl) (fun _ _ _ h => h) (Or.inl ⟨by kernel_rfl, ?_⟩) (by assumption) ?_
          · intro V hV
            have h0 := hV
            go_simp
          change wpAnyH _ _ _ _ _ _ _ (Act.put _ (some 126) _) _
          simp only [Act.put, List.setIfInBounds_toArray, List.set_cons_zero, List.set_cons_succ]
          refine wpAnyH_take (i := 3) (v := .int .i64 (nx : Int)) rfl (by kernel_rfl) (by kernel_rfl) (by kernel_rfl) (fun _ _ _ h => h) (Or.inl ⟨by kernel_rfl, ?_⟩) (by assumption) ?_
          · intro V hV
            have h0 := hV
            go_simp
          change wpAnyH _ _ _ _ _ _ _ (Act.put _ (some 127) _) _
          simp only [Act.put, List.setIfInBounds_toArray, List.set_cons_zero, List.set_cons_succ]
          refine wpAnyH_take (i := 4) (v := .slice (some ⟨bl, ofl, none⟩) L cL) rfl (by kernel_rfl) (by kernel_rfl) (by kernel_rfl) (fun _ _ _ h => h) (Or.inl ⟨by kernel_rfl, ?_⟩) (by assumption) ?_
          · intro V hV
            have h0 := hV
            go_simp
          change wpAnyH _ _ _ _ _ _ _ (Act.put _ (some 128) _) _
          simp only [Act.put, List.setIfInBounds_toArray, List.set_cons_zero, List.set_cons_succ]
          refine wpAnyH_take (i := 5) (v := .int .i64 (n : Int)) rfl (by kernel_rfl) (by kernel_rfl) (by kernel_rfl) (fun _ _ _ h => h) (Or.inl ⟨by kernel_rfl, ?_⟩) (by assumption) ?_
          · intro V hV
            have h0 := hV
            go_simp
          change wpAnyH _ _ _ _ _ _ _ (Act.put _ (some 129) _) _
          simp only [Act.put, List.setIfInBounds_toArray, List.set_cons_zero, List.set_cons_succ]
          refine wpAnyH_take (i := 6) (v := .pointer (some ⟨bl, ofl + n * 4, none⟩)) rfl (by kernel_rfl) (by kernel_rfl) (by kernel_rfl) (fun _ _ _ h => h) (Or.inl ⟨by kernel_rfl, ?_⟩) (by assumption) ?_
          · intro V hV
            have h0 := hV
            go_simp
          change wpAnyH _ _ _ _ _ _ _ (Act.put _ (some 130) _) _
          simp only [Act.put, List.setIfInBounds_toArray, List.set_cons_zero, List.set_cons_succ]
          refine wpAnyH_take (i := 7) (v := .pointer (some ⟨bl, ofl + n * 4, none⟩)) rfl (by kernel_rfl) (by kernel_rfl) (by kernel_rfl) (fun _ _ _ h => h) (Or.inl ⟨by kernel_rfl, ?_⟩) (by assumption) ?_
          · intro V hV
            have h0 := hV
            go_simp
          change wpAnyH _ _ _ _ _ _ _ (Act.put _ (some 131) _) _
          simp only [Act.put, List.setIfInBounds_toArray, List.set_cons_zero, List.set_cons_succ]
          refine wpAnyH_take (i := 8) (v := .int .i64 (o : Int)) rfl (by kernel_rfl) (by kernel_rfl) (by kernel_rfl) (fun _ _ _ h => h) (Or.inl ⟨by kernel_rfl, ?_⟩) (by assumption) ?_
          · intro V hV
            have h0 := hV
            go_simp
          change wpAnyH _ _ _ _ _ _ _ (Act.put _ (some 132) _) _
          simp only [Act.put, List.setIfInBounds_toArray, List.set_cons_zero, List.set_cons_succ]
          refine wpAnyH_take (i := 9) (v := .slice S1 (o - nx) (cx - nx)) rfl (by kernel_rfl) (by kernel_rfl) (by kernel_rfl) (fun _ _ _ h => h) (Or.inl ⟨by kernel_rfl, ?_⟩) (by assumption) ?_
          · intro V hV
            have h0 := hV
            go_simp
          change wpAnyH _ _ _ _ _ _ _ (Act.put _ (some 133) _) _
          simp only [Act.put, List.setIfInBounds_toArray, List.set_cons_zero, List.set_cons_succ]
          refine wpAnyH_ready (rs := [1]) (by kernel_rfl) (by simp) ?_
          refine AllReadyH.cons rfl (fun K hK => ?_) AllReadyH.nil
          obtain ⟨g0, g1, g2, gf, glt⟩ := blk3 HKd.out.blk
          go_simp
          refine hK.out _ _ ((HCc.out _ HKd.out.bel).1) (fun hHeld => ?_)
          clear hK K
          refine wpAnyH_ready (rs := [10]) (by kernel_rfl) (by simp) ?_
          refine AllReadyH.cons rfl (fun K hK => ?_) AllReadyH.nil
          go_simp
          go_at_call 58
          refine (HPt.out LP 32 (cut xs nx o) _ _ _ HKd.out.own (fun w' hb => HR1.out w' (HKd.out.bel.trans (hb.mono (Nat.le_succ _)))) glt (by rw [e1]; omega)).mono ?_
          rintro e w7 ⟨v2, rfl, ho2, hb2, -⟩
          rw [HL1.out] at ho2
          obtain ⟨A2, cv2, rfl⟩ := ho2.form
          have HKn := Lib.hid (HKd.out.put hb2 ho2)
          have HKc := Lib.hid (HKd.out.bel.trans (hb2.mono (Nat.le_succ _)))
          obtain ⟨y0, y1, y2, yf, ylt⟩ := blk3 (show Blk w7 wo.heap.size tPh _ from (hb2.block _ (Nat.lt_succ_self _)).trans HKd.out.blk)
          clear ho2 hb2 g0 g1 g2 gf glt
          go_wp2_with fail
          refine hK.out _ _ ((HCc.out _ HKc.out).1) (fun hHeld => ?_)
          clear hK K
          refine wpAnyH_take (i := 11) (v := .pointer (some ⟨wo.heap.size, 2, none⟩)) rfl (by kernel_rfl) (by kernel_rfl) (by kernel_rfl) (fun _ _ _ h => h) (Or.inl ⟨by kernel_rfl, ?_⟩) (by assumption) ?_
          · intro V hV
            have h0 := hV
            go_simp
          change wpAnyH _ _ _ _ _ _ _ (Act.put _ (some 135) _) _
          simp only [Act.put, List.setIfInBounds_toArray, List.set_cons_zero, List.set_cons_succ]
          refine wpAnyH_ready (rs := [12]) (by kernel_rfl) (by simp) ?_
          refine AllReadyH.cons rfl (fun K hK => ?_) AllReadyH.nil
          go_simp
          refine hK.out _ _ ((HCc.out _ HKn.out.bel).1) (fun hHeld => ?_)
          clear hK K
          refine wpAnyH_done (by kernel_rfl) ?_ _
          clear HKd HKc y0 y1 y2 yf ylt hHeld
          obtain ⟨Wn, hWn⟩ : ∃ Wn, Wn = w7.setCell ⟨wo.heap.size, 2, none⟩ (.slice A2 L1.length cv2) := ⟨_, rfl⟩
          rw [← hWn] at HKn ⊢
          clear hWn
          clear HK c0 c1 c2 c3 c4 hs1 HR1
          obtain ⟨d0, d1, d2, d3⟩ := HCc.out _ HKn.out.bel
          go_upto_region 26 with fail
          go_region
          clear d0 d1 d2 d3
          have HKe := Lib.hid HKn.out.drew
          clear HKn
          obtain ⟨We, hWe⟩ : ∃ We, We = Wn.drew := ⟨_, rfl⟩
          rw [← hWe] at HKe ⊢
          clear hWe
          go_upto_region 27 with fail
          have HKd := Lib.hid HKe.out.drew
          refine wp_region_held_drew (S := (fun V => V.cell? ⟨bl, ofl + n * 4, none⟩ = some (.int .i64 (o : Int)))) (by kernel_rfl) ((HCc.out _ HKd.out.bel).1) (fun hHeld => ?_)
          refine wpAnyH_take (i := 0) (v := .pointer (some ⟨wo.heap.size, 2, none⟩)) rfl (by kernel_rfl) (by kernel_rfl) (by kernel_rfl) (fun _ _ _ h => h) (Or.inl ⟨by kernel_rfl, ?_⟩) (by assumption) ?_
          · intro V hV
            have h0 := hV
            go_simp
          change wpAnyH _ _ _ _ _ _ _ (Act.put _ (some 147) _) _
          simp only [Act.put, List.setIfInBounds_toArray, List.set_cons_zero, List.set_cons_succ]
          refine wpAnyH_take (i := 2) (v := .slice Ax X cx) rfl (by kernel_rfl) (by kernel_rfl) (by kernel_rfl) (fun _ _ _ h => h) (Or.inl ⟨by kernel_rfl, ?_⟩) (by assumption) ?_
          · intro V hV
            have h0 := hV
            go_simp
          change wpAnyH _ _ _ _ _ _ _ (Act.put _ (some 149) _) _
          simp only [Act.put, List.setIfInBounds_toArray, List.set_cons_zero, List.set_cons_succ]
          refine wpAnyH_take (i := 3) (v := .slice (some ⟨bl, ofl, none⟩) L cL) rfl (by kernel_rfl) (by kernel_rfl) (by kernel_rfl) (fun _ _ _ h => h) (Or.inl ⟨by kernel_rfl, ?_⟩) (by assumption) ?_
          · intro V hV
            have h0 := hV
            go_simp
          change wpAnyH _ _ _ _ _ _ _ (Act.put _ (some 150) _) _
          simp only [Act.put, List.setIfInBounds_toArray, List.set_cons_zero, List.set_cons_succ]
          refine wpAnyH_take (i := 4) (v := .int .i64 (n : Int)) rfl (by kernel_rfl) (by kernel_rfl) (by kernel_rfl) (fun _ _ _ h => h) (Or.inl ⟨by kernel_rfl, ?_⟩) (by assumption) ?_
          · intro V hV
            have h0 := hV
            go_simp
          change wpAnyH _ _ _ _ _ _ _ (Act.put _ (some 151) _) _
          simp only [Act.put, List.setIfInBounds_toArray, List.set_cons_zero, List.set_cons_succ]
          refine wpAnyH_take (i := 5) (v := .pointer (some ⟨bl, ofl + n * 4, none⟩)) rfl (by kernel_rfl) (by kernel_rfl) (by kernel_rfl) (fun _ _ _ h => h) (Or.inl ⟨by kernel_rfl, ?_⟩) (by assumption) ?_
          · intro V hV
            have h0 := hV
            go_simp
          change wpAnyH _ _ _ _ _ _ _ (Act.put _ (some 152) _) _
          simp only [Act.put, List.setIfInBounds_toArray, List.set_cons_zero, List.set_cons_succ]
          refine wpAnyH_take (i := 6) (v := .pointer (some ⟨bl, ofl + n * 4, none⟩)) rfl (by kernel_rfl) (by kernel_rfl) (by kernel_rfl) (fun _ _ _ h => h) (Or.inl ⟨by kernel_rfl, ?_⟩) (by assumption) ?_
          · intro V hV
            have h0 := hV
            go_simp
          change wpAnyH _ _ _ _ _ _ _ (Act.put _ (some 153) _) _
          simp only [Act.put, List.setIfInBounds_toArray, List.set_cons_zero, List.set_cons_succ]
          refine wpAnyH_take (i := 7) (v := .int .i64 (o : Int)) rfl (by kernel_rfl) (by kernel_rfl) (by kernel_rfl) (fun _ _ _ h => h) (Or.inl ⟨by kernel_rfl, ?_⟩) (by assumption) ?_
          · intro V hV
            have h0 := hV
            go_simp
          change wpAnyH _ _ _ _ _ _ _ (Act.put _ (some 154) _) _
          simp only [Act.put, List.setIfInBounds_toArray, List.set_cons_zero, List.set_cons_succ]
          refine wpAnyH_take (i := 8) (v := .int .i64 ((o : Int) + (ol : Int))) rfl (by kernel_rfl) (by kernel_rfl) (by kernel_rfl) (fun _ _ _ h => h) (Or.inl ⟨by kernel_rfl, ?_⟩) (by assumption) ?_
          · intro V hV
            have h0 := hV
            go_simp
          change wpAnyH _ _ _ _ _ _ _ (Act.put _ (some 155) _) _
          simp only [Act.put, List.setIfInBounds_toArray, List.set_cons_zero, List.set_cons_succ]
          refine wpAnyH_take (i := 9) (v := .slice S2 ol (cx - o)) rfl (by kernel_rfl) (by kernel_rfl) (by kernel_rfl) (fun _ _ _ h => h) (Or.inl ⟨by kernel_rfl, ?_⟩) (by assumption) ?_
          · intro V hV
            have h0 := hV
            go_simp
          change wpAnyH _ _ _ _ _ _ _ (Act.put _ (some 156) _) _
          simp only [Act.put, List.setIfInBounds_toArray, List.set_cons_zero, List.set_cons_succ]
          refine wpAnyH_ready (rs := [1]) (by kernel_rfl) (by simp) ?_
          refine AllReadyH.cons rfl (fun K hK => ?_) AllReadyH.nil
          obtain ⟨g0, g1, g2, gf, glt⟩ := blk3 HKd.out.blk
          go_simp
          refine hK.out _ _ ((HCc.out _ HKd.out.bel).1) (fun hHeld => ?_)
          clear hK K
          refine wpAnyH_ready (rs := [10]) (by kernel_rfl) (by simp) ?_
          refine AllReadyH.cons rfl (fun K hK => ?_) AllReadyH.nil
          go_simp
          go_at_call 58
          refine (HPt.out L1 45 (cut xs o (o + ol)) _ _ _ HKd.out.own (fun w' hb => HR2.out w' (HKd.out.bel.trans (hb.mono (Nat.le_succ _)))) glt (by rw [e2]; omega)).mono ?_
          rintro e w8 ⟨v2, rfl, ho2, hb2, -⟩
          rw [HL2.out] at ho2
          obtain ⟨A2, cv2, rfl⟩ := ho2.form
          have HKn := Lib.hid (HKd.out.put hb2 ho2)
          have HKc := Lib.hid (HKd.out.bel.trans (hb2.mono (Nat.le_succ _)))
          obtain ⟨y0, y1, y2, yf, ylt⟩ := blk3 (show Blk w8 wo.heap.size tPh _ from (hb2.block _ (Nat.lt_succ_self _)).trans HKd.out.blk)
          clear ho2 hb2 g0 g1 g2 gf glt
          go_wp2_with fail
          refine hK.out _ _ ((HCc.out _ HKc.out).1) (fun hHeld => ?_)
          clear hK K
          refine wpAnyH_take (i := 11) (v := .pointer (some ⟨wo.heap.size, 2, none⟩)) rfl (by kernel_rfl) (by kernel_rfl) (by kernel_rfl) (fun _ _ _ h => h) (Or.inl ⟨by kernel_rfl, ?_⟩) (by assumption) ?_
          · intro V hV
            have h0 := hV
            go_simp
          change wpAnyH _ _ _ _ _ _ _ (Act.put _ (some 158) _) _
          simp only [Act.put, List.setIfInBounds_toArray, List.set_cons_zero, List.set_cons_succ]
          refine wpAnyH_ready (rs := [12]) (by kernel_rfl) (by simp) ?_
          refine AllReadyH.cons rfl (fun K hK => ?_) AllReadyH.nil
          go_simp
          refine hK.out _ _ ((HCc.out _ HKn.out.bel).1) (fun hHeld => ?_)
          clear hK K
          refine wpAnyH_done (by kernel_rfl) ?_ _
          clear HKd HKc y0 y1 y2 yf ylt hHeld
          obtain ⟨Wn, hWn⟩ : ∃ Wn, Wn = w8.setCell ⟨wo.heap.size, 2, none⟩ (.slice A2 L2.length cv2) := ⟨_, rfl⟩
          rw [← hWn] at HKn ⊢
          clear hWn
          clear HKe hs2 HR2
          go_upto_region 28 with fail
          have HKd := Lib.hid HKn.out.drew
          refine wp_region_held_drew (S := (fun V => V.cell? ⟨bl, ofl + n * 4 + 2, none⟩ = some (.int .i64 (nw : Int)) ∧ V.cell? ⟨bl, ofl + n * 4 + 3, none⟩ = some (.int .i64 (nl : Int)))) (by kernel_rfl) ((HCc.out _ HKd.out.bel).2.2) (fun hHeld => ?_)
          refine wpAnyH_take (i := 0) (v := .pointer (some ⟨wo.heap.size, 2, none⟩)) rfl (by kernel_rfl) (by kernel_rfl) (by kernel_rfl) (fun _ _ _ h => h) (Or.inl ⟨by kernel_rfl, ?_⟩) (by assumption) ?_
          · intro V hV
            obtain ⟨h0, h1⟩ := hV
            go_simp
          change wpAnyH _ _ _ _ _ _ _ (Act.put _ (some 159) _) _
          simp only [Act.put, List.setIfInBounds_toArray, List.set_cons_zero, List.set_cons_succ]
          refine wpAnyH_take (i := 2) (v := .slice Ay Y cy) rfl (by kernel_rfl) (by kernel_rfl) (by kernel_rfl) (fun _ _ _ h => h) (Or.inl ⟨by kernel_rfl, ?_⟩) (by assumption) ?_
          · intro V hV
            obtain ⟨h0, h1⟩ := hV
            go_simp
          change wpAnyH _ _ _ _ _ _ _ (Act.put _ (some 161) _) _
          simp only [Act.put, List.setIfInBounds_toArray, List.set_cons_zero, List.set_cons_succ]
          refine wpAnyH_take (i := 3) (v := .slice (some ⟨bl, ofl, none⟩) L cL) rfl (by kernel_rfl) (by kernel_rfl) (by kernel_rfl) (fun _ _ _ h => h) (Or.inl ⟨by kernel_rfl, ?_⟩) (by assumption) ?_
          · intro V hV
            obtain ⟨h0, h1⟩ := hV
            go_simp
          change wpAnyH _ _ _ _ _ _ _ (Act.put _ (some 162) _) _
          simp only [Act.put, List.setIfInBounds_toArray, List.set_cons_zero, List.set_cons_succ]
          refine wpAnyH_take (i := 4) (v := .int .i64 (n : Int)) rfl (by kernel_rfl) (by kernel_rfl) (by kernel_rfl) (fun _ _ _ h => h) (Or.inl ⟨by kernel_rfl, ?_⟩) (by assumption) ?_
          · intro V hV
            obtain ⟨h0, h1⟩ := hV
            go_simp
          change wpAnyH _ _ _ _ _ _ _ (Act.put _ (some 163) _) _
          simp only [Act.put, List.setIfInBounds_toArray, List.set_cons_zero, List.set_cons_succ]
          refine wpAnyH_take (i := 5) (v := .pointer (some ⟨bl, ofl + n * 4, none⟩)) rfl (by kernel_rfl) (by kernel_rfl) (by kernel_rfl) (fun _ _ _ h => h) (Or.inl ⟨by kernel_rfl, ?_⟩) (by assumption) ?_
          · intro V hV
            obtain ⟨h0, h1⟩ := hV
            go_simp
          change wpAnyH _ _ _ _ _ _ _ (Act.put _ (some 164) _) _
          simp only [Act.put, List.setIfInBounds_toArray, List.set_cons_zero, List.set_cons_succ]
          refine wpAnyH_take (i := 6) (v := .pointer (some ⟨bl, ofl + n * 4 + 2, none⟩)) rfl (by kernel_rfl) (by kernel_rfl) (by kernel_rfl) (fun _ _ _ h => h) (Or.inl ⟨by kernel_rfl, ?_⟩) (by assumption) ?_
          · intro V hV
            obtain ⟨h0, h1⟩ := hV
            go_simp
          change wpAnyH _ _ _ _ _ _ _ (Act.put _ (some 165) _) _
          simp only [Act.put, List.setIfInBounds_toArray, List.set_cons_zero, List.set_cons_succ]
          refine wpAnyH_take (i := 7) (v := .int .i64 (nw : Int)) rfl (by kernel_rfl) (by kernel_rfl) (by kernel_rfl) (fun _ _ _ h => h) (Or.inl ⟨by kernel_rfl, ?_⟩) (by assumption) ?_
          · intro V hV
            obtain ⟨h0, h1⟩ := hV
            go_simp
          change wpAnyH _ _ _ _ _ _ _ (Act.put _ (some 166) _) _
          simp only [Act.put, List.setIfInBounds_toArray, List.set_cons_zero, List.set_cons_succ]
          refine wpAnyH_take (i := 8) (v := .slice (some ⟨bl, ofl, none⟩) L cL) rfl (by kernel_rfl) (by kernel_rfl) (by kernel_rfl) (fun _ _ _ h => h) (Or.inl ⟨by kernel_rfl, ?_⟩) (by assumption) ?_
          · intro V hV
            obtain ⟨h0, h1⟩ := hV
            go_simp
          change wpAnyH _ _ _ _ _ _ _ (Act.put _ (some 167) _) _
          simp only [Act.put, List.setIfInBounds_toArray, List.set_cons_zero, List.set_cons_succ]
          refine wpAnyH_take (i := 9) (v := .int .i64 (n : Int)) rfl (by kernel_rfl) (by kernel_rfl) (by kernel_rfl) (fun _ _ _ h => h) (Or.inl ⟨by kernel_rfl, ?_⟩) (by assumption) ?_
          · intro V hV
            obtain ⟨h0, h1⟩ := hV
            go_simp
          change wpAnyH _ _ _ _ _ _ _ (Act.put _ (some 168) _) _
          simp only [Act.put, List.setIfInBounds_toArray, List.set_cons_zero, List.set_cons_succ]
          refine wpAnyH_take (i := 10) (v := .pointer (some ⟨bl, ofl + n * 4, none⟩)) rfl (by kernel_rfl) (by kernel_rfl) (by kernel_rfl) (fun _ _ _ h => h) (Or.inl ⟨by kernel_rfl, ?_⟩) (by assumption) ?_
          · intro V hV
            obtain ⟨h0, h1⟩ := hV
            go_simp
          change wpAnyH _ _ _ _ _ _ _ (Act.put _ (some 169) _) _
          simp only [Act.put, List.setIfInBounds_toArray, List.set_cons_zero, List.set_cons_succ]
          refine wpAnyH_take (i := 11) (v := .pointer (some ⟨bl, ofl + n * 4 + 2, none⟩)) rfl (by kernel_rfl) (by kernel_rfl) (by kernel_rfl) (fun _ _ _ h => h) (Or.inl ⟨by kernel_rfl, ?_⟩) (by assumption) ?_
          · intro V hV
            obtain ⟨h0, h1⟩ := hV
            go_simp
          change wpAnyH _ _ _ _ _ _ _ (Act.put _ (some 170) _) _
          simp only [Act.put, List.setIfInBounds_toArray, List.set_cons_zero, List.set_cons_succ]
          refine wpAnyH_take (i := 12) (v := .int .i64 (nw : Int)) rfl (by kernel_rfl) (by kernel_rfl) (by kernel_rfl) (fun _ _ _ h => h) (Or.inl ⟨by kernel_rfl, ?_⟩) (by assumption) ?_
          · intro V hV
            obtain ⟨h0, h1⟩ := hV
            go_simp
          change wpAnyH _ _ _ _ _ _ _ (Act.put _ (some 171) _) _
          simp only [Act.put, List.setIfInBounds_toArray, List.set_cons_zero, List.set_cons_succ]
          refine wpAnyH_take (i := 13) (v := .slice (some ⟨bl, ofl, none⟩) L cL) rfl (by kernel_rfl) (by kernel_rfl) (by kernel_rfl) (fun _ _ _ h => h) (Or.inl ⟨by kernel_rfl, ?_⟩) (by assumption) ?_
          · intro V hV
            obtain ⟨h0, h1⟩ := hV
            go_simp
          change wpAnyH _ _ _ _ _ _ _ (Act.put _ (some 172) _) _
          simp only [Act.put, List.setIfInBounds_toArray, List.set_cons_zero, List.set_cons_succ]
          refine wpAnyH_take (i := 14) (v := .int .i64 (n : Int)) rfl (by kernel_rfl) (by kernel_rfl) (by kernel_rfl) (fun _ _ _ h => h) (Or.inl ⟨by kernel_rfl, ?_⟩) (by assumption) ?_
          · intro V hV
            obtain ⟨h0, h1⟩ := hV
            go_simp
          change wpAnyH _ _ _ _ _ _ _ (Act.put _ (some 173) _) _
          simp only [Act.put, List.setIfInBounds_toArray, List.set_cons_zero, List.set_cons_succ]
          refine wpAnyH_take (i := 15) (v := .pointer (some ⟨bl, ofl + n * 4, none⟩)) rfl (by kernel_rfl) (by kernel_rfl) (by kernel_rfl) (fun _ _ _ h => h) (Or.inl ⟨by kernel_rfl, ?_⟩) (by assumption) ?_
          · intro V hV
            obtain ⟨h0, h1⟩ := hV
            go_simp
          change wpAnyH _ _ _ _ _ _ _ (Act.put _ (some 174) _) _
          simp only [Act.put, List.setIfInBounds_toArray, List.set_cons_zero, List.set_cons_succ]
          refine wpAnyH_take (i := 16) (v := .pointer (some ⟨bl, ofl + n * 4 + 3, none⟩)) rfl (by kernel_rfl) (by kernel_rfl) (by kernel_rfl) (fun _ _ _ h => h) (Or.inl ⟨by kernel_rfl, ?_⟩) (by assumption) ?_
          · intro V hV
            obtain ⟨h0, h1⟩ := hV
            go_simp
          change wpAnyH _ _ _ _ _ _ _ (Act.put _ (some 175) _) _
          simp only [Act.put, List.setIfInBounds_toArray, List.set_cons_zero, List.set_cons_succ]
          refine wpAnyH_take (i := 17) (v := .int .i64 (nl : Int)) rfl (by kernel_rfl) (by kernel_rfl) (by kernel_rfl) (fun _ _ _ h => h) (Or.inl ⟨by kernel_rfl, ?_⟩) (by assumption) ?_
          · intro V hV
            obtain ⟨h0, h1⟩ := hV
            go_simp
          change wpAnyH _ _ _ _ _ _ _ (Act.put _ (some 176) _) _
          simp only [Act.put, List.setIfInBounds_toArray, List.set_cons_zero, List.set_cons_succ]
          refine wpAnyH_take (i := 18) (v := .int .i64 ((nw : Int) + (nl : Int))) rfl (by kernel_rfl) (by kernel_rfl) (by kernel_rfl) (fun _ _ _ h => h) (Or.inl ⟨by kernel_rfl, ?_⟩) (by assumption) ?_
          · intro V hV
            obtain ⟨h0, h1⟩ := hV
            (go_simp; rw [IntKind.wrap_i64]; omega)
          change wpAnyH _ _ _ _ _ _ _ (Act.put _ (some 177) _) _
          simp only [Act.put, List.setIfInBounds_toArray, List.set_cons_zero, List.set_cons_succ]
          refine wpAnyH_take (i := 19) (v := .slice S3 nl (cy - nw)) rfl (by kernel_rfl) (by kernel_rfl) (by kernel_rfl) (fun _ _ _ h => h) (Or.inl ⟨by kernel_rfl, ?_⟩) (by assumption) ?_
          · intro V hV
            obtain ⟨h0, h1⟩ := hV
            go_simp
          change wpAnyH _ _ _ _ _ _ _ (Act.put _ (some 178) _) _
          simp only [Act.put, List.setIfInBounds_toArray, List.set_cons_zero, List.set_cons_succ]
          refine wpAnyH_ready (rs := [1]) (by kernel_rfl) (by simp) ?_
          refine AllReadyH.cons rfl (fun K hK => ?_) AllReadyH.nil
          obtain ⟨g0, g1, g2, gf, glt⟩ := blk3 HKd.out.blk
          go_simp
          refine hK.out _ _ ((HCc.out _ HKd.out.bel).2.2) (fun hHeld => ?_)
          clear hK K
          refine wpAnyH_ready (rs := [20]) (by kernel_rfl) (by simp) ?_
          refine AllReadyH.cons rfl (fun K hK => ?_) AllReadyH.nil
          go_simp
          go_at_call 58
          refine (HPt.out L2 43 (cut ys nw (nw + nl)) _ _ _ HKd.out.own (fun w' hb => HR3.out w' (HKd.out.bel.trans (hb.mono (Nat.le_succ _)))) glt (by rw [e3]; omega)).mono ?_
          rintro e w9 ⟨v2, rfl, ho2, hb2, -⟩
          rw [HL3.out] at ho2
          obtain ⟨A2, cv2, rfl⟩ := ho2.form
          have HKn := Lib.hid (HKd.out.put hb2 ho2)
          have HKc := Lib.hid (HKd.out.bel.trans (hb2.mono (Nat.le_succ _)))
          obtain ⟨y0, y1, y2, yf, ylt⟩ := blk3 (show Blk w9 wo.heap.size tPh _ from (hb2.block _ (Nat.lt_succ_self _)).trans HKd.out.blk)
          clear ho2 hb2 g0 g1 g2 gf glt
          go_wp2_with fail
          refine hK.out _ _ ((HCc.out _ HKc.out).2.2) (fun hHeld => ?_)
          clear hK K
          refine wpAnyH_take (i := 21) (v := .pointer (some ⟨wo.heap.size, 2, none⟩)) rfl (by kernel_rfl) (by kernel_rfl) (by kernel_rfl) (fun _ _ _ h => h) (Or.inl ⟨by kernel_rfl, ?_⟩) (by assumption) ?_
          · intro V hV
            obtain ⟨h0, h1⟩ := hV
            go_simp
          change wpAnyH _ _ _ _ _ _ _ (Act.put _ (some 180) _) _
          simp only [Act.put, List.setIfInBounds_toArray, List.set_cons_zero, List.set_cons_succ]
          refine wpAnyH_ready (rs := [22]) (by kernel_rfl) (by simp) ?_
          refine AllReadyH.cons rfl (fun K hK => ?_) AllReadyH.nil
          go_simp
          refine hK.out _ _ ((HCc.out _ HKn.out.bel).2.2) (fun hHeld => ?_)
          clear hK K
          refine wpAnyH_done (by kernel_rfl) ?_ _
          clear HKd HKc y0 y1 y2 yf ylt hHeld
          obtain ⟨Wn, hWn⟩ : ∃ Wn, Wn = w9.setCell ⟨wo.heap.size, 2, none⟩ (.slice A2 L3.length cv2) := ⟨_, rfl⟩
          rw [← hWn] at HKn ⊢
          clear hWn
          go_wp2_with fail
          go_roundw
          case rel => exact ⟨n + 1, _, by omega, by omega, by go_num, by rw [HSt.out]; go_num, by rw [HLq.out]; exact HKn⟩
          case measure => simp [intOf]; omega
        · obtain rfl : n = k := by omega
          have ht : cs.take (n - p) = cs := by rw [← hcl, List.take_length]
          rw [ht] at HK hl1 ⊢
          obtain ⟨f1, f2, f3, f4⟩ := HFi
          rw [HXn.out] at f2
          generalize lstO oF cs = nx at *
          generalize lnsP xs ys oF cs = LP at *
          obtain ⟨S1, hs1, hr1⟩ := HSx.out nx oT f1 f2
          have e1 : (cut xs nx oT).length = oT - nx := cut_len xs (by rw [HXn.out]; omega)
          have HR1 := Lib.hid (fun V (hV : Below wo.heap.size wo V) => hr1 V (HXo.out V hV))
          have HL1 := Lib.hid f4.symm
          have q1 : oT ≤ 1000 := by omega
          clear hr1 ht f4 HRn HLe hlt2 hcl
          go_upto_region 29 with fail
          have HKd := Lib.hid HK.out.drew
          refine wp_region_held_drew (S := (fun V => V.cell? ⟨bh, off + j * 6 + 3, none⟩ = some (.int .i64 (oT : Int)))) (by kernel_rfl) ((HHo.out _ HKd.out.bel).2.2.2.1) (fun hHeld => ?_)
          refine wpAnyH_take (i := 0) (v := .pointer (some ⟨wo.heap.size, 2, none⟩)) rfl (by kernel_rfl) (by kernel_rfl) (by kernel_rfl) (fun _ _ _ h => h) (Or.inl ⟨by kernel_rfl, ?_⟩) (by assumption) ?_
          · intro V hV
            have h0 := hV
            go_simp
          change wpAnyH _ _ _ _ _ _ _ (Act.put _ (some 181) _) _
          simp only [Act.put, List.setIfInBounds_toArray, List.set_cons_zero, List.set_cons_succ]
          refine wpAnyH_take (i := 2) (v := .slice Ax X cx) rfl (by kernel_rfl) (by kernel_rfl) (by kernel_rfl) (fun _ _ _ h => h) (Or.inl ⟨by kernel_rfl, ?_⟩) (by assumption) ?_
          · intro V hV
            have h0 := hV
            go_simp
          change wpAnyH _ _ _ _ _ _ _ (Act.put _ (some 183) _) _
          simp only [Act.put, List.setIfInBounds_toArray, List.set_cons_zero, List.set_cons_succ]
          refine wpAnyH_take (i := 3) (v := .int .i64 (nx : Int)) rfl (by kernel_rfl) (by kernel_rfl) (by kernel_rfl) (fun _ _ _ h => h) (Or.inl ⟨by kernel_rfl, ?_⟩) (by assumption) ?_
          · intro V hV
            have h0 := hV
            go_simp
          change wpAnyH _ _ _ _ _ _ _ (Act.put _ (some 184) _) _
          simp only [Act.put, List.setIfInBounds_toArray, List.set_cons_zero, List.set_cons_succ]
          refine wpAnyH_take (i := 4) (v := .slice (some ⟨bh, off, none⟩) N ch) rfl (by kernel_rfl) (by kernel_rfl) (by kernel_rfl) (fun _ _ _ h => h) (Or.inl ⟨by kernel_rfl, ?_⟩) (by assumption) ?_
          · intro V hV
            have h0 := hV
            go_simp
          change wpAnyH _ _ _ _ _ _ _ (Act.put _ (some 185) _) _
          simp only [Act.put, List.setIfInBounds_toArray, List.set_cons_zero, List.set_cons_succ]
          refine wpAnyH_take (i := 5) (v := .int .i64 (j : Int)) rfl (by kernel_rfl) (by kernel_rfl) (by kernel_rfl) (fun _ _ _ h => h) (Or.inl ⟨by kernel_rfl, ?_⟩) (by assumption) ?_
          · intro V hV
            have h0 := hV
            go_simp
          change wpAnyH _ _ _ _ _ _ _ (Act.put _ (some 186) _) _
          simp only [Act.put, List.setIfInBounds_toArray, List.set_cons_zero, List.set_cons_succ]
          refine wpAnyH_take (i := 6) (v := .pointer (some ⟨bh, off + j * 6, none⟩)) rfl (by kernel_rfl) (by kernel_rfl) (by kernel_rfl) (fun _ _ _ h => h) (Or.inl ⟨by kernel_rfl, ?_⟩) (by assumption) ?_
          · intro V hV
            have h0 := hV
            go_simp
          change wpAnyH _ _ _ _ _ _ _ (Act.put _ (some 187) _) _
          simp only [Act.put, List.setIfInBounds_toArray, List.set_cons_zero, List.set_cons_succ]
          refine wpAnyH_take (i := 7) (v := .pointer (some ⟨bh, off + j * 6 + 2, none⟩)) rfl (by kernel_rfl) (by kernel_rfl) (by kernel_rfl) (fun _ _ _ h => h) (Or.inl ⟨by kernel_rfl, ?_⟩) (by assumption) ?_
          · intro V hV
            have h0 := hV
            go_simp
          change wpAnyH _ _ _ _ _ _ _ (Act.put _ (some 188) _) _
          simp only [Act.put, List.setIfInBounds_toArray, List.set_cons_zero, List.set_cons_succ]
          refine wpAnyH_take (i := 8) (v := .pointer (some ⟨bh, off + j * 6 + 3, none⟩)) rfl (by kernel_rfl) (by kernel_rfl) (by kernel_rfl) (fun _ _ _ h => h) (Or.inl ⟨by kernel_rfl, ?_⟩) (by assumption) ?_
          · intro V hV
            have h0 := hV
            go_simp
          change wpAnyH _ _ _ _ _ _ _ (Act.put _ (some 189) _) _
          simp only [Act.put, List.setIfInBounds_toArray, List.set_cons_zero, List.set_cons_succ]
          refine wpAnyH_take (i := 9) (v := .int .i64 (oT : Int)) rfl (by kernel_rfl) (by kernel_rfl) (by kernel_rfl) (fun _ _ _ h => h) (Or.inl ⟨by kernel_rfl, ?_⟩) (by assumption) ?_
          · intro V hV
            have h0 := hV
            go_simp
          change wpAnyH _ _ _ _ _ _ _ (Act.put _ (some 190) _) _
          simp only [Act.put, List.setIfInBounds_toArray, List.set_cons_zero, List.set_cons_succ]
          refine wpAnyH_take (i := 10) (v := .slice S1 (oT - nx) (cx - nx)) rfl (by kernel_rfl) (by kernel_rfl) (by kernel_rfl) (fun _ _ _ h => h) (Or.inl ⟨by kernel_rfl, ?_⟩) (by assumption) ?_
          · intro V hV
            have h0 := hV
            go_simp
          change wpAnyH _ _ _ _ _ _ _ (Act.put _ (some 191) _) _
          simp only [Act.put, List.setIfInBounds_toArray, List.set_cons_zero, List.set_cons_succ]
          refine wpAnyH_ready (rs := [1]) (by kernel_rfl) (by simp) ?_
          refine AllReadyH.cons rfl (fun K hK => ?_) AllReadyH.nil
          obtain ⟨g0, g1, g2, gf, glt⟩ := blk3 HKd.out.blk
          go_simp
          refine hK.out _ _ ((HHo.out _ HKd.out.bel).2.2.2.1) (fun hHeld => ?_)
          clear hK K
          refine wpAnyH_ready (rs := [11]) (by kernel_rfl) (by simp) ?_
          refine AllReadyH.cons rfl (fun K hK => ?_) AllReadyH.nil
          go_simp
          go_at_call 58
          refine (HPt.out LP 32 (cut xs nx oT) _ _ _ HKd.out.own (fun w' hb => HR1.out w' (HKd.out.bel.trans (hb.mono (Nat.le_succ _)))) glt (by rw [e1]; omega)).mono ?_
          rintro e w7 ⟨v2, rfl, ho2, hb2, -⟩
          rw [HL1.out] at ho2
          obtain ⟨A2, cv2, rfl⟩ := ho2.form
          have HKn := Lib.hid (HKd.out.put hb2 ho2)
          have HKc := Lib.hid (HKd.out.bel.trans (hb2.mono (Nat.le_succ _)))
          obtain ⟨y0, y1, y2, yf, ylt⟩ := blk3 (show Blk w7 wo.heap.size tPh _ from (hb2.block _ (Nat.lt_succ_self _)).trans HKd.out.blk)
          clear ho2 hb2 g0 g1 g2 gf glt
          go_wp2_with fail
          refine hK.out _ _ ((HHo.out _ HKc.out).2.2.2.1) (fun hHeld => ?_)
          clear hK K
          refine wpAnyH_take (i := 12) (v := .pointer (some ⟨wo.heap.size, 2, none⟩)) rfl (by kernel_rfl) (by kernel_rfl) (by kernel_rfl) (fun _ _ _ h => h) (Or.inl ⟨by kernel_rfl, ?_⟩) (by assumption) ?_
          · intro V hV
            have h0 := hV
            go_simp
          change wpAnyH _ _ _ _ _ _ _ (Act.put _ (some 193) _) _
          simp only [Act.put, List.setIfInBounds_toArray, List.set_cons_zero, List.set_cons_succ]
          refine wpAnyH_ready (rs := [13]) (by kernel_rfl) (by simp) ?_
          refine AllReadyH.cons rfl (fun K hK => ?_) AllReadyH.nil
          go_simp
          refine hK.out _ _ ((HHo.out _ HKn.out.bel).2.2.2.1) (fun hHeld => ?_)
          clear hK K
          refine wpAnyH_done (by kernel_rfl) ?_ _
          clear HKd HKc y0 y1 y2 yf ylt hHeld
          obtain ⟨Wn, hWn⟩ : ∃ Wn, Wn = w7.setCell ⟨wo.heap.size, 2, none⟩ (.slice A2 LN.length cv2) := ⟨_, rfl⟩
          rw [← hWn] at HKn ⊢
          clear hWn
          clear HK c0 c1 c2 c3 c4 g0 g1 g2 gf glt hs1 HR1
          obtain ⟨g0, g1, g2, gf, glt⟩ := blk3 HKn.out.blk
          have hbo : w6.heap.size + 1 ≤ wo.heap.size := hPB
          obtain ⟨k0, k1, k2, kf, klt⟩ := blk3 (HPd.out.below HKn.out.bel)
          have HOp := Lib.hid (HI.out.own.below HKn.out.bel)
          have HOl := Lib.hid (HKn.out.own.base (show w6.heap.size + 1 ≤ wo.heap.size + 1 by omega))
          have hWn : w6.heap.size + 1 ≤ Wn.heap.size := Nat.le_trans hbo HKn.out.bel.size
          have HNx : Hid (∀ v7 w7, OwnP (w6.heap.size + 1) w7 v7 (ps ++ [⟨oF, nF, LN⟩]) → Below (w6.heap.size + 1) Wn w7 → MkI w6 on nn (w7.setCell ⟨w6.heap.size, 2, none⟩ v7) v7 (ps ++ [⟨oF, nF, LN⟩]) ∧ Blk w7 w6.heap.size tPat [.string on, .string nn, v]) := Lib.hid (fun v7 w7 ho hb => by
           have hb2 : Below (w6.heap.size + 1) wo w7 := (HKn.out.bel.mono hbo).trans hb
           exact ⟨HI.out.next hb2 ho, (hb2.block _ (Nat.lt_succ_self _)).trans HI.out.blk⟩)
          have HC9 : Hid ((#[Value.int .i64 (oF : Int), .int .i64 (nF : Int), .slice A2 LN.length cv2] : Array Value).toList = [.int .i64 ((⟨oF, nF, LN⟩ : PH).old), .int .i64 ((⟨oF, nF, LN⟩ : PH).new), .slice A2 LN.length cv2]) := Lib.hid rfl
          clear HKn HI HPd
          go_wp2_with (at_builtin; refine app_ph rfl (.tmp 195) (.tmp 197) rfl (w6.heap.size + 1) ps ⟨oF, nF, LN⟩ (.slice A2 LN.length cv2) v _ rfl HOp.out HOl.out rfl rfl rfl hlj hWn ?_; intro v7 w7 ho7 hb7 _; obtain ⟨A7, cv7, rfl⟩ := ho7.form; obtain ⟨hm7, hk7⟩ := HNx.out _ _ ho7 hb7; rw [List.length_append, List.length_singleton] at hm7; have HM7 := Lib.hid hm7; obtain ⟨x0, x1, x2, xf, xlt⟩ := blk3 hk7; clear ho7 hb7 hm7 hk7)
          go_roundw
          case rel => exact ⟨j + 1, _, by omega, by go_num, by rw [HTk.out]; exact HM7⟩
          case measure => simp [intOf]; omega
     · obtain rfl : j = N := by omega
       have hgs : gs.take j = gs := by rw [← HN.out, List.take_length]
       rw [hgs] at HI
       clear hgs hj hlt HSx HSy
       obtain ⟨Av, cv, hv⟩ := HI.out.own.form
       rw [List.length_map, HN.out] at hv
       subst hv
       have HC2 := Lib.hid (HC.out _ _ HI.out.own.rd)
       obtain ⟨p0, p1, p2, pf, plt⟩ := blk3 HI.out.blk
       go_wp2_with fail
       refine HC2.out.mono ?_
       rintro e w7 ⟨rfl, hb7⟩
       obtain ⟨p0, p1, p2, pf, plt⟩ := blk3 (HI.out.blk.below hb7)
       have hb6 : Below w6.heap.size w6 w7 := HI.out.bel.trans (hb7.mono HI.out.bel.size)
       obtain ⟨z0, z1, z2, fz, hlt2⟩ := blk3 (HZ6.out.below hb6)
       have hww : w.heap.size < w6.heap.size := HZ6.out.lt
       have HFin : Hid (OwnP w.heap.size (((w7.setCell ⟨w.heap.size, 0, none⟩ (.string on)).setCell ⟨w.heap.size, 1, none⟩ (.string nn)).setCell ⟨w.heap.size, 2, none⟩ (.slice Av j cv)) (.slice Av j cv) (gs.map (mkPH xs ys l)) ∧ Below w.heap.size w (((w7.setCell ⟨w.heap.size, 0, none⟩ (.string on)).setCell ⟨w.heap.size, 1, none⟩ (.string nn)).setCell ⟨w.heap.size, 2, none⟩ (.slice Av j cv))) := Lib.hid (by
        have hb : Below w.heap.size w w7 := HB6.out.trans (hb6.mono (by omega))
        refine ⟨((((HI.out.own.below hb7).box (o := 0) (u := .string on) (show w.heap.size < w6.heap.size + 1 by omega)).box (o := 1) (u := .string nn) (show w.heap.size < w6.heap.size + 1 by omega)).box (o := 2) (u := .slice Av j cv) (show w.heap.size < w6.heap.size + 1 by omega)).base (by omega), ?_⟩
        exact ((hb.setCell (p := ⟨w.heap.size, 0, none⟩) (Nat.le_refl _) _).setCell (p := ⟨w.heap.size, 1, none⟩) (Nat.le_refl _) _).setCell (p := ⟨w.heap.size, 2, none⟩) (Nat.le_refl _) _)
       clear hb7 hb6 HI HC HC2 HZ6 HB6
       go_wp2_with fail
       exact bodyPost_ret (v := .tuple #[.agg #[.string on, .string nn, .slice Av j cv], .int .i64 0]) (by simp [results, Tryz.f31, go_sem, z0, z1, z2]) rfl (HE.out _ _ HFin.out.1 HFin.out.2)
theorem MakeR_any (on nn s t : ByteArray) (ctx : Int) (down : Bool) (hs : s.size ≤ 1000) (ht : t.size ≤ 1000) (w : World) : Calls Tryz.prog 31 #[.string on, .string nn, .string s, .string t, .int .i64 ctx, .bool down] w (PtPost (mkP on nn s t ctx down) (mkC on nn ctx) w) := by
 by_cases h : nameB on = true ∧ nameB nn = true
 · exact MakeR_good on nn s t ctx down hs ht w h
 · exact MakeR_bad on nn s t ctx down w h
end Uf
end Go.Proofs.YtjecfmbecgpbmaaGreatDoor
