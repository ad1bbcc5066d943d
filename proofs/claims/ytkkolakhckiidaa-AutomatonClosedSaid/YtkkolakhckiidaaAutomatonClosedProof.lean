/-
  Proved: the law AutomatonClosed of layer 5 returns true for every input, and its arguments read as before. No conditions.
-/
import Derived.Test.YtkkolakhckiidaaAutoMd
import Derived.Test.YtkkolakhckiidaaAutoQ
import Derived.Test.YtkkolakhckiidaaAutoAwM
import Derived.Deep.Cut
import Derived.BigQuiet
import Derived.Deep.QuietTactic
import Derived.Deep.RegionLaw
import Derived.Deep.RegionHeld3
namespace Go.Proofs.Ytkkolakhckiidaa
open Go.ChangeShapes Go.WideShapes Go.ChangeAt Go.RowKit
open Go.ChangeMaps (open_string shut_string)
namespace Px.AutomatonClosed
open Cm Rx Au
theorem below_trD {w w1 w2 : World} (h : Below w.heap.size w w1) (hb : Below w1.heap.size w1 w2) : Below w.heap.size w w2 := h.trans (hb.mono h.size)
theorem quiet_moreD {P : Program} {f : Nat} {args : Array Value} {w : World} {k : Nat} {v : Value} (h : Calls P f args (w.drewN k) fun e w' => e = .returned v ∧ ∃ m, w' = (w.drewN k).drewN m) : Calls P f args (w.drewN k) fun e w' => e = .returned v ∧ ∃ m, w' = w.drewN m :=
  h.mono fun e w' ⟨h1, m, h2⟩ => ⟨h1, k + m, by rw [h2, World.drewN_drewN]⟩
theorem quiet_moreE {P : Program} {f : Nat} {args : Array Value} {w : World} {k x : Nat} {v : Value} (h : Calls P f args (w.drewN (k + x)) fun e w' => e = .returned v ∧ ∃ m, w' = (w.drewN (k + x)).drewN m) : Calls P f args (w.drewN (k + x)) fun e w' => e = .returned v ∧ ∃ m, w' = (w.drewN k).drewN m :=
  h.mono fun e w' ⟨h1, m, h2⟩ => ⟨h1, x + m, by rw [h2, World.drewN_drewN, World.drewN_drewN, Nat.add_assoc]⟩
/-- The law's automaton while it goes on. -/
structure CdI (w wx : World) (Q g k cS : Nat) (sM : List St) (sT : Int) : Prop where
  b : Below w.heap.size w wx
  y : wx.heap[Q]? = some (.cells #[.slice (some ⟨g, 0, none⟩) k cS, .int .i64 sT] tAuM (0, 0))
  r : RdA wx (.slice (some ⟨g, 0, none⟩) k cS) sM
theorem CdI.below {w wx wy : World} {Q g k cS : Nat} {sM : List St} {sT : Int} (h : CdI w wx Q g k cS sM sT) (hb : Below wx.heap.size wx wy) : CdI w wy Q g k cS sM sT :=
  ⟨below_trD h.b hb, (hb.block _ (lt_some h.y)).trans h.y, h.r.below hb⟩
set_option maxRecDepth 100000 in
set_option maxHeartbeats 1000000 in
/-- A number that is in a list is found. -/
theorem has_true (v : Value) (l : List Int) (x : Int) (w : World) (h : RdV w v (intsV l)) (hx : x ∈ l) (hl : l.length ≤ 1000000) :
    Calls Try.prog 33 #[v, .int .i64 x] w fun e w' => e = .returned (.bool true) ∧ ∃ m, w' = w.drewN m := by
  obtain ⟨A, c, rfl, _, hc⟩ := h
  obtain ⟨j0, hj0, ej0⟩ := List.mem_iff_getElem.1 hx
  have HC := Lib.hid hc
  have HEx := Lib.hid (show ∃ j, ∃ h : j < l.length, l[j] = x from ⟨j0, hj0, ej0⟩)
  have hp : 0 < l.length := by omega
  rw [intsV_len]
  clear hc hx hj0 ej0
  obtain ⟨b, off, rfl, hcell⟩ := HC.out (by rw [intsV_len]; exact hp)
  have HCell : Hid (∀ j (h : j < l.length), w.cell? ⟨b, off + j, none⟩ = some (.int .i64 l[j])) := Lib.hid (fun j h => by
    rw [hcell j (by rw [intsV_len]; exact h)]; simp [intsV])
  clear hcell HC
  generalize hn : l.length = n at hl ⊢
  have HN := Lib.hid hn
  clear hn hp
  go_enter Try.func33, Try.ntmps33
  go_wp2_with fail
  go_loopw [5] (fun i wr => ∃ q : Nat, q ≤ n ∧ i = .int .i64 (q : Int) ∧ Hid (∀ j (h : j < l.length), j < q → l[j] ≠ x) ∧ ∃ m, wr = w.drewN m) (fun i _ => n - (intOf i).toNat)
  case atStart => exact ⟨0, Nat.zero_le _, by go_num, Lib.hid (fun j _ h => absurd h (Nat.not_lt_zero _)), 0, rfl⟩
  case round =>
    obtain ⟨q, hq, rfl, HNo, mm, rfl⟩ := hrel
    by_cases hlt : q < n
    · have hx : q < l.length := by rw [HN.out]; exact hlt
      have c0 := HCell.out q hx
      have i0 : (0 : Int) ≤ (q : Int) := by omega
      have i1 : (q : Int) < (n : Int) := by omega
      have HNo2 : Hid (l[q] ≠ x → ∀ j (h : j < l.length), j < q + 1 → l[j] ≠ x) := Lib.hid (fun hne j hj hjq => by
        by_cases e : j = q
        · subst e; exact hne
        · exact HNo.out j hj (by omega))
      generalize l[q] = y at c0 HNo2
      have c1 : (w.drewN mm).cell? ⟨b, off + q, none⟩ = some (.int .i64 y) := ((below_drewN (Below.refl _ w) mm).cell (p := ⟨b, off + q, none⟩) (Tx.cell_lt c0)).trans c0
      by_cases hyx : y = x
      · have e1 : (y == x) = true := by rw [hyx]; exact beq_self_eq_true _
        clear hyx
        go_wp2_with fail
        go_ret
        exact ⟨rfl, mm, rfl⟩
      · have e1 : (y == x) = false := by rw [beq_eq_false_iff_ne]; exact hyx
        have HNo3 := Lib.hid (HNo2.out hyx)
        clear hyx
        go_wp2_with fail
        go_roundw
        case rel => exact ⟨q + 1, by omega, by go_num, HNo3, mm, rfl⟩
        case measure => simp [intOf]; omega
    · exfalso
      obtain ⟨j, hj, ej⟩ := HEx.out
      exact HNo.out j hj (by rw [HN.out] at hj; omega) ej
set_option maxRecDepth 100000 in
set_option maxHeartbeats 1000000 in
theorem walk_long (vr vf : Value) (fr : List Int) (n more : Int) (st en : Bool) (w : World) (hvf : RdV w vf (intsV fr)) (hs : (8 : Int) < (fr.length : Int)) :
    Calls Try.prog 9 #[vr, .int .i64 n, vf, .int .i64 more, .bool st, .bool en] w fun e w' => e = .returned (.bool true) ∧ Below w.heap.size w w' := by
  obtain ⟨A, c, hfe⟩ := hvf.form
  rw [intsV_len] at hfe
  subst hfe
  clear hvf
  go_enter Try.func9, Try.ntmps9
  go_wp2_with (go_at_call 17; refine (awake5_any _).mono ?_; rintro e w9 ⟨rfl, B9⟩; have HB9 := Lib.hid (below_trD (Below.refl _ _) B9); clear B9)
  go_ret
  exact ⟨rfl, HB9.out⟩
set_option maxRecDepth 100000 in
set_option maxHeartbeats 1000000 in
theorem walk_short (vr vf : Value) (lr fr : List Int) (n more : Int) (st en : Bool) (w : World) (hvf : RdV w vf (intsV fr)) (hs : fr.length ≤ 8) (hft : ∀ z ∈ fr, -9223372036854775808 ≤ z ∧ z ≤ 9223372036854775807) (hr : RdV w vr (intsV lr)) (hrl : lr.length ≤ maxLen) (bn : -9223372036854775808 ≤ n ∧ n ≤ 9223372036854775807) (bm : -9223372036854775808 ≤ more ∧ more ≤ 9223372036854775807) :
    Calls Try.prog 9 #[vr, .int .i64 n, vf, .int .i64 more, .bool st, .bool en] w fun e w' => e = .returned (.bool true) ∧ Below w.heap.size w w' := by
  have HMade := Lib.hid (made_any vr lr n w hr hrl bn)
  have HVa := Lib.hid (made_valid lr n)
  have HSm := Lib.hid (madeS_len lr n)
  have hmn := madeN_bd n
  have HFt := Lib.hid hft
  have HF := Lib.hid hvf
  have bm1 := bm.1
  have bm2 := bm.2
  generalize madeS lr n = sM at *
  generalize madeT lr n = sT at *
  generalize madeN n = mN at *
  obtain ⟨Af, cf, hfe⟩ := hvf.form
  rw [intsV_len] at hfe
  subst hfe
  clear hr hrl bn bm hft hvf
  generalize hnf : fr.length = nf at hs ⊢
  have HNf := Lib.hid hnf
  clear hnf
  have t8 : decide ((8 : Int) < (nf : Int)) = false := by simp only [decide_eq_false_iff_not]; omega
  go_enter Try.func9, Try.ntmps9
  go_wp2_with fail
  refine HMade.out.mono ?_
  rintro e w2 ⟨vS, rfl, ho, hb2⟩
  have hk0 : 0 < sM.length := by rw [HSm.out]; omega
  have HI3 : Hid (∃ g cS, vS = .slice (some ⟨g, 0, none⟩) sM.length cS ∧ CdI w (w2.alloc (.cells #[vS, .int .i64 sT] tAuM)) w2.heap.size g sM.length cS sM sT) := Lib.hid (by
    have hrd := RdA.of_own ho
    rcases ho.2 with ⟨e, h0⟩ | ⟨g, cap, cur, e, hg, hh, _⟩
    · omega
    · subst e
      exact ⟨g, cap, rfl, hb2.alloc hb2.size _, heap_new w2 _, hrd.below ((Below.refl _ _).alloc (Nat.le_refl _) _)⟩)
  obtain ⟨g, cS, rfl, hI3⟩ := HI3.out
  have HI := Lib.hid hI3
  clear HI3 hI3 HMade ho hb2
  go_upto_region 4 with fail
  generalize w2.alloc (.cells #[.slice (some ⟨g, 0, none⟩) sM.length cS, .int .i64 sT] tAuM) = w3 at HI ⊢
  generalize w2.heap.size = Q at HI ⊢
  have hkb : sM.length ≤ 7 := by rw [HSm.out]; omega
  obtain ⟨k, hk⟩ : ∃ k, k = sM.length := ⟨_, rfl⟩
  have HK := Lib.hid hk.symm
  rw [← hk] at HI hk0 hkb ⊢
  clear hk
  go_wp2_with fail
  go_loopw [14, 15] (fun v i wr => ∃ q : Nat, q ≤ nf ∧ i = .int .i64 (q : Int) ∧ Hid (wr.ownsRow w3.heap.size tInt 1 v q (intsV ((fr.take q).map fun x => Tx.modF x (k : Int)))) ∧ Hid (Below w3.heap.size w3 wr)) (fun _ i _ => nf - (intOf i).toNat)
  case atStart => exact ⟨0, Nat.zero_le _, by go_num, Lib.hid (World.ownsRow_nil _ _ _ _), Lib.hid (Below.refl _ _)⟩
  case round =>
    obtain ⟨q, hq, rfl, HO, HBw⟩ := hrel
    have HIr := Lib.hid (HI.out.below HBw.out)
    by_cases hlt : q < nf
    · have hx : q < fr.length := by rw [HNf.out]; exact hlt
      have HTk : Hid (intsV ((fr.take (q + 1)).map fun x => Tx.modF x (k : Int)) = intsV ((fr.take q).map fun x => Tx.modF x (k : Int)) ++ [.int .i64 (Tx.modF fr[q] (k : Int))]) := Lib.hid (by
        rw [List.take_succ_eq_append_getElem hx, List.map_append, show ∀ a b : List Int, intsV (a ++ b) = intsV a ++ intsV b from fun a b => List.map_append]; rfl)
      obtain ⟨_, bu, ou, rfl, hcu⟩ := HF.out.at (by rw [intsV_len]; omega)
      have hc0 := hcu q (by rw [intsV_len]; exact hx)
      have hcv : (intsV fr)[q]'(by rw [intsV_len]; exact hx) = .int .i64 fr[q] := by simp [intsV]
      rw [hcv] at hc0
      have u0 : wr.cell? ⟨bu, ou + q, none⟩ = some (.int .i64 fr[q]) := (HIr.out.b.cell (p := ⟨bu, ou + q, none⟩) (Tx.cell_lt hc0)).trans hc0
      have hz := HFt.out _ (List.getElem_mem hx)
      generalize fr[q] = uq at u0 hz HTk
      have HMd := Lib.hid (fun W => Tx.Mod_any uq (k : Int) W (by omega) (by omega) hz.1 hz.2)
      generalize Tx.modF uq (k : Int) = mq at HMd HTk
      have y0 : wr.cell? ⟨Q, 0, none⟩ = some (.slice (some ⟨g, 0, none⟩) k cS) := by simp [World.cell?, HIr.out.y]
      obtain ⟨Av, cv, rfl⟩ := own_form HO.out
      have i0 : (0 : Int) ≤ (q : Int) := by omega
      have i1 : (q : Int) < (nf : Int) := by omega
      have hbase : w3.heap.size ≤ wr.heap.size := HBw.out.size
      have HOd : Hid (wr.drew.ownsRow w3.heap.size tInt 1 (.slice Av q cv) q (intsV ((fr.take q).map fun x => Tx.modF x (k : Int)))) := Lib.hid (own_same HO.out (fun j hj => rfl))
      generalize intsV ((fr.take q).map fun x => Tx.modF x (k : Int)) = xs at HTk HOd
      clear hcu hc0 hcv hz HO
      go_upto_region 8 with fail
      go_region_law (first | (refine wp_keep (.tmp 37) (.tmp 46) rfl w3.heap.size q xs mq (.slice Av q cv) _ rfl HOd.out rfl rfl (by omega) hbase ?_; intro v4 w4 ho4 hb4 _ _; have HO4 := Lib.hid ho4; have HB4 := Lib.hid (HBw.out.drew.trans hb4); obtain ⟨A4, c4, hv4⟩ := own_form ho4; subst hv4; clear ho4 hb4) | (go_simp; go_at_call 19; refine (HMd.out _).mono ?_; rintro e w7 ⟨rfl, rfl⟩))
      all_goals
        go_wp2_with fail
        go_roundw
        case rel => exact ⟨q + 1, by omega, by go_num, by rw [HTk.out]; exact HO4, HB4⟩
        case measure => simp [intOf]; omega
    · obtain rfl : q = nf := by omega
      have hd : decide ((q : Int) < (q : Int)) = false := by simp only [decide_eq_false_iff_not]; omega
      have HTa : Hid (fr.take q = fr) := Lib.hid (List.take_of_length_le (by rw [HNf.out]; omega))
      rw [HTa.out] at HO
      have HUl : Hid ((fr.map fun x => Tx.modF x (k : Int)).length = q) := Lib.hid (by rw [List.length_map, HNf.out])
      have HUb : Hid (∀ u ∈ (fr.map fun x => Tx.modF x (k : Int)), 0 ≤ u ∧ u < (sM.length : Int)) := Lib.hid (fun u hu => by
        obtain ⟨x, _, rfl⟩ := List.mem_map.1 hu
        rw [HK.out]
        exact ⟨Tx.modF_lo _ _ (by omega), Tx.modF_hi _ _ (by omega)⟩)
      generalize (fr.map fun x => Tx.modF x (k : Int)) = us at HO HUl HUb
      have HC1 := Lib.hid (Closure_any (w := wr) sM sT (some ⟨g, 0, none⟩) cS _ us st en (by rw [HK.out]; exact HIr.out.r) HVa.out (RdV.of_own HO.out) (by rw [HUl.out]; omega))
      have HU0 := Lib.hid (codeC_T HUb.out)
      have y0 : wr.cell? ⟨Q, 0, none⟩ = some (.slice (some ⟨g, 0, none⟩) k cS) := by simp [World.cell?, HIr.out.y]
      have y1 : wr.cell? ⟨Q, 1, none⟩ = some (.int .i64 sT) := by simp [World.cell?, HIr.out.y]
      rw [HK.out] at HC1
      clear HTa
      go_wp2_with fail
      refine HC1.out.mono ?_
      rintro x1 w4 ⟨v1, rfl, hb4, _, ho4⟩
      rw [HU0.out]
      have HO4 := Lib.hid (ho4 HU0.out)
      have HI4 := Lib.hid (HIr.out.below hb4)
      have HOl0 := HO
      have HSz4 := Lib.hid hb4.size
      have HOl4 := Lib.hid (own_same HO.out (fun j hj => hb4.block j hj))
      have HB4 := Lib.hid (HBw.out.trans (hb4.mono HBw.out.size))
      clear ho4 hb4 y0 y1 HO
      obtain ⟨Av, cv, hvl⟩ := own_form HOl0.out
      subst hvl
      have HXb : Hid (∀ u ∈ (closureL sM st en fun k => (k : Int) ∈ us), 0 ≤ u ∧ u < (sM.length : Int)) := Lib.hid (fun u hu => closure_bd hu)
      have HXl : Hid ((closureL sM st en fun k => (k : Int) ∈ us).length ≤ sM.length) := Lib.hid (closure_len _ _ _ _)
      have HXi : Hid ((closureL sM st en fun k => (k : Int) ∈ closureL sM st en fun k => (k : Int) ∈ us) = closureL sM st en fun k => (k : Int) ∈ us) := Lib.hid (closure_idem _ _ _ _)
      have HXh : Hid (∀ u ∈ us, u ∈ closureL sM st en fun k => (k : Int) ∈ us) := Lib.hid (fun u hu => closure_has hu (HUb.out u hu))
      have HXp : Hid ((closureL sM st en fun k => (k : Int) ∈ us).Pairwise (· < ·)) := Lib.hid (closure_lt _ _ _ _)
      have HXg : Hid (∀ m x, x ∈ (closureL sM st en fun k => (k : Int) ∈ us) → x ∈ closureL sM true true fun k => (k : Int) ∈ us ++ [m]) := Lib.hid (fun m x h => closure_grows h)
      generalize (closureL sM st en fun k => (k : Int) ∈ us) = XL at *
      have HC2 := Lib.hid (Closure_any (w := w4) sM sT (some ⟨g, 0, none⟩) cS v1 XL st en (by rw [HK.out]; exact HI4.out.r) HVa.out (RdV.of_own HO4.out) (by have := HXl.out; have := HK.out; omega))
      have HU2 := Lib.hid (codeC_T HXb.out)
      have y0 : w4.cell? ⟨Q, 0, none⟩ = some (.slice (some ⟨g, 0, none⟩) k cS) := by simp [World.cell?, HI4.out.y]
      have y1 : w4.cell? ⟨Q, 1, none⟩ = some (.int .i64 sT) := by simp [World.cell?, HI4.out.y]
      rw [HK.out] at HC2
      obtain ⟨A1, c1, hv1⟩ := own_form HO4.out
      subst hv1
      go_wp2_with fail
      refine HC2.out.mono ?_
      rintro x2 w5 ⟨v2, rfl, hb5, _, ho5⟩
      rw [HU2.out]
      have ho5b := ho5 HU2.out
      rw [HXi.out] at ho5b
      have HO5 := Lib.hid ho5b
      have HI5 := Lib.hid (HI4.out.below hb5)
      have HOl5 := Lib.hid (own_same HOl4.out (fun j hj => hb5.block j hj))
      have HOx5 := Lib.hid (own_same HO4.out (fun j hj => hb5.block j hj))
      have HB5 := Lib.hid (HB4.out.trans (hb5.mono HB4.out.size))
      have HLl : Hid (∀ kk, (Value.slice Av q cv).ownBlock = some kk → kk < wr.heap.size) := Lib.hid (fun kk e => (HOl0.out.lt kk e).2)
      have HLx : Hid (∀ kk, (Value.slice A1 XL.length c1).ownBlock = some kk → wr.heap.size ≤ kk) := Lib.hid (fun kk e => (HO4.out.lt kk e).1)
      have hs4 : wr.heap.size ≤ w4.heap.size := HSz4.out
      have HLy : Hid (∀ kk, v2.ownBlock = some kk → wr.heap.size ≤ kk) := Lib.hid (fun kk e => Nat.le_trans hs4 (HO5.out.lt kk e).1)
      obtain ⟨A2, c2, hv2⟩ := own_form HO5.out
      subst hv2
      clear ho5 hb5 y0 y1 ho5b HC2 HC1
      have hm0 := Tx.modF_lo more (k : Int) (by omega)
      have hm1 := Tx.modF_hi more (k : Int) (by omega)
      have HMm := Lib.hid (fun W => Tx.Mod_any more (k : Int) W (by omega) (by omega) bm1 bm2)
      generalize Tx.modF more (k : Int) = mm at hm0 hm1 HMm
      have HU3 : Hid (codeC sM.length (us ++ [mm]) = 0) := Lib.hid (codeC_T (fun u hu => by
        rcases List.mem_append.1 hu with h | h
        · exact HUb.out u h
        · rw [List.mem_singleton] at h; subst h; rw [HK.out]; exact ⟨hm0, hm1⟩))
      have HGz := Lib.hid (fun x h => HXg.out mm x h)
      have HCl3 : Hid (∀ (W : World) (v6 : Value), CdI w W Q g k cS sM sT → W.ownsRow w3.heap.size tInt 1 v6 (q + 1) (intsV us ++ [.int .i64 mm]) → Calls Try.prog 29 #[.agg #[.slice (some ⟨g, 0, none⟩) k cS, .int .i64 sT], v6, .bool true, .bool true] W (ClosPost W sM true true (us ++ [mm]))) := Lib.hid (fun W v6 h1 h2 => by
        have h3 : W.ownsRow w3.heap.size tInt 1 v6 (us ++ [mm]).length (intsV (us ++ [mm])) := by
          rw [List.length_append, List.length_singleton, HUl.out, show intsV (us ++ [mm]) = intsV us ++ [.int .i64 mm] from by simp [intsV]]
          exact h2
        have h4 := Closure_any (w := W) sM sT (some ⟨g, 0, none⟩) cS v6 (us ++ [mm]) true true (by rw [HK.out]; exact h1.r) HVa.out (RdV.of_own h3) (by rw [List.length_append, List.length_singleton, HUl.out]; omega)
        rw [HK.out] at h4
        exact h4)
      have HZl : Hid ((closureL sM true true fun k => (k : Int) ∈ us ++ [mm]).length ≤ sM.length) := Lib.hid (closure_len _ _ _ _)
      have hbase : w3.heap.size ≤ w5.heap.size := HB5.out.size
      have HOl5d : Hid (w5.drew.ownsRow w3.heap.size tInt 1 (.slice Av q cv) q (intsV us)) := Lib.hid (own_same HOl5.out (fun j hj => rfl))
      have y0 : w5.cell? ⟨Q, 0, none⟩ = some (.slice (some ⟨g, 0, none⟩) k cS) := by simp [World.cell?, HI5.out.y]
      have y1 : w5.cell? ⟨Q, 1, none⟩ = some (.int .i64 sT) := by simp [World.cell?, HI5.out.y]
      go_upto_region 11 with fail
      go_cut [20, 21] from 64 (fun vz ez wx => ez = .int .i64 0 ∧ Hid (Below w.heap.size w wx) ∧ Hid (RdV wx (.slice Av q cv) (intsV us)) ∧ Hid (RdV wx (.slice A1 XL.length c1) (intsV XL)) ∧ Hid (RdV wx (.slice A2 XL.length c2) (intsV XL)) ∧ ∃ ZL : List Int, Hid (RdV wx vz (intsV ZL)) ∧ Hid (∀ x, x ∈ XL → x ∈ ZL) ∧ Hid (ZL.length ≤ sM.length))
      case first =>
        have ya : (w5.alloc (.cells #[.int .i64 mm] tInt)).drew.cell? ⟨Q, 0, none⟩ = some (.slice (some ⟨g, 0, none⟩) k cS) := (World.cell?_of_block (a := ⟨Q, 0, none⟩) (Below.heap_alloc w5 _ Q (lt_some HI5.out.y))).trans y0
        have yb : (w5.alloc (.cells #[.int .i64 mm] tInt)).drew.cell? ⟨Q, 1, none⟩ = some (.int .i64 sT) := (World.cell?_of_block (a := ⟨Q, 1, none⟩) (Below.heap_alloc w5 _ Q (lt_some HI5.out.y))).trans y1
        go_region_law (first | (refine wp_keep (.tmp 66) (.tmp 72) rfl w3.heap.size q (intsV us) mm (.slice Av q cv) _ rfl HOl5d.out rfl rfl (by omega) hbase ?_; intro v6 w6 ho6 hb6 hk6 hg6; have HB6 := Lib.hid (HB5.out.drew.trans hb6); have HI6 := Lib.hid (HI.out.below HB6.out); have HC6 := Lib.hid (HCl3.out w6 v6 HI6.out ho6); have yc : w6.cell? ⟨Q, 0, none⟩ = some (.slice (some ⟨g, 0, none⟩) k cS) := (by simp [World.cell?, HI6.out.y]); have yd : w6.cell? ⟨Q, 1, none⟩ = some (.int .i64 sT) := (by simp [World.cell?, HI6.out.y]); have HL6 := Lib.hid hk6; have HX6 := Lib.hid (RdV.of_own (own_grown (own_same HOx5.out (fun j hj => Below.heap_alloc w5.drew _ j hj)) hg6 (fun kk e e2 => by have := HLx.out kk e; have := HLl.out kk e2; omega))); have HY6 := Lib.hid (RdV.of_own (own_grown (own_same HO5.out (fun j hj => Below.heap_alloc w5.drew _ j hj)) hg6 (fun kk e e2 => by have := HLy.out kk e; have := HLl.out kk e2; omega))); obtain ⟨A6, c6, hv6⟩ := own_form ho6; subst hv6; clear ho6 hb6 hk6 hg6) | (go_simp; go_at_call 19; refine (HMm.out _).mono ?_; rintro e w7 ⟨rfl, rfl⟩) | (go_simp; go_at_call 29; refine HC6.out.mono ?_; rintro x7 w7 ⟨vz, rfl, hb7, _, ho7⟩; rw [HU3.out]; have HZ7 := Lib.hid (RdV.of_own (ho7 HU3.out)); have HB7 := Lib.hid hb7; clear hb7 ho7))
        all_goals
          go_wp2_with fail
          go_meet
          case rel => exact ⟨rfl, Lib.hid (HI6.out.below HB7.out).b, Lib.hid (HL6.out.below HB7.out), Lib.hid (HX6.out.below HB7.out), Lib.hid (HY6.out.below HB7.out), _, HZ7, HGz, HZl⟩
      case rest =>
        obtain ⟨rfl, HBc, HLc, HXc, HYc, ZL, HZc, HGc, HZlc⟩ := hcut
        clear HOl5d HOl5 HOx5 HO5 HO4 HOl4 HOl0 HB5 HB4 HI5 HI4 HIr HBw hbase y0 y1 HCl3 HLl HLx HLy HMm hs4 HSz4 HGz HZl HXg HXi HU3
        have HInt := Lib.hid (Ints_same (.slice A1 XL.length c1) (.slice A2 XL.length c2) XL wc (by have := HXl.out; have := HK.out; omega) HXc.out HYc.out)
        have HHasX := Lib.hid (fun (x : Int) (hx : x ∈ XL) (W : World) (hb : Below wc.heap.size wc W) => has_true (.slice A1 XL.length c1) XL x W (HXc.out.below hb) hx (by have := HXl.out; have := HK.out; omega))
        obtain ⟨Az, cz, hvz⟩ := HZc.out.form
        rw [intsV_len] at hvz
        subst hvz
        have HHasZ := Lib.hid (fun (x : Int) (hx : x ∈ XL) (W : World) (hb : Below wc.heap.size wc W) => has_true (.slice Az ZL.length cz) ZL x W (HZc.out.below hb) (HGc.out x hx) (by have := HZlc.out; have := HK.out; omega))
        go_wp2_with (go_at_call 31; refine HInt.out.mono ?_; rintro x8 w8 ⟨rfl, m8, rfl⟩)
        have HB8 : Hid (Below wc.heap.size wc (wc.drewN m8)) := Lib.hid (below_drewN (Below.refl _ _) m8)
        generalize wc.drewN m8 = w8 at HB8 ⊢
        go_loopw [22] (fun i wr => ∃ q2 : Nat, q2 ≤ q ∧ i = .int .i64 (q2 : Int) ∧ Hid (Below wc.heap.size wc wr)) (fun i _ => q - (intOf i).toNat)
        case atStart => exact ⟨0, Nat.zero_le _, by go_num, HB8⟩
        case round =>
          clear HB8
          obtain ⟨q2, hq2, rfl, HB8⟩ := hrel
          by_cases hlt2 : q2 < q
          · have hx2 : q2 < us.length := by rw [HUl.out]; exact hlt2
            obtain ⟨hl9, bl, ol, hAv, hcl⟩ := HLc.out.at (by rw [intsV_len]; omega)
            clear hl9
            subst hAv
            have hc0 := hcl q2 (by rw [intsV_len]; exact hx2)
            have hcv : (intsV us)[q2]'(by rw [intsV_len]; exact hx2) = .int .i64 us[q2] := by simp [intsV]
            rw [hcv] at hc0
            have u0 : wr.cell? ⟨bl, ol + q2, none⟩ = some (.int .i64 us[q2]) := (HB8.out.cell (p := ⟨bl, ol + q2, none⟩) (Tx.cell_lt hc0)).trans hc0
            have HHx := Lib.hid (HHasX.out us[q2] (HXh.out _ (List.getElem_mem hx2)) wr HB8.out)
            generalize us[q2] = uq at u0 HHx
            have i0 : (0 : Int) ≤ (q2 : Int) := by omega
            have i1 : (q2 : Int) < (q : Int) := by omega
            clear hcl hc0 hcv
            go_wp2_with (go_at_call 33; refine (HHx.out).mono ?_; rintro xa wa ⟨rfl, ma, rfl⟩)
            have HB9 := Lib.hid (HB8.out.trans (below_drewN (Below.refl wc.heap.size wr) ma))
            go_roundw
            case rel => exact ⟨q2 + 1, by omega, by go_num, HB9⟩
            case measure => simp [intOf]; omega
          · obtain rfl : q2 = q := by omega
            have hd2 : decide ((q2 : Int) < (q2 : Int)) = false := by simp only [decide_eq_false_iff_not]; omega
            go_wp2_with fail
            go_loopw [23] (fun i wr => ∃ q3 : Nat, q3 ≤ XL.length ∧ i = .int .i64 (q3 : Int) ∧ Hid (Below wc.heap.size wc wr)) (fun i _ => XL.length - (intOf i).toNat)
            case atStart => exact ⟨0, Nat.zero_le _, by go_num, HB8⟩
            case round =>
              clear HB8 hlt2 hd2
              obtain ⟨q3, hq3, rfl, HB8⟩ := hrel
              by_cases hlt3 : q3 < XL.length
              · obtain ⟨hl9, bx, ox, hA1, hcx⟩ := HXc.out.at (by rw [intsV_len]; omega)
                clear hl9
                subst hA1
                have HCx : Hid (∀ j (h : j < XL.length), wr.cell? ⟨bx, ox + j, none⟩ = some (.int .i64 XL[j])) := Lib.hid (fun j hj => by
                  have hc0 := hcx j (by rw [intsV_len]; exact hj)
                  have hcv : (intsV XL)[j]'(by rw [intsV_len]; exact hj) = .int .i64 XL[j] := by simp [intsV]
                  rw [hcv] at hc0
                  exact (HB8.out.cell (p := ⟨bx, ox + j, none⟩) (Tx.cell_lt hc0)).trans hc0)
                clear hcx
                have HHz := Lib.hid (fun m => HHasZ.out XL[q3] (List.getElem_mem hlt3) (wr.drewN m) (below_drewN HB8.out m))
                have u0 := HCx.out q3 hlt3
                have i0 : (0 : Int) ≤ (q3 : Int) := by omega
                have i1 : (q3 : Int) < (XL.length : Int) := by omega
                by_cases hz3 : 0 < q3
                · obtain ⟨p, rfl⟩ : ∃ p, q3 = p + 1 := ⟨q3 - 1, by omega⟩
                  have hp : p < XL.length := by omega
                  have u1 := HCx.out p hp
                  have hlt4 : XL[p] < XL[p + 1] := (List.pairwise_iff_getElem.1 HXp.out) p (p + 1) hp hlt3 (by omega)
                  have hd0 : decide ((0 : Int) < ((p + 1 : Nat) : Int)) = true := by simp only [decide_eq_true_eq]; omega
                  have hd0n : decide (0 < p + 1) = true := by simp only [decide_eq_true_eq]; omega
                  have hxl : XL.length ≤ 7 := by have := HXl.out; have := HK.out; omega
                  have hle : decide (XL[p + 1] ≤ XL[p]) = false := by simp only [decide_eq_false_iff_not]; omega
                  have hw1 : IntKind.i64.wrap (((p + 1 : Nat) : Int) - 1) = (p : Int) := by rw [IntWalk.i64_in _ (by omega)]; omega
                  have j0 : (0 : Int) ≤ (p : Int) := by omega
                  have j1 : (p : Int) < (XL.length : Int) := by omega
                  generalize XL[p + 1] = ya at u0 hle HHz hlt4
                  generalize XL[p] = yb at u1 hle hlt4
                  clear hlt4 hz3
                  generalize hp1 : p + 1 = q3 at *
                  go_upto_region 22 with fail
                  go_quiet ((go_at_call 33; first | exact quiet_moreD (HHz.out _) | exact quiet_moreE (HHz.out _)))
                  go_wp2_with fail
                  go_roundw
                  case rel => exact ⟨q3 + 1, by omega, by go_num, Lib.hid (below_drewN HB8.out _)⟩
                  case measure => simp [intOf]; omega
                · have hxl : XL.length ≤ 7 := by have := HXl.out; have := HK.out; omega
                  have hd0 : decide ((0 : Int) < (q3 : Int)) = false := by simp only [decide_eq_false_iff_not]; omega
                  have hd0n : decide (0 < q3) = false := by simp only [decide_eq_false_iff_not]; omega
                  generalize XL[q3] = ya at u0 HHz
                  have HZ3 := Lib.hid hz3
                  clear hz3
                  go_upto_region 22 with fail
                  go_quiet ((go_at_call 33; first | exact quiet_moreD (HHz.out _) | exact quiet_moreE (HHz.out _)))
                  go_wp2_with fail
                  have hz4 := HZ3.out
                  go_roundw
                  case rel => exact ⟨q3 + 1, by omega, by go_num, Lib.hid (below_drewN HB8.out _)⟩
                  case measure => simp [intOf]; omega
              · obtain rfl : q3 = XL.length := by omega
                have hd3 : decide ((XL.length : Int) < (XL.length : Int)) = false := by simp only [decide_eq_false_iff_not]; omega
                have HBZ := Lib.hid (HBc.out.trans (HB8.out.mono HBc.out.size))
                go_wp2_with (go_at_call 17; refine (awake5_any _).mono ?_; rintro e w9 ⟨rfl, B9⟩; have HB9 := Lib.hid (below_trD HBZ.out B9); clear B9)
                go_ret
                exact ⟨rfl, HB9.out⟩
theorem walk (vr vf : Value) (lr fr : List Int) (n more : Int) (st en : Bool) (w : World) (hvf : RdV w vf (intsV fr)) (hft : ∀ z ∈ fr, -9223372036854775808 ≤ z ∧ z ≤ 9223372036854775807) (hr : RdV w vr (intsV lr)) (hrl : lr.length ≤ maxLen) (bn : -9223372036854775808 ≤ n ∧ n ≤ 9223372036854775807) (bm : -9223372036854775808 ≤ more ∧ more ≤ 9223372036854775807) :
    Calls Try.prog 9 #[vr, .int .i64 n, vf, .int .i64 more, .bool st, .bool en] w fun e w' => e = .returned (.bool true) ∧ Below w.heap.size w w' := by
  by_cases h : fr.length ≤ 8
  · exact walk_short vr vf lr fr n more st en w hvf h hft hr hrl bn bm
  · exact walk_long vr vf fr n more st en w hvf (by omega)
set_option maxRecDepth 100000 in
theorem lifted (os : Os) (started : os.Started) (H : Type) (enc : TypeId × Value → H) :
    ReturnsInHanded {} Try.checked os 9 .any (Rows.automatonClosedSpec.pre6 enc Try.prog Try.f9 Rows.automatonClosedRow.domain false) (Rows.automatonClosedSpec.post enc Try.prog Try.f9 false true false false) := by
  refine returnsInHanded_of_change_shaped (C := Try.checked) own started (by kernel_rfl) Try.func9
    (ChangeSpec.witness6 (enc := enc) (C := Try.checked) false ⟨#[], #[.slice none 0 0, .int .i64 0, .slice none 0 0, .int .i64 0, .bool false, .bool false], []⟩ 8 (by kernel_rfl) (by kernel_rfl) (by kernel_rfl) (by kernel_rfl)) ?_
  intro W base args ds gs before hval0 hW _ _ hsh _
  have hval : ∀ (j : Nat) t v, Try.f9.params[j]? = some t → args[j]? = some v → Value.okWide Try.prog W .any base t v := hval0
  have hW' := hW
  obtain ⟨p, q, hA0, hV, rfl, hfz, hnd⟩ := hW
  have hA : DataW.TrodAll enc Try.prog W 0 (fun _ => true) true Try.f9.params.toList args.toList ds p := hA0
  rw [Try.params9] at hA hval
  obtain ⟨v0, v1, v2, v3, v4, v5, d0, d1, d2, d3, d4, d5, p0, p1, p2, p3, p4, p5, rfl, rfl, rfl, h0, h1, h2, h3, h4, h5⟩ := trodAll_six hA
  obtain ⟨rfl, rfl⟩ := trodVars_none hV
  obtain ⟨A0, n0, c0, rfl⟩ := okWide_slice Try.underlying30 (hval 0 30 v0 rfl rfl)
  have k0 := h0
  have lt0 : ∀ x ∈ p0, x.block < W.heap.size := by obtain ⟨m, hm⟩ := k0; exact DataW.trod_lt m _ _ _ hm
  obtain ⟨raw, r0, s0, t0⟩ : ∃ l : List Int, RdV W (.slice A0 n0 c0) (intsV l) ∧ l.length ≤ maxLen ∧ ∀ z ∈ l, -9223372036854775808 ≤ z ∧ z ≤ 9223372036854775807 := by obtain ⟨fuel, hf⟩ := h0; exact open_intsV hf
  obtain ⟨n, rfl, rfl, rfl, wn⟩ := open_int Try.underlying3 (hval 1 3 v1 rfl rfl) h1
  have bn := bounds_int wn
  obtain ⟨A2, n2, c2, rfl⟩ := okWide_slice Try.underlying30 (hval 2 30 v2 rfl rfl)
  have k2 := h2
  have lt2 : ∀ x ∈ p2, x.block < W.heap.size := by obtain ⟨m, hm⟩ := k2; exact DataW.trod_lt m _ _ _ hm
  obtain ⟨from_, r2, s2, t2⟩ : ∃ l : List Int, RdV W (.slice A2 n2 c2) (intsV l) ∧ l.length ≤ maxLen ∧ ∀ z ∈ l, -9223372036854775808 ≤ z ∧ z ≤ 9223372036854775807 := by obtain ⟨fuel, hf⟩ := h2; exact open_intsV hf
  obtain ⟨more, rfl, rfl, rfl, wmore⟩ := open_int Try.underlying3 (hval 3 3 v3 rfl rfl) h3
  have bmore := bounds_int wmore
  obtain ⟨start, rfl, rfl, rfl⟩ := open_bool Try.underlying4 (hval 4 4 v4 rfl rfl) h4
  obtain ⟨en, rfl, rfl, rfl⟩ := open_bool Try.underlying4 (hval 5 4 v5 rfl rfl) h5
  clear hA0 hval0
  simp only [List.append_nil] at hW'
  refine (walk _ _ raw from_ n more start en W r2 t2 r0 s0 bn bmore).mono fun e W' ⟨he, hbel⟩ => ?_
  subst he
  exact ⟨_, rfl, _, _, _, [], _, [], hW', trodAll_mk1 (shut_bool Try.underlying4 _), trodAll_mk6 (Below.trod laidOut (by kernel_rfl) (of_decide_eq_true (by kernel_rfl)) k0 hbel lt0) (shut_int Try.underlying3 wn) (Below.trod laidOut (by kernel_rfl) (of_decide_eq_true (by kernel_rfl)) k2 hbel lt2) (shut_int Try.underlying3 wmore) (shut_bool Try.underlying4 start) (shut_bool Try.underlying4 en), rfl, hbel.frame _, fun h => by cases h⟩
theorem row_holds : Rows.AutomatonClosedSaid :=
  OpenClaim.holds_of_wide 9 Try.f9 rfl rfl rfl rfl rfl rfl rfl ⟨rfl, rfl, rfl, rfl, rfl⟩ rfl rfl rfl rfl rfl (by kernel_rfl) Try.func9 (by kernel_rfl)
    (of_decide_eq_true (by kernel_rfl)) (by unfold Func.isWrapper; first | (rw [if_pos (by decide +kernel)]; kernel_rfl) | (rw [if_neg (by decide +kernel)]; exact ⟨rfl, rfl⟩))
    (fun os started H enc _ => lifted os started H enc)
end Px.AutomatonClosed
end Go.Proofs.Ytkkolakhckiidaa
