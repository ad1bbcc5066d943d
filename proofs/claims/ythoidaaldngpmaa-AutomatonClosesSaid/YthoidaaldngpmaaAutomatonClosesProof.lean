/-
  Proved: the law AutomatonCloses of layer 5 returns true for every input, and its arguments read as before. No conditions.
-/
import Derived.Test.YthoidaaldngpmaaAutoMd
import Derived.Test.YthoidaaldngpmaaAutoS

import Derived.Test.YthoidaaldngpmaaAutoAwM
import Derived.Deep.Cut
import Derived.BigQuiet
import Derived.Deep.QuietTactic
import Derived.Deep.RegionLaw
import Derived.Deep.RegionHeld3
namespace Go.Proofs.Ythoidaaldngpmaa
open Go.ChangeShapes Go.WideShapes Go.ChangeAt Go.RowKit
open Go.ChangeMaps (open_string shut_string)
namespace Px.AutomatonCloses
open Cm Rx Au
theorem below_trD {w w1 w2 : World} (h : Below w.heap.size w w1) (hb : Below w1.heap.size w1 w2) : Below w.heap.size w w2 := h.trans (hb.mono h.size)
theorem quiet_moreD {P : Program} {f : Nat} {args : Array Value} {w : World} {k : Nat} {v : Value} (h : Calls P f args (w.drewN k) fun e w' => e = .returned v ∧ ∃ m, w' = (w.drewN k).drewN m) : Calls P f args (w.drewN k) fun e w' => e = .returned v ∧ ∃ m, w' = w.drewN m :=
  h.mono fun e w' ⟨h1, m, h2⟩ => ⟨h1, k + m, by rw [h2, World.drewN_drewN]⟩
theorem quiet_moreE {P : Program} {f : Nat} {args : Array Value} {w : World} {k x : Nat} {v : Value} (h : Calls P f args (w.drewN (k + x)) fun e w' => e = .returned v ∧ ∃ m, w' = (w.drewN (k + x)).drewN m) : Calls P f args (w.drewN (k + x)) fun e w' => e = .returned v ∧ ∃ m, w' = (w.drewN k).drewN m :=
  h.mono fun e w' ⟨h1, m, h2⟩ => ⟨h1, x + m, by rw [h2, World.drewN_drewN, World.drewN_drewN, Nat.add_assoc]⟩
theorem sel2 {V w6 : World} {Q : Nat} {u2 u3 : Value} (B : Below V.heap.size V w6) (h : V.cell? ⟨Q, 0, none⟩ = some u2 ∧ V.cell? ⟨Q, 1, none⟩ = some u3) :
    w6.cell? ⟨Q, 0, none⟩ = some u2 ∧ w6.cell? ⟨Q, 1, none⟩ = some u3 := by
  obtain ⟨h2, h3⟩ := h
  have e : ∀ (b i : Nat) (y : Value), V.cell? ⟨b, i, none⟩ = some y → w6.cell? ⟨b, i, none⟩ = some y := fun b i y hy => (B.cell (p := ⟨b, i, none⟩) (Tx.cell_lt hy)).trans hy
  exact ⟨e _ _ _ h2, e _ _ _ h3⟩
theorem ints_oneK (l : List Int) : ∀ u ∈ intsV l, u.oneCell' = true := fun u hu => by
  simp only [intsV, List.mem_map] at hu
  obtain ⟨x, _, rfl⟩ := hu
  rfl
theorem own_setK {w : World} {base n g c : Nat} {t : TypeId} {xs : List Value} (h : w.ownsRow base t 1 (.slice (some ⟨g, 0, none⟩) n c) n xs) (j : Nat) (u : Value) : (w.setCell ⟨g, j, none⟩ u).ownsRow base t 1 (.slice (some ⟨g, 0, none⟩) n c) n (xs.set j u) := by
  refine ⟨by rw [List.length_set]; exact h.1, ?_⟩
  rcases h.2 with ⟨e1, _⟩ | ⟨g', cap, cur, e1, hb, hh, hn, hm, hs, ht⟩
  · cases e1
  · injection e1 with e2 _ e3
    injection e2 with e2
    injection e2 with e2
    subst e2 e3
    refine .inr ⟨g, c, _, rfl, hb, set_block hh, hn, hm, by rw [Array.size_setIfInBounds]; exact hs, ?_⟩
    rw [Array.toList_setIfInBounds, List.take_set, ht]
noncomputable def resL (ss : List St) (s e : Bool) (us : List Int) : List Int := if codeC ss.length us = 0 then closureL ss s e fun k => (k : Int) ∈ us else []
theorem resL_len (ss : List St) (s e : Bool) (us : List Int) : (resL ss s e us).length ≤ ss.length := by
  unfold resL
  by_cases h : codeC ss.length us = 0
  · rw [if_pos h]; exact closure_len _ _ _ _
  · rw [if_neg h]; exact Nat.zero_le _
theorem clos_rd {w w' : World} {ss : List St} {s e : Bool} {us : List Int} {x : Ending} (h : ClosPost w ss s e us x w') : ∃ v, x = .returned (.tuple #[v, .int .i64 (codeC ss.length us)]) ∧ Below w.heap.size w w' ∧ RdV w' v (intsV (resL ss s e us)) := by
  obtain ⟨v, hx, hb, h3, h0⟩ := h
  refine ⟨v, hx, hb, ?_⟩
  unfold resL
  by_cases hc : codeC ss.length us = 0
  · rw [if_pos hc]; exact RdV.of_own (h0 hc)
  · rw [if_neg hc]
    have hc3 : codeC ss.length us = 3 := by
      unfold codeC at hc ⊢
      by_cases hu : ∀ u ∈ us, 0 ≤ u ∧ u < (ss.length : Int)
      · rw [if_pos hu] at hc; exact absurd rfl hc
      · rw [if_neg hu]
    rw [h3 hc3]
    exact RdV.of_own (World.ownsRow_nil w' 0 tInt 1)
/-- The law's automaton while it goes on. -/
structure CdI (w wx : World) (Q g k cS : Nat) (sM : List St) (sT : Int) : Prop where
  b : Below w.heap.size w wx
  y : wx.heap[Q]? = some (.cells #[.slice (some ⟨g, 0, none⟩) k cS, .int .i64 sT] tAuM (0, 0))
  r : RdA wx (.slice (some ⟨g, 0, none⟩) k cS) sM
theorem CdI.below {w wx wy : World} {Q g k cS : Nat} {sM : List St} {sT : Int} (h : CdI w wx Q g k cS sM sT) (hb : Below wx.heap.size wx wy) : CdI w wy Q g k cS sM sT :=
  ⟨below_trD h.b hb, (hb.block _ (lt_some h.y)).trans h.y, h.r.below hb⟩
set_option maxRecDepth 100000 in
set_option maxHeartbeats 1000000 in
theorem walk_long (vr vf : Value) (fr : List Int) (n : Int) (ft st en : Bool) (w : World) (hvf : RdV w vf (intsV fr)) (hs : (8 : Int) < (fr.length : Int)) :
    Calls Try.prog 6 #[vr, .int .i64 n, vf, .bool ft, .bool st, .bool en] w fun e w' => e = .returned (.bool true) ∧ Below w.heap.size w w' := by
  obtain ⟨A, c, hfe⟩ := hvf.form
  rw [intsV_len] at hfe
  subst hfe
  clear hvf
  go_enter Try.func6, Try.ntmps6
  go_wp2_with (go_at_call 20; refine (awake5_any _).mono ?_; rintro e w9 ⟨rfl, B9⟩; have HB9 := Lib.hid (below_trD (Below.refl _ _) B9); clear B9)
  go_ret
  exact ⟨rfl, HB9.out⟩
set_option maxRecDepth 100000 in
set_option maxHeartbeats 1000000 in
theorem walk_short (vr vf : Value) (lr fr : List Int) (n : Int) (ft st en : Bool) (w : World) (hvf : RdV w vf (intsV fr)) (hs : fr.length ≤ 8) (hft : ∀ z ∈ fr, -9223372036854775808 ≤ z ∧ z ≤ 9223372036854775807) (hr : RdV w vr (intsV lr)) (hrl : lr.length ≤ maxLen) (bn : -9223372036854775808 ≤ n ∧ n ≤ 9223372036854775807) :
    Calls Try.prog 6 #[vr, .int .i64 n, vf, .bool ft, .bool st, .bool en] w fun e w' => e = .returned (.bool true) ∧ Below w.heap.size w w' := by
  have HMade := Lib.hid (fun (W : World) (hb : Below w.heap.size w W) => made_any vr lr n W (hr.below hb) hrl bn)
  have HVa := Lib.hid (made_valid lr n)
  have HSm := Lib.hid (madeS_len lr n)
  have hmn := madeN_bd n
  have HFt := Lib.hid hft
  have HF := Lib.hid hvf
  generalize madeS lr n = sM at *
  generalize madeT lr n = sT at *
  generalize madeN n = mN at *
  obtain ⟨Af, cf, hfe⟩ := hvf.form
  rw [intsV_len] at hfe
  subst hfe
  clear hr hrl bn hft
  generalize hnf : fr.length = nf at hs ⊢
  have HNf := Lib.hid hnf
  clear hnf
  have t8 : decide ((8 : Int) < (nf : Int)) = false := by simp only [decide_eq_false_iff_not]; omega
  go_enter Try.func6, Try.ntmps6
  go_wp2_with fail
  refine (HMade.out w (Below.refl _ _)).mono ?_
  rintro e w2 ⟨vS, rfl, ho, hb2⟩
  have hk0 : 0 < sM.length := by rw [HSm.out]; omega
  have HI3 : Hid (∃ g cS, vS = .slice (some ⟨g, 0, none⟩) sM.length cS ∧ CdI w (w2.alloc (.cells #[vS, .int .i64 sT] tAuM)) w2.heap.size g sM.length cS sM sT) := Lib.hid (by
    have hrd := RdA.of_own ho
    rcases ho.2 with ⟨e, h0⟩ | ⟨g, cap, cur, e, hg, hh, _⟩
    · omega
    · subst e
      exact ⟨g, cap, rfl, hb2.alloc hb2.size _, heap_new w2 _, hrd.below ((Below.refl _ _).alloc (Nat.le_refl _) _)⟩)
  obtain ⟨g, cS, rfl, hI3⟩ := HI3.out
  have HI := Lib.hid hI3
  clear HI3 hI3 ho hb2
  go_upto_region 4 with fail
  generalize w2.alloc (.cells #[.slice (some ⟨g, 0, none⟩) sM.length cS, .int .i64 sT] tAuM) = w3 at HI ⊢
  generalize w2.heap.size = Q at HI ⊢
  have hkb : sM.length ≤ 7 := by rw [HSm.out]; omega
  obtain ⟨k, hk⟩ : ∃ k, k = sM.length := ⟨_, rfl⟩
  have HK := Lib.hid hk.symm
  rw [← hk] at HI hk0 hkb ⊢
  clear hk
  have HR3 : Hid (RdV (w3.alloc (.cells #[] tInt)) (.slice Af nf cf) (intsV fr)) := Lib.hid (by
    have h := (HF.out.below HI.out.b).below ((Below.refl _ _).alloc (Nat.le_refl _) (.cells #[] tInt))
    rw [HNf.out] at h; exact h)
  go_upto_region 5 with (at_builtin; refine app_rd rfl Try.underlying30 info_intH rfl (by omega) (.tmp 28) (.tmp 29) rfl w3.heap.size 0 [] (intsV fr) _ _ rfl (own_empty w3 tInt) rfl HR3.out (ints_oneK _) (by rw [intsV_len, HNf.out]; omega) (by simp) ?_; intro v4 w4 ho4 hb4 _; simp only [intsV_len, Nat.zero_add, List.nil_append, HNf.out] at ho4; obtain ⟨A4, c4, hv4⟩ := own_form ho4; subst hv4; have HO4 := Lib.hid ho4; have HB4 : Hid (Below w3.heap.size w3 w4) := Lib.hid (((Below.refl w3.heap.size w3).alloc (Nat.le_refl _) (.cells #[] tInt)).trans hb4); clear ho4 hb4)
  clear HR3
  go_wp2_with fail
  go_loopw [15] (fun i wr => ∃ q : Nat, q ≤ nf ∧ i = .int .i64 (q : Int) ∧ ∃ us : List Int, Hid (us.length = nf) ∧ Hid (∀ z ∈ us, -9223372036854775808 ≤ z ∧ z ≤ 9223372036854775807) ∧ Hid (wr.ownsRow w3.heap.size tInt 1 (.slice A4 nf c4) nf (intsV us)) ∧ Hid (Below w3.heap.size w3 wr)) (fun i _ => nf - (intOf i).toNat)
  case atStart => exact ⟨0, Nat.zero_le _, by go_num, fr, HNf, HFt, HO4, HB4⟩
  case round =>
    clear HO4 HB4
    obtain ⟨q, hq, rfl, us, HUl, HUt, HO, HBw⟩ := hrel
    have HIr := Lib.hid (HI.out.below HBw.out)
    by_cases hlt : q < nf ∧ ft = true
    · have hft : ft = true := hlt.2
      have hlt := hlt.1
      have hx : q < us.length := by rw [HUl.out]; exact hlt
      obtain ⟨g4, c5, cur, e4, hg4, hh4⟩ := own_some HO.out (by omega)
      injection e4 with e4 _ e5
      subst e4 e5
      have HG4 := Lib.hid hg4
      have hbk := (Blk.of_own HO.out (by rw [intsV_len]; exact HUl.out)).1
      have c0 : wr.cell? ⟨g4, q, none⟩ = some (.int .i64 us[q]) := by
        have h := hbk.cell (i := q) (by rw [intsV_len]; exact hx)
        rw [h]; simp [intsV]
      have f0 := hbk.frozen q
      have y0 : wr.cell? ⟨Q, 0, none⟩ = some (.slice (some ⟨g, 0, none⟩) k cS) := by simp [World.cell?, HIr.out.y]
      have hz := HUt.out _ (List.getElem_mem hx)
      generalize us[q] = uq at c0 hz
      have HMd := Lib.hid (Tx.Mod_any uq (k : Int) wr.drew (by omega) (by omega) hz.1 hz.2)
      have hm0 := Tx.modF_lo uq (k : Int) (by omega)
      have hm1 := Tx.modF_hi uq (k : Int) (by omega)
      generalize Tx.modF uq (k : Int) = mq at HMd hm0 hm1
      have HO5 : Hid ((wr.drew.setCell ⟨g4, q, none⟩ (.int .i64 mq)).ownsRow w3.heap.size tInt 1 (.slice (some ⟨g4, 0, none⟩) nf c4) nf (intsV (us.set q mq))) := Lib.hid (by
        have h := own_setK (own_same (W := wr.drew) HO.out (fun j hj => rfl)) q (.int .i64 mq)
        rw [show intsV (us.set q mq) = (intsV us).set q (.int .i64 mq) from by simp [intsV, List.map_set]]
        exact h)
      have HB5 : Hid (Below w3.heap.size w3 (wr.drew.setCell ⟨g4, q, none⟩ (.int .i64 mq))) := Lib.hid (HBw.out.drew.setCell (p := ⟨g4, q, none⟩) HG4.out _)
      have HUt5 : Hid (∀ z ∈ us.set q mq, -9223372036854775808 ≤ z ∧ z ≤ 9223372036854775807) := Lib.hid (fun z hz2 => by
        rcases List.mem_or_eq_of_mem_set hz2 with h | h
        · exact HUt.out z h
        · subst h; omega)
      have HUl5 : Hid ((us.set q mq).length = nf) := Lib.hid (by rw [List.length_set]; exact HUl.out)
      have i0 : (0 : Int) ≤ (q : Int) := by omega
      have i1 : (q : Int) < (nf : Int) := by omega
      clear hbk hh4 hg4 HO hz hm0 hm1
      go_upto_region 8 with fail
      go_still_tail 11, (by kernel_rfl)
      still_call (HMd.out.mono fun _ _ h => ⟨h.1, h.2.symm⟩)
      repeat still_step
      refine wpStill_nil ?_
      change wpList _ _ _ _ _ wr.drew
      have c6 := c0
      rw [← World.cell?_drew] at c6
      go_wp2_with fail
      go_roundw
      case rel => exact ⟨q + 1, by omega, by go_num, us.set q mq, HUl5, HUt5, HO5, HB5⟩
      case measure => simp [intOf]; omega
    · have hor : (ft = false ∧ decide (q < nf) = true) ∨ (ft = false ∧ decide (q < nf) = false) ∨ (ft = true ∧ decide (q < nf) = false) := by
        cases ft with
        | false => by_cases h : q < nf
                   · exact .inl ⟨rfl, by simpa using h⟩
                   · exact .inr (.inl ⟨rfl, by simpa using h⟩)
        | true => exact .inr (.inr ⟨rfl, by have h : ¬ q < nf := fun h => hlt ⟨h, rfl⟩; simpa using h⟩)
      clear hlt
      have HE5 := Lib.hid (own_empty wr tInt)
      have HR5 : Hid (RdV (wr.alloc (.cells #[] tInt)) (.slice A4 nf c4) (intsV us)) := Lib.hid ((RdV.of_own HO.out).below ((Below.refl _ _).alloc (Nat.le_refl _) (.cells #[] tInt)))
      have HRl := Lib.hid (RdV.of_own HO.out)
      clear HO
      rcases hor with ⟨hft, hd⟩ | ⟨hft, hd⟩ | ⟨hft, hd⟩
      all_goals
        go_upto_region 9 with fail
        go_wp2_with (at_builtin; refine app_rd rfl Try.underlying30 info_intH rfl (by omega) (.tmp 51) (.tmp 52) rfl wr.heap.size 0 [] (intsV us) _ _ rfl HE5.out rfl HR5.out (ints_oneK _) (by rw [intsV_len, HUl.out]; omega) (by simp) ?_; intro v5 w5 ho5 hb5 _; simp only [intsV_len, Nat.zero_add, List.nil_append, HUl.out] at ho5; obtain ⟨A5, c5, hv5⟩ := own_form ho5; subst hv5; have HRm := Lib.hid (RdV.of_own ho5); have HB5 : Hid (Below wr.heap.size wr w5) := Lib.hid (((Below.refl wr.heap.size wr).alloc (Nat.le_refl _) (.cells #[] tInt)).trans hb5); clear ho5 hb5; have HI5 := Lib.hid (HIr.out.below HB5.out); have HRl5 := Lib.hid (HRl.out.below HB5.out); have HC1 := Lib.hid (Closure_any (w := w5) sM sT (some ⟨g, 0, none⟩) cS _ us st en (by rw [HK.out]; exact HI5.out.r) HVa.out HRl5.out (by rw [HUl.out]; omega)); have y0 : w5.cell? ⟨Q, 0, none⟩ = some (.slice (some ⟨g, 0, none⟩) k cS) := (by simp [World.cell?, HI5.out.y]); have y1 : w5.cell? ⟨Q, 1, none⟩ = some (.int .i64 sT) := (by simp [World.cell?, HI5.out.y]); rw [HK.out] at HC1)
        clear HE5 HR5 HRl HIr HBw
        refine HC1.out.mono ?_
        intro x1 w6 hcp
        obtain ⟨v6, hx1, hb6, hr6⟩ := clos_rd hcp
        subst hx1
        have HX6 := Lib.hid hr6
        have HI6 := Lib.hid (HI5.out.below hb6)
        have HRl6 := Lib.hid (HRl5.out.below hb6)
        have HRm6 := Lib.hid (HRm.out.below hb6)
        have HM6 := HMade.out w6 HI6.out.b
        clear hcp hb6 hr6 y0 y1 HC1 HRl5 HRm HI5 HB5
        go_wp2_with fail
        refine HM6.mono ?_
        rintro x2 w7 ⟨vS7, rfl, ho7, hb7⟩
        obtain ⟨A7, c7, hv7, -⟩ := RdA.of_own ho7
        subst hv7
        have HX7 := Lib.hid (HX6.out.below hb7)
        have HI7 := Lib.hid (HI6.out.below hb7)
        have HRl7 := Lib.hid (HRl6.out.below hb7)
        have HRm7 := Lib.hid (HRm6.out.below hb7)
        have HC2 := Lib.hid (ClosureR_any (w := w7) sM sT A7 c7 _ us st en (RdA.of_own ho7) HVa.out HRm7.out (by rw [HUl.out]; omega))
        clear ho7 hb7 HX6 HI6 HRl6 HRm6 HM6
        go_wp2_with fail
        refine HC2.out.mono ?_
        intro x3 w8 hcp
        obtain ⟨v8, hx3, hb8, hr8⟩ := clos_rd hcp
        subst hx3
        have HY8 := Lib.hid hr8
        have HX8 := Lib.hid (HX7.out.below hb8)
        have HI8 := Lib.hid (HI7.out.below hb8)
        have HRl8 := Lib.hid (HRl7.out.below hb8)
        have HRm8 := Lib.hid (HRm7.out.below hb8)
        clear hcp hb8 hr8 HX7 HI7 HRl7 HRm7 HC2
        have hXl := resL_len sM st en us
        have HUl8 := HUl.out
        generalize resL sM st en us = XL at *
        generalize codeC sM.length us = zc at *
        have hzc : (zc == zc) = true := beq_self_eq_true zc
        have HIn1 := Lib.hid (fun (V : World) (hb : Below w8.heap.size w8 V) => (Ints_same v6 v8 XL V (by have := HK.out; omega) (HX8.out.below hb) (HY8.out.below hb)).mono fun e w' (h : e = .returned (.bool true) ∧ ∃ m, w' = V.drewN m) => show e = .returned (.bool true) ∧ Below V.heap.size V w' from ⟨h.1, by obtain ⟨m, hm⟩ := h.2; rw [hm]; exact below_drewN (Below.refl _ _) m⟩)
        have HIn2 := Lib.hid (fun (V : World) (hb : Below w8.heap.size w8 V) => (Ints_same (.slice A4 nf c4) (.slice A5 nf c5) us V (by omega) (HRl8.out.below hb) (HRm8.out.below hb)).mono fun e w' (h : e = .returned (.bool true) ∧ ∃ m, w' = V.drewN m) => show e = .returned (.bool true) ∧ Below V.heap.size V w' from ⟨h.1, by obtain ⟨m, hm⟩ := h.2; rw [hm]; exact below_drewN (Below.refl _ _) m⟩)
        have HMa := Lib.hid (fun (V : World) (hb : Below w8.heap.size w8 V) => HMade.out V (below_trD HI8.out.b hb))
        have HSa := Lib.hid (fun (V : World) (v9 : Value) (hb : Below w8.heap.size w8 V) (h9 : RdA V v9 sM) => same_any (.slice (some ⟨g, 0, none⟩) k cS) v9 sM sT V (HI8.out.r.below hb) h9 (by have := HK.out; omega))
        have y0 : w8.cell? ⟨Q, 0, none⟩ = some (.slice (some ⟨g, 0, none⟩) k cS) := by simp [World.cell?, HI8.out.y]
        have y1 : w8.cell? ⟨Q, 1, none⟩ = some (.int .i64 sT) := by simp [World.cell?, HI8.out.y]
        have HS1 := Lib.hid (And.intro y0 y1)
        have HBn : Hid (Below w8.heap.size w8 w8.drew) := Lib.hid ((Below.refl _ _).drew)
        go_upto_region 12 with fail
        go_region_held3 (fun V => V.cell? ⟨Q, 0, none⟩ = some (.slice (some ⟨g, 0, none⟩) k cS) ∧ V.cell? ⟨Q, 1, none⟩ = some (.int .i64 sT)) (first | exact HS1.out) (first | (go_at_call 32; go_fit (HIn1.out _ HBn.out); rintro e w9 ⟨rfl, B9⟩; have HS1 := Lib.hid (sel2 B9 HS1.out); have HBn := Lib.hid (HBn.out.trans (B9.mono HBn.out.size)); clear B9) | (go_at_call 32; go_fit (HIn2.out _ HBn.out); rintro e w9 ⟨rfl, B9⟩; have HS1 := Lib.hid (sel2 B9 HS1.out); have HBn := Lib.hid (HBn.out.trans (B9.mono HBn.out.size)); clear B9) | (go_at_call 29; go_fit (HMa.out _ HBn.out); rintro e w9 ⟨v9, rfl, ho9, B9⟩; have HR9 := Lib.hid (RdA.of_own ho9); have HS1 := Lib.hid (sel2 B9 HS1.out); have HBn := Lib.hid (HBn.out.trans (B9.mono HBn.out.size)); clear B9 ho9) | (go_at_call 33; go_fit (HSa.out _ _ HBn.out HR9.out); rintro e w9 ⟨rfl, B9⟩; have HS1 := Lib.hid (sel2 B9 HS1.out); have HBn := Lib.hid (HBn.out.trans (B9.mono HBn.out.size)); clear B9) | (go_at_call 20; go_fit (awake5_any _); rintro e w9 ⟨rfl, B9⟩; have HS1 := Lib.hid (sel2 B9 HS1.out); have HBn := Lib.hid (HBn.out.trans (B9.mono HBn.out.size)); clear B9))
        all_goals
          have HFin := Lib.hid (below_trD HI8.out.b HBn.out)
          go_wp2_with fail
          go_ret
          exact ⟨rfl, HFin.out⟩
theorem walk (vr vf : Value) (lr fr : List Int) (n : Int) (ft st en : Bool) (w : World) (hvf : RdV w vf (intsV fr)) (hft : ∀ z ∈ fr, -9223372036854775808 ≤ z ∧ z ≤ 9223372036854775807) (hr : RdV w vr (intsV lr)) (hrl : lr.length ≤ maxLen) (bn : -9223372036854775808 ≤ n ∧ n ≤ 9223372036854775807) :
    Calls Try.prog 6 #[vr, .int .i64 n, vf, .bool ft, .bool st, .bool en] w fun e w' => e = .returned (.bool true) ∧ Below w.heap.size w w' := by
  by_cases h : fr.length ≤ 8
  · exact walk_short vr vf lr fr n ft st en w hvf h hft hr hrl bn
  · exact walk_long vr vf fr n ft st en w hvf (by omega)
set_option maxRecDepth 100000 in
theorem lifted (os : Os) (started : os.Started) (H : Type) (enc : TypeId × Value → H) :
    ReturnsInHanded {} Try.checked os 6 .any (Rows.automatonClosesSpec.pre6 enc Try.prog Try.f6 Rows.automatonClosesRow.domain false) (Rows.automatonClosesSpec.post enc Try.prog Try.f6 false true false false) := by
  refine returnsInHanded_of_change_shaped (C := Try.checked) own started (by kernel_rfl) Try.func6
    (ChangeSpec.witness6 (enc := enc) (C := Try.checked) false ⟨#[], #[.slice none 0 0, .int .i64 0, .slice none 0 0, .bool false, .bool false, .bool false], []⟩ 8 (by kernel_rfl) (by kernel_rfl) (by kernel_rfl) (by kernel_rfl)) ?_
  intro W base args ds gs before hval0 hW _ _ hsh _
  have hval : ∀ (j : Nat) t v, Try.f6.params[j]? = some t → args[j]? = some v → Value.okWide Try.prog W .any base t v := hval0
  have hW' := hW
  obtain ⟨p, q, hA0, hV, rfl, hfz, hnd⟩ := hW
  have hA : DataW.TrodAll enc Try.prog W 0 (fun _ => true) true Try.f6.params.toList args.toList ds p := hA0
  rw [Try.params6] at hA hval
  obtain ⟨v0, v1, v2, v3, v4, v5, d0, d1, d2, d3, d4, d5, p0, p1, p2, p3, p4, p5, rfl, rfl, rfl, h0, h1, h2, h3, h4, h5⟩ := trodAll_six hA
  obtain ⟨rfl, rfl⟩ := trodVars_none hV
  obtain ⟨A0, n0, c0, rfl⟩ := okWide_slice Try.underlying30 (hval 0 30 v0 rfl rfl)
  have k0 := h0
  have lt0 : ∀ x ∈ p0, x.block < W.heap.size := by obtain ⟨m, hm⟩ := k0; exact DataW.trod_lt m _ _ _ hm
  obtain ⟨raw, r0, s0, t0⟩ : ∃ l : List Int, RdV W (.slice A0 n0 c0) (intsV l) ∧ l.length ≤ maxLen ∧ ∀ z ∈ l, -9223372036854775808 ≤ z ∧ z ≤ 9223372036854775807 := by obtain ⟨fuel, hf⟩ := h0; exact open_intsV hf
  obtain ⟨n, rfl, rfl, rfl, wn⟩ := open_int Try.underlying3 (hval 1 3 v1 rfl rfl) h1
  have bn := bounds_int wn
  obtain ⟨A2, n2, c2, rfl⟩ := okWide_slice Try.underlying30 (hval 2 30 v2 rfl rfl)
  have k2 := h2
  have lt2 : ∀ x ∈ p2, x.block < W.heap.size := by obtain ⟨m, hm⟩ := k2; exact DataW.trod_lt m _ _ _ hm
  obtain ⟨from_, r2, s2, t2⟩ : ∃ l : List Int, RdV W (.slice A2 n2 c2) (intsV l) ∧ l.length ≤ maxLen ∧ ∀ z ∈ l, -9223372036854775808 ≤ z ∧ z ≤ 9223372036854775807 := by obtain ⟨fuel, hf⟩ := h2; exact open_intsV hf
  obtain ⟨fit, rfl, rfl, rfl⟩ := open_bool Try.underlying4 (hval 3 4 v3 rfl rfl) h3
  obtain ⟨start, rfl, rfl, rfl⟩ := open_bool Try.underlying4 (hval 4 4 v4 rfl rfl) h4
  obtain ⟨en, rfl, rfl, rfl⟩ := open_bool Try.underlying4 (hval 5 4 v5 rfl rfl) h5
  clear hA0 hval0
  simp only [List.append_nil] at hW'
  refine (walk _ _ raw from_ n fit start en W r2 t2 r0 s0 bn).mono fun e W' ⟨he, hbel⟩ => ?_
  subst he
  exact ⟨_, rfl, _, _, _, [], _, [], hW', trodAll_mk1 (shut_bool Try.underlying4 _), trodAll_mk6 (Below.trod laidOut (by kernel_rfl) (of_decide_eq_true (by kernel_rfl)) k0 hbel lt0) (shut_int Try.underlying3 wn) (Below.trod laidOut (by kernel_rfl) (of_decide_eq_true (by kernel_rfl)) k2 hbel lt2) (shut_bool Try.underlying4 fit) (shut_bool Try.underlying4 start) (shut_bool Try.underlying4 en), rfl, hbel.frame _, fun h => by cases h⟩
theorem row_holds : Rows.AutomatonClosesSaid :=
  OpenClaim.holds_of_wide 6 Try.f6 rfl rfl rfl rfl rfl rfl rfl ⟨rfl, rfl, rfl, rfl, rfl⟩ rfl rfl rfl rfl rfl (by kernel_rfl) Try.func6 (by kernel_rfl)
    (of_decide_eq_true (by kernel_rfl)) (by unfold Func.isWrapper; first | (rw [if_pos (by decide +kernel)]; kernel_rfl) | (rw [if_neg (by decide +kernel)]; exact ⟨rfl, rfl⟩))
    (fun os started H enc _ => lifted os started H enc)
end Px.AutomatonCloses
end Go.Proofs.Ythoidaaldngpmaa
