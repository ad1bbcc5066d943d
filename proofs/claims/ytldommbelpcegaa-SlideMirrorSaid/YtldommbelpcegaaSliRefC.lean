/-
  The reference's Room of layer 10. Conditions: lists of at most 4096 lines.
-/
import Derived.Test.YtldommbelpcegaaSliRefB
namespace Go.Proofs.Ytldommbelpcegaa
open Go.RowKit
namespace Sl
open Cm Sc
theorem neg_one_bd {c : Ch} {d : Nat} (h : ChN (sh c (-((d + 1 : Nat) : Int)))) : (0 ≤ c.old + -(d : Int) + -1 ∧ c.old + -(d : Int) + -1 ≤ 8192) ∧ 0 ≤ c.new + -(d : Int) + -1 ∧ c.new + -(d : Int) + -1 ≤ 8192 := by
  obtain ⟨⟨x0, x1⟩, _, ⟨x2, x3⟩, _⟩ := h
  unfold sh at x0 x1 x2 x3
  simp only at x0 x1 x2 x3
  omega
theorem pos_one_bd {c : Ch} {d : Nat} (h : ChN (sh c ((d + 1 : Nat) : Int))) : (0 ≤ c.old + (d : Int) + 1 ∧ c.old + (d : Int) + 1 ≤ 8192) ∧ 0 ≤ c.new + (d : Int) + 1 ∧ c.new + (d : Int) + 1 ≤ 8192 := by
  obtain ⟨⟨x0, x1⟩, _, ⟨x2, x3⟩, _⟩ := h
  unfold sh at x0 x1 x2 x3
  simp only at x0 x1 x2 x3
  omega
set_option maxRecDepth 100000 in
set_option maxHeartbeats 4000000 in
theorem RoomR_any (v : Value) (l : List Ch) (va vb : Value) (a b : List Int) (k : Int) (w : World) (h : RdC w v l) (ha : RdV w va (intsV a)) (hb : RdV w vb (intsV b)) (hla : a.length ≤ 4096) (hlb : b.length ≤ 4096) (hf : FitL a b true 0 0 l) :
    Calls Try.prog 17 #[v, va, vb, .int .i64 k] w (Rm3 (rmU a b l k) (rmD a b l k) (rmE l k) w) := by
  have hfew := fit_few hf
  have HFit : Hid (Calls Try.prog 19 #[v, va, vb] w fun e w' => e = .returned (.bool true) ∧ Below w.heap.size w w') := Lib.hid (
    (FitsR_any v l va vb a b w h (by omega) ha hb).mono fun e w' ⟨h1, h2⟩ => ⟨by rw [h1, fit_true hf hla hlb], h2⟩)
  have HDn := Lib.hid (fun (v8 : Value) (Y : List Ch) (k : Nat) (hk : k < Y.length) (hY : Y.length ≤ 5000) (wq : World) (hq : Below w.heap.size w wq) (hr : RdC wq v8 Y) (hf : FitL a b true 0 0 Y) =>
    downR_any v8 Y va vb a b k wq hr (by omega) hk (ha.below hq) (hb.below hq) hla hlb hf)
  have HUp := Lib.hid (fun (v8 : Value) (Y : List Ch) (k : Nat) (hk : k < Y.length) (hY : Y.length ≤ 5000) (wq : World) (hq : Below w.heap.size w wq) (hr : RdC wq v8 Y) (hf : FitL a b true 0 0 Y) =>
    upR_any v8 Y va vb a b k wq hr (by omega) hk (ha.below hq) (hb.below hq) hla hlb hf)
  have HCN := Lib.hid (fun (Y : List Ch) (hf : FitL a b true 0 0 Y) => fit_chN hf hla hlb)
  have HR0 := Lib.hid (fun wq (hq : Below w.heap.size w wq) => h.below hq)
  obtain ⟨A, cp, rfl⟩ := h.form
  clear h ha hb
  by_cases hk : 0 ≤ k ∧ k.toNat < l.length
  · obtain ⟨q, rfl⟩ : ∃ q : Nat, k = (q : Int) := ⟨k.toNat, by omega⟩
    rw [Int.toNat_natCast] at hk
    have hkl := hk.2
    have e1 : rmU a b l (q : Int) = (upR a b l[q] (l[q].old - prE l q).toNat : Nat) := by unfold rmU; rw [dif_pos (by rw [Int.toNat_natCast]; exact hk)]; rfl
    have e2 : rmD a b l (q : Int) = (dnR a b l[q] (lowD a.length (l.drop (q + 1)) l[q]) : Nat) := by unfold rmD; rw [dif_pos (by rw [Int.toNat_natCast]; exact hk)]; rfl
    have e3 : rmE l (q : Int) = 0 := by unfold rmE; rw [if_pos (by rw [Int.toNat_natCast]; exact hk)]
    rw [e1, e2, e3]
    have hU : upR a b l[q] (l[q].old - prE l q).toNat ≤ 5000 := by
      have h1 := upR_le a b (l[q].old - prE l q).toNat l[q]
      have h2 := fit_at hf q hkl
      have := h2.om
      have := h2.o1
      have := h2.up0
      omega
    have hD : dnR a b l[q] (lowD a.length (l.drop (q + 1)) l[q]) ≤ 5000 := by
      have h1 := dnR_le a b (lowD a.length (l.drop (q + 1)) l[q]) l[q]
      have h2 := fit_at hf q hkl
      have := h2.dnM
      have := h2.o0
      have := h2.o1
      unfold lowD at *
      omega
    have HI0 := Lib.hid (InvU.start hkl hf)
    have HJ0 := Lib.hid (InvD.start hkl hf)
    have hY0 : l.set q (sh l[q] (-((0 : Nat) : Int))) = l := by rw [show (-((0 : Nat) : Int)) = 0 from rfl, sh_zero, List.set_getElem_self]
    have hZ0 : l.set q (sh l[q] ((0 : Nat) : Int)) = l := by rw [show ((0 : Nat) : Int) = 0 from rfl, sh_zero, List.set_getElem_self]
    have HY0 := Lib.hid (And.intro hY0 hZ0)
    clear hY0 hZ0 e1 e2 e3 hk hf
    generalize upR a b l[q] (l[q].old - prE l q).toNat = U at *
    generalize dnR a b l[q] (lowD a.length (l.drop (q + 1)) l[q]) = D at *
    have HPX := Lib.hid hkl
    generalize l[q] = c at *
    obtain ⟨N, hNl⟩ : ∃ N, N = l.length := ⟨_, rfl⟩
    rw [← hNl] at HFit hfew HR0 ⊢
    have hqN : q < N := by omega
    have HXl := Lib.hid hNl.symm
    clear hNl hkl
    have i1 : (0 : Int) ≤ (q : Int) := by omega
    have i2 : (q : Int) < (N : Int) := by omega
    have d1 : decide ((q : Int) < 0) = false := decide_eq_false (by omega)
    have d2 : decide (N ≤ q) = false := decide_eq_false (by omega)
    go_enter Try.func17, Try.ntmps17
    go_wp2_with (go_at_call 19; refine HFit.out.mono ?_; rintro e w1 ⟨rfl, hb1⟩; have HB1 := Lib.hid hb1; have HR1 := Lib.hid (HR0.out _ hb1); clear hb1 HFit)
    rw [← HY0.out.1] at HR1
    go_loopw [11, 13] (fun n' v0 wr => ∃ d : Nat, n' = .int .i64 (d : Int) ∧ d ≤ U ∧ Hid (RdC wr v0 (l.set q (sh c (-(d : Int))))) ∧ Hid (Below w.heap.size w wr) ∧ Hid (InvU a b l q c U d)) (fun n' _ _ => U - (intOf n').toNat)
    case atStart => exact ⟨0, rfl, Nat.zero_le _, HR1, HB1, HI0⟩
    case round =>
      obtain ⟨d, rfl, hd, HR, HB2, HI⟩ := hrel
      clear HR1 HB1 HI0
      have hkY : q < (l.set q (sh c (-(d : Int)))).length := by rw [List.length_set]; exact HPX.out
      have hgY : (l.set q (sh c (-(d : Int))))[q] = sh c (-(d : Int)) := List.getElem_set_self _
      have hYl : (l.set q (sh c (-(d : Int)))).length = N := by rw [List.length_set]; exact HXl.out
      have HC := Lib.hid (HUp.out _ _ q hkY (by omega) wr HB2.out HR.out HI.out.fit)
      rw [hgY] at HC
      have HStep := Lib.hid (fun h => InvU.step HPX.out HI.out h)
      have HStop := Lib.hid (fun h => InvU.stop HI.out h)
      obtain ⟨Ay, cy, e⟩ := HR.out.form
      rw [hYl] at e
      subst e
      unfold BlPost at HC
      generalize hcan : canU a b (l.set q (sh c (-(d : Int)))) q (sh c (-(d : Int))) = B at *
      have HYl := Lib.hid hYl
      clear hYl
      cases B with
      | true =>
        obtain ⟨hI2, hlt⟩ := HStep.out rfl
        have hbd := neg_one_bd (HCN.out _ hI2.fit (sh c (-((d + 1 : Nat) : Int))) (List.mem_set HPX.out _))
        have HMv := Lib.hid (fun (wq : World) (hr : RdC wq (.slice Ay N cy) (l.set q (sh c (-(d : Int))))) => moved_any _ _ q (-1) wq hr (by have := HYl.out; omega) hkY (by rw [hgY]; exact hbd.1) (by rw [hgY]; exact hbd.2))
        rw [hgY, List.set_set, sh_sh, show -(d : Int) + -1 = -((d + 1 : Nat) : Int) from by omega] at HMv
        have HI2 := Lib.hid hI2
        clear hI2 hbd hkY hgY hcan HStep HStop HI
        go_wp2_with (first
          | (go_at_call 35; refine HC.out.mono ?_; rintro e w3 ⟨rfl, hb3⟩; have HR3 := Lib.hid (HR.out.below hb3); have HB3 := Lib.hid (HB2.out.trans (hb3.mono HB2.out.size)); clear hb3 HC)
          | (go_at_call 34; refine (HMv.out _ HR3.out).mono ?_; rintro e w4 ⟨v4, rfl, ho4, hb4⟩; have HR4 := Lib.hid ho4.rd; have HB4 := Lib.hid (HB3.out.trans (hb4.mono HB3.out.size)); clear ho4 hb4))
        go_roundw
        case rel => exact ⟨d + 1, by go_num, by omega, HR4, HB4, HI2⟩
        case measure => simp [intOf]; omega
      | false =>
        have HUd := Lib.hid (HStop.out rfl)
        clear hkY hgY hcan HStep HStop HI
        go_wp2_with (go_at_call 35; refine HC.out.mono ?_; rintro e w3 ⟨rfl, hb3⟩; have HB3 := Lib.hid (HB2.out.trans (hb3.mono HB2.out.size)); clear hb3 HC)
        have HR1 := Lib.hid (HR0.out _ HB3.out)
        rw [← HY0.out.2] at HR1
        go_loopw [12, 14] (fun n' v0 wr => ∃ d : Nat, n' = .int .i64 (d : Int) ∧ d ≤ D ∧ Hid (RdC wr v0 (l.set q (sh c (d : Int)))) ∧ Hid (Below w.heap.size w wr) ∧ Hid (InvD a b l q c D d)) (fun n' _ _ => D - (intOf n').toNat)
        case atStart => exact ⟨0, rfl, Nat.zero_le _, HR1, HB3, HJ0⟩
        case round =>
          obtain ⟨d', rfl, hd', HR, HB4, HI⟩ := hrel
          clear HR1 HB3 HJ0 HB2
          have hkY : q < (l.set q (sh c (d' : Int))).length := by rw [List.length_set]; exact HPX.out
          have hgY : (l.set q (sh c (d' : Int)))[q] = sh c (d' : Int) := List.getElem_set_self _
          have hYl : (l.set q (sh c (d' : Int))).length = N := by rw [List.length_set]; exact HXl.out
          have HC := Lib.hid (HDn.out _ _ q hkY (by omega) wr HB4.out HR.out HI.out.fit)
          rw [hgY] at HC
          have HStep := Lib.hid (fun h => InvD.step HPX.out HI.out h)
          have HStop := Lib.hid (fun h => InvD.stop HI.out h)
          obtain ⟨Az, cz, e⟩ := HR.out.form
          rw [hYl] at e
          subst e
          unfold BlPost at HC
          generalize hcan : canD a b (l.set q (sh c (d' : Int))) q (sh c (d' : Int)) = B at *
          have HYl2 := Lib.hid hYl
          clear hYl
          cases B with
          | true =>
            obtain ⟨hI2, hlt⟩ := HStep.out rfl
            have hbd := pos_one_bd (HCN.out _ hI2.fit (sh c ((d' + 1 : Nat) : Int)) (List.mem_set HPX.out _))
            have HMv := Lib.hid (fun (wq : World) (hr : RdC wq (.slice Az N cz) (l.set q (sh c (d' : Int)))) => moved_any _ _ q 1 wq hr (by have := HYl2.out; omega) hkY (by rw [hgY]; exact hbd.1) (by rw [hgY]; exact hbd.2))
            rw [hgY, List.set_set, sh_sh, show (d' : Int) + 1 = ((d' + 1 : Nat) : Int) from by omega] at HMv
            have HI2 := Lib.hid hI2
            clear hI2 hbd hkY hgY hcan HStep HStop HI
            go_wp2_with (first
              | (go_at_call 33; refine HC.out.mono ?_; rintro e w3 ⟨rfl, hb3⟩; have HR3 := Lib.hid (HR.out.below hb3); have HB3 := Lib.hid (HB4.out.trans (hb3.mono HB4.out.size)); clear hb3 HC)
              | (go_at_call 34; refine (HMv.out _ HR3.out).mono ?_; rintro e w4 ⟨v4, rfl, ho4, hb4⟩; have HR4 := Lib.hid ho4.rd; have HB5 := Lib.hid (HB3.out.trans (hb4.mono HB3.out.size)); clear ho4 hb4))
            go_roundw
            case rel => exact ⟨d' + 1, by go_num, by omega, HR4, HB5, HI2⟩
            case measure => simp [intOf]; omega
          | false =>
            have HDd := Lib.hid (HStop.out rfl)
            clear hkY hgY hcan HStep HStop HI
            go_wp2_with (go_at_call 33; refine HC.out.mono ?_; rintro e w3 ⟨rfl, hb3⟩; have HB3 := Lib.hid (HB4.out.trans (hb3.mono HB4.out.size)); clear hb3 HC)
            go_ret3
            exact ⟨by rw [HUd.out, HDd.out]; rfl, HB3.out⟩
  · have e1 : rmU a b l k = 0 := by unfold rmU; rw [dif_neg hk]
    have e2 : rmD a b l k = 0 := by unfold rmD; rw [dif_neg hk]
    have e3 : rmE l k = 3 := by unfold rmE; rw [if_neg hk]
    rw [e1, e2, e3]
    clear HDn HUp HCN HR0 e1 e2 e3
    generalize l.length = N at *
    by_cases h0 : k < 0
    · have d1 : decide (k < 0) = true := decide_eq_true h0
      clear hk
      go_enter Try.func17, Try.ntmps17
      go_wp2_with (go_at_call 19; refine HFit.out.mono ?_; rintro e w1 ⟨rfl, hb1⟩; have HB1 := Lib.hid hb1; clear hb1 HFit)
      go_ret3
      exact ⟨rfl, HB1.out⟩
    · obtain ⟨q, rfl⟩ : ∃ q : Nat, k = (q : Int) := ⟨k.toNat, by omega⟩
      rw [Int.toNat_natCast] at hk
      have d1 : decide ((q : Int) < 0) = false := decide_eq_false (by omega)
      have d2 : decide (N ≤ q) = true := decide_eq_true (by omega)
      clear hk h0
      go_enter Try.func17, Try.ntmps17
      go_wp2_with (go_at_call 19; refine HFit.out.mono ?_; rintro e w1 ⟨rfl, hb1⟩; have HB1 := Lib.hid hb1; clear hb1 HFit)
      go_ret3
      exact ⟨rfl, HB1.out⟩
end Sl
end Go.Proofs.Ytldommbelpcegaa
