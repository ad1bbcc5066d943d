/-
  The reference's Down, Up and Room of layer 10. Conditions: lists of at most 4096 lines.
-/
import Derived.Test.YtldommbelpcegaaSliSet
import Derived.Deep.LoopGhost
namespace Go.Proofs.Ytldommbelpcegaa
open Go.RowKit
namespace Sl
open Cm Sc
set_option maxRecDepth 100000 in
set_option maxHeartbeats 4000000 in
theorem DownR_any (v : Value) (l : List Ch) (va vb : Value) (a b : List Int) (w : World) (h : RdC w v l) (ha : RdV w va (intsV a)) (hb : RdV w vb (intsV b)) (hla : a.length ≤ 4096) (hlb : b.length ≤ 4096) (hf : FitL a b true 0 0 l) :
    Calls Try.prog 11 #[v, va, vb] w (DnPost (downF a b a.length l) w) := by
  have hfew := fit_few hf
  have HFit : Hid (∀ wq, Below w.heap.size w wq → Calls Try.prog 19 #[v, va, vb] wq fun e w' => e = .returned (.bool true) ∧ Below wq.heap.size wq w') := Lib.hid (fun wq hq =>
    (FitsR_any v l va vb a b wq (h.below hq) (by omega) (ha.below hq) (hb.below hq)).mono fun e w' ⟨h1, h2⟩ => ⟨by rw [h1, fit_true hf hla hlb], h2⟩)
  have HDn := Lib.hid (fun (v8 : Value) (Y : List Ch) (k : Nat) (hk : k < Y.length) (hY : Y.length ≤ 5000) (wq : World) (hq : Below w.heap.size w wq) (hr : RdC wq v8 Y) (hf : FitL a b true 0 0 Y) =>
    downR_any v8 Y va vb a b k wq hr (by omega) hk (ha.below hq) (hb.below hq) hla hlb hf)
  have HCN := Lib.hid (fun (Y : List Ch) (hf : FitL a b true 0 0 Y) => fit_chN hf hla hlb)
  have HMf := Lib.hid (fun k => midD_fit hf k)
  have HR0 : Hid (RdC w v (midD a b l l.length)) := Lib.hid (by rw [midD_all]; exact h)
  obtain ⟨A, cp, rfl⟩ := h.form
  clear h ha hb hf
  obtain ⟨N, hNl⟩ : ∃ N, N = l.length := ⟨_, rfl⟩
  rw [← hNl] at HFit hfew HR0 ⊢
  have HNl := Lib.hid hNl
  have HML : Hid (∀ k, k ≤ N → (midD a b l k).length = N) := Lib.hid (fun k hk => by rw [hNl]; exact midD_len a b (by omega))
  clear hNl
  go_enter Try.func11, Try.ntmps11
  go_wp2_with (go_at_call 19; refine (HFit.out _ (Below.refl _ _)).mono ?_; rintro e w1 ⟨rfl, hb1⟩; have HB1 := Lib.hid hb1; have HR1 := Lib.hid (HR0.out.below hb1); clear hb1 HFit HR0)
  go_loopw [0, 8] (fun v0 k' wr => ∃ k : Nat, k ≤ N ∧ k' = .int .i64 ((k : Int) - 1) ∧ Hid (RdC wr v0 (midD a b l k)) ∧ Hid (Below w.heap.size w wr)) (fun _ k' _ => (intOf k' + 1).toNat)
  case atStart => exact ⟨N, Nat.le_refl _, rfl, HR1, HB1⟩
  case round =>
    obtain ⟨k, hk, rfl, HR, HB⟩ := hrel
    clear HR1 HB1
    by_cases h0 : 0 < k
    · obtain ⟨p, rfl⟩ : ∃ p, k = p + 1 := ⟨k - 1, by omega⟩
      have hpl : p < l.length := by rw [← HNl.out]; omega
      have hXl := HML.out (p + 1) hk
      have hpX : p < (midD a b l (p + 1)).length := by omega
      have hgp := midD_get a b hpl hpX
      have hst := midD_step a b hpl
      have hI := InvD.start hpX (HMf.out (p + 1))
      rw [hgp] at hI
      have hY0 : (midD a b l (p + 1)).set p (sh l[p] ((0 : Nat) : Int)) = midD a b l (p + 1) := by rw [← hgp, show ((0 : Nat) : Int) = 0 from rfl, sh_zero, List.set_getElem_self]
      have HRs := HR
      rw [← hY0] at HRs
      have HSt := Lib.hid hst
      have HPX := Lib.hid hpX
      have HXl := Lib.hid hXl
      have HI0 := Lib.hid hI
      clear hgp hst hI hY0 hpX hXl HR
      generalize dnR a b l[p] (lowD a.length ((midD a b l (p + 1)).drop (p + 1)) l[p]) = D at *
      generalize midD a b l (p + 1) = X at *
      generalize l[p] = c at *
      clear hpl
      have ez : (((p + 1 : Nat) : Int) - 1) = (p : Int) := by omega
      rw [ez]
      clear ez
      obtain ⟨A0, cq, e⟩ := HRs.out.form
      rw [List.length_set, HXl.out] at e
      subst e
      have i1 : (0 : Int) ≤ (p : Int) := by omega
      go_wp2_with fail
      go_loopg [0] D (fun n v0 wr => ∃ d : Nat, n + d = D ∧ Hid (RdC wr v0 (X.set p (sh c (d : Int)))) ∧ Hid (Below w.heap.size w wr) ∧ Hid (InvD a b X p c D d))
      case atStart => exact ⟨0, rfl, HRs, HB, HI0⟩
      case round =>
        obtain ⟨d, hd, HR, HB2, HI⟩ := hrel
        clear HRs HB HI0
        have hkY : p < (X.set p (sh c (d : Int))).length := by rw [List.length_set]; exact HPX.out
        have hgY : (X.set p (sh c (d : Int)))[p] = sh c (d : Int) := List.getElem_set_self _
        have hYl : (X.set p (sh c (d : Int))).length = N := by rw [List.length_set]; exact HXl.out
        have HC := Lib.hid (HDn.out _ _ p hkY (by omega) wr HB2.out HR.out HI.out.fit)
        rw [hgY] at HC
        have HStep := Lib.hid (fun h => InvD.step HPX.out HI.out h)
        have HStop := Lib.hid (fun h => InvD.stop HI.out h)
        obtain ⟨Ay, cy, e⟩ := HR.out.form
        rw [hYl] at e
        subst e
        unfold BlPost at HC
        generalize hcan : canD a b (X.set p (sh c (d : Int))) p (sh c (d : Int)) = B at *
        have HYl := Lib.hid hYl
        have HD := Lib.hid hd
        clear hYl hd
        cases B with
        | true =>
          obtain ⟨hI2, hlt⟩ := HStep.out rfl
          have hN2 := HCN.out _ hI2.fit (sh c ((d + 1 : Nat) : Int)) (List.mem_set HPX.out _)
          have hbd : (0 ≤ c.old + (d : Int) + 1 ∧ c.old + (d : Int) + 1 ≤ 8192) ∧ 0 ≤ c.new + (d : Int) + 1 ∧ c.new + (d : Int) + 1 ≤ 8192 := by
            obtain ⟨⟨x0, x1⟩, _, ⟨x2, x3⟩, _⟩ := hN2
            unfold sh at x0 x1 x2 x3
            simp only at x0 x1 x2 x3
            omega
          have HMv := Lib.hid (fun (wq : World) (hr : RdC wq (.slice Ay N cy) (X.set p (sh c (d : Int)))) => moved_any _ _ p 1 wq hr (by have := HYl.out; omega) hkY (by rw [hgY]; exact hbd.1) (by rw [hgY]; exact hbd.2))
          rw [hgY, List.set_set, sh_sh, show (d : Int) + 1 = ((d + 1 : Nat) : Int) from by omega] at HMv
          have HI2 := Lib.hid hI2
          have HLt := Lib.hid hlt
          clear hI2 hlt hN2 hbd hkY hgY hcan HStep HStop HI
          go_wp2_with (first
            | (go_at_call 33; refine HC.out.mono ?_; rintro e w3 ⟨rfl, hb3⟩; have HR3 := Lib.hid (HR.out.below hb3); have HB3 := Lib.hid (HB2.out.trans (hb3.mono HB2.out.size)); clear hb3 HC)
            | (go_at_call 34; refine (HMv.out _ HR3.out).mono ?_; rintro e w4 ⟨v4, rfl, ho4, hb4⟩; have HR4 := Lib.hid ho4.rd; have HB4 := Lib.hid (HB3.out.trans (hb4.mono HB3.out.size)); clear ho4 hb4))
          go_roundg (D - (d + 1))
          case rel => exact ⟨d + 1, by have := HLt.out; omega, HR4, HB4, HI2⟩
          case measure => have := HLt.out; have := HD.out; omega
        | false =>
          have hDd := HStop.out rfl
          subst hDd
          have HR2 := HR
          rw [HSt.out] at HR2
          clear hkY hgY hcan HStep HStop HI
          go_wp2_with (go_at_call 33; refine HC.out.mono ?_; rintro e w3 ⟨rfl, hb3⟩; have HR3 := Lib.hid (HR2.out.below hb3); have HB3 := Lib.hid (HB2.out.trans (hb3.mono HB2.out.size)); clear hb3 HC)
          go_roundw
          case rel => exact ⟨p, by omega, rfl, HR3, HB3⟩
          case measure => simp [intOf]
    · obtain rfl : k = 0 := by omega
      rw [show (((0 : Nat) : Int) - 1) = -1 from rfl]
      have HR2 := Lib.hid (fun wq (hq : Below wr.heap.size wr wq) => HR.out.below hq)
      rw [midD_zero] at HR2
      have hsz := HB.out.size
      go_wp2_with (at_builtin; refine app_all rfl (.tmp 29) (.tmp 30) rfl w.heap.size [] (downF a b a.length l) _ _ rfl (OwnC.empty wr _ HB.out.size) rfl (HR2.out _ ((Below.refl _ _).alloc (Nat.le_refl _) _)) (by rw [downF_len, ← HNl.out]; simp; omega) (by simp; omega) ?_; intro v3 w3 ho3 hb3; rw [List.nil_append] at ho3; have HO3 := Lib.hid ho3; have HB3 := Lib.hid ((HB.out.alloc HB.out.size (.cells #[] tCh)).trans hb3); clear ho3 hb3)
      go_ret2
      exact ⟨_, rfl, HO3.out, HB3.out⟩
set_option maxRecDepth 100000 in
set_option maxHeartbeats 4000000 in
theorem UpR_any (v : Value) (l : List Ch) (va vb : Value) (a b : List Int) (w : World) (h : RdC w v l) (ha : RdV w va (intsV a)) (hb : RdV w vb (intsV b)) (hla : a.length ≤ 4096) (hlb : b.length ≤ 4096) (hf : FitL a b true 0 0 l) :
    Calls Try.prog 13 #[v, va, vb] w (DnPost (upF a b 0 l) w) := by
  have hfew := fit_few hf
  have HFit : Hid (∀ wq, Below w.heap.size w wq → Calls Try.prog 19 #[v, va, vb] wq fun e w' => e = .returned (.bool true) ∧ Below wq.heap.size wq w') := Lib.hid (fun wq hq =>
    (FitsR_any v l va vb a b wq (h.below hq) (by omega) (ha.below hq) (hb.below hq)).mono fun e w' ⟨h1, h2⟩ => ⟨by rw [h1, fit_true hf hla hlb], h2⟩)
  have HDn := Lib.hid (fun (v8 : Value) (Y : List Ch) (k : Nat) (hk : k < Y.length) (hY : Y.length ≤ 5000) (wq : World) (hq : Below w.heap.size w wq) (hr : RdC wq v8 Y) (hf : FitL a b true 0 0 Y) =>
    upR_any v8 Y va vb a b k wq hr (by omega) hk (ha.below hq) (hb.below hq) hla hlb hf)
  have HCN := Lib.hid (fun (Y : List Ch) (hf : FitL a b true 0 0 Y) => fit_chN hf hla hlb)
  have HMf := Lib.hid (fun k => midU_fit hf k)
  have HR0 : Hid (RdC w v (midU a b l 0)) := Lib.hid (by rw [midU_zero]; exact h)
  obtain ⟨A, cp, rfl⟩ := h.form
  clear h ha hb hf
  obtain ⟨N, hNl⟩ : ∃ N, N = l.length := ⟨_, rfl⟩
  rw [← hNl] at HFit hfew HR0 ⊢
  have HNl := Lib.hid hNl
  have HML : Hid (∀ k, k ≤ N → (midU a b l k).length = N) := Lib.hid (fun k hk => by rw [hNl]; exact midU_len a b (by omega))
  clear hNl
  go_enter Try.func13, Try.ntmps13
  go_wp2_with (go_at_call 19; refine (HFit.out _ (Below.refl _ _)).mono ?_; rintro e w1 ⟨rfl, hb1⟩; have HB1 := Lib.hid hb1; have HR1 := Lib.hid (HR0.out.below hb1); clear hb1 HFit HR0)
  obtain ⟨A1, cq1, e⟩ := HR1.out.form
  rw [HML.out 0 (Nat.zero_le _)] at e
  go_loopw [0, 8] (fun v0 k' wr => ∃ k : Nat, k ≤ N ∧ k' = .int .i64 (k : Int) ∧ Hid (RdC wr v0 (midU a b l k)) ∧ Hid (Below w.heap.size w wr)) (fun _ k' _ => N - (intOf k').toNat)
  case atStart => exact ⟨0, Nat.zero_le _, rfl, HR1, HB1⟩
  case round =>
    obtain ⟨p, hk, rfl, HR, HB⟩ := hrel
    clear HR1 HB1 e
    obtain ⟨A0, cq, e⟩ := HR.out.form
    rw [HML.out p hk] at e
    subst e
    by_cases h0 : p < N
    · have hpl : p < l.length := by rw [← HNl.out]; omega
      have hXl := HML.out p hk
      have hpX : p < (midU a b l p).length := by omega
      have hgp := midU_get a b hpl hpX
      have hst := midU_step a b hpl
      have hI := InvU.start hpX (HMf.out p)
      rw [hgp] at hI
      have hY0 : (midU a b l p).set p (sh l[p] (-((0 : Nat) : Int))) = midU a b l p := by rw [← hgp, show (-((0 : Nat) : Int)) = 0 from rfl, sh_zero, List.set_getElem_self]
      have HRs := HR
      rw [← hY0] at HRs
      have HSt := Lib.hid hst
      have HPX := Lib.hid hpX
      have HXl := Lib.hid hXl
      have HI0 := Lib.hid hI
      clear hgp hst hI hY0 hpX hXl HR
      generalize upR a b l[p] (l[p].old - prE (midU a b l p) p).toNat = D at *
      generalize midU a b l p = X at *
      generalize l[p] = c at *
      clear hpl
      have i1 : (0 : Int) ≤ (p : Int) := by omega
      have i3 : decide (p < N) = true := decide_eq_true h0
      go_wp2_with fail
      go_loopg [0] D (fun n v0 wr => ∃ d : Nat, n + d = D ∧ Hid (RdC wr v0 (X.set p (sh c (-(d : Int))))) ∧ Hid (Below w.heap.size w wr) ∧ Hid (InvU a b X p c D d))
      case atStart => exact ⟨0, rfl, HRs, HB, HI0⟩
      case round =>
        obtain ⟨d, hd, HR, HB2, HI⟩ := hrel
        clear HRs HB HI0
        have hkY : p < (X.set p (sh c (-(d : Int)))).length := by rw [List.length_set]; exact HPX.out
        have hgY : (X.set p (sh c (-(d : Int))))[p] = sh c (-(d : Int)) := List.getElem_set_self _
        have hYl : (X.set p (sh c (-(d : Int)))).length = N := by rw [List.length_set]; exact HXl.out
        have HC := Lib.hid (HDn.out _ _ p hkY (by omega) wr HB2.out HR.out HI.out.fit)
        rw [hgY] at HC
        have HStep := Lib.hid (fun h => InvU.step HPX.out HI.out h)
        have HStop := Lib.hid (fun h => InvU.stop HI.out h)
        obtain ⟨Ay, cy, e⟩ := HR.out.form
        rw [hYl] at e
        subst e
        unfold BlPost at HC
        generalize hcan : canU a b (X.set p (sh c (-(d : Int)))) p (sh c (-(d : Int))) = B at *
        have HYl := Lib.hid hYl
        have HD := Lib.hid hd
        clear hYl hd
        cases B with
        | true =>
          obtain ⟨hI2, hlt⟩ := HStep.out rfl
          have hN2 := HCN.out _ hI2.fit (sh c (-((d + 1 : Nat) : Int))) (List.mem_set HPX.out _)
          have hbd : (0 ≤ c.old + -(d : Int) + -1 ∧ c.old + -(d : Int) + -1 ≤ 8192) ∧ 0 ≤ c.new + -(d : Int) + -1 ∧ c.new + -(d : Int) + -1 ≤ 8192 := by
            obtain ⟨⟨x0, x1⟩, _, ⟨x2, x3⟩, _⟩ := hN2
            unfold sh at x0 x1 x2 x3
            simp only at x0 x1 x2 x3
            omega
          have HMv := Lib.hid (fun (wq : World) (hr : RdC wq (.slice Ay N cy) (X.set p (sh c (-(d : Int))))) => moved_any _ _ p (-1) wq hr (by have := HYl.out; omega) hkY (by rw [hgY]; exact hbd.1) (by rw [hgY]; exact hbd.2))
          rw [hgY, List.set_set, sh_sh, show -(d : Int) + -1 = -((d + 1 : Nat) : Int) from by omega] at HMv
          have HI2 := Lib.hid hI2
          have HLt := Lib.hid hlt
          clear hI2 hlt hN2 hbd hkY hgY hcan HStep HStop HI
          go_wp2_with (first
            | (go_at_call 35; refine HC.out.mono ?_; rintro e w3 ⟨rfl, hb3⟩; have HR3 := Lib.hid (HR.out.below hb3); have HB3 := Lib.hid (HB2.out.trans (hb3.mono HB2.out.size)); clear hb3 HC)
            | (go_at_call 34; refine (HMv.out _ HR3.out).mono ?_; rintro e w4 ⟨v4, rfl, ho4, hb4⟩; have HR4 := Lib.hid ho4.rd; have HB4 := Lib.hid (HB3.out.trans (hb4.mono HB3.out.size)); clear ho4 hb4))
          go_roundg (D - (d + 1))
          case rel => exact ⟨d + 1, by have := HLt.out; omega, HR4, HB4, HI2⟩
          case measure => have := HLt.out; have := HD.out; omega
        | false =>
          have hDd := HStop.out rfl
          subst hDd
          have HR2 := HR
          rw [HSt.out] at HR2
          clear hkY hgY hcan HStep HStop HI
          go_wp2_with (go_at_call 35; refine HC.out.mono ?_; rintro e w3 ⟨rfl, hb3⟩; have HR3 := Lib.hid (HR2.out.below hb3); have HB3 := Lib.hid (HB2.out.trans (hb3.mono HB2.out.size)); clear hb3 HC)
          go_roundw
          case rel => exact ⟨p + 1, by omega, by go_num, HR3, HB3⟩
          case measure => simp [intOf]; omega
    · obtain rfl : p = N := by omega
      have i3 : decide (p < p) = false := decide_eq_false h0
      have HR2 := Lib.hid (fun wq (hq : Below wr.heap.size wr wq) => HR.out.below hq)
      rw [HNl.out, midU_all, ← HNl.out] at HR2
      have hsz := HB.out.size
      go_wp2_with (at_builtin; refine app_all rfl (.tmp 28) (.tmp 29) rfl w.heap.size [] (upF a b 0 l) _ _ rfl (OwnC.empty wr _ HB.out.size) rfl (HR2.out _ ((Below.refl _ _).alloc (Nat.le_refl _) _)) (by rw [upF_len, ← HNl.out]; simp; omega) (by simp; omega) ?_; intro v3 w3 ho3 hb3; rw [List.nil_append] at ho3; have HO3 := Lib.hid ho3; have HB3 := Lib.hid ((HB.out.alloc HB.out.size (.cells #[] tCh)).trans hb3); clear ho3 hb3)
      go_ret2
      exact ⟨_, rfl, HO3.out, HB3.out⟩
end Sl
end Go.Proofs.Ytldommbelpcegaa
