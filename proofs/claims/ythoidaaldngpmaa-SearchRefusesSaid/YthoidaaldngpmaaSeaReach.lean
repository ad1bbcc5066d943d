/-
  Walk of layer 6: the program's reach. Condition: a valid automaton.
-/
import Derived.Test.YthoidaaldngpmaaSeaDat
namespace Go.Proofs.Ythoidaaldngpmaa
open Go.RowKit
namespace Se
open Cm Rx Au
theorem bs_len (s : ByteArray) : (Tx.bs s).length = s.size := by simp [Tx.bs]
theorem cell_ints {w : World} {g : Nat} {l : List Int} (h : w.heap[g]? = some (.cells (intsV l).toArray tInt (0, 0))) {j : Nat} (hj : j < l.length) : w.cell? ⟨g, j, none⟩ = some (.int .i64 l[j]) := by
  simp only [World.cell?, h]
  simp [intsV, hj]
variable {n st : Nat} {w0 w1 w : World} {P : Parts} {D : Dyn} {vL vM : Value}
theorem Wk.place (h : Wk n st w0 w1 w P D vL vM) {k : Nat} (hk : k < D.L.length) : ∃ g c, vL = .slice (some ⟨g, 0, none⟩) D.L.length c ∧ w.cell? ⟨g, k * 2, none⟩ = some (.int .i64 (D.L[k].1 : Int)) ∧ w.cell? ⟨g, k * 2 + 1, none⟩ = some (.int .i64 (D.L[k].2 : Int)) := by
  rcases h.lv.2 with ⟨_, e⟩ | ⟨g, cap, cur, e, _, hg, _⟩
  · omega
  · have hl := h.lv
    rw [e] at hl
    obtain ⟨h1, h2⟩ := flatP_get D.L k hk
    exact ⟨g, cap, e, (hl.cellAt (k * 2) (by omega)).trans h1, (hl.cellAt (k * 2 + 1) (by omega)).trans h2⟩
/-- What reach leaves. -/
def ReachPost (ss : List St) (st i E q : Nat) (w0 w1 : World) (P : Parts) (D : Dyn) (vM : Value) (w : World) (vL : Value) (x : Ending) (w' : World) : Prop :=
  x = .returned (.tuple #[]) ∧ ∃ D' vL', Wk ss.length st w0 w1 w' P D' vL' vM ∧ DG ss st (Tx.bs P.s) i E D' ∧ DoneTo ss P.s.size i D'.L D'.L.length ∧ Ext E D D' ∧ Se.Has D'.L q E ∧ Keep w w' P vL vL'
set_option maxRecDepth 100000 in
set_option maxHeartbeats 1000000 in
theorem reach_any (ss : List St) (hS : WkS ss w1 P) (h : Wk ss.length st w0 w1 w P D vL vM) (i E q : Nat) (hd : DG ss st (Tx.bs P.s) i E D) (hdo : DoneTo ss P.s.size i D.L D.L.length) (hr : Run ss (Tx.bs P.s) i q E) (hst : st < ss.length) (h8 : ss.length ≤ 8000) :
    Calls Try.prog 123 #[.pointer (some ⟨P.B, 0, none⟩), .int .i64 (q : Int), .int .i64 (E : Int)] w (ReachPost ss st i E q w0 w1 P D vM w vL) := by
  have hlen := hd.len
  have HS := Lib.hid hS
  have HV0 := Lib.hid (visit_any h hS.ne q E hr.lt (by omega) hst h8)
  obtain ⟨hv1, hv2, hv3⟩ := hd.visit hr
  have HD1 := Lib.hid hv1
  have HX1 := Lib.hid hv2
  have HH1 := Lib.hid hv3
  have HDo1 := Lib.hid (hv2.done hdo (Nat.le_refl _))
  have HLe1 := hv2.len
  have HBs := Lib.hid (bs_len P.s)
  have HFinal : Hid (∀ w' D' vL', Wk ss.length st w0 w1 w' P D' vL' vM → DG ss st (Tx.bs P.s) i E D' → DoneTo ss P.s.size i D'.L D'.L.length → Ext E D D' → Se.Has D'.L q E → Keep w w' P vL vL' → ReachPost ss st i E q w0 w1 P D vM w vL (.returned (.tuple #[])) w') := Lib.hid (fun w' D' vL' a b c d e f => ⟨rfl, D', vL', a, b, c, d, e, f⟩)
  generalize visitD st D q E = D1 at HV0 HD1 HX1 HH1 HDo1 HLe1
  obtain ⟨A, c, hvl⟩ := own_formP h.lv
  subst hvl
  obtain ⟨vL0, hvl0⟩ : ∃ v, v = Value.slice A D.L.length c := ⟨_, rfl⟩
  have c9 : w.cell? ⟨P.B, 9, none⟩ = some (.slice A D.L.length c) := h.own 9 rfl
  have HVL := Lib.hid hvl0.symm
  rw [HVL.out] at HV0 HFinal
  clear hvl0
  obtain ⟨l0, hl0⟩ : ∃ l0, l0 = D.L.length := ⟨_, rfl⟩
  have HL0 := Lib.hid hl0.symm
  rw [← hl0] at HLe1 HDo1 c9 hlen
  clear hl0 hv1 hv2 hv3 hd hdo h hS
  rw [HVL.out]
  generalize ReachPost ss st i E q w0 w1 P D vM w vL0 = Post at HFinal ⊢
  go_enter Try.func123, Try.ntmps123
  go_wp2_with (go_at_call 136; refine HV0.out.mono ?_; rintro x w2 ⟨rfl, vL2, hk2, hp2⟩; have HK2 := Lib.hid hk2; have HP2 := Lib.hid hp2; clear hk2 hp2)
  clear HV0 c9
  go_loopw [6] (fun a wr => ∃ k : Nat, a = .int .i64 (k : Int) ∧ l0 ≤ k ∧ ∃ D2 vL2, k ≤ D2.L.length ∧ Hid (Wk ss.length st w0 w1 wr P D2 vL2 vM) ∧ Hid (DG ss st (Tx.bs P.s) i E D2) ∧ Hid (DoneTo ss P.s.size i D2.L k) ∧ Hid (Ext E D D2) ∧ Hid (Se.Has D2.L q E) ∧ Hid (Keep w wr P vL0 vL2)) (fun a _ => ss.length + 1 - (intOf a).toNat)
  case atStart => exact ⟨l0, by go_num, Nat.le_refl _, D1, _, HLe1, HK2, HD1, HDo1, HX1, HH1, HP2⟩
  case round =>
    clear HK2 HD1 HX1 HH1 HDo1 HLe1 HP2
    obtain ⟨k, rfl, hlk, D2, vL3, hk2, HK, HD, HDo, HX, HH, HP⟩ := hrel
    have hl2 := HD.out.len
    obtain ⟨A2, c2, hvl⟩ := own_formP HK.out.lv
    subst hvl
    have c9 : wr.cell? ⟨P.B, 9, none⟩ = some (.slice A2 D2.L.length c2) := HK.out.own 9 rfl
    obtain ⟨l2, hl2e⟩ : ∃ l2, l2 = D2.L.length := ⟨_, rfl⟩
    have HL2 := Lib.hid hl2e.symm
    by_cases hlt : k < D2.L.length
    · obtain ⟨g, c3, hvl, p0, -⟩ := HK.out.place hlt
      injection hvl with hA _ hc
      subst hA hc
      have HSnd := Lib.hid (HX.out.snd hlt (by rw [HL0.out]; exact hlk))
      have HSound := Lib.hid (HD.out.grow.sound _ _ (show (D2.L[k].1, D2.L[k].2) ∈ D2.L from List.getElem_mem hlt))
      have hrn := HSound.out.lt
      rw [HSnd.out] at HSound
      have HKth : Hid (∃ h : k < D2.L.length, D2.L[k].1 = D2.L[k].1) := Lib.hid ⟨hlt, rfl⟩
      have HDone : Hid (∀ D3, Ext E D2 D3 → StepsTo ss P.s.size i D2.L[k].1 (-1) D3.L E → DoneTo ss P.s.size i D3.L k → DoneTo ss P.s.size i D3.L (k + 1) ∧ k + 1 ≤ D3.L.length) := Lib.hid (fun D3 hx hs hdo => by
        obtain ⟨hk', e⟩ := hx.at hlt
        have h1 : D3.L[k].2 = E := by rw [e]; exact HSnd.out
        refine ⟨StepsTo.done hk' h1 hdo ?_, hk'⟩
        rw [e]; exact hs)
      generalize D2.L[k].1 = r at p0 HSound hrn HDone
      have HStart := Lib.hid (StepsTo.start ss P.s.size i r D2.L E)
      have HT0 : Hid (∀ t : Nat, prevS (freeX ss r) (2 * ss.length) = (t : Int) → freeX ss r t = true) := Lib.hid (fun t ht => (prevS_hit ht).1)
      have ht1 := prevS_ge (freeX ss r) (2 * ss.length)
      have c5 : wr.cell? ⟨P.B, 5, none⟩ = some (.slice (some ⟨P.F1, 0, none⟩) ss.length ss.length) := HK.out.own 5 rfl
      have cf : wr.cell? ⟨P.F1, r, none⟩ = some (.int .i64 (prevS (freeX ss r) (2 * ss.length))) := by
        have h := HK.out.cell HS.out.n3.1 HS.out.n3.2 (cell_ints HS.out.f1 (j := r) (by rw [lastF_len]; exact hrn))
        rw [lastF_get hrn] at h
        exact h
      have i0 : (0 : Int) ≤ (k : Int) := by omega
      have i1 : (k : Int) < (l2 : Int) := by omega
      have i2 : (0 : Int) ≤ (r : Int) := by omega
      have i3 : (r : Int) < (ss.length : Int) := by omega
      have hd2 : decide (k < l2) = true := by simp only [decide_eq_true_eq]; omega
      rw [← hl2e] at c9
      generalize prevS (freeX ss r) (2 * ss.length) = t0 at cf HStart HT0 ht1
      obtain ⟨nn, hnn⟩ : ∃ nn, nn = ss.length := ⟨_, rfl⟩
      have HNN := Lib.hid hnn.symm
      rw [← hnn] at c5 i3 hrn hl2 h8
      clear HKth HSnd hlt hnn hl2e
      go_wp2_with fail
      clear c9 p0 c5 cf
      go_loopw [8] (fun b wr => ∃ t : Int, b = .int .i64 t ∧ -1 ≤ t ∧ Hid (∀ t' : Nat, t = (t' : Int) → freeX ss r t' = true) ∧ ∃ D3 vL3, Hid (Wk ss.length st w0 w1 wr P D3 vL3 vM) ∧ Hid (DG ss st (Tx.bs P.s) i E D3) ∧ Hid (DoneTo ss P.s.size i D3.L k) ∧ Hid (Ext E D2 D3) ∧ Hid (StepsTo ss P.s.size i r t D3.L E) ∧ Hid (Keep w wr P vL0 vL3)) (fun b _ => (intOf b + 1).toNat)
      case atStart => exact ⟨t0, rfl, ht1, HT0, D2, _, HK, HD, HDo, Lib.hid (Ext.refl _ _), HStart, HP⟩
      case round =>
        clear HT0 HStart ht1
        have HKold := HK
        clear HK HDo HD HP
        obtain ⟨t, rfl, ht1, HTf, D3, vL4, HK, HD, HDo, HX3, HSt, HP⟩ := hrel
        have hdl := HD.out.len
        by_cases ht : 0 ≤ t
        · obtain ⟨t', rfl⟩ := Int.eq_ofNat_of_zero_le ht
          have HF := Lib.hid (HTf.out t' rfl)
          have hu := freeX_lt HF.out
          have HTg : Hid (tgtF ss t' = r) := Lib.hid (freeX_tgt HF.out).symm
          have HPa := Lib.hid (passes_any ss HS.out HK.out (t' / 2) i hu HD.out.at_)
          have HVi := Lib.hid (fun m => visit_any (HK.out.drewN m) HS.out.ne (t' / 2) E hu (by have := HNN.out; omega) hst (by rw [HNN.out]; exact h8))
          have HD6 : Hid (∀ W D' vL', Wk ss.length st w0 w1 W P D' vL' vM → W.cell? ⟨P.B, 6, none⟩ = some (.slice (some ⟨P.F2, 0, none⟩) (2 * ss.length) (2 * ss.length)) ∧ W.cell? ⟨P.F2, t', none⟩ = some (.int .i64 (prevS (freeX ss r) t'))) := Lib.hid (fun W D' vL' hW => by
            refine ⟨hW.own 6 rfl, ?_⟩
            have h := hW.cell HS.out.n4.1 HS.out.n4.2 (cell_ints HS.out.f2 (j := t') (by rw [befF_len]; omega))
            rw [befF_get (by omega) (by omega) (by rw [HTg.out]; exact HF.out), HTg.out] at h
            exact h)
          obtain ⟨c6, cb⟩ := HD6.out _ _ _ HK.out
          have i4 : (0 : Int) ≤ (t' : Int) := by omega
          have i5 : (t' : Int) < ((2 * ss.length : Nat) : Int) := by omega
          have HYes : Hid (passX ss[t' / 2] P.s.size i = true → DG ss st (Tx.bs P.s) i E (visitD st D3 (t' / 2) E) ∧ Ext E D3 (visitD st D3 (t' / 2) E) ∧ StepsTo ss P.s.size i r (prevS (freeX ss r) t') (visitD st D3 (t' / 2) E).L E) := Lib.hid (fun hp => by
            obtain ⟨a, b, c⟩ := HD.out.visit (run_step HF.out ⟨hu, by rw [HBs.out]; exact hp⟩ HSound.out)
            exact ⟨a, b, (HSt.out.has b).next (fun _ => c)⟩)
          have HNo : Hid (passX ss[t' / 2] P.s.size i = false → StepsTo ss P.s.size i r (prevS (freeX ss r) t') D3.L E) := Lib.hid (fun hp => HSt.out.next (fun hh => by obtain ⟨_, h⟩ := hh; rw [hp] at h; cases h))
          have HT1 : Hid (∀ t'' : Nat, prevS (freeX ss r) t' = (t'' : Int) → freeX ss r t'' = true) := Lib.hid (fun t'' h => (prevS_hit h).1)
          have hb1 := prevS_ge (freeX ss r) t'
          have hb2 := prevS_lt (freeX ss r) t'
          generalize prevS (freeX ss r) t' = t1 at cb HD6 HYes HNo HT1 hb1 hb2
          generalize 2 * ss.length = m2 at c6 HD6 i5
          generalize passX ss[t' / 2] P.s.size i = R at HPa HYes HNo
          have e5 : (t' : Int) / 2 = ((t' / 2 : Nat) : Int) := by omega
          have e7 : wrap64 ((t' / 2 : Nat) : Int) = ((t' / 2 : Nat) : Int) := by first | exact IntWalk.i64_in _ (by have := HNN.out; omega) | (unfold wrap64; have := HNN.out; omega)
          generalize t' / 2 = u at e5 e7 HPa HVi HYes HNo
          clear HF HTg hu HTf HSt ht
          cases R with
          | true =>
            obtain ⟨y1, y2, y3⟩ := HYes.out rfl
            have HD4 := Lib.hid y1
            have HX4 := Lib.hid y2
            have HS4 := Lib.hid y3
            clear y1 y2 y3 HYes HNo
            generalize visitD st D3 u E = D4 at HVi HD4 HX4 HS4
            have HDo4 := Lib.hid (HX4.out.done HDo.out (by have := HX3.out.len; omega))
            go_wp2_with (first | (go_at_call 137; refine HPa.out.mono ?_; rintro x w5 ⟨rfl, m5, rfl⟩) | (go_at_call 136; refine (HVi.out _).mono ?_; rintro x w6 ⟨rfl, vL6, hk6, hp6⟩; have HK6 := Lib.hid hk6; have HP6 := Lib.hid ((HP.out.trans (Keep.below P vL4 (below_drewN (Below.refl _ _) m5))).trans hp6); obtain ⟨d6, db⟩ := HD6.out _ _ _ hk6; clear hk6 hp6))
            go_roundw
            case rel => exact ⟨t1, rfl, hb1, HT1, D4, _, HK6, HD4, HDo4, Lib.hid (HX3.out.trans HX4.out), HS4, HP6⟩
            case measure => simp [intOf]; omega
          | false =>
            have HS4 := Lib.hid (HNo.out rfl)
            clear HYes HNo HVi
            go_wp2_with (go_at_call 137; refine HPa.out.mono ?_; rintro x w5 ⟨rfl, m5, rfl⟩)
            go_roundw
            case rel => exact ⟨t1, rfl, hb1, HT1, D3, _, Lib.hid (HK.out.drewN _), HD, HDo, HX3, HS4, Lib.hid (HP.out.trans (Keep.below P vL4 (below_drewN (Below.refl _ _) _)))⟩
            case measure => simp [intOf]; omega
        · obtain rfl : t = -1 := by omega
          obtain ⟨z1, z2⟩ := HDone.out D3 HX3.out HSt.out HDo.out
          have HZ1 := Lib.hid z1
          clear z1
          go_wp2_with fail
          go_roundw
          case rel => exact ⟨k + 1, by go_num, by omega, D3, _, z2, HK, HD, HZ1, Lib.hid (HX.out.trans HX3.out), Lib.hid (HX3.out.has HH.out), HP⟩
          case measure => simp [intOf]; omega
    · have hkl : k = D2.L.length := by omega
      have HE := Lib.hid (HFinal.out wr D2 _ HK.out HD.out (by rw [← hkl]; exact HDo.out) HX.out HH.out HP.out)
      rw [← hl2e] at c9
      have hd2 : decide (k < l2) = false := by simp only [decide_eq_false_iff_not]; omega
      go_wp2_with fail
      go_end0
      exact HE.out
end Se
end Go.Proofs.Ythoidaaldngpmaa
