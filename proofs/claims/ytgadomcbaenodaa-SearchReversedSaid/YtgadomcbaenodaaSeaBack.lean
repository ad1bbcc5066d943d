/-
  Walk of layer 6: the program's back. Condition: a valid automaton.
-/
import Derived.Test.YtgadomcbaenodaaSeaS
namespace Go.Proofs.Ytgadomcbaenodaa
open Go.RowKit
namespace Se
open Cm Rx Au
variable {n st : Nat} {w0 w1 w : World} {P : Parts} {D : Dyn} {vL vM : Value}
/-- What back leaves. -/
def BackPost (ss : List St) (st i : Nat) (w0 w1 w : World) (P : Parts) (x : Ending) (w' : World) : Prop :=
  x = .returned (.tuple #[]) ∧ ∃ D' vL' vM', Wk ss.length st w0 w1 w' P D' vL' vM' ∧ DP ss (Tx.bs P.s) i D' ∧ FinOk ss st (Tx.bs P.s) i D'.fin ∧ K1 w w'
set_option maxRecDepth 100000 in
set_option maxHeartbeats 1000000 in
theorem back_any (ss : List St) (hS : WkS ss w1 P) (h : Wk ss.length st w0 w1 w P D vL vM) (i : Nat) (hd : DP ss (Tx.bs P.s) (i + 1) D) (hi : i ≤ P.s.size) (hsz : P.s.size ≤ 100000) (hst : st < ss.length) (h8 : ss.length ≤ 8000) :
    Calls Try.prog 45 #[.pointer (some ⟨P.B, 0, none⟩)] w (BackPost ss st i w0 w1 w P) := by
  have HS := Lib.hid hS
  have HDP := Lib.hid hd
  have hat := hd.at_
  obtain ⟨A, c, hvm⟩ := own_formP h.fm
  subst hvm
  obtain ⟨AL, cL, hvl⟩ := own_formP h.lv
  subst hvl
  have c8 : w.cell? ⟨P.B, 8, none⟩ = some (.int .i64 D.at_) := h.own 8 rfl
  rw [hat] at c8
  have f8 := h.free 8
  have c12 : w.cell? ⟨P.B, 12, none⟩ = some (.int .i64 D.fin) := h.own 12 rfl
  have f12 := h.free 12
  have c10 : w.cell? ⟨P.B, 10, none⟩ = some (.slice A D.M.length c) := h.own 10 rfl
  have f10 := h.free 10
  have c9 : w.cell? ⟨P.B, 9, none⟩ = some (.slice AL D.L.length cL) := h.own 9 rfl
  have f9 := h.free 9
  have hw1 : IntKind.i64.wrap (((i + 1 : Nat) : Int) - 1) = (i : Int) := by rw [IntWalk.i64_in _ (by omega)]; omega
  have hK1 : Wk ss.length st w0 w1 (w.setCell ⟨P.B, 8, none⟩ (.int .i64 (i : Int))) P { D with at_ := (i : Int) } (.slice AL D.L.length cL) (.slice A D.M.length c) := h.setB 8 _ _ rfl rfl rfl hS.ne rfl
  have HK2 : Hid (Wk ss.length st w0 w1 ((w.setCell ⟨P.B, 8, none⟩ (.int .i64 (i : Int))).setCell ⟨P.B, 12, none⟩ (.int .i64 (-1))) P { D with at_ := (i : Int), fin := -1 } (.slice AL D.L.length cL) (.slice A D.M.length c)) := Lib.hid (hK1.setB 12 _ _ rfl rfl rfl hS.ne rfl)
  have HKa : Hid (K1 w ((w.setCell ⟨P.B, 8, none⟩ (.int .i64 (i : Int))).setCell ⟨P.B, 12, none⟩ (.int .i64 (-1)))) := Lib.hid (K1.setB2 h 8 12 _ _)
  have hcap : D.M.length ≤ c := by
    rcases h.fm.2 with ⟨e, e2⟩ | ⟨g, cap, cur, e, _, _, hle, _⟩
    · omega
    · injection e with _ _ e3; omega
  clear hK1 h hd hS hat
  generalize hml : D.M.length = ml at c10 hcap HK2
  generalize hll : D.L.length = ll at c9 HK2
  go_enter Try.func45, Try.ntmps45
  go_upto_region 2 with fail
  generalize (w.setCell ⟨P.B, 8, none⟩ (.int .i64 (i : Int))).setCell ⟨P.B, 12, none⟩ (.int .i64 (-1)) = w2 at HK2 HKa ⊢
  clear c8 f8 c12 f12 c10 f10 c9 f9 hw1
  have c10 : w2.cell? ⟨P.B, 10, none⟩ = some (.slice A ml c) := HK2.out.own 10 rfl
  have f10 := HK2.out.free 10
  have c9 : w2.cell? ⟨P.B, 9, none⟩ = some (.slice AL ll cL) := HK2.out.own 9 rfl
  have f9 := HK2.out.free 9
  go_region_with (fail)
  all_goals
    have HK3 : Hid (Wk ss.length st w0 w1 ((w2.setCell ⟨P.B, 9, none⟩ (.slice A 0 c)).setCell ⟨P.B, 10, none⟩ (.slice AL ll cL)).drew P (swapD D i) (.slice A 0 c) (.slice AL ll cL)) := Lib.hid ((HK2.out.swap HS.out.ne).drewN 1)
    have HKb : Hid (K1 w ((w2.setCell ⟨P.B, 9, none⟩ (.slice A 0 c)).setCell ⟨P.B, 10, none⟩ (.slice AL ll cL)).drew) := Lib.hid ((HKa.out.trans (K1.setB2 HK2.out 9 10 _ _)).drewN 1)
    generalize ((w2.setCell ⟨P.B, 9, none⟩ (.slice A 0 c)).setCell ⟨P.B, 10, none⟩ (.slice AL ll cL)).drew = w3 at HK3 HKb ⊢
    clear HKa HK2 c9 f9 c10 f10
    have c10 : w3.cell? ⟨P.B, 10, none⟩ = some (.slice AL ll cL) := HK3.out.own 10 rfl
    have HD0 := Lib.hid (HDP.out.start (st := st) P.s.size)
    have HLl := Lib.hid hll
    have HBs := Lib.hid (bs_len P.s)
    have hll8 : ll ≤ 8000 := by
      have := len_of_nodup ss.length (D.L.map Prod.fst) HDP.out.pl.nodup (fun x hx => by
        obtain ⟨⟨q, e⟩, h1, rfl⟩ := List.mem_map.1 hx
        exact ((HDP.out.pl.mem q e).1 h1).1.lt)
      rw [List.length_map, hll] at this
      omega
    have HB0 : Hid (∀ j (h : j < D.L.length), 0 ≤ j → D.L[j].2 ≤ P.s.size) := Lib.hid (fun j h _ => by
      have h1 := ((HDP.out.pl.mem _ _).1 (show (D.L[j].1, D.L[j].2) ∈ D.L from List.getElem_mem h)).1.le.2
      rw [HBs.out] at h1; exact h1)
    have HS0 : Hid (SeedsTo ss (Tx.bs P.s) i D.L 0 []) := Lib.hid (fun j h1 h2 => absurd h2 (Nat.not_lt_zero _))
    have HE0 : Hid (DoneTo ss P.s.size i [] 0) := Lib.hid (fun j h1 h2 => absurd h2 (Nat.not_lt_zero _))
    clear hll hml hcap
    go_wp2_with fail
    clear c10
    go_loopw [37] (fun a wr => ∃ m : Nat, a = .int .i64 (m : Int) ∧ m ≤ ll ∧ ∃ D2 vL2 E, Hid (Wk ss.length st w0 w1 wr P D2 vL2 (.slice AL ll cL)) ∧ Hid (DG ss st (Tx.bs P.s) i E D2) ∧ Hid (DoneTo ss P.s.size i D2.L D2.L.length) ∧ Hid (D2.M = D.L) ∧ Hid (SeedsTo ss (Tx.bs P.s) i D.L m D2.L) ∧ Hid (∀ j (h : j < D.L.length), m ≤ j → D.L[j].2 ≤ E) ∧ Hid (i ≤ E) ∧ Hid (K1 w wr)) (fun a _ => ll - (intOf a).toNat)
    case atStart => exact ⟨0, by go_num, Nat.zero_le _, swapD D i, _, P.s.size, HK3, HD0, HE0, Lib.hid rfl, HS0, HB0, Lib.hid hi, HKb⟩
    case round =>
      clear HK3 HD0 HE0 HS0 HB0 HKb
      obtain ⟨m, rfl, hml, D2, vL2, E, HK, HD, HDo, HM, HSe, HBd, HiE, HKf⟩ := hrel
      by_cases hlt : m < ll
      · have hx : m < D.L.length := by rw [HLl.out]; exact hlt
        obtain ⟨g, c3, hvl, p0, p1⟩ := HK.out.placeM HM.out hx
        injection hvl with hA hlq hc
        clear hlq
        subst hA hc
        have hbest := (HDP.out.pl.mem _ _).1 (show (D.L[m].1, D.L[m].2) ∈ D.L from List.getElem_mem hx)
        have HRun := Lib.hid hbest.1
        have HE1 := Lib.hid (HBd.out m hx (Nat.le_refl _))
        have HD3 := Lib.hid (HD.out.less HE1.out)
        have HB1 : Hid (∀ j (h : j < D.L.length), m + 1 ≤ j → D.L[j].2 ≤ D.L[m].2) := Lib.hid (fun j h hj => List.pairwise_iff_getElem.1 HDP.out.pl.sorted m j hx h (by omega))
        have HStep : Hid (∀ L, SeedsTo ss (Tx.bs P.s) i D.L m L → ReadsTo ss (Tx.bs P.s) i D.L[m].1 (-1) L D.L[m].2 → SeedsTo ss (Tx.bs P.s) i D.L (m + 1) L) := Lib.hid (fun L h1 h2 => h1.step hx h2)
        generalize D.L[m].1 = r at p0 HRun HStep
        generalize D.L[m].2 = E1 at p1 HRun HD3 HB1 HStep
        clear hbest HE1 HBd HD
        have i0 : (0 : Int) ≤ (m : Int) := by omega
        have i1 : (m : Int) < (ll : Int) := by omega
        have hd2 : decide (m < ll) = true := by simp only [decide_eq_true_eq]; omega
        go_upto_region 6 with fail
        have HAl : Hid (Below wr.heap.size wr (wr.alloc (.cells #[.int .i64 (r : Int), .int .i64 (E1 : Int)] tPl))) := Lib.hid ((Below.refl _ _).alloc (Nat.le_refl _) _)
        have HK4 := Lib.hid (HK.out.below HAl.out)
        have HKg := Lib.hid (HKf.out.trans (.below HAl.out))
        have HBb : Hid ((wr.alloc (.cells #[.int .i64 (r : Int), .int .i64 (E1 : Int)] tPl)).heap[wr.heap.size]? = some (.cells #[.int .i64 (r : Int), .int .i64 (E1 : Int)] tPl (0, 0))) := Lib.hid (heap_new wr _)
        have HNe : Hid (vL2.ownBlock ≠ some wr.heap.size) := Lib.hid (fun e => by have := (HK.out.lv.lt _ e).2; omega)
        have HLo : Hid (w1.heap.size ≤ wr.heap.size ∧ wr.heap.size ≠ P.B ∧ wr.heap.size ≠ P.gs) := Lib.hid (by have h1 := HK.out.size; have h2 := HK.out.lo; exact ⟨h1, by omega, by omega⟩)
        have HBig : Hid (wr.heap.size < (wr.alloc (.cells #[.int .i64 (r : Int), .int .i64 (E1 : Int)] tPl)).heap.size) := Lib.hid (by simp)
        generalize wr.alloc (.cells #[.int .i64 (r : Int), .int .i64 (E1 : Int)] tPl) = w4 at HK4 HKg HBb HBig ⊢
        clear HK HAl p0 p1
        generalize wr.heap.size = Bb at HBb HNe HLo HBig ⊢
        have hrn := HRun.out.lt
        have hri := HRun.out.le
        rw [HBs.out] at hri
        have c3 : w4.cell? ⟨P.B, 3, none⟩ = some (.slice (some ⟨P.R1, 0, none⟩) ss.length ss.length) := HK4.out.own 3 rfl
        have cb0 : w4.cell? ⟨Bb, 0, none⟩ = some (.int .i64 (r : Int)) := by simp only [World.cell?, HBb.out]; rfl
        have cl : w4.cell? ⟨P.R1, r, none⟩ = some (.int .i64 (prevS (readX ss r) (2 * ss.length))) := by
          have h := HK4.out.cell HS.out.n1.1 HS.out.n1.2 (cell_ints HS.out.r1 (j := r) (by rw [lastF_len]; exact hrn))
          rw [lastF_get hrn] at h
          exact h
        have HRS := Lib.hid (ReadsTo.start ss (Tx.bs P.s) i r D2.L E1)
        have HT0 : Hid (∀ t : Nat, prevS (readX ss r) (2 * ss.length) = (t : Int) → readX ss r t = true) := Lib.hid (fun t ht => (prevS_hit ht).1)
        have ht1 := prevS_ge (readX ss r) (2 * ss.length)
        generalize prevS (readX ss r) (2 * ss.length) = t0 at cl HRS HT0 ht1
        have i2 : (0 : Int) ≤ (r : Int) := by omega
        have i3 : (r : Int) < (ss.length : Int) := by omega
        obtain ⟨nn, hnn⟩ : ∃ nn, nn = ss.length := ⟨_, rfl⟩
        have HNN := Lib.hid hnn.symm
        rw [← hnn] at c3 i3
        clear hnn
        go_quiet (fail)
        have HK5 := Lib.hid (HK4.out.drewN nq)
        have HKh := Lib.hid (HKg.out.drewN nq)
        have HBb5 : Hid ((w4.drewN nq).heap[Bb]? = some (.cells #[.int .i64 (r : Int), .int .i64 (E1 : Int)] tPl (0, 0))) := Lib.hid (((below_drewN (Below.refl w4.heap.size w4) nq).block _ HBig.out).trans HBb.out)
        generalize w4.drewN nq = w5 at HK5 HKh HBb5 ⊢
        clear HKf HKg HK4 HBb HBig c3 cb0 cl
        go_wp2_with fail
        go_loopw [4] (fun b wr => ∃ t : Int, b = .int .i64 t ∧ -1 ≤ t ∧ Hid (∀ t' : Nat, t = (t' : Int) → readX ss r t' = true) ∧ ∃ D4 vL4, Hid (Wk ss.length st w0 w1 wr P D4 vL4 (.slice (some ⟨g, 0, none⟩) ll cL)) ∧ Hid (DG ss st (Tx.bs P.s) i E1 D4) ∧ Hid (DoneTo ss P.s.size i D4.L D4.L.length) ∧ Hid (D4.M = D.L) ∧ Hid (SeedsTo ss (Tx.bs P.s) i D.L m D4.L) ∧ Hid (ReadsTo ss (Tx.bs P.s) i r t D4.L E1) ∧ Hid (wr.heap[Bb]? = some (.cells #[.int .i64 (r : Int), .int .i64 (E1 : Int)] tPl (0, 0))) ∧ Hid (vL4.ownBlock ≠ some Bb) ∧ Hid (K1 w wr)) (fun b _ => (intOf b + 1).toNat)
        case atStart => exact ⟨t0, rfl, ht1, HT0, D2, _, HK5, HD3, HDo, HM, HSe, HRS, HBb5, HNe, HKh⟩
        case round =>
          clear HK5 HD3 HDo HM HSe HRS HBb5 HNe HT0 ht1 HKh
          obtain ⟨t, rfl, ht1, HTf, D4, vL4, HK, HD, HDo, HM, HSe, HRd, HBb, HNe, HKf⟩ := hrel
          by_cases ht : 0 ≤ t
          · obtain ⟨t', rfl⟩ := Int.eq_ofNat_of_zero_le ht
            have HF := Lib.hid (HTf.out t' rfl)
            have hu := readX_lt HF.out
            have HTg : Hid (tgtF ss t' = r) := Lib.hid (readX_tgt HF.out).symm
            have hii : i < P.s.size := by omega
            have hbsi : i < (Tx.bs P.s).length := by rw [HBs.out]; exact hii
            have HRc := Lib.hid (fun k => reads_any P.bA (P.oA + t' / 2 * 7) ss[t' / 2] P.s[i] (wr.drewN k) (by
              have h := HS.out.st (t' / 2) hu
              obtain ⟨h0, h1, h2, h3, h4, h5, h6⟩ := h
              have hw := HK.out.drewN k
              exact ⟨hw.cell HS.out.na.1 HS.out.na.2 h0, hw.cell HS.out.na.1 HS.out.na.2 h1, hw.cell HS.out.na.1 HS.out.na.2 h2, hw.cell HS.out.na.1 HS.out.na.2 h3, hw.cell HS.out.na.1 HS.out.na.2 h4, hw.cell HS.out.na.1 HS.out.na.2 h5, hw.cell HS.out.na.1 HS.out.na.2 h6⟩))
            have HD6 : Hid (∀ W D' vL', Wk ss.length st w0 w1 W P D' vL' (.slice (some ⟨g, 0, none⟩) ll cL) → W.cell? ⟨P.B, 4, none⟩ = some (.slice (some ⟨P.R2, 0, none⟩) (2 * ss.length) (2 * ss.length)) ∧ W.cell? ⟨P.R2, t', none⟩ = some (.int .i64 (prevS (readX ss r) t'))) := Lib.hid (fun W D' vL' hW => by
              refine ⟨hW.own 4 rfl, ?_⟩
              have h := hW.cell HS.out.n2.1 HS.out.n2.2 (cell_ints HS.out.r2 (j := t') (by rw [befF_len]; omega))
              rw [befF_get (by omega) (by omega) (by rw [HTg.out]; exact HF.out), HTg.out] at h
              exact h)
            obtain ⟨c4, cb⟩ := HD6.out _ _ _ HK.out
            have c0 : wr.cell? ⟨P.B, 0, none⟩ = some (.slice (some ⟨P.bA, P.oA, none⟩) ss.length P.c) := HK.out.own 0 rfl
            have c2 : wr.cell? ⟨P.B, 2, none⟩ = some (.string P.s) := HK.out.own 2 rfl
            have c8 : wr.cell? ⟨P.B, 8, none⟩ = some (.int .i64 (i : Int)) := by rw [← HD.out.at_]; exact HK.out.own 8 rfl
            have ce : wr.cell? ⟨Bb, 1, none⟩ = some (.int .i64 (E1 : Int)) := by simp only [World.cell?, HBb.out]; rfl
            have i4 : (0 : Int) ≤ (t' : Int) := by omega
            have i5 : (t' : Int) < ((2 * ss.length : Nat) : Int) := by omega
            have i6 : (0 : Int) ≤ (i : Int) := by omega
            have i7 : (i : Int) < (P.s.size : Int) := by omega
            have i8 : (0 : Int) ≤ ((t' / 2 : Nat) : Int) := by omega
            have i9 : ((t' / 2 : Nat) : Int) < (ss.length : Int) := by omega
            have HYes : Hid (ss[t' / 2].set P.s[i].toNat = true → ∀ k, Calls Try.prog 61 #[.pointer (some ⟨P.B, 0, none⟩), .int .i64 ((t' / 2 : Nat) : Int), .int .i64 (E1 : Int)] (wr.drewN k) (ReachPost ss st i E1 (t' / 2) w0 w1 P D4 (.slice (some ⟨g, 0, none⟩) ll cL) wr vL4)) := Lib.hid (fun hp k => (reach_any ss HS.out (HK.out.drewN k) i E1 (t' / 2) HD.out HDo.out (run_read HRun.out HF.out ⟨hu, hbsi, hp⟩) hst h8).mono fun x w' hh => by
              obtain ⟨z0, D', vL', z1, z2, z3, z4, z5, z6⟩ := hh
              exact ⟨z0, D', vL', z1, z2, z3, z4, z5, (Keep.below P vL4 (below_drewN (Below.refl _ _) k)).trans z6⟩)
            have HNx : Hid (∀ L, (∀ q e, Se.Has D4.L q e → Se.Has L q e) → (ss[t' / 2].set P.s[i].toNat = true → Se.Has L (t' / 2) E1) → ReadsTo ss (Tx.bs P.s) i r (prevS (readX ss r) t') L E1) := Lib.hid (fun L h1 h2 => (HRd.out.has h1).next (fun hh => by obtain ⟨_, _, h3⟩ := hh; exact h2 h3))
            have HT1 : Hid (∀ t'' : Nat, prevS (readX ss r) t' = (t'' : Int) → readX ss r t'' = true) := Lib.hid (fun t'' h => (prevS_hit h).1)
            have hb1 := prevS_ge (readX ss r) t'
            have hb2 := prevS_lt (readX ss r) t'
            generalize prevS (readX ss r) t' = t1 at cb HD6 HNx HT1 hb1 hb2
            generalize 2 * ss.length = m2 at c4 HD6 i5
            have e7 : wrap64 ((t' / 2 : Nat) : Int) = ((t' / 2 : Nat) : Int) := by first | exact IntWalk.i64_in _ (by omega) | (unfold wrap64; omega)
            have e5 : (t' : Int) / 2 = ((t' / 2 : Nat) : Int) := by omega
            generalize ss[t' / 2].set P.s[i].toNat = R at HRc HYes HNx
            generalize t' / 2 = u at e5 e7 i8 i9 HRc HYes HNx
            obtain ⟨nm, hnm⟩ : ∃ nm, nm = ss.length := ⟨_, rfl⟩
            have HNM := Lib.hid hnm.symm
            rw [← hnm] at c0 i9
            clear HF HTg hu HTf HRd ht hnm
            cases R with
            | true =>
              have HRe := Lib.hid (HYes.out rfl)
              clear HYes
              go_upto_region 9 with fail
              go_quiet ((go_at_call 60; exact (HRc.out _).mono fun e w' hh => ⟨hh.1, _, hh.2⟩))
              go_wp2_with fail
              refine (HRe.out _).mono ?_
              rintro x w6 ⟨rfl, D6, vL6, hk6, hd6, hdo6, hx6, hh6, hp6⟩
              have HK6 := Lib.hid hk6
              have HX6 := Lib.hid hx6
              have HBb6 : Hid (w6.heap[Bb]? = some (.cells #[.int .i64 (r : Int), .int .i64 (E1 : Int)] tPl (0, 0))) := Lib.hid ((hp6.same Bb (lt_some HBb.out) HLo.out.2.1 HLo.out.2.2 HNe.out).trans HBb.out)
              have HNe6 : Hid (vL6.ownBlock ≠ some Bb) := Lib.hid (fun e => by
                rcases hp6.blk Bb e with h | h
                · exact HNe.out h
                · have h2 := lt_some HBb.out
                  omega)
              have HKg := Lib.hid (HKf.out.trans (K1.keep HK.out hp6))
              have HH6 := Lib.hid (HNx.out D6.L (fun q e h => hx6.has h) (fun _ => hh6))
              have HD7 := Lib.hid hd6
              have HDo7 := Lib.hid hdo6
              obtain ⟨d4, db⟩ := HD6.out _ _ _ hk6
              clear hk6 hd6 hdo6 hx6 hh6 hp6
              go_wp2_with fail
              go_roundw
              case rel => exact ⟨t1, rfl, hb1, HT1, D6, _, HK6, HD7, HDo7, Lib.hid (HX6.out.2.trans HM.out), Lib.hid (HSe.out.has (fun q e h => HX6.out.has h)), HH6, HBb6, HNe6, HKg⟩
              case measure => simp [intOf]; omega
            | false =>
              have HH6 := Lib.hid (HNx.out D4.L (fun q e h => h) (fun h => by cases h))
              clear HYes HNx
              go_upto_region 9 with fail
              go_quiet ((go_at_call 60; exact (HRc.out _).mono fun e w' hh => ⟨hh.1, _, hh.2⟩))
              go_wp2_with fail
              go_roundw
              case rel => exact ⟨t1, rfl, hb1, HT1, D4, _, Lib.hid (HK.out.drewN _), HD, HDo, HM, HSe, HH6, Lib.hid (((below_drewN (Below.refl wr.heap.size wr) _).block _ (lt_some HBb.out)).trans HBb.out), HNe, Lib.hid (HKf.out.drewN _)⟩
              case measure => simp [intOf]; omega
          · obtain rfl : t = -1 := by omega
            have HSn := Lib.hid (HStep.out D4.L HSe.out HRd.out)
            go_wp2_with fail
            go_roundw
            case rel => exact ⟨m + 1, by go_num, by omega, D4, _, E1, HK, HD, HDo, HM, HSn, HB1, Lib.hid (by omega), HKf⟩
            case measure => simp [intOf]; omega
      · obtain rfl : m = ll := by omega
        have hd2 : decide (m < m) = false := by simp
        obtain ⟨ca, hva⟩ := HS.out.acc
        have HVa := Lib.hid hva
        have c7 : wr.cell? ⟨P.B, 7, none⟩ = some (.slice (if P.accs = [] then none else some ⟨P.ba, 0, none⟩) P.accs.length ca) := by rw [← hva]; exact HK.out.own 7 rfl
        clear hva
        have HD9 := Lib.hid (HD.out.less HiE.out)
        have HAc0 : Hid (∀ j (h : j < P.accs.length), j < 0 → ∀ k : Nat, P.accs[j] = (k : Int) → Se.Has D2.L k i) := Lib.hid (fun j _ h => absurd h (Nat.not_lt_zero _))
        have HAl : Hid (P.accs.length ≤ 1000000) := Lib.hid (by have := HS.out.accl; omega)
        obtain ⟨na, hna⟩ : ∃ na, na = P.accs.length := ⟨_, rfl⟩
        have HNa := Lib.hid hna.symm
        have HIf : Hid (0 < na → (if P.accs = [] then none else some (⟨P.ba, 0, none⟩ : Addr)) = some ⟨P.ba, 0, none⟩) := Lib.hid (fun h => if_neg (fun e => by rw [hna, e] at h; cases h))
        rw [← hna] at c7 HAl
        clear hna
        have hna6 := HAl.out
        generalize (if P.accs = [] then none else some (⟨P.ba, 0, none⟩ : Addr)) = Aa at c7 HIf
        clear HD HiE HBd
        go_wp2_with fail
        clear c7
        go_loopw [90] (fun b wr => ∃ m2 : Nat, b = .int .i64 (m2 : Int) ∧ m2 ≤ na ∧ ∃ D4 vL4, Hid (Wk ss.length st w0 w1 wr P D4 vL4 (.slice AL m cL)) ∧ Hid (DG ss st (Tx.bs P.s) i i D4) ∧ Hid (DoneTo ss P.s.size i D4.L D4.L.length) ∧ Hid (SeedsTo ss (Tx.bs P.s) i D.L m D4.L) ∧ Hid (∀ j (h : j < P.accs.length), j < m2 → ∀ k : Nat, P.accs[j] = (k : Int) → Se.Has D4.L k i) ∧ Hid (K1 w wr)) (fun b _ => na - (intOf b).toNat)
        case atStart => exact ⟨0, by go_num, Nat.zero_le _, D2, _, HK, HD9, HDo, HSe, HAc0, HKf⟩
        case round =>
          clear HK HD9 HDo HSe HAc0 HKf
          obtain ⟨m2, rfl, hm2, D4, vL4, HK, HD, HDo, HSe, HAc, HKf⟩ := hrel
          by_cases hlt2 : m2 < na
          · obtain rfl : Aa = some ⟨P.ba, 0, none⟩ := HIf.out (by omega)
            have hx : m2 < P.accs.length := by rw [HNa.out]; exact hlt2
            obtain ⟨q, hq, hqn, hqk⟩ := (HS.out.accm _).1 (List.getElem_mem hx)
            have cq := HK.out.cell HS.out.n5.1 HS.out.n5.2 (HS.out.accc m2 hx)
            have HAcS : Hid (∀ L, (∀ q e, Se.Has D4.L q e → Se.Has L q e) → Se.Has L q i → ∀ j (h : j < P.accs.length), j < m2 + 1 → ∀ k : Nat, P.accs[j] = (k : Int) → Se.Has L k i) := Lib.hid (fun L h1 h2 j h hj k hk => by
              by_cases e : j = m2
              · subst e
                rw [hq] at hk
                obtain rfl : q = k := by omega
                exact h2
              · exact h1 _ _ (HAc.out j h (by omega) k hk))
            rw [hq] at cq
            clear hq
            have HRe := Lib.hid (reach_any ss HS.out HK.out i i q HD.out HDo.out (.acc hqn hqk (by rw [HBs.out]; exact hi)) hst h8)
            have c8 : wr.cell? ⟨P.B, 8, none⟩ = some (.int .i64 (i : Int)) := by rw [← HD.out.at_]; exact HK.out.own 8 rfl
            have i0 : (0 : Int) ≤ (m2 : Int) := by omega
            have i1 : (m2 : Int) < (na : Int) := by omega
            have hd3 : decide (m2 < na) = true := by simp only [decide_eq_true_eq]; omega
            clear hqk hqn HAc
            go_wp2_with (go_at_call 61; refine HRe.out.mono ?_; rintro x w6 ⟨rfl, D6, vL6, hk6, hd6, hdo6, hx6, hh6, hp6⟩; have HK6 := Lib.hid hk6; have HX6 := Lib.hid hx6; have HH6 := Lib.hid hh6; have HD7 := Lib.hid hd6; have HDo7 := Lib.hid hdo6; have HKg := Lib.hid (HKf.out.trans (K1.keep HK.out hp6)); clear hk6 hd6 hdo6 hx6 hh6 hp6)
            go_roundw
            case rel => exact ⟨m2 + 1, by go_num, by omega, D6, _, HK6, HD7, HDo7, Lib.hid (HSe.out.has (fun q e h => HX6.out.has h)), Lib.hid (HAcS.out D6.L (fun q e h => HX6.out.has h) HH6.out), HKg⟩
            case measure => simp [intOf]; omega
          · obtain rfl : m2 = na := by omega
            have hd3 : decide (m2 < m2) = false := by simp
            have HFi := Lib.hid (HD.out.finish (accs := P.accs) HDP.out (by rw [HBs.out]; exact HDo.out) (by rw [HLl.out]; exact HSe.out) HS.out.accm (fun k hk => by
              obtain ⟨j, hj, ej⟩ := List.mem_iff_getElem.1 hk
              exact HAc.out j hj (by rw [← HNa.out]; exact hj) k ej))
            go_wp2_with fail
            go_end0
            exact ⟨rfl, D4, _, _, HK.out, HFi.out.1, HFi.out.2, HKf.out⟩
end Se
end Go.Proofs.Ytgadomcbaenodaa
