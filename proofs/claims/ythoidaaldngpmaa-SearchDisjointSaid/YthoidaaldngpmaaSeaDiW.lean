/-
  Walk of the law SearchDisjoint of layer 6.
-/
import Derived.Test.YthoidaaldngpmaaSeaAlW
namespace Go.Proofs.Ythoidaaldngpmaa
open Go.RowKit
namespace Se
open Cm Rx Au
theorem RdP.cells {w : World} {B : Option Addr} {n c : Nat} {L : List (Nat × Nat)} (h : RdP w (.slice B n c) L) (hp : 0 < L.length) :
    ∃ g off, B = some ⟨g, off, none⟩ ∧ ∀ k (h : k < L.length), w.cell? ⟨g, off + k * 2, none⟩ = some (.int .i64 (L[k].1 : Int)) ∧ w.cell? ⟨g, off + k * 2 + 1, none⟩ = some (.int .i64 (L[k].2 : Int)) := by
  obtain ⟨A, c', e, h⟩ := h
  injection e with e _ _
  subst e
  exact h hp
set_option maxRecDepth 100000 in
set_option maxHeartbeats 4000000 in
theorem disjoint_walk (v : Value) (us : List Int) (n : Int) (w : World) (h : RdV w v (intsV us)) (hu : us.length ≤ maxLen) (hn : -9223372036854775808 ≤ n ∧ n ≤ 9223372036854775807) :
    Calls Try.prog 11 #[v, .int .i64 n] w fun e w' => e = .returned (.bool true) ∧ Below w.heap.size w w' := by
  have HAw := Lib.hid (fun w => awake6_any w)
  have HMd := Lib.hid (Mk6.made_any v us n w h hu hn)
  have HWd := Lib.hid (fun W (hb : Below w.heap.size w W) => word_any v us 50 W (h.below hb) hu (by omega))
  have HVa : Hid (ValidA (Mk6.madeS us n) (Mk6.madeT us n)) := Lib.hid (Mk6.made_valid us n)
  clear h hu hn
  generalize Mk6.madeS us n = sS at *
  generalize Mk6.madeT us n = sT at *
  obtain ⟨st, rfl⟩ : ∃ st : Nat, sT = (st : Int) := ⟨sT.toNat, by have := of_decide_eq_true HVa.out.2.1; omega⟩
  have hw : ((50 : Nat) : Int) = 50 := rfl
  simp only [hw] at HWd
  clear hw
  go_enter Try.func11, Try.ntmps11
  go_upto_region 2 with (first
    | (go_at_call 34; refine HMd.out.mono ?_; rintro e w1 ⟨vS, rfl, ho, hb⟩; have HS := Lib.hid (RdT.of_own ho); obtain ⟨A, c, rfl, -⟩ := id HS.out; have HB1 : Hid (Below w.heap.size w w1) := Lib.hid hb; clear ho hb HMd)
    | (go_at_call 35; refine (HWd.out _ HB1.out).mono ?_; rintro e w2 ⟨s, hs, rfl, hb⟩; have HS2 := Lib.hid (HS.out.below hb); have HB2 := Lib.hid (below_ch HB1.out hb); clear hb HWd HS))
  have HI := Lib.hid (LawI.start (st := st) HS2.out HB2.out HB2.out.size)
  generalize w2.heap.size = Q at HI ⊢
  generalize w2.alloc _ = w3 at HI ⊢
  clear HS2 HB2 HB1
  have HBl : Hid ((Tx.bs s).length = s.size) := Lib.hid (bs_len s)
  have hlen : (allL sS st (Tx.bs s)).length ≤ 1000000 := by
    have := allG_len sS st (Tx.bs s) ((Tx.bs s).length + 1) 0
    have hb := bs_len s
    unfold allL
    omega
  have HL0 : Hid (allL sS st (Tx.bs s) = [] ++ allG sS st (Tx.bs s) (s.size + 1) 0) := Lib.hid (by rw [List.nil_append, ← HBl.out]; rfl)
  have HAny := Lib.hid (fun v W (h : RdT W v sS) => Any_ok v sS st s W h HVa.out (by omega))
  have HFi := Lib.hid (fun v (p : Nat) W (h : RdT W v sS) hp => Find_ok v sS st s p W h HVa.out (by omega) hp)
  have HAll := Lib.hid (fun v W (h : RdT W v sS) => All_ok v sS st s W h HVa.out (by omega))
  obtain ⟨i0, e0, h0⟩ : ∃ i0 e0 : Int, spanV (findF sS st (Tx.bs s) 0) = .agg #[.int .i64 i0, .int .i64 e0] := by cases findF sS st (Tx.bs s) 0 <;> exact ⟨_, _, rfl⟩
  have HF0 : Hid (∀ v W, RdT W v sS → Calls Try.prog 40 #[.agg #[v, .int .i64 (st : Int)], .string s, .int .i64 0] W fun e w' => e = .returned (.tuple #[.agg #[.int .i64 i0, .int .i64 e0], .bool (anyF sS st (Tx.bs s)), .int .i64 0]) ∧ Below W.heap.size W w') := Lib.hid (fun v W h => by
    have := HFi.out v 0 W h (Nat.zero_le _)
    unfold FindPost at this
    rw [h0] at this
    exact this)
  have hne : decide (0 < (allL sS st (Tx.bs s)).length) = anyF sS st (Tx.bs s) := by
    rw [HL0.out, List.nil_append]
    unfold anyF
    cases hf : findF sS st (Tx.bs s) 0 with
    | none => rw [allG_nil hf]; rfl
    | some x => rw [allG_cons hf]; simp
  clear h0
  generalize allL sS st (Tx.bs s) = L at HAll hlen HL0 hne
  generalize anyF sS st (Tx.bs s) = ba at HAny HF0 hne
  obtain ⟨⟨c0, c1⟩, -, -⟩ := box_cells HI.out.x
  go_upto_region 4 with (first
    | (go_at_call 38; refine (HAny.out _ _ HI.out.r).mono ?_; rintro e w4 ⟨rfl, hb⟩; have HI := Lib.hid (HI.out.below hb HI.out.b.size); clear c0 c1 hb; obtain ⟨⟨c0, c1⟩, -, -⟩ := box_cells HI.out.x)
    | (go_at_call 40; refine (HF0.out _ _ HI.out.r).mono ?_; rintro e w4 ⟨rfl, hb⟩; have HI := Lib.hid (HI.out.below hb HI.out.b.size); clear c0 c1 hb))
  have HI := Lib.hid (HI.out.below (span_new w4 (.int .i64 i0) (.int .i64 e0)).2 HI.out.b.size)
  generalize w4.heap.size = P at HI ⊢
  generalize w4.alloc _ = w5 at HI ⊢
  obtain ⟨⟨c0, c1⟩, -, -⟩ := box_cells HI.out.x
  go_upto_region 6 with (go_at_call 43; refine (HAll.out _ _ HI.out.r).mono ?_; rintro e w4 ⟨v4, rfl, ho, hb⟩; have HI := Lib.hid (HI.out.below hb HI.out.b.size); have hr := RdP.of_own ho; obtain ⟨B, cB, rfl, -⟩ := id hr; have HR := Lib.hid hr; clear c0 c1 hb ho hr)
  have HN : Hid (∀ p, p ≤ s.size → findF sS st (Tx.bs s) p = none → ∀ v W, RdT W v sS → Calls Try.prog 40 #[.agg #[v, .int .i64 (st : Int)], .string s, .int .i64 (p : Int)] W fun e w' => e = .returned (.tuple #[.agg #[.int .i64 0, .int .i64 0], .bool false, .int .i64 0]) ∧ Below W.heap.size W w') := Lib.hid (fun p hp hf v W h => by
    have h := HFi.out v p W h hp
    rw [hf] at h
    exact h)
  have HS : Hid (∀ p x, p ≤ s.size → findF sS st (Tx.bs s) p = some x → ∀ v W, RdT W v sS → Calls Try.prog 40 #[.agg #[v, .int .i64 (st : Int)], .string s, .int .i64 (p : Int)] W fun e w' => e = .returned (.tuple #[.agg #[.int .i64 (x.1 : Int), .int .i64 (x.2 : Int)], .bool true, .int .i64 0]) ∧ Below W.heap.size W w') := Lib.hid (fun p x hp hf v W h => by
    have h := HFi.out v p W h hp
    rw [hf] at h
    exact h)
  clear HFi HF0 HAny HAll hne HVa
  go_loopw [14, 15] (fun tp ti wr => ∃ (d p : Nat) (pre : List (Nat × Nat)), tp = .int .i64 (p : Int) ∧ ti = .int .i64 (pre.length : Int) ∧ p ≤ s.size + 1 ∧ s.size + 1 ≤ p + d ∧ Hid (L = pre ++ allG sS st (Tx.bs s) d p) ∧ Hid (LawI w.heap.size w (.slice A sS.length c) st sS Q wr) ∧ Hid (RdP wr (.slice B L.length cB) L)) (fun _ ti _ => L.length - (intOf ti).toNat)
  case atStart => exact ⟨s.size + 1, 0, [], by go_num, by go_num, by omega, by omega, HL0, HI, HR⟩
  case round =>
    clear HI HL0 HR
    obtain ⟨d, p, pre, rfl, rfl, hp1, hp2, HL, HI, HR⟩ := hrel
    obtain ⟨⟨c0, c1⟩, -, -⟩ := box_cells HI.out.x
    by_cases hlt : pre.length < L.length
    · have i2 : decide (pre.length < L.length) = true := by simpa using hlt
      cases hf : findF sS st (Tx.bs s) p with
      | none => exfalso; have h := HL.out; rw [allG_nil hf, List.append_nil] at h; rw [h] at hlt; omega
      | some x =>
        obtain ⟨-, hx1, hx2, hx3⟩ := findF_some hf
        rw [HBl.out] at hx3
        obtain ⟨d, rfl⟩ : ∃ d', d = d' + 1 := ⟨d - 1, by omega⟩
        have HE : Hid (L = (pre ++ [x]) ++ allG sS st (Tx.bs s) d (nextP x)) := Lib.hid (by rw [HL.out, allG_cons hf, List.append_assoc]; rfl)
        have HF := Lib.hid (HS.out p x (by omega) hf)
        have hLx : L[pre.length]? = some x := by rw [HL.out, allG_cons hf]; simp
        have hLg : L[pre.length] = x := by rw [List.getElem?_eq_getElem hlt] at hLx; injection hLx
        clear hf hLx
        go_upto_region 12 with (go_at_call 40; refine (HF.out _ _ HI.out.r).mono ?_; rintro e w6 ⟨rfl, hb⟩; have HI := Lib.hid (HI.out.below hb HI.out.b.size); have HR := Lib.hid (HR.out.below hb); clear c0 c1 hb)
        have hs6 := span_new w6 (.int .i64 (x.1 : Int)) (.int .i64 (x.2 : Int))
        have HI := Lib.hid (HI.out.below hs6.2 HI.out.b.size)
        have HR := Lib.hid (HR.out.below hs6.2)
        have HX := Lib.hid hs6.1
        clear hs6 HF
        generalize w6.heap.size = X at HX ⊢
        generalize w6.alloc _ = V at HI HR HX ⊢
        obtain ⟨⟨m0, m1⟩, -, -⟩ := box_cells HX.out
        obtain ⟨g, off, rfl, hc⟩ := HR.out.cells (by omega)
        obtain ⟨a0, a1⟩ := hc pre.length hlt
        rw [hLg] at a0 a1
        have k0 : (0 : Int) ≤ (pre.length : Int) := by omega
        have k1 : (pre.length : Int) < (L.length : Int) := by omega
        have e1 : ((x.1 : Int) == (x.1 : Int)) = true := beq_self_eq_true _
        have e2 : ((x.2 : Int) == (x.2 : Int)) = true := beq_self_eq_true _
        have e3 : decide (x.1 < p) = false := by simp only [decide_eq_false_iff_not]; omega
        have e4 : decide (x.2 < x.1) = false := by simp only [decide_eq_false_iff_not]; omega
        have e5 : decide (s.size < x.2) = false := by simp only [decide_eq_false_iff_not]; omega
        clear hc hLg
        have HIq : ∀ q, Hid (LawI w.heap.size w (.slice A sS.length c) st sS Q (V.drewN q)) := fun q => Lib.hid (HI.out.below (below_drewN (Below.refl _ _) q) HI.out.b.size)
        have HRq : ∀ q, Hid (RdP (V.drewN q) (.slice (some ⟨g, off, none⟩) L.length cB) L) := fun q => Lib.hid (HR.out.below (below_drewN (Below.refl _ _) q))
        go_quiet (fail)
        rw [← World.cell?_drewN (n := nq)] at a0 a1
        have HIn := HIq nq
        have HRn := HRq nq
        clear HIq HRq HI HR HX m0 m1 e1 e2 e3 e4 e5
        generalize V.drewN nq = U at a0 a1 HIn HRn ⊢
        have hpn : nextP x ≤ s.size + 1 ∧ p + 1 ≤ nextP x := by unfold nextP; split <;> omega
        have hln : ((pre.length : Int) + 1) = (((pre ++ [x]).length : Nat) : Int) := by rw [List.length_append, List.length_singleton]; omega
        have hl2 : (pre ++ [x]).length = pre.length + 1 := by rw [List.length_append, List.length_singleton]
        by_cases hq : x.2 = x.1
        · have hn : nextP x = x.1 + 1 := by unfold nextP; rw [if_pos hq, hq]
          have hq2 : ((x.2 : Int) == (x.1 : Int)) = true := by rw [hq]; exact beq_self_eq_true _
          have hx20 : (x.2 : Int) + 1 ≤ 9223372036854775807 := by omega
          have HNx : Hid ((x.2 : Int) + 1 = ((nextP x : Nat) : Int)) := Lib.hid (by rw [hn, hq]; omega)
          have HLn := Lib.hid hln
          have HL2 := Lib.hid hl2
          generalize nextP x = y at *
          clear hn hq hln hl2
          have HIm : ∀ q, Hid (LawI w.heap.size w (.slice A sS.length c) st sS Q (U.drewN q)) := fun q => Lib.hid (HIn.out.below (below_drewN (Below.refl _ _) q) HIn.out.b.size)
          have HRm : ∀ q, Hid (RdP (U.drewN q) (.slice (some ⟨g, off, none⟩) L.length cB) L) := fun q => Lib.hid (HRn.out.below (below_drewN (Below.refl _ _) q))
          go_upto_region 15 with fail
          go_quiet (fail)
          have HIz := HIm nq
          have HRz := HRm nq
          clear HIm HRm HIn HRn
          go_wp2_with fail
          go_roundw
          case rel => exact ⟨d, y, pre ++ [x], by rw [← HNx.out], by rw [← HLn.out], by omega, by omega, HE, HIz, HRz⟩
          case measure => simp [intOf]; omega
        · have hn : nextP x = x.2 := if_neg hq
          have hq2 : ((x.2 : Int) == (x.1 : Int)) = false := beq_false_of_ne (by omega)
          rw [hn] at HE hpn
          have HLn := Lib.hid hln
          clear hn hq hln hl2
          have HIm : ∀ q, Hid (LawI w.heap.size w (.slice A sS.length c) st sS Q (U.drewN q)) := fun q => Lib.hid (HIn.out.below (below_drewN (Below.refl _ _) q) HIn.out.b.size)
          have HRm : ∀ q, Hid (RdP (U.drewN q) (.slice (some ⟨g, off, none⟩) L.length cB) L) := fun q => Lib.hid (HRn.out.below (below_drewN (Below.refl _ _) q))
          go_upto_region 15 with fail
          go_quiet (fail)
          have HIz := HIm nq
          have HRz := HRm nq
          clear HIm HRm HIn HRn
          go_wp2_with fail
          go_roundw
          case rel => exact ⟨d, x.2, pre ++ [x], rfl, by rw [← HLn.out], by omega, by omega, HE, HIz, HRz⟩
          case measure => simp [intOf]; omega
    · have i2 : decide (pre.length < L.length) = false := by simpa using hlt
      have hG : allG sS st (Tx.bs s) d p = [] := by
        have h := congrArg List.length HL.out
        rw [List.length_append] at h
        exact List.length_eq_zero_iff.1 (by omega)
      by_cases hps : s.size < p
      · have i3 : decide (s.size < p) = true := by simpa using hps
        have HB := Lib.hid HI.out.b
        clear hG hlt
        go_wp2_with (go_at_call 42; refine (HAw.out _).mono ?_; rintro e w8 ⟨rfl, hb⟩; have HB8 := Lib.hid (below_ch HB.out hb); clear hb)
        go_ret
        exact ⟨rfl, HB8.out⟩
      · have i3 : decide (s.size < p) = false := by simpa using hps
        obtain ⟨d, rfl⟩ : ∃ d', d = d' + 1 := ⟨d - 1, by omega⟩
        have hf : findF sS st (Tx.bs s) p = none := by
          cases hf : findF sS st (Tx.bs s) p with
          | none => rfl
          | some x => rw [allG_cons hf] at hG; cases hG
        have HF := Lib.hid (HN.out p (by omega) hf)
        clear hG hlt hf
        go_wp2_with (first
          | (go_at_call 40; refine (HF.out _ _ HI.out.r).mono ?_; rintro e w6 ⟨rfl, hb⟩; have HB : Hid (∀ o, Below w.heap.size w (w6.alloc o)) := Lib.hid (fun o => have h := HI.out.b.trans (hb.mono HI.out.b.size); h.alloc h.size o); clear c0 c1 hb)
          | (go_at_call 42; refine (HAw.out _).mono ?_; rintro e w8 ⟨rfl, hb⟩; have HB8 := Lib.hid (below_ch (HB.out _) hb); clear hb))
        go_ret
        exact ⟨rfl, HB8.out⟩
end Se
end Go.Proofs.Ythoidaaldngpmaa
