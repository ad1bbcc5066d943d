/-
  The walk of the law ShortestLeast of layer 9. No conditions.
-/
import Derived.Test.YtlnjhacchnfbkaaShoPre
import Derived.Test.YtlnjhacchnfbkaaShoMet
import Derived.Test.YtlnjhacchnfbkaaShoLeaM
import Derived.Test.YtlnjhacchnfbkaaScrFitX
namespace Go.Proofs.Ytlnjhacchnfbkaa
open Go.RowKit
namespace Sh
open Cm Sc Au
theorem Com_rd (va vb : Value) (a b : List Int) (w : World) (ha : RdV w va (intsV a)) (hb : RdV w vb (intsV b)) (hla : a.length ≤ 4096) (hlb : b.length ≤ 4096) (hza : ∀ z ∈ a, zB z) (hzb : ∀ z ∈ b, zB z) :
    Calls Try.prog 16 #[va, vb] w (NumPost (lcs a b) w) := by
  obtain ⟨A, c, rfl⟩ := ha.form
  obtain ⟨B, d, rfl⟩ := hb.form
  rw [intsV_len] at ha hb ⊢
  rw [intsV_len]
  exact Common_at A B c d _ _ a b w (Lib.hid ha) (Lib.hid hb) hla hlb (Lib.hid rfl) (Lib.hid rfl) (Lib.hid hza) (Lib.hid hzb)
theorem scr_mt (a b : List Int) : mtF (a.length : Int) 0 0 (scrF a b) = wkF 0 0 a b := by
  have h := mt_fr (m := (a.length : Int)) (n := (b.length : Int)) (wkF 0 0 a b) 0 0 0 0 rfl (Int.le_refl _) (by omega) (by omega) (wk_okP a b)
  rw [show ((0 : Int) - 0).toNat = 0 from rfl, run_zero, List.nil_append] at h
  exact h
theorem scr_size (a b : List Int) (ha : a.length ≤ 4096) (hb : b.length ≤ 4096) : szO (scrF a b) + szN (scrF a b) = dist a b ∧ (a.length : Int) - szO (scrF a b) = lcs a b ∧ (b.length : Int) - szN (scrF a b) = lcs a b := by
  have h := mt_len (scrF a b) true 0 0 ⟨by omega, by omega⟩ ⟨by omega, by omega⟩ (by omega) (fun _ => rfl) (scr_ok a b)
  rw [scr_mt, wkF_len] at h
  unfold dist
  omega
theorem scr_fits (a b : List Int) (ha : a.length ≤ 4096) (hb : b.length ≤ 4096) : fitsB (scrF a b) a b = true := by
  refine fitsB_T (chkF_ok ⟨by omega, by omega⟩ ⟨by omega, by omega⟩ (scr_ok a b)) fun s hs => ?_
  rw [scr_mt] at hs
  obtain ⟨p, q, h1, h2, h3, h4, h5⟩ := wk_equal 0 0 a b s hs
  unfold eqAt
  rw [h1, h2]
  simp only [Nat.zero_add, Int.toNat_natCast, List.getD_eq_getElem?_getD, List.getElem?_eq_getElem h3, List.getElem?_eq_getElem h4, h5]
set_option maxRecDepth 100000 in
set_option maxHeartbeats 16000000 in
theorem least_walk (v vp : Value) (us ps : List Int) (kinds : Int) (w : World) (h : RdV w v (intsV us)) (hu : us.length ≤ maxLen) (hk : -9223372036854775808 ≤ kinds ∧ kinds ≤ 9223372036854775807) (hp : RdV w vp (intsV ps)) (_hpl : ps.length ≤ maxLen) (hpb : ∀ z ∈ ps, -9223372036854775808 ≤ z ∧ z ≤ 9223372036854775807) :
    Calls Try.prog 5 #[v, .int .i64 kinds, vp] w (AwPost w) := by
  have HAw := Lib.hid (fun w => awake_any w)
  have HPa := Lib.hid (pair_any v us kinds w h hu hk)
  have HPb := Lib.hid hpb
  have HPr := Lib.hid (fun wq (hb : Below w.heap.size w wq) => hp.below hb)
  have HLe := Lib.hid (fun (A B : Option Addr) (c d : Nat) (a b : List Int) (w : World) (h1 : RdV w (.slice A a.length c) (intsV a)) (h2 : RdV w (.slice B b.length d) (intsV b)) hla hlb hza hzb => Com_rd _ _ a b w h1 h2 hla hlb hza hzb)
  obtain ⟨A, c, rfl⟩ := h.form
  obtain ⟨Ap, cp, rfl⟩ := hp.form
  clear h hu hk hp hpb
  rw [intsV_len] at HPa HPr ⊢
  rw [intsV_len]
  unfold maxLen at _hpl
  generalize us.length = nu at *
  obtain ⟨np, hnp⟩ : ∃ np, np = ps.length := ⟨_, rfl⟩
  have HNp := Lib.hid hnp
  rw [← hnp] at _hpl HPr ⊢
  clear hnp
  go_enter Try.func5, Try.ntmps5
  go_wp2_with fail
  refine HPa.out.mono ?_
  rintro e w1 ⟨va, vb, a, b, rfl, ⟨hla, hza⟩, ⟨hlb, hzb⟩, hoa, hob, hb1⟩
  obtain ⟨A1, c1, rfl⟩ := own_form hoa
  obtain ⟨A2, c2, rfl⟩ := own_form hob
  have HA1 := Lib.hid (RdV.of_own hoa)
  have HB1 := Lib.hid (RdV.of_own hob)
  have HW1 := Lib.hid hb1
  have HZa := Lib.hid hza
  have HZb := Lib.hid hzb
  clear hoa hob hb1 hza hzb HPa
  have HS1 := Lib.hid (Scr_rd _ _ a b w1 HA1.out HB1.out (by omega) (by omega) HZa.out HZb.out)
  go_wp2_with fail
  refine HS1.out.mono ?_
  rintro e w2 ⟨vl, rfl, hol, hb⟩
  have HL2 := Lib.hid hol.rd
  obtain ⟨A4, c4, rfl⟩ := hol.rd.form
  have HA2 := Lib.hid (HA1.out.below hb)
  have HB2 := Lib.hid (HB1.out.below hb)
  have HW2 := Lib.hid (HW1.out.trans (hb.mono HW1.out.size))
  clear hol hb HS1 HA1 HB1 HW1
  have HS1 := Lib.hid (Dist_rd _ _ a b w2 HA2.out HB2.out (by omega) (by omega) HZa.out HZb.out)
  go_wp2_with fail
  refine HS1.out.mono ?_
  rintro e w3 ⟨rfl, hb⟩
  have HL3 := Lib.hid (HL2.out.below hb)
  have HA3 := Lib.hid (HA2.out.below hb)
  have HB3 := Lib.hid (HB2.out.below hb)
  have HW3 := Lib.hid (HW2.out.trans (hb.mono HW2.out.size))
  clear hb HS1 HA2 HB2 HW2 HL2
  have HS1 := Lib.hid (Com_rd _ _ a b w3 HA3.out HB3.out (by omega) (by omega) HZa.out HZb.out)
  go_wp2_with fail
  refine HS1.out.mono ?_
  rintro e w4 ⟨rfl, hb⟩
  have HL4 := Lib.hid (HL3.out.below hb)
  have HA4 := Lib.hid (HA3.out.below hb)
  have HB4 := Lib.hid (HB3.out.below hb)
  have HW4 := Lib.hid (HW3.out.trans (hb.mono HW3.out.size))
  clear hb HS1 HA3 HB3 HW3 HL3
  have hsl := scr_len a b
  have HS1 := Lib.hid (FitsR_any _ (scrF a b) _ _ a b w4 HL4.out (by omega) HA4.out HB4.out)
  unfold FtPost at HS1
  rw [scr_fits a b (by omega) (by omega)] at HS1
  go_wp2_with fail
  refine HS1.out.mono ?_
  rintro e w5 ⟨rfl, hb⟩
  have HL5 := Lib.hid (HL4.out.below hb)
  have HA5 := Lib.hid (HA4.out.below hb)
  have HB5 := Lib.hid (HB4.out.below hb)
  have HW5 := Lib.hid (HW4.out.trans (hb.mono HW4.out.size))
  clear hb HS1 HA4 HB4 HW4 HL4
  have HS1 := Lib.hid (SizeR_any _ (scrF a b) w5 HL5.out (by omega))
  unfold SzPost at HS1
  obtain ⟨z1, z2, z3⟩ := scr_size a b (by omega) (by omega)
  have y1 := szO_bd (scrF a b)
  have y2 := szN_bd (scrF a b)
  have hd0 := lcs_le a b
  have HLc : Hid (0 + lcs (a.drop 0) (b.drop 0) ≤ lcs a b) := Lib.hid (by simp)
  have HPk := Lib.hid (fun i j p q many h hp hq h1 h2 he => lcs_pick (a := a) (b := b) (i := i) (j := j) (p := p) (q := q) (many := many) h hp hq h1 h2 he)
  generalize szO (scrF a b) = so at *
  generalize szN (scrF a b) = sn at *
  generalize dist a b = di at *
  generalize scrF a b = l at *
  generalize l.length = nl at *
  generalize lcs a b = L at *
  go_wp2_with fail
  refine HS1.out.mono ?_
  rintro e w6 ⟨rfl, hb⟩
  have HA6 := Lib.hid (HA5.out.below hb)
  have HB6 := Lib.hid (HB5.out.below hb)
  have HW6 := Lib.hid (HW5.out.trans (hb.mono HW5.out.size))
  clear hb HS1 HA5 HB5 HW5 HL5
  obtain ⟨na, hna⟩ : ∃ na, na = a.length := ⟨_, rfl⟩
  obtain ⟨nb, hnb⟩ : ∃ nb, nb = b.length := ⟨_, rfl⟩
  have HNa := Lib.hid hna
  have HNb := Lib.hid hnb
  rw [← hna] at hla z2 hd0
  rw [← hnb] at hlb z3 hd0
  rw [← hna, ← hnb]
  rw [← hna] at HA6
  rw [← hnb] at HB6
  clear hna hnb
  go_wp2_with fail
  go_loopw [17, 18, 19, 20] (fun i' j' m' k' wr => ∃ i j many k : Nat, k ≤ 42 ∧ i ≤ 2 * k ∧ j ≤ 2 * k ∧ many ≤ L ∧ i' = .int .i64 (i : Int) ∧ j' = .int .i64 (j : Int) ∧ m' = .int .i64 (many : Int) ∧ k' = .int .i64 (k : Int) ∧ Hid (many + lcs (a.drop i) (b.drop j) ≤ L) ∧ Hid (Below w6.heap.size w6 wr)) (fun _ _ _ k' _ => 42 - (intOf k').toNat)
  case atStart => exact ⟨0, 0, 0, 0, by omega, by omega, by omega, by omega, rfl, rfl, rfl, rfl, HLc, Lib.hid (Below.refl _ _)⟩
  case round =>
    obtain ⟨i, j, many, k, hk, hi, hj, hmn, rfl, rfl, rfl, rfl, HI, HBl⟩ := hrel
    by_cases hlt : k + 1 < np ∧ k < 40
    · obtain ⟨h1, h2⟩ := hlt
      have x1 : k < ps.length := by rw [← HNp.out]; omega
      have x2 : k + 1 < ps.length := by rw [← HNp.out]; omega
      have hrp := HPr.out wr (HW6.out.trans (HBl.out.mono HW6.out.size))
      obtain ⟨b1, o1, rfl, p1⟩ := int_at hrp k x1
      obtain ⟨b1', o1', he1, p2⟩ := int_at hrp (k + 1) x2
      have hb1 := HPb.out _ (List.getElem_mem x1)
      have hb2 := HPb.out _ (List.getElem_mem x2)
      injection he1 with he1
      injection he1 with he2 he3
      subst he2 he3
      generalize ps[k] = y1 at p1 hb1
      generalize ps[k + 1] = y2 at p2 hb2
      obtain ⟨F, hF1, hF2⟩ : ∃ F : Int → Int, (∀ y, 0 ≤ F y ∧ F y < 4) ∧ ∀ y W, -9223372036854775808 ≤ y → y ≤ 9223372036854775807 → Calls Try.prog 25 #[.int .i64 y, .int .i64 4] W fun e w' => e = .returned (.int .i64 (F y)) ∧ w' = W := ⟨fun y => Tx.modF y 4, fun y => ⟨Tx.modF_lo y 4 (by omega), Tx.modF_hi y 4 (by omega)⟩, fun y W g1 g2 => (Tx.Mod_any y 4 W (by omega) (by omega) g1 g2).mono fun _ _ h => ⟨h.1, h.2.symm⟩⟩
      have HM := Lib.hid hF2
      obtain ⟨m1, m2⟩ := hF1 y1
      obtain ⟨m3, m4⟩ := hF1 y2
      obtain ⟨t1, ht1⟩ : ∃ N : Nat, F y1 = (N : Int) := ⟨_, (Int.toNat_of_nonneg m1).symm⟩
      obtain ⟨t2, ht2⟩ : ∃ N : Nat, F y2 = (N : Int) := ⟨_, (Int.toNat_of_nonneg m3).symm⟩
      obtain ⟨v1, v2⟩ := hb1
      obtain ⟨v3, v4⟩ := hb2
      have u1 : t1 < 4 := by omega
      have u2 : t2 < 4 := by omega
      have HT1 := Lib.hid ht1
      have HT2 := Lib.hid ht2
      have i0 : (0 : Int) ≤ (k : Int) := by omega
      have i1 : (k : Int) < (np : Int) := by omega
      have i2 : (k : Int) + 1 < (np : Int) := by omega
      have i3 : (0 : Int) ≤ (k : Int) + 1 := by omega
      have i4 : k < 40 := h2
      have s0 : IntKind.i64.wrap ((k : Int) + 1) = (k : Int) + 1 := by rw [IntWalk.i64_in _ (by omega)]
      have s1 : ((k : Int) + 1).toNat = k + 1 := by omega
      have s2 : IntKind.i64.wrap ((i : Int) + F y1) = (i : Int) + F y1 := by rw [IntWalk.i64_in _ (by omega)]
      have s3 : IntKind.i64.wrap ((j : Int) + F y2) = (j : Int) + F y2 := by rw [IntWalk.i64_in _ (by omega)]
      clear hrp x1 x2 ht1 ht2 hF1 hF2 m1 m2 m3 m4
      go_upto_region 12 with fail
      go_quiet ((go_at_call 25; exact Calls.quiet_of_same (HM.out _ _ (by assumption) (by assumption))))
      rw [HT1.out, HT2.out]
      have HBq := Lib.hid (below_drewN HBl.out nq)
      have e1 : (i : Int) + (t1 : Int) = ((i + t1 : Nat) : Int) := by omega
      have e2 : (j : Int) + (t2 : Int) = ((j + t2 : Nat) : Int) := by omega
      rw [e1, e2]
      obtain ⟨P, hP⟩ : ∃ P, P = i + t1 := ⟨_, rfl⟩
      obtain ⟨Q, hQ⟩ : ∃ Q, Q = j + t2 := ⟨_, rfl⟩
      rw [← hP, ← hQ]
      have g1 : i ≤ P := by omega
      have g2 : j ≤ Q := by omega
      have g3 : P ≤ i + 3 := by omega
      have g4 : Q ≤ j + 3 := by omega
      clear e1 e2 hP hQ p1 p2 s0 s1 s2 s3 v1 v2 v3 v4 u1 u2 HT1 HT2 HM HBl
      generalize World.drewN wr nq = wq at *
      have P0 : (0 : Int) ≤ (P : Int) := by omega
      have Q0 : (0 : Int) ≤ (Q : Int) := by omega
      by_cases c3 : P < na
      · have d3 : decide (P < na) = true := decide_eq_true c3
        have P1 : (P : Int) < (na : Int) := by omega
        by_cases c4 : Q < nb
        · have d4 : decide (Q < nb) = true := decide_eq_true c4
          have Q1 : (Q : Int) < (nb : Int) := by omega
          have X1 : P < a.length := by rw [← HNa.out]; exact c3
          have X2 : Q < b.length := by rw [← HNb.out]; exact c4
          obtain ⟨ba, oa, rfl, r1⟩ := int_at (HA6.out.below HBq.out) P X1
          obtain ⟨bb, ob, rfl, r2⟩ := int_at (HB6.out.below HBq.out) Q X2
          by_cases he : a[P] = b[Q]
          · have HI2 := Lib.hid (HPk.out i j P Q many HI.out g1 g2 X1 X2 he)
            have hm2 : many + 1 ≤ L := by have := HI2.out; omega
            rw [he] at r1
            clear HI he
            generalize b[Q] = z at r1 r2
            clear X1 X2
            go_wp2_with fail
            go_quiet (fail)
            have HBr := Lib.hid (below_drewN HBq.out nq)
            go_wp2_with fail
            go_roundw
            case rel => exact ⟨P + 1, Q + 1, many + 1, k + 2, by omega, by omega, by omega, hm2, by go_num, by go_num, by go_num, by go_num, HI2, HBr⟩
            case measure => simp [intOf]; omega
          · have hx : (a[P] == b[Q]) = false := by simpa using he
            clear he
            generalize a[P] = y at r1 hx
            generalize b[Q] = z at r2 hx
            clear X1 X2
            go_wp2_with fail
            go_quiet (fail)
            have HBr := Lib.hid (below_drewN HBq.out nq)
            go_wp2_with fail
            go_roundw
            case rel => exact ⟨i, j, many, k + 2, by omega, by omega, by omega, hmn, rfl, rfl, rfl, by go_num, HI, HBr⟩
            case measure => simp [intOf]; omega
        · have d4 : decide (Q < nb) = false := decide_eq_false c4
          go_wp2_with fail
          go_quiet (fail)
          have HBr := Lib.hid (below_drewN HBq.out nq)
          go_wp2_with fail
          go_roundw
          case rel => exact ⟨i, j, many, k + 2, by omega, by omega, by omega, hmn, rfl, rfl, rfl, by go_num, HI, HBr⟩
          case measure => simp [intOf]; omega
      · have d3 : decide (P < na) = false := decide_eq_false c3
        go_wp2_with fail
        go_quiet (fail)
        have HBr := Lib.hid (below_drewN HBq.out nq)
        go_wp2_with fail
        go_roundw
        case rel => exact ⟨i, j, many, k + 2, by omega, by omega, by omega, hmn, rfl, rfl, rfl, by go_num, HI, HBr⟩
        case measure => simp [intOf]; omega
    · have HBf := Lib.hid (HW6.out.trans (HBl.out.mono HW6.out.size))
      have z4 : so + sn = di := z1
      have f1 : (so + sn == di) = true := by rw [beq_iff_eq]; exact z1
      have f2 : ((na : Int) - so == (L : Int)) = true := by rw [beq_iff_eq]; exact z2
      have f3 : ((nb : Int) - sn == (L : Int)) = true := by rw [beq_iff_eq]; exact z3
      have f4 : decide (many ≤ L) = true := decide_eq_true hmn
      obtain ⟨y11, y12⟩ := y1
      obtain ⟨y21, y22⟩ := y2
      have g1 : 0 ≤ so := y11
      have g2 : 0 ≤ sn := y21
      have g3 : so ≤ 12 := by omega
      have g4 : sn ≤ 12 := by omega
      have HF1 := Lib.hid f1
      by_cases c1 : k + 1 < np
      · have c2 : ¬ k < 40 := fun h => hlt ⟨c1, h⟩
        have d1 : decide (k + 1 < np) = true := decide_eq_true c1
        have d1' : decide ((k : Int) + 1 < (np : Int)) = true := by rw [decide_eq_true_iff]; omega
        have d2 : decide (k < 40) = false := decide_eq_false c2
        have d2' : decide ((k : Int) < 40) = false := by rw [decide_eq_false_iff_not]; omega
        clear hlt z1 z2 z3 z4 HI HPk
        go_wp2_with fail
        refine (HAw.out _).mono ?_
        rintro e w11 ⟨rfl, hb⟩
        have HW11 := Lib.hid (HBf.out.trans (hb.mono HBf.out.size))
        go_wp2_with fail
        go_ret
        exact ⟨rfl, HW11.out⟩
      · have d1 : decide (k + 1 < np) = false := decide_eq_false c1
        have d1' : decide ((k : Int) + 1 < (np : Int)) = false := by rw [decide_eq_false_iff_not]; omega
        clear hlt z1 z2 z3 z4 HI HPk
        go_wp2_with fail
        refine (HAw.out _).mono ?_
        rintro e w11 ⟨rfl, hb⟩
        have HW11 := Lib.hid (HBf.out.trans (hb.mono HBf.out.size))
        go_wp2_with fail
        go_ret
        exact ⟨rfl, HW11.out⟩
end Sh
end Go.Proofs.Ytlnjhacchnfbkaa
