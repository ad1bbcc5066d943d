/-
  The walk of the law OccurGreatest of layer 7. No conditions.
-/
import Derived.Test.YthpolbiekdijjaaOccWord
import Derived.Test.YthpolbiekdijjaaOccCutM
namespace Go.Proofs.Ythpolbiekdijjaa
open Go.RowKit
namespace Oc
open Tx Cm
/-- How many there are from an offset on. -/
def cntG (n s : List UInt8) (p : Nat) : Nat := (posL n s p).length
theorem cnt_mono_aux {n s : List UInt8} : ∀ {l l2 : List Nat} {p p2 : Nat}, p2 ≤ p → IsPos n s p l → IsPos n s p2 l2 → l.length ≤ l2.length
  | [], _, _, _, _, _, _ => Nat.zero_le _
  | x :: l, [], p, p2, h, h1, h2 => absurd h1.2.1 (h2 x (by have := h1.1; omega))
  | x :: l, i :: l2, p, p2, h, h1, h2 => by
    have hix : i ≤ x := by
      rcases Nat.lt_or_ge x i with h3 | h3
      · exact absurd h1.2.1 (h2.2.2.1 x (by have := h1.1; omega) h3)
      · exact h3
    have := cnt_mono_aux (l := l) (l2 := l2) (p := x + n.length) (p2 := i + n.length) (by omega) h1.2.2.2 h2.2.2.2
    simp only [List.length_cons]; omega
theorem cnt_mono {n s : List UInt8} {p p2 : Nat} (h : p2 ≤ p) : cntG n s p ≤ cntG n s p2 := cnt_mono_aux h (posL_is n s p) (posL_is n s p2)
theorem cnt_step {n s : List UInt8} {e p : Nat} (he : e ≤ p) (ho : OccAt n s p) : cntG n s (p + n.length) + 1 ≤ cntG n s e := by
  have h1 := posL_is n s e
  unfold cntG
  cases hl : posL n s e with
  | nil => rw [hl] at h1; exact absurd ho (h1 p he)
  | cons i l =>
    rw [hl] at h1
    have hip : i ≤ p := by
      rcases Nat.lt_or_ge p i with h3 | h3
      · exact absurd ho (h1.2.2.1 p he h3)
      · exact h3
    have := cnt_mono_aux (l := posL n s (p + n.length)) (l2 := l) (p := p + n.length) (p2 := i + n.length) (by omega) (posL_is n s _) h1.2.2.2
    rw [List.length_cons]; omega
theorem pos_occ {n s : List UInt8} : ∀ {l : List Nat} {p : Nat}, IsPos n s p l → ∀ i (h : i < l.length), OccAt n s l[i]
  | x :: l, p, h, 0, _ => h.2.1
  | x :: l, p, h, i + 1, hi => by
    rw [List.getElem_cons_succ]
    exact pos_occ (l := l) h.2.2.2 i (by rw [List.length_cons] at hi; omega)
theorem pos_gap {n s : List UInt8} : ∀ {l : List Nat} {p : Nat}, IsPos n s p l → ∀ i (h : i + 1 < l.length), l[i] + n.length ≤ l[i + 1]
  | x :: y :: l, p, h, 0, _ => h.2.2.2.1
  | x :: l, p, h, i + 1, hi => by
    rw [List.getElem_cons_succ, List.getElem_cons_succ]
    exact pos_gap (l := l) h.2.2.2 i (by rw [List.length_cons] at hi; omega)
set_option maxRecDepth 100000 in
set_option maxHeartbeats 8000000 in
theorem great_walk (v u : Value) (N : Nat) (ps : List Int) (w : World) (hv : RdI w v N) (hN : N ≤ maxLen) (hu : RdV w u (intsV ps)) (_hps : ps.length ≤ maxLen) (hpb : ∀ z ∈ ps, -9223372036854775808 ≤ z ∧ z ≤ 9223372036854775807) :
    Calls Try.prog 6 #[v, u] w fun e w' => e = .returned (.bool true) ∧ Below w.heap.size w w' := by
  have HAw := Lib.hid (fun w => awake_any w)
  have HW1 : Hid (∀ w2, Below w.heap.size w w2 → Calls Try.prog 12 #[v, .int .i64 0, .int .i64 4] w2 (WordPost 4 w2)) := Lib.hid (fun w2 hb => word_any v N 0 4 w2 (hv.below hb) hN (by omega) (by omega))
  have HW2 : Hid (∀ w2, Below w.heap.size w w2 → Calls Try.prog 12 #[v, .int .i64 20, .int .i64 30] w2 (WordPost 30 w2)) := Lib.hid (fun w2 hb => word_any v N 20 30 w2 (hv.below hb) hN (by omega) (by omega))
  clear hv hN
  have HU := Lib.hid hu
  have HPb := Lib.hid hpb
  obtain ⟨Au, cu, rfl⟩ := hu.form
  clear hu
  rw [intsV_len] at HU ⊢
  obtain ⟨M, hM⟩ : ∃ M, ps.length = M := ⟨_, rfl⟩
  rw [hM] at HU _hps ⊢
  have HM := Lib.hid hM
  unfold maxLen at _hps
  clear hpb hM
  go_enter Try.func6, Try.ntmps6
  go_wp2_with fail
  refine (HW1.out _ (Below.refl _ _)).mono ?_
  rintro e w1 ⟨n, hn, _, rfl, hb⟩
  have HB1 := Lib.hid hb
  clear hb
  go_wp2_with fail
  refine (HW2.out _ HB1.out).mono ?_
  rintro e w2 ⟨s, hs, _, rfl, hb⟩
  have HB2 := Lib.hid (HB1.out.trans (hb.mono HB1.out.size))
  clear hb HB1
  go_wp2_with fail
  refine (Positions_any n s _ (by omega) (by omega)).mono ?_
  rintro e w3 ⟨y, rfl, hr, hb⟩
  have HB3 := Lib.hid (HB2.out.trans (hb.mono HB2.out.size))
  clear hb HB2 HW1 HW2
  obtain ⟨A, c, rfl⟩ := own_form hr
  obtain ⟨L, hLe⟩ : ∃ L, posL (bs n) (bs s) 0 = L := ⟨_, rfl⟩
  have hp := posL_is (bs n) (bs s) 0
  have HG : Hid (cntG (bs n) (bs s) 0 = L.length) := Lib.hid (by unfold cntG; rw [hLe])
  have HCt := Lib.hid (fun w => Count_any n s w (by omega) (by omega))
  unfold CountPost at HCt
  rw [hLe] at hr hp HCt ⊢
  have hcnt := hp.count (Nat.zero_le _)
  rw [bs_len] at hcnt
  have HR := Lib.hid hr
  have HP := Lib.hid hp
  clear hr hp hLe
  obtain ⟨len, hlen⟩ : ∃ len, L.length = len := ⟨_, rfl⟩
  rw [hlen] at HR HG HCt hcnt ⊢
  have HL := Lib.hid hlen
  clear hlen
  go_wp2_with fail
  go_loopw [8] (fun i wr => ∃ j : Nat, i = .int .i64 (j : Int) ∧ j ≤ len ∧ ∃ m, wr = w3.drewN m) (fun i _ => len - (intOf i).toNat)
  case atStart => exact ⟨0, by go_num, Nat.zero_le _, 0, rfl⟩
  case round =>
    obtain ⟨j, rfl, hj, m, rfl⟩ := hrel
    by_cases hlt : j < len
    · have hd : decide (j < len) = true := by simpa using hlt
      have hx : j < L.length := by rw [HL.out]; exact hlt
      obtain ⟨he, b1, o1, rfl, hcs⟩ := (RdV.of_own HR.out).at (by rw [intsV_len, natsI_len]; omega)
      clear he hcs
      have hcell := row_cell HR.out hx
      have ho := pos_occ HP.out j hx
      have hle := ho.le
      rw [bs_len, bs_len] at hle
      obtain ⟨e0, e1⟩ := nonempty_of n (by omega)
      have hex := (occ_iff n s _ hle.2).1 ho
      have HGp := Lib.hid (fun i (h : i + 1 < L.length) => pos_gap HP.out i h)
      by_cases hj0 : j = 0
      · subst hj0
        clear HGp
        rw [Nat.add_zero] at hcell
        generalize L[0] = x at hcell ho hle hex
        have d1 : decide ((x : Int) < 0) = false := by simp only [decide_eq_false_iff_not]; omega
        have d2 : decide ((s.size : Int) < (x : Int) + (n.size : Int)) = false := by simp only [decide_eq_false_iff_not]; omega
        have d3 : ((s.extract x (x + n.size)).toList == n.toList) = true := by rw [hex]; simp
        have i1 : ((x : Int) + (n.size : Int)).toNat = x + n.size := by omega
        have i2 : IntKind.i64.wrap ((x : Int) + (n.size : Int)) = (x : Int) + (n.size : Int) := IntWalk.i64_in _ (by omega)
        have i3 : (0 : Int) ≤ (x : Int) := by omega
        have i4 : (0 : Int) ≤ (x : Int) + (n.size : Int) := by omega
        have i5 : (x : Int) + (n.size : Int) ≤ (s.size : Int) := by omega
        have i6 : (x : Int) ≤ (x : Int) + (n.size : Int) := by omega
        clear ho hle hex
        go_wp2_with fail
        go_quiet (fail)
        go_wp2_with fail
        go_roundw
        case rel => exact ⟨1, by go_num, by omega, m + nq, by first | rfl | rw [World.drewN_drewN]⟩
        case measure => simp [intOf]; omega
      · obtain ⟨i, rfl⟩ : ∃ i, j = i + 1 := ⟨j - 1, by omega⟩
        have hgap := HGp.out i hx
        rw [bs_len] at hgap
        have hcell2 := row_cell HR.out (show i < L.length by omega)
        clear HGp hj0
        generalize L[i] = y at hgap hcell2
        generalize L[i + 1] = x at hcell ho hle hex hgap
        rw [show ((i + 1 : Nat) : Int) = (i : Int) + 1 from rfl]
        have hd2 : decide ((i : Int) + 1 < (len : Int)) = true := by simp only [decide_eq_true_eq]; omega
        have d1 : decide ((x : Int) < 0) = false := by simp only [decide_eq_false_iff_not]; omega
        have d2 : decide ((s.size : Int) < (x : Int) + (n.size : Int)) = false := by simp only [decide_eq_false_iff_not]; omega
        have d3 : ((s.extract x (x + n.size)).toList == n.toList) = true := by rw [hex]; simp
        have d4 : decide ((0 : Int) < (i : Int) + 1) = true := by simp only [decide_eq_true_eq]; omega
        have d5 : decide ((x : Int) < (y : Int) + (n.size : Int)) = false := by simp only [decide_eq_false_iff_not]; omega
        have i1 : ((x : Int) + (n.size : Int)).toNat = x + n.size := by omega
        have i2 : IntKind.i64.wrap ((x : Int) + (n.size : Int)) = (x : Int) + (n.size : Int) := IntWalk.i64_in _ (by omega)
        have i3 : (0 : Int) ≤ (x : Int) := by omega
        have i4 : (0 : Int) ≤ (x : Int) + (n.size : Int) := by omega
        have i5 : (x : Int) + (n.size : Int) ≤ (s.size : Int) := by omega
        have i6 : (x : Int) ≤ (x : Int) + (n.size : Int) := by omega
        have i7 : IntKind.i64.wrap ((y : Int) + (n.size : Int)) = (y : Int) + (n.size : Int) := IntWalk.i64_in _ (by omega)
        have i8 : IntKind.i64.wrap (i : Int) = (i : Int) := IntWalk.i64_in _ (by omega)
        have i9 : (0 : Int) ≤ (i : Int) := by omega
        have j1 : (i : Int) < (len : Int) := by omega
        have j2 : (0 : Int) ≤ (i : Int) + 1 := by omega
        have j3 : (i : Int) + 1 < (len : Int) := by omega
        have j4 : ((i : Int) + 1).toNat = i + 1 := by omega
        clear ho hle hex hgap
        go_wp2_with fail
        go_quiet (fail)
        go_wp2_with fail
        go_roundw
        case rel => exact ⟨i + 1 + 1, by go_num, by omega, m + nq, by first | rfl | rw [World.drewN_drewN]⟩
        case measure => simp [intOf]; omega
    · have hd : decide (j < len) = false := by simpa using hlt
      have HB4 := Lib.hid (below_drewN HB3.out m)
      generalize World.drewN w3 m = w4 at HB4 ⊢
      have HU4 := Lib.hid (HU.out.below HB4.out)
      clear HU
      go_wp2_with fail
      go_loopw [9, 10, 11, 12] (fun en mn i p wr => ∃ j en' mn' : Nat, i = .int .i64 (j : Int) ∧ j ≤ M ∧ en = .int .i64 (en' : Int) ∧ en' ≤ s.size ∧ mn = .int .i64 (mn' : Int) ∧ mn' + cntG (bs n) (bs s) en' ≤ len ∧ wr = w4) (fun _ _ i _ _ => M - (intOf i).toNat)
      case atStart => exact ⟨0, 0, 0, by go_num, Nat.zero_le _, by go_num, Nat.zero_le _, by go_num, by rw [HG.out]; omega, rfl⟩
      case round =>
        obtain ⟨j2, en, mn, rfl, hj2, rfl, hen, rfl, hmn, rfl⟩ := hrel
        have hm1 : decide (mn ≤ len) = true := by simp only [decide_eq_true_eq]; omega
        by_cases h1 : j2 < M
        · have q1 : decide (j2 < M) = true := by simpa using h1
          by_cases h2 : j2 < 40
          · have q2 : decide (j2 < 40) = true := by simpa using h2
            by_cases h3 : n.size = 0
            · obtain rfl := empty_of n h3
              clear hmn h3
              go_wp2_with fail
              refine (HCt.out _).mono ?_
              rintro e w5 ⟨rfl, hb⟩
              have HB5 := Lib.hid (HB4.out.trans (hb.mono HB4.out.size))
              clear hb
              go_wp2_with fail
              refine (HAw.out _).mono ?_
              rintro e w6 ⟨rfl, hb⟩
              go_wp2_with fail
              go_ret
              exact ⟨rfl, HB5.out.trans (hb.mono HB5.out.size)⟩
            · obtain ⟨e0, e1⟩ := nonempty_of n (by omega)
              have hxp : j2 < ps.length := by rw [HM.out]; exact h1
              obtain ⟨he, b1, o1, rfl, hcs⟩ := HU4.out.at (by rw [intsV_len]; omega)
              have hcell := hcs j2 (by rw [intsV_len]; omega)
              have hval : (intsV ps)[j2]'(by rw [intsV_len]; omega) = .int .i64 ps[j2] := by simp [intsV]
              rw [hval] at hcell
              obtain ⟨z1, z2⟩ := HPb.out ps[j2] (List.getElem_mem hxp)
              clear hcs hval he
              generalize ps[j2] = z at hcell z1 z2
              have d1 := modF_lo z 5 (by omega)
              have d2 := modF_hi z 5 (by omega)
              have HMd := Lib.hid (fun w => Mod_any z 5 w (by omega) (by omega) z1 z2)
              generalize modF z 5 = d at d1 d2 HMd
              obtain ⟨d, rfl⟩ := Int.eq_ofNat_of_zero_le d1
              clear z1 z2
              have k1 : (0 : Int) ≤ (j2 : Int) := by omega
              have k2 : (j2 : Int) < (M : Int) := by omega
              have k3 : ((en : Int) + (d : Int)).toNat = en + d := by omega
              have k4 : ((en : Int) + (d : Int) + (n.size : Int)).toNat = en + d + n.size := by omega
              have HO := Lib.hid (occ_iff n s (en + d) (by omega))
              by_cases h4 : en + d + n.size ≤ s.size
              · have r1 : decide ((en : Int) + (d : Int) + (n.size : Int) ≤ (s.size : Int)) = true := by simp only [decide_eq_true_eq]; omega
                have r2 : (en : Int) + (d : Int) + (n.size : Int) ≤ (s.size : Int) := by omega
                have r3 : (en : Int) + (d : Int) ≤ (en : Int) + (d : Int) + (n.size : Int) := by omega
                have r4 : (0 : Int) ≤ (en : Int) + (d : Int) := by omega
                by_cases h5 : s.extract (en + d) (en + d + n.size) = n
                · have hst := cnt_step (n := bs n) (s := bs s) (e := en) (p := en + d) (by omega) (HO.out.2 h5)
                  rw [bs_len] at hst
                  have HSt : Hid (mn + 1 + cntG (bs n) (bs s) (en + d + n.size) ≤ len) := Lib.hid (by omega)
                  have r5 : ((s.extract (en + d) (en + d + n.size)).toList == n.toList) = true := by rw [h5]; simp
                  clear h5 hst
                  go_wp2_with (go_at_call 13; refine (HMd.out _).mono ?_; rintro e w8 ⟨rfl, rfl⟩)
                  go_roundw
                  case rel => exact ⟨j2 + 1, en + d + n.size, mn + 1, by go_num, by omega, by go_num, h4, by go_num, HSt.out, by first | rfl | trivial⟩
                  case measure => simp [intOf]; omega
                · have r5 : ((s.extract (en + d) (en + d + n.size)).toList == n.toList) = false := by rw [str_beq]; exact decide_eq_false h5
                  clear h5
                  go_wp2_with (go_at_call 13; refine (HMd.out _).mono ?_; rintro e w8 ⟨rfl, rfl⟩)
                  go_roundw
                  case rel => exact ⟨j2 + 1, en, mn, by go_num, by omega, rfl, hen, rfl, hmn, by first | rfl | trivial⟩
                  case measure => simp [intOf]; omega
              · have r1 : decide ((en : Int) + (d : Int) + (n.size : Int) ≤ (s.size : Int)) = false := by simp only [decide_eq_false_iff_not]; omega
                go_wp2_with (go_at_call 13; refine (HMd.out _).mono ?_; rintro e w8 ⟨rfl, rfl⟩)
                go_roundw
                case rel => exact ⟨j2 + 1, en, mn, by go_num, by omega, rfl, hen, rfl, hmn, by first | rfl | trivial⟩
                case measure => simp [intOf]; omega
          · have q2 : decide (j2 < 40) = false := by simpa using h2
            clear hmn
            go_wp2_with fail
            refine (HCt.out _).mono ?_
            rintro e w5 ⟨rfl, hb⟩
            have HB5 := Lib.hid (HB4.out.trans (hb.mono HB4.out.size))
            clear hb
            go_wp2_with fail
            refine (HAw.out _).mono ?_
            rintro e w6 ⟨rfl, hb⟩
            go_wp2_with fail
            go_ret
            exact ⟨rfl, HB5.out.trans (hb.mono HB5.out.size)⟩
        · have q1 : decide (j2 < M) = false := by simpa using h1
          clear hmn
          go_wp2_with fail
          refine (HCt.out _).mono ?_
          rintro e w5 ⟨rfl, hb⟩
          have HB5 := Lib.hid (HB4.out.trans (hb.mono HB4.out.size))
          clear hb
          go_wp2_with fail
          refine (HAw.out _).mono ?_
          rintro e w6 ⟨rfl, hb⟩
          go_wp2_with fail
          go_ret
          exact ⟨rfl, HB5.out.trans (hb.mono HB5.out.size)⟩
end Oc
end Go.Proofs.Ythpolbiekdijjaa
