/-
  The walk of layer 11's law HunkGrows. Conditions: what a row asks of its arguments.
-/
import Derived.Test.YtlckdacmeandmaaHnkRd
namespace Go.Proofs.Ytlckdacmeandmaa
open Go.RowKit
namespace Hn
open Cm Sc Au
theorem cov_get3 {z : Int} {l : List Ch} {m : Nat} {n : Int} (hz : 0 ≤ z) (h : OkL true 0 0 l m n) (i : Nat) (hi : i < m) (h2 : i < (covF (group z m l) m).length) : (covF (group z m l) m)[i] = nearB z l (i : Int) := by
  simp only [covF, List.getElem_map, List.getElem_range]
  exact group_near hz (by omega) (by omega) h
theorem bool_at3 {w : World} {A : Option Addr} {n c : Nat} {l : List Bool} (h : RdV w (.slice A n c) (boolsV l)) (k : Nat) (hk : k < l.length) : ∃ b off, A = some ⟨b, off, none⟩ ∧ w.cell? ⟨b, off + k, none⟩ = some (.bool l[k]) := by
  obtain ⟨_, b, off, e, hc⟩ := h.at (by rw [boolsV_len]; omega)
  refine ⟨b, off, e, ?_⟩
  rw [hc k (by rw [boolsV_len]; exact hk)]
  simp [boolsV]
/-- With much context all is one hunk. -/
theorem all_form {l : List Ch} {m n : Int} (h : GoodL l m n) : (l = [] ∧ group 1048576 m l = []) ∨ (0 < l.length ∧ ∃ t : Int, group 1048576 m l = [⟨0, t, 0, m, 0, n⟩]) := by
  cases l with
  | nil => exact .inl ⟨rfl, rfl⟩
  | cons c r => exact .inr ⟨by simp, _, group_all (by have := h.bm; omega) h.ok⟩
set_option maxRecDepth 100000 in
set_option maxHeartbeats 8000000 in
theorem grows_walk (v : Value) (us : List Int) (k more : Int) (w : World) (h : RdV w v (intsV us)) (hu : us.length ≤ maxLen) (hk : -9223372036854775808 ≤ k ∧ k ≤ 9223372036854775807) (hk2 : -9223372036854775808 ≤ more ∧ more ≤ 9223372036854775807) :
    Calls Try.prog 7 #[v, .int .i64 k, .int .i64 more] w (AwPost w) := by
  have HAw := Lib.hid (fun w => awake_any w)
  have HSc := Lib.hid (Script_any v us 0 w h hu ⟨by omega, by omega⟩)
  have HMd := Lib.hid (fun w => Tx.Mod_any k 4 w (by decide) (by decide) hk.1 hk.2)
  have HMe := Lib.hid (fun w => Tx.Mod_any more 4 w (by decide) (by decide) hk2.1 hk2.2)
  have z0 := Tx.modF_lo k 4 (by decide)
  have z1 := Tx.modF_hi k 4 (by decide)
  have y0 := Tx.modF_lo more 4 (by decide)
  have y1 := Tx.modF_hi more 4 (by decide)
  obtain ⟨A, cp, rfl⟩ := h.form
  clear h hu hk hk2
  rw [intsV_len] at HSc ⊢
  generalize us.length = nu at *
  generalize Tx.modF k 4 = z at *
  generalize Tx.modF more 4 = y at *
  go_enter Try.func7, Try.ntmps7
  go_wp2_with fail
  refine (HSc.out).mono ?_
  rintro e w1 ⟨vs, ls, a, b, rfl, hg, ho, hb⟩
  have HB1 := Lib.hid hb
  obtain ⟨As, cs, ev⟩ := ho.rd.form
  subst ev
  have HS := Lib.hid ho.rd
  obtain ⟨M, rfl⟩ : ∃ M : Nat, a = (M : Int) := ⟨a.toNat, by have := hg.bm; omega⟩
  have hM : M ≤ 9 := by have := hg.bm; omega
  have hN : ls.length ≤ 10 := hg.len
  have HGa := Lib.hid (fun wq (h1 : RdC wq (.slice As ls.length cs) ls) => Group_good _ ls (M : Int) b z wq h1 hg ⟨by omega, by omega⟩)
  have HGb := Lib.hid (fun wq (h1 : RdC wq (.slice As ls.length cs) ls) => Group_good _ ls (M : Int) b (z + y) wq h1 hg ⟨by omega, by omega⟩)
  have HGc := Lib.hid (fun wq (h1 : RdC wq (.slice As ls.length cs) ls) => Group_good _ ls (M : Int) b 1048576 wq h1 hg ⟨by omega, by omega⟩)
  have HCa := Lib.hid (fun v wq (h1 : RdH wq v (group z (M : Int) ls)) => Cover_good v _ M wq h1 (by have := group_len z (M : Int) ls; omega) (by omega))
  have HCb := Lib.hid (fun v wq (h1 : RdH wq v (group (z + y) (M : Int) ls)) => Cover_good v _ M wq h1 (by have := group_len (z + y) (M : Int) ls; omega) (by omega))
  have HImp : Hid (∀ i (hi : i < M) (h1 : i < (covF (group z (M : Int) ls) M).length) (h2 : i < (covF (group (z + y) (M : Int) ls) M).length), (covF (group z (M : Int) ls) M)[i] = true → (covF (group (z + y) (M : Int) ls) M)[i] = true) := Lib.hid (fun i hi h1 h2 h3 => by
    rw [cov_get3 (by omega) hg.ok i hi] at h3 ⊢
    exact nearB_mono (by omega) h3)
  have HLa := Lib.hid (covF_len (group z (M : Int) ls) M)
  have HLb := Lib.hid (covF_len (group (z + y) (M : Int) ls) M)
  have hmono := group_mono (ctx := z) (ctx' := z + y) (m := (M : Int)) (by omega) ls
  have hga := group_len z (M : Int) ls
  have HAll := Lib.hid (all_form hg)
  obtain ⟨bn0, bn1⟩ := hg.bn
  unfold GdPost at HGa HGb HGc
  clear hb ho hg HSc
  generalize covF (group z (M : Int) ls) M = La at *
  generalize covF (group (z + y) (M : Int) ls) M = Lb at *
  generalize group z (M : Int) ls = Ga at *
  generalize group (z + y) (M : Int) ls = Gb at *
  generalize group 1048576 (M : Int) ls = Gc at *
  go_wp2_with fail
  refine (HMd.out _).mono ?_
  rintro e wm ⟨rfl, rfl⟩
  go_wp2_with fail
  refine (HGa.out _ HS.out).mono ?_
  rintro e w2 ⟨v2, rfl, hr, hb⟩
  have HB2 := Lib.hid (HB1.out.trans (hb.mono HB1.out.size))
  have HS := Lib.hid (HS.out.below hb)
  obtain ⟨Aa, ca, ev⟩ := hr.form
  subst ev
  have HXa := Lib.hid hr
  clear hr hb HB1 HGa HMd
  go_wp2_with fail
  refine (HMe.out _).mono ?_
  rintro e wm ⟨rfl, rfl⟩
  go_wp2_with fail
  refine (HGb.out _ HS.out).mono ?_
  rintro e w3 ⟨v3, rfl, hr, hb⟩
  have HB3 := Lib.hid (HB2.out.trans (hb.mono HB2.out.size))
  have HS := Lib.hid (HS.out.below hb)
  have HXa := Lib.hid (HXa.out.below hb)
  obtain ⟨Ab, cb, ev⟩ := hr.form
  subst ev
  have HXb := Lib.hid hr
  clear hr hb HB2 HGb HMe
  go_wp2_with fail
  refine (HGc.out _ HS.out).mono ?_
  rintro e w4 ⟨v4, rfl, hr, hb⟩
  have HB4 := Lib.hid (HB3.out.trans (hb.mono HB3.out.size))
  have HXa := Lib.hid (HXa.out.below hb)
  have HXb := Lib.hid (HXb.out.below hb)
  obtain ⟨Ac, cc, ev⟩ := hr.form
  subst ev
  have HXc := Lib.hid hr
  clear hr hb HB3 HGc HS
  go_wp2_with fail
  refine (HCa.out _ _ HXa.out).mono ?_
  rintro e w5 ⟨v5, rfl, hr, hb⟩
  have HB5 := Lib.hid (HB4.out.trans (hb.mono HB4.out.size))
  have HXb := Lib.hid (HXb.out.below hb)
  have HXc := Lib.hid (HXc.out.below hb)
  obtain ⟨A5, c5, ev⟩ := hr.form
  rw [boolsV_len, HLa.out] at ev
  subst ev
  have HYa := Lib.hid hr
  clear hr hb HB4 HCa HXa
  go_wp2_with fail
  refine (HCb.out _ _ HXb.out).mono ?_
  rintro e w6 ⟨v6, rfl, hr, hb⟩
  have HB6 := Lib.hid (HB5.out.trans (hb.mono HB5.out.size))
  have HXc := Lib.hid (HXc.out.below hb)
  have HYa := Lib.hid (HYa.out.below hb)
  obtain ⟨A6, c6, ev⟩ := hr.form
  rw [boolsV_len, HLb.out] at ev
  subst ev
  have HYb := Lib.hid hr
  clear hr hb HB5 HCb HXb
  have dm : decide ((Ga.length : Int) < (Gb.length : Int)) = false := decide_eq_false (by omega)
  have dm2 : decide (Ga.length < Gb.length) = false := decide_eq_false (by omega)
  generalize Ga.length = na at *
  generalize Gb.length = nb at *
  obtain ⟨nc, hnc⟩ : ∃ nc, nc = Gc.length := ⟨_, rfl⟩
  rw [← hnc] at HXc ⊢
  have HNc := Lib.hid hnc
  obtain ⟨N, hNe⟩ : ∃ N, N = ls.length := ⟨_, rfl⟩
  rw [← hNe] at hN ⊢
  have hcase : (N = 0 ∧ nc = 0 ∧ Gc = []) ∨ (0 < N ∧ nc = 1 ∧ ∃ t : Int, Gc = [⟨0, t, 0, (M : Int), 0, b⟩]) := by
    rcases HAll.out with ⟨h1, h2⟩ | ⟨h1, t, h2⟩
    · exact .inl ⟨by rw [hNe, h1]; rfl, by rw [hnc, h2]; rfl, h2⟩
    · exact .inr ⟨by rw [hNe]; exact h1, by rw [hnc, h2]; rfl, t, h2⟩
  have HCase := Lib.hid hcase
  clear hcase hnc hNe HAll hmono hga HNc
  have HIm2 : Hid (∀ i : Nat, i < M → ∃ x y : Bool, (x = true → y = true) ∧ ∀ wr, Below w6.heap.size w6 wr → (∃ b off, A5 = some ⟨b, off, none⟩ ∧ wr.cell? ⟨b, off + i, none⟩ = some (.bool x)) ∧ (∃ b off, A6 = some ⟨b, off, none⟩ ∧ wr.cell? ⟨b, off + i, none⟩ = some (.bool y))) := Lib.hid (fun i hi => by
    have h1 : i < La.length := by rw [HLa.out]; exact hi
    have h2 : i < Lb.length := by rw [HLb.out]; exact hi
    exact ⟨La[i], Lb[i], HImp.out i hi h1 h2, fun wr hw => ⟨bool_at3 (HYa.out.below hw) i h1, bool_at3 (HYb.out.below hw) i h2⟩⟩)
  clear HImp HYa HYb HLa HLb
  have hcs : (N = 0 ∧ nc = 0) ∨ (0 < N ∧ nc = 1) := by
    rcases HCase.out with ⟨h1, h2, _⟩ | ⟨h1, h2, _⟩
    · exact .inl ⟨h1, h2⟩
    · exact .inr ⟨h1, h2⟩
  rcases hcs with ⟨rfl, rfl⟩ | ⟨hNp, rfl⟩
  · clear HCase HXc
    go_wp2_with fail
    go_loopw [18] (fun i' wr => ∃ i : Nat, i ≤ M ∧ i' = .int .i64 (i : Int) ∧ ∃ q, wr = w6.drewN q) (fun i' _ => M - (intOf i').toNat)
    case atStart => exact ⟨0, Nat.zero_le _, by go_num, 0, rfl⟩
    case round =>
      obtain ⟨i, hi, rfl, q, rfl⟩ := hrel
      have HRel : Hid (∀ p, ∃ q2, ((w6.drewN q).drewN p) = w6.drewN q2) := Lib.hid (fun p => ⟨_, World.drewN_drewN _ _ _⟩)
      have HBd := Lib.hid (below_drewN HB6.out q)
      have HBr := Lib.hid (below_drewN (Below.refl w6.heap.size w6) q)
      have HId : Hid (∃ q2, w6.drewN q = w6.drewN q2) := Lib.hid ⟨q, rfl⟩
      generalize w6.drewN q = wq at *
      by_cases hlt : i < M
      · have dk : decide (i < M) = true := decide_eq_true hlt
        have i1 : (0 : Int) ≤ (i : Int) := by omega
        have i2 : (i : Int) < (M : Int) := by omega
        obtain ⟨x, y', himp, hcell⟩ := HIm2.out i hlt
        obtain ⟨⟨b1, o1, rfl, p1⟩, ⟨b2, o2, rfl, p2⟩⟩ := hcell wq HBr.out
        clear hcell
        cases x with
        | false =>
          clear himp
          go_wp2_with fail
          go_roundw
          case rel => obtain ⟨q2, e2⟩ := HId.out; exact ⟨i + 1, by omega, by go_num, q2, e2⟩
          case measure => simp [intOf]; omega
        | true =>
          obtain rfl := himp rfl
          clear himp
          go_wp2_with fail
          go_roundw
          case rel => obtain ⟨q2, e2⟩ := HId.out; exact ⟨i + 1, by omega, by go_num, q2, e2⟩
          case measure => simp [intOf]; omega
      · obtain rfl : i = M := by omega
        have dk : decide (i < i) = false := decide_eq_false (Nat.lt_irrefl _)
        clear HIm2 HId HRel
        go_wp2_with fail
        refine (HAw.out _).mono ?_
        rintro e w7 ⟨rfl, hb⟩
        have HB7 := Lib.hid (HBd.out.trans (hb.mono HBd.out.size))
        go_wp2_with fail
        go_ret
        exact ⟨rfl, HB7.out⟩
  · rcases (show N = 1 ∨ 1 < N by omega) with rfl | hN1
    all_goals
      go_wp2_with fail
      go_loopw [18] (fun i' wr => ∃ i : Nat, i ≤ M ∧ i' = .int .i64 (i : Int) ∧ ∃ q, wr = w6.drewN q) (fun i' _ => M - (intOf i').toNat)
      case atStart => exact ⟨0, Nat.zero_le _, by go_num, 0, rfl⟩
      case round =>
        obtain ⟨i, hi, rfl, q, rfl⟩ := hrel
        have HRel : Hid (∀ p, ∃ q2, ((w6.drewN q).drewN p) = w6.drewN q2) := Lib.hid (fun p => ⟨_, World.drewN_drewN _ _ _⟩)
        have HBd := Lib.hid (below_drewN HB6.out q)
        have HBr := Lib.hid (below_drewN (Below.refl w6.heap.size w6) q)
        have HId : Hid (∃ q2, w6.drewN q = w6.drewN q2) := Lib.hid ⟨q, rfl⟩
        generalize w6.drewN q = wq at *
        by_cases hlt : i < M
        · have dk : decide (i < M) = true := decide_eq_true hlt
          have i1 : (0 : Int) ≤ (i : Int) := by omega
          have i2 : (i : Int) < (M : Int) := by omega
          obtain ⟨x, y', himp, hcell⟩ := HIm2.out i hlt
          obtain ⟨⟨b1, o1, rfl, p1⟩, ⟨b2, o2, rfl, p2⟩⟩ := hcell wq HBr.out
          clear hcell
          cases x with
          | false =>
            clear himp
            go_wp2_with fail
            go_roundw
            case rel => obtain ⟨q2, e2⟩ := HId.out; exact ⟨i + 1, by omega, by go_num, q2, e2⟩
            case measure => simp [intOf]; omega
          | true =>
            obtain rfl := himp rfl
            clear himp
            go_wp2_with fail
            go_roundw
            case rel => obtain ⟨q2, e2⟩ := HId.out; exact ⟨i + 1, by omega, by go_num, q2, e2⟩
            case measure => simp [intOf]; omega
        · obtain rfl : i = M := by omega
          have dk : decide (i < i) = false := decide_eq_false (Nat.lt_irrefl _)
          clear HIm2 HId HRel
          obtain ⟨t, hGc⟩ : ∃ t : Int, Gc = [⟨0, t, 0, (i : Int), 0, b⟩] := by
            rcases HCase.out with ⟨_, h, _⟩ | ⟨_, _, h⟩
            · cases h
            · exact h
          subst hGc
          obtain ⟨bl, off, rfl, r0, r1, r2, r3, r4, r5⟩ := RdH_at (HXc.out.below HBr.out) 0 (Nat.succ_pos 0)
          simp only [List.getElem_cons_zero, Nat.zero_mul, Nat.add_zero] at r0 r1 r2 r3 r4 r5
          have heq1 := equal_sp 0 (i : Int)
          have heq2 := equal_sp 0 b
          have hgd := guard_sp
          go_wp2_with fail
          refine (HAw.out _).mono ?_
          rintro e w7 ⟨rfl, hb⟩
          have HB7 := Lib.hid (HBd.out.trans (hb.mono HBd.out.size))
          go_wp2_with fail
          go_ret
          exact ⟨rfl, HB7.out⟩
end Hn
end Go.Proofs.Ytlckdacmeandmaa
