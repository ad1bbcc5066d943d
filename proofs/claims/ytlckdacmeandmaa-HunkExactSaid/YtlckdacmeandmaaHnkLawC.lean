/-
  The walk of layer 11's law HunkExact. Conditions: what a row asks of its arguments.
-/
import Derived.Test.YtlckdacmeandmaaHnkRd
namespace Go.Proofs.Ytlckdacmeandmaa
open Go.RowKit
namespace Hn
open Cm Sc Au
theorem near_succ {z : Int} {l : List Ch} {k : Nat} (hk : k < l.length) (i : Int) : nearB z (l.take (k + 1)) i = (nearB z (l.take k) i || decide (l[k].old - z ≤ i ∧ i < l[k].old + l[k].oldLen + z)) := by
  have h : ∀ (a : List Ch) (c : Ch), nearB z (a ++ [c]) i = true ↔ nearB z a i = true ∨ (c.old - z ≤ i ∧ i < endO c + z) := fun a c => by
    unfold nearB
    rw [List.any_append, Bool.or_eq_true, List.any_cons, List.any_nil, Bool.or_false, decide_eq_true_iff]
  rw [List.take_succ_eq_append_getElem hk, Bool.eq_iff_iff, Bool.or_eq_true, decide_eq_true_iff, h]
  exact Iff.rfl
theorem cov_get {z : Int} {l : List Ch} {m : Nat} {n : Int} (hz : 0 ≤ z) (h : OkL true 0 0 l m n) (i : Nat) (hi : i < m) (h2 : i < (covF (group z m l) m).length) : (covF (group z m l) m)[i] = nearB z l (i : Int) := by
  simp only [covF, List.getElem_map, List.getElem_range]
  exact group_near hz (by omega) (by omega) h
theorem bool_at2 {w : World} {A : Option Addr} {n c : Nat} {l : List Bool} (h : RdV w (.slice A n c) (boolsV l)) (k : Nat) (hk : k < l.length) : ∃ b off, A = some ⟨b, off, none⟩ ∧ w.cell? ⟨b, off + k, none⟩ = some (.bool l[k]) := by
  obtain ⟨_, b, off, e, hc⟩ := h.at (by rw [boolsV_len]; omega)
  refine ⟨b, off, e, ?_⟩
  rw [hc k (by rw [boolsV_len]; exact hk)]
  simp [boolsV]
set_option maxRecDepth 100000 in
set_option maxHeartbeats 8000000 in
theorem exact_walk (v : Value) (us : List Int) (k : Int) (w : World) (h : RdV w v (intsV us)) (hu : us.length ≤ maxLen) (hk : -9223372036854775808 ≤ k ∧ k ≤ 9223372036854775807) :
    Calls Try.prog 5 #[v, .int .i64 k] w (AwPost w) := by
  have HAw := Lib.hid (fun w => awake_any w)
  have HSc := Lib.hid (Script_any v us 0 w h hu ⟨by omega, by omega⟩)
  have HMd := Lib.hid (fun w => Tx.Mod_any k 5 w (by decide) (by decide) hk.1 hk.2)
  have z0 := Tx.modF_lo k 5 (by decide)
  have z1 := Tx.modF_hi k 5 (by decide)
  obtain ⟨A, cp, rfl⟩ := h.form
  clear h hu hk
  rw [intsV_len] at HSc ⊢
  generalize us.length = nu at *
  generalize Tx.modF k 5 = z at *
  go_enter Try.func5, Try.ntmps5
  go_wp2_with fail
  refine (HSc.out).mono ?_
  rintro e w1 ⟨vs, ls, a, b, rfl, hg, ho, hb⟩
  have HB1 := Lib.hid hb
  obtain ⟨As, cs, ev⟩ := ho.rd.form
  subst ev
  have HS := Lib.hid ho.rd
  obtain ⟨M, rfl⟩ : ∃ M : Nat, a = (M : Int) := ⟨a.toNat, by have := hg.bm; omega⟩
  have hM : M ≤ 9 := by have := hg.bm; omega
  have hN : ls.length ≤ 10 := hg.len
  have HBd := Lib.hid hg.bd
  have HG := Lib.hid (fun wq (h1 : RdC wq (.slice As ls.length cs) ls) => Group_good _ ls (M : Int) b z wq h1 hg ⟨by omega, by omega⟩)
  have HCv := Lib.hid (fun v wq (h1 : RdH wq v (group z (M : Int) ls)) => Cover_good v _ M wq h1 (by have := group_len z (M : Int) ls; omega) (by omega))
  have HGet := Lib.hid (fun i (hi : i < M) h2 => cov_get (z := z) (by omega) hg.ok i hi h2)
  have HLen := Lib.hid (covF_len (group z (M : Int) ls) M)
  unfold GdPost at HG
  clear hb ho hg HSc
  generalize covF (group z (M : Int) ls) M = L at *
  generalize group z (M : Int) ls = G at *
  generalize hNe : ls.length = N at *
  have HN := Lib.hid hNe
  clear hNe
  go_wp2_with fail
  refine (HMd.out _).mono ?_
  rintro e wm ⟨rfl, rfl⟩
  go_wp2_with fail
  refine (HG.out _ HS.out).mono ?_
  rintro e w2 ⟨v2, rfl, hr, hb⟩
  have HB2 := Lib.hid (HB1.out.trans (hb.mono HB1.out.size))
  have HS := Lib.hid (HS.out.below hb)
  have HX := Lib.hid hr
  clear hr hb HB1 HG HMd
  go_wp2_with fail
  refine (HCv.out _ _ HX.out).mono ?_
  rintro e w3 ⟨v3, rfl, hr, hb⟩
  have HB3 := Lib.hid (HB2.out.trans (hb.mono HB2.out.size))
  have HS := Lib.hid (HS.out.below hb)
  obtain ⟨A3, c3, ev⟩ := hr.form
  rw [boolsV_len, HLen.out] at ev
  subst ev
  have HX := Lib.hid hr
  clear hr hb HB2 HCv
  go_wp2_with fail
  go_loopw [11] (fun i' wr => ∃ i : Nat, i ≤ M ∧ i' = .int .i64 (i : Int) ∧ ∃ q, wr = w3.drewN q) (fun i' _ => M - (intOf i').toNat)
  case atStart => exact ⟨0, Nat.zero_le _, by go_num, 0, rfl⟩
  case round =>
    obtain ⟨i, hi, rfl, q, rfl⟩ := hrel
    have HSd := Lib.hid (HS.out.drewN q)
    have HXd := Lib.hid (HX.out.drewN q)
    have HBq := Lib.hid (below_drewN (Below.refl w3.heap.size w3) q)
    have HBd3 := Lib.hid (below_drewN HB3.out q)
    have HRel : Hid (∀ p, ∃ q2, ((w3.drewN q).drewN p) = w3.drewN q2) := Lib.hid (fun p => ⟨_, World.drewN_drewN _ _ _⟩)
    generalize w3.drewN q = wq at *
    by_cases hlt : i < M
    · have dk : decide (i < M) = true := decide_eq_true hlt
      have i1 : (0 : Int) ≤ (i : Int) := by omega
      have i2 : (i : Int) < (M : Int) := by omega
      go_wp2_with fail
      go_loopw [12, 13] (fun b' j' wr => ∃ (j : Nat) (bq : Bool), j ≤ N ∧ j' = .int .i64 (j : Int) ∧ b' = .bool bq ∧ Hid (bq = nearB z (ls.take j) (i : Int)) ∧ ∃ p, wr = wq.drewN p) (fun _ j' _ => N - (intOf j').toNat)
      case atStart => exact ⟨0, false, Nat.zero_le _, by go_num, rfl, Lib.hid rfl, 0, rfl⟩
      case round =>
        obtain ⟨j, bq, hj, rfl, rfl, HQ, p, rfl⟩ := hrel
        have HPp : Hid (∀ p2, ∃ p3, (wq.drewN p).drewN p2 = wq.drewN p3) := Lib.hid (fun p2 => ⟨_, World.drewN_drewN _ _ _⟩)
        by_cases hjl : j < N
        · have hx : j < ls.length := by rw [HN.out]; exact hjl
          obtain ⟨bl, off, rfl, c0, c1, -, -⟩ := RdC_at (HSd.out.drewN p) j hx
          obtain ⟨⟨o0, o1⟩, ⟨l0, l1⟩, -, -⟩ := HBd.out _ (List.getElem_mem hx)
          have HNx : Hid (∀ b2 : Bool, b2 = (bq || decide (ls[j].old - z ≤ (i : Int) ∧ (i : Int) < ls[j].old + ls[j].oldLen + z)) → b2 = nearB z (ls.take (j + 1)) (i : Int)) := Lib.hid (fun b2 hb2 => by rw [near_succ hx, ← HQ.out]; exact hb2)
          generalize ls[j].old = o at *
          generalize ls[j].oldLen = ol at *
          have j1 : (0 : Int) ≤ (j : Int) := by omega
          have j2 : (j : Int) < (N : Int) := by omega
          have dj : decide (j < N) = true := decide_eq_true hjl
          generalize wq.drewN p = wp at *
          cases bq with
          | true =>
            have HF := Lib.hid (HNx.out true rfl)
            clear HNx HQ
            go_wp2_with fail
            go_quiet (fail)
            go_wp2_with fail
            go_roundw
            case rel => obtain ⟨p3, e3⟩ := HPp.out nq; exact ⟨j + 1, true, by omega, by go_num, rfl, HF, p3, e3⟩
            case measure => simp [intOf]; omega
          | false =>
            by_cases h1 : o - z ≤ (i : Int)
            · by_cases h2 : (i : Int) < o + ol + z
              · have HF := Lib.hid (HNx.out true (by rw [decide_eq_true (And.intro h1 h2)]; rfl))
                have d1 : decide (o - z ≤ (i : Int)) = true := decide_eq_true h1
                have d2 : decide ((i : Int) < o + ol + z) = true := decide_eq_true h2
                clear HNx HQ
                go_wp2_with fail
                go_quiet (fail)
                go_wp2_with fail
                go_roundw
                case rel => obtain ⟨p3, e3⟩ := HPp.out nq; exact ⟨j + 1, true, by omega, by go_num, rfl, HF, p3, e3⟩
                case measure => simp [intOf]; omega
              · have HF := Lib.hid (HNx.out false (by rw [decide_eq_false (fun h => h2 h.2)]; rfl))
                have d1 : decide (o - z ≤ (i : Int)) = true := decide_eq_true h1
                have d2 : decide ((i : Int) < o + ol + z) = false := decide_eq_false h2
                clear HNx HQ
                go_wp2_with fail
                go_quiet (fail)
                go_wp2_with fail
                go_roundw
                case rel => obtain ⟨p3, e3⟩ := HPp.out nq; exact ⟨j + 1, false, by omega, by go_num, rfl, HF, p3, e3⟩
                case measure => simp [intOf]; omega
            · have HF := Lib.hid (HNx.out false (by rw [decide_eq_false (fun h => h1 h.1)]; rfl))
              have d1 : decide (o - z ≤ (i : Int)) = false := decide_eq_false h1
              clear HNx HQ
              go_wp2_with fail
              go_quiet (fail)
              go_wp2_with fail
              go_roundw
              case rel => obtain ⟨p3, e3⟩ := HPp.out nq; exact ⟨j + 1, false, by omega, by go_num, rfl, HF, p3, e3⟩
              case measure => simp [intOf]; omega
        · obtain rfl : j = N := by omega
          have dj : decide (j < j) = false := decide_eq_false (Nat.lt_irrefl _)
          have hxl : i < L.length := by rw [HLen.out]; exact hlt
          have HE : Hid (L[i] = bq) := Lib.hid (by rw [HGet.out i hlt hxl, HQ.out, ← HN.out, List.take_length])
          obtain ⟨b3, o3, rfl, p3⟩ := bool_at2 (HXd.out.drewN p) i hxl
          rw [HE.out] at p3
          have HRq := Lib.hid (HRel.out p)
          clear HE HQ HRel
          generalize wq.drewN p = wp at *
          go_wp2_with fail
          go_roundw
          case rel => obtain ⟨q2, e2⟩ := HRq.out; exact ⟨i + 1, by omega, by go_num, q2, e2⟩
          case measure => simp [intOf]; omega
    · obtain rfl : i = M := by omega
      have dk : decide (i < i) = false := decide_eq_false (Nat.lt_irrefl _)
      go_wp2_with fail
      refine (HAw.out _).mono ?_
      rintro e w4 ⟨rfl, hb⟩
      have HB4 := Lib.hid (HBd3.out.trans (hb.mono HBd3.out.size))
      go_wp2_with fail
      go_ret
      exact ⟨rfl, HB4.out⟩
end Hn
end Go.Proofs.Ytlckdacmeandmaa
