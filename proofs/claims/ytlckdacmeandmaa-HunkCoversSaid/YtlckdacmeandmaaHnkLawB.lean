/-
  The walk of layer 11's law HunkCovers. Conditions: what a row asks of its arguments.
-/
import Derived.Test.YtlckdacmeandmaaHnkRd
namespace Go.Proofs.Ytlckdacmeandmaa
open Go.RowKit
namespace Hn
open Cm Sc Au
theorem bool_at {w : World} {A : Option Addr} {n c : Nat} {l : List Bool} (h : RdV w (.slice A n c) (boolsV l)) (k : Nat) (hk : k < l.length) : ∃ b off, A = some ⟨b, off, none⟩ ∧ w.cell? ⟨b, off + k, none⟩ = some (.bool l[k]) := by
  obtain ⟨_, b, off, e, hc⟩ := h.at (by rw [boolsV_len]; omega)
  refine ⟨b, off, e, ?_⟩
  rw [hc k (by rw [boolsV_len]; exact hk)]
  simp [boolsV]
theorem cvF_len {l : List Hk} {m : Int} (h : ¬ (200 < m ∧ m ≤ 4096)) : (cvF l m).length ≤ 200 := by
  unfold cvF
  split
  · rw [covF_len]; omega
  · exact Nat.zero_le _
set_option maxRecDepth 100000 in
set_option maxHeartbeats 8000000 in
theorem covers_main (A : Option Addr) (N cp : Nat) (l : List Hk) (m : Int) (w : World) (HR : Hid (RdH w (.slice A N cp) l)) (HN : Hid (l.length = N)) (hN : N ≤ 8) (hz : -9223372036854775808 ≤ m ∧ m ≤ 9223372036854775807)
    (hm : m ≤ 200 ∨ 4096 < m) : Calls Try.prog 4 #[.slice A N cp, .int .i64 m] w (AwPost w) := by
  have HAw := Lib.hid (fun w => awake_any w)
  have HC1 := Lib.hid (Cover_any _ l m w HR.out (by rw [HN.out]; omega))
  have HC2 := Lib.hid (fun wq (hq : Below w.heap.size w wq) => CoverR_any _ l m wq (HR.out.below hq) (by rw [HN.out]; omega))
  have hL := cvF_len (l := l) (m := m) (by omega)
  unfold CvPost at HC1 HC2
  generalize cvF l m = L at *
  clear HR HN
  have hd : decide ((8 : Int) < (N : Int)) = false := decide_eq_false (by omega)
  have hd2 : decide ((8 : Nat) < N) = false := decide_eq_false (by omega)
  have hcs : decide (200 < m) = false ∨ (decide (200 < m) = true ∧ decide (m ≤ 4096) = false) := by
    rcases hm with h | h
    · exact .inl (decide_eq_false (by omega))
    · exact .inr ⟨decide_eq_true (by omega), decide_eq_false (by omega)⟩
  clear hm
  rcases hcs with d1 | ⟨d1, d2⟩
  all_goals
    go_enter Try.func4, Try.ntmps4
    go_wp2_with fail
    refine HC1.out.mono ?_
    rintro e w1 ⟨v1, rfl, hr, hb⟩
    have HB1 := Lib.hid hb
    obtain ⟨A1, c1, ev⟩ := hr.form
    rw [boolsV_len] at ev
    subst ev
    have HX1 := Lib.hid hr
    clear hr hb HC1
    go_wp2_with fail
    refine (HC2.out _ HB1.out).mono ?_
    rintro e w2 ⟨v2, rfl, hr, hb⟩
    have HB2 := Lib.hid (HB1.out.trans (hb.mono HB1.out.size))
    obtain ⟨A2, c2, ev⟩ := hr.form
    rw [boolsV_len] at ev
    subst ev
    have HX2 := Lib.hid hr
    have HX1 := Lib.hid (HX1.out.below hb)
    clear hr hb HC2 HB1
    obtain ⟨n, hn⟩ : ∃ n, n = L.length := ⟨_, rfl⟩
    rw [← hn] at hL HX1 HX2 ⊢
    have HNn := Lib.hid hn
    clear hn
    go_wp2_with fail
    go_loopw [7] (fun i' wr => ∃ i : Nat, i ≤ n ∧ i' = .int .i64 (i : Int) ∧ ∃ q, wr = w2.drewN q) (fun i' _ => n - (intOf i').toNat)
    case atStart => exact ⟨0, Nat.zero_le _, by go_num, 0, rfl⟩
    case round =>
      obtain ⟨i, hi, rfl, q, rfl⟩ := hrel
      by_cases hlt : i < n
      · have hx : i < L.length := by rw [← HNn.out]; exact hlt
        obtain ⟨b1, o1, rfl, p1⟩ := bool_at HX1.out i hx
        obtain ⟨b2, o2, rfl, p2⟩ := bool_at HX2.out i hx
        generalize L[i] = b at p1 p2
        have i1 : (0 : Int) ≤ (i : Int) := by omega
        have i2 : (i : Int) < (n : Int) := by omega
        have dk : decide (i < n) = true := decide_eq_true hlt
        go_wp2_with fail
        go_quiet (fail)
        go_wp2_with fail
        go_roundw
        case rel => exact ⟨i + 1, by omega, by go_num, _, rfl⟩
        case measure => simp [intOf]; omega
      · obtain rfl : i = n := by omega
        have dk : decide (i < i) = false := decide_eq_false (Nat.lt_irrefl _)
        have HBd := Lib.hid (below_drewN HB2.out q)
        generalize w2.drewN q = w3 at *
        go_wp2_with fail
        refine (HAw.out _).mono ?_
        rintro e w4 ⟨rfl, hb⟩
        have HB4 := Lib.hid (HBd.out.trans (hb.mono HBd.out.size))
        go_wp2_with fail
        go_ret
        exact ⟨rfl, HB4.out⟩
set_option maxRecDepth 100000 in
set_option maxHeartbeats 8000000 in
theorem covers_walk (v : Value) (l : List Hk) (m : Int) (w : World) (h : RdH w v l) (hl : l.length ≤ maxLen) (hz : -9223372036854775808 ≤ m ∧ m ≤ 9223372036854775807) :
    Calls Try.prog 4 #[v, .int .i64 m] w (AwPost w) := by
  have HAw := Lib.hid (fun w => awake_any w)
  obtain ⟨A, cp, rfl⟩ := h.form
  by_cases h8 : 8 < l.length
  · clear h
    unfold maxLen at hl
    generalize l.length = N at *
    have hd : decide ((8 : Int) < (N : Int)) = true := decide_eq_true (by omega)
    have hd2 : decide (8 < N) = true := decide_eq_true h8
    go_enter Try.func4, Try.ntmps4
    go_wp2_with fail
    refine (HAw.out _).mono ?_
    rintro e w1 ⟨rfl, hb⟩
    go_wp2_with fail
    go_ret
    exact ⟨rfl, hb⟩
  · by_cases hm : m ≤ 200 ∨ 4096 < m
    · exact covers_main A l.length cp l m w (Lib.hid h) (Lib.hid rfl) (by omega) hz hm
    · have d1 : decide (200 < m) = true := decide_eq_true (by omega)
      have d2 : decide (m ≤ 4096) = true := decide_eq_true (by omega)
      clear h hm
      unfold maxLen at hl
      generalize l.length = N at *
      have hd : decide ((8 : Int) < (N : Int)) = false := decide_eq_false (by omega)
      have hd2 : decide (8 < N) = false := decide_eq_false h8
      go_enter Try.func4, Try.ntmps4
      go_wp2_with fail
      refine (HAw.out _).mono ?_
      rintro e w1 ⟨rfl, hb⟩
      go_wp2_with fail
      go_ret
      exact ⟨rfl, hb⟩
end Hn
end Go.Proofs.Ytlckdacmeandmaa
