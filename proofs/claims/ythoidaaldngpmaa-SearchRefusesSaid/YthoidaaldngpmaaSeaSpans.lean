/-
  Walk of the verifier's Spans: are two lists of spans equal? Conditions: slices that read as lists of spans, at most 1000000.
-/
import Derived.Test.YthoidaaldngpmaaSeaRev
import Derived.Deep.QuietTactic
import Derived.BigQuiet
namespace Go.Proofs.Ythoidaaldngpmaa
open Go.RowKit
namespace Se
open Cm Rx Au
/-- A slice that reads as a list of spans. -/
def RdP (w : World) (v : Value) (L : List (Nat × Nat)) : Prop :=
  ∃ A c, v = .slice A L.length c ∧ (0 < L.length → ∃ g off, A = some ⟨g, off, none⟩ ∧ ∀ k (h : k < L.length), w.cell? ⟨g, off + k * 2, none⟩ = some (.int .i64 (L[k].1 : Int)) ∧ w.cell? ⟨g, off + k * 2 + 1, none⟩ = some (.int .i64 (L[k].2 : Int)))
theorem RdP.below {w w' : World} {v : Value} {L : List (Nat × Nat)} (h : RdP w v L) (hb : Below w.heap.size w w') : RdP w' v L := by
  obtain ⟨A, c, rfl, h⟩ := h
  refine ⟨A, c, rfl, fun hp => ?_⟩
  obtain ⟨g, off, e, h1⟩ := h hp
  exact ⟨g, off, e, fun k hk => ⟨(hb.cell (p := ⟨g, off + k * 2, none⟩) (Tx.cell_lt (h1 k hk).1)).trans (h1 k hk).1, (hb.cell (p := ⟨g, off + k * 2 + 1, none⟩) (Tx.cell_lt (h1 k hk).2)).trans (h1 k hk).2⟩⟩
theorem RdP.of_own {w : World} {base : Nat} {v : Value} {L : List (Nat × Nat)} (h : w.ownsRow base tSp 2 v L.length (flatP L)) : RdP w v L := by
  obtain ⟨A, c, rfl⟩ := own_formP2 h
  refine ⟨A, c, rfl, fun hp => ?_⟩
  obtain ⟨g, hA⟩ : ∃ g, A = some ⟨g, 0, none⟩ := by
    rcases h.2 with ⟨_, e⟩ | ⟨g, cap, cur, e, _⟩
    · omega
    · injection e with e _ _; exact ⟨g, e⟩
  subst hA
  exact ⟨g, 0, rfl, fun k hk => by rw [Nat.zero_add]; exact own_at h hk rfl⟩
set_option maxRecDepth 100000 in
set_option maxHeartbeats 2000000 in
theorem Spans_any (v1 v2 : Value) (L M : List (Nat × Nat)) (w : World) (h1 : RdP w v1 L) (h2 : RdP w v2 M) (hL : L.length ≤ 1000000) (_hM : M.length ≤ 1000000) :
    Calls Try.prog 45 #[v1, v2] w fun e w' => e = .returned (.bool (decide (L = M))) ∧ ∃ m, w' = w.drewN m := by
  obtain ⟨A, c, rfl, hA⟩ := h1
  obtain ⟨B, d, rfl, hB⟩ := h2
  by_cases hlen : L.length = M.length
  · have HA := Lib.hid hA
    have HB := Lib.hid hB
    obtain ⟨n, hn⟩ : ∃ n, n = L.length := ⟨_, rfl⟩
    have HN := Lib.hid hn
    have HNM : Hid (n = M.length) := Lib.hid (hn.trans hlen)
    rw [← hlen, ← hn]
    have hl : n ≤ 1000000 := by omega
    have hnn : ((n : Int) == (n : Int)) = true := by simp
    clear hA hB hlen hn hL
    have HE0 : Hid (L.take 0 = M.take 0) := Lib.hid rfl
    go_enter Try.func45, Try.ntmps45
    go_wp2_with fail
    clear hnn
    go_loopw [5] (fun a wr => ∃ i : Nat, a = .int .i64 (i : Int) ∧ i ≤ n ∧ Hid (L.take i = M.take i) ∧ Hid (∃ m, wr = w.drewN m)) (fun a _ => n - (intOf a).toNat)
    case atStart => exact ⟨0, by go_num, Nat.zero_le _, HE0, Lib.hid ⟨0, rfl⟩⟩
    case round =>
      clear HE0
      obtain ⟨i, rfl, hi, HE, HD⟩ := hrel
      by_cases hlt : i < n
      · obtain ⟨m, rfl⟩ := HD.out
        obtain ⟨g, off, rfl, hc⟩ := HA.out (by rw [← HN.out]; omega)
        obtain ⟨g', off', rfl, hc'⟩ := HB.out (by rw [← HNM.out]; omega)
        have hiL : i < L.length := by rw [← HN.out]; exact hlt
        have hiM : i < M.length := by rw [← HNM.out]; exact hlt
        obtain ⟨a0, a1⟩ := hc i hiL
        obtain ⟨b0, b1⟩ := hc' i hiM
        rw [← World.cell?_drewN (n := m)] at a0 a1 b0 b1
        have HS : Hid (L[i] = M[i] → L.take (i + 1) = M.take (i + 1)) := Lib.hid (fun h => by
          rw [List.take_succ_eq_append_getElem hiL, List.take_succ_eq_append_getElem hiM, HE.out, h])
        have HX : Hid (L[i] ≠ M[i] → ¬ L = M) := Lib.hid (fun h e => by subst e; exact h rfl)
        have i0 : (0 : Int) ≤ (i : Int) := by omega
        have i1 : (i : Int) < (n : Int) := by omega
        have i2 : decide (i < n) = true := by simpa using hlt
        have HD2 : ∀ k, Hid (∃ m', (w.drewN m).drewN k = w.drewN m') := fun k => Lib.hid ⟨m + k, by rw [World.drewN_drewN]⟩
        generalize L[i] = x at a0 a1 HS HX
        generalize M[i] = y at b0 b1 HS HX
        generalize w.drewN m = wr at a0 a1 b0 b1 HD2 ⊢
        clear hiL hiM hc hc' HD
        by_cases hxy : x = y
        · subst hxy
          have HS2 := Lib.hid (HS.out rfl)
          clear HS HX
          have e1 : ((x.1 : Int) == (x.1 : Int)) = true := by simp
          have e2 : ((x.2 : Int) == (x.2 : Int)) = true := by simp
          go_upto_region 6 with fail
          go_quiet (fail)
          have HD3 := HD2 nq
          go_wp2_with fail
          go_roundw
          case rel => exact ⟨i + 1, by go_num, by omega, HS2, HD3⟩
          case measure => simp [intOf]; omega
        · have HF : Hid (decide (L = M) = false) := Lib.hid (decide_eq_false (HX.out hxy))
          clear HS HX
          by_cases h1 : x.1 = y.1
          · have h2 : ¬ x.2 = y.2 := fun h2 => hxy (Prod.ext h1 h2)
            have e1 : ((x.1 : Int) == (y.1 : Int)) = true := by rw [h1]; simp
            have e2 : ((x.2 : Int) == (y.2 : Int)) = false := by rw [beq_eq_false_iff_ne]; omega
            clear hxy h1 h2
            go_upto_region 6 with fail
            go_quiet (fail)
            have HD3 := HD2 nq
            go_wp2_with fail
            go_ret
            exact ⟨by rw [HF.out]; rfl, HD3.out⟩
          · have e1 : ((x.1 : Int) == (y.1 : Int)) = false := by rw [beq_eq_false_iff_ne]; omega
            clear hxy h1
            go_upto_region 6 with fail
            go_quiet (fail)
            have HD3 := HD2 nq
            go_wp2_with fail
            go_ret
            exact ⟨by rw [HF.out]; rfl, HD3.out⟩
      · obtain rfl : i = n := by omega
        have i2 : decide (i < i) = false := by simp
        have HF : Hid (decide (L = M) = true) := Lib.hid (decide_eq_true (by
          have h := HE.out
          rw [HN.out, List.take_length, ← HN.out, HNM.out, List.take_length] at h
          exact h))
        go_wp2_with fail
        go_ret
        exact ⟨by rw [HF.out]; rfl, HD.out⟩
  · have HF : Hid (decide (L = M) = false) := Lib.hid (decide_eq_false (fun e => hlen (by rw [e])))
    have e1 : ((L.length : Int) == (M.length : Int)) = false := by rw [beq_eq_false_iff_ne]; omega
    clear hlen hA hB
    generalize L.length = n1 at *
    generalize M.length = n2 at *
    go_enter Try.func45, Try.ntmps45
    go_wp2_with fail
    go_ret
    exact ⟨by rw [HF.out]; rfl, 0, rfl⟩
end Se
end Go.Proofs.Ythoidaaldngpmaa
