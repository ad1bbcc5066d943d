/-
  Cover for any number of lines, and the reference's Cover. Condition: fewer hunks than a slice may have.
-/
import Derived.Test.YtlckdacmeandmaaHnkCover
namespace Go.Proofs.Ytlckdacmeandmaa
open Go.RowKit
namespace Hn
open Cm Sc
theorem cv_out {l : List Hk} {m : Int} (h : ¬ (0 ≤ m ∧ m ≤ 4096)) : cvF l m = [] := by unfold cvF; rw [if_neg h]
theorem cv_nil {l : List Hk} {m : Int} {w w' : World} (h : cvF l m = []) (hb : Below w.heap.size w w') : CvPost l m w (.returned (.slice none 0 0)) w' := ⟨_, rfl, by rw [h]; exact RdV.nil _, hb⟩
set_option maxRecDepth 100000 in
set_option maxHeartbeats 4000000 in
theorem Cover_any (v : Value) (l : List Hk) (m : Int) (w : World) (h : RdH w v l) (hl : l.length ≤ 4611686018427387904) :
    Calls Try.prog 14 #[v, .int .i64 m] w (CvPost l m w) := by
  obtain ⟨A, cp, rfl⟩ := h.form
  by_cases h0 : m < 0
  · have HE := Lib.hid (cv_out (l := l) (m := m) (by omega))
    clear h
    go_enter Try.func14, Try.ntmps14
    go_wp2_with fail
    go_ret
    exact cv_nil HE.out (Below.refl _ _)
  · by_cases h1 : 4096 < m
    · have HE := Lib.hid (cv_out (l := l) (m := m) (by omega))
      have d0 : decide (m < 0) = false := decide_eq_false h0
      clear h
      go_enter Try.func14, Try.ntmps14
      go_wp2_with fail
      go_ret
      exact cv_nil HE.out (Below.refl _ _)
    · obtain ⟨M, rfl⟩ : ∃ M : Nat, m = (M : Int) := ⟨m.toNat, by omega⟩
      exact Cover_in A cp l.length M l w (Lib.hid h) (Lib.hid rfl) hl (by omega)
/-- What the reference has told at hunk k, line i. -/
def cwP (l : List Hk) (m k i : Nat) : List Bool := (List.range m).map fun j : Nat => if j < i then covB (l.take (k + 1)) (j : Int) else covB (l.take k) (j : Int)
theorem cwP_len (l : List Hk) (m k i : Nat) : (cwP l m k i).length = m := by simp [cwP]
theorem cwP_zero (l : List Hk) (m : Nat) : boolsV (cwP l m 0 0) = List.replicate m (.bool false) := by
  refine List.ext_getElem (by simp [boolsV, cwP]) fun j h1 h2 => ?_
  simp [boolsV, cwP, covB]
theorem cwP_next (l : List Hk) (m k : Nat) : cwP l m k m = cwP l m (k + 1) 0 := by
  refine List.ext_getElem (by simp [cwP]) fun j h1 h2 => ?_
  have : j < m := by simpa [cwP] using h1
  simp [cwP, this]
theorem cwP_all (l : List Hk) (m : Nat) : cwP l m l.length 0 = covF l m := by
  refine List.ext_getElem (by simp [cwP, covF]) fun j h1 h2 => ?_
  simp [cwP, covF]
theorem cwP_set (l : List Hk) (m k i : Nat) (b : Bool) (hb : b = covB (l.take (k + 1)) (i : Int)) : (boolsV (cwP l m k i)).set i (.bool b) = boolsV (cwP l m k (i + 1)) := by
  refine List.ext_getElem (by simp [boolsV, cwP]) fun j h1 h2 => ?_
  subst hb
  by_cases hj : j = i
  · subst hj
    simp [boolsV, cwP]
  · rw [List.getElem_set_ne (fun e => hj e.symm)]
    have e : (j < i) = (j < i + 1) := by apply propext; omega
    simp [boolsV, cwP, e]
theorem cwP_at (l : List Hk) (m k i : Nat) (_hi : i < m) (h : i < (boolsV (cwP l m k i)).length) : (boolsV (cwP l m k i))[i] = .bool (covB (l.take k) (i : Int)) := by
  simp [boolsV, cwP]
theorem cov_succ {l : List Hk} {k : Nat} (hk : k < l.length) (i : Int) : covB (l.take (k + 1)) i = (covB (l.take k) i || decide (l[k].oF ≤ i ∧ i < l[k].oT)) := by
  rw [List.take_succ_eq_append_getElem hk]
  unfold covB
  rw [List.any_append]
  simp
set_option maxRecDepth 100000 in
set_option maxHeartbeats 4000000 in
theorem CoverR_in (A : Option Addr) (cp N M : Nat) (l : List Hk) (w : World) (HR : Hid (RdH w (.slice A N cp) l)) (HN : Hid (l.length = N)) (hN : N ≤ 1000000) (hM : M ≤ 4096) :
    Calls Try.prog 15 #[.slice A N cp, .int .i64 (M : Int)] w (CvPost l (M : Int) w) := by
  have HP : Hid (cvF l (M : Int) = covF l M) := Lib.hid (by unfold cvF; rw [if_pos ⟨by omega, by omega⟩, Int.toNat_natCast])
  go_enter Try.func15, Try.ntmps15
  go_upto_region 4 with (refine mk_row rfl (.tmp 14) (.tmp 14) rfl Try.underlying34 info_b rfl (by omega) M rfl rfl (by omega) ?_; intro w1 HR1 _ hb1; have HB1 := Lib.hid hb1; have HE1 : Hid (Blk w1 w.heap.size tB (boolsV (cwP l M 0 0))) := Lib.hid (by rw [cwP_zero]; exact HR1.out); clear hb1 HR1)
  go_wp2_with fail
  go_loopw [6] (fun k' wr => ∃ k : Nat, k ≤ N ∧ k' = .int .i64 (k : Int) ∧ Hid (Blk wr w.heap.size tB (boolsV (cwP l M k 0))) ∧ Hid (Below w.heap.size w wr)) (fun k' _ => N - (intOf k').toNat)
  case atStart => exact ⟨0, Nat.zero_le _, by go_num, HE1, HB1⟩
  case round =>
    clear HE1 HB1
    obtain ⟨wo, rfl⟩ : ∃ wo, wo = wr := ⟨wr, rfl⟩
    obtain ⟨k, hk, rfl, HE, HB⟩ := hrel
    by_cases hlt : k < N
    · have hkl : k < l.length := by rw [HN.out]; exact hlt
      have HRr := Lib.hid (HR.out.below HB.out)
      obtain ⟨bl, off, rfl, -⟩ := RdH_at HRr.out k hkl
      have HCel : Hid (∀ V, Below w.heap.size w V → V.cell? ⟨bl, off + k * 6 + 2, none⟩ = some (.int .i64 l[k].oF) ∧ V.cell? ⟨bl, off + k * 6 + 3, none⟩ = some (.int .i64 l[k].oT)) := Lib.hid (fun V hV => by
        obtain ⟨b2, o2, e2, _, _, h2, h3, _⟩ := RdH_at (HR.out.below hV) k hkl
        cases e2
        exact ⟨h2, h3⟩)
      have HSu : Hid (∀ i : Nat, covB (l.take (k + 1)) (i : Int) = (covB (l.take k) (i : Int) || decide (l[k].oF ≤ (i : Int) ∧ (i : Int) < l[k].oT))) := Lib.hid (fun i => cov_succ hkl (i : Int))
      clear HRr
      generalize l[k].oF = f at *
      generalize l[k].oT = t at *
      have i1 : (0 : Int) ≤ (k : Int) := by omega
      have i2 : (k : Int) < (N : Int) := by omega
      go_wp2_with fail
      go_loopw [7] (fun i' wr => ∃ i : Nat, i ≤ M ∧ i' = .int .i64 (i : Int) ∧ Hid (Blk wr w.heap.size tB (boolsV (cwP l M k i))) ∧ Hid (Below w.heap.size w wr)) (fun i' _ => M - (intOf i').toNat)
      case atStart => exact ⟨0, Nat.zero_le _, by go_num, HE, HB⟩
      case round =>
        clear HE HB
        obtain ⟨i, hi, rfl, HE, HB⟩ := hrel
        by_cases hiM : i < M
        · obtain ⟨c2, c3⟩ := HCel.out _ HB.out
          have q5 := HE.out.cell (k := i) (by rw [boolsV_len, cwP_len]; exact hiM)
          rw [cwP_at l M k i hiM] at q5
          have fz := HE.out.free i
          have HSi := Lib.hid (HSu.out i)
          have HNx : Hid (∀ b : Bool, b = covB (l.take (k + 1)) (i : Int) → Blk (wr.setCell ⟨w.heap.size, i, none⟩ (.bool b)) w.heap.size tB (boolsV (cwP l M k (i + 1)))) := Lib.hid (fun b hb => by rw [← cwP_set l M k i b hb]; exact HE.out.set i _)
          have HBx : Hid (∀ b : Bool, Below w.heap.size w (wr.setCell ⟨w.heap.size, i, none⟩ (.bool b))) := Lib.hid (fun b => HB.out.setCell (p := ⟨w.heap.size, i, none⟩) (Nat.le_refl _) _)
          clear HE HB HSu HCel
          have j1 : (0 : Int) ≤ (i : Int) := by omega
          have j2 : (i : Int) < (M : Int) := by omega
          cases hc : covB (l.take k) (i : Int) with
          | true =>
            rw [hc] at q5
            have HF := Lib.hid (HNx.out true (by rw [HSi.out, hc]; rfl))
            clear HNx HSi hc
            go_wp2_with fail
            go_roundw
            case rel => exact ⟨i + 1, by omega, by go_num, HF, HBx.out _⟩
            case measure => simp [intOf]; omega
          | false =>
            rw [hc] at q5
            by_cases hf : f ≤ (i : Int)
            · by_cases ht : (i : Int) < t
              · have HF := Lib.hid (HNx.out true (by rw [HSi.out, hc, decide_eq_true (And.intro hf ht)]; rfl))
                have dt : decide ((i : Int) < t) = true := decide_eq_true ht
                have df : decide (f ≤ (i : Int)) = true := decide_eq_true hf
                clear HNx HSi hc
                go_wp2_with fail
                go_roundw
                case rel => exact ⟨i + 1, by omega, by go_num, HF, HBx.out _⟩
                case measure => simp [intOf]; omega
              · have HF := Lib.hid (HNx.out false (by rw [HSi.out, hc, decide_eq_false (fun h => ht h.2)]; rfl))
                have dt : decide ((i : Int) < t) = false := decide_eq_false ht
                have df : decide (f ≤ (i : Int)) = true := decide_eq_true hf
                clear HNx HSi hc
                go_wp2_with fail
                go_roundw
                case rel => exact ⟨i + 1, by omega, by go_num, HF, HBx.out _⟩
                case measure => simp [intOf]; omega
            · have HF := Lib.hid (HNx.out false (by rw [HSi.out, hc, decide_eq_false (fun h => hf h.1)]; rfl))
              have df : decide (f ≤ (i : Int)) = false := decide_eq_false hf
              clear HNx HSi hc
              go_wp2_with fail
              go_roundw
              case rel => exact ⟨i + 1, by omega, by go_num, HF, HBx.out _⟩
              case measure => simp [intOf]; omega
        · obtain rfl : i = M := by omega
          have dk : decide (i < i) = false := decide_eq_false (Nat.lt_irrefl _)
          have HE2 : Hid (Blk wr w.heap.size tB (boolsV (cwP l i (k + 1) 0))) := Lib.hid (by rw [← cwP_next]; exact HE.out)
          clear HE HSu HCel
          go_wp2_with fail
          go_roundw
          case rel => exact ⟨k + 1, by omega, by go_num, HE2, HB⟩
          case measure => simp [intOf]; omega
    · obtain rfl : k = N := by omega
      have dk : decide (k < k) = false := decide_eq_false (Nat.lt_irrefl _)
      have HRd : Hid (RdV wo (.slice (some ⟨w.heap.size, 0, none⟩) M M) (boolsV (cvF l (M : Int)))) := Lib.hid (by
        have h := HE.out.rd
        rw [boolsV_len, cwP_len] at h
        have e : cwP l M k 0 = covF l M := by rw [← HN.out]; exact cwP_all l M
        rw [e] at h
        rw [HP.out]; exact h)
      clear HE
      go_wp2_with fail
      go_ret
      exact ⟨_, rfl, HRd.out, HB.out⟩
set_option maxRecDepth 100000 in
set_option maxHeartbeats 4000000 in
theorem CoverR_any (v : Value) (l : List Hk) (m : Int) (w : World) (h : RdH w v l) (hl : l.length ≤ 1000000) :
    Calls Try.prog 15 #[v, .int .i64 m] w (CvPost l m w) := by
  obtain ⟨A, cp, rfl⟩ := h.form
  by_cases h0 : m < 0
  · have HE := Lib.hid (cv_out (l := l) (m := m) (by omega))
    clear h
    go_enter Try.func15, Try.ntmps15
    go_wp2_with fail
    go_ret
    exact cv_nil HE.out (Below.refl _ _)
  · by_cases h1 : 4096 < m
    · have HE := Lib.hid (cv_out (l := l) (m := m) (by omega))
      have d0 : decide (m < 0) = false := decide_eq_false h0
      clear h
      go_enter Try.func15, Try.ntmps15
      go_wp2_with fail
      go_ret
      exact cv_nil HE.out (Below.refl _ _)
    · obtain ⟨M, rfl⟩ : ∃ M : Nat, m = (M : Int) := ⟨m.toNat, by omega⟩
      exact CoverR_in A cp l.length M l w (Lib.hid h) (Lib.hid rfl) hl (by omega)
end Hn
end Go.Proofs.Ytlckdacmeandmaa
