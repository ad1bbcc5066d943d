/-
  The program's Check: whether a list of nodes is valid. Condition: the lists' lengths.
-/
import Derived.Test.YtgadomcbaenodaaRegexCheck
namespace Go.Proofs.Ytgadomcbaenodaa
open Go.RowKit
namespace Px
open Cm Rx
set_option maxRecDepth 100000 in
set_option maxHeartbeats 4000000 in
theorem kids_any (v : Value) (l : List Int) (j : Nat) (w : World) (h : RdV w v (intsV l)) (hl : l.length ≤ 4611686018427387904) :
    Calls Try.prog 53 #[v, .int .i64 j] w fun e w' => e = .returned (.bool (decide (∀ k ∈ l, 0 ≤ k ∧ k < (j : Int)))) ∧ Below w.heap.size w w' := by
  obtain ⟨Ak, ck, rfl⟩ := h.form
  have HKids : Hid (∀ q (h : q < l.length), ∃ b2 o2, Ak = some ⟨b2, o2, none⟩ ∧ w.cell? ⟨b2, o2 + q, none⟩ = some (.int .i64 l[q])) := Lib.hid (fun q hq => by
    obtain ⟨_, b2, o2, e, hc⟩ := h.at (by rw [intsV_len]; omega)
    have h2 := hc q (by rw [intsV_len]; exact hq)
    exact ⟨b2, o2, e, by rw [h2]; simp [intsV]⟩)
  have HT : Hid ((∀ k (h : k < l.length), 0 ≤ l[k] ∧ l[k] < (j : Int)) → decide (∀ k ∈ l, 0 ≤ k ∧ k < (j : Int)) = true) := Lib.hid (fun h => decide_eq_true (fun k hk => by
    obtain ⟨i, hi, rfl⟩ := List.mem_iff_getElem.1 hk
    exact h i hi))
  have HF : Hid (∀ k (h : k < l.length), ¬ (0 ≤ l[k] ∧ l[k] < (j : Int)) → decide (∀ k ∈ l, 0 ≤ k ∧ k < (j : Int)) = false) := Lib.hid (fun k h hb => decide_eq_false (fun hh => hb (hh _ (List.getElem_mem h))))
  rw [intsV_len]
  clear h
  generalize hn : l.length = n at hl ⊢
  have HN := Lib.hid hn
  clear hn
  generalize decide (∀ k ∈ l, 0 ≤ k ∧ k < (j : Int)) = R at HT HF ⊢
  go_enter Try.func53, Try.ntmps53
  go_wp2_with fail
  go_loopw [9] (fun i wr => ∃ q : Nat, q ≤ n ∧ i = .int .i64 q ∧ wr = w ∧ Hid (∀ k (h : k < l.length), k < q → 0 ≤ l[k] ∧ l[k] < (j : Int))) (fun i _ => n - (intOf i).toNat)
  case atStart => exact ⟨0, Nat.zero_le _, rfl, rfl, Lib.hid (fun k _ h => absurd h (Nat.not_lt_zero _))⟩
  case round =>
    obtain ⟨q, hq, rfl, rfl, HQ⟩ := hrel
    by_cases hlt1 : q < n
    · have hx1 : q < l.length := by rw [HN.out]; exact hlt1
      obtain ⟨b2, o2, rfl, hc2⟩ := HKids.out q hx1
      have j1 : (0 : Int) ≤ (q : Int) := by omega
      have j2 : (q : Int) < (n : Int) := by omega
      have HBad := Lib.hid (HF.out q hx1)
      have HGood : Hid (0 ≤ l[q] ∧ l[q] < (j : Int) → ∀ k (h : k < l.length), k < q + 1 → 0 ≤ l[k] ∧ l[k] < (j : Int)) := Lib.hid (fun hg k hk1 hk2 => by
        by_cases hkq : k < q
        · exact HQ.out k hk1 hkq
        · have : k = q := by omega
          subst this; exact hg)
      generalize l[q] = z at hc2 HBad HGood
      by_cases hz0 : z < 0
      · have HR := Lib.hid (HBad.out (by omega))
        go_wp2_with fail
        go_ret
        exact ⟨by rw [HR.out]; rfl, Below.refl _ _⟩
      · by_cases hz1 : (j : Int) ≤ z
        · have HR := Lib.hid (HBad.out (by omega))
          have d0 : decide (z < 0) = false := by simp only [decide_eq_false_iff_not]; omega
          go_wp2_with fail
          go_ret
          exact ⟨by rw [HR.out]; rfl, Below.refl _ _⟩
        · have HG := Lib.hid (HGood.out ⟨by omega, by omega⟩)
          have d0 : decide (z < 0) = false := by simp only [decide_eq_false_iff_not]; omega
          have d1 : decide ((j : Int) ≤ z) = false := by simp only [decide_eq_false_iff_not]; omega
          go_wp2_with fail
          go_roundw
          case rel => exact ⟨q + 1, by omega, by go_num, by first | rfl | trivial, HG⟩
          case measure => simp [intOf]; omega
    · have dq : decide (q < n) = false := by simp only [decide_eq_false_iff_not]; omega
      have HR := Lib.hid (HT.out (fun k h => HQ.out k h (by rw [HN.out] at h; omega)))
      go_wp2_with fail
      go_ret
      exact ⟨by rw [HR.out]; rfl, Below.refl _ _⟩
-- PART 2
set_option maxRecDepth 100000 in
set_option maxHeartbeats 8000000 in
theorem fine_any (nd : Nd) (A : Option Addr) (c kn : Nat) (w : World) (hkn : nd.kids.length = kn) (hl : kn ≤ 4611686018427387904) :
    Calls Try.prog 52 #[ndV nd (.slice A kn c)] w fun e w' => e = .returned (.bool (fineF nd)) ∧ Below w.heap.size w w' := by
  have HT : Hid (FineP nd.kind kn nd.mn nd.mx → fineF nd = true) := Lib.hid (fun h => (fine_iff nd).2 (by rw [hkn]; exact h))
  have HF : Hid (¬ FineP nd.kind kn nd.mn nd.mx → fineF nd = false) := Lib.hid (fun h => by
    rw [Bool.eq_false_iff]; intro hh; exact h (by rw [← hkn]; exact (fine_iff nd).1 hh))
  unfold ndV
  generalize fineF nd = R at HT HF ⊢
  generalize word nd.set 0 = x0
  generalize word nd.set 1 = x1
  generalize word nd.set 2 = x2
  generalize word nd.set 3 = x3
  generalize nd.kind = k at HT HF ⊢
  generalize nd.mn = mn at HT HF ⊢
  generalize nd.mx = mx at HT HF ⊢
  clear hkn
  by_cases k0 : k = 0
  · subst k0
    by_cases c1 : kn = 0
    · subst c1
      have HR := Lib.hid (HT.out (by unfold FineP; omega))
      clear HT HF
      go_enter Try.func52, Try.ntmps52
      go_wp2_with fail
      go_ret
      first | exact ⟨by rw [HR.out]; rfl, Below.refl _ _⟩ | exact ⟨by rw [HR.out]; rfl, (Below.refl _ _).alloc (Nat.le_refl _) _⟩
    · skip
      have HR := Lib.hid (HF.out (by unfold FineP; omega))
      have t0 : ((kn : Int) == 0) = false := by rw [beq_eq_false_iff_ne]; omega
      clear HT HF
      go_enter Try.func52, Try.ntmps52
      go_wp2_with fail
      go_ret
      first | exact ⟨by rw [HR.out]; rfl, Below.refl _ _⟩ | exact ⟨by rw [HR.out]; rfl, (Below.refl _ _).alloc (Nat.le_refl _) _⟩
  by_cases k1 : k = 1
  · subst k1
    by_cases c1 : kn = 0
    · subst c1
      have HR := Lib.hid (HT.out (by unfold FineP; omega))
      clear HT HF
      go_enter Try.func52, Try.ntmps52
      go_wp2_with fail
      go_ret
      first | exact ⟨by rw [HR.out]; rfl, Below.refl _ _⟩ | exact ⟨by rw [HR.out]; rfl, (Below.refl _ _).alloc (Nat.le_refl _) _⟩
    · skip
      have HR := Lib.hid (HF.out (by unfold FineP; omega))
      have t0 : ((kn : Int) == 0) = false := by rw [beq_eq_false_iff_ne]; omega
      clear HT HF
      go_enter Try.func52, Try.ntmps52
      go_wp2_with fail
      go_ret
      first | exact ⟨by rw [HR.out]; rfl, Below.refl _ _⟩ | exact ⟨by rw [HR.out]; rfl, (Below.refl _ _).alloc (Nat.le_refl _) _⟩
  by_cases k2 : k = 2
  · subst k2
    by_cases c1 : kn = 0
    · subst c1
      have HR := Lib.hid (HT.out (by unfold FineP; omega))
      clear HT HF
      go_enter Try.func52, Try.ntmps52
      go_wp2_with fail
      go_ret
      first | exact ⟨by rw [HR.out]; rfl, Below.refl _ _⟩ | exact ⟨by rw [HR.out]; rfl, (Below.refl _ _).alloc (Nat.le_refl _) _⟩
    · skip
      have HR := Lib.hid (HF.out (by unfold FineP; omega))
      have t0 : ((kn : Int) == 0) = false := by rw [beq_eq_false_iff_ne]; omega
      clear HT HF
      go_enter Try.func52, Try.ntmps52
      go_wp2_with fail
      go_ret
      first | exact ⟨by rw [HR.out]; rfl, Below.refl _ _⟩ | exact ⟨by rw [HR.out]; rfl, (Below.refl _ _).alloc (Nat.le_refl _) _⟩
  by_cases k3 : k = 3
  · subst k3
    by_cases c1 : kn = 0
    · subst c1
      have HR := Lib.hid (HT.out (by unfold FineP; omega))
      clear HT HF
      go_enter Try.func52, Try.ntmps52
      go_wp2_with fail
      go_ret
      first | exact ⟨by rw [HR.out]; rfl, Below.refl _ _⟩ | exact ⟨by rw [HR.out]; rfl, (Below.refl _ _).alloc (Nat.le_refl _) _⟩
    · skip
      have HR := Lib.hid (HF.out (by unfold FineP; omega))
      have t0 : ((kn : Int) == 0) = false := by rw [beq_eq_false_iff_ne]; omega
      clear HT HF
      go_enter Try.func52, Try.ntmps52
      go_wp2_with fail
      go_ret
      first | exact ⟨by rw [HR.out]; rfl, Below.refl _ _⟩ | exact ⟨by rw [HR.out]; rfl, (Below.refl _ _).alloc (Nat.le_refl _) _⟩
  by_cases k4 : k = 4
  · subst k4
    by_cases c1 : (2 : Int) ≤ (kn : Int)
    · skip
      have HR := Lib.hid (HT.out (by unfold FineP; omega))
      clear HT HF
      go_enter Try.func52, Try.ntmps52
      go_wp2_with fail
      go_ret
      first | exact ⟨by rw [HR.out]; rfl, Below.refl _ _⟩ | exact ⟨by rw [HR.out]; rfl, (Below.refl _ _).alloc (Nat.le_refl _) _⟩
    · skip
      have HR := Lib.hid (HF.out (by unfold FineP; omega))
      have t0 : decide ((2 : Int) ≤ (kn : Int)) = false := by simp only [decide_eq_false_iff_not]; omega
      have t1 : decide (2 ≤ kn) = false := by simp only [decide_eq_false_iff_not]; omega
      clear HT HF
      go_enter Try.func52, Try.ntmps52
      go_wp2_with fail
      go_ret
      first | exact ⟨by rw [HR.out]; rfl, Below.refl _ _⟩ | exact ⟨by rw [HR.out]; rfl, (Below.refl _ _).alloc (Nat.le_refl _) _⟩
  by_cases k5 : k = 5
  · subst k5
    by_cases c1 : (2 : Int) ≤ (kn : Int)
    · skip
      have HR := Lib.hid (HT.out (by unfold FineP; omega))
      clear HT HF
      go_enter Try.func52, Try.ntmps52
      go_wp2_with fail
      go_ret
      first | exact ⟨by rw [HR.out]; rfl, Below.refl _ _⟩ | exact ⟨by rw [HR.out]; rfl, (Below.refl _ _).alloc (Nat.le_refl _) _⟩
    · skip
      have HR := Lib.hid (HF.out (by unfold FineP; omega))
      have t0 : decide ((2 : Int) ≤ (kn : Int)) = false := by simp only [decide_eq_false_iff_not]; omega
      have t1 : decide (2 ≤ kn) = false := by simp only [decide_eq_false_iff_not]; omega
      clear HT HF
      go_enter Try.func52, Try.ntmps52
      go_wp2_with fail
      go_ret
      first | exact ⟨by rw [HR.out]; rfl, Below.refl _ _⟩ | exact ⟨by rw [HR.out]; rfl, (Below.refl _ _).alloc (Nat.le_refl _) _⟩
  by_cases k6 : k = 6
  · subst k6
    by_cases c1 : kn = 1
    · subst c1
      by_cases c2 : (0 : Int) ≤ mn
      · by_cases c3 : mn ≤ 100
        · by_cases c4 : mx = -1
          · subst c4
            have HR := Lib.hid (HT.out (by unfold FineP; omega))
            clear HT HF
            go_enter Try.func52, Try.ntmps52
            go_wp2_with fail
            go_ret
            first | exact ⟨by rw [HR.out]; rfl, Below.refl _ _⟩ | exact ⟨by rw [HR.out]; rfl, (Below.refl _ _).alloc (Nat.le_refl _) _⟩
          · have c4b : (mx == -1) = false := by rw [beq_eq_false_iff_ne]; exact c4
            by_cases c5 : mn ≤ mx
            · by_cases c6 : mx ≤ 100
              · skip
                have HR := Lib.hid (HT.out (by unfold FineP; omega))
                clear HT HF
                go_enter Try.func52, Try.ntmps52
                go_wp2_with fail
                go_ret
                first | exact ⟨by rw [HR.out]; rfl, Below.refl _ _⟩ | exact ⟨by rw [HR.out]; rfl, (Below.refl _ _).alloc (Nat.le_refl _) _⟩
              · skip
                have HR := Lib.hid (HF.out (by unfold FineP; omega))
                have t0 : decide (mx ≤ 100) = false := by simp only [decide_eq_false_iff_not]; omega
                clear HT HF
                go_enter Try.func52, Try.ntmps52
                go_wp2_with fail
                go_ret
                first | exact ⟨by rw [HR.out]; rfl, Below.refl _ _⟩ | exact ⟨by rw [HR.out]; rfl, (Below.refl _ _).alloc (Nat.le_refl _) _⟩
            · skip
              have HR := Lib.hid (HF.out (by unfold FineP; omega))
              have t0 : decide (mn ≤ mx) = false := by simp only [decide_eq_false_iff_not]; omega
              clear HT HF
              go_enter Try.func52, Try.ntmps52
              go_wp2_with fail
              go_ret
              first | exact ⟨by rw [HR.out]; rfl, Below.refl _ _⟩ | exact ⟨by rw [HR.out]; rfl, (Below.refl _ _).alloc (Nat.le_refl _) _⟩
        · skip
          have HR := Lib.hid (HF.out (by unfold FineP; omega))
          have t0 : decide (mn ≤ 100) = false := by simp only [decide_eq_false_iff_not]; omega
          clear HT HF
          go_enter Try.func52, Try.ntmps52
          go_wp2_with fail
          go_ret
          first | exact ⟨by rw [HR.out]; rfl, Below.refl _ _⟩ | exact ⟨by rw [HR.out]; rfl, (Below.refl _ _).alloc (Nat.le_refl _) _⟩
      · skip
        have HR := Lib.hid (HF.out (by unfold FineP; omega))
        have t0 : decide ((0 : Int) ≤ mn) = false := by simp only [decide_eq_false_iff_not]; omega
        clear HT HF
        go_enter Try.func52, Try.ntmps52
        go_wp2_with fail
        go_ret
        first | exact ⟨by rw [HR.out]; rfl, Below.refl _ _⟩ | exact ⟨by rw [HR.out]; rfl, (Below.refl _ _).alloc (Nat.le_refl _) _⟩
    · skip
      have HR := Lib.hid (HF.out (by unfold FineP; omega))
      have t0 : ((kn : Int) == 1) = false := by rw [beq_eq_false_iff_ne]; omega
      clear HT HF
      go_enter Try.func52, Try.ntmps52
      go_wp2_with fail
      go_ret
      first | exact ⟨by rw [HR.out]; rfl, Below.refl _ _⟩ | exact ⟨by rw [HR.out]; rfl, (Below.refl _ _).alloc (Nat.le_refl _) _⟩
  have HR := Lib.hid (HF.out (by unfold FineP; omega))
  have t0 : (k == 0) = false := by rw [beq_eq_false_iff_ne]; exact k0
  have t1 : (k == 1) = false := by rw [beq_eq_false_iff_ne]; exact k1
  have t2 : (k == 2) = false := by rw [beq_eq_false_iff_ne]; exact k2
  have t3 : (k == 3) = false := by rw [beq_eq_false_iff_ne]; exact k3
  have t4 : (k == 4) = false := by rw [beq_eq_false_iff_ne]; exact k4
  have t5 : (k == 5) = false := by rw [beq_eq_false_iff_ne]; exact k5
  have t6 : (k == 6) = false := by rw [beq_eq_false_iff_ne]; exact k6
  clear HT HF
  go_enter Try.func52, Try.ntmps52
  go_wp2_with fail
  go_ret
  first | exact ⟨by rw [HR.out]; rfl, Below.refl _ _⟩ | exact ⟨by rw [HR.out]; rfl, (Below.refl _ _).alloc (Nat.le_refl _) _⟩
theorem cell_al2 {wr w1 : World} {C : Array Value} {t : TypeId} (hb : Below (wr.alloc (.cells C t)).heap.size (wr.alloc (.cells C t)) w1) (i : Nat) (u : Value) (h : C[i]? = some u) : w1.cell? ⟨wr.heap.size, i, none⟩ = some u := (hb.cell (p := ⟨wr.heap.size, i, none⟩) (Tx.cell_lt (any_new wr C t i u h))).trans (any_new wr C t i u h)
theorem below_al2 {w wr w1 : World} {o : Obj} (h : Below w.heap.size w wr) (hb : Below (wr.alloc o).heap.size (wr.alloc o) w1) : Below w.heap.size w w1 := (h.alloc h.size o).trans (hb.mono (h.alloc h.size o).size)
set_option maxRecDepth 100000 in
set_option maxHeartbeats 8000000 in
theorem Check_any (v : Value) (ns : List Nd) (w : World) (h : RdN w v ns) (hl : ns.length ≤ 4611686018427387904) (hk : ∀ n ∈ ns, n.kids.length ≤ 4611686018427387904) :
    Calls Try.prog 35 #[v] w fun e w' => e = .returned (.int .i64 (checkF ns)) ∧ Below w.heap.size w w' := by
  obtain ⟨A, c, rfl, hA⟩ := h
  have HA := Lib.hid hA
  have HK := Lib.hid hk
  have HV : Hid (Valid ns ↔ (0 < ns.length ∧ ns.length ≤ 4000 ∧ ∀ k (h : k < ns.length), NodeOk k ns[k])) := Lib.hid Iff.rfl
  have HT := Lib.hid (fun (h : Valid ns) => check_T h)
  have HF := Lib.hid (fun (h : ¬ Valid ns) => check_F h)
  clear hA hk
  generalize hn : ns.length = n at hl ⊢
  have HN := Lib.hid hn
  clear hn
  by_cases hz : n = 0
  · have HR : Hid (checkF ns = 2) := Lib.hid (HF.out (fun hv => by have := (HV.out.1 hv).1; rw [HN.out] at this; omega))
    subst hz
    go_enter Try.func35, Try.ntmps35
    go_wp2_with fail
    go_ret
    exact ⟨by rw [HR.out]; rfl, Below.refl _ _⟩
  have e0 : ((n : Int) == 0) = false := by rw [beq_eq_false_iff_ne]; omega
  by_cases hbig : (4000 : Int) < (n : Int)
  · have HR : Hid (checkF ns = 2) := Lib.hid (HF.out (fun hv => by have := (HV.out.1 hv).2.1; rw [HN.out] at this; omega))
    go_enter Try.func35, Try.ntmps35
    go_wp2_with fail
    go_ret
    exact ⟨by rw [HR.out]; rfl, Below.refl _ _⟩
  have e1 : decide ((4000 : Int) < (n : Int)) = false := by simp only [decide_eq_false_iff_not]; omega
  go_enter Try.func35, Try.ntmps35
  go_wp2_with fail
  go_loopw [15] (fun i wr => ∃ j : Nat, j ≤ n ∧ i = .int .i64 j ∧ Hid (∀ k (h : k < ns.length), k < j → NodeOk k ns[k]) ∧ Below w.heap.size w wr) (fun i _ => n - (intOf i).toNat)
  case atStart => exact ⟨0, Nat.zero_le _, rfl, Lib.hid (fun k _ h => absurd h (Nat.not_lt_zero _)), Below.refl _ _⟩
  case round =>
    obtain ⟨j, hj, rfl, HO, hnx⟩ := hrel
    by_cases hlt : j < n
    · have hx : j < ns.length := by rw [HN.out]; exact hlt
      obtain ⟨b, off, rfl, hA1⟩ := HA.out (by omega)
      have hat := (hA1 j hx).below hnx
      have hkl := HK.out _ (List.getElem_mem hx)
      have HNo : Hid (¬ NodeOk j ns[j] → checkF ns = 2) := Lib.hid (fun hno => HF.out (fun hv => hno ((HV.out.1 hv).2.2 j hx)))
      have HYes : Hid (NodeOk j ns[j] → ∀ k (h : k < ns.length), k < j + 1 → NodeOk k ns[k]) := Lib.hid (fun hy k hk1 hk2 => by
        by_cases hkj : k < j
        · exact HO.out k hk1 hkj
        · have : k = j := by omega
          subst this; exact hy)
      clear hA1
      generalize ns[j] = nd at hat hkl HNo HYes
      obtain ⟨kv, p0, p1, p2, p3, p4, p5, p6, p7, rk⟩ := hat
      have HRk := Lib.hid rk
      obtain ⟨Ak, ck, hke⟩ := rk.form
      rw [intsV_len] at hke
      subst hke
      generalize hkn : nd.kids.length = kn at p7 hkl HRk
      have HFine := Lib.hid (fun wq => fine_any nd Ak ck kn wq hkn hkl)
      have HBl := Lib.hid (fun wq hb => kids_any (.slice Ak kn ck) nd.kids j wq (HRk.out.below hb) (by rw [hkn]; exact hkl))
      have i1 : (0 : Int) ≤ (j : Int) := by omega
      have i2 : (j : Int) < (n : Int) := by omega
      have HB := Lib.hid hnx
      have hNoF : fineF nd = false → checkF ns = 2 := fun h => HNo.out (fun hh => by have h3 := hh.2; rw [h] at h3; cases h3)
      have hNoK : decide (∀ k ∈ nd.kids, 0 ≤ k ∧ k < (j : Int)) = false → checkF ns = 2 := fun h => HNo.out (fun hh => by rw [decide_eq_false_iff_not] at h; exact h hh.1)
      have hYes : fineF nd = true → decide (∀ k ∈ nd.kids, 0 ≤ k ∧ k < (j : Int)) = true → ∀ k (h : k < ns.length), k < j + 1 → NodeOk k ns[k] := fun h1 h2 => by rw [decide_eq_true_eq] at h2; exact HYes.out ⟨h2, h1⟩
      have HNoF := Lib.hid hNoF
      have HNoK := Lib.hid hNoK
      have HYs := Lib.hid hYes
      clear rk hkn HNo HYes hNoF hNoK hYes hnx
      unfold ndV at HFine
      generalize fineF nd = B1 at HFine HNoF HYs
      generalize decide (∀ k ∈ nd.kids, 0 ≤ k ∧ k < (j : Int)) = B2 at HBl HNoK HYs
      generalize word nd.set 0 = x0 at p1 HFine
      generalize word nd.set 1 = x1 at p2 HFine
      generalize word nd.set 2 = x2 at p3 HFine
      generalize word nd.set 3 = x3 at p4 HFine
      cases B1 with
      | false =>
        have HR := Lib.hid (HNoF.out rfl)
        go_wp2_with fail
        refine (HFine.out _).mono ?_
        rintro e w1 ⟨rfl, B1⟩
        have HB1 := Lib.hid (below_al2 HB.out B1)
        clear B1
        go_wp2_with fail
        go_ret
        exact ⟨by rw [HR.out]; rfl, HB1.out⟩
      | true =>
        cases B2 with
        | false =>
          have HR := Lib.hid (HNoK.out rfl)
          go_wp2_with fail
          refine (HFine.out _).mono ?_
          rintro e w1 ⟨rfl, B1⟩
          have HB1 := Lib.hid (below_al2 HB.out B1)
          have HBl1 := Lib.hid (HBl.out w1 (below_al2 (Below.refl _ _) B1))
          have r7 : w1.cell? ⟨wr.heap.size, 7, none⟩ = some (.slice Ak kn ck) := cell_al2 B1 7 _ rfl
          clear B1
          go_wp2_with fail
          refine HBl1.out.mono ?_
          rintro e w2 ⟨rfl, B2⟩
          have HB2 := Lib.hid (HB1.out.trans (B2.mono HB1.out.size))
          clear B2
          go_wp2_with fail
          go_ret
          exact ⟨by rw [HR.out]; rfl, HB2.out⟩
        | true =>
          have HG := Lib.hid (HYs.out rfl rfl)
          go_wp2_with fail
          refine (HFine.out _).mono ?_
          rintro e w1 ⟨rfl, B1⟩
          have HB1 := Lib.hid (below_al2 HB.out B1)
          have HBl1 := Lib.hid (HBl.out w1 (below_al2 (Below.refl _ _) B1))
          have r7 : w1.cell? ⟨wr.heap.size, 7, none⟩ = some (.slice Ak kn ck) := cell_al2 B1 7 _ rfl
          clear B1
          go_wp2_with fail
          refine HBl1.out.mono ?_
          rintro e w2 ⟨rfl, B2⟩
          have HB2 := Lib.hid (HB1.out.trans (B2.mono HB1.out.size))
          clear B2
          go_wp2_with fail
          go_roundw
          case rel => exact ⟨j + 1, by omega, by go_num, HG, HB2.out⟩
          case measure => simp [intOf]; omega
    · have hd : decide (j < n) = false := by simp only [decide_eq_false_iff_not]; omega
      have HR : Hid (checkF ns = 0) := Lib.hid (HT.out (HV.out.2 ⟨by rw [HN.out]; omega, by rw [HN.out]; omega, fun k h => HO.out k h (by rw [HN.out] at h; omega)⟩))
      go_wp2_with fail
      go_ret
      exact ⟨by rw [HR.out]; rfl, hnx⟩
end Px
end Go.Proofs.Ytgadomcbaenodaa
