/-
  The reference's Walk, Script, Distance and Common. Condition: at most 1000 lines.
-/
import Derived.Test.YtechabkmepejaaaShoTbR
namespace Go.Proofs.Ytechabkmepejaaa
open Go.RowKit
namespace Sh
open Cm Sc
set_option maxRecDepth 100000 in
set_option maxHeartbeats 16000000 in
theorem WalkR_at (A B : Option Addr) (c d n m : Nat) (a b : List Int) (w : World) (HA : Hid (RdV w (.slice A n c) (intsV a))) (HB : Hid (RdV w (.slice B m d) (intsV b))) (hn : n ≤ 1000) (hm : m ≤ 1000) (HN : Hid (n = a.length)) (HM : Hid (m = b.length)) :
    Calls Try.prog 36 #[.slice A n c, .slice B m d] w (NewC (scrF a b) w) := by
  have HT := Lib.hid (TableR_at A B c d n m a b w HA HB hn hm HN HM)
  have HRng : Hid (∀ i j, 0 ≤ dI a b i j ∧ dI a b i j ≤ n + m) := Lib.hid (fun i j => by rw [HN.out, HM.out]; exact dI_rng a b i j)
  have HMd : Hid (∀ (v : Value) (w1 : World), OwnS w1.heap.size w1 v (wkF 0 0 a b) ∨ (∃ base, OwnS base w1 v (wkF 0 0 a b)) → Calls Try.prog 43 #[v, .int .i64 (n : Int), .int .i64 (m : Int)] w1 (NewC (scrF a b) w1)) := Lib.hid (fun v w1 ho => by
    have hl := wkF_len 0 0 a b
    have hle := lcs_le a b
    have hna := HN.out
    have hmb := HM.out
    have hok := wk_okP a b
    have hrd : RdS w1 v (wkF 0 0 a b) := by
      rcases ho with h | ⟨_, h⟩
      · exact h.rd
      · exact h.rd
    have h := Made_any v (wkF 0 0 a b) (n : Int) (m : Int) w1 hrd (by omega) ⟨by omega, by omega⟩ ⟨by omega, by omega⟩ (by rw [hna, hmb]; exact hok)
    unfold scrF
    rw [← hna, ← hmb]
    exact h)
  go_enter Try.func36, Try.ntmps36
  go_wp2_with (go_at_call 42; refine HT.out.mono ?_; rintro e w1 ⟨vt, rfl, ⟨D, us, rfl, hr⟩, hb1⟩; have HR1 := Lib.hid hr; have HB1 := Lib.hid hb1; clear hr hb1 HT)
  have HAt : Hid (∀ i j, i ≤ n → j ≤ m → ∀ wq, Below w1.heap.size w1 wq → ∃ g, wq.cell? ⟨D, i, none⟩ = some (.slice (some ⟨g, 0, none⟩) (m + 1) (m + 1)) ∧ wq.cell? ⟨g, j, none⟩ = some (.int .i64 (dI a b i j))) := Lib.hid (fun i j hi hj wq hb => by
    have h := (HR1.out.below hb).at (i := i) (j := j) (by rw [← HN.out]; exact hi) (by rw [← HM.out]; exact hj)
    rw [← HM.out] at h
    exact h)
  rw [← HN.out]
  go_loopw [6, 7, 8] (fun p' i' j' wr => ∃ (i j : Nat) (dn : List Sp), i ≤ n ∧ j ≤ m ∧ dn.length ≤ i ∧ i' = .int .i64 (i : Int) ∧ j' = .int .i64 (j : Int) ∧ Hid (OwnS w1.heap.size wr p' dn) ∧ Hid (Below w1.heap.size w1 wr) ∧ Hid (dn ++ wkF i j (a.drop i) (b.drop j) = wkF 0 0 a b)) (fun _ i' j' _ => (n - (intOf i').toNat) + (m - (intOf j').toNat))
  case atStart => exact ⟨0, 0, [], Nat.zero_le _, Nat.zero_le _, Nat.zero_le _, rfl, rfl, Lib.hid (OwnS.nil _ _), Lib.hid (Below.refl _ _), Lib.hid rfl⟩
  case round =>
    obtain ⟨i, j, dn, hi, hj, hdn, rfl, rfl, HO, HBl, HE⟩ := hrel
    have i0 : (0 : Int) ≤ (i : Int) := by omega
    have j0 : (0 : Int) ≤ (j : Int) := by omega
    by_cases h1 : i < n
    · have x1 : i < a.length := by rw [← HN.out]; exact h1
      have i1 : (i : Int) < (n : Int) := by omega
      have dd1 : decide (i < n) = true := decide_eq_true h1
      have s0 : IntKind.i64.wrap ((i : Int) + 1) = (i : Int) + 1 := by rw [IntWalk.i64_in _ (by omega)]
      have s3 : ((i : Int) + 1).toNat = i + 1 := by omega
      have i2 : (i : Int) + 1 < (n : Int) + 1 := by omega
      have i3 : (0 : Int) ≤ (i : Int) + 1 := by omega
      have i4 : (i : Int) < (n : Int) + 1 := by omega
      have j4 : (j : Int) < (m : Int) + 1 := by omega
      obtain ⟨g1, q1, q2⟩ := HAt.out i j hi hj wr HBl.out
      obtain ⟨g2, q3, q4⟩ := HAt.out (i + 1) j h1 hj wr HBl.out
      have y1 := HRng.out i j
      have y2 := HRng.out (i + 1) j
      obtain ⟨y11, y12⟩ := y1
      obtain ⟨y21, y22⟩ := y2
      have HOld := Lib.hid (dI_old (a := a) (b := b) (i := i) (j := j) x1 (by rw [← HM.out]; exact hj))
      obtain ⟨b1, o1, rfl, r1⟩ := int_at (HA.out.below (HB1.out.trans (HBl.out.mono HB1.out.size))) i x1
      by_cases h2 : j < m
      · have x2 : j < b.length := by rw [← HM.out]; exact h2
        have j1 : (j : Int) < (m : Int) := by omega
        have dd2 : decide (j < m) = true := decide_eq_true h2
        obtain ⟨b2, o2, rfl, r2⟩ := int_at (HB.out.below (HB1.out.trans (HBl.out.mono HB1.out.size))) j x2
        have HE2 : Hid (dn ++ wkF i j (a[i] :: a.drop (i + 1)) (b[j] :: b.drop (j + 1)) = wkF 0 0 a b) := Lib.hid (by rw [← List.drop_eq_getElem_cons x1, ← List.drop_eq_getElem_cons x2]; exact HE.out)
        by_cases he : a[i] = b[j]
        · rw [he] at r1 HE2
          have HE3 : Hid ((dn ++ [⟨i, j⟩]) ++ wkF ((i + 1 : Nat) : Int) ((j + 1 : Nat) : Int) (a.drop (i + 1)) (b.drop (j + 1)) = wkF 0 0 a b) := Lib.hid (by
            have := HE2.out
            rw [wkF_eq] at this
            rw [← this, List.append_assoc]; rfl)
          clear HE HE2 he HOld q1 q2 q3 q4 y11 y12 y21 y22
          generalize b[j] = z at r1 r2
          clear x1 x2
          have hdx : dn.length + 1 ≤ 1000000 := by omega
          have HOd := Lib.hid (HO.out.drewN)
          go_wp2_with fail
          go_quiet (fail)
          have HOq := Lib.hid (HOd.out nq)
          have HBq := Lib.hid (below_drewN HBl.out nq)
          have HHq := Lib.hid HBq.out.size
          clear HO HBl HOd
          generalize World.drewN wr nq = wq at *
          go_wp2_with (at_builtin; refine app_sp rfl (.tmp 46) (.tmp 50) rfl w1.heap.size dn ⟨i, j⟩ _ _ rfl HOq.out rfl rfl rfl hdx HHq.out ?_; intro v5 w5 ho5 hb5 _; have HO5 := Lib.hid ho5; have HB5 := Lib.hid (HBq.out.trans hb5); clear ho5 hb5)
          go_roundw
          case rel => exact ⟨i + 1, j + 1, _, by omega, by omega, by rw [List.length_append, List.length_singleton]; omega, by go_num, by go_num, HO5, HB5, HE3⟩
          case measure => simp [intOf]; omega
        · have hx : (a[i] == b[j]) = false := by simpa using he
          have HEo : Hid (lcs (a.drop (i + 1)) (b.drop j) = lcs (a.drop i) (b.drop j) → dn ++ wkF ((i + 1 : Nat) : Int) j (a.drop (i + 1)) (b.drop j) = wkF 0 0 a b) := Lib.hid (fun h => by
            rw [List.drop_eq_getElem_cons x1, List.drop_eq_getElem_cons x2] at h
            have := HE2.out
            rw [wkF_old he h] at this
            rw [← this, List.drop_eq_getElem_cons x2]; rfl)
          have HEn : Hid (lcs (a.drop (i + 1)) (b.drop j) ≠ lcs (a.drop i) (b.drop j) → dn ++ wkF i ((j + 1 : Nat) : Int) (a.drop i) (b.drop (j + 1)) = wkF 0 0 a b) := Lib.hid (fun h => by
            rw [List.drop_eq_getElem_cons x1, List.drop_eq_getElem_cons x2] at h
            have := HE2.out
            rw [wkF_new he h] at this
            rw [← this, List.drop_eq_getElem_cons x1]; rfl)
          clear HE HE2 he
          generalize a[i] = y at *
          generalize b[j] = z at *
          clear x1 x2
          have s5 : IntKind.i64.wrap (dI a b (i + 1) j + 1) = dI a b (i + 1) j + 1 := by rw [IntWalk.i64_in _ (by omega)]
          by_cases hl : lcs (a.drop (i + 1)) (b.drop j) = lcs (a.drop i) (b.drop j)
          · have hv : (dI a b (i + 1) j + 1 == dI a b i j) = true := by rw [beq_iff_eq]; exact HOld.out.2 hl
            have HEx := Lib.hid (HEo.out hl)
            clear HEo HEn HOld hl
            generalize dI a b (i + 1) j = v2 at *
            generalize dI a b i j = v1 at *
            go_wp2_with fail
            go_quiet (fail)
            have HOq := Lib.hid (HO.out.drewN nq)
            have HBq := Lib.hid (below_drewN HBl.out nq)
            have t1 := cell_dn q1 nq
            have t2 := cell_dn q2 nq
            have t3 := cell_dn q3 nq
            have t4 := cell_dn q4 nq
            clear q1 q2 q3 q4 r1 r2 HO HBl
            generalize World.drewN wr nq = wq at *
            go_wp2_with fail
            go_quiet (fail)
            have HO5 := Lib.hid (HOq.out.drewN nq)
            have HB5 := Lib.hid (below_drewN HBq.out nq)
            go_wp2_with fail
            go_roundw
            case rel => exact ⟨i + 1, j, _, by omega, by omega, by omega, by go_num, rfl, HO5, HB5, HEx⟩
            case measure => simp [intOf]; omega
          · have hv : (dI a b (i + 1) j + 1 == dI a b i j) = false := by rw [beq_eq_false_iff_ne]; exact fun h => hl (HOld.out.1 h)
            have HEx := Lib.hid (HEn.out hl)
            clear HEo HEn HOld hl
            generalize dI a b (i + 1) j = v2 at *
            generalize dI a b i j = v1 at *
            go_wp2_with fail
            go_quiet (fail)
            have HOq := Lib.hid (HO.out.drewN nq)
            have HBq := Lib.hid (below_drewN HBl.out nq)
            have t1 := cell_dn q1 nq
            have t2 := cell_dn q2 nq
            have t3 := cell_dn q3 nq
            have t4 := cell_dn q4 nq
            clear q1 q2 q3 q4 r1 r2 HO HBl
            generalize World.drewN wr nq = wq at *
            go_wp2_with fail
            go_quiet (fail)
            have HO5 := Lib.hid (HOq.out.drewN nq)
            have HB5 := Lib.hid (below_drewN HBq.out nq)
            go_wp2_with fail
            go_roundw
            case rel => exact ⟨i, j + 1, _, by omega, by omega, by omega, rfl, by go_num, HO5, HB5, HEx⟩
            case measure => simp [intOf]; omega
      · have dd2 : decide (j < m) = false := decide_eq_false h2
        have hjm : j = m := by omega
        have hl : lcs (a.drop (i + 1)) (b.drop j) = lcs (a.drop i) (b.drop j) := by
          rw [List.drop_of_length_le (l := b) (by rw [← HM.out]; omega), lcs_nil', lcs_nil']
        have hv : (dI a b (i + 1) j + 1 == dI a b i j) = true := by rw [beq_iff_eq]; exact HOld.out.2 hl
        have s5 : IntKind.i64.wrap (dI a b (i + 1) j + 1) = dI a b (i + 1) j + 1 := by rw [IntWalk.i64_in _ (by omega)]
        have HEx : Hid (dn ++ wkF ((i + 1 : Nat) : Int) j (a.drop (i + 1)) (b.drop j) = wkF 0 0 a b) := Lib.hid (by
          have h := HE.out
          rw [List.drop_of_length_le (l := b) (by rw [← HM.out]; omega), wkF_nil'] at h ⊢
          exact h)
        clear HE HOld hl hjm r1 x1
        generalize dI a b (i + 1) j = v2 at *
        generalize dI a b i j = v1 at *
        go_wp2_with fail
        go_quiet (fail)
        have HOq := Lib.hid (HO.out.drewN nq)
        have HBq := Lib.hid (below_drewN HBl.out nq)
        have t1 := cell_dn q1 nq
        have t2 := cell_dn q2 nq
        have t3 := cell_dn q3 nq
        have t4 := cell_dn q4 nq
        clear q1 q2 q3 q4 HO HBl
        generalize World.drewN wr nq = wq at *
        go_wp2_with fail
        go_quiet (fail)
        have HO5 := Lib.hid (HOq.out.drewN nq)
        have HB5 := Lib.hid (below_drewN HBq.out nq)
        go_wp2_with fail
        go_roundw
        case rel => exact ⟨i + 1, j, _, by omega, by omega, by omega, by go_num, rfl, HO5, HB5, HEx⟩
        case measure => simp [intOf]; omega
    · have dd1 : decide (i < n) = false := decide_eq_false h1
      have hnil : a.drop i = [] := List.drop_of_length_le (by rw [← HN.out]; omega)
      by_cases h2 : j < m
      · have dd2 : decide (j < m) = true := decide_eq_true h2
        have HEx : Hid (dn ++ wkF i ((j + 1 : Nat) : Int) (a.drop i) (b.drop (j + 1)) = wkF 0 0 a b) := Lib.hid (by
          have h := HE.out
          rw [hnil, wkF_nil] at h ⊢
          exact h)
        clear HE hnil
        go_wp2_with fail
        go_quiet (fail)
        have HOq := Lib.hid (HO.out.drewN nq)
        have HBq := Lib.hid (below_drewN HBl.out nq)
        clear HO HBl
        generalize World.drewN wr nq = wq at *
        go_wp2_with fail
        go_quiet (fail)
        have HO5 := Lib.hid (HOq.out.drewN nq)
        have HB5 := Lib.hid (below_drewN HBq.out nq)
        go_wp2_with fail
        go_roundw
        case rel => exact ⟨i, j + 1, _, by omega, by omega, by omega, rfl, by go_num, HO5, HB5, HEx⟩
        case measure => simp [intOf]; omega
      · have dd2 : decide (j < m) = false := decide_eq_false h2
        have HF : Hid (dn = wkF 0 0 a b) := Lib.hid (by
          have h := HE.out
          rw [hnil, wkF_nil, List.append_nil] at h
          exact h)
        have HMx := Lib.hid (HMd.out _ wr (.inr ⟨_, by rw [← HF.out]; exact HO.out⟩))
        have HBf := Lib.hid (HB1.out.trans (HBl.out.mono HB1.out.size))
        clear HE hnil
        go_wp2_with (go_at_call 43; refine HMx.out.mono ?_; rintro e w5 ⟨v5, rfl, ho5, hb5⟩; have HO5 := Lib.hid (ho5.base HBf.out.size); have HB5 := Lib.hid (HBf.out.trans (hb5.mono HBf.out.size)); clear ho5 hb5)
        go_ret
        exact ⟨_, rfl, HO5.out, HB5.out⟩
end Sh
end Go.Proofs.Ytechabkmepejaaa
