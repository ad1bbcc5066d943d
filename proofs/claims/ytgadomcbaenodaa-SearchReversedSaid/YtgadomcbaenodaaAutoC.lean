/-
  The program's has and follows. No conditions. The program's Check of automata. Condition: the list's length. The reference's Check of automata. Condition: the list's length.
-/
import Derived.Test.YtgadomcbaenodaaAutoB
import Derived.Deep.RegionHeld3
import Derived.Deep.RegionLaw
import Derived.Deep.Cut
namespace Go.Proofs.Ytgadomcbaenodaa
section
open Go.RowKit
namespace Au
open Cm Rx
theorem any_newA (w : World) (C : Array Value) (t : TypeId) : ∀ (i : Nat) (u : Value), C[i]? = some u → (w.alloc (.cells C t)).cell? ⟨w.heap.size, i, none⟩ = some u := fun i u h => by rw [World.cell?_alloc_mark]; exact h
set_option maxRecDepth 100000 in
set_option maxHeartbeats 2000000 in
theorem has_any (A : Option Addr) (n c : Nat) (st i : Int) (w : World) : Calls Try.prog 41 #[.agg #[.slice A n c, .int .i64 st], .int .i64 i] w fun e w' => e = .returned (.bool (hasB n i)) ∧ Below w.heap.size w w' := by
  have hc : (0 ≤ i ∧ i < (n : Int)) ∨ (0 ≤ i ∧ ¬ i < (n : Int)) ∨ ¬ 0 ≤ i := by omega
  rcases hc with ⟨h1, h2⟩ | ⟨h1, h2⟩ | h1
  · have HB : Hid (hasB n i = true) := Lib.hid (decide_eq_true ⟨h1, h2⟩)
    go_enter Try.func41, Try.ntmps41
    go_wp2_with fail
    go_ret
    exact ⟨by rw [HB.out]; first | rfl | simp [h2], (Below.refl _ _).alloc (Nat.le_refl _) _⟩
  · have HB : Hid (hasB n i = false) := Lib.hid (decide_eq_false (fun h => h2 h.2))
    have d2 : decide (i < (n : Int)) = false := decide_eq_false h2
    go_enter Try.func41, Try.ntmps41
    go_wp2_with fail
    go_ret
    exact ⟨by rw [HB.out]; first | rfl | simp [h2], (Below.refl _ _).alloc (Nat.le_refl _) _⟩
  · have HB : Hid (hasB n i = false) := Lib.hid (decide_eq_false (fun h => h1 h.1))
    have d1 : decide (0 ≤ i) = false := decide_eq_false h1
    go_enter Try.func41, Try.ntmps41
    go_wp2_with fail
    go_ret
    exact ⟨by rw [HB.out]; rfl, (Below.refl _ _).alloc (Nat.le_refl _) _⟩
theorem below_tr' {w w1 w2 : World} (h : Below w.heap.size w w1) (hb : Below w1.heap.size w1 w2) : Below w.heap.size w w2 := h.trans (hb.mono h.size)
theorem cell_dr {w w' : World} {b i : Nat} {u : Value} (h : Below w.drew.heap.size w.drew w') (hc : w.cell? ⟨b, i, none⟩ = some u) : w'.cell? ⟨b, i, none⟩ = some u := by
  have hc2 : w.drew.cell? ⟨b, i, none⟩ = some u := hc
  exact (h.cell (p := ⟨b, i, none⟩) (Tx.cell_lt hc2)).trans hc2
theorem keep4 {w' w6 : World} {a0 a1 b0 b1 : Nat} {i0 i1 j0 j1 : Nat} {x0 x1 y0 y1 : Value} (hB : Below w'.drew.heap.size w'.drew w6) (h : w'.cell? ⟨a0, i0, none⟩ = some x0 ∧ w'.cell? ⟨a1, i1, none⟩ = some x1 ∧ w'.cell? ⟨b0, j0, none⟩ = some y0 ∧ w'.cell? ⟨b1, j1, none⟩ = some y1) :
    w6.cell? ⟨a0, i0, none⟩ = some x0 ∧ w6.cell? ⟨a1, i1, none⟩ = some x1 ∧ w6.cell? ⟨b0, j0, none⟩ = some y0 ∧ w6.cell? ⟨b1, j1, none⟩ = some y1 :=
  ⟨cell_dr hB h.1, cell_dr hB h.2.1, cell_dr hB h.2.2.1, cell_dr hB h.2.2.2⟩
theorem keep4b {w' w6 : World} {a0 a1 b0 b1 : Nat} {i0 i1 j0 j1 : Nat} {x0 x1 y0 y1 : Value} (hB : Below w'.heap.size w' w6) (h : w'.cell? ⟨a0, i0, none⟩ = some x0 ∧ w'.cell? ⟨a1, i1, none⟩ = some x1 ∧ w'.cell? ⟨b0, j0, none⟩ = some y0 ∧ w'.cell? ⟨b1, j1, none⟩ = some y1) :
    w6.cell? ⟨a0, i0, none⟩ = some x0 ∧ w6.cell? ⟨a1, i1, none⟩ = some x1 ∧ w6.cell? ⟨b0, j0, none⟩ = some y0 ∧ w6.cell? ⟨b1, j1, none⟩ = some y1 :=
  ⟨(hB.cell (p := ⟨a0, i0, none⟩) (Tx.cell_lt h.1)).trans h.1, (hB.cell (p := ⟨a1, i1, none⟩) (Tx.cell_lt h.2.1)).trans h.2.1, (hB.cell (p := ⟨b0, j0, none⟩) (Tx.cell_lt h.2.2.1)).trans h.2.2.1, (hB.cell (p := ⟨b1, j1, none⟩) (Tx.cell_lt h.2.2.2)).trans h.2.2.2⟩
set_option maxRecDepth 100000 in
set_option maxHeartbeats 4000000 in
theorem follows_any (A : Option Addr) (n c : Nat) (st : Int) (b o : Nat) (s : St) (w : World) (hs : StAt w b o s) : Calls Try.prog 42 #[.agg #[.slice A n c, .int .i64 st], .pointer (some ⟨b, o, none⟩)] w fun e w' => e = .returned (.bool (okS n s)) ∧ Below w.heap.size w w' := by
  have HHas := Lib.hid (fun i W => has_any A n c st i W)
  have hs2 := hs.below ((Below.refl w.heap.size w).alloc (Nat.le_refl _) (.cells #[.slice A n c, .int .i64 st] 32))
  obtain ⟨p0, _, _, _, _, p5, p6⟩ := hs2
  have HK : Hid ((w.alloc (.cells #[.slice A n c, .int .i64 st] 32)).cell? ⟨w.heap.size, 0, none⟩ = some (.slice A n c) ∧ (w.alloc (.cells #[.slice A n c, .int .i64 st] 32)).cell? ⟨w.heap.size, 1, none⟩ = some (.int .i64 st) ∧ (w.alloc (.cells #[.slice A n c, .int .i64 st] 32)).cell? ⟨b, o + 5, none⟩ = some (.int .i64 s.next) ∧ (w.alloc (.cells #[.slice A n c, .int .i64 st] 32)).cell? ⟨b, o + 6, none⟩ = some (.int .i64 s.other)) := Lib.hid ⟨any_newA w #[.slice A n c, .int .i64 st] 32 0 _ rfl, any_newA w #[.slice A n c, .int .i64 st] 32 1 _ rfl, p5, p6⟩
  have HB0 : Hid (Below w.heap.size w (w.alloc (.cells #[.slice A n c, .int .i64 st] 32))) := Lib.hid ((Below.refl _ _).alloc (Nat.le_refl _) _)
  have HOk : Hid (okS n s = if s.kind = 0 ∨ s.kind = 2 ∨ s.kind = 3 then hasB n s.next else if s.kind = 1 then hasB n s.next && hasB n s.other else decide (s.kind = 4)) := Lib.hid rfl
  clear hs p5 p6
  by_cases k0 : s.kind = 0 ∨ s.kind = 2 ∨ s.kind = 3
  · have HR : Hid (okS n s = hasB n s.next) := Lib.hid (by rw [HOk.out, if_pos k0])
    rcases k0 with k | k | k
    all_goals
      rw [k] at p0
      clear k
      go_enter Try.func42, Try.ntmps42
      go_wp2_with fail
      go_region_held3 (fun V => V.cell? ⟨w.heap.size, 0, none⟩ = some (.slice A n c) ∧ V.cell? ⟨w.heap.size, 1, none⟩ = some (.int .i64 st) ∧ V.cell? ⟨b, o + 5, none⟩ = some (.int .i64 s.next) ∧ V.cell? ⟨b, o + 6, none⟩ = some (.int .i64 s.other)) (first | exact HK6.out | exact HK.out) (first | (go_at_call 41; refine (HHas.out _ _).mono ?_; rintro e w6 ⟨rfl, B6⟩; have HK6 : Hid (w6.cell? ⟨w.heap.size, 0, none⟩ = some (.slice A n c) ∧ w6.cell? ⟨w.heap.size, 1, none⟩ = some (.int .i64 st) ∧ w6.cell? ⟨b, o + 5, none⟩ = some (.int .i64 s.next) ∧ w6.cell? ⟨b, o + 6, none⟩ = some (.int .i64 s.other)) := Lib.hid (keep4 B6 HK.out); have HB6 := Lib.hid (below_tr' HB0.out.drew B6); clear B6))
      all_goals
        go_wp2_with fail
        go_ret
        exact ⟨by rw [HR.out]; rfl, HB6.out⟩
  · by_cases k1 : s.kind = 1
    · have HR : Hid (okS n s = (hasB n s.next && hasB n s.other)) := Lib.hid (by rw [HOk.out, if_neg k0, if_pos k1])
      rw [k1] at p0
      clear k0 k1
      generalize s.next = nx at HK HR
      generalize s.other = ot at HK HR
      cases hb : hasB n nx with
      | true =>
        have HBe := Lib.hid hb
        rw [hb] at HR
        clear hb
        go_enter Try.func42, Try.ntmps42
        go_wp2_with fail
        go_region_held3 (fun V => V.cell? ⟨w.heap.size, 0, none⟩ = some (.slice A n c) ∧ V.cell? ⟨w.heap.size, 1, none⟩ = some (.int .i64 st) ∧ V.cell? ⟨b, o + 5, none⟩ = some (.int .i64 nx) ∧ V.cell? ⟨b, o + 6, none⟩ = some (.int .i64 ot)) (first | exact HK6.out | exact HK.out) (first | (go_at_call 41; refine (HHas.out _ _).mono ?_; rintro e w6 ⟨rfl, B6⟩; (try rw [HBe.out]); have HK6 : Hid (w6.cell? ⟨w.heap.size, 0, none⟩ = some (.slice A n c) ∧ w6.cell? ⟨w.heap.size, 1, none⟩ = some (.int .i64 st) ∧ w6.cell? ⟨b, o + 5, none⟩ = some (.int .i64 nx) ∧ w6.cell? ⟨b, o + 6, none⟩ = some (.int .i64 ot)) := Lib.hid (by first | exact keep4b B6 HK6.out | exact keep4 B6 HK.out); have HB6 : Hid (Below w.heap.size w w6) := Lib.hid (by first | exact below_tr' HB6.out B6 | exact below_tr' HB0.out.drew B6); clear B6))
        all_goals
          go_wp2_with fail
          go_ret
          exact ⟨by rw [HR.out]; rfl, HB6.out⟩
      | false =>
        have HBe := Lib.hid hb
        rw [hb] at HR
        clear hb
        go_enter Try.func42, Try.ntmps42
        go_wp2_with fail
        refine wp_region_held_drew (S := fun V => V.cell? ⟨w.heap.size, 0, none⟩ = some (.slice A n c) ∧ V.cell? ⟨w.heap.size, 1, none⟩ = some (.int .i64 st) ∧ V.cell? ⟨b, o + 5, none⟩ = some (.int .i64 nx) ∧ V.cell? ⟨b, o + 6, none⟩ = some (.int .i64 ot)) (by kernel_rfl) HK.out (fun hHeld => ?_)
        refine wpAnyH_take (i := 0) (v := .agg #[.slice A n c, .int .i64 st]) rfl (by kernel_rfl) (by kernel_rfl) (by kernel_rfl) (fun _ _ _ h => h) (Or.inl ⟨by rfl, ?_⟩) (by assumption) ?_
        · intro V hV
          obtain ⟨h0, h1, h2, h3⟩ := hV
          go_simp
        simp only [Act.put, List.setIfInBounds_toArray]
        refine wpAnyH_take (i := 1) (v := .pointer (some ⟨b, o, none⟩)) rfl (by kernel_rfl) (by kernel_rfl) (by kernel_rfl) (fun _ _ _ h => h) (Or.inl ⟨by rfl, ?_⟩) (by assumption) ?_
        · intro V hV
          obtain ⟨h0, h1, h2, h3⟩ := hV
          go_simp
        simp only [Act.put]
        refine wpAnyH_take (i := 2) (v := .pointer (some ⟨b, o, none⟩)) rfl (by kernel_rfl) (by kernel_rfl) (by kernel_rfl) (fun _ _ _ h => h) (Or.inl ⟨by rfl, ?_⟩) (by assumption) ?_
        · intro V hV
          obtain ⟨h0, h1, h2, h3⟩ := hV
          go_simp
        simp only [Act.put]
        refine wpAnyH_take (i := 3) (v := .pointer (some ⟨b, o + 5, none⟩)) rfl (by kernel_rfl) (by kernel_rfl) (by kernel_rfl) (fun _ _ _ h => h) (Or.inl ⟨by rfl, ?_⟩) (by assumption) ?_
        · intro V hV
          obtain ⟨h0, h1, h2, h3⟩ := hV
          go_simp
        simp only [Act.put]
        refine wpAnyH_take (i := 4) (v := .int .i64 nx) rfl (by kernel_rfl) (by kernel_rfl) (by kernel_rfl) (fun _ _ _ h => h) (Or.inl ⟨by rfl, ?_⟩) (by assumption) ?_
        · intro V hV
          obtain ⟨h0, h1, h2, h3⟩ := hV
          go_simp
        simp only [Act.put]
        refine wpAnyH_ready (rs := [5]) (by kernel_rfl) (by simp) ?_
        refine AllReadyH.cons rfl (fun K hK => ?_) AllReadyH.nil
        go_simp
        go_at_call 41
        refine (HHas.out _ _).mono ?_
        rintro e w6 ⟨rfl, B6⟩
        rw [HBe.out]
        have HB6 := Lib.hid (below_tr' HB0.out.drew B6)
        refine hK.out _ _ (keep4 B6 HK.out) (fun hHeld2 => ?_)
        clear hK K B6 hHeld
        refine wpAnyH_take (i := 6) (v := .bool false) rfl (by kernel_rfl) (by kernel_rfl) (by kernel_rfl) (fun _ _ _ h => h) (Or.inl ⟨by rfl, ?_⟩) (by assumption) ?_
        · intro V hV
          obtain ⟨h0, h1, h2, h3⟩ := hV
          go_simp
        simp only [Act.put, List.setIfInBounds_toArray]
        refine wpAnyH_take (i := 7) (v := undef) rfl (by kernel_rfl) (by kernel_rfl) (by kernel_rfl) (fun _ _ _ h => h) (Or.inr ⟨by rfl, rfl⟩) (by assumption) ?_
        simp only [Act.put]
        refine wpAnyH_take (i := 8) (v := undef) rfl (by kernel_rfl) (by kernel_rfl) (by kernel_rfl) (fun _ _ _ h => h) (Or.inr ⟨by rfl, rfl⟩) (by assumption) ?_
        simp only [Act.put]
        refine wpAnyH_take (i := 9) (v := undef) rfl (by kernel_rfl) (by kernel_rfl) (by kernel_rfl) (fun _ _ _ h => h) (Or.inr ⟨by rfl, rfl⟩) (by assumption) ?_
        simp only [Act.put]
        refine wpAnyH_take (i := 10) (v := undef) rfl (by kernel_rfl) (by kernel_rfl) (by kernel_rfl) (fun _ _ _ h => h) (Or.inr ⟨by rfl, rfl⟩) (by assumption) ?_
        simp only [Act.put]
        refine wpAnyH_take (i := 11) (v := undef) rfl (by kernel_rfl) (by kernel_rfl) (by kernel_rfl) (fun _ _ _ h => h) (Or.inr ⟨by rfl, rfl⟩) (by assumption) ?_
        simp only [Act.put]
        refine wpAnyH_take (i := 12) (v := undef) rfl (by kernel_rfl) (by kernel_rfl) (by kernel_rfl) (fun _ _ _ h => h) (Or.inr ⟨by rfl, rfl⟩) (by assumption) ?_
        simp only [Act.put]
        refine wpAnyH_take (i := 13) (v := .bool false) rfl (by kernel_rfl) (by kernel_rfl) (by kernel_rfl) (fun _ _ _ h => h) (Or.inl ⟨by rfl, ?_⟩) (by assumption) ?_
        · intro V hV
          obtain ⟨h0, h1, h2, h3⟩ := hV
          go_simp
        change wpAnyH _ _ _ _ _ _ _ (Act.put _ (some 34) _) _
        simp only [Act.put]
        refine wpAnyH_take (i := 14) (v := .bool false) rfl (by kernel_rfl) (by kernel_rfl) (by kernel_rfl) (fun _ _ _ h => h) (Or.inl ⟨by rfl, ?_⟩) (by assumption) ?_
        · intro V hV
          obtain ⟨h0, h1, h2, h3⟩ := hV
          go_simp
        change wpAnyH _ _ _ _ _ _ _ (Act.put _ (some 4) _) _
        simp only [Act.put]
        refine wpAnyH_done (by kernel_rfl) ?_ _
        go_wp2_with fail
        go_ret
        exact ⟨by rw [HR.out]; first | rfl | simp, HB6.out⟩
    · have HR : Hid (okS n s = decide (s.kind = 4)) := Lib.hid (by rw [HOk.out, if_neg k0, if_neg k1])
      have e0 : (s.kind == 0) = false := by rw [beq_eq_false_iff_ne]; omega
      have e2 : (s.kind == 2) = false := by rw [beq_eq_false_iff_ne]; omega
      have e3 : (s.kind == 3) = false := by rw [beq_eq_false_iff_ne]; omega
      have e1 : (s.kind == 1) = false := by rw [beq_eq_false_iff_ne]; omega
      by_cases k4 : s.kind = 4
      · have HR2 : Hid (okS n s = true) := Lib.hid (by rw [HR.out]; exact decide_eq_true k4)
        have e4 : (s.kind == 4) = true := by rw [k4]; rfl
        clear k0 k1 k4
        go_enter Try.func42, Try.ntmps42
        go_wp2_with fail
        go_ret
        exact ⟨by rw [HR2.out]; rfl, HB0.out⟩
      · have HR2 : Hid (okS n s = false) := Lib.hid (by rw [HR.out]; exact decide_eq_false k4)
        have e4 : (s.kind == 4) = false := by rw [beq_eq_false_iff_ne]; exact k4
        clear k0 k1 k4
        go_enter Try.func42, Try.ntmps42
        go_wp2_with fail
        go_ret
        exact ⟨by rw [HR2.out]; rfl, HB0.out⟩
end Au
end
section
open Go.RowKit
namespace Au
open Cm Rx
set_option maxRecDepth 100000 in
set_option maxHeartbeats 4000000 in
theorem CheckA_any (v : Value) (ss : List St) (st : Int) (w : World) (h : RdA w v ss) (hl : ss.length ≤ 4611686018427387904) :
    Calls Try.prog 27 #[.agg #[v, .int .i64 st]] w fun e w' => e = .returned (.int .i64 (checkA ss st)) ∧ Below w.heap.size w w' := by
  obtain ⟨A, c, rfl, hA⟩ := h
  have HA := Lib.hid hA
  have HT := Lib.hid (fun (h : ValidA ss st) => checkA_T h)
  have HF := Lib.hid (fun (h : ¬ ValidA ss st) => checkA_F h)
  clear hA
  obtain ⟨n, hn⟩ : ∃ n, n = ss.length := ⟨_, rfl⟩
  have HV : Hid (ValidA ss st ↔ n ≤ 8000 ∧ hasB n st = true ∧ ∀ k (h : k < ss.length), okS n ss[k] = true) := Lib.hid (by subst hn; exact Iff.rfl)
  have HN := Lib.hid hn.symm
  rw [← hn] at hl ⊢
  clear hn
  have HHas := Lib.hid (fun W => has_any A n c st st W)
  by_cases hbig : (8000 : Int) < (n : Int)
  · have HR : Hid (checkA ss st = 2) := Lib.hid (HF.out (fun hv => by have := (HV.out.1 hv).1; omega))
    go_enter Try.func27, Try.ntmps27
    go_wp2_with fail
    go_ret
    exact ⟨by rw [HR.out]; rfl, (Below.refl _ _).alloc (Nat.le_refl _) _⟩
  have d1 : decide ((8000 : Int) < (n : Int)) = false := by simp only [decide_eq_false_iff_not]; omega
  cases hb : hasB n st with
  | false =>
    have HR : Hid (checkA ss st = 2) := Lib.hid (HF.out (fun hv => by have := (HV.out.1 hv).2.1; rw [hb] at this; cases this))
    rw [hb] at HHas
    clear hb
    go_enter Try.func27, Try.ntmps27
    go_wp2_with fail
    refine (HHas.out _).mono ?_
    rintro e w1 ⟨rfl, B1⟩
    have HB1 := Lib.hid (below_tr' ((Below.refl w.heap.size w).alloc (Nat.le_refl _) _) B1)
    clear B1
    go_wp2_with fail
    go_ret
    exact ⟨by rw [HR.out]; rfl, HB1.out⟩
  | true =>
    rw [hb] at HHas
    have HHb := Lib.hid hb
    clear hb
    go_enter Try.func27, Try.ntmps27
    go_wp2_with fail
    refine (HHas.out _).mono ?_
    rintro e w1 ⟨rfl, B1⟩
    have HB1 := Lib.hid (below_tr' ((Below.refl w.heap.size w).alloc (Nat.le_refl _) (.cells #[.slice A n c, .int .i64 st] 32)) B1)
    have q0 : w1.cell? ⟨w.heap.size, 0, none⟩ = some (.slice A n c) := (B1.cell (p := ⟨w.heap.size, 0, none⟩) (by simp)).trans (any_newA w _ _ 0 _ rfl)
    have q1 : w1.cell? ⟨w.heap.size, 1, none⟩ = some (.int .i64 st) := (B1.cell (p := ⟨w.heap.size, 1, none⟩) (by simp)).trans (any_newA w _ _ 1 _ rfl)
    have HQ := Lib.hid (And.intro q0 q1)
    clear B1
    go_wp2_with fail
    clear q0 q1
    go_loopw [18] (fun i wr => ∃ j : Nat, j ≤ n ∧ i = .int .i64 (j : Int) ∧ Hid (∀ k (h : k < ss.length), k < j → okS n ss[k] = true) ∧ Hid (Below w.heap.size w wr) ∧ Hid (wr.cell? ⟨w.heap.size, 0, none⟩ = some (.slice A n c) ∧ wr.cell? ⟨w.heap.size, 1, none⟩ = some (.int .i64 st))) (fun i _ => n - (intOf i).toNat)
    case atStart => exact ⟨0, Nat.zero_le _, by go_num, Lib.hid (fun k _ h => absurd h (Nat.not_lt_zero _)), HB1, HQ⟩
    case round =>
      obtain ⟨j, hj, rfl, HO, HB, HC⟩ := hrel
      by_cases hlt : j < n
      · have hx : j < ss.length := by rw [HN.out]; exact hlt
        obtain ⟨b, off, rfl, hA1⟩ := HA.out (by rw [HN.out]; omega)
        have hat := (hA1 j hx).below HB.out
        have HFo := Lib.hid (fun W (hb : Below wr.heap.size wr W) => follows_any (some ⟨b, off, none⟩) n c st b (off + j * 7) ss[j] W (hat.below hb))
        have q0 := HC.out.1
        have q1 := HC.out.2
        have i1 : (0 : Int) ≤ (j : Int) := by omega
        have i2 : (j : Int) < (n : Int) := by omega
        clear hA1 hat
        cases hok : okS n ss[j] with
        | true =>
          have HOk2 : Hid (∀ k (h : k < ss.length), k < j + 1 → okS n ss[k] = true) := Lib.hid (fun k hk1 hk2 => by
            by_cases hkj : k < j
            · exact HO.out k hk1 hkj
            · have : k = j := by omega
              subst this; exact hok)
          rw [hok] at HFo
          clear hok
          go_wp2_with fail
          go_region_held3 (fun V => V.cell? ⟨w.heap.size, 0, none⟩ = some (.slice (some ⟨b, off, none⟩) n c) ∧ V.cell? ⟨w.heap.size, 1, none⟩ = some (.int .i64 st)) (first | exact HK6.out | exact HC.out) (first | (go_at_call 42; refine (HFo.out _ (Below.refl _ _).drew).mono ?_; rintro e w6 ⟨rfl, B6⟩; have HK6 : Hid (w6.cell? ⟨w.heap.size, 0, none⟩ = some (.slice (some ⟨b, off, none⟩) n c) ∧ w6.cell? ⟨w.heap.size, 1, none⟩ = some (.int .i64 st)) := Lib.hid ⟨cell_dr B6 HC.out.1, cell_dr B6 HC.out.2⟩; have HB6 := Lib.hid (below_tr' HB.out.drew B6); clear B6))
          all_goals
            go_wp2_with fail
            go_roundw
            case rel => exact ⟨j + 1, by omega, by go_num, HOk2, HB6, HK6⟩
            case measure => simp [intOf]; omega
        | false =>
          have HR : Hid (checkA ss st = 2) := Lib.hid (HF.out (fun hv => by have := (HV.out.1 hv).2.2 j hx; rw [hok] at this; cases this))
          rw [hok] at HFo
          clear hok
          go_wp2_with fail
          go_region_held3 (fun V => V.cell? ⟨w.heap.size, 0, none⟩ = some (.slice (some ⟨b, off, none⟩) n c) ∧ V.cell? ⟨w.heap.size, 1, none⟩ = some (.int .i64 st)) (first | exact HK6.out | exact HC.out) (first | (go_at_call 42; refine (HFo.out _ (Below.refl _ _).drew).mono ?_; rintro e w6 ⟨rfl, B6⟩; have HK6 : Hid (w6.cell? ⟨w.heap.size, 0, none⟩ = some (.slice (some ⟨b, off, none⟩) n c) ∧ w6.cell? ⟨w.heap.size, 1, none⟩ = some (.int .i64 st)) := Lib.hid ⟨cell_dr B6 HC.out.1, cell_dr B6 HC.out.2⟩; have HB6 := Lib.hid (below_tr' HB.out.drew B6); clear B6))
          all_goals
            go_wp2_with fail
            go_ret
            exact ⟨by rw [HR.out]; rfl, HB6.out⟩
      · have hd : decide (j < n) = false := by simp only [decide_eq_false_iff_not]; omega
        have HR : Hid (checkA ss st = 0) := Lib.hid (HT.out (HV.out.2 ⟨by omega, HHb.out, fun k h => HO.out k h (by rw [HN.out] at h; omega)⟩))
        go_wp2_with fail
        go_ret
        exact ⟨by rw [HR.out]; rfl, HB.out⟩
end Au
end
section
open Go.RowKit
namespace Au
open Cm Rx
theorem any_newR (w : World) (C : Array Value) (t : TypeId) : ∀ (i : Nat) (u : Value), C[i]? = some u → (w.alloc (.cells C t)).cell? ⟨w.heap.size, i, none⟩ = some u := fun i u h => by rw [World.cell?_alloc_mark]; exact h
end Au
end
end Go.Proofs.Ytgadomcbaenodaa
