/-
  The program's and the reference's tests on numbers of lines; their Check. Condition: the fields are numbers that an int holds, the list is not longer than a slice may be.
-/
import Derived.Test.YtlckdacmeandmaaScrBase
namespace Go.Proofs.Ytlckdacmeandmaa
open Go.RowKit
namespace Sc
open Cm
def inB (n : Int) : Bool := decide (0 ≤ n ∧ n ≤ 4096)
def wiB (f l n : Int) : Bool := decide (0 ≤ f ∧ 0 ≤ l ∧ l ≤ n - f)
theorem inB_T {n : Int} (h : inI n) : inB n = true := decide_eq_true h
theorem inB_F {n : Int} (h : ¬ inI n) : inB n = false := decide_eq_false h
theorem wiB_T {f l n : Int} (h : wiI f l n) : wiB f l n = true := decide_eq_true h
theorem wiB_F {f l n : Int} (h : ¬ wiI f l n) : wiB f l n = false := decide_eq_false h
theorem isLength_any (n : Int) (w : World) : Calls Try.prog 24 #[.int .i64 n] w fun e w' => e = .returned (.bool (inB n)) ∧ w = w' := by
  by_cases h0 : 0 ≤ n
  · by_cases h1 : n ≤ 4096
    · have h : inB n = true := inB_T ⟨h0, h1⟩
      go_enter Try.func24, Try.ntmps24
      go_wp2_with fail
      go_ret
      first | exact ⟨rfl, rfl⟩ | exact ⟨by rw [h]; rfl, rfl⟩
    · have h : inB n = false := inB_F (fun h => h1 h.2)
      have d1 : decide (n ≤ 4096) = false := decide_eq_false h1
      go_enter Try.func24, Try.ntmps24
      go_wp2_with fail
      go_ret
      first | exact ⟨rfl, rfl⟩ | exact ⟨by rw [h]; rfl, rfl⟩
  · have h : inB n = false := inB_F (fun h => h0 h.1)
    have d1 : decide (0 ≤ n) = false := decide_eq_false h0
    go_enter Try.func24, Try.ntmps24
    go_wp2_with fail
    go_ret
    first | exact ⟨rfl, rfl⟩ | exact ⟨by rw [h]; rfl, rfl⟩
theorem in_any (n : Int) (w : World) : Calls Try.prog 23 #[.int .i64 n] w fun e w' => e = .returned (.bool (inB n)) ∧ w = w' := by
  by_cases h0 : 0 ≤ n
  · by_cases h1 : n ≤ 4096
    · have h : inB n = true := inB_T ⟨h0, h1⟩
      go_enter Try.func23, Try.ntmps23
      go_wp2_with fail
      go_ret
      first | exact ⟨rfl, rfl⟩ | exact ⟨by rw [h]; rfl, rfl⟩
    · have h : inB n = false := inB_F (fun h => h1 h.2)
      have d1 : decide (n ≤ 4096) = false := decide_eq_false h1
      go_enter Try.func23, Try.ntmps23
      go_wp2_with fail
      go_ret
      first | exact ⟨rfl, rfl⟩ | exact ⟨by rw [h]; rfl, rfl⟩
  · have h : inB n = false := inB_F (fun h => h0 h.1)
    have d1 : decide (0 ≤ n) = false := decide_eq_false h0
    go_enter Try.func23, Try.ntmps23
    go_wp2_with fail
    go_ret
    first | exact ⟨rfl, rfl⟩ | exact ⟨by rw [h]; rfl, rfl⟩
theorem within_any (f l n : Int) (w : World) (hf : f ≤ 9223372036854775807) (hn : inI n) : Calls Try.prog 25 #[.int .i64 f, .int .i64 l, .int .i64 n] w fun e w' => e = .returned (.bool (wiB f l n)) ∧ w = w' := by
  obtain ⟨n0, n1⟩ := hn
  by_cases h0 : 0 ≤ f
  · by_cases h1 : 0 ≤ l
    · by_cases h2 : l ≤ n - f
      · have h : wiB f l n = true := wiB_T ⟨h0, h1, h2⟩
        have d2 : decide (l ≤ n - f) = true := decide_eq_true h2
        go_enter Try.func25, Try.ntmps25
        go_wp2_with fail
        go_ret
        first | exact ⟨rfl, rfl⟩ | exact ⟨by rw [h]; rfl, rfl⟩
      · have h : wiB f l n = false := wiB_F (fun h => h2 h.2.2)
        have d2 : decide (l ≤ n - f) = false := decide_eq_false h2
        go_enter Try.func25, Try.ntmps25
        go_wp2_with fail
        go_ret
        first | exact ⟨rfl, rfl⟩ | exact ⟨by rw [h]; rfl, rfl⟩
    · have h : wiB f l n = false := wiB_F (fun h => h1 h.2.1)
      have d1 : decide (0 ≤ l) = false := decide_eq_false h1
      go_enter Try.func25, Try.ntmps25
      go_wp2_with fail
      go_ret
      first | exact ⟨rfl, rfl⟩ | exact ⟨by rw [h]; rfl, rfl⟩
  · have h : wiB f l n = false := wiB_F (fun h => h0 h.1)
    have d1 : decide (0 ≤ f) = false := decide_eq_false h0
    go_enter Try.func25, Try.ntmps25
    go_wp2_with fail
    go_ret
    first | exact ⟨rfl, rfl⟩ | exact ⟨by rw [h]; rfl, rfl⟩
theorem drop_at {α : Type} {l : List α} {k : Nat} (h : k < l.length) : l.drop k = l[k] :: l.drop (k + 1) := List.drop_eq_getElem_cons h
def CkPost (l : List Ch) (m n : Int) (w : World) (e : Ending) (w' : World) : Prop := e = .returned (.int .i64 (chkF l m n)) ∧ Below w.heap.size w w'
theorem ck_ret {l : List Ch} {m n z : Int} {w w' : World} (h : chkF l m n = z) (hb : Below w.heap.size w w') : CkPost l m n w (.returned (.int .i64 z)) w' := ⟨by rw [h], hb⟩
set_option maxRecDepth 100000 in
set_option maxHeartbeats 4000000 in
theorem Check_any (v : Value) (l : List Ch) (m n : Int) (w : World) (h : RdC w v l) (hl : l.length ≤ 4611686018427387904) (hb : ∀ c ∈ l, ChB c) :
    Calls Try.prog 19 #[v, .int .i64 m, .int .i64 n] w (CkPost l m n w) := by
  obtain ⟨A, cp, rfl⟩ := h.form
  have HR := Lib.hid h
  have HB := Lib.hid hb
  clear h hb
  generalize hN : l.length = N at hl ⊢
  have HN := Lib.hid hN
  clear hN
  by_cases hm : inI m
  · by_cases hn : inI n
    · have bm := inB_T hm
      have bn := inB_T hn
      have HT : Hid (OkL true 0 0 l m n → chkF l m n = 0) := Lib.hid (chkF_ok hm hn)
      have HF : Hid (¬ OkL true 0 0 l m n → chkF l m n = 80) := Lib.hid (fun h => chkF_no (fun hh => h hh.2.2))
      have hm2 := hm.2
      have hn2 := hn.2
      have hm1 := hm.1
      have hn1 := hn.1
      go_enter Try.func19, Try.ntmps19
      go_wp2_with (go_at_call 24; refine (isLength_any _ _).mono ?_; rintro e w' ⟨rfl, rfl⟩)
      go_loopw [7, 8, 22] (fun i' j' k' wr => ∃ (k : Nat) (i j : Int), k ≤ N ∧ k' = .int .i64 (k : Int) ∧ i' = .int .i64 i ∧ j' = .int .i64 j ∧ 0 ≤ i ∧ i ≤ m ∧ 0 ≤ j ∧ j ≤ n ∧ Hid (OkL true 0 0 l m n ↔ OkL (k == 0) i j (l.drop k) m n) ∧ Hid (Below w.heap.size w wr)) (fun _ _ k' _ => N - (intOf k').toNat)
      case atStart => exact ⟨0, 0, 0, Nat.zero_le _, rfl, rfl, rfl, Int.le_refl _, hm1, Int.le_refl _, hn1, Lib.hid Iff.rfl, Lib.hid (Below.refl _ _)⟩
      case round =>
        obtain ⟨k, i, j, hk, rfl, rfl, rfl, hi0, hi1, hj0, hj1, HO, HBl⟩ := hrel
        by_cases hlt : k < N
        · have hx : k < l.length := by rw [HN.out]; exact hlt
          obtain ⟨b, off, rfl, c0, c1, c2, c3⟩ := RdC_at (HR.out.below HBl.out) k hx
          obtain ⟨⟨bo0, bo1⟩, ⟨bl0, bl1⟩, ⟨bn0, bn1⟩, ⟨bm0, bm1⟩⟩ := HB.out _ (List.getElem_mem hx)
          have HO2 : Hid (OkL true 0 0 l m n ↔ OkC (k == 0) i j l[k] m n ∧ OkL false (l[k].old + l[k].oldLen) (l[k].new + l[k].newLen) (l.drop (k + 1)) m n) := Lib.hid (by rw [HO.out, drop_at hx]; exact Iff.rfl)
          clear HO
          generalize l[k] = c at c0 c1 c2 c3 bo0 bo1 bl0 bl1 bn0 bn1 bm0 bm1 HO2
          obtain ⟨o, ol, nw, nl⟩ := c
          simp only at c0 c1 c2 c3 bo0 bo1 bl0 bl1 bn0 bn1 bm0 bm1
          have HNo : Hid (¬ OkC (k == 0) i j ⟨o, ol, nw, nl⟩ m n → chkF l m n = 80) := Lib.hid (fun h => HF.out (fun hh => h (HO2.out.1 hh).1))
          have i1 : (0 : Int) ≤ (k : Int) := by omega
          have i2 : (k : Int) < (N : Int) := by omega
          by_cases h1 : wiI o ol m
          · have w1 := wiB_T h1
            by_cases h2 : wiI nw nl n
            · have w2 := wiB_T h2
              by_cases h3 : ol = 0 ∧ nl = 0
              · have HE := Lib.hid (HNo.out (fun hh => hh.1.2.2 h3))
                obtain ⟨rfl, rfl⟩ := h3
                clear h1 h2
                go_wp2_with (go_at_call 25; refine (within_any _ _ _ _ (by omega) ⟨by omega, by omega⟩).mono ?_; rintro e w' ⟨rfl, rfl⟩)
                go_ret
                exact ck_ret HE.out (HBl.out.alloc HBl.out.size _)
              · obtain ⟨a0, a1, a2⟩ := h1
                obtain ⟨b0, b1, b2⟩ := h2
                have hz : (ol == 0) = false ∨ ((ol == 0) = true ∧ (nl == 0) = false) := by
                  by_cases e : ol = 0
                  · exact .inr ⟨by simpa using e, by simpa using fun h => h3 ⟨e, h⟩⟩
                  · exact .inl (by simpa using e)
                have HOk : Hid (o - i = nw - j → ((k == 0) = false → 1 ≤ o - i) → (OkL true 0 0 l m n ↔ OkL false (o + ol) (nw + nl) (l.drop (k + 1)) m n)) := Lib.hid (fun h4 h5 => by
                  rw [HO2.out]
                  exact ⟨fun h => h.2, fun h => ⟨⟨⟨⟨a0, a1, a2⟩, ⟨b0, b1, b2⟩, h3⟩, h4, h5⟩, h⟩⟩)
                have HN4 : Hid (¬ o - i = nw - j → chkF l m n = 80) := Lib.hid (fun h => HNo.out (fun hh => h hh.2.1))
                have HN5 : Hid (¬ ((k == 0) = false → 1 ≤ o - i) → chkF l m n = 80) := Lib.hid (fun h => HNo.out (fun hh => h hh.2.2))
                have HBl2 := Lib.hid (HBl.out.alloc HBl.out.size (.cells #[.int .i64 o, .int .i64 ol, .int .i64 nw, .int .i64 nl] tCh))
                clear h3 HNo HO2 HBl
                by_cases h4 : o - i = nw - j
                · have HOk2 := Lib.hid (HOk.out h4)
                  have q4 : ((o - i) != (nw - j)) = false := by rw [bne_eq_false_iff_eq]; exact h4
                  clear h4 HOk HN4
                  by_cases h5 : 0 < k
                  · have q5 : decide (0 < k) = true := decide_eq_true h5
                    by_cases h6 : 1 ≤ o - i
                    · have q6 : decide (o - i < 1) = false := decide_eq_false (by omega)
                      have HOk3 := Lib.hid (HOk2.out (fun _ => h6))
                      clear HOk2 HN5
                      rcases hz with z1 | ⟨z1, z2⟩
                      all_goals
                        go_wp2_with (go_at_call 25; refine (within_any _ _ _ _ (by omega) ⟨by omega, by omega⟩).mono ?_; rintro e w' ⟨rfl, rfl⟩)
                        go_quiet (fail)
                        go_wp2_with fail
                        go_roundw
                        case rel => exact ⟨k + 1, o + ol, nw + nl, by omega, by go_num, rfl, rfl, by omega, by omega, by omega, by omega, HOk3, Lib.hid (below_drewN HBl2.out _)⟩
                        case measure => simp [intOf]; omega
                    · have q6 : decide (o - i < 1) = true := decide_eq_true (by omega)
                      have HE := Lib.hid (HN5.out (fun h => h6 (h (by simp; omega))))
                      clear HOk2 HN5
                      rcases hz with z1 | ⟨z1, z2⟩
                      all_goals
                        go_wp2_with (go_at_call 25; refine (within_any _ _ _ _ (by omega) ⟨by omega, by omega⟩).mono ?_; rintro e w' ⟨rfl, rfl⟩)
                        go_ret
                        exact ck_ret HE.out HBl2.out
                  · have q5 : decide (0 < k) = false := decide_eq_false h5
                    have HOk3 := Lib.hid (HOk2.out (fun h => absurd h (by
                      have e : k = 0 := by omega
                      rw [e]; decide)))
                    clear HOk2 HN5
                    rcases hz with z1 | ⟨z1, z2⟩
                    all_goals
                      go_wp2_with (go_at_call 25; refine (within_any _ _ _ _ (by omega) ⟨by omega, by omega⟩).mono ?_; rintro e w' ⟨rfl, rfl⟩)
                      go_quiet (fail)
                      go_wp2_with fail
                      go_roundw
                      case rel => exact ⟨k + 1, o + ol, nw + nl, by omega, by go_num, rfl, rfl, by omega, by omega, by omega, by omega, HOk3, Lib.hid (below_drewN HBl2.out _)⟩
                      case measure => simp [intOf]; omega
                · have HE := Lib.hid (HN4.out h4)
                  have q4 : ((o - i) != (nw - j)) = true := by rw [bne_iff_ne]; exact h4
                  clear h4 HOk HN4 HN5
                  rcases hz with z1 | ⟨z1, z2⟩
                  all_goals
                    go_wp2_with (go_at_call 25; refine (within_any _ _ _ _ (by omega) ⟨by omega, by omega⟩).mono ?_; rintro e w' ⟨rfl, rfl⟩)
                    go_ret
                    exact ck_ret HE.out HBl2.out
            · have w2 := wiB_F h2
              have HE := Lib.hid (HNo.out (fun hh => h2 hh.1.2.1))
              clear h1 h2
              go_wp2_with (go_at_call 25; refine (within_any _ _ _ _ (by omega) ⟨by omega, by omega⟩).mono ?_; rintro e w' ⟨rfl, rfl⟩)
              go_ret
              exact ck_ret HE.out (HBl.out.alloc HBl.out.size _)
          · have w1 := wiB_F h1
            have HE := Lib.hid (HNo.out (fun hh => h1 hh.1.1))
            clear h1
            go_wp2_with (go_at_call 25; refine (within_any _ _ _ _ (by omega) ⟨by omega, by omega⟩).mono ?_; rintro e w' ⟨rfl, rfl⟩)
            go_ret
            exact ck_ret HE.out (HBl.out.alloc HBl.out.size _)
        · have HD : Hid (OkL true 0 0 l m n ↔ m - i = n - j) := Lib.hid (by
            have e : l.drop k = [] := List.drop_eq_nil_of_le (by rw [HN.out]; omega)
            rw [HO.out, e]; exact Iff.rfl)
          have hd : decide (k < N) = false := decide_eq_false hlt
          clear HO
          by_cases h7 : m - i = n - j
          · have HE := Lib.hid (HT.out (HD.out.2 h7))
            have q7 : ((m - i) != (n - j)) = false := by rw [bne_eq_false_iff_eq]; exact h7
            clear h7
            go_wp2_with fail
            go_ret
            exact ck_ret HE.out HBl.out
          · have HE := Lib.hid (HF.out (fun h => h7 (HD.out.1 h)))
            have q7 : ((m - i) != (n - j)) = true := by rw [bne_iff_ne]; exact h7
            clear h7
            go_wp2_with fail
            go_ret
            exact ck_ret HE.out HBl.out
    · have bm := inB_T hm
      have bn := inB_F hn
      have HE := Lib.hid (chkF_no (l := l) (m := m) (n := n) (fun h => hn h.2.1))
      clear hm hn
      go_enter Try.func19, Try.ntmps19
      go_wp2_with (go_at_call 24; refine (isLength_any _ _).mono ?_; rintro e w' ⟨rfl, rfl⟩)
      go_ret
      exact ck_ret HE.out (Below.refl _ _)
  · have bm := inB_F hm
    have HE := Lib.hid (chkF_no (l := l) (m := m) (n := n) (fun h => hm h.1))
    clear hm
    go_enter Try.func19, Try.ntmps19
    go_wp2_with (go_at_call 24; refine (isLength_any _ _).mono ?_; rintro e w' ⟨rfl, rfl⟩)
    go_ret
    exact ck_ret HE.out (Below.refl _ _)
end Sc
end Go.Proofs.Ytlckdacmeandmaa
