/-
  The reference's Check of a script; both Sizes. Condition: the list is not longer than a slice may be; for Size, as few elements as the laws have.
-/
import Derived.Test.YtlckdacmeandmaaScrCk
namespace Go.Proofs.Ytlckdacmeandmaa
open Go.RowKit
namespace Sc
open Cm
set_option maxRecDepth 100000 in
set_option maxHeartbeats 4000000 in
theorem CheckR_any (v : Value) (l : List Ch) (m n : Int) (w : World) (h : RdC w v l) (hl : l.length ≤ 4611686018427387904) :
    Calls Try.prog 22 #[v, .int .i64 m, .int .i64 n] w (CkPost l m n w) := by
  obtain ⟨A, cp, rfl⟩ := h.form
  have HR := Lib.hid h
  clear h
  generalize hN : l.length = N at hl ⊢
  have HN := Lib.hid hN
  clear hN
  by_cases hm : inI m
  · by_cases hn : inI n
    · have bm := inB_T hm
      have bn := inB_T hn
      have HT : Hid (RfL true 0 0 l m n → chkF l m n = 0) := Lib.hid (fun h => chkF_ok hm hn ((ok_iff hm hn).2 h))
      have HF : Hid (¬ RfL true 0 0 l m n → chkF l m n = 80) := Lib.hid (fun h => chkF_no (fun hh => h ((ok_iff hm hn).1 hh.2.2)))
      have hm2 := hm.2
      have hn2 := hn.2
      have hm1 := hm.1
      have hn1 := hn.1
      go_enter Try.func22, Try.ntmps22
      go_wp2_with (go_at_call 23; refine (in_any _ _).mono ?_; rintro e w' ⟨rfl, rfl⟩)
      go_loopw [7, 8, 9] (fun i' j' k' wr => ∃ (k : Nat) (i j : Int), k ≤ N ∧ k' = .int .i64 (k : Int) ∧ i' = .int .i64 i ∧ j' = .int .i64 j ∧ 0 ≤ i ∧ i ≤ 8192 ∧ 0 ≤ j ∧ j ≤ 8192 ∧ Hid (RfL true 0 0 l m n ↔ RfL (k == 0) i j (l.drop k) m n) ∧ Hid (Below w.heap.size w wr)) (fun _ _ k' _ => N - (intOf k').toNat)
      case atStart => exact ⟨0, 0, 0, Nat.zero_le _, rfl, rfl, rfl, Int.le_refl _, by omega, Int.le_refl _, by omega, Lib.hid Iff.rfl, Lib.hid (Below.refl _ _)⟩
      case round =>
        obtain ⟨k, i, j, hk, rfl, rfl, rfl, hi0, hi1, hj0, hj1, HO, HBl⟩ := hrel
        by_cases hlt : k < N
        · have hx : k < l.length := by rw [HN.out]; exact hlt
          obtain ⟨b, off, rfl, c0, c1, c2, c3⟩ := RdC_at (HR.out.below HBl.out) k hx
          have HO2 : Hid (RfL true 0 0 l m n ↔ RfC (k == 0) i j l[k] ∧ RfL false (l[k].old + l[k].oldLen) (l[k].new + l[k].newLen) (l.drop (k + 1)) m n) := Lib.hid (by rw [HO.out, drop_at hx]; exact Iff.rfl)
          clear HO
          generalize l[k] = c at c0 c1 c2 c3 HO2
          obtain ⟨o, ol, nw, nl⟩ := c
          simp only at c0 c1 c2 c3
          have HNo : Hid (¬ RfC (k == 0) i j ⟨o, ol, nw, nl⟩ → chkF l m n = 80) := Lib.hid (fun h => HF.out (fun hh => h (HO2.out.1 hh).1))
          have HBl2 := Lib.hid (HBl.out.alloc HBl.out.size (.cells #[.int .i64 o, .int .i64 ol, .int .i64 nw, .int .i64 nl] tCh))
          have i1 : (0 : Int) ≤ (k : Int) := by omega
          have i2 : (k : Int) < (N : Int) := by omega
          clear HBl
          by_cases h0 : inI o
          · have b0 := inB_T h0
            by_cases h1 : inI ol
            · have b1 := inB_T h1
              by_cases h2 : inI nw
              · have b2 := inB_T h2
                by_cases h3 : inI nl
                · have b3 := inB_T h3
                  obtain ⟨a0, a1⟩ := h0
                  obtain ⟨a2, a3⟩ := h1
                  obtain ⟨a4, a5⟩ := h2
                  obtain ⟨a6, a7⟩ := h3
                  by_cases h5 : ol + nl = 0
                  · have q5 : ((ol + nl) == 0) = true := by rw [beq_iff_eq]; exact h5
                    have HE := Lib.hid (HNo.out (fun hh => hh.2.2.2.2.1 h5))
                    clear HNo HO2 h5
                    go_wp2_with (go_at_call 23; refine (in_any _ _).mono ?_; rintro e w' ⟨rfl, rfl⟩)
                    go_ret
                    exact ck_ret HE.out HBl2.out
                  · have q5 : ((ol + nl) == 0) = false := by rw [Bool.eq_false_iff]; intro hh; rw [beq_iff_eq] at hh; exact h5 hh
                    by_cases h6 : o - i = nw - j
                    · have q6 : ((o - i) != (nw - j)) = false := by rw [bne_eq_false_iff_eq]; exact h6
                      by_cases h7 : o < i
                      · have q7 : decide (o < i) = true := decide_eq_true h7
                        have HE := Lib.hid (HNo.out (fun hh => absurd (show i ≤ o from hh.2.2.2.2.2.2.1) (by omega)))
                        clear HNo HO2 h6 h5
                        go_wp2_with (go_at_call 23; refine (in_any _ _).mono ?_; rintro e w' ⟨rfl, rfl⟩)
                        go_ret
                        exact ck_ret HE.out HBl2.out
                      · have q7 : decide (o < i) = false := decide_eq_false h7
                        by_cases h8 : 0 < k
                        · have q8 : decide (0 < k) = true := decide_eq_true h8
                          by_cases h9 : o = i
                          · have q9 : (o == i) = true := by rw [beq_iff_eq]; exact h9
                            have HE := Lib.hid (HNo.out (fun hh => hh.2.2.2.2.2.2.2 (by simp; omega) h9))
                            clear HNo HO2 h9 h6 h5
                            go_wp2_with (go_at_call 23; refine (in_any _ _).mono ?_; rintro e w' ⟨rfl, rfl⟩)
                            go_ret
                            exact ck_ret HE.out HBl2.out
                          · have q9 : (o == i) = false := by rw [Bool.eq_false_iff]; intro hh; rw [beq_iff_eq] at hh; exact h9 hh
                            have HOk : Hid (RfL true 0 0 l m n ↔ RfL false (o + ol) (nw + nl) (l.drop (k + 1)) m n) := Lib.hid (by
                              rw [HO2.out]
                              exact ⟨fun h => h.2, fun h => ⟨⟨⟨a0, a1⟩, ⟨a2, a3⟩, ⟨a4, a5⟩, ⟨a6, a7⟩, h5, h6, by show i ≤ o; omega, fun _ => h9⟩, h⟩⟩)
                            clear HNo HO2 h5 h6
                            go_wp2_with (go_at_call 23; refine (in_any _ _).mono ?_; rintro e w' ⟨rfl, rfl⟩)
                            go_quiet (fail)
                            go_wp2_with fail
                            go_roundw
                            case rel => exact ⟨k + 1, o + ol, nw + nl, by omega, by go_num, rfl, rfl, by omega, by omega, by omega, by omega, HOk, Lib.hid (below_drewN HBl2.out _)⟩
                            case measure => simp [intOf]; omega
                        · have q8 : decide (0 < k) = false := decide_eq_false h8
                          have HOk : Hid (RfL true 0 0 l m n ↔ RfL false (o + ol) (nw + nl) (l.drop (k + 1)) m n) := Lib.hid (by
                            rw [HO2.out]
                            exact ⟨fun h => h.2, fun h => ⟨⟨⟨a0, a1⟩, ⟨a2, a3⟩, ⟨a4, a5⟩, ⟨a6, a7⟩, h5, h6, by show i ≤ o; omega, fun hk => absurd hk (show ¬ ((k == 0) = false) from (by rw [Nat.eq_zero_of_not_pos h8]; decide))⟩, h⟩⟩)
                          clear HNo HO2 h5 h6
                          go_wp2_with (go_at_call 23; refine (in_any _ _).mono ?_; rintro e w' ⟨rfl, rfl⟩)
                          go_quiet (fail)
                          go_wp2_with fail
                          go_roundw
                          case rel => exact ⟨k + 1, o + ol, nw + nl, by omega, by go_num, rfl, rfl, by omega, by omega, by omega, by omega, HOk, Lib.hid (below_drewN HBl2.out _)⟩
                          case measure => simp [intOf]; omega
                    · have q6 : ((o - i) != (nw - j)) = true := by rw [bne_iff_ne]; exact h6
                      have HE := Lib.hid (HNo.out (fun hh => h6 hh.2.2.2.2.2.1))
                      clear HNo HO2 h6 h5
                      go_wp2_with (go_at_call 23; refine (in_any _ _).mono ?_; rintro e w' ⟨rfl, rfl⟩)
                      go_ret
                      exact ck_ret HE.out HBl2.out
                · have b3 := inB_F h3
                  have HE := Lib.hid (HNo.out (fun hh => h3 hh.2.2.2.1))
                  clear HNo HO2 h0 h1 h2 h3
                  go_wp2_with (go_at_call 23; refine (in_any _ _).mono ?_; rintro e w' ⟨rfl, rfl⟩)
                  go_ret
                  exact ck_ret HE.out HBl2.out
              · have b2 := inB_F h2
                have HE := Lib.hid (HNo.out (fun hh => h2 hh.2.2.1))
                clear HNo HO2 h0 h1 h2
                go_wp2_with (go_at_call 23; refine (in_any _ _).mono ?_; rintro e w' ⟨rfl, rfl⟩)
                go_ret
                exact ck_ret HE.out HBl2.out
            · have b1 := inB_F h1
              have HE := Lib.hid (HNo.out (fun hh => h1 hh.2.1))
              clear HNo HO2 h0 h1
              go_wp2_with (go_at_call 23; refine (in_any _ _).mono ?_; rintro e w' ⟨rfl, rfl⟩)
              go_ret
              exact ck_ret HE.out HBl2.out
          · have b0 := inB_F h0
            have HE := Lib.hid (HNo.out (fun hh => h0 hh.1))
            clear HNo HO2 h0
            go_wp2_with (go_at_call 23; refine (in_any _ _).mono ?_; rintro e w' ⟨rfl, rfl⟩)
            go_ret
            exact ck_ret HE.out HBl2.out
        · have HD : Hid (RfL true 0 0 l m n ↔ (m - i = n - j ∧ i ≤ m)) := Lib.hid (by
            have e : l.drop k = [] := List.drop_eq_nil_of_le (by rw [HN.out]; omega)
            rw [HO.out, e]; exact Iff.rfl)
          have hd : decide (k < N) = false := decide_eq_false hlt
          clear HO
          by_cases h7 : m - i = n - j
          · have q7 : ((m - i) != (n - j)) = false := by rw [bne_eq_false_iff_eq]; exact h7
            by_cases h8 : m < i
            · have q8 : decide (m < i) = true := decide_eq_true h8
              have HE := Lib.hid (HF.out (fun h => by have := (HD.out.1 h).2; omega))
              clear h7
              go_wp2_with fail
              go_ret
              exact ck_ret HE.out HBl.out
            · have q8 : decide (m < i) = false := decide_eq_false h8
              have HE := Lib.hid (HT.out (HD.out.2 ⟨h7, by omega⟩))
              clear h7
              go_wp2_with fail
              go_ret
              exact ck_ret HE.out HBl.out
          · have HE := Lib.hid (HF.out (fun h => h7 (HD.out.1 h).1))
            have q7 : ((m - i) != (n - j)) = true := by rw [bne_iff_ne]; exact h7
            clear h7
            go_wp2_with fail
            go_ret
            exact ck_ret HE.out HBl.out
    · have bm := inB_T hm
      have bn := inB_F hn
      have HE := Lib.hid (chkF_no (l := l) (m := m) (n := n) (fun h => hn h.2.1))
      clear hm hn
      go_enter Try.func22, Try.ntmps22
      go_wp2_with (go_at_call 23; refine (in_any _ _).mono ?_; rintro e w' ⟨rfl, rfl⟩)
      go_ret
      exact ck_ret HE.out (Below.refl _ _)
  · have bm := inB_F hm
    have HE := Lib.hid (chkF_no (l := l) (m := m) (n := n) (fun h => hm h.1))
    clear hm
    go_enter Try.func22, Try.ntmps22
    go_wp2_with (go_at_call 23; refine (in_any _ _).mono ?_; rintro e w' ⟨rfl, rfl⟩)
    go_ret
    exact ck_ret HE.out (Below.refl _ _)
def SzPost (l : List Ch) (w : World) (e : Ending) (w' : World) : Prop := e = .returned (.tuple #[.int .i64 (szO l), .int .i64 (szN l)]) ∧ Below w.heap.size w w'
theorem sz_drop {l : List Ch} {k : Nat} (h : k < l.length) : szO (l.drop k) = cntI l[k].oldLen + szO (l.drop (k + 1)) ∧ szN (l.drop k) = cntI l[k].newLen + szN (l.drop (k + 1)) := by
  rw [drop_at h]; exact ⟨rfl, rfl⟩
set_option maxRecDepth 100000 in
set_option maxHeartbeats 4000000 in
theorem SizeR_any (v : Value) (l : List Ch) (w : World) (h : RdC w v l) (hl : l.length ≤ 1000000) :
    Calls Try.prog 16 #[v] w (SzPost l w) := by
  obtain ⟨A, cp, rfl⟩ := h.form
  have HR := Lib.hid h
  have b1 := szO_bd l
  have b2 := szN_bd l
  clear h
  generalize hN : l.length = N at hl b1 b2 ⊢
  have HN := Lib.hid hN
  clear hN
  unfold SzPost
  have HS : Hid (szO l = szO (l.drop 0) ∧ szN l = szN (l.drop 0)) := Lib.hid ⟨rfl, rfl⟩
  generalize szO l = TO at *
  generalize szN l = TN at *
  go_enter Try.func16, Try.ntmps16
  go_wp2_with fail
  go_loopw [4, 5, 6] (fun a' b' k' wr => ∃ (k : Nat) (a b : Int), k ≤ N ∧ k' = .int .i64 (k : Int) ∧ a' = .int .i64 a ∧ b' = .int .i64 b ∧ (0 ≤ a ∧ a ≤ TO) ∧ (0 ≤ b ∧ b ≤ TN) ∧ Hid (TO = a + szO (l.drop k) ∧ TN = b + szN (l.drop k)) ∧ wr = w) (fun _ _ k' _ => N - (intOf k').toNat)
  case atStart => exact ⟨0, 0, 0, Nat.zero_le _, rfl, rfl, rfl, ⟨Int.le_refl _, b1.1⟩, ⟨Int.le_refl _, b2.1⟩, Lib.hid ⟨by rw [HS.out.1]; simp, by rw [HS.out.2]; simp⟩, rfl⟩
  case round =>
    obtain ⟨k, a, b, hk, rfl, rfl, rfl, ⟨ha0, ha1⟩, ⟨hb0, hb1⟩, HO, rfl⟩ := hrel
    by_cases hlt : k < N
    · have hx : k < l.length := by rw [HN.out]; exact hlt
      obtain ⟨g, off, rfl, c0, c1, c2, c3⟩ := RdC_at HR.out k hx
      obtain ⟨e1, e2⟩ := sz_drop hx
      have HO2 : Hid (TO = a + (cntI l[k].oldLen + szO (l.drop (k + 1))) ∧ TN = b + (cntI l[k].newLen + szN (l.drop (k + 1)))) := Lib.hid ⟨by rw [← e1]; exact HO.out.1, by rw [← e2]; exact HO.out.2⟩
      clear HO e1 e2
      generalize l[k] = c at c0 c1 c2 c3 HO2
      obtain ⟨o, ol, nw, nl⟩ := c
      simp only at c0 c1 c2 c3
      have i1 : (0 : Int) ≤ (k : Int) := by omega
      have i2 : (k : Int) < (N : Int) := by omega
      have z1 := cntI_bd ol
      have z2 := cntI_bd nl
      have s1 := (szO_bd (l.drop (k + 1))).1
      have s2 := (szN_bd (l.drop (k + 1))).1
      have g1 : a + cntI ol ≤ TO := by have := HO2.out.1; simp only at this; omega
      have g2 : b + cntI nl ≤ TN := by have := HO2.out.2; simp only at this; omega
      have HO3 : Hid (TO = a + cntI ol + szO (l.drop (k + 1)) ∧ TN = b + cntI nl + szN (l.drop (k + 1))) := Lib.hid ⟨by have := HO2.out.1; simp only at this; omega, by have := HO2.out.2; simp only at this; omega⟩
      clear HO2 s1 s2
      have HQ1 : Hid (inB ol = true ∧ (0 ≤ ol ∧ ol ≤ 4096) ∧ cntI ol = ol ∨ inB ol = false ∧ cntI ol = 0) := Lib.hid (by
        by_cases h : inI ol
        · exact .inl ⟨inB_T h, h, if_pos ⟨h.1, h.2⟩⟩
        · exact .inr ⟨inB_F h, if_neg (fun hh => h ⟨hh.1, hh.2⟩)⟩)
      have HQ2 : Hid (inB nl = true ∧ (0 ≤ nl ∧ nl ≤ 4096) ∧ cntI nl = nl ∨ inB nl = false ∧ cntI nl = 0) := Lib.hid (by
        by_cases h : inI nl
        · exact .inl ⟨inB_T h, h, if_pos ⟨h.1, h.2⟩⟩
        · exact .inr ⟨inB_F h, if_neg (fun hh => h ⟨hh.1, hh.2⟩)⟩)
      generalize cntI ol = co at *
      generalize cntI nl = cn at *
      rcases HQ1.out with ⟨q1, ⟨q2, q3⟩, rfl⟩ | ⟨q1, rfl⟩
      all_goals
        rcases HQ2.out with ⟨p1, ⟨p2, p3⟩, rfl⟩ | ⟨p1, rfl⟩
        all_goals
          clear HQ1 HQ2
          go_wp2_with (go_at_call 23; refine (in_any _ _).mono ?_; rintro e w' ⟨rfl, rfl⟩)
          go_roundw
          case rel => exact ⟨k + 1, _, _, by omega, by go_num, by first | rfl | rw [Int.add_zero], by first | rfl | rw [Int.add_zero], ⟨by omega, by omega⟩, ⟨by omega, by omega⟩, HO3, by first | rfl | trivial⟩
          case measure => simp [intOf]; omega
    · have hd : decide (k < N) = false := decide_eq_false hlt
      have HE : Hid (a = TO ∧ b = TN) := Lib.hid (by
        have e : l.drop k = [] := List.drop_eq_nil_of_le (by rw [HN.out]; omega)
        have h1 := HO.out.1
        have h2 := HO.out.2
        rw [e] at h1 h2
        have z1 : szO [] = 0 := rfl
        have z2 : szN [] = 0 := rfl
        rw [z1] at h1
        rw [z2] at h2
        omega)
      clear HO
      go_wp2_with fail
      go_ret2
      exact ⟨by rw [HE.out.1, HE.out.2]; rfl, Below.refl _ _⟩
end Sc
end Go.Proofs.Ytlckdacmeandmaa
