/-
  The reference's Pairs and FromPairs. Conditions: the fields are numbers that an int holds, as few elements as the laws have.
-/
import Derived.Test.YtfbpdidnlbffhaaScrMtR
import Derived.Test.YtfbpdidnlbffhaaScrFr
namespace Go.Proofs.Ytfbpdidnlbffhaa
open Go.RowKit
namespace Sc
open Cm
set_option maxRecDepth 100000 in
set_option maxHeartbeats 2000000 in
theorem PairsR_any (v : Value) (l : List Ch) (m n : Int) (w : World) (h : RdC w v l) (hl : l.length ≤ 1000000) :
    Calls Try.prog 17 #[v, .int .i64 m, .int .i64 n] w (PrPost l m n w) := by
  obtain ⟨A, cp, rfl⟩ := h.form
  have HC := Lib.hid (CheckR_any _ l m n w h (by omega))
  by_cases hv : inI m ∧ inI n ∧ OkL true 0 0 l m n
  · obtain ⟨hm, hn, hok⟩ := hv
    have hz := chkF_ok hm hn hok
    have HK := Lib.hid (fun w1 (hb1 : Below w.heap.size w w1) => Matched_any _ l m n w1 (h.below hb1) hl hm hn hok)
    unfold PrPost
    unfold CkPost at HC
    rw [hz] at HC ⊢
    clear hz h hm hn hok
    generalize l.length = N at *
    go_enter Try.func17, Try.ntmps17
    go_wp2_with (first
      | (go_at_call 15; refine HC.out.mono ?_; rintro e w1 ⟨rfl, hb1⟩; have HB1 := Lib.hid hb1; clear hb1)
      | (go_at_call 28; refine (HK.out _ HB1.out).mono ?_; rintro e w3 ⟨v3, rfl, ho3, hb3⟩; have HO3 := Lib.hid ho3; have HB3 := Lib.hid hb3; clear ho3 hb3))
    go_ret2
    have hs := HB1.out.size
    exact ⟨_, rfl, fun _ => HO3.out.base hs, fun h => absurd rfl h, HB1.out.trans (HB3.out.mono hs)⟩
  · have hz := chkF_no hv
    unfold PrPost
    unfold CkPost at HC
    rw [hz] at HC ⊢
    clear hz h hv
    generalize l.length = N at *
    go_enter Try.func17, Try.ntmps17
    go_wp2_with (go_at_call 15; refine HC.out.mono ?_; rintro e w1 ⟨rfl, hb1⟩; have HB1 := Lib.hid hb1; clear hb1)
    go_ret2
    exact ⟨_, rfl, fun h => absurd h (by decide), fun _ => rfl, HB1.out⟩
/-- Where the next pair may begin. -/
def prv (p : List Sp) : Nat → Sp
  | 0 => ⟨0, 0⟩
  | k + 1 => ⟨(p.getD k ⟨0, 0⟩).frm + 1, (p.getD k ⟨0, 0⟩).to + 1⟩
theorem prv_succ {p : List Sp} {k : Nat} (h : k < p.length) : prv p (k + 1) = ⟨p[k].frm + 1, p[k].to + 1⟩ := by
  show (⟨(p.getD k ⟨0, 0⟩).frm + 1, (p.getD k ⟨0, 0⟩).to + 1⟩ : Sp) = _
  rw [List.getD_eq_getElem?_getD, List.getElem?_eq_getElem h]
  rfl
set_option maxRecDepth 100000 in
set_option maxHeartbeats 8000000 in
theorem FromPairsR_any (v : Value) (p : List Sp) (m n : Int) (w : World) (h : RdS w v p) (hl : p.length ≤ 100000) :
    Calls Try.prog 19 #[v, .int .i64 m, .int .i64 n] w (FpPost p m n w) := by
  obtain ⟨A, cp, rfl⟩ := h.form
  have HR := Lib.hid h
  by_cases hm : inI m
  · by_cases hn : inI n
    · have bm := inB_T hm
      have bn := inB_T hn
      have HT : Hid (OkP m n 0 0 p → fpF p m n = 0) := Lib.hid (fpF_ok hm hn)
      have HF : Hid (¬ OkP m n 0 0 p → fpF p m n = 3) := Lib.hid (fpF_no hm hn)
      have HMd := Lib.hid (fun q (hp : OkP m n 0 0 p) => Made_any _ p m n (w.drewN q) (h.drewN q) hl ⟨hm.1, hm.2⟩ ⟨hn.1, hn.2⟩ hp)
      clear h
      generalize hN : p.length = N at hl HMd ⊢
      have HN := Lib.hid hN
      clear hN
      have hm2 := hm.2
      have hn2 := hn.2
      have hm1 := hm.1
      have hn1 := hn.1
      go_enter Try.func19, Try.ntmps19
      go_wp2_with (go_at_call 34; refine (in_any _ _).mono ?_; rintro e w' ⟨rfl, rfl⟩)
      go_loopw [8] (fun k' wr => ∃ (k : Nat), k ≤ N ∧ k' = .int .i64 (k : Int) ∧ Hid (0 ≤ (prv p k).frm ∧ 0 ≤ (prv p k).to ∧ (OkP m n 0 0 p ↔ OkP m n (prv p k).frm (prv p k).to (p.drop k))) ∧ ∃ q, wr = w.drewN q) (fun k' _ => N - (intOf k').toNat)
      case atStart => exact ⟨0, Nat.zero_le _, rfl, Lib.hid ⟨Int.le_refl _, Int.le_refl _, Iff.rfl⟩, 0, rfl⟩
      case round =>
        obtain ⟨k, hk, rfl, HC, q, rfl⟩ := hrel
        by_cases hlt : k < N
        · have hx : k < p.length := by rw [HN.out]; exact hlt
          have dk : decide (k < N) = true := decide_eq_true hlt
          obtain ⟨b0, off, rfl, c0, c1⟩ := RdS_at HR.out k hx
          have HC2 : Hid (0 ≤ (prv p k).frm ∧ 0 ≤ (prv p k).to ∧ (OkP m n 0 0 p ↔ ((prv p k).frm ≤ p[k].frm ∧ p[k].frm < m ∧ (prv p k).to ≤ p[k].to ∧ p[k].to < n) ∧ OkP m n (p[k].frm + 1) (p[k].to + 1) (p.drop (k + 1)))) := Lib.hid (by have := HC.out; rw [drop_at hx] at this; exact this)
          have HPs := Lib.hid (prv_succ hx)
          have i1 : (0 : Int) ≤ (k : Int) := by omega
          have i2 : (k : Int) < (N : Int) := by omega
          clear HC
          by_cases hk0 : 0 < k
          · obtain ⟨k1, rfl⟩ : ∃ k1, k = k1 + 1 := ⟨k - 1, by omega⟩
            have hx1 : k1 < p.length := by omega
            obtain ⟨b1, off1, e1, d0, d1⟩ := RdS_at HR.out k1 hx1
            injection e1 with e1
            injection e1 with e1 e2 _
            subst e1
            subst e2
            have HPr := Lib.hid (prv_succ hx1)
            have dk0 : decide (0 < k1 + 1) = true := decide_eq_true hk0
            have x1 : IntKind.i64.wrap (((k1 + 1 : Nat) : Int) - 1) = (k1 : Int) := by rw [show ((k1 + 1 : Nat) : Int) - 1 = (k1 : Int) from by omega]; exact IntWalk.i64_in _ (by omega)
            have x2 : (0 : Int) ≤ (k1 : Int) := by omega
            have x3 : (k1 : Int) < (N : Int) := by omega
            rw [HPr.out] at HC2
            generalize p[k1] = s1 at d0 d1 HC2
            obtain ⟨a1, b1⟩ := s1
            generalize p[k1 + 1] = s at c0 c1 HC2 HPs
            obtain ⟨a, b⟩ := s
            simp only at c0 c1 d0 d1
            have HNo : Hid (¬ (a1 + 1 ≤ a ∧ a < m ∧ b1 + 1 ≤ b ∧ b < n) → fpF p m n = 3) := Lib.hid (fun h => HF.out (fun hh => h (HC2.out.2.2.1 hh).1))
            have HPos : Hid (0 ≤ a1 + 1 ∧ 0 ≤ b1 + 1) := Lib.hid ⟨HC2.out.1, HC2.out.2.1⟩
            generalize hkk : k1 + 1 = k at *
            have HKK := Lib.hid hkk
            clear hkk
            by_cases h0 : a < 0
            · have z0 : decide (a < 0) = true := decide_eq_true h0
              have HE := Lib.hid (HNo.out (fun hh => by obtain ⟨_, _⟩ := HPos.out; obtain ⟨_, _, _, _⟩ := hh; omega))
              clear HNo HC2
              go_wp2_with fail
              go_quiet (fail)
              go_wp2_with fail
              go_ret2
              exact fp_err HE.out (by decide) (below_drewN (below_drewN (Below.refl _ _) _) _)
            · have z0 : decide (a < 0) = false := decide_eq_false h0
              by_cases h1 : m ≤ a
              · have z1 : decide (m ≤ a) = true := decide_eq_true h1
                have HE := Lib.hid (HNo.out (fun hh => by obtain ⟨_, _⟩ := HPos.out; obtain ⟨_, _, _, _⟩ := hh; omega))
                clear HNo HC2
                go_wp2_with fail
                go_quiet (fail)
                go_wp2_with fail
                go_ret2
                exact fp_err HE.out (by decide) (below_drewN (below_drewN (Below.refl _ _) _) _)
              · have z1 : decide (m ≤ a) = false := decide_eq_false h1
                by_cases h2 : b < 0
                · have z2 : decide (b < 0) = true := decide_eq_true h2
                  have HE := Lib.hid (HNo.out (fun hh => by obtain ⟨_, _⟩ := HPos.out; obtain ⟨_, _, _, _⟩ := hh; omega))
                  clear HNo HC2
                  go_wp2_with fail
                  go_quiet (fail)
                  go_wp2_with fail
                  go_ret2
                  exact fp_err HE.out (by decide) (below_drewN (below_drewN (Below.refl _ _) _) _)
                · have z2 : decide (b < 0) = false := decide_eq_false h2
                  by_cases h3 : n ≤ b
                  · have z3 : decide (n ≤ b) = true := decide_eq_true h3
                    have HE := Lib.hid (HNo.out (fun hh => by obtain ⟨_, _⟩ := HPos.out; obtain ⟨_, _, _, _⟩ := hh; omega))
                    clear HNo HC2
                    go_wp2_with fail
                    go_quiet (fail)
                    go_wp2_with fail
                    go_ret2
                    exact fp_err HE.out (by decide) (below_drewN (below_drewN (Below.refl _ _) _) _)
                  · have z3 : decide (n ≤ b) = false := decide_eq_false h3
                    by_cases h4 : a ≤ a1
                    · have z4 : decide (a ≤ a1) = true := decide_eq_true h4
                      have HE := Lib.hid (HNo.out (fun hh => by obtain ⟨_, _⟩ := HPos.out; obtain ⟨_, _, _, _⟩ := hh; omega))
                      clear HNo HC2
                      go_wp2_with fail
                      go_quiet (fail)
                      go_wp2_with fail
                      go_ret2
                      exact fp_err HE.out (by decide) (below_drewN (below_drewN (Below.refl _ _) _) _)
                    · have z4 : decide (a ≤ a1) = false := decide_eq_false h4
                      by_cases h5 : b ≤ b1
                      · have z5 : decide (b ≤ b1) = true := decide_eq_true h5
                        have HE := Lib.hid (HNo.out (fun hh => by obtain ⟨_, _⟩ := HPos.out; obtain ⟨_, _, _, _⟩ := hh; omega))
                        clear HNo HC2
                        go_wp2_with fail
                        go_quiet (fail)
                        go_wp2_with fail
                        go_ret2
                        exact fp_err HE.out (by decide) (below_drewN (below_drewN (Below.refl _ _) _) _)
                      · have z5 : decide (b ≤ b1) = false := decide_eq_false h5
                        have hg : a1 + 1 ≤ a ∧ a < m ∧ b1 + 1 ≤ b ∧ b < n := by obtain ⟨_, _⟩ := HPos.out; refine ⟨?_, ?_, ?_, ?_⟩ <;> omega
                        have HC3 : Hid (0 ≤ (prv p (k + 1)).frm ∧ 0 ≤ (prv p (k + 1)).to ∧ (OkP m n 0 0 p ↔ OkP m n (prv p (k + 1)).frm (prv p (k + 1)).to (p.drop (k + 1)))) := Lib.hid (by
                          rw [HPs.out]
                          refine ⟨by show 0 ≤ a + 1; omega, by show 0 ≤ b + 1; omega, ?_⟩
                          rw [HC2.out.2.2]
                          exact ⟨fun h => h.2, fun h => ⟨hg, h⟩⟩)
                        clear HNo HC2 hg
                        go_wp2_with fail
                        go_quiet (fail)
                        clear x1
                        go_wp2_with fail
                        go_roundw
                        case rel => exact ⟨k + 1, by omega, by go_num, HC3, _, rfl⟩
                        case measure => simp [intOf]; omega
          · have dk0 : decide (0 < k) = false := decide_eq_false hk0
            have hpr : prv p k = ⟨0, 0⟩ := by rw [show k = 0 from by omega]; rfl
            rw [hpr] at HC2
            clear hpr
            generalize p[k] = s at c0 c1 HC2 HPs
            obtain ⟨a, b⟩ := s
            simp only at c0 c1
            have HNo : Hid (¬ (0 ≤ a ∧ a < m ∧ 0 ≤ b ∧ b < n) → fpF p m n = 3) := Lib.hid (fun h => HF.out (fun hh => h (HC2.out.2.2.1 hh).1))
            by_cases h0 : a < 0
            · have z0 : decide (a < 0) = true := decide_eq_true h0
              have HE := Lib.hid (HNo.out (fun hh => by obtain ⟨_, _, _, _⟩ := hh; omega))
              clear HNo HC2
              go_wp2_with fail
              go_quiet (fail)
              go_wp2_with fail
              go_ret2
              exact fp_err HE.out (by decide) (below_drewN (below_drewN (Below.refl _ _) _) _)
            · have z0 : decide (a < 0) = false := decide_eq_false h0
              by_cases h1 : m ≤ a
              · have z1 : decide (m ≤ a) = true := decide_eq_true h1
                have HE := Lib.hid (HNo.out (fun hh => by obtain ⟨_, _, _, _⟩ := hh; omega))
                clear HNo HC2
                go_wp2_with fail
                go_quiet (fail)
                go_wp2_with fail
                go_ret2
                exact fp_err HE.out (by decide) (below_drewN (below_drewN (Below.refl _ _) _) _)
              · have z1 : decide (m ≤ a) = false := decide_eq_false h1
                by_cases h2 : b < 0
                · have z2 : decide (b < 0) = true := decide_eq_true h2
                  have HE := Lib.hid (HNo.out (fun hh => by obtain ⟨_, _, _, _⟩ := hh; omega))
                  clear HNo HC2
                  go_wp2_with fail
                  go_quiet (fail)
                  go_wp2_with fail
                  go_ret2
                  exact fp_err HE.out (by decide) (below_drewN (below_drewN (Below.refl _ _) _) _)
                · have z2 : decide (b < 0) = false := decide_eq_false h2
                  by_cases h3 : n ≤ b
                  · have z3 : decide (n ≤ b) = true := decide_eq_true h3
                    have HE := Lib.hid (HNo.out (fun hh => by obtain ⟨_, _, _, _⟩ := hh; omega))
                    clear HNo HC2
                    go_wp2_with fail
                    go_quiet (fail)
                    go_wp2_with fail
                    go_ret2
                    exact fp_err HE.out (by decide) (below_drewN (below_drewN (Below.refl _ _) _) _)
                  · have z3 : decide (n ≤ b) = false := decide_eq_false h3
                    have hg : 0 ≤ a ∧ a < m ∧ 0 ≤ b ∧ b < n := by refine ⟨?_, ?_, ?_, ?_⟩ <;> omega
                    have HC3 : Hid (0 ≤ (prv p (k + 1)).frm ∧ 0 ≤ (prv p (k + 1)).to ∧ (OkP m n 0 0 p ↔ OkP m n (prv p (k + 1)).frm (prv p (k + 1)).to (p.drop (k + 1)))) := Lib.hid (by
                      rw [HPs.out]
                      refine ⟨by show 0 ≤ a + 1; omega, by show 0 ≤ b + 1; omega, ?_⟩
                      rw [HC2.out.2.2]
                      exact ⟨fun h => h.2, fun h => ⟨hg, h⟩⟩)
                    clear HNo HC2 hg
                    go_wp2_with fail
                    go_quiet (fail)
                    go_wp2_with fail
                    go_roundw
                    case rel => exact ⟨k + 1, by omega, by go_num, HC3, _, rfl⟩
                    case measure => simp [intOf]; omega
        · have hd : decide (k < N) = false := decide_eq_false hlt
          have e : p.drop k = [] := List.drop_eq_nil_of_le (by rw [HN.out]; omega)
          have hok : OkP m n 0 0 p := by
            have h := HC.out
            rw [e] at h
            exact h.2.2.2 trivial
          have HE := Lib.hid (HT.out hok)
          have HM := Lib.hid (HMd.out q hok)
          clear HC e hok HMd
          go_wp2_with (go_at_call 32; refine HM.out.mono ?_; rintro e w1 ⟨v1, rfl, ho1, hb1⟩; have HO1 := Lib.hid ho1; have HB1 := Lib.hid hb1; clear ho1 hb1 HM)
          go_ret2
          exact fp_good HE.out (HO1.out.base (below_drewN (Below.refl w.heap.size w) q).size) ((below_drewN (Below.refl w.heap.size w) q).trans (HB1.out.mono (below_drewN (Below.refl w.heap.size w) q).size))
    · have bm := inB_T hm
      have bn := inB_F hn
      have HE := Lib.hid (fpF_out (p := p) (m := m) (n := n) (fun h => hn h.2))
      clear hm hn h
      generalize p.length = N at *
      go_enter Try.func19, Try.ntmps19
      go_wp2_with (go_at_call 34; refine (in_any _ _).mono ?_; rintro e w' ⟨rfl, rfl⟩)
      go_ret2
      exact fp_err HE.out (by decide) (Below.refl _ _)
  · have bm := inB_F hm
    have HE := Lib.hid (fpF_out (p := p) (m := m) (n := n) (fun h => hm h.1))
    clear hm h
    generalize p.length = N at *
    go_enter Try.func19, Try.ntmps19
    go_wp2_with (go_at_call 34; refine (in_any _ _).mono ?_; rintro e w' ⟨rfl, rfl⟩)
    go_ret2
    exact fp_err HE.out (by decide) (Below.refl _ _)
end Sc
end Go.Proofs.Ytfbpdidnlbffhaa
