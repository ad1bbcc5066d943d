/-
  The program's FromPairs. Conditions: the fields are numbers that an int holds, as few elements as the laws have.
-/
import Derived.Test.YtechabkmepejaaaScrFr
namespace Go.Proofs.Ytechabkmepejaaa
open Go.RowKit
namespace Sc
open Cm
theorem box_bt {wr w1 : World} {base : Nat} {v : Value} {dn : List Ch} {a b : Value} (ho : OwnC base (wr.alloc (.cells #[a, b] tSp)) v dn) (hg : ∀ k, k < (wr.alloc (.cells #[a, b] tSp)).heap.size → some k ≠ v.ownBlock → w1.heap[k]? = (wr.alloc (.cells #[a, b] tSp)).heap[k]?) :
    w1.cell? ⟨wr.heap.size, 0, none⟩ = some a ∧ w1.cell? ⟨wr.heap.size, 1, none⟩ = some b := by
  have hH : (wr.alloc (.cells #[a, b] tSp)).heap[wr.heap.size]? = some (.cells #[a, b] tSp (0, 0)) := heap_new wr _
  have hne : some wr.heap.size ≠ v.ownBlock := by
    intro e
    rcases ho.2 with ⟨rfl, _⟩ | ⟨g, cap, cur, rfl, _, hh, _⟩
    · simp [Value.ownBlock] at e
    · have : wr.heap.size = g := by simpa [Value.ownBlock] using e
      subst this
      rw [hH] at hh
      injection hh with hh
      injection hh with _ ht
      exact absurd ht (by decide)
  have h1 := (hg wr.heap.size (by simp) hne).trans hH
  exact ⟨by simp [World.cell?, h1], by simp [World.cell?, h1]⟩
set_option maxRecDepth 100000 in
set_option maxHeartbeats 4000000 in
theorem FromPairs_any (v : Value) (p : List Sp) (m n : Int) (w : World) (h : RdS w v p) (hl : p.length ≤ 100000) (hb : ∀ s ∈ p, SpB s) :
    Calls Try.prog 24 #[v, .int .i64 m, .int .i64 n] w (FpPost p m n w) := by
  obtain ⟨A, cp, rfl⟩ := h.form
  have HR := Lib.hid h
  have HB := Lib.hid hb
  clear h hb
  generalize hN : p.length = N at hl ⊢
  have HN := Lib.hid hN
  clear hN
  by_cases hm : inI m
  · by_cases hn : inI n
    · have bm := inB_T hm
      have bn := inB_T hn
      have HT : Hid (OkP m n 0 0 p → fpF p m n = 0) := Lib.hid (fpF_ok hm hn)
      have HF : Hid (¬ OkP m n 0 0 p → fpF p m n = 3) := Lib.hid (fpF_no hm hn)
      have hm2 := hm.2
      have hn2 := hn.2
      have hm1 := hm.1
      have hn1 := hn.1
      go_enter Try.func24, Try.ntmps24
      go_wp2_with (go_at_call 30; refine (isLength_any _ _).mono ?_; rintro e w' ⟨rfl, rfl⟩)
      go_loopw [8, 9, 10, 23] (fun s' i' j' k' wr => ∃ (k : Nat) (i j : Int) (dn : List Ch), k ≤ N ∧ k' = .int .i64 (k : Int) ∧ i' = .int .i64 i ∧ j' = .int .i64 j ∧ (0 ≤ i ∧ i ≤ m) ∧ (0 ≤ j ∧ j ≤ n) ∧ dn.length ≤ k ∧ Hid (OwnC w.heap.size wr s' dn) ∧ Hid (Below w.heap.size w wr) ∧ Hid ((OkP m n 0 0 p ↔ OkP m n i j (p.drop k)) ∧ dn ++ frF m n i j (p.drop k) = frF m n 0 0 p)) (fun _ _ _ k' _ => N - (intOf k').toNat)
      case atStart => exact ⟨0, 0, 0, [], Nat.zero_le _, rfl, rfl, rfl, ⟨Int.le_refl _, hm1⟩, ⟨Int.le_refl _, hn1⟩, Nat.zero_le _, Lib.hid (OwnC.nil _ _), Lib.hid (Below.refl _ _), Lib.hid ⟨Iff.rfl, rfl⟩⟩
      case round =>
        obtain ⟨k, i, j, dn, hk, rfl, rfl, rfl, ⟨hi0, hi1⟩, ⟨hj0, hj1⟩, hdn, HO, HBl, HC⟩ := hrel
        by_cases hlt : k < N
        · have hx : k < p.length := by rw [HN.out]; exact hlt
          obtain ⟨b0, off, rfl, c0, c1⟩ := RdS_at (HR.out.below HBl.out) k hx
          obtain ⟨⟨ba0, ba1⟩, ⟨bb0, bb1⟩⟩ := HB.out _ (List.getElem_mem hx)
          have HC2 : Hid ((OkP m n 0 0 p ↔ (i ≤ p[k].frm ∧ p[k].frm < m ∧ j ≤ p[k].to ∧ p[k].to < n) ∧ OkP m n (p[k].frm + 1) (p[k].to + 1) (p.drop (k + 1))) ∧ dn ++ (btw i p[k].frm j p[k].to ++ frF m n (p[k].frm + 1) (p[k].to + 1) (p.drop (k + 1))) = frF m n 0 0 p) := Lib.hid (by have := HC.out; rw [drop_at hx] at this; exact this)
          clear HC
          generalize p[k] = s at c0 c1 ba0 ba1 bb0 bb1 HC2
          obtain ⟨a, b⟩ := s
          simp only at c0 c1 ba0 ba1 bb0 bb1
          have HNo : Hid (¬ (i ≤ a ∧ a < m ∧ j ≤ b ∧ b < n) → fpF p m n = 3) := Lib.hid (fun h => HF.out (fun hh => h (HC2.out.1.1 hh).1))
          have HBx := Lib.hid (HBl.out.alloc HBl.out.size (.cells #[.int .i64 a, .int .i64 b] tSp))
          have HOx := Lib.hid (HO.out.below ((Below.refl _ _).alloc (Nat.le_refl _) (.cells #[.int .i64 a, .int .i64 b] tSp)))
          have i1 : (0 : Int) ≤ (k : Int) := by omega
          have i2 : (k : Int) < (N : Int) := by omega
          clear HBl HO
          by_cases h1 : a < i
          · have q1 : decide (a < i) = true := decide_eq_true h1
            have HE := Lib.hid (HNo.out (fun hh => by obtain ⟨_, _, _, _⟩ := hh; omega))
            clear HNo HC2
            go_wp2_with fail
            go_ret2
            exact fp_err HE.out (by decide) HBx.out
          · have q1 : decide (a < i) = false := decide_eq_false h1
            by_cases h2 : m ≤ a
            · have q2 : decide (m ≤ a) = true := decide_eq_true h2
              have HE := Lib.hid (HNo.out (fun hh => by obtain ⟨_, _, _, _⟩ := hh; omega))
              clear HNo HC2
              go_wp2_with fail
              go_ret2
              exact fp_err HE.out (by decide) HBx.out
            · have q2 : decide (m ≤ a) = false := decide_eq_false h2
              by_cases h3 : b < j
              · have q3 : decide (b < j) = true := decide_eq_true h3
                have HE := Lib.hid (HNo.out (fun hh => by obtain ⟨_, _, _, _⟩ := hh; omega))
                clear HNo HC2
                go_wp2_with fail
                go_ret2
                exact fp_err HE.out (by decide) HBx.out
              · have q3 : decide (b < j) = false := decide_eq_false h3
                by_cases h4 : n ≤ b
                · have q4 : decide (n ≤ b) = true := decide_eq_true h4
                  have HE := Lib.hid (HNo.out (fun hh => by obtain ⟨_, _, _, _⟩ := hh; omega))
                  clear HNo HC2
                  go_wp2_with fail
                  go_ret2
                  exact fp_err HE.out (by decide) HBx.out
                · have q4 : decide (n ≤ b) = false := decide_eq_false h4
                  have HC3 : Hid ((OkP m n 0 0 p ↔ OkP m n (a + 1) (b + 1) (p.drop (k + 1))) ∧ dn ++ btw i a j b ++ frF m n (a + 1) (b + 1) (p.drop (k + 1)) = frF m n 0 0 p) := Lib.hid ⟨by
                    have hg : i ≤ a ∧ a < m ∧ j ≤ b ∧ b < n := ⟨by omega, by omega, by omega, by omega⟩
                    rw [HC2.out.1]
                    exact ⟨fun h => h.2, fun h => ⟨hg, h⟩⟩, by rw [List.append_assoc]; exact HC2.out.2⟩
                  have hdx : dn.length ≤ 200000 := by omega
                  have HLn : Hid ((dn ++ btw i a j b).length ≤ k + 1) := Lib.hid (by
                    have := btw_len i a j b
                    rw [List.length_append]; omega)
                  have hb0 : 0 ≤ b := by omega
                  have ha0 : 0 ≤ a := by omega
                  have HBt := Lib.hid (btw_any w.heap.size _ dn i a j b _ HOx.out HBx.out.size hdx ⟨hi0, by omega⟩ ⟨by omega, by omega⟩ ⟨hj0, by omega⟩ ⟨by omega, by omega⟩)
                  clear HNo HC2
                  go_wp2_with (go_at_call 31; refine HBt.out.mono ?_; rintro e w1 ⟨v1, rfl, ho1, hb1, hg1⟩; obtain ⟨d0, d1⟩ := box_bt HOx.out hg1; have HO1 := Lib.hid ho1; have HB1 := Lib.hid (HBx.out.trans hb1); clear ho1 hb1 hg1 HBt)
                  go_quiet (fail)
                  go_wp2_with fail
                  go_roundw
                  case rel => exact ⟨k + 1, a + 1, b + 1, _, by omega, by go_num, rfl, rfl, ⟨by omega, by omega⟩, ⟨by omega, by omega⟩, HLn.out, Lib.hid (HO1.out.drewN _), Lib.hid (below_drewN HB1.out _), HC3⟩
                  case measure => simp [intOf]; omega
        · have hd : decide (k < N) = false := decide_eq_false hlt
          have e : p.drop k = [] := List.drop_eq_nil_of_le (by rw [HN.out]; omega)
          have HE : Hid (fpF p m n = 0 ∧ dn ++ btw i m j n = frF m n 0 0 p) := Lib.hid (by
            have h := HC.out
            rw [e] at h
            exact ⟨HT.out (h.1.2 trivial), h.2⟩)
          have HBt := Lib.hid (btw_any w.heap.size _ dn i m j n _ HO.out HBl.out.size (by omega) ⟨hi0, by omega⟩ ⟨by omega, by omega⟩ ⟨hj0, by omega⟩ ⟨by omega, by omega⟩)
          clear HC e
          go_wp2_with (go_at_call 31; refine HBt.out.mono ?_; rintro e w1 ⟨v1, rfl, ho1, hb1, hg1⟩; have HO1 := Lib.hid ho1; have HB1 := Lib.hid (HBl.out.trans hb1); clear ho1 hb1 hg1 HBt)
          go_ret2
          exact fp_good HE.out.1 (by rw [← HE.out.2]; exact HO1.out) HB1.out
    · have bm := inB_T hm
      have bn := inB_F hn
      have HE := Lib.hid (fpF_out (p := p) (m := m) (n := n) (fun h => hn h.2))
      clear hm hn
      go_enter Try.func24, Try.ntmps24
      go_wp2_with (go_at_call 30; refine (isLength_any _ _).mono ?_; rintro e w' ⟨rfl, rfl⟩)
      go_ret2
      exact fp_err HE.out (by decide) (Below.refl _ _)
  · have bm := inB_F hm
    have HE := Lib.hid (fpF_out (p := p) (m := m) (n := n) (fun h => hm h.1))
    clear hm
    go_enter Try.func24, Try.ntmps24
    go_wp2_with (go_at_call 30; refine (isLength_any _ _).mono ?_; rintro e w' ⟨rfl, rfl⟩)
    go_ret2
    exact fp_err HE.out (by decide) (Below.refl _ _)
end Sc
end Go.Proofs.Ytechabkmepejaaa
