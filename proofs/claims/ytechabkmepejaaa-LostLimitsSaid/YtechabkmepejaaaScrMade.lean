/-
  The reference's Made; new scripts and lists of spans. Conditions: good pairs, as few elements as the laws have.
-/
import Derived.Test.YtechabkmepejaaaScrCk
namespace Go.Proofs.Ytechabkmepejaaa
open Go.RowKit
namespace Sc
open Cm
/-- A new script that the call owns. -/
def NewC (l : List Ch) (w : World) (e : Ending) (w' : World) : Prop := ∃ v, e = .returned v ∧ OwnC w.heap.size w' v l ∧ Below w.heap.size w w'
def NewS (l : List Sp) (w : World) (e : Ending) (w' : World) : Prop := ∃ v, e = .returned v ∧ OwnS w.heap.size w' v l ∧ Below w.heap.size w w'
theorem take_at {α : Type} {l : List α} {k : Nat} (h : k < l.length) : l.take (k + 1) = l.take k ++ [l[k]] := List.take_succ_eq_append_getElem h
theorem box_kept {wr w1 : World} {base : Nat} {v : Value} {dn : List Ch} {a b : Value} {C : Array Value} (ho : OwnC base (wr.alloc (.cells #[a, b] tSp)) v dn) (hg : ((wr.alloc (.cells #[a, b] tSp)).alloc (.cells C tCh)).grownBy w1 v.ownBlock) :
    w1.cell? ⟨wr.heap.size, 0, none⟩ = some a ∧ w1.cell? ⟨wr.heap.size, 1, none⟩ = some b := by
  have hH : (wr.alloc (.cells #[a, b] tSp)).heap[wr.heap.size]? = some (.cells #[a, b] tSp (0, 0)) := heap_new wr _
  have hH2 : ((wr.alloc (.cells #[a, b] tSp)).alloc (.cells C tCh)).heap[wr.heap.size]? = some (.cells #[a, b] tSp (0, 0)) := (Below.heap_alloc _ _ _ (by simp)).trans hH
  have hne : some wr.heap.size ≠ v.ownBlock := by
    intro e
    rcases ho.2 with ⟨rfl, _⟩ | ⟨g, cap, cur, rfl, _, hh, _⟩
    · simp [Value.ownBlock] at e
    · have : wr.heap.size = g := by simpa [Value.ownBlock] using e
      subst this
      rw [hH] at hh
      injection hh with hh
      injection hh with _ ht
      exact absurd ht (by decide)
  have h1 := (hg.block wr.heap.size (by simp; omega) hne).trans hH2
  exact ⟨by simp [World.cell?, h1], by simp [World.cell?, h1]⟩
theorem OwnC.drewN {base : Nat} {w : World} {v : Value} {l : List Ch} (h : OwnC base w v l) (m : Nat) : OwnC base (w.drewN m) v l := h.below (below_drewN (Below.refl _ _) m)
theorem OwnS.drewN {base : Nat} {w : World} {v : Value} {l : List Sp} (h : OwnS base w v l) (m : Nat) : OwnS base (w.drewN m) v l := h.below (below_drewN (Below.refl _ _) m)
theorem btw_gt1 {i a j b : Int} (h : i < a) : btw i a j b = [⟨i, a - i, j, b - j⟩] := btw_new (by omega)
theorem btw_gt2 {i a j b : Int} (h : j < b) : btw i a j b = [⟨i, a - i, j, b - j⟩] := btw_new (by omega)
set_option maxRecDepth 100000 in
set_option maxHeartbeats 8000000 in
theorem Made_any (v : Value) (p : List Sp) (m n : Int) (w : World) (h : RdS w v p) (hl : p.length ≤ 100000) (hm : 0 ≤ m ∧ m ≤ 4096) (hn : 0 ≤ n ∧ n ≤ 4096) (hp : OkP m n 0 0 p) :
    Calls Try.prog 43 #[v, .int .i64 m, .int .i64 n] w (NewC (frF m n 0 0 p) w) := by
  obtain ⟨A, cp, rfl⟩ := h.form
  have HR := Lib.hid h
  have HFl := Lib.hid (frF_len m n p 0 0)
  obtain ⟨m0, m1⟩ := hm
  obtain ⟨n0, n1⟩ := hn
  have HP := Lib.hid hp
  clear h hp
  generalize hN : p.length = N at hl HFl ⊢
  have HN := Lib.hid hN
  clear hN
  go_enter Try.func43, Try.ntmps43
  go_wp2_with fail
  go_loopw [7, 8, 9, 10] (fun s' i' j' k' wr => ∃ (k : Nat) (i j : Int) (dn : List Ch), k ≤ N + 1 ∧ k' = .int .i64 (k : Int) ∧ i' = .int .i64 i ∧ j' = .int .i64 j ∧ (0 ≤ i ∧ i ≤ 4097) ∧ (0 ≤ j ∧ j ≤ 4097) ∧ dn.length ≤ N + 1 ∧ Hid (OwnC w.heap.size wr s' dn) ∧ Hid (Below w.heap.size w wr) ∧ Hid ((k ≤ N ∧ i ≤ m ∧ j ≤ n ∧ OkP m n i j (p.drop k) ∧ dn ++ frF m n i j (p.drop k) = frF m n 0 0 p) ∨ (k = N + 1 ∧ dn = frF m n 0 0 p))) (fun _ _ _ k' _ => N + 1 - (intOf k').toNat)
  case atStart => exact ⟨0, 0, 0, [], by omega, rfl, rfl, rfl, ⟨by omega, by omega⟩, ⟨by omega, by omega⟩, Nat.zero_le _, Lib.hid (OwnC.nil _ _), Lib.hid (Below.refl _ _), Lib.hid (.inl ⟨Nat.zero_le _, m0, n0, HP.out, rfl⟩)⟩
  case round =>
    obtain ⟨k, i, j, dn, hk, rfl, rfl, rfl, ⟨hi0, hi1⟩, ⟨hj0, hj1⟩, hdn, HO, HB, HC⟩ := hrel
    by_cases hlt : k ≤ N
    · obtain ⟨him, hjn, hok, hT⟩ : i ≤ m ∧ j ≤ n ∧ OkP m n i j (p.drop k) ∧ dn ++ frF m n i j (p.drop k) = frF m n 0 0 p := by
        rcases HC.out with h | h
        · exact h.2
        · omega
      have HOk := Lib.hid hok
      have HT := Lib.hid hT
      clear HC hok hT
      by_cases hlt2 : k < N
      · have hx : k < p.length := by rw [HN.out]; exact hlt2
        obtain ⟨b0, off, rfl, c0, c1⟩ := RdS_at ((HR.out.below HB.out).below ((Below.refl _ _).alloc (Nat.le_refl _) (.cells #[.int .i64 m, .int .i64 n] tSp))) k hx
        have hq : OkP m n i j (p[k] :: p.drop (k + 1)) := by rw [← drop_at hx]; exact HOk.out
        obtain ⟨⟨g1, g2, g3, g4⟩, hq2⟩ := hq
        have HT2 : Hid (dn ++ (btw i p[k].frm j p[k].to ++ frF m n (p[k].frm + 1) (p[k].to + 1) (p.drop (k + 1))) = frF m n 0 0 p) := Lib.hid (by have := HT.out; rw [drop_at hx] at this; exact this)
        have HQ2 := Lib.hid hq2
        have HLen : Hid (∀ x : Ch, btw i p[k].frm j p[k].to = [x] → (dn ++ [x]).length ≤ N + 1) := Lib.hid (fun x hx => by
          have := HFl.out
          rw [← HT2.out, hx] at this
          simp only [List.length_append, List.length_singleton] at this ⊢
          omega)
        clear hq2 HOk HT
        generalize p[k] = s at c0 c1 g1 g2 g3 g4 HT2 HQ2 HLen
        obtain ⟨a, b⟩ := s
        simp only at c0 c1 g1 g2 g3 g4
        have HNx : Hid (∀ d : List Ch, d = dn ++ btw i a j b → (k + 1 ≤ N ∧ a + 1 ≤ m ∧ b + 1 ≤ n ∧ OkP m n (a + 1) (b + 1) (p.drop (k + 1)) ∧ d ++ frF m n (a + 1) (b + 1) (p.drop (k + 1)) = frF m n 0 0 p) ∨ (k + 1 = N + 1 ∧ d = frF m n 0 0 p)) := Lib.hid (fun d hd => .inl ⟨hlt2, by omega, by omega, HQ2.out, by rw [hd, List.append_assoc]; exact HT2.out⟩)
        have a0 : 0 ≤ a := by omega
        have b0' : 0 ≤ b := by omega
        have dk : decide (k < N) = true := decide_eq_true hlt2
        clear HT2 HQ2
        have HOx := Lib.hid (HO.out.below ((Below.refl _ _).alloc (Nat.le_refl _) (.cells #[.int .i64 a, .int .i64 b] tSp)))
        have HBx := Lib.hid (HB.out.alloc HB.out.size (.cells #[.int .i64 a, .int .i64 b] tSp))
        have HZx : Hid ((wr.alloc (.cells #[.int .i64 a, .int .i64 b] tSp)).heap.size = wr.heap.size + 1) := Lib.hid (by simp)
        have hdx : dn.length + 1 ≤ 1000000 := by omega
        have hbx : w.heap.size ≤ (wr.alloc (.cells #[.int .i64 a, .int .i64 b] tSp)).heap.size := HBx.out.size
        have HHx := Lib.hid hbx
        clear hbx
        by_cases h1 : i < a
        · have q1 : decide (i < a) = true := decide_eq_true h1
          have HN2 := Lib.hid (HNx.out (dn ++ [⟨i, a - i, j, b - j⟩]) (by rw [btw_gt1 h1]))
          have HL2 := Lib.hid (HLen.out ⟨i, a - i, j, b - j⟩ (btw_gt1 h1))
          clear HNx HLen HO HB
          go_wp2_with (at_builtin; refine app_ch rfl (.tmp 39) (.tmp 51) rfl w.heap.size dn ⟨i, a - i, j, b - j⟩ _ _ rfl HOx.out HZx.out rfl rfl hdx HHx.out ?_; intro v1 w1 ho1 hb1 hg1; obtain ⟨d0, d1⟩ := box_kept HOx.out hg1; have HO1 := Lib.hid ho1; have HB1 := Lib.hid (HBx.out.trans hb1); clear ho1 hb1 hg1)
          go_quiet (fail)
          go_wp2_with fail
          go_roundw
          case rel => exact ⟨k + 1, a + 1, b + 1, _, by omega, by go_num, rfl, rfl, ⟨by omega, by omega⟩, ⟨by omega, by omega⟩, HL2.out, Lib.hid (HO1.out.drewN _), Lib.hid (below_drewN HB1.out _), HN2⟩
          case measure => simp [intOf]; omega
        · have q1 : decide (i < a) = false := decide_eq_false h1
          by_cases h2 : j < b
          · have q2 : decide (j < b) = true := decide_eq_true h2
            have HN2 := Lib.hid (HNx.out (dn ++ [⟨i, a - i, j, b - j⟩]) (by rw [btw_gt2 h2]))
            have HL2 := Lib.hid (HLen.out ⟨i, a - i, j, b - j⟩ (btw_gt2 h2))
            clear HNx HLen HO HB
            go_wp2_with (at_builtin; refine app_ch rfl (.tmp 39) (.tmp 51) rfl w.heap.size dn ⟨i, a - i, j, b - j⟩ _ _ rfl HOx.out HZx.out rfl rfl hdx HHx.out ?_; intro v1 w1 ho1 hb1 hg1; obtain ⟨d0, d1⟩ := box_kept HOx.out hg1; have HO1 := Lib.hid ho1; have HB1 := Lib.hid (HBx.out.trans hb1); clear ho1 hb1 hg1)
            go_quiet (fail)
            go_wp2_with fail
            go_roundw
            case rel => exact ⟨k + 1, a + 1, b + 1, _, by omega, by go_num, rfl, rfl, ⟨by omega, by omega⟩, ⟨by omega, by omega⟩, HL2.out, Lib.hid (HO1.out.drewN _), Lib.hid (below_drewN HB1.out _), HN2⟩
            case measure => simp [intOf]; omega
          · have q2 : decide (j < b) = false := decide_eq_false h2
            have HN2 := Lib.hid (HNx.out dn (by rw [show a = i from by omega, show b = j from by omega, btw_same, List.append_nil]))
            clear HNx HLen HO HB
            go_wp2_with fail
            go_quiet (fail)
            go_wp2_with fail
            go_roundw
            case rel => exact ⟨k + 1, a + 1, b + 1, _, by omega, by go_num, rfl, rfl, ⟨by omega, by omega⟩, ⟨by omega, by omega⟩, hdn, Lib.hid (HOx.out.drewN _), Lib.hid (below_drewN HBx.out _), HN2⟩
            case measure => simp [intOf]; omega
      · have hkN : k = N := by omega
        have HNx : Hid (∀ d : List Ch, d = dn ++ btw i m j n → (k + 1 ≤ N ∧ m + 1 ≤ m ∧ n + 1 ≤ n ∧ OkP m n (m + 1) (n + 1) (p.drop (k + 1)) ∧ d ++ frF m n (m + 1) (n + 1) (p.drop (k + 1)) = frF m n 0 0 p) ∨ (k + 1 = N + 1 ∧ d = frF m n 0 0 p)) := Lib.hid (fun d hd => .inr ⟨by omega, by
          have e : p.drop k = [] := List.drop_eq_nil_of_le (by rw [HN.out]; omega)
          have := HT.out
          rw [e] at this
          rw [hd, ← this]; rfl⟩)
        have HLen : Hid (∀ x : Ch, btw i m j n = [x] → (dn ++ [x]).length ≤ N + 1) := Lib.hid (fun x hx => by
          have e : p.drop k = [] := List.drop_eq_nil_of_le (by rw [HN.out]; omega)
          have h2 := HT.out
          rw [e] at h2
          have := HFl.out
          rw [← h2] at this
          simp only [frF, hx, List.length_append, List.length_singleton] at this ⊢
          omega)
        have dk : decide (k < N) = false := decide_eq_false hlt2
        clear HOk HT hkN
        have HOx := Lib.hid (HO.out.below ((Below.refl _ _).alloc (Nat.le_refl _) (.cells #[.int .i64 m, .int .i64 n] tSp)))
        have HBx := Lib.hid (HB.out.alloc HB.out.size (.cells #[.int .i64 m, .int .i64 n] tSp))
        have HZx : Hid ((wr.alloc (.cells #[.int .i64 m, .int .i64 n] tSp)).heap.size = wr.heap.size + 1) := Lib.hid (by simp)
        have hdx : dn.length + 1 ≤ 1000000 := by omega
        have hbx : w.heap.size ≤ (wr.alloc (.cells #[.int .i64 m, .int .i64 n] tSp)).heap.size := HBx.out.size
        have HHx := Lib.hid hbx
        clear hbx
        by_cases h1 : i < m
        · have q1 : decide (i < m) = true := decide_eq_true h1
          have HN2 := Lib.hid (HNx.out (dn ++ [⟨i, m - i, j, n - j⟩]) (by rw [btw_gt1 h1]))
          have HL2 := Lib.hid (HLen.out ⟨i, m - i, j, n - j⟩ (btw_gt1 h1))
          clear HNx HLen HO HB
          go_wp2_with (at_builtin; refine app_ch rfl (.tmp 39) (.tmp 51) rfl w.heap.size dn ⟨i, m - i, j, n - j⟩ _ _ rfl HOx.out HZx.out rfl rfl hdx HHx.out ?_; intro v1 w1 ho1 hb1 hg1; obtain ⟨d0, d1⟩ := box_kept HOx.out hg1; have HO1 := Lib.hid ho1; have HB1 := Lib.hid (HBx.out.trans hb1); clear ho1 hb1 hg1)
          go_quiet (fail)
          go_wp2_with fail
          go_roundw
          case rel => exact ⟨k + 1, m + 1, n + 1, _, by omega, by go_num, rfl, rfl, ⟨by omega, by omega⟩, ⟨by omega, by omega⟩, HL2.out, Lib.hid (HO1.out.drewN _), Lib.hid (below_drewN HB1.out _), HN2⟩
          case measure => simp [intOf]; omega
        · have q1 : decide (i < m) = false := decide_eq_false h1
          by_cases h2 : j < n
          · have q2 : decide (j < n) = true := decide_eq_true h2
            have HN2 := Lib.hid (HNx.out (dn ++ [⟨i, m - i, j, n - j⟩]) (by rw [btw_gt2 h2]))
            have HL2 := Lib.hid (HLen.out ⟨i, m - i, j, n - j⟩ (btw_gt2 h2))
            clear HNx HLen HO HB
            go_wp2_with (at_builtin; refine app_ch rfl (.tmp 39) (.tmp 51) rfl w.heap.size dn ⟨i, m - i, j, n - j⟩ _ _ rfl HOx.out HZx.out rfl rfl hdx HHx.out ?_; intro v1 w1 ho1 hb1 hg1; obtain ⟨d0, d1⟩ := box_kept HOx.out hg1; have HO1 := Lib.hid ho1; have HB1 := Lib.hid (HBx.out.trans hb1); clear ho1 hb1 hg1)
            go_quiet (fail)
            go_wp2_with fail
            go_roundw
            case rel => exact ⟨k + 1, m + 1, n + 1, _, by omega, by go_num, rfl, rfl, ⟨by omega, by omega⟩, ⟨by omega, by omega⟩, HL2.out, Lib.hid (HO1.out.drewN _), Lib.hid (below_drewN HB1.out _), HN2⟩
            case measure => simp [intOf]; omega
          · have q2 : decide (j < n) = false := decide_eq_false h2
            have HN2 := Lib.hid (HNx.out dn (by rw [show m = i from by omega, show n = j from by omega, btw_same, List.append_nil]))
            clear HNx HLen HO HB
            go_wp2_with fail
            go_quiet (fail)
            go_wp2_with fail
            go_roundw
            case rel => exact ⟨k + 1, m + 1, n + 1, _, by omega, by go_num, rfl, rfl, ⟨by omega, by omega⟩, ⟨by omega, by omega⟩, hdn, Lib.hid (HOx.out.drewN _), Lib.hid (below_drewN HBx.out _), HN2⟩
            case measure => simp [intOf]; omega
    · have hd : decide (k ≤ N) = false := decide_eq_false hlt
      have HE : Hid (dn = frF m n 0 0 p) := Lib.hid (by
        rcases HC.out with h | h
        · omega
        · exact h.2)
      clear HC
      go_wp2_with fail
      go_ret
      exact ⟨_, rfl, by rw [← HE.out]; exact HO.out, HB.out⟩
end Sc
end Go.Proofs.Ytechabkmepejaaa
