/-
  The verifier's Script: a valid script of raw numbers; and its second script. Conditions: few raw numbers, at a small place.
-/
import Derived.Test.YtlckdacmeandmaaScrMade
namespace Go.Proofs.Ytlckdacmeandmaa
open Go.RowKit
namespace Sc
open Cm Au
/-- What the verifier's Script returns: a valid script for texts of at most nine lines. -/
structure GoodL (l : List Ch) (m n : Int) : Prop where
  bm : 0 ≤ m ∧ m ≤ 9
  bn : 0 ≤ n ∧ n ≤ 9
  ok : OkL true 0 0 l m n
  len : l.length ≤ 10
theorem GoodL.im {l : List Ch} {m n : Int} (h : GoodL l m n) : inI m := ⟨h.bm.1, by have := h.bm.2; omega⟩
theorem GoodL.in_ {l : List Ch} {m n : Int} (h : GoodL l m n) : inI n := ⟨h.bn.1, by have := h.bn.2; omega⟩
theorem OkL.bd {m n : Int} (hm : m ≤ 9) (hn : n ≤ 9) : ∀ {l : List Ch} {f : Bool} {i j : Int}, OkL f i j l m n → ∀ c ∈ l, (0 ≤ c.old ∧ c.old ≤ 9) ∧ (0 ≤ c.oldLen ∧ c.oldLen ≤ 9) ∧ (0 ≤ c.new ∧ c.new ≤ 9) ∧ (0 ≤ c.newLen ∧ c.newLen ≤ 9)
  | [], _, _, _, _, c, hc => by cases hc
  | x :: l, f, i, j, ⟨⟨⟨⟨a0, a1, a2⟩, ⟨b0, b1, b2⟩, _⟩, _⟩, hl⟩, c, hc => by
    rcases List.mem_cons.1 hc with rfl | hc
    · exact ⟨⟨a0, by omega⟩, ⟨a1, by omega⟩, ⟨b0, by omega⟩, ⟨b1, by omega⟩⟩
    · exact OkL.bd hm hn hl c hc
theorem GoodL.bd {l : List Ch} {m n : Int} (h : GoodL l m n) : ∀ c ∈ l, (0 ≤ c.old ∧ c.old ≤ 9) ∧ (0 ≤ c.oldLen ∧ c.oldLen ≤ 9) ∧ (0 ≤ c.new ∧ c.new ≤ 9) ∧ (0 ≤ c.newLen ∧ c.newLen ≤ 9) := OkL.bd h.bm.2 h.bn.2 h.ok
theorem GoodL.chB {l : List Ch} {m n : Int} (h : GoodL l m n) : ∀ c ∈ l, ChB c := fun c hc => by
  obtain ⟨⟨_, _⟩, ⟨_, _⟩, ⟨_, _⟩, ⟨_, _⟩⟩ := h.bd c hc
  exact ⟨⟨by omega, by omega⟩, ⟨by omega, by omega⟩, ⟨by omega, by omega⟩, ⟨by omega, by omega⟩⟩
theorem good_of {p : List Sp} {m n : Int} (hm : 0 ≤ m ∧ m ≤ 9) (hn : 0 ≤ n ∧ n ≤ 9) (hp : OkP m n 0 0 p) (hl : p.length ≤ 9) : GoodL (frF m n 0 0 p) m n :=
  ⟨hm, hn, (frm_run hp hm.1 hn.1).1, by have := frF_len m n p 0 0; omega⟩
def Pre (m n i j : Int) (dn : List Sp) : Prop := ∀ q, OkP m n i j q → OkP m n 0 0 (dn ++ q)
theorem Pre.start (m n : Int) : Pre m n 0 0 [] := fun _ h => h
theorem Pre.more {m n i j i' j' : Int} {dn : List Sp} (h : Pre m n i j dn) (hi : i ≤ i') (hj : j ≤ j') : Pre m n i' j' dn := fun q hq => h q (hq.mono hi hj)
theorem Pre.snoc {m n i j : Int} {dn : List Sp} (h : Pre m n i j dn) (hi : i < m) (hj : j < n) : Pre m n (i + 1) (j + 1) (dn ++ [⟨i, j⟩]) := fun q hq => by
  rw [List.append_assoc]
  exact h _ ⟨⟨Int.le_refl _, hi, Int.le_refl _, hj⟩, hq⟩
def ScriptPost (w : World) (e : Ending) (w' : World) : Prop := ∃ v l m n, e = .returned (.tuple #[v, .int .i64 m, .int .i64 n]) ∧ GoodL l m n ∧ OwnC w.heap.size w' v l ∧ Below w.heap.size w w'
set_option maxRecDepth 100000 in
set_option maxHeartbeats 4000000 in
theorem Script_any (v : Value) (us : List Int) (fr : Int) (w : World) (h : RdV w v (intsV us)) (hu : us.length ≤ maxLen) (hf : 0 ≤ fr ∧ fr ≤ 100000) :
    Calls Try.prog 9 #[v, .int .i64 fr] w (ScriptPost w) := by
  have HAt := Lib.hid (fun (wq : World) (k : Int) (hb : Below w.heap.size w wq) (h0 : 0 ≤ k) (h1 : k ≤ 1000000) => At_fn v us k wq (h.below hb) hu h0 h1)
  have HB0 := Lib.hid (Below.refl w.heap.size w)
  obtain ⟨f0, f1⟩ := hf
  obtain ⟨A, c, rfl⟩ := h.form
  clear h hu
  rw [intsV_len] at HAt ⊢
  generalize us.length = nu at HAt ⊢
  have p1 := Tx.modF_lo (atF us fr) 10 (by decide)
  have p2 := Tx.modF_hi (atF us fr) 10 (by decide)
  have p3 := Tx.modF_lo (atF us (fr + 1)) 10 (by decide)
  have p4 := Tx.modF_hi (atF us (fr + 1)) 10 (by decide)
  go_enter Try.func9, Try.ntmps9
  go_wp2_with (first | (go_at_call 11; refine (Tx.Mod_any _ _ _ (by omega) (by omega) (by first | exact atF_lo _ _ | omega) (by first | exact atF_hi _ _ | omega)).mono ?_; rintro e w7 ⟨rfl, rfl⟩) | (go_at_call 17; refine (HAt.out _ _ HB0.out (by omega) (by omega)).mono ?_; rintro e w7 ⟨rfl, rfl⟩))
  generalize Tx.modF (atF us fr) 10 = m at *
  generalize Tx.modF (atF us (fr + 1)) 10 = n at *
  go_loopw [9, 10, 11] (fun s' i' j' wr => ∃ (i j : Int) (dn : List Sp), i' = .int .i64 i ∧ j' = .int .i64 j ∧ (0 ≤ i ∧ i ≤ m) ∧ (0 ≤ j ∧ j ≤ n) ∧ (dn.length : Int) ≤ i ∧ Hid (OwnS w.heap.size wr s' dn) ∧ Hid (Below w.heap.size w wr) ∧ Hid (Pre m n i j dn)) (fun _ i' j' _ => (m - intOf i').toNat + (n - intOf j').toNat)
  case atStart => exact ⟨0, 0, [], rfl, rfl, ⟨Int.le_refl _, p1⟩, ⟨Int.le_refl _, p3⟩, Int.le_refl _, Lib.hid (OwnS.nil _ _), Lib.hid (Below.refl _ _), Lib.hid (Pre.start _ _)⟩
  case round =>
    obtain ⟨i, j, dn, rfl, rfl, ⟨hi0, hi1⟩, ⟨hj0, hj1⟩, hdn, HO, HB, HP⟩ := hrel
    by_cases h1 : i < m
    · have q1 : decide (i < m) = true := decide_eq_true h1
      by_cases h2 : j < n
      · have q2 : decide (j < n) = true := decide_eq_true h2
        have z1 := atF_lo us (fr + 2 + i + 10 * j)
        have z2 := atF_hi us (fr + 2 + i + 10 * j)
        have HA2 := Lib.hid (HAt.out wr (fr + 2 + i + 10 * j) HB.out (by omega) (by omega))
        generalize atF us (fr + 2 + i + 10 * j) = z at HA2 z1 z2
        by_cases h3 : z.tmod 4 = 0
        · have q3 : (z.tmod 4 == 0) = true := by rw [beq_iff_eq]; exact h3
          have HP2 := Lib.hid (HP.out.more (i' := i + 1) (j' := j) (by omega) (by omega))
          clear h3 HP
          go_wp2_with (go_at_call 17; refine HA2.out.mono ?_; rintro e w7 ⟨rfl, rfl⟩)
          go_roundw
          case rel => exact ⟨i + 1, j, _, rfl, rfl, ⟨by omega, by omega⟩, ⟨by omega, by omega⟩, by omega, HO, HB, HP2⟩
          case measure => simp [intOf]; omega
        · have q3 : (z.tmod 4 == 0) = false := by rw [Bool.eq_false_iff]; intro hh; rw [beq_iff_eq] at hh; exact h3 hh
          by_cases h4 : z.tmod 4 = 1
          · have q4 : (z.tmod 4 == 1) = true := by rw [beq_iff_eq]; exact h4
            have HP2 := Lib.hid (HP.out.more (i' := i) (j' := j + 1) (by omega) (by omega))
            clear h3 h4 HP
            go_wp2_with (go_at_call 17; refine HA2.out.mono ?_; rintro e w7 ⟨rfl, rfl⟩)
            go_roundw
            case rel => exact ⟨i, j + 1, _, rfl, rfl, ⟨by omega, by omega⟩, ⟨by omega, by omega⟩, by omega, HO, HB, HP2⟩
            case measure => simp [intOf]; omega
          · have q4 : (z.tmod 4 == 1) = false := by rw [Bool.eq_false_iff]; intro hh; rw [beq_iff_eq] at hh; exact h4 hh
            have HP2 := Lib.hid (HP.out.snoc h1 h2)
            have HLn : Hid (((dn ++ [(⟨i, j⟩ : Sp)]).length : Int) ≤ i + 1) := Lib.hid (by rw [List.length_append, List.length_singleton]; omega)
            have hln : dn.length + 1 ≤ 1000000 := by omega
            clear h3 h4 HP
            go_wp2_with (first | (go_at_call 17; refine HA2.out.mono ?_; rintro e w7 ⟨rfl, rfl⟩) | (at_builtin; refine app_sp rfl (.tmp 39) (.tmp 43) rfl w.heap.size dn ⟨i, j⟩ _ _ rfl HO.out rfl rfl rfl hln HB.out.size ?_; intro v1 w1 ho1 hb1 _; have HO1 := Lib.hid ho1; have HB1 := Lib.hid (HB.out.trans hb1); clear ho1 hb1))
            go_roundw
            case rel => exact ⟨i + 1, j + 1, _, rfl, rfl, ⟨by omega, by omega⟩, ⟨by omega, by omega⟩, HLn.out, HO1, HB1, HP2⟩
            case measure => simp [intOf]; omega
      · have q2 : decide (j < n) = false := decide_eq_false h2
        have HG := Lib.hid (good_of ⟨p1, by omega⟩ ⟨p3, by omega⟩ (by have := HP.out [] trivial; rwa [List.append_nil] at this) (by omega))
        have HM := Lib.hid (Made_any _ dn m n wr HO.out.rd (by omega) ⟨p1, by omega⟩ ⟨p3, by omega⟩ (by have := HP.out [] trivial; rwa [List.append_nil] at this))
        clear HP
        go_wp2_with (go_at_call 18; refine HM.out.mono ?_; rintro e w1 ⟨v1, rfl, ho1, hb1⟩; have HO1 := Lib.hid ho1; have HB1 := Lib.hid hb1; clear ho1 hb1 HM)
        go_ret3
        exact ⟨_, _, _, _, rfl, HG.out, HO1.out.base HB.out.size, HB.out.trans (HB1.out.mono HB.out.size)⟩
    · have q1 : decide (i < m) = false := decide_eq_false h1
      have HG := Lib.hid (good_of ⟨p1, by omega⟩ ⟨p3, by omega⟩ (by have := HP.out [] trivial; rwa [List.append_nil] at this) (by omega))
      have HM := Lib.hid (Made_any _ dn m n wr HO.out.rd (by omega) ⟨p1, by omega⟩ ⟨p3, by omega⟩ (by have := HP.out [] trivial; rwa [List.append_nil] at this))
      clear HP
      go_wp2_with (go_at_call 18; refine HM.out.mono ?_; rintro e w1 ⟨v1, rfl, ho1, hb1⟩; have HO1 := Lib.hid ho1; have HB1 := Lib.hid hb1; clear ho1 hb1 HM)
      go_ret3
      exact ⟨_, _, _, _, rfl, HG.out, HO1.out.base HB.out.size, HB.out.trans (HB1.out.mono HB.out.size)⟩
end Sc
end Go.Proofs.Ytlckdacmeandmaa
