/-
  The program's Script, Common and Distance. Conditions: numbers that an int holds.
-/
import Derived.Test.YtechabkmepejaaaShoPar
import Derived.Test.YtechabkmepejaaaScrFp
namespace Go.Proofs.Ytechabkmepejaaa
open Go.RowKit Go.Maps
namespace Sh
open Cm Sc
/-- The shortest script. -/
def scrF (a b : List Int) : List Ch := frF (a.length : Int) (b.length : Int) 0 0 (wkF 0 0 a b)
theorem wk_okP (a b : List Int) : OkP (a.length : Int) (b.length : Int) 0 0 (wkF 0 0 a b) := by
  have h := wkF_okP 0 0 a b
  rw [Int.zero_add, Int.zero_add] at h
  exact h
theorem lcs_le : ∀ (a b : List Int), lcs a b ≤ a.length ∧ lcs a b ≤ b.length := by
  have h : ∀ (n : Nat) (a b : List Int), a.length + b.length ≤ n → lcs a b ≤ a.length ∧ lcs a b ≤ b.length := by
    intro n
    induction n with
    | zero =>
      intro a b h
      obtain rfl : a = [] := List.eq_nil_of_length_eq_zero (by omega)
      simp [lcs_nil]
    | succ n ih =>
      intro a b h
      cases a with
      | nil => simp [lcs_nil]
      | cons x a =>
        cases b with
        | nil => simp [lcs_nil']
        | cons y b =>
          simp only [List.length_cons] at h ⊢
          have h1 := ih a b (by omega)
          have h2 := ih a (y :: b) (by simp only [List.length_cons]; omega)
          have h3 := ih (x :: a) b (by simp only [List.length_cons]; omega)
          simp only [List.length_cons] at h2 h3
          by_cases e : x = y
          · subst e; rw [lcs_eq]; omega
          · rw [lcs_ne e]; omega
  exact fun a b => h _ a b (Nat.le_refl _)
theorem okP_B {m n : Int} (hm : m ≤ 4096) (hn : n ≤ 4096) : ∀ {p : List Sp} {i j : Int}, 0 ≤ i → 0 ≤ j → OkP m n i j p → ∀ s ∈ p, SpB s
  | [], _, _, _, _, _, s, hs => by cases hs
  | s :: p, i, j, hi, hj, ⟨⟨a, b, c, d⟩, h⟩, x, hx => by
    rcases List.mem_cons.1 hx with rfl | hx
    · exact ⟨⟨by omega, by omega⟩, ⟨by omega, by omega⟩⟩
    · exact okP_B hm hn (by omega) (by omega) h x hx
/-- A new script, and no error. -/
def ScPost (l : List Ch) (w : World) (e : Ending) (w' : World) : Prop := ∃ v, e = .returned (.tuple #[v, .int .i64 0]) ∧ OwnC w.heap.size w' v l ∧ Below w.heap.size w w'
def NoPost (v : Value) (w : World) (e : Ending) (w' : World) : Prop := e = .returned (.tuple #[v, .int .i64 1]) ∧ w = w'
theorem longB_F {m n : Nat} (h1 : m ≤ 4096) (h2 : n ≤ 4096) : longB m n = false := by unfold longB; rw [decide_eq_false_iff_not]; omega
theorem longB_T {m n : Nat} (h : 4096 < m ∨ 4096 < n) : longB m n = true := by unfold longB; rw [decide_eq_true_iff]; exact h
set_option maxRecDepth 100000 in
set_option maxHeartbeats 2000000 in
theorem Script_at (A B : Option Addr) (c d n m : Nat) (a b : List Int) (w : World) (HA : Hid (RdV w (.slice A n c) (intsV a))) (HB : Hid (RdV w (.slice B m d) (intsV b))) (hn : n ≤ 4096) (hm : m ≤ 4096) (HN : Hid (n = a.length)) (HM : Hid (m = b.length)) (hBa : Hid (∀ z ∈ a, zB z)) (hBb : Hid (∀ z ∈ b, zB z)) :
    Calls Try.prog 19 #[.slice A n c, .slice B m d] w (ScPost (scrF a b) w) := by
  have HP := Lib.hid (partners_at A B c d n m a b w HA HB hn hm HN HM hBa hBb)
  have HTl : Hid (∀ w : World, Calls Try.prog 23 #[.slice A n c, .slice B m d] w fun e w' => e = .returned (.bool false) ∧ w = w') := Lib.hid (fun w => by
    have h := tooLong_any A B n m c d w
    rw [longB_F hn hm] at h
    exact h)
  have HFp : Hid (∀ (v : Value) (w1 : World), OwnS w.heap.size w1 v (wkF 0 0 a b) → Calls Try.prog 24 #[v, .int .i64 (n : Int), .int .i64 (m : Int)] w1 fun e w' => ∃ v', e = .returned (.tuple #[v', .int .i64 0]) ∧ OwnC w1.heap.size w' v' (scrF a b) ∧ Below w1.heap.size w1 w') := Lib.hid (fun v w1 ho => by
    have hl := wkF_len 0 0 a b
    have hle := lcs_le a b
    have hna := HN.out
    have hmb := HM.out
    have hok := wk_okP a b
    have h := FromPairs_any v (wkF 0 0 a b) (n : Int) (m : Int) w1 ho.rd (by omega) (okP_B (m := (a.length : Int)) (n := (b.length : Int)) (by omega) (by omega) (Int.le_refl _) (Int.le_refl _) hok)
    have h0 : fpF (wkF 0 0 a b) (n : Int) (m : Int) = 0 := fpF_ok ⟨by omega, by omega⟩ ⟨by omega, by omega⟩ (by rw [hna, hmb]; exact hok)
    refine h.mono ?_
    rintro e w' ⟨v', rfl, h1, _, h3⟩
    refine ⟨v', by rw [h0], ?_, h3⟩
    have h4 := h1 h0
    unfold scrF
    rw [← hna, ← hmb]
    exact h4)
  go_enter Try.func19, Try.ntmps19
  go_wp2_with (first
    | (go_at_call 23; refine (HTl.out _).mono ?_; rintro e w' ⟨rfl, rfl⟩)
    | (go_at_call 25; refine HP.out.mono ?_; rintro e w1 ⟨v1, rfl, ho1, hb1⟩; obtain ⟨A1, c1, rfl⟩ := ho1.rd.form; have HO1 := Lib.hid ho1; have HB1 := Lib.hid hb1; clear ho1 hb1)
    | (go_at_call 24; refine (HFp.out _ _ HO1.out).mono ?_; rintro e w2 ⟨v2, rfl, ho2, hb2⟩; have HO2 := Lib.hid (ho2.base HB1.out.size); have HB2 := Lib.hid (HB1.out.trans (hb2.mono HB1.out.size)); clear ho2 hb2))
  go_ret2
  exact ⟨_, rfl, HO2.out, HB2.out⟩
set_option maxRecDepth 100000 in
theorem Script_long (A B : Option Addr) (c d n m : Nat) (w : World) (h : 4096 < n ∨ 4096 < m) : Calls Try.prog 19 #[.slice A n c, .slice B m d] w (NoPost (.slice none 0 0) w) := by
  have HTl : Hid (∀ w : World, Calls Try.prog 23 #[.slice A n c, .slice B m d] w fun e w' => e = .returned (.bool true) ∧ w = w') := Lib.hid (fun w => by
    have h1 := tooLong_any A B n m c d w
    rw [longB_T h] at h1
    exact h1)
  clear h
  go_enter Try.func19, Try.ntmps19
  go_wp2_with (go_at_call 23; refine (HTl.out _).mono ?_; rintro e w' ⟨rfl, rfl⟩)
  go_ret2
  exact ⟨rfl, rfl⟩
def NumPost (z : Int) (w : World) (e : Ending) (w' : World) : Prop := e = .returned (.tuple #[.int .i64 z, .int .i64 0]) ∧ Below w.heap.size w w'
end Sh
end Go.Proofs.Ytechabkmepejaaa
