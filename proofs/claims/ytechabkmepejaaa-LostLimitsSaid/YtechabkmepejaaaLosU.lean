/-
  Project for every parent, of the program and of the reference. Conditions: fewer than 100000 elements, sets of 32 parents.
-/
import Derived.Test.YtechabkmepejaaaLosT
namespace Go.Proofs.Ytechabkmepejaaa
open Go.RowKit
namespace Lo
open Cm Sc
set_option maxRecDepth 100000 in
set_option maxHeartbeats 4000000 in
theorem ProjectR_out (v : Value) (l : List Mg) (p : Int) (w : World) (h : RdM w v l) (hl : l.length ≤ 100000) (hp : p < 0 ∨ 32 ≤ p) :
    Calls Try.prog 15 #[v, .int .i64 p] w (NwPost [] w) := by
  obtain ⟨A, c, rfl⟩ := h.form
  clear h
  generalize l.length = N at *
  have HL : Hid (∀ q : Prop, (0 ≤ p → p < 32 → q)) := Lib.hid (fun q h1 h2 => by omega)
  go_enter Try.func15, Try.ntmps15
  go_wp2_with fail
  go_loopw [5, 6] (fun v' k' wr => ∃ k : Nat, k ≤ N ∧ k' = .int .i64 (k : Int) ∧ v' = .slice none 0 0 ∧ wr = w) (fun _ k' _ => N - (intOf k').toNat)
  case atStart => exact ⟨0, Nat.zero_le _, rfl, rfl, rfl⟩
  case round =>
    obtain ⟨k, hk, rfl, rfl, rfl⟩ := hrel
    by_cases hlt : k < N
    · have i1 : (0 : Int) ≤ (k : Int) := by omega
      have i2 : (k : Int) < (N : Int) := by omega
      rcases hp with hp | hp
      · have q1 : decide ((0 : Int) ≤ p) = false := decide_eq_false (by omega)
        go_wp2_with fail
        go_roundw
        case rel => exact ⟨k + 1, by omega, by go_num, by simp⟩
        case measure => simp [intOf]; omega
      · have q1 : decide ((0 : Int) ≤ p) = true := decide_eq_true (by omega)
        have q2 : decide (p < 32) = false := decide_eq_false (by omega)
        go_wp2_with fail
        go_roundw
        case rel => exact ⟨k + 1, by omega, by go_num, by simp⟩
        case measure => simp [intOf]; omega
    · obtain rfl : k = N := by omega
      go_wp2_with fail
      go_ret
      exact ⟨_, rfl, World.ownsRow_nil _ _ _ _, Below.refl _ _⟩
theorem Project_out (v : Value) (p : Int) (w : World) (hp : p < 0 ∨ 32 ≤ p) :
    Calls Try.prog 14 #[v, .int .i64 p] w (NwPost [] w) := by
  rcases hp with hp | hp
  · have q1 : decide (p < (0 : Int)) = true := decide_eq_true hp
    go_enter Try.func14, Try.ntmps14
    go_wp2_with fail
    go_ret
    exact ⟨_, rfl, World.ownsRow_nil _ _ _ _, Below.refl _ _⟩
  · have q1 : decide (p < (0 : Int)) = false := decide_eq_false (by omega)
    have q2 : decide ((32 : Int) ≤ p) = true := decide_eq_true hp
    go_enter Try.func14, Try.ntmps14
    go_wp2_with fail
    go_ret
    exact ⟨_, rfl, World.ownsRow_nil _ _ _ _, Below.refl _ _⟩
theorem Project_any (v : Value) (l : List Mg) (p : Int) (w : World) (h : RdM w v l) (hl : l.length ≤ 100000) (hb : ∀ m ∈ l, m.par < 4294967296) :
    Calls Try.prog 14 #[v, .int .i64 p] w (NwPost (prF l p) w) := by
  by_cases hp : p < 0 ∨ 32 ≤ p
  · rw [prF_out hp]
    exact Project_out v p w hp
  · obtain ⟨q, rfl⟩ : ∃ q : Nat, p = (q : Int) := ⟨p.toNat, by omega⟩
    rw [prF_in (by omega)]
    exact Project_in v l q w h hl (by omega) hb
theorem ProjectR_any (v : Value) (l : List Mg) (p : Int) (w : World) (h : RdM w v l) (hl : l.length ≤ 100000) (hb : ∀ m ∈ l, m.par < 4294967296) :
    Calls Try.prog 15 #[v, .int .i64 p] w (NwPost (prF l p) w) := by
  by_cases hp : p < 0 ∨ 32 ≤ p
  · rw [prF_out hp]
    exact ProjectR_out v l p w h hl hp
  · obtain ⟨q, rfl⟩ : ∃ q : Nat, p = (q : Int) := ⟨p.toNat, by omega⟩
    rw [prF_in (by omega)]
    exact ProjectR_in v l q w h hl (by omega) hb
end Lo
end Go.Proofs.Ytechabkmepejaaa
