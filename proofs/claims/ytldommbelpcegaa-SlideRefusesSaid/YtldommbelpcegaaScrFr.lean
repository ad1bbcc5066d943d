/-
  The program's appendBetween and FromPairs. Conditions: the fields are numbers that an int holds, as few elements as the laws have.
-/
import Derived.Test.YtldommbelpcegaaScrMade
namespace Go.Proofs.Ytldommbelpcegaa
open Go.RowKit
namespace Sc
open Cm
def BtPost (base : Nat) (l : List Ch) (w : World) (v : Value) (e : Ending) (w' : World) : Prop := ∃ v', e = .returned v' ∧ OwnC base w' v' l ∧ Below base w w' ∧ ∀ k, k < w.heap.size → some k ≠ v.ownBlock → w'.heap[k]? = w.heap[k]?
open Classical in
/-- The code of FromPairs, and the script. -/
noncomputable def fpF (p : List Sp) (m n : Int) : Int := if inI m ∧ inI n then (if OkP m n 0 0 p then 0 else 3) else 80
def FpPost (p : List Sp) (m n : Int) (w : World) (e : Ending) (w' : World) : Prop :=
  ∃ v, e = .returned (.tuple #[v, .int .i64 (fpF p m n)]) ∧ (fpF p m n = 0 → OwnC w.heap.size w' v (frF m n 0 0 p)) ∧ (fpF p m n ≠ 0 → v = .slice none 0 0) ∧ Below w.heap.size w w'
theorem fpF_out {p : List Sp} {m n : Int} (h : ¬ (inI m ∧ inI n)) : fpF p m n = 80 := by unfold fpF; rw [if_neg h]
theorem fpF_ok {p : List Sp} {m n : Int} (hm : inI m) (hn : inI n) (h : OkP m n 0 0 p) : fpF p m n = 0 := by unfold fpF; rw [if_pos ⟨hm, hn⟩, if_pos h]
theorem fpF_no {p : List Sp} {m n : Int} (hm : inI m) (hn : inI n) (h : ¬ OkP m n 0 0 p) : fpF p m n = 3 := by unfold fpF; rw [if_pos ⟨hm, hn⟩, if_neg h]
theorem fp_err {p : List Sp} {m n z : Int} {w w' : World} (h : fpF p m n = z) (hz : z ≠ 0) (hb : Below w.heap.size w w') : FpPost p m n w (.returned (.tuple #[.slice none 0 0, .int .i64 z])) w' :=
  ⟨_, by rw [h], fun h0 => absurd (h ▸ h0) hz, fun _ => rfl, hb⟩
theorem fp_good {p : List Sp} {m n : Int} {v : Value} {w w' : World} (h : fpF p m n = 0) (ho : OwnC w.heap.size w' v (frF m n 0 0 p)) (hb : Below w.heap.size w w') : FpPost p m n w (.returned (.tuple #[v, .int .i64 0])) w' :=
  ⟨_, by rw [h], fun _ => ho, fun h0 => absurd h h0, hb⟩
end Sc
end Go.Proofs.Ytldommbelpcegaa
