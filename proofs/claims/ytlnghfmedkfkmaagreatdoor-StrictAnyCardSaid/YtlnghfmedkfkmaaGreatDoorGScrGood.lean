/-
  Contracts at valid scripts, as the laws call them. Conditions: scripts of at most nine lines. The program's Fits. Conditions: the fields are numbers that an int holds, as few elements as the laws have.
-/
import Derived.Test.YtlnghfmedkfkmaaGreatDoorGScrRange
import Derived.Test.YtlnghfmedkfkmaaGreatDoorGScrBase
import Derived.Test.YtlnghfmedkfkmaaGreatDoorScrSpoil
import Derived.Deep.AppendLies
import Derived.Tactics
import Derived.Tactics2
import Derived.WalkSpells
import Derived.StillTactics
import Derived.OwnWalk
import Derived.Laws.Pointers
import Derived.Sort.QuietTacIn
namespace Go.Proofs.YtlnghfmedkfkmaaGreatDoor
section
namespace Cm
end Cm
open Go.RowKit
namespace Sc
open Cm
def GoodS (p : List Sp) (w : World) (e : Ending) (w' : World) : Prop := ∃ v, e = .returned (.tuple #[v, .int .i64 0]) ∧ OwnS w.heap.size w' v p ∧ Below w.heap.size w w'
end Sc
end
section
namespace Cm
end Cm
open Go.RowKit
attribute [local go_sem] Oper.semAt_some
namespace Sc
open Cm
def eqAt (xs ys : List Int) (s : Sp) : Prop := xs.getD s.frm.toNat 0 = ys.getD s.to.toNat 0
open Classical in
/-- The verdict of Fits. -/
noncomputable def fitsB (l : List Ch) (xs ys : List Int) : Bool := decide (chkF l xs.length ys.length = 0 ∧ ∀ s ∈ mtF xs.length 0 0 l, eqAt xs ys s)
open Classical in
theorem fitsB_T {l : List Ch} {xs ys : List Int} (h : chkF l xs.length ys.length = 0) (h2 : ∀ s ∈ mtF xs.length 0 0 l, eqAt xs ys s) : fitsB l xs ys = true := decide_eq_true ⟨h, h2⟩
open Classical in
theorem fitsB_F {l : List Ch} {xs ys : List Int} (h : ¬ (chkF l xs.length ys.length = 0 ∧ ∀ s ∈ mtF xs.length 0 0 l, eqAt xs ys s)) : fitsB l xs ys = false := decide_eq_false h
theorem chkF_zero {l : List Ch} {m n : Int} (h : chkF l m n = 0) : inI m ∧ inI n ∧ OkL true 0 0 l m n := by
  unfold chkF at h
  split at h
  · assumption
  · cases h
theorem okP_mem {m n : Int} : ∀ {p : List Sp} {i j : Int}, 0 ≤ i → 0 ≤ j → OkP m n i j p → ∀ s ∈ p, (0 ≤ s.frm ∧ s.frm < m) ∧ 0 ≤ s.to ∧ s.to < n
  | [], _, _, _, _, _, s, hs => by cases hs
  | x :: p, i, j, hi, hj, ⟨⟨a, b, c, d⟩, e⟩, s, hs => by
    rcases List.mem_cons.1 hs with rfl | hs
    · exact ⟨⟨by omega, b⟩, by omega, d⟩
    · exact okP_mem (by omega) (by omega) e s hs
theorem RdV_at {w : World} {A : Option Addr} {n c : Nat} {xs : List Int} (h : RdV w (.slice A n c) (intsV xs)) (k : Nat) (hk : k < xs.length) : ∃ b off, A = some ⟨b, off, none⟩ ∧ w.cell? ⟨b, off + k, none⟩ = some (.int .i64 xs[k]) := by
  obtain ⟨_, b, off, e, hc⟩ := h.at (by rw [intsV_len]; omega)
  have h2 := hc k (by rw [intsV_len]; exact hk)
  exact ⟨b, off, e, by rw [h2]; simp [intsV]⟩
def FtPost (l : List Ch) (xs ys : List Int) (w : World) (e : Ending) (w' : World) : Prop := e = .returned (.bool (fitsB l xs ys)) ∧ Below w.heap.size w w'
end Sc
end
end Go.Proofs.YtlnghfmedkfkmaaGreatDoor
