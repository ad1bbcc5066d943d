/-
  Both Inverts. Conditions: as few elements as the laws have.
-/
import Derived.Test.YtlnghfmedkfkmaaGreatDoorScrSpoil
import Derived.Test.YtlnghfmedkfkmaaGreatDoorGScrBase
import Derived.Deep.AppendLies
import Derived.Tactics
import Derived.Tactics2
import Derived.WalkSpells
import Derived.StillTactics
import Derived.OwnWalk
import Derived.Laws.Pointers
namespace Go.Proofs.YtlnghfmedkfkmaaGreatDoor
open Go.RowKit
namespace Sc
open Cm
def zeroC : Ch := ⟨0, 0, 0, 0⟩
/-- The inverse under way. -/
def invP (l : List Ch) (k : Nat) : List Ch := (l.map inv).take k ++ List.replicate (l.length - k) zeroC
theorem invP_len (l : List Ch) {k : Nat} (h : k ≤ l.length) : (invP l k).length = l.length := by
  unfold invP
  rw [List.length_append, List.length_take, List.length_map, List.length_replicate]; omega
theorem invP_step {l : List Ch} {k : Nat} (h : k < l.length) : (invP l k).set k (inv l[k]) = invP l (k + 1) := by
  unfold invP
  have h1 : ((l.map inv).take k).length = k := by rw [List.length_take, List.length_map]; omega
  rw [List.set_append_right _ _ (by omega), h1, Nat.sub_self, show l.length - k = (l.length - (k + 1)) + 1 from by omega, List.replicate_succ, List.set_cons_zero,
    List.take_succ_eq_append_getElem (by rw [List.length_map]; exact h), List.append_assoc, List.getElem_map]
  rfl
theorem invP_all (l : List Ch) : invP l l.length = l.map inv := by
  unfold invP
  rw [Nat.sub_self, List.replicate_zero, List.append_nil, List.take_of_length_le (by rw [List.length_map]; exact Nat.le_refl _)]
theorem flat_rep : ∀ n : Nat, flatK chC (List.replicate n zeroC) = List.replicate (n * 4) (.int .i64 0)
  | 0 => rfl
  | n + 1 => by
    show chC zeroC ++ flatK chC (List.replicate n zeroC) = _
    rw [flat_rep n, Nat.succ_mul, Nat.add_comm, ← List.replicate_append_replicate]
    rfl
theorem toList_zeros (n : Nat) : (madeCells (Value.cells zeroCh) (n * 4)).toList = List.replicate (n * 4) (.int .i64 0) := by
  apply List.ext_getElem?
  intro j
  by_cases hj : j < n * 4
  · have h4 : j % 4 = 0 ∨ j % 4 = 1 ∨ j % 4 = 2 ∨ j % 4 = 3 := by omega
    have e : (madeCells (Value.cells zeroCh) (n * 4)).toList[j]? = some (.int .i64 0) := by
      rcases h4 with h | h | h | h <;> simp [madeCells, hj, h, Value.cells]
    rw [e]; simp [hj]
  · simp [madeCells, hj]
theorem OwnC.put4 {base g N c : Nat} {w : World} {l : List Ch} (h : OwnC base w (.slice (some ⟨g, 0, none⟩) N c) l) (k : Nat) (hk : k < l.length) (y : Ch) :
    OwnC base ((((w.setCell ⟨g, k * 4, none⟩ (.int .i64 y.old)).setCell ⟨g, k * 4 + 1, none⟩ (.int .i64 y.oldLen)).setCell ⟨g, k * 4 + 2, none⟩ (.int .i64 y.new)).setCell ⟨g, k * 4 + 3, none⟩ (.int .i64 y.newLen)) (.slice (some ⟨g, 0, none⟩) N c) (l.set k y) := by
  have h1 := h.put k hk 0 (by omega) (.int .i64 y.old) ⟨y.old, l[k].oldLen, l[k].new, l[k].newLen⟩ rfl
  have h2 := h1.put k (by rw [List.length_set]; exact hk) 1 (by omega) (.int .i64 y.oldLen) ⟨y.old, y.oldLen, l[k].new, l[k].newLen⟩ (by rw [List.getElem_set_self]; rfl)
  have h3 := h2.put k (by rw [List.length_set, List.length_set]; exact hk) 2 (by omega) (.int .i64 y.new) ⟨y.old, y.oldLen, y.new, l[k].newLen⟩ (by rw [List.getElem_set_self]; rfl)
  have h4 := h3.put k (by rw [List.length_set, List.length_set, List.length_set]; exact hk) 3 (by omega) (.int .i64 y.newLen) y (by rw [List.getElem_set_self]; rfl)
  rw [List.set_set, List.set_set, List.set_set] at h4
  exact h4
end Sc
end Go.Proofs.YtlnghfmedkfkmaaGreatDoor
