/-
  A slice of slices that the call owns, of whatever element types. No conditions.
-/
import Derived.Test.YthfadfennkkkjaaComGen
namespace Go.Proofs.Ythfadfennkkkjaa
open Go.RowKit
namespace Cm
theorem info_strs : (Try.prog.info? 26).map (fun i => (i.zero, i.size, i.bytes)) = some (some (.slice none 0 0), 1, 24) := by kernel_rfl
/-- The outer elements are of type t, the inner ones of type e. -/
def OwnG (e t : TypeId) (w : World) (base : Nat) (v : Value) (uss : List (List Value)) : Prop :=
  ∃ us : List Value, us.length = uss.length ∧ w.ownsRow base t 1 v us.length us ∧ ∀ j (h1 : j < us.length) (h2 : j < uss.length), w.ownsRow base e 1 us[j] uss[j].length uss[j]
section
variable {e t : TypeId} {w : World} {B : Nat} {v : Value} {uss : List (List Value)}
theorem OwnG.nil (w : World) (B : Nat) : OwnG e t w B (.slice none 0 0) [] := ⟨[], rfl, World.ownsRow_nil _ _ _ _, fun _ h => absurd h (Nat.not_lt_zero _)⟩
theorem OwnG.empty (w : World) : OwnG e t (w.alloc (.cells #[] t)) w.heap.size (.slice (some ⟨w.heap.size, 0, none⟩) 0 0) [] := ⟨[], rfl, own_empty w t, fun _ h => absurd h (Nat.not_lt_zero _)⟩
theorem OwnG.below {w' : World} (h : OwnG e t w B v uss) (hb : Below w.heap.size w w') : OwnG e t w' B v uss := by
  obtain ⟨us, h1, h2, h3⟩ := h
  exact ⟨us, h1, own_below h2 hb, fun j a b => own_below (h3 j a b) hb⟩
theorem OwnG.form (h : OwnG e t w B v uss) : ∃ A c, v = .slice A uss.length c := by
  obtain ⟨us, h1, h2, _⟩ := h
  rw [← h1]; exact own_form h2
theorem OwnG.rd (h : OwnG e t w B v uss) : RdLL w v uss := by
  obtain ⟨us, h1, h2, h3⟩ := h
  exact ⟨us, RdV.of_own h2, h1, fun j a b => RdV.of_own (h3 j a b)⟩
theorem OwnG.base {base' : Nat} (h : OwnG e t w B v uss) (hb : base' ≤ B) : OwnG e t w base' v uss := by
  obtain ⟨us, h1, h2, h3⟩ := h
  exact ⟨us, h1, own_base h2 hb, fun j a b => own_base (h3 j a b) hb⟩
/-- What is to be known of the slice for an append onto it. -/
theorem OwnG.out (h : OwnG e t w B v uss) (hne : e ≠ t) : ∃ us : List Value, us.length = uss.length ∧ w.ownsRow B t 1 v uss.length us ∧
    (∀ (u : Value) (l : List Value) (C : Array Value) (v' : Value) (w' : World), w.ownsRow B e 1 u l.length l → w'.ownsRow B t 1 v' (uss.length + 1) (us ++ [u]) → (w.alloc (.cells C t)).grownBy w' v.ownBlock → OwnG e t w' B v' (uss ++ [l])) := by
  obtain ⟨us, h1, h2, h3⟩ := h
  refine ⟨us, h1, by rw [← h1]; exact h2, fun u l C v' w' hu hv hg => ⟨us ++ [u], by simp [h1], by rw [List.length_append, h1]; exact hv, fun j a b => ?_⟩⟩
  have hv0 := (h2.alloc (.cells C t))
  by_cases hj : j < us.length
  · rw [List.getElem_append_left hj]
    have e : (uss ++ [l])[j] = uss[j]'(by omega) := List.getElem_append_left (by omega)
    rw [e]
    have hr := (h3 j hj (by omega)).alloc (.cells C t)
    exact hr.kept hg (own_ne hr hv0 hne)
  · have hj2 : j = us.length := by rw [List.length_append, List.length_singleton] at a; omega
    subst hj2
    have e1 : (us ++ [u])[us.length] = u := by simp
    have e2 : (uss ++ [l])[us.length] = l := by simp [h1]
    rw [e1, e2]
    have hr := hu.alloc (.cells C t)
    exact hr.kept hg (own_ne hr hv0 hne)
end
end Cm
end Go.Proofs.Ythfadfennkkkjaa
