/-
  A slice of slices of ints that the call owns. No conditions.
-/
import Derived.Test.YtechabkmepejaaaComGen
namespace Go.Proofs.Ytechabkmepejaaa
open Go.RowKit
namespace Cm
theorem info_int : (Try.prog.info? 3).map (fun i => (i.zero, i.size, i.bytes)) = some (some (.int .i64 0), 1, 8) := by kernel_rfl
theorem info_ints : (Try.prog.info? 22).map (fun i => (i.zero, i.size, i.bytes)) = some (some (.slice none 0 0), 1, 24) := by kernel_rfl
def OwnLL (w : World) (base : Nat) (v : Value) (lss : List (List Int)) : Prop :=
  ∃ us : List Value, us.length = lss.length ∧ w.ownsRow base 22 1 v us.length us ∧ ∀ j (h1 : j < us.length) (h2 : j < lss.length), w.ownsRow base 3 1 us[j] lss[j].length (intsV lss[j])
theorem OwnLL.nil (w : World) (base : Nat) : OwnLL w base (.slice none 0 0) [] := ⟨[], rfl, World.ownsRow_nil _ _ _ _, fun _ h => absurd h (Nat.not_lt_zero _)⟩
theorem OwnLL.below {w w' : World} {base : Nat} {v : Value} {lss : List (List Int)} (h : OwnLL w base v lss) (hb : Below w.heap.size w w') : OwnLL w' base v lss := by
  obtain ⟨us, h1, h2, h3⟩ := h
  exact ⟨us, h1, own_below h2 hb, fun j a b => own_below (h3 j a b) hb⟩
theorem OwnLL.form {w : World} {base : Nat} {v : Value} {lss : List (List Int)} (h : OwnLL w base v lss) : ∃ A c, v = .slice A lss.length c := by
  obtain ⟨us, h1, h2, _⟩ := h
  rw [← h1]; exact own_form h2
theorem OwnLL.rd {w : World} {base : Nat} {v : Value} {lss : List (List Int)} (h : OwnLL w base v lss) : RdLL w v (lss.map intsV) := by
  obtain ⟨us, h1, h2, h3⟩ := h
  refine ⟨us, RdV.of_own h2, by rw [List.length_map]; exact h1, fun j a b => ?_⟩
  rw [List.getElem_map]
  refine RdV.of_own (n := (lss[j]'(by omega)).length) (e := 3) (base := base) ?_
  exact h3 j a (by omega)
theorem OwnLL.base {w : World} {base base' : Nat} {v : Value} {lss : List (List Int)} (h : OwnLL w base v lss) (hb : base' ≤ base) : OwnLL w base' v lss := by
  obtain ⟨us, h1, h2, h3⟩ := h
  exact ⟨us, h1, own_base h2 hb, fun j a b => own_base (h3 j a b) hb⟩
/-- What is to be known of the slice for an append onto it. -/
theorem OwnLL.out {w : World} {base : Nat} {v : Value} {lss : List (List Int)} (h : OwnLL w base v lss) : ∃ us : List Value, us.length = lss.length ∧ w.ownsRow base 22 1 v lss.length us ∧
    (∀ (u : Value) (l : List Int) (C : Array Value) (v' : Value) (w' : World), w.ownsRow base 3 1 u l.length (intsV l) → w'.ownsRow base 22 1 v' (lss.length + 1) (us ++ [u]) → (w.alloc (.cells C 22)).grownBy w' v.ownBlock → OwnLL w' base v' (lss ++ [l])) := by
  obtain ⟨us, h1, h2, h3⟩ := h
  refine ⟨us, h1, by rw [← h1]; exact h2, fun u l C v' w' hu hv hg => ⟨us ++ [u], by simp [h1], by rw [List.length_append, h1]; exact hv, fun j a b => ?_⟩⟩
  have hv0 := (h2.alloc (.cells C 22))
  by_cases hj : j < us.length
  · rw [List.getElem_append_left hj]
    have e : (lss ++ [l])[j] = lss[j]'(by omega) := List.getElem_append_left (by omega)
    rw [e]
    have hr := (h3 j hj (by omega)).alloc (.cells C 22)
    exact hr.kept hg (own_ne hr hv0 (by decide))
  · have hj2 : j = us.length := by rw [List.length_append, List.length_singleton] at a; omega
    subst hj2
    have e1 : (us ++ [u])[us.length] = u := by simp
    have e2 : (lss ++ [l])[us.length] = l := by simp [h1]
    rw [e1, e2]
    have hr := hu.alloc (.cells C 22)
    exact hr.kept hg (own_ne hr hv0 (by decide))
end Cm
end Go.Proofs.Ytechabkmepejaaa
