/-
  Proved: the law LostProjects of layer 15 returns true for every input, and its arguments read as before. No conditions.
-/
import Derived.Test.YtechabkmepejaaaLosFrame
import Derived.Test.YtechabkmepejaaaLosPr
namespace Go.Proofs.Ytechabkmepejaaa
open Go.ChangeShapes Go.WideShapes Go.ChangeAt Go.RowKit
namespace Lo.LostProjects
open Cm Lo
set_option maxRecDepth 100000 in
theorem lifted (os : Os) (started : os.Started) (H : Type) (enc : TypeId × Value → H) :
    ReturnsInHanded {} Try.checked os 4 .any (Rows.lostProjectsSpec.pre6 enc Try.prog Try.f4 Rows.lostProjectsRow.domain false) (Rows.lostProjectsSpec.post enc Try.prog Try.f4 false true false false) := by
  refine returnsInHanded_of_change (C := Try.checked) own started (by kernel_rfl) Try.func4
    (ChangeSpec.witness6 (enc := enc) (C := Try.checked) false ⟨#[], #[.slice none 0 0, .int .i64 0], []⟩ 8 (by kernel_rfl) (by kernel_rfl) (by kernel_rfl) (by kernel_rfl)) ?_
  intro W base args ds gs before hval0 hW _ _
  have hval : ∀ (j : Nat) t v, Try.f4.params[j]? = some t → args[j]? = some v → Value.okWide Try.prog W .any base t v := hval0
  have hW' := hW
  obtain ⟨p, q, hA0, hV, rfl, hfz, hnd⟩ := hW
  have hA : DataW.TrodAll enc Try.prog W 0 (fun _ => true) true Try.f4.params.toList args.toList ds p := hA0
  rw [Try.params4] at hA hval
  obtain ⟨v0, v1, d0, d1, p0, p1, rfl, rfl, rfl, h0, h1⟩ := trodAll_two hA
  obtain ⟨rfl, rfl⟩ := trodVars_none hV
  obtain ⟨A0, n0, c0, rfl⟩ := okWide_slice Try.underlying25 (hval 0 25 v0 rfl rfl)
  have k0 := h0
  have lt0 : ∀ x ∈ p0, x.block < W.heap.size := by obtain ⟨m, hm⟩ := k0; exact DataW.trod_lt m _ _ _ hm
  obtain ⟨l, r0, s0, t0⟩ : ∃ l : List Mg, RdM W (.slice A0 n0 c0) l ∧ l.length ≤ maxLen ∧ ∀ m ∈ l, MgB m := by obtain ⟨fuel, hf⟩ := h0; exact open_mergedV hf
  obtain ⟨q, rfl, rfl, rfl, wq⟩ := open_int Try.underlying3 (hval 1 3 v1 rfl rfl) h1
  have bq := bounds_int wq
  clear hA0 hval0
  simp only [List.append_nil] at hW'
  refine (Lo.projects_walk (.slice A0 n0 c0) l q W r0 s0 t0 bq).mono fun e W' ⟨he, hbel⟩ => ?_
  subst he
  exact ⟨_, rfl, _, _, _, [], _, [], hW', trodAll_mk1 (shut_bool Try.underlying4 _), trodAll_mk2 (Below.trod laidOut (by kernel_rfl) (of_decide_eq_true (by kernel_rfl)) k0 hbel lt0) (shut_int Try.underlying3 wq), rfl, hbel.frame _, fun h => by cases h⟩
theorem row_holds : Rows.LostProjectsSaid :=
  OpenClaim.holds_of_wide 4 Try.f4 rfl rfl rfl rfl rfl rfl rfl ⟨rfl, rfl, rfl, rfl, rfl⟩ rfl rfl rfl rfl rfl (by kernel_rfl) Try.func4 (by kernel_rfl)
    (of_decide_eq_true (by kernel_rfl)) (by unfold Func.isWrapper; first | (rw [if_pos (by decide +kernel)]; kernel_rfl) | (rw [if_neg (by decide +kernel)]; exact ⟨rfl, rfl⟩))
    (fun os started H enc _ => lifted os started H enc)
end Lo.LostProjects
end Go.Proofs.Ytechabkmepejaaa
