/-
  Proved: the law SearchRefuses of layer 6 returns true for every input, and its arguments read as before. No conditions.
-/
import Derived.Test.YthoidaaldngpmaaComFrameA
import Derived.Test.YthoidaaldngpmaaSeaReW
namespace Go.Proofs.Ythoidaaldngpmaa
open Go.ChangeShapes Go.WideShapes Go.ChangeAt Go.RowKit
open Go.ChangeMaps (open_string shut_string)
namespace Sq.SearchRefuses
open Cm Au
set_option maxRecDepth 100000 in
theorem lifted (os : Os) (started : os.Started) (H : Type) (enc : TypeId × Value → H) :
    ReturnsInHanded {} Try.checked os 9 .any (Rows.searchRefusesSpec.pre6 enc Try.prog Try.f9 Rows.searchRefusesRow.domain false) (Rows.searchRefusesSpec.post enc Try.prog Try.f9 false true false false) := by
  refine returnsInHanded_of_change (C := Try.checked) own started (by kernel_rfl) Try.func9
    (ChangeSpec.witness6 (enc := enc) (C := Try.checked) false ⟨#[], #[.agg #[.slice none 0 0, .int .i64 0], .string ⟨#[]⟩, .int .i64 0], []⟩ 8 (by kernel_rfl) (by kernel_rfl) (by kernel_rfl) (by kernel_rfl)) ?_
  intro W base args ds gs before hval0 hW _ _
  have hval : ∀ (j : Nat) t v, Try.f9.params[j]? = some t → args[j]? = some v → Value.okWide Try.prog W .any base t v := hval0
  have hW' := hW
  obtain ⟨p, q, hA0, hV, rfl, hfz, hnd⟩ := hW
  have hA : DataW.TrodAll enc Try.prog W 0 (fun _ => true) true Try.f9.params.toList args.toList ds p := hA0
  rw [Try.params9] at hA hval
  obtain ⟨v0, v1, v2, d0, d1, d2, p0, p1, p2, rfl, rfl, rfl, h0, h1, h2⟩ := trodAll_three hA
  obtain ⟨rfl, rfl⟩ := trodVars_none hV
  have k0 := h0
  have lt0 : ∀ x ∈ p0, x.block < W.heap.size := by obtain ⟨m, hm⟩ := k0; exact DataW.trod_lt m _ _ _ hm
  obtain ⟨c0, e0, y0, z0, m0, hv0, _, _, hy0, hz0⟩ := Go.Joins.open_agg2 Try.underlying40 (by kernel_rfl) (show Try.prog.cellsOf 40 = 2 from by kernel_rfl) (hval 0 40 v0 rfl rfl) h0
  subst hv0
  obtain ⟨aT, ez0, _, wz0⟩ := DataW.trod_int Try.underlying3 hz0
  obtain rfl : e0 = .int .i64 aT := by simpa using ez0
  obtain ⟨a, r0, s0, t0⟩ := open_statesV hy0
  obtain ⟨s, rfl, rfl, rfl, ws⟩ := open_string Try.underlying9 (hval 1 9 v1 rfl rfl) h1
  obtain ⟨p, rfl, rfl, rfl, wp⟩ := open_int Try.underlying3 (hval 2 3 v2 rfl rfl) h2
  have bp := bounds_int wp
  clear hA0 hval0
  simp only [List.append_nil] at hW'
  refine (Se.refuses_walk _ a aT s p W r0).mono fun e W' ⟨he, hbel⟩ => ?_
  subst he
  exact ⟨_, rfl, _, _, _, [], _, [], hW', trodAll_mk1 (shut_bool Try.underlying4 _), trodAll_mk3 (Below.trod laidOut (by kernel_rfl) (of_decide_eq_true (by kernel_rfl)) k0 hbel lt0) (shut_string Try.underlying9 ws) (shut_int Try.underlying3 wp), rfl, hbel.frame _, fun h => by cases h⟩
theorem row_holds : Rows.SearchRefusesSaid :=
  OpenClaim.holds_of_wide 9 Try.f9 rfl rfl rfl rfl rfl rfl rfl ⟨rfl, rfl, rfl, rfl, rfl⟩ rfl rfl rfl rfl rfl (by kernel_rfl) Try.func9 (by kernel_rfl)
    (of_decide_eq_true (by kernel_rfl)) (by unfold Func.isWrapper; first | (rw [if_pos (by decide +kernel)]; kernel_rfl) | (rw [if_neg (by decide +kernel)]; exact ⟨rfl, rfl⟩))
    (fun os started H enc _ => lifted os started H enc)
end Sq.SearchRefuses
end Go.Proofs.Ythoidaaldngpmaa
