/-
  Proved: the law PatchRestores of layer 14 returns true for every input, and its arguments read as before. Conditions: the package variables hold what the program's text lays (the card ties that).
-/
import Derived.Test.YtjecfmbecgpbmaaGreatDoorGGStrMd
import Derived.Test.YtjecfmbecgpbmaaGreatDoorScanFrame
import Derived.Test.YtjecfmbecgpbmaaGreatDoorGComFrameI
import Derived.Test.YtjecfmbecgpbmaaGreatDoorCards
import Derived.Test.YtjecfmbecgpbmaaGreatDoorTie
import Derived.SevenTiedAt
namespace Go.Proofs.YtjecfmbecgpbmaaGreatDoor
namespace Cm
end Cm
open Go.ChangeShapes Go.WideShapes Go.ChangeAt Go.RowKit
open Go.ChangeMaps (open_string shut_string)
open Cm
namespace PatchRestores
set_option maxRecDepth 100000 in
theorem lifted (os : Os) (started : os.Started) (H : Type) (enc : TypeId × Value → H) :
    ReturnsInHanded {} Tryz.checked os 5 .any (fun w args => (Rows.patchRestoresSpec.pre enc Tryz.prog Tryz.f5 [] false w args ∧ laidMetH Tryz.prog Sc.laid3 w) ∧ sizedMet enc Tryz.prog Tryz.f5 (OpenSpec.ofChange Rows.patchRestoresSpec) false w args)
      (Rows.patchRestoresSpec.post enc Tryz.prog Tryz.f5 false true false false) := by
  refine returnsInHanded_of_change_and (C := Tryz.checked) (X := fun w _ => laidMetH Tryz.prog Sc.laid3 w) (fun _ _ _ hh h => h.of_heap hh) Sc.own started (by kernel_rfl) Tryz.func5
    (ChangeSpec.witness_shaped (enc := enc) (C := Tryz.checked) (os := os) (X := fun w _ => laidMetH Tryz.prog Sc.laid3 w) false (World.doorLaid Tryz.prog 600 os) #[.slice none 0 0, .int .i64 0, .int .i64 0, .int .i64 0] 8 rfl (World.shaped_of_RefB (by kernel_rfl) (by kernel_rfl)) (by kernel_rfl) (by kernel_rfl) (by kernel_rfl) (Sc.door_met os _)) ?_
  intro W base args ds gs before hval0 hW _ _ hL _
  have hval : ∀ (j : Nat) t v, Tryz.f5.params[j]? = some t → args[j]? = some v → Value.okWide Tryz.prog W .any base t v := hval0
  have hW' := hW
  obtain ⟨p, q, hA0, hV, rfl, hfz, hnd⟩ := hW
  have hA : DataW.TrodAll enc Tryz.prog W 0 (fun _ => true) true Tryz.f5.params.toList args.toList ds p := hA0
  rw [Tryz.params5] at hA hval
  obtain ⟨v0, v1, v2, v3, d0, d1, d2, d3, p0, p1, p2, p3, rfl, rfl, rfl, h0, h1, h2, h3⟩ := trodAll_four hA
  obtain ⟨rfl, rfl⟩ := trodVars_none hV
  obtain ⟨A0, n0, c0, rfl⟩ := okWide_slice Tryz.underlying22 (hval 0 22 v0 rfl rfl)
  have k0 := h0
  have lt0 : ∀ x ∈ p0, x.block < W.heap.size := by obtain ⟨m, hm⟩ := k0; exact DataW.trod_lt m _ _ _ hm
  obtain ⟨raw, r0, s0, t0⟩ : ∃ l : List Int, RdV W (.slice A0 n0 c0) (intsV l) ∧ l.length ≤ maxLen ∧ ∀ z ∈ l, -9223372036854775808 ≤ z ∧ z ≤ 9223372036854775807 := by obtain ⟨fuel, hf⟩ := h0; exact open_intsV hf
  obtain ⟨ctx, rfl, rfl, rfl, wctx⟩ := open_int Tryz.underlying3 (hval 1 3 v1 rfl rfl) h1
  have bctx := bounds_int wctx
  obtain ⟨what, rfl, rfl, rfl, wwhat⟩ := open_int Tryz.underlying3 (hval 2 3 v2 rfl rfl) h2
  have bwhat := bounds_int wwhat
  obtain ⟨atv, rfl, rfl, rfl, watv⟩ := open_int Tryz.underlying3 (hval 3 3 v3 rfl rfl) h3
  have batv := bounds_int watv
  have hp := Sc.pow_of_laid hL
  clear hA0 hval0
  simp only [List.append_nil] at hW'
  refine (Pa.restores_walk (.slice A0 n0 c0) raw ctx what atv W r0 s0 t0 bctx bwhat batv hp).mono fun e W' ⟨he, hbel⟩ => ?_
  subst he
  exact ⟨_, rfl, _, _, _, [], _, [], hW', trodAll_mk1 (shut_bool Tryz.underlying4 _), trodAll_mk4 (Below.trod laidOut (by kernel_rfl) (of_decide_eq_true (by kernel_rfl)) k0 hbel lt0) (shut_int Tryz.underlying3 wctx) (shut_int Tryz.underlying3 wwhat) (shut_int Tryz.underlying3 watv), rfl, hbel.frame _, fun h => by cases h⟩
theorem row_holds : Rows.PatchRestoresSaid :=
  OpenClaim.holds_of_wide 5 Tryz.f5 rfl rfl rfl rfl rfl rfl rfl ⟨rfl, rfl, rfl, rfl, rfl⟩ rfl rfl rfl rfl rfl (by kernel_rfl) Tryz.func5 (by kernel_rfl)
    (of_decide_eq_true (by kernel_rfl)) (by unfold Func.isWrapper; first | (rw [if_pos (by decide +kernel)]; kernel_rfl) | (rw [if_neg (by decide +kernel)]; exact ⟨rfl, rfl⟩))
    (fun os started H enc _ => lifted os started H enc)
theorem card_holds : Rows.PatchRestoresCardSaid :=
  Claim7.holds_tied_plain_at .later [] Rows.patchRestoresCard.laidKinds true Rows.patchRestoresCard.stood.harness false
    row_holds (fun _ h => by cases h) (by kernel_rfl) (fun _ h => by cases h) patchRestores_row_tie rfl ⟨rfl, rfl⟩ (by kernel_rfl) rfl
    (fun f fn hf hfn => by
      obtain rfl : f = 5 := Option.some.inj ((show Tryz.prog.funcNamed Rows.patchRestoresRow.func = some 5 by kernel_rfl).symm.trans hf) |>.symm
      obtain rfl : fn = Tryz.f5 := (Option.some.inj (Tryz.func5.symm.trans hfn)).symm
      exact ⟨by kernel_rfl, fun j t ht => by
        have hm : t ∈ Tryz.f5.params.toList := by simpa using Array.mem_of_getElem? ht
        have hall : (Tryz.f5.params.toList.all fun u => !Tryz.prog.wantsStandIn u) = true := by kernel_rfl
        show Tryz.prog.wantsStandIn t = false
        simpa using List.all_eq_true.1 hall t hm⟩)
    (by kernel_rfl)
end PatchRestores
end Go.Proofs.YtjecfmbecgpbmaaGreatDoor
