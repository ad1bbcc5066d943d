/-
  Proved: the law PatchWritten of layer 14 returns true for every input, and its arguments read as before. Conditions: the package variables hold what the program's text lays (the card ties that).
-/
import Derived.Test.YtjecfmbecgpbmaaGreatDoorGGStrMd
import Derived.Test.YtjecfmbecgpbmaaGreatDoorStrFrame
import Derived.Test.YtjecfmbecgpbmaaGreatDoorGComFrameI
import Derived.Test.YtjecfmbecgpbmaaGreatDoorCards
import Derived.Test.YtjecfmbecgpbmaaGreatDoorTie
import Derived.SevenTiedAt
namespace Go.Proofs.YtjecfmbecgpbmaaGreatDoor
namespace Cm
end Cm
open Go.ChangeShapes Go.WideShapes Go.ChangeAt Go.RowKit
open Go.ChangeMaps (open_string shut_string)
open Cm
namespace PatchWritten
set_option maxRecDepth 100000 in
theorem lifted (os : Os) (started : os.Started) (H : Type) (enc : TypeId × Value → H) :
 ReturnsInHanded {} Tryz.checked os 7 .any (fun w args => (Rows.patchWrittenSpec.pre enc Tryz.prog Tryz.f7 [] false w args ∧ laidMetH Tryz.prog St.laid5 w) ∧ sizedMet enc Tryz.prog Tryz.f7 (OpenSpec.ofChange Rows.patchWrittenSpec) false w args)
  (Rows.patchWrittenSpec.post enc Tryz.prog Tryz.f7 false true false false) := by
 refine returnsInHanded_of_change_and (C := Tryz.checked) (X := fun w _ => laidMetH Tryz.prog St.laid5 w) (fun _ _ _ hh h => h.of_heap hh) Sc.own started (by kernel_rfl) Tryz.func7
  (ChangeSpec.witness_shaped (enc := enc) (C := Tryz.checked) (os := os) (X := fun w _ => laidMetH Tryz.prog St.laid5 w) false (World.laidAll Tryz.prog os St.laid5) #[.slice none 0 0, .int .i64 0] 8 (World.laidAll_os _ _ _) (St.shaped os _) (by kernel_rfl) (by kernel_rfl) (by kernel_rfl) (St.door_met os _)) ?_
 intro W base args ds gs before hval0 hW _ _ hL _
 have hval : ∀ (j : Nat) t v, Tryz.f7.params[j]? = some t → args[j]? = some v → Value.okWide Tryz.prog W .any base t v := hval0
 have hW' := hW
 obtain ⟨p, q, hA0, hV, rfl, hfz, hnd⟩ := hW
 have hA : DataW.TrodAll enc Tryz.prog W 0 (fun _ => true) true Tryz.f7.params.toList args.toList ds p := hA0
 rw [Tryz.params7] at hA hval
 obtain ⟨v0, v1, d0, d1, p0, p1, rfl, rfl, rfl, h0, h1⟩ := trodAll_two hA
 obtain ⟨rfl, rfl⟩ := trodVars_none hV
 obtain ⟨A0, n0, c0, rfl⟩ := okWide_slice Tryz.underlying22 (hval 0 22 v0 rfl rfl)
 have k0 := h0
 have lt0 : ∀ x ∈ p0, x.block < W.heap.size := by obtain ⟨m, hm⟩ := k0; exact DataW.trod_lt m _ _ _ hm
 obtain ⟨raw, r0, s0, t0⟩ : ∃ l : List Int, RdV W (.slice A0 n0 c0) (intsV l) ∧ l.length ≤ maxLen ∧ ∀ z ∈ l, -9223372036854775808 ≤ z ∧ z ≤ 9223372036854775807 := by obtain ⟨fuel, hf⟩ := h0; exact open_intsV hf
 obtain ⟨ctx, rfl, rfl, rfl, wctx⟩ := open_int Tryz.underlying3 (hval 1 3 v1 rfl rfl) h1
 have bctx := bounds_int wctx
 have hp := St.pow_of_laid hL
 clear hA0 hval0
 simp only [List.append_nil] at hW'
 refine (Pa.written_walk (.slice A0 n0 c0) raw ctx W r0 s0 t0 bctx.1 bctx.2 hp).mono fun e W' ⟨he, hbel⟩ => ?_
 subst he
 exact ⟨_, rfl, _, _, _, [], _, [], hW', trodAll_mk1 (shut_bool Tryz.underlying4 _), trodAll_mk2 (Below.trod laidOut (by kernel_rfl) (of_decide_eq_true (by kernel_rfl)) k0 hbel lt0) (shut_int Tryz.underlying3 wctx), rfl, hbel.frame _, fun h => by cases h⟩
theorem row_holds : Rows.PatchWrittenSaid :=
 OpenClaim.holds_of_wide 7 Tryz.f7 rfl rfl rfl rfl rfl rfl rfl ⟨rfl, rfl, rfl, rfl, rfl⟩ rfl rfl rfl rfl rfl (by kernel_rfl) Tryz.func7 (by kernel_rfl)
  (of_decide_eq_true (by kernel_rfl)) (by unfold Func.isWrapper; first | (rw [if_pos (by decide +kernel)]; kernel_rfl) | (rw [if_neg (by decide +kernel)]; exact ⟨rfl, rfl⟩))
  (fun os started H enc _ => lifted os started H enc)
theorem card_holds : Rows.PatchWrittenCardSaid :=
 Claim7.holds_tied_plain_at .later [] Rows.patchWrittenCard.laidKinds true Rows.patchWrittenCard.stood.harness false
  row_holds (fun _ h => by cases h) (by kernel_rfl) (fun _ h => by cases h) patchWritten_row_tie rfl ⟨rfl, rfl⟩ (by kernel_rfl) rfl
  (fun f fn hf hfn => by
   obtain rfl : f = 7 := Option.some.inj ((show Tryz.prog.funcNamed Rows.patchWrittenRow.func = some 7 by kernel_rfl).symm.trans hf) |>.symm
   obtain rfl : fn = Tryz.f7 := (Option.some.inj (Tryz.func7.symm.trans hfn)).symm
   exact ⟨by kernel_rfl, fun j t ht => by
    have hm : t ∈ Tryz.f7.params.toList := by simpa using Array.mem_of_getElem? ht
    have hall : (Tryz.f7.params.toList.all fun u => !Tryz.prog.wantsStandIn u) = true := by kernel_rfl
    show Tryz.prog.wantsStandIn t = false
    simpa using List.all_eq_true.1 hall t hm⟩)
  (by kernel_rfl)
end PatchWritten
end Go.Proofs.YtjecfmbecgpbmaaGreatDoor
