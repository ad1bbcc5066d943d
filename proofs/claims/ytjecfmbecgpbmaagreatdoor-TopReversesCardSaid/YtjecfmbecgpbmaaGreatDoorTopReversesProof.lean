/-
  Proved: the law TopReverses of the whole returns true for every input, and its arguments read as before. Conditions: the package variables hold what the program's text lays (the card ties that).
-/
import Derived.Test.YtjecfmbecgpbmaaGreatDoorGGStrMd
import Derived.Test.YtjecfmbecgpbmaaGreatDoorStrFrame
import Derived.Test.YtjecfmbecgpbmaaGreatDoorGComFrameI
import Derived.Test.YtjecfmbecgpbmaaGreatDoorCards
import Derived.Test.YtjecfmbecgpbmaaGreatDoorTie
import Derived.SevenTiedAt
namespace Go.Proofs.YtjecfmbecgpbmaaGreatDoor
namespace Cm
end Cm
open Go.ChangeShapes Go.WideShapes Go.ChangeAt Go.RowKit
open Go.ChangeMaps (open_string shut_string)
open Cm
namespace TopReverses
set_option maxRecDepth 100000 in
theorem lifted (os : Os) (started : os.Started) (H : Type) (enc : TypeId × Value → H) :
    ReturnsInHanded {} Tryz.checked os 9 .any (fun w args => (Rows.topReversesSpec.pre enc Tryz.prog Tryz.f9 [] false w args ∧ laidMetH Tryz.prog St.laid5 w) ∧ sizedMet enc Tryz.prog Tryz.f9 (OpenSpec.ofChange Rows.topReversesSpec) false w args)
      (Rows.topReversesSpec.post enc Tryz.prog Tryz.f9 false true false false) := by
  refine returnsInHanded_of_change_and (C := Tryz.checked) (X := fun w _ => laidMetH Tryz.prog St.laid5 w) (fun _ _ _ hh h => h.of_heap hh) Sc.own started (by kernel_rfl) Tryz.func9
    (ChangeSpec.witness_shaped (enc := enc) (C := Tryz.checked) (os := os) (X := fun w _ => laidMetH Tryz.prog St.laid5 w) false (World.laidAll Tryz.prog os St.laid5) #[.string ⟨#[]⟩, .string ⟨#[]⟩, .slice none 0 0, .int .i64 0, .int .i64 0, .int .i64 0, .int .i64 0] 8 (World.laidAll_os _ _ _) (St.shaped os _) (by kernel_rfl) (by kernel_rfl) (by kernel_rfl) (St.door_met os _)) ?_
  intro W base args ds gs before hval0 hW _ _ hL _
  have hval : ∀ (j : Nat) t v, Tryz.f9.params[j]? = some t → args[j]? = some v → Value.okWide Tryz.prog W .any base t v := hval0
  have hW' := hW
  obtain ⟨p, q, hA0, hV, rfl, hfz, hnd⟩ := hW
  have hA : DataW.TrodAll enc Tryz.prog W 0 (fun _ => true) true Tryz.f9.params.toList args.toList ds p := hA0
  rw [Tryz.params9] at hA hval
  obtain ⟨v0, v1, v2, v3, v4, v5, v6, d0, d1, d2, d3, d4, d5, d6, p0, p1, p2, p3, p4, p5, p6, rfl, rfl, rfl, h0, h1, h2, h3, h4, h5, h6⟩ := trodAll_seven hA
  obtain ⟨rfl, rfl⟩ := trodVars_none hV
  obtain ⟨s, rfl, rfl, rfl, ws⟩ := open_string Tryz.underlying9 (hval 0 9 v0 rfl rfl) h0
  obtain ⟨blob, rfl, rfl, rfl, wblob⟩ := open_string Tryz.underlying9 (hval 1 9 v1 rfl rfl) h1
  obtain ⟨A2, n2, c2, rfl⟩ := okWide_slice Tryz.underlying22 (hval 2 22 v2 rfl rfl)
  have k2 := h2
  have lt2 : ∀ x ∈ p2, x.block < W.heap.size := by obtain ⟨m, hm⟩ := k2; exact DataW.trod_lt m _ _ _ hm
  obtain ⟨raw, r2, s2, t2⟩ : ∃ l : List Int, RdV W (.slice A2 n2 c2) (intsV l) ∧ l.length ≤ maxLen ∧ ∀ z ∈ l, -9223372036854775808 ≤ z ∧ z ≤ 9223372036854775807 := by obtain ⟨fuel, hf⟩ := h2; exact open_intsV hf
  obtain ⟨ctx, rfl, rfl, rfl, wctx⟩ := open_int Tryz.underlying3 (hval 3 3 v3 rfl rfl) h3
  have bctx := bounds_int wctx
  obtain ⟨what, rfl, rfl, rfl, wwhat⟩ := open_int Tryz.underlying3 (hval 4 3 v4 rfl rfl) h4
  have bwhat := bounds_int wwhat
  obtain ⟨atv, rfl, rfl, rfl, watv⟩ := open_int Tryz.underlying3 (hval 5 3 v5 rfl rfl) h5
  have batv := bounds_int watv
  obtain ⟨cb, rfl, rfl, rfl, wcb⟩ := open_int Tryz.underlying3 (hval 6 3 v6 rfl rfl) h6
  have bcb := bounds_int wcb
  have hp := St.pow_of_laid hL
  clear hA0 hval0
  simp only [List.append_nil] at hW'
  refine (Pa.reverses_walk s blob (.slice A2 n2 c2) raw ctx what atv cb W r2 s2 t2 bctx bwhat batv bcb hp).mono fun e W' ⟨he, hbel⟩ => ?_
  subst he
  exact ⟨_, rfl, _, _, _, [], _, [], hW', trodAll_mk1 (shut_bool Tryz.underlying4 _), trodAll_mk7 (shut_string Tryz.underlying9 ws) (shut_string Tryz.underlying9 wblob) (Below.trod laidOut (by kernel_rfl) (of_decide_eq_true (by kernel_rfl)) k2 hbel lt2) (shut_int Tryz.underlying3 wctx) (shut_int Tryz.underlying3 wwhat) (shut_int Tryz.underlying3 watv) (shut_int Tryz.underlying3 wcb), rfl, hbel.frame _, fun h => by cases h⟩
theorem row_holds : Rows.TopReversesSaid :=
  OpenClaim.holds_of_wide 9 Tryz.f9 rfl rfl rfl rfl rfl rfl rfl ⟨rfl, rfl, rfl, rfl, rfl⟩ rfl rfl rfl rfl rfl (by kernel_rfl) Tryz.func9 (by kernel_rfl)
    (of_decide_eq_true (by kernel_rfl)) (by unfold Func.isWrapper; first | (rw [if_pos (by decide +kernel)]; kernel_rfl) | (rw [if_neg (by decide +kernel)]; exact ⟨rfl, rfl⟩))
    (fun os started H enc _ => lifted os started H enc)
theorem card_holds : Rows.TopReversesCardSaid :=
  Claim7.holds_tied_plain_at .later [] Rows.topReversesCard.laidKinds true Rows.topReversesCard.stood.harness false
    row_holds (fun _ h => by cases h) (by kernel_rfl) (fun _ h => by cases h) topReverses_row_tie rfl ⟨rfl, rfl⟩ (by kernel_rfl) rfl
    (fun f fn hf hfn => by
      obtain rfl : f = 9 := Option.some.inj ((show Tryz.prog.funcNamed Rows.topReversesRow.func = some 9 by kernel_rfl).symm.trans hf) |>.symm
      obtain rfl : fn = Tryz.f9 := (Option.some.inj (Tryz.func9.symm.trans hfn)).symm
      exact ⟨by kernel_rfl, fun j t ht => by
        have hm : t ∈ Tryz.f9.params.toList := by simpa using Array.mem_of_getElem? ht
        have hall : (Tryz.f9.params.toList.all fun u => !Tryz.prog.wantsStandIn u) = true := by kernel_rfl
        show Tryz.prog.wantsStandIn t = false
        simpa using List.all_eq_true.1 hall t hm⟩)
    (by kernel_rfl)
end TopReverses
end Go.Proofs.YtjecfmbecgpbmaaGreatDoor
