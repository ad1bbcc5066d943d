/-
  Proved: the law PatchAny of layer 14 returns true, and its arguments read as before, wherever the arguments together hold at most 1048576 values and letters (the second form of the statement). Conditions: that bound; the package variables hold what the program's text lays (the card ties that).
-/
import Derived.Test.YtjecfmbecgpbmaaGreatDoorGGStrMd
import Derived.Test.YtjecfmbecgpbmaaGreatDoorGComFrameI
import Derived.Test.YtjecfmbecgpbmaaGreatDoorUniFrm
import Derived.Test.YtjecfmbecgpbmaaGreatDoorScanFrame
import Derived.Test.YtjecfmbecgpbmaaGreatDoorCards
import Derived.Test.YtjecfmbecgpbmaaGreatDoorTie
import Derived.SevenTiedAt
import Derived.Deep.DeepHandedRow
namespace Go.Proofs.YtjecfmbecgpbmaaGreatDoor
namespace Cm
end Cm
open Go.ChangeShapes Go.WideShapes Go.ChangeAt Go.RowKit
open Go.ChangeMaps (open_string shut_string)
open Cm
namespace PatchAny
abbrev wargs : Array Value := #[.agg #[.string ⟨#[]⟩, .string ⟨#[]⟩, .slice none 0 0], .string ⟨#[]⟩, .slice none 0 0, .int .i64 0, .int .i64 0, .int .i64 0]
theorem reads (os : Os) {H : Type} (enc : TypeId × Value → H) : ∃ places, DataW.whole enc Tryz.prog ((World.doorLaid Tryz.prog 600 os).forCall (fun _ _ => 0) ⟨#[], wargs, []⟩).memory Tryz.f4.params.toList Rows.patchAnySpec.vars false wargs.toList 8 =
    some ([.agg [.lit (.string []), .lit (.string []), .nil], .lit (.string []), .nil, .lit (.int .i64 0), .lit (.int .i64 0), .lit (.int .i64 0)], [], places) := ⟨[], by kernel_rfl⟩
set_option maxRecDepth 100000 in
theorem lifted (os : Os) (started : os.Started) (H : Type) (enc : TypeId × Value → H) (F : Stop.Interp) :
    ReturnsInHanded {} Tryz.checked os 4 .any ((Rows.OpenSpec.upto Rows.patchAnySpec).preRow enc Tryz.prog Tryz.f4 Rows.patchAnyUptoRow.domain false Rows.patchAnyUptoRow.laid) (((Rows.OpenSpec.upto Rows.patchAnySpec).at F).post enc Tryz.prog Tryz.f4 false true false false) := by
  obtain ⟨places, hx⟩ := reads os enc
  have hokB : Input.okWideB Tryz.prog ((World.doorLaid Tryz.prog 600 os).forCall (fun _ _ => 0) ⟨#[], wargs, []⟩) 4 ⟨#[], wargs, []⟩ = true := by kernel_rfl
  refine returnsInHanded_of_row (C := Tryz.checked) (s := Rows.OpenSpec.upto Rows.patchAnySpec) Sc.own started (by kernel_rfl) Tryz.func4
    ⟨World.doorLaid Tryz.prog 600 os, fun _ _ => 0, ⟨#[], wargs, []⟩, rfl, World.shaped_of_RefB (by kernel_rfl) (by kernel_rfl), (Input.okWide_of_okWideB (base := 0) hokB).1, (Input.okWide_of_okWideB hokB).2,
      OpenSpec.preRow_of_cond 8 hx (by kernel_rfl) (fun k hk => by cases hk; kernel_rfl) (by kernel_rfl) (Sc.door_met os _), by
        simp only [Assume.holds]
        exact ⟨by simp, by simp, fun _ => Modest.zero, by simp, by simp⟩⟩ ?_
  intro W base args ds gs before hval0 hW _ hk _ hL _ _
  have hval : ∀ (j : Nat) t v, Tryz.f4.params[j]? = some t → args[j]? = some v → Value.okWide Tryz.prog W .any base t v := hval0
  have hW' := hW
  obtain ⟨p, q, hA0, hV, rfl, hfz, hnd⟩ := hW
  have hA : DataW.TrodAll enc Tryz.prog W 0 (fun _ => true) true Tryz.f4.params.toList args.toList ds p := hA0
  rw [Tryz.params4] at hA hval
  obtain ⟨v0, v1, v2, v3, v4, v5, d0, d1, d2, d3, d4, d5, p0, p1, p2, p3, p4, p5, rfl, rfl, rfl, h0, h1, h2, h3, h4, h5⟩ := trodAll_six hA
  obtain ⟨rfl, rfl⟩ := trodVars_none hV
  have k0 := h0
  have lt0 : ∀ x ∈ p0, x.block < W.heap.size := by obtain ⟨m, hm⟩ := k0; exact DataW.trod_lt m _ _ _ hm
  obtain ⟨s0, s1, u2, y0, y1, y2, n, rfl, rfl, -, g0, g1, g2⟩ := Go.Joins.open_agg3 Tryz.underlying26 (by kernel_rfl) (show Tryz.prog.cellsOf 26 = 3 from by kernel_rfl) (hval 0 26 v0 rfl rfl) h0
  have f0 : DataW.trod enc Tryz.prog W 0 (fun _ => true) true n 9 [s0] = some y0 := g0
  have f1 : DataW.trod enc Tryz.prog W 0 (fun _ => true) true n 9 [s1] = some y1 := g1
  have f2 : DataW.trod enc Tryz.prog W 0 (fun _ => true) true n 24 [u2] = some y2 := g2
  obtain ⟨on, e0, -, z0⟩ := DataW.trod_string Tryz.underlying9 f0
  obtain ⟨nn, e1, -, z1⟩ := DataW.trod_string Tryz.underlying9 f1
  obtain rfl : s0 = .string on := by simpa using e0
  obtain rfl : s1 = .string nn := by simpa using e1
  obtain ⟨hs, hr, hl, hpos, hts⟩ := St.open_phs f2
  have hbk := of_decide_eq_true (hk _ rfl)
  simp only [List.append_nil, Rows.uptoBulkAll, Rows.uptoBulk] at hbk
  obtain ⟨A, c, rfl⟩ := hr.form
  obtain ⟨s, rfl, rfl, rfl, ws⟩ := open_string Tryz.underlying9 (hval 1 9 v1 rfl rfl) h1
  obtain ⟨A1, n1, c1, rfl⟩ := okWide_slice Tryz.underlying22 (hval 2 22 v2 rfl rfl)
  have k1 := h2
  have lt1 : ∀ x ∈ p2, x.block < W.heap.size := by obtain ⟨m, hm⟩ := k1; exact DataW.trod_lt m _ _ _ hm
  obtain ⟨raw, r1, s1', t1⟩ : ∃ l : List Int, RdV W (.slice A1 n1 c1) (intsV l) ∧ l.length ≤ maxLen ∧ ∀ z ∈ l, -9223372036854775808 ≤ z ∧ z ≤ 9223372036854775807 := by obtain ⟨fuel, hf⟩ := h2; exact open_intsV hf
  obtain ⟨ctx, rfl, rfl, rfl, wctx⟩ := open_int Tryz.underlying3 (hval 3 3 v3 rfl rfl) h3
  have bctx := bounds_int wctx
  obtain ⟨what, rfl, rfl, rfl, wwhat⟩ := open_int Tryz.underlying3 (hval 4 3 v4 rfl rfl) h4
  have bwhat := bounds_int wwhat
  obtain ⟨atv, rfl, rfl, rfl, watv⟩ := open_int Tryz.underlying3 (hval 5 3 v5 rfl rfl) h5
  have batv := bounds_int watv
  have hp := Sc.pow_of_laid hL
  have hts2 : St.tS hs ≤ 1100000 := by omega
  clear hA0 hval0 hbk hts
  simp only [List.append_nil] at hW'
  refine (Pa.any_walk on nn hs A hs.length c s (.slice A1 n1 c1) raw ctx what atv W hr hts2 hpos r1 s1' t1 bctx bwhat batv hp).mono fun e W' ⟨he, hbel⟩ => ?_
  subst he
  exact ⟨_, rfl, _, _, _, [], _, [], hW', trodAll_mk1 (shut_bool Tryz.underlying4 _), trodAll_mk6 (Below.trod laidOut (by kernel_rfl) (of_decide_eq_true (by kernel_rfl)) k0 hbel lt0) (shut_string Tryz.underlying9 ws) (Below.trod laidOut (by kernel_rfl) (of_decide_eq_true (by kernel_rfl)) k1 hbel lt1) (shut_int Tryz.underlying3 wctx) (shut_int Tryz.underlying3 wwhat) (shut_int Tryz.underlying3 watv), rfl, hbel.frame _, fun h => by cases h⟩
theorem row_holds : Rows.PatchAnyUptoSaid :=
  OpenClaim.holds_of_cond 4 Tryz.f4 rfl rfl rfl rfl rfl rfl rfl ⟨rfl, rfl, rfl, rfl, rfl⟩ rfl rfl rfl rfl rfl (by kernel_rfl) Tryz.func4 (by kernel_rfl)
    (of_decide_eq_true (by kernel_rfl)) (by unfold Func.isWrapper; first | (rw [if_pos (by decide +kernel)]; kernel_rfl) | (rw [if_neg (by decide +kernel)]; exact ⟨rfl, rfl⟩))
    (fun os started H enc _ F => by rw [OpenClaim.pre_eq_preRow]; exact lifted os started H enc F)
theorem card_holds : Rows.PatchAnyUptoCardSaid :=
  Claim7.holds_tied_plain_at .later [] Rows.patchAnyUptoCard.laidKinds true Rows.patchAnyUptoCard.stood.harness false
    row_holds (fun _ h => by cases h) (by kernel_rfl) (fun _ h => by cases h) patchAnyUpto_row_tie rfl ⟨rfl, rfl⟩ (by kernel_rfl) rfl
    (fun f fn hf hfn => by
      obtain rfl : f = 4 := Option.some.inj ((show Tryz.prog.funcNamed Rows.patchAnyUptoRow.func = some 4 by kernel_rfl).symm.trans hf) |>.symm
      obtain rfl : fn = Tryz.f4 := (Option.some.inj (Tryz.func4.symm.trans hfn)).symm
      exact ⟨by kernel_rfl, fun j t ht => by
        have hm : t ∈ Tryz.f4.params.toList := by simpa using Array.mem_of_getElem? ht
        have hall : (Tryz.f4.params.toList.all fun u => !Tryz.prog.wantsStandIn u) = true := by kernel_rfl
        show Tryz.prog.wantsStandIn t = false
        simpa using List.all_eq_true.1 hall t hm⟩)
    (by kernel_rfl)
end PatchAny
end Go.Proofs.YtjecfmbecgpbmaaGreatDoor
