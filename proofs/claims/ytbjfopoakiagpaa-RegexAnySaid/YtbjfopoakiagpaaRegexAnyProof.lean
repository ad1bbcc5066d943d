/-
  Proved: the law RegexAny of layer 4 returns true for every input, and its arguments read as before. No conditions.
-/
import Derived.Test.YtbjfopoakiagpaaRegexLawX
import Derived.Test.YtbjfopoakiagpaaRegexFrameX
import Derived.Test.YtbjfopoakiagpaaRegexLit
import Derived.Test.YtbjfopoakiagpaaRegexLitP
namespace Go.Proofs.Ytbjfopoakiagpaa
open Go.ChangeShapes Go.WideShapes Go.ChangeAt Go.RowKit
open Go.ChangeMaps (open_string shut_string)
namespace Px.RegexAny
open Cm Rx
set_option maxRecDepth 100000 in
set_option maxHeartbeats 4000000 in
theorem walk_long (s : ByteArray) (w : World) (hG : Glb w.heap.size w) (hs : (100 : Int) < (s.size : Int)) :
    Calls Try.prog 4 #[.string s] w fun e w' => e = .returned (.bool true) ∧ Below w.heap.size w w' := by
  have HAw := Lib.hid (fun (wq : World) (hb : Below w.heap.size w wq) => awake_any wq (hG.self hb))
  clear hG
  go_enter Try.func4, Try.ntmps4
  go_wp2_with (go_at_call 18; refine (HAw.out _ (Below.refl _ _)).mono ?_; rintro e w9 ⟨rfl, B9⟩; have HB9 := Lib.hid (below_tr (Below.refl _ _) B9); clear B9)
  go_ret
  exact ⟨rfl, HB9.out⟩
set_option maxRecDepth 100000 in
set_option maxHeartbeats 4000000 in
theorem walk_short (s : ByteArray) (w : World) (hG : Glb w.heap.size w) (hs : s.size ≤ 100) :
    Calls Try.prog 4 #[.string s] w fun e w' => e = .returned (.bool true) ∧ Below w.heap.size w w' := by
  have HAw := Lib.hid (fun (wq : World) (hb : Below w.heap.size w wq) => awake_any wq (hG.self hb))
  have HP := Lib.hid (ParseP_rd s w hG)
  have HR := Lib.hid (fun W => ParseR_rd s W (by omega))
  have HSm := Lib.hid (nodes_small (Tx.bs s))
  have HL1 := Lib.hid (fun W => Literal_any s W (by omega))
  have HL2 := Lib.hid (fun W => LiteralR_any s W (by omega))
  generalize codeR (parseF (Tx.bs s)) = c at HP HR
  generalize nodesR (parseF (Tx.bs s)) = ns at HP HR HSm
  generalize (⟨(litF (Tx.bs s)).toArray⟩ : ByteArray) = lit at HL1 HL2
  have HNo := Lib.hid (fun (a b : Value) (wq : World) (ha : RdN wq a ns) (hb : RdN wq b ns) => Nodes_same a b ns wq (Nat.le_trans HSm.out.1 (by decide)) (fun k hk => Nat.le_trans (HSm.out.2 k hk) (by decide)) ha hb)
  have t60 : decide ((100 : Int) < (s.size : Int)) = false := by simp only [decide_eq_false_iff_not]; omega
  clear hG
  go_enter Try.func4, Try.ntmps4
  go_wp2_with fail
  refine HP.out.mono ?_
  rintro e w1 ⟨v1, rfl, r1, B1⟩
  have HB1 := Lib.hid B1
  have HR1 := Lib.hid r1
  clear B1 r1
  go_wp2_with fail
  refine (HR.out _).mono ?_
  rintro e w2 ⟨v2, rfl, r2, B2⟩
  have HN2 := Lib.hid (HNo.out v1 v2 w2 (HR1.out.below B2) r2)
  have HB2 := Lib.hid (below_tr HB1.out B2)
  clear B2 r2
  go_wp2_with fail
  refine HN2.out.mono ?_
  rintro e w3 ⟨rfl, q3, rfl⟩
  have HB3 := Lib.hid (below_drewN HB2.out q3)
  go_wp2_with fail
  refine (HL1.out _).mono ?_
  rintro e w4 ⟨rfl, B4⟩
  have HB4 := Lib.hid (below_tr HB3.out B4)
  clear B4
  go_wp2_with fail
  refine (HL2.out _).mono ?_
  rintro e w5 ⟨rfl, B5⟩
  have HB5 := Lib.hid (below_tr HB4.out B5)
  clear B5
  go_wp2_with (go_at_call 18; refine (HAw.out _ HB5.out).mono ?_; rintro e w9 ⟨rfl, B9⟩; have HB9 := Lib.hid (below_tr HB5.out B9); clear B9)
  go_ret
  exact ⟨rfl, HB9.out⟩
theorem walk (s : ByteArray) (w : World) (hG : Glb w.heap.size w) :
    Calls Try.prog 4 #[.string s] w fun e w' => e = .returned (.bool true) ∧ Below w.heap.size w w' := by
  by_cases h : s.size ≤ 100
  · exact walk_short s w hG h
  · exact walk_long s w hG (by omega)
set_option maxRecDepth 100000 in
theorem lifted (os : Os) (started : os.Started) (H : Type) (enc : TypeId × Value → H) :
    ReturnsInHanded {} Try.checked os 4 .any (Rows.regexAnySpec.pre6 enc Try.prog Try.f4 Rows.regexAnyRow.domain false) (Rows.regexAnySpec.post enc Try.prog Try.f4 false true false false) := by
  refine returnsInHanded_of_change_shaped (C := Try.checked) own started (by kernel_rfl) Try.func4
    (ChangeSpec.witness6 (enc := enc) (C := Try.checked) false ⟨#[], #[.string ⟨#[]⟩], []⟩ 8 (by kernel_rfl) (by kernel_rfl) (by kernel_rfl) (by kernel_rfl)) ?_
  intro W base args ds gs before hval0 hW _ _ hsh _
  have hval : ∀ (j : Nat) t v, Try.f4.params[j]? = some t → args[j]? = some v → Value.okWide Try.prog W .any base t v := hval0
  have hW' := hW
  obtain ⟨p, q, hA0, hV, rfl, hfz, hnd⟩ := hW
  have hA : DataW.TrodAll enc Try.prog W 0 (fun _ => true) true Try.f4.params.toList args.toList ds p := hA0
  rw [Try.params4] at hA hval
  obtain ⟨v0, d0, rfl, rfl, h0⟩ := trodAll_one hA
  obtain ⟨rfl, rfl⟩ := trodVars_none hV
  obtain ⟨s, rfl, rfl, rfl, ws⟩ := open_string Try.underlying9 (hval 0 9 v0 rfl rfl) h0
  clear hA0 hval0
  simp only [List.append_nil] at hW'
  refine (walk s W (glb_of hsh)).mono fun e W' ⟨he, hbel⟩ => ?_
  subst he
  exact ⟨_, rfl, _, _, _, [], _, [], hW', trodAll_mk1 (shut_bool Try.underlying4 _), trodAll_mk1 (shut_string Try.underlying9 ws), rfl, hbel.frame _, fun h => by cases h⟩
theorem row_holds : Rows.RegexAnySaid :=
  OpenClaim.holds_of_wide 4 Try.f4 rfl rfl rfl rfl rfl rfl rfl ⟨rfl, rfl, rfl, rfl, rfl⟩ rfl rfl rfl rfl rfl (by kernel_rfl) Try.func4 (by kernel_rfl)
    (of_decide_eq_true (by kernel_rfl)) (by unfold Func.isWrapper; first | (rw [if_pos (by decide +kernel)]; kernel_rfl) | (rw [if_neg (by decide +kernel)]; exact ⟨rfl, rfl⟩))
    (fun os started H enc _ => lifted os started H enc)
end Px.RegexAny
end Go.Proofs.Ytbjfopoakiagpaa
