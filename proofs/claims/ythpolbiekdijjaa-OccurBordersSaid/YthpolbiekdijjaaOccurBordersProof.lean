/-
  Proved: the law OccurBorders of layer 7 returns true for every input, and its arguments read as before. No conditions.
-/
import Derived.Test.YthpolbiekdijjaaOccWord
namespace Go.Proofs.Ythpolbiekdijjaa
open Go.ChangeShapes Go.WideShapes Go.ChangeAt Go.RowKit
open Go.ChangeMaps (open_string shut_string)
namespace Oc.OccurBorders
open Cm Tx Oc
set_option maxRecDepth 100000 in
set_option maxHeartbeats 2000000 in
theorem walk (s : ByteArray) (v : Value) (N : Nat) (w : World) (hv : RdI w v N) (hN : N ≤ maxLen) :
    Calls Try.prog 4 #[.string s, v] w fun e w' => e = .returned (.bool true) ∧ Below w.heap.size w w' := by
  have HAw := Lib.hid (fun w => awake_any w)
  have HI := Lib.hid (fun a b l w hl ha hb => Ints_same a b l w hl ha hb)
  have HW := Lib.hid (word_any v N 0 25 w hv hN (by omega) (by omega))
  clear hv hN
  by_cases h : 60 < s.size
  · have hd : decide (60 < s.size) = true := by simpa using h
    go_enter Try.func4, Try.ntmps4
    go_wp2_with fail
    refine (HAw.out _).mono ?_
    rintro e w1 ⟨rfl, hb⟩
    go_wp2_with fail
    go_ret
    exact ⟨rfl, hb⟩
  · have hd : decide (60 < s.size) = false := by simpa using h
    go_enter Try.func4, Try.ntmps4
    go_wp2_with fail
    refine (HW.out).mono ?_
    rintro e w1 ⟨t, ht, _, rfl, hb⟩
    have HB1 := Lib.hid hb
    clear hb
    go_wp2_with fail
    refine (Borders_rd s _ (by omega)).mono ?_
    rintro e w2 ⟨va, rfl, hr, hb⟩
    have HB2 := Lib.hid (HB1.out.trans (hb.mono HB1.out.size))
    clear hb
    clear HB1
    have HRa := Lib.hid hr
    clear hr
    go_wp2_with fail
    refine (BordersR_any s _ (by omega)).mono ?_
    rintro e w3 ⟨vb, rfl, hr, hb⟩
    have HB3 := Lib.hid (HB2.out.trans (hb.mono HB2.out.size))
    have HRa := Lib.hid (HRa.out.below hb)
    clear hb
    clear HB2
    have HRb := Lib.hid hr
    clear hr
    go_wp2_with fail
    refine (HI.out _ _ (bordsI (bs s) (bs s).length) _ (by rw [bordsI_len, bs_len]; omega) HRa.out HRb.out).mono ?_
    rintro e w4 ⟨rfl, q, hq⟩
    have hb : Below w3.heap.size w3 w4 := by rw [hq]; exact below_drewN (Below.refl _ _) q
    clear hq HRa HRb
    have HB4 := Lib.hid (HB3.out.trans (hb.mono HB3.out.size))
    clear hb
    clear HB3
    go_wp2_with fail
    refine (Borders_rd t _ (by omega)).mono ?_
    rintro e w5 ⟨vc, rfl, hr, hb⟩
    have HB5 := Lib.hid (HB4.out.trans (hb.mono HB4.out.size))
    clear hb
    clear HB4
    have HRc := Lib.hid hr
    clear hr
    go_wp2_with fail
    refine (BordersR_any t _ (by omega)).mono ?_
    rintro e w6 ⟨vd, rfl, hr, hb⟩
    have HB6 := Lib.hid (HB5.out.trans (hb.mono HB5.out.size))
    have HRc := Lib.hid (HRc.out.below hb)
    clear hb
    clear HB5
    have HRd := Lib.hid hr
    clear hr
    go_wp2_with fail
    refine (HI.out _ _ (bordsI (bs t) (bs t).length) _ (by rw [bordsI_len, bs_len]; omega) HRc.out HRd.out).mono ?_
    rintro e w7 ⟨rfl, q, hq⟩
    have hb : Below w6.heap.size w6 w7 := by rw [hq]; exact below_drewN (Below.refl _ _) q
    clear hq HRc HRd
    have HB7 := Lib.hid (HB6.out.trans (hb.mono HB6.out.size))
    clear hb
    clear HB6
    go_wp2_with fail
    refine (HAw.out _).mono ?_
    rintro e w8 ⟨rfl, hb⟩
    have HB8 := Lib.hid (HB7.out.trans (hb.mono HB7.out.size))
    clear hb
    clear HB7
    go_wp2_with fail
    go_ret
    exact ⟨rfl, HB8.out⟩
set_option maxRecDepth 100000 in
theorem lifted (os : Os) (started : os.Started) (H : Type) (enc : TypeId × Value → H) :
    ReturnsInHanded {} Try.checked os 4 .any (Rows.occurBordersSpec.pre6 enc Try.prog Try.f4 Rows.occurBordersRow.domain false) (Rows.occurBordersSpec.post enc Try.prog Try.f4 false true false false) := by
  refine returnsInHanded_of_change (C := Try.checked) own started (by kernel_rfl) Try.func4
    (ChangeSpec.witness6 (enc := enc) (C := Try.checked) false ⟨#[], #[.string ⟨#[]⟩, .slice none 0 0], []⟩ 8 (by kernel_rfl) (by kernel_rfl) (by kernel_rfl) (by kernel_rfl)) ?_
  intro W base args ds gs before hval0 hW _ _
  have hval : ∀ (j : Nat) t v, Try.f4.params[j]? = some t → args[j]? = some v → Value.okWide Try.prog W .any base t v := hval0
  have hW' := hW
  obtain ⟨p, q, hA0, hV, rfl, hfz, hnd⟩ := hW
  have hA : DataW.TrodAll enc Try.prog W 0 (fun _ => true) true Try.f4.params.toList args.toList ds p := hA0
  rw [Try.params4] at hA hval
  obtain ⟨v0, v1, d0, d1, p0, p1, rfl, rfl, rfl, h0, h1⟩ := trodAll_two hA
  obtain ⟨rfl, rfl⟩ := trodVars_none hV
  obtain ⟨s, rfl, rfl, rfl, ws⟩ := open_string Try.underlying9 (hval 0 9 v0 rfl rfl) h0
  obtain ⟨A1, n1, c1, rfl⟩ := okWide_slice Try.underlying22 (hval 1 22 v1 rfl rfl)
  have k1 := h1
  have lt1 : ∀ x ∈ p1, x.block < W.heap.size := by obtain ⟨m, hm⟩ := k1; exact DataW.trod_lt m _ _ _ hm
  obtain ⟨zs, r1, s1, t1⟩ : ∃ l : List Int, RdV W (.slice A1 n1 c1) (intsV l) ∧ l.length ≤ maxLen ∧ ∀ z ∈ l, -9223372036854775808 ≤ z ∧ z ≤ 9223372036854775807 := by obtain ⟨fuel, hf⟩ := h1; exact open_intsV hf
  clear hA0 hval0
  simp only [List.append_nil] at hW'
  refine (walk s (.slice A1 n1 c1) zs.length W (rdI_of r1 t1) s1).mono fun e W' ⟨he, hbel⟩ => ?_
  subst he
  exact ⟨_, rfl, _, _, _, [], _, [], hW', trodAll_mk1 (shut_bool Try.underlying4 _), trodAll_mk2 (shut_string Try.underlying9 ws) (Below.trod laidOut (by kernel_rfl) (of_decide_eq_true (by kernel_rfl)) k1 hbel lt1), rfl, hbel.frame _, fun h => by cases h⟩
theorem row_holds : Rows.OccurBordersSaid :=
  OpenClaim.holds_of_wide 4 Try.f4 rfl rfl rfl rfl rfl rfl rfl ⟨rfl, rfl, rfl, rfl, rfl⟩ rfl rfl rfl rfl rfl (by kernel_rfl) Try.func4 (by kernel_rfl)
    (of_decide_eq_true (by kernel_rfl)) (by unfold Func.isWrapper; first | (rw [if_pos (by decide +kernel)]; kernel_rfl) | (rw [if_neg (by decide +kernel)]; exact ⟨rfl, rfl⟩))
    (fun os started H enc _ => lifted os started H enc)
end Oc.OccurBorders
end Go.Proofs.Ythpolbiekdijjaa
