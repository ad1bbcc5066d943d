/-
  Proved: the law OccurReplaces of layer 7 returns true for every input, and its arguments read as before. No conditions.
-/
import Derived.Test.YthpolbiekdijjaaOccWord
namespace Go.Proofs.Ythpolbiekdijjaa
open Go.ChangeShapes Go.WideShapes Go.ChangeAt Go.RowKit
open Go.ChangeMaps (open_string shut_string)
namespace Oc.OccurReplaces
open Cm Tx Oc
theorem Replace_v (n s b : ByteArray) (w : World) (hn : n.size ≤ 1000) (hs : s.size ≤ 1000) (hb : b.size ≤ 1000) :
    Calls Try.prog 20 #[.string n, .string s, .string b] w fun e w' => e = .returned (.tuple #[.string ⟨(replF (bs n) (bs s) (bs b)).toArray⟩, .int .i64 0]) ∧ Below w.heap.size w w' := Replace_any n s b w hn hs hb
theorem ReplaceR_v (n s b : ByteArray) (w : World) (hn : n.size ≤ 1000) (hs : s.size ≤ 1000) (hb : b.size ≤ 1000) :
    Calls Try.prog 21 #[.string n, .string s, .string b] w fun e w' => e = .returned (.tuple #[.string ⟨(replF (bs n) (bs s) (bs b)).toArray⟩, .int .i64 0]) ∧ Below w.heap.size w w' := ReplaceR_any n s b w hn hs hb
set_option maxRecDepth 100000 in
set_option maxHeartbeats 8000000 in
theorem walk (needle s b : ByteArray) (v : Value) (N : Nat) (w : World) (hv : RdI w v N) (hN : N ≤ maxLen) :
    Calls Try.prog 5 #[.string needle, .string s, .string b, v] w fun e w' => e = .returned (.bool true) ∧ Below w.heap.size w w' := by
  have HAw := Lib.hid (fun w => awake_any w)
  by_cases h1 : 20 < needle.size
  · have hd : decide (20 < needle.size) = true := by simpa using h1
    go_enter Try.func5, Try.ntmps5
    go_wp2_with fail
    refine (HAw.out _).mono ?_
    rintro e w1 ⟨rfl, hb⟩
    go_wp2_with fail
    go_ret
    exact ⟨rfl, hb⟩
  have hd1 : decide (20 < needle.size) = false := by simpa using h1
  by_cases h2 : 60 < s.size
  · have hd : decide (60 < s.size) = true := by simpa using h2
    go_enter Try.func5, Try.ntmps5
    go_wp2_with fail
    refine (HAw.out _).mono ?_
    rintro e w1 ⟨rfl, hb⟩
    go_wp2_with fail
    go_ret
    exact ⟨rfl, hb⟩
  have hd2 : decide (60 < s.size) = false := by simpa using h2
  by_cases h3 : 20 < b.size
  · have hd : decide (20 < b.size) = true := by simpa using h3
    go_enter Try.func5, Try.ntmps5
    go_wp2_with fail
    refine (HAw.out _).mono ?_
    rintro e w1 ⟨rfl, hb⟩
    go_wp2_with fail
    go_ret
    exact ⟨rfl, hb⟩
  · have hd3 : decide (20 < b.size) = false := by simpa using h3
    have HW1 : Hid (∀ w2, Below w.heap.size w w2 → Calls Try.prog 12 #[v, .int .i64 0, .int .i64 3] w2 (WordPost 3 w2)) := Lib.hid (fun w2 hb => word_any v N 0 3 w2 (hv.below hb) hN (by omega) (by omega))
    have HW2 : Hid (∀ w2, Below w.heap.size w w2 → Calls Try.prog 12 #[v, .int .i64 20, .int .i64 25] w2 (WordPost 25 w2)) := Lib.hid (fun w2 hb => word_any v N 20 25 w2 (hv.below hb) hN (by omega) (by omega))
    have HR1 := Lib.hid (fun w => Replace_v needle s b w (by omega) (by omega) (by omega))
    have HR2 := Lib.hid (fun w => ReplaceR_v needle s b w (by omega) (by omega) (by omega))
    generalize ByteArray.mk (replF (bs needle) (bs s) (bs b)).toArray = r1 at HR1 HR2
    clear hv hN
    go_enter Try.func5, Try.ntmps5
    go_wp2_with fail
    refine (HR1.out _).mono ?_
    rintro e w1 ⟨rfl, hb⟩
    have HB1 := Lib.hid hb
    clear hb
    go_wp2_with fail
    refine (HR2.out _).mono ?_
    rintro e w2 ⟨rfl, hb⟩
    have HB2 := Lib.hid (HB1.out.trans (hb.mono HB1.out.size))
    clear hb
    clear HB1
    go_wp2_with fail
    refine (HW1.out _ HB2.out).mono ?_
    rintro e w3 ⟨n, hn, _, rfl, hb⟩
    have HB3 := Lib.hid (HB2.out.trans (hb.mono HB2.out.size))
    clear hb
    clear HB2
    go_wp2_with fail
    refine (HW2.out _ HB3.out).mono ?_
    rintro e w4 ⟨t, ht, _, rfl, hb⟩
    have HB4 := Lib.hid (HB3.out.trans (hb.mono HB3.out.size))
    clear hb
    clear HB3
    have HR3 := Lib.hid (fun w => Replace_v n t b w (by omega) (by omega) (by omega))
    have HR4 := Lib.hid (fun w => ReplaceR_v n t b w (by omega) (by omega) (by omega))
    generalize ByteArray.mk (replF (bs n) (bs t) (bs b)).toArray = r2 at HR3 HR4
    go_wp2_with fail
    refine (HR3.out _).mono ?_
    rintro e w5 ⟨rfl, hb⟩
    have HB5 := Lib.hid (HB4.out.trans (hb.mono HB4.out.size))
    clear hb
    clear HB4
    go_wp2_with fail
    refine (HR4.out _).mono ?_
    rintro e w6 ⟨rfl, hb⟩
    have HB6 := Lib.hid (HB5.out.trans (hb.mono HB5.out.size))
    clear hb
    clear HB5
    go_wp2_with fail
    refine (HAw.out _).mono ?_
    rintro e w7 ⟨rfl, hb⟩
    have HB7 := Lib.hid (HB6.out.trans (hb.mono HB6.out.size))
    clear hb
    clear HB6
    go_wp2_with fail
    go_ret
    exact ⟨rfl, HB7.out⟩
set_option maxRecDepth 100000 in
theorem lifted (os : Os) (started : os.Started) (H : Type) (enc : TypeId × Value → H) :
    ReturnsInHanded {} Try.checked os 5 .any (Rows.occurReplacesSpec.pre6 enc Try.prog Try.f5 Rows.occurReplacesRow.domain false) (Rows.occurReplacesSpec.post enc Try.prog Try.f5 false true false false) := by
  refine returnsInHanded_of_change (C := Try.checked) own started (by kernel_rfl) Try.func5
    (ChangeSpec.witness6 (enc := enc) (C := Try.checked) false ⟨#[], #[.string ⟨#[]⟩, .string ⟨#[]⟩, .string ⟨#[]⟩, .slice none 0 0], []⟩ 8 (by kernel_rfl) (by kernel_rfl) (by kernel_rfl) (by kernel_rfl)) ?_
  intro W base args ds gs before hval0 hW _ _
  have hval : ∀ (j : Nat) t v, Try.f5.params[j]? = some t → args[j]? = some v → Value.okWide Try.prog W .any base t v := hval0
  have hW' := hW
  obtain ⟨p, q, hA0, hV, rfl, hfz, hnd⟩ := hW
  have hA : DataW.TrodAll enc Try.prog W 0 (fun _ => true) true Try.f5.params.toList args.toList ds p := hA0
  rw [Try.params5] at hA hval
  obtain ⟨v0, v1, v2, v3, d0, d1, d2, d3, p0, p1, p2, p3, rfl, rfl, rfl, h0, h1, h2, h3⟩ := trodAll_four hA
  obtain ⟨rfl, rfl⟩ := trodVars_none hV
  obtain ⟨nd, rfl, rfl, rfl, wnd⟩ := open_string Try.underlying9 (hval 0 9 v0 rfl rfl) h0
  obtain ⟨s, rfl, rfl, rfl, ws⟩ := open_string Try.underlying9 (hval 1 9 v1 rfl rfl) h1
  obtain ⟨b, rfl, rfl, rfl, wb⟩ := open_string Try.underlying9 (hval 2 9 v2 rfl rfl) h2
  obtain ⟨A3, n3, c3, rfl⟩ := okWide_slice Try.underlying22 (hval 3 22 v3 rfl rfl)
  have k3 := h3
  have lt3 : ∀ x ∈ p3, x.block < W.heap.size := by obtain ⟨m, hm⟩ := k3; exact DataW.trod_lt m _ _ _ hm
  obtain ⟨zs, r3, s3, t3⟩ : ∃ l : List Int, RdV W (.slice A3 n3 c3) (intsV l) ∧ l.length ≤ maxLen ∧ ∀ z ∈ l, -9223372036854775808 ≤ z ∧ z ≤ 9223372036854775807 := by obtain ⟨fuel, hf⟩ := h3; exact open_intsV hf
  clear hA0 hval0
  simp only [List.append_nil] at hW'
  refine (walk nd s b (.slice A3 n3 c3) zs.length W (rdI_of r3 t3) s3).mono fun e W' ⟨he, hbel⟩ => ?_
  subst he
  exact ⟨_, rfl, _, _, _, [], _, [], hW', trodAll_mk1 (shut_bool Try.underlying4 _), trodAll_mk4 (shut_string Try.underlying9 wnd) (shut_string Try.underlying9 ws) (shut_string Try.underlying9 wb) (Below.trod laidOut (by kernel_rfl) (of_decide_eq_true (by kernel_rfl)) k3 hbel lt3), rfl, hbel.frame _, fun h => by cases h⟩
theorem row_holds : Rows.OccurReplacesSaid :=
  OpenClaim.holds_of_wide 5 Try.f5 rfl rfl rfl rfl rfl rfl rfl ⟨rfl, rfl, rfl, rfl, rfl⟩ rfl rfl rfl rfl rfl (by kernel_rfl) Try.func5 (by kernel_rfl)
    (of_decide_eq_true (by kernel_rfl)) (by unfold Func.isWrapper; first | (rw [if_pos (by decide +kernel)]; kernel_rfl) | (rw [if_neg (by decide +kernel)]; exact ⟨rfl, rfl⟩))
    (fun os started H enc _ => lifted os started H enc)
end Oc.OccurReplaces
end Go.Proofs.Ythpolbiekdijjaa
