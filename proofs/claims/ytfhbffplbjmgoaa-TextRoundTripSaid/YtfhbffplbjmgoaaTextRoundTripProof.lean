/-
  Proved: the law TextRoundTrip of layer 2 returns true for every input, and its arguments read as before. No conditions.
-/
import Derived.Test.YtfhbffplbjmgoaaTextFrame
import Derived.Test.YtfhbffplbjmgoaaTextAppend
import Derived.Deep.OwnRows
namespace Go.Proofs.Ytfhbffplbjmgoaa
open Go.ChangeShapes Go.WideShapes Go.ChangeAt Go.RowKit
open Go.ChangeMaps (open_string shut_string)
namespace Tx.TextRoundTrip
theorem total_lines (s : ByteArray) : total (mks (linesF (bs s))) = s.size := by
  unfold total; rw [show bss (mks (linesF (bs s))) = linesF (bs s) from mks_map _, linesF_flatten, bs_len]
/-- Join of the lines of a small blob. -/
theorem Join_lines (s : ByteArray) (hs : s.size ≤ 4096) (v : Value) (w : World) (h : RdS w v (mks (linesF (bs s)))) : Calls Try.prog 20 #[v] w fun e w' => e = .returned (.tuple #[.string s, .int .i64 0]) ∧ Below w.heap.size w w' :=
  (Join_any v _ w h (by rw [mks_len]; have := linesF_le (bs s); rw [bs_len] at this; omega) (by rw [total_lines]; omega)).mono fun _ _ ⟨h1, h2⟩ => by
    rw [show bss (mks (linesF (bs s))) = linesF (bs s) from mks_map _, linesF_isList, if_pos rfl, linesF_flatten, mk_bs] at h1
    exact ⟨h1, h2⟩
set_option maxRecDepth 100000 in
set_option maxHeartbeats 4000000 in
theorem walk (s : ByteArray) (v : Value) (n : Nat) (w : World) (hs : s.size ≤ maxLen) (hr : RdI w v n) (hn : n ≤ maxLen) :
    Calls Try.prog 5 #[.string s, v] w fun e w' => e = .returned (.bool true) ∧ Below w.heap.size w w' := by
  have HR := Lib.hid hr
  have HN := Lib.hid hn
  have HA := Lib.hid (fun w => awake_any w)
  obtain ⟨A, c, rfl, _⟩ := hr
  unfold maxLen at hs
  clear hn
  by_cases h2 : (200 : Int) < (s.size : Int)
  · go_enter Try.func5, Try.ntmps5
    go_wp2_with (go_at_call 8; refine (HA.out _).mono ?_; rintro e w1 ⟨rfl, hb⟩)
    go_ret
    exact ⟨rfl, by assumption⟩
  have hs2 : s.size ≤ 200 := by omega
  have H1 := Lib.hid (fun w => Split_small s (by omega) w)
  have H2 := Lib.hid (fun v w h => Join_lines s (by omega) v w h)
  generalize mks (linesF (bs s)) = ys at H1 H2
  go_enter Try.func5, Try.ntmps5
  go_wp2_with fail
  refine (H1.out _).mono ?_
  rintro e w1 ⟨v1, rfl, r1, b1⟩
  have R1 := Lib.hid r1
  clear r1
  go_wp2_with fail
  refine (H2.out _ _ R1.out).mono ?_
  rintro e w2 ⟨rfl, hb2⟩
  have b2 := b1.trans (hb2.mono b1.size)
  have HR2 := Lib.hid (HR.out.below b2)
  clear hb2 b1 R1
  go_wp2_with fail
  refine (Blob_any _ n 0 9 10 _ HR2.out HN.out (by omega) (by omega) (by omega) (by omega) (by omega) (by omega)).mono ?_
  rintro e w3 ⟨b, hbs, rfl, hb3⟩
  have hbs2 : b.size ≤ 36 := hbs
  have b3 := b2.trans (hb3.mono b2.size)
  clear hbs hb3 b2 HR2
  have H3 := Lib.hid (fun w => Split_small b (by omega) w)
  have H4 := Lib.hid (fun v w h => Join_lines b (by omega) v w h)
  have hyl2 : (mks (linesF (bs b))).length ≤ 36 := by rw [mks_len]; have := linesF_le (bs b); rw [bs_len] at this; omega
  generalize mks (linesF (bs b)) = zs at H3 H4 hyl2
  go_wp2_with fail
  refine (H3.out _).mono ?_
  rintro e w4 ⟨v4, rfl, r4, hb4⟩
  have R4 := Lib.hid r4
  have b4 := b3.trans (hb4.mono b3.size)
  clear r4 hb4 b3
  go_wp2_with fail
  refine (H4.out _ _ R4.out).mono ?_
  rintro e w5 ⟨rfl, hb5⟩
  have R5 := Lib.hid (R4.out.below hb5)
  have b5 := b4.trans (hb5.mono b4.size)
  clear hb5 b4 R4
  go_wp2_with fail
  refine (H3.out _).mono ?_
  rintro e w6 ⟨v6, rfl, r6, hb6⟩
  have R6 := Lib.hid r6
  have R5b := Lib.hid (R5.out.below hb6)
  have b6 := b5.trans (hb6.mono b5.size)
  clear r6 hb6 b5 R5
  go_wp2_with fail
  refine (Strings_same _ _ zs _ (by omega) R5b.out R6.out).mono ?_
  rintro e w7 ⟨rfl, hb7⟩
  have b7 := b6.trans (hb7.mono b6.size)
  clear hb7 b6 R5b R6
  go_wp2_with (go_at_call 8; refine (HA.out _).mono ?_; rintro e w10 ⟨rfl, hb10⟩)
  go_ret
  exact ⟨rfl, b7.trans (hb10.mono b7.size)⟩
set_option maxRecDepth 100000 in
theorem lifted (os : Os) (started : os.Started) (H : Type) (enc : TypeId × Value → H) :
    ReturnsInHanded {} Try.checked os 5 .any (Rows.textRoundTripSpec.pre6 enc Try.prog Try.f5 Rows.textRoundTripRow.domain false) (Rows.textRoundTripSpec.post enc Try.prog Try.f5 false true false false) := by
  refine returnsInHanded_of_change (C := Try.checked) own started (by kernel_rfl) Try.func5
    (ChangeSpec.witness6 (enc := enc) (C := Try.checked) false ⟨#[], #[.string ⟨#[]⟩, .slice none 0 0], []⟩ 8 (by kernel_rfl) (by kernel_rfl) (by kernel_rfl) (by kernel_rfl)) ?_
  intro W base args ds gs before hval0 hW _ _
  have hval : ∀ (j : Nat) t v, Try.f5.params[j]? = some t → args[j]? = some v → Value.okWide Try.prog W .any base t v := hval0
  have hW' := hW
  obtain ⟨p, q, hA0, hV, rfl, hfz, hnd⟩ := hW
  have hA : DataW.TrodAll enc Try.prog W 0 (fun _ => true) true Try.f5.params.toList args.toList ds p := hA0
  rw [Try.params5] at hA hval
  obtain ⟨v0, v1, d0, d1, p0, p1, rfl, rfl, rfl, h0, h1⟩ := trodAll_two hA
  obtain ⟨rfl, rfl⟩ := trodVars_none hV
  obtain ⟨s, rfl, rfl, rfl, ws⟩ := open_string Try.underlying9 (hval 0 9 v0 rfl rfl) h0
  obtain ⟨A1, n1, c1, rfl⟩ := okWide_slice Try.underlying22 (hval 1 22 v1 rfl rfl)
  have k1 := h1
  have lt1 : ∀ x ∈ p1, x.block < W.heap.size := by obtain ⟨m, hm⟩ := k1; exact DataW.trod_lt m _ _ _ hm
  have r1 : RdI W (.slice A1 n1 c1) n1 ∧ n1 ≤ maxLen := by obtain ⟨fuel, hf⟩ := h1; exact rdI_open hf
  clear hA0 hval0
  simp only [List.append_nil] at hW'
  refine (walk s (.slice A1 n1 c1) n1 W ws r1.1 r1.2).mono fun e W' ⟨he, hbel⟩ => ?_
  subst he
  exact ⟨_, rfl, _, _, _, [], _, [], hW', trodAll_mk1 (shut_bool Try.underlying4 _), trodAll_mk2 (shut_string Try.underlying9 ws) (Below.trod laidOut (by kernel_rfl) (of_decide_eq_true (by kernel_rfl)) k1 hbel lt1), rfl, hbel.frame _, fun h => by cases h⟩
theorem row_holds : Rows.TextRoundTripSaid :=
  OpenClaim.holds_of_wide 5 Try.f5 rfl rfl rfl rfl rfl rfl rfl ⟨rfl, rfl, rfl, rfl, rfl⟩ rfl rfl rfl rfl rfl (by kernel_rfl) Try.func5 (by kernel_rfl)
    (of_decide_eq_true (by kernel_rfl)) (by unfold Func.isWrapper; first | (rw [if_pos (by decide +kernel)]; kernel_rfl) | (rw [if_neg (by decide +kernel)]; exact ⟨rfl, rfl⟩))
    (fun os started H enc _ => lifted os started H enc)
end Tx.TextRoundTrip
end Go.Proofs.Ytfhbffplbjmgoaa
