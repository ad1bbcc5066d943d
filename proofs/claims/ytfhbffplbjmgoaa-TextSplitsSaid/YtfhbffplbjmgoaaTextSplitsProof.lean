/-
  Proved: the law TextSplits of layer 2 returns true for every input, and its arguments read as before. No conditions.
-/
import Derived.Test.YtfhbffplbjmgoaaTextFrame
import Derived.Test.YtfhbffplbjmgoaaTextAppend
import Derived.Deep.OwnRows
namespace Go.Proofs.Ytfhbffplbjmgoaa
open Go.ChangeShapes Go.WideShapes Go.ChangeAt Go.RowKit
open Go.ChangeMaps (open_string shut_string)
namespace Tx.TextSplits
/-- The reference's Split of a small blob. -/
theorem SplitR_small (s : ByteArray) (hs : s.size ≤ 4096) (w : World) : Calls Try.prog 11 #[.string s] w fun e w' => ∃ v, e = .returned (.tuple #[v, .int .i64 0]) ∧ RdS w' v (mks (linesF (bs s))) ∧ Below w.heap.size w w' :=
  (SplitR_any s w (by omega)).mono fun _ _ ⟨v, h1, h2, h3⟩ => by
    have h := checkF_small (bs s) (by rw [bs_len]; exact hs)
    rw [if_pos h] at h2
    exact ⟨v, by rw [h1, h], h2, h3⟩
theorem Check_small (s : ByteArray) (hs : s.size ≤ 4096) (w : World) : Calls Try.prog 12 #[.string s] w fun e w' => e = .returned (.int .i64 0) ∧ w = w' := by
  have := Check_any s w (by omega)
  rw [checkF_small (bs s) (by rw [bs_len]; exact hs)] at this
  exact this
theorem CheckR_small (s : ByteArray) (hs : s.size ≤ 4096) (w : World) : Calls Try.prog 13 #[.string s] w fun e w' => e = .returned (.int .i64 0) ∧ Below w.heap.size w w' := by
  have := CheckR_any s w (by omega)
  rw [checkF_small (bs s) (by rw [bs_len]; exact hs)] at this
  exact this
set_option maxRecDepth 100000 in
set_option maxHeartbeats 4000000 in
theorem walk (s : ByteArray) (v : Value) (n : Nat) (w : World) (hs : s.size ≤ maxLen) (hr : RdI w v n) (hn : n ≤ maxLen) :
    Calls Try.prog 3 #[.string s, v] w fun e w' => e = .returned (.bool true) ∧ Below w.heap.size w w' := by
  have HB := Lib.hid (Blob_any v n 0 12 10 w hr hn (by omega) (by omega) (by omega) (by omega) (by omega) (by omega))
  have HA := Lib.hid (fun w => awake_any w)
  obtain ⟨A, c, rfl, _⟩ := hr
  unfold maxLen at hs
  clear hn
  by_cases h2 : (200 : Int) < (s.size : Int)
  · go_enter Try.func3, Try.ntmps3
    go_wp2_with (go_at_call 8; refine (HA.out _).mono ?_; rintro e w1 ⟨rfl, hb⟩)
    go_ret
    exact ⟨rfl, by assumption⟩
  have hs2 : s.size ≤ 200 := by omega
  have H1 := Lib.hid (fun w => Split_small s (by omega) w)
  have H2 := Lib.hid (fun w => SplitR_small s (by omega) w)
  have H3 := Lib.hid (fun w => Check_small s (by omega) w)
  have H4 := Lib.hid (fun w => CheckR_small s (by omega) w)
  have H5 := Lib.hid (fun w => Bare_any s w (by omega))
  have H6 := Lib.hid (fun w => BareR_any s w (by omega))
  have H7 := Lib.hid (fun w => Ended_any s w (by omega))
  have H8 := Lib.hid (fun w => EndedR_any s w (by omega))
  have hyl : (mks (linesF (bs s))).length ≤ 200 := by rw [mks_len]; have := linesF_le (bs s); rw [bs_len] at this; omega
  generalize mks (linesF (bs s)) = ys at H1 H2 hyl
  generalize bareB s = sb at H5 H6
  generalize endedF (bs s) = be at H7 H8
  go_enter Try.func3, Try.ntmps3
  go_wp2_with fail
  refine HB.out.mono ?_
  rintro e w1 ⟨b, hbs, rfl, hb1⟩
  have hbs2 : b.size ≤ 48 := hbs
  have hb1' := hb1
  clear hbs HB hb1
  go_wp2_with fail
  refine (H1.out _).mono ?_
  rintro e w2 ⟨v2, rfl, r2, hb2⟩
  have b2 := hb1'.trans (hb2.mono hb1'.size)
  have R2 := Lib.hid r2
  clear r2 hb2 hb1'
  go_wp2_with fail
  refine (H2.out _).mono ?_
  rintro e w3 ⟨v3, rfl, r3, hb3⟩
  have R2b := Lib.hid (R2.out.below hb3)
  have b3 := b2.trans (hb3.mono b2.size)
  have R3 := Lib.hid r3
  clear r3 hb3 b2 R2
  go_wp2_with fail
  refine (Split_small b (by omega) _).mono ?_
  rintro e w4 ⟨v4, rfl, r4, hb4⟩
  have R2c := Lib.hid (R2b.out.below hb4)
  have R3c := Lib.hid (R3.out.below hb4)
  have b4 := b3.trans (hb4.mono b3.size)
  have R4 := Lib.hid r4
  clear r4 hb4 b3 R2b R3
  go_wp2_with fail
  refine (H3.out _).mono ?_
  rintro e w5 ⟨rfl, rfl⟩
  go_wp2_with fail
  refine (H4.out _).mono ?_
  rintro e w5 ⟨rfl, hb5⟩
  have R2d := Lib.hid (R2c.out.below hb5)
  have R3d := Lib.hid (R3c.out.below hb5)
  have R4d := Lib.hid (R4.out.below hb5)
  have b5 := b4.trans (hb5.mono b4.size)
  clear hb5 b4 R2c R3c R4
  go_wp2_with fail
  refine (Strings_same _ _ ys _ (by omega) R2d.out R3d.out).mono ?_
  rintro e w6 ⟨rfl, hb6⟩
  have R4e := Lib.hid (R4d.out.below hb6)
  have b6 := b5.trans (hb6.mono b5.size)
  clear hb6 b5 R4d R2d R3d
  have HL := Lib.hid (fun w => LinesR_any b w (by omega))
  have hyl2 : (mks (linesF (bs b))).length ≤ 48 := by rw [mks_len]; have := linesF_le (bs b); rw [bs_len] at this; omega
  go_wp2_with fail
  refine (HL.out _).mono ?_
  rintro e w7 ⟨v7, rfl, ho7, hb7⟩
  have R7 := Lib.hid (RdS.of_own ho7)
  have R4f := Lib.hid (R4e.out.below hb7)
  have b7 := b6.trans (hb7.mono b6.size)
  clear hb7 b6 R4e ho7
  go_wp2_with fail
  refine (Strings_same _ _ _ _ (by omega) R4f.out R7.out).mono ?_
  rintro e w8 ⟨rfl, hb8⟩
  have b8 := b7.trans (hb8.mono b7.size)
  clear hb8 b7 R4f R7
  go_wp2_with (first
    | (go_at_call 16; refine (H5.out _).mono ?_; rintro e w9 ⟨rfl, rfl⟩)
    | (go_at_call 17; refine (H6.out _).mono ?_; rintro e w9 ⟨rfl, rfl⟩)
    | (go_at_call 18; refine (H7.out _).mono ?_; rintro e w9 ⟨rfl, rfl⟩)
    | (go_at_call 19; refine (H8.out _).mono ?_; rintro e w9 ⟨rfl, rfl⟩)
    | (go_at_call 8; refine (HA.out _).mono ?_; rintro e w10 ⟨rfl, hb10⟩))
  go_ret
  exact ⟨rfl, b8.trans (hb10.mono b8.size)⟩
set_option maxRecDepth 100000 in
theorem lifted (os : Os) (started : os.Started) (H : Type) (enc : TypeId × Value → H) :
    ReturnsInHanded {} Try.checked os 3 .any (Rows.textSplitsSpec.pre6 enc Try.prog Try.f3 Rows.textSplitsRow.domain false) (Rows.textSplitsSpec.post enc Try.prog Try.f3 false true false false) := by
  refine returnsInHanded_of_change (C := Try.checked) own started (by kernel_rfl) Try.func3
    (ChangeSpec.witness6 (enc := enc) (C := Try.checked) false ⟨#[], #[.string ⟨#[]⟩, .slice none 0 0], []⟩ 8 (by kernel_rfl) (by kernel_rfl) (by kernel_rfl) (by kernel_rfl)) ?_
  intro W base args ds gs before hval0 hW _ _
  have hval : ∀ (j : Nat) t v, Try.f3.params[j]? = some t → args[j]? = some v → Value.okWide Try.prog W .any base t v := hval0
  have hW' := hW
  obtain ⟨p, q, hA0, hV, rfl, hfz, hnd⟩ := hW
  have hA : DataW.TrodAll enc Try.prog W 0 (fun _ => true) true Try.f3.params.toList args.toList ds p := hA0
  rw [Try.params3] at hA hval
  obtain ⟨v0, v1, d0, d1, p0, p1, rfl, rfl, rfl, h0, h1⟩ := trodAll_two hA
  obtain ⟨rfl, rfl⟩ := trodVars_none hV
  obtain ⟨s, rfl, rfl, rfl, ws⟩ := open_string Try.underlying9 (hval 0 9 v0 rfl rfl) h0
  obtain ⟨A1, n1, c1, rfl⟩ := okWide_slice Try.underlying22 (hval 1 22 v1 rfl rfl)
  have k1 := h1
  have lt1 : ∀ x ∈ p1, x.block < W.heap.size := by obtain ⟨m, hm⟩ := k1; exact DataW.trod_lt m _ _ _ hm
  have r1 : RdI W (.slice A1 n1 c1) n1 ∧ n1 ≤ maxLen := by obtain ⟨fuel, hf⟩ := h1; exact rdI_open hf
  clear hA0 hval0
  simp only [List.append_nil] at hW'
  refine (walk s (.slice A1 n1 c1) n1 W ws r1.1 r1.2).mono fun e W' ⟨he, hbel⟩ => ?_
  subst he
  exact ⟨_, rfl, _, _, _, [], _, [], hW', trodAll_mk1 (shut_bool Try.underlying4 _), trodAll_mk2 (shut_string Try.underlying9 ws) (Below.trod laidOut (by kernel_rfl) (of_decide_eq_true (by kernel_rfl)) k1 hbel lt1), rfl, hbel.frame _, fun h => by cases h⟩
theorem row_holds : Rows.TextSplitsSaid :=
  OpenClaim.holds_of_wide 3 Try.f3 rfl rfl rfl rfl rfl rfl rfl ⟨rfl, rfl, rfl, rfl, rfl⟩ rfl rfl rfl rfl rfl (by kernel_rfl) Try.func3 (by kernel_rfl)
    (of_decide_eq_true (by kernel_rfl)) (by unfold Func.isWrapper; first | (rw [if_pos (by decide +kernel)]; kernel_rfl) | (rw [if_neg (by decide +kernel)]; exact ⟨rfl, rfl⟩))
    (fun os started H enc _ => lifted os started H enc)
end Tx.TextSplits
end Go.Proofs.Ytfhbffplbjmgoaa
