/-
  Proved: the law TextConcatenates of layer 2 returns true for every input, and its arguments read as before. No conditions.
-/
import Derived.Test.YtfhbffplbjmgoaaTextFrame
import Derived.Test.YtfhbffplbjmgoaaTextAppend
import Derived.Deep.OwnRows
namespace Go.Proofs.Ytfhbffplbjmgoaa
open Go.ChangeShapes Go.WideShapes Go.ChangeAt Go.RowKit
open Go.ChangeMaps (open_string shut_string)
namespace Tx.TextConcatenates
theorem own_empty (w : World) : (w.alloc (.cells #[] 9)).ownsRow w.heap.size 9 1 (.slice (some ⟨w.heap.size, 0, none⟩) 0 0) ([] : List (List UInt8)).length (strsV []) :=
  ⟨rfl, .inr ⟨w.heap.size, 0, #[], rfl, Nat.le_refl _, World.alloc_heap_new w _, Nat.le_refl _, Nat.zero_le _, rfl, rfl⟩⟩
set_option maxRecDepth 100000 in
set_option maxHeartbeats 4000000 in
theorem walk (s t : ByteArray) (w : World) (hs : s.size ≤ maxLen) (ht : t.size ≤ maxLen) :
    Calls Try.prog 7 #[.string s, .string t] w fun e w' => e = .returned (.bool true) ∧ Below w.heap.size w w' := by
  have HA := Lib.hid (fun w => awake_any w)
  unfold maxLen at hs ht
  by_cases h1 : (100 : Int) < (s.size : Int)
  · go_enter Try.func7, Try.ntmps7
    go_wp2_with (go_at_call 8; refine (HA.out _).mono ?_; rintro e w1 ⟨rfl, hb⟩)
    go_ret
    exact ⟨rfl, by assumption⟩
  by_cases h2 : (100 : Int) < (t.size : Int)
  · go_enter Try.func7, Try.ntmps7
    go_wp2_with (go_at_call 8; refine (HA.out _).mono ?_; rintro e w1 ⟨rfl, hb⟩)
    go_ret
    exact ⟨rfl, by assumption⟩
  have hs2 : s.size ≤ 100 := by omega
  have ht2 : t.size ≤ 100 := by omega
  clear hs ht
  have HE := Lib.hid (fun w => Ended_any s w (by omega))
  have H2 := Lib.hid (fun w => Split_small t (by omega) w)
  by_cases h0 : s.size = 0
  · have e0 := empty_of s h0
    have e1 : s.toList.isEmpty = true := by rw [e0]; rfl
    have HXE : Hid (bs s = [] ∨ endedF (bs s) = true) := Lib.hid (.inl (List.eq_nil_of_length_eq_zero h0))
    have hxs := hs2
    clear h0 HE
    have HX : Hid (linesF (bs (s ++ t)) = linesF (bs s) ++ linesF (bs t)) := Lib.hid (by rw [bs_append]; exact linesF_append _ _ HXE.out)
    have H1 := Lib.hid (fun w => Split_small s (by omega) w)
    have H3 : Hid (∀ w, Calls Try.prog 10 #[.string (s ++ t)] w fun e w' => ∃ v, e = .returned (.tuple #[v, .int .i64 0]) ∧ RdS w' v (mks (linesF (bs s) ++ linesF (bs t))) ∧ Below w.heap.size w w') := Lib.hid (fun w => by rw [← HX.out]; exact Split_small _ (by rw [ByteArray.size_append]; omega) w)
    have hl1 : (linesF (bs s)).length ≤ 4096 := by have := linesF_le (bs s); rw [bs_len] at this; omega
    have hl2 : (linesF (bs t)).length ≤ 4096 := by have := linesF_le (bs t); rw [bs_len] at this; omega
    clear HXE hxs
    generalize linesF (bs s) = L1 at H1 H3 hl1
    generalize linesF (bs t) = L2 at H2 H3 hl2
    clear HX
    go_enter Try.func7, Try.ntmps7
    go_wp2_with fail
    refine (H1.out _).mono ?_
    rintro e w1 ⟨v1, rfl, r1, b1⟩
    have R1 := Lib.hid r1
    clear r1
    go_wp2_with fail
    refine (H2.out _).mono ?_
    rintro e w2 ⟨v2, rfl, r2, hb2⟩
    have R1b := Lib.hid (R1.out.below hb2)
    have R2 := Lib.hid r2
    have b2 := b1.trans (hb2.mono b1.size)
    clear r2 hb2 b1 R1
    go_wp2_with fail
    refine (H3.out _).mono ?_
    rintro e w3 ⟨v3, rfl, r3, hb3⟩
    have R1c := Lib.hid (R1b.out.below hb3)
    have R2c := Lib.hid (R2.out.below hb3)
    have R3 := Lib.hid r3
    have b3 := b2.trans (hb3.mono b2.size)
    clear r3 hb3 b2 R1b R2
    have HO := Lib.hid (own_empty w3)
    have ha : Below w3.heap.size w3 (w3.alloc (.cells #[] 9)) := (Below.refl _ w3).alloc (Nat.le_refl _) _
    have R1d := Lib.hid (R1c.out.below ha)
    have HLen1 : Hid ((mks L1).length ≤ 4096) := Lib.hid (by rw [mks_len]; exact hl1)
    have HLen2 : Hid ((mks L2).length ≤ 4096) := Lib.hid (by rw [mks_len]; exact hl2)
    have HLen3 : Hid ((mks (L1 ++ L2)).length ≤ 8192) := Lib.hid (by rw [mks_len, List.length_append]; omega)
    have HBL : Hid ((([] : List (List UInt8)) ++ bss (mks L1)).length ≤ 4096) := Lib.hid (by rw [List.nil_append, show bss (mks L1) = L1 from mks_map _]; exact hl1)
    have HQ : Hid ([] ++ bss (mks L1) ++ bss (mks L2) = L1 ++ L2) := Lib.hid (by rw [List.nil_append, show bss (mks L1) = L1 from mks_map _, show bss (mks L2) = L2 from mks_map _])
    clear hl1 hl2
    go_wp2_with (first
      | (at_builtin; refine app_rds rfl (.tmp 58) (.tmp 59) rfl w3.heap.size [] _ _ v1 rfl HO.out rfl R1d.out (by have := HLen1.out; simp only [List.length_nil]; omega) ha.size ?_; intro v4 w4 ho4 hb4; have HO4 := Lib.hid ho4; have b4 := ha.trans hb4; have R2d := Lib.hid (R2c.out.below b4); clear ho4 hb4)
      | (at_builtin; refine app_rds rfl (.tmp 60) (.tmp 61) rfl w3.heap.size _ _ _ v2 rfl HO4.out rfl R2d.out (by have h8 := HLen2.out; have h9 := HBL.out; omega) b4.size ?_; intro v5 w5 ho5 hb5; rw [HQ.out] at ho5; have R5 := Lib.hid (RdS.of_own ho5); have b5 := b4.trans hb5; have R3e := Lib.hid (R3.out.below b5); have b6 := b3.trans (b5.mono b3.size); clear ho5 hb5)
      | (go_at_call 14; refine (Strings_same _ _ _ _ (by have := HLen3.out; omega) R3e.out R5.out).mono ?_; rintro e w7 ⟨rfl, hb7⟩; have b7 := b6.trans (hb7.mono b6.size); clear hb7)
      | (go_at_call 8; refine (HA.out _).mono ?_; rintro e w8 ⟨rfl, hb8⟩))
    go_ret
    exact ⟨rfl, b7.trans (hb8.mono b7.size)⟩
  have hp : 0 < s.size := by omega
  have e0 := nonempty_of s hp
  have e1 : s.toList.isEmpty = false := by simpa using e0
  clear h0
  cases he : endedF (bs s) with
  | true =>
    have HXE : Hid (bs s = [] ∨ endedF (bs s) = true) := Lib.hid (.inr he)
    have hxs := hs2
    rw [he] at HE
    clear he
    have HX : Hid (linesF (bs (s ++ t)) = linesF (bs s) ++ linesF (bs t)) := Lib.hid (by rw [bs_append]; exact linesF_append _ _ HXE.out)
    have H1 := Lib.hid (fun w => Split_small s (by omega) w)
    have H3 : Hid (∀ w, Calls Try.prog 10 #[.string (s ++ t)] w fun e w' => ∃ v, e = .returned (.tuple #[v, .int .i64 0]) ∧ RdS w' v (mks (linesF (bs s) ++ linesF (bs t))) ∧ Below w.heap.size w w') := Lib.hid (fun w => by rw [← HX.out]; exact Split_small _ (by rw [ByteArray.size_append]; omega) w)
    have hl1 : (linesF (bs s)).length ≤ 4096 := by have := linesF_le (bs s); rw [bs_len] at this; omega
    have hl2 : (linesF (bs t)).length ≤ 4096 := by have := linesF_le (bs t); rw [bs_len] at this; omega
    clear HXE hxs
    generalize linesF (bs s) = L1 at H1 H3 hl1
    generalize linesF (bs t) = L2 at H2 H3 hl2
    clear HX
    go_enter Try.func7, Try.ntmps7
    go_wp2_with (go_at_call 18; refine (HE.out _).mono ?_; rintro e w1 ⟨rfl, rfl⟩)
    refine (H1.out _).mono ?_
    rintro e w1 ⟨v1, rfl, r1, b1⟩
    have R1 := Lib.hid r1
    clear r1
    go_wp2_with fail
    refine (H2.out _).mono ?_
    rintro e w2 ⟨v2, rfl, r2, hb2⟩
    have R1b := Lib.hid (R1.out.below hb2)
    have R2 := Lib.hid r2
    have b2 := b1.trans (hb2.mono b1.size)
    clear r2 hb2 b1 R1
    go_wp2_with fail
    refine (H3.out _).mono ?_
    rintro e w3 ⟨v3, rfl, r3, hb3⟩
    have R1c := Lib.hid (R1b.out.below hb3)
    have R2c := Lib.hid (R2.out.below hb3)
    have R3 := Lib.hid r3
    have b3 := b2.trans (hb3.mono b2.size)
    clear r3 hb3 b2 R1b R2
    have HO := Lib.hid (own_empty w3)
    have ha : Below w3.heap.size w3 (w3.alloc (.cells #[] 9)) := (Below.refl _ w3).alloc (Nat.le_refl _) _
    have R1d := Lib.hid (R1c.out.below ha)
    have HLen1 : Hid ((mks L1).length ≤ 4096) := Lib.hid (by rw [mks_len]; exact hl1)
    have HLen2 : Hid ((mks L2).length ≤ 4096) := Lib.hid (by rw [mks_len]; exact hl2)
    have HLen3 : Hid ((mks (L1 ++ L2)).length ≤ 8192) := Lib.hid (by rw [mks_len, List.length_append]; omega)
    have HBL : Hid ((([] : List (List UInt8)) ++ bss (mks L1)).length ≤ 4096) := Lib.hid (by rw [List.nil_append, show bss (mks L1) = L1 from mks_map _]; exact hl1)
    have HQ : Hid ([] ++ bss (mks L1) ++ bss (mks L2) = L1 ++ L2) := Lib.hid (by rw [List.nil_append, show bss (mks L1) = L1 from mks_map _, show bss (mks L2) = L2 from mks_map _])
    clear hl1 hl2
    go_wp2_with (first
      | (at_builtin; refine app_rds rfl (.tmp 58) (.tmp 59) rfl w3.heap.size [] _ _ v1 rfl HO.out rfl R1d.out (by have := HLen1.out; simp only [List.length_nil]; omega) ha.size ?_; intro v4 w4 ho4 hb4; have HO4 := Lib.hid ho4; have b4 := ha.trans hb4; have R2d := Lib.hid (R2c.out.below b4); clear ho4 hb4)
      | (at_builtin; refine app_rds rfl (.tmp 60) (.tmp 61) rfl w3.heap.size _ _ _ v2 rfl HO4.out rfl R2d.out (by have h8 := HLen2.out; have h9 := HBL.out; omega) b4.size ?_; intro v5 w5 ho5 hb5; rw [HQ.out] at ho5; have R5 := Lib.hid (RdS.of_own ho5); have b5 := b4.trans hb5; have R3e := Lib.hid (R3.out.below b5); have b6 := b3.trans (b5.mono b3.size); clear ho5 hb5)
      | (go_at_call 14; refine (Strings_same _ _ _ _ (by have := HLen3.out; omega) R3e.out R5.out).mono ?_; rintro e w7 ⟨rfl, hb7⟩; have b7 := b6.trans (hb7.mono b6.size); clear hb7)
      | (go_at_call 8; refine (HA.out _).mono ?_; rintro e w8 ⟨rfl, hb8⟩))
    go_ret
    exact ⟨rfl, b7.trans (hb8.mono b7.size)⟩
  | false =>
    have HXE : Hid (bs (s ++ ⟨#[10]⟩) = [] ∨ endedF (bs (s ++ ⟨#[10]⟩)) = true) := Lib.hid (.inr (by rw [bs_append]; unfold endedF; simp))
    have hxs : (s ++ ⟨#[10]⟩).size ≤ 101 := by rw [ByteArray.size_append]; have : (ByteArray.mk #[10]).size = 1 := rfl; omega
    rw [he] at HE
    clear he
    have HX : Hid (linesF (bs ((s ++ ⟨#[10]⟩) ++ t)) = linesF (bs (s ++ ⟨#[10]⟩)) ++ linesF (bs t)) := Lib.hid (by rw [bs_append]; exact linesF_append _ _ HXE.out)
    have H1 := Lib.hid (fun w => Split_small (s ++ ⟨#[10]⟩) (by omega) w)
    have H3 : Hid (∀ w, Calls Try.prog 10 #[.string ((s ++ ⟨#[10]⟩) ++ t)] w fun e w' => ∃ v, e = .returned (.tuple #[v, .int .i64 0]) ∧ RdS w' v (mks (linesF (bs (s ++ ⟨#[10]⟩)) ++ linesF (bs t))) ∧ Below w.heap.size w w') := Lib.hid (fun w => by rw [← HX.out]; exact Split_small _ (by rw [ByteArray.size_append]; omega) w)
    have hl1 : (linesF (bs (s ++ ⟨#[10]⟩))).length ≤ 4096 := by have := linesF_le (bs (s ++ ⟨#[10]⟩)); rw [bs_len] at this; omega
    have hl2 : (linesF (bs t)).length ≤ 4096 := by have := linesF_le (bs t); rw [bs_len] at this; omega
    clear HXE hxs
    generalize linesF (bs (s ++ ⟨#[10]⟩)) = L1 at H1 H3 hl1
    generalize linesF (bs t) = L2 at H2 H3 hl2
    clear HX
    go_enter Try.func7, Try.ntmps7
    go_wp2_with (go_at_call 18; refine (HE.out _).mono ?_; rintro e w1 ⟨rfl, rfl⟩)
    refine (H1.out _).mono ?_
    rintro e w1 ⟨v1, rfl, r1, b1⟩
    have R1 := Lib.hid r1
    clear r1
    go_wp2_with fail
    refine (H2.out _).mono ?_
    rintro e w2 ⟨v2, rfl, r2, hb2⟩
    have R1b := Lib.hid (R1.out.below hb2)
    have R2 := Lib.hid r2
    have b2 := b1.trans (hb2.mono b1.size)
    clear r2 hb2 b1 R1
    go_wp2_with fail
    refine (H3.out _).mono ?_
    rintro e w3 ⟨v3, rfl, r3, hb3⟩
    have R1c := Lib.hid (R1b.out.below hb3)
    have R2c := Lib.hid (R2.out.below hb3)
    have R3 := Lib.hid r3
    have b3 := b2.trans (hb3.mono b2.size)
    clear r3 hb3 b2 R1b R2
    have HO := Lib.hid (own_empty w3)
    have ha : Below w3.heap.size w3 (w3.alloc (.cells #[] 9)) := (Below.refl _ w3).alloc (Nat.le_refl _) _
    have R1d := Lib.hid (R1c.out.below ha)
    have HLen1 : Hid ((mks L1).length ≤ 4096) := Lib.hid (by rw [mks_len]; exact hl1)
    have HLen2 : Hid ((mks L2).length ≤ 4096) := Lib.hid (by rw [mks_len]; exact hl2)
    have HLen3 : Hid ((mks (L1 ++ L2)).length ≤ 8192) := Lib.hid (by rw [mks_len, List.length_append]; omega)
    have HBL : Hid ((([] : List (List UInt8)) ++ bss (mks L1)).length ≤ 4096) := Lib.hid (by rw [List.nil_append, show bss (mks L1) = L1 from mks_map _]; exact hl1)
    have HQ : Hid ([] ++ bss (mks L1) ++ bss (mks L2) = L1 ++ L2) := Lib.hid (by rw [List.nil_append, show bss (mks L1) = L1 from mks_map _, show bss (mks L2) = L2 from mks_map _])
    clear hl1 hl2
    go_wp2_with (first
      | (at_builtin; refine app_rds rfl (.tmp 58) (.tmp 59) rfl w3.heap.size [] _ _ v1 rfl HO.out rfl R1d.out (by have := HLen1.out; simp only [List.length_nil]; omega) ha.size ?_; intro v4 w4 ho4 hb4; have HO4 := Lib.hid ho4; have b4 := ha.trans hb4; have R2d := Lib.hid (R2c.out.below b4); clear ho4 hb4)
      | (at_builtin; refine app_rds rfl (.tmp 60) (.tmp 61) rfl w3.heap.size _ _ _ v2 rfl HO4.out rfl R2d.out (by have h8 := HLen2.out; have h9 := HBL.out; omega) b4.size ?_; intro v5 w5 ho5 hb5; rw [HQ.out] at ho5; have R5 := Lib.hid (RdS.of_own ho5); have b5 := b4.trans hb5; have R3e := Lib.hid (R3.out.below b5); have b6 := b3.trans (b5.mono b3.size); clear ho5 hb5)
      | (go_at_call 14; refine (Strings_same _ _ _ _ (by have := HLen3.out; omega) R3e.out R5.out).mono ?_; rintro e w7 ⟨rfl, hb7⟩; have b7 := b6.trans (hb7.mono b6.size); clear hb7)
      | (go_at_call 8; refine (HA.out _).mono ?_; rintro e w8 ⟨rfl, hb8⟩))
    go_ret
    exact ⟨rfl, b7.trans (hb8.mono b7.size)⟩
set_option maxRecDepth 100000 in
theorem lifted (os : Os) (started : os.Started) (H : Type) (enc : TypeId × Value → H) :
    ReturnsInHanded {} Try.checked os 7 .any (Rows.textConcatenatesSpec.pre6 enc Try.prog Try.f7 Rows.textConcatenatesRow.domain false) (Rows.textConcatenatesSpec.post enc Try.prog Try.f7 false true false false) := by
  refine returnsInHanded_of_change (C := Try.checked) own started (by kernel_rfl) Try.func7
    (ChangeSpec.witness6 (enc := enc) (C := Try.checked) false ⟨#[], #[.string ⟨#[]⟩, .string ⟨#[]⟩], []⟩ 8 (by kernel_rfl) (by kernel_rfl) (by kernel_rfl) (by kernel_rfl)) ?_
  intro W base args ds gs before hval0 hW _ _
  have hval : ∀ (j : Nat) t v, Try.f7.params[j]? = some t → args[j]? = some v → Value.okWide Try.prog W .any base t v := hval0
  have hW' := hW
  obtain ⟨p, q, hA0, hV, rfl, hfz, hnd⟩ := hW
  have hA : DataW.TrodAll enc Try.prog W 0 (fun _ => true) true Try.f7.params.toList args.toList ds p := hA0
  rw [Try.params7] at hA hval
  obtain ⟨v0, v1, d0, d1, p0, p1, rfl, rfl, rfl, h0, h1⟩ := trodAll_two hA
  obtain ⟨rfl, rfl⟩ := trodVars_none hV
  obtain ⟨s, rfl, rfl, rfl, ws⟩ := open_string Try.underlying9 (hval 0 9 v0 rfl rfl) h0
  obtain ⟨t, rfl, rfl, rfl, wt⟩ := open_string Try.underlying9 (hval 1 9 v1 rfl rfl) h1
  clear hA0 hval0
  simp only [List.append_nil] at hW'
  refine (walk s t W ws wt).mono fun e W' ⟨he, hbel⟩ => ?_
  subst he
  exact ⟨_, rfl, _, _, _, [], _, [], hW', trodAll_mk1 (shut_bool Try.underlying4 _), trodAll_mk2 (shut_string Try.underlying9 ws) (shut_string Try.underlying9 wt), rfl, hbel.frame _, fun h => by cases h⟩
theorem row_holds : Rows.TextConcatenatesSaid :=
  OpenClaim.holds_of_wide 7 Try.f7 rfl rfl rfl rfl rfl rfl rfl ⟨rfl, rfl, rfl, rfl, rfl⟩ rfl rfl rfl rfl rfl (by kernel_rfl) Try.func7 (by kernel_rfl)
    (of_decide_eq_true (by kernel_rfl)) (by unfold Func.isWrapper; first | (rw [if_pos (by decide +kernel)]; kernel_rfl) | (rw [if_neg (by decide +kernel)]; exact ⟨rfl, rfl⟩))
    (fun os started H enc _ => lifted os started H enc)
end Tx.TextConcatenates
end Go.Proofs.Ytfhbffplbjmgoaa
