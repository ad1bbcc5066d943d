/-
  Proved: the law ScanQuotes of layer 1 returns true for every two texts and every offset, and its arguments read as before. Conditions: the package variables hold what the program's text lays (the card ties that).
-/
import Derived.Test.YtgfinppppgpleaaDoorScanUnqS
import Derived.Test.YtgfinppppgpleaaDoorScanFrame
import Derived.Test.YtgfinppppgpleaaDoorScanAwake
import Derived.Test.YtgfinppppgpleaaDoorCards
import Derived.Test.YtgfinppppgpleaaDoorTie
import Derived.SevenTiedAt
namespace Go.Proofs.YtgfinppppgpleaaDoor
open Go.ChangeShapes Go.WideShapes Go.ChangeAt Go.RowKit
open Go.ChangeMaps (open_string shut_string)
namespace Sc.Quotes

theorem unqV_shape (r : Option (List UInt8 × Nat)) : ∃ (x : ByteArray) (y : Int) (z : Bool), unqV r = .tuple #[.string x, .int .i64 y, .bool z] := by
  cases r with
  | none => exact ⟨_, _, _, rfl⟩
  | some p => exact ⟨_, _, _, rfl⟩
set_option maxRecDepth 100000 in
set_option maxHeartbeats 1600000 in
theorem walk (s t : ByteArray) (k : Int) (w : World) (hs : s.size ≤ maxLen) (ht : t.size ≤ maxLen) (_hk0 : -9223372036854775808 ≤ k) (_hk1 : k ≤ 9223372036854775807) (hp : Pow w) :
    Calls Tryd.prog 7 #[.string s, .string t, .int .i64 k] w fun e w' => e = .returned (.bool true) ∧ Below w.heap.size w w' := by
  unfold maxLen at hs ht
  have HP := Lib.hid hp
  have HA := Lib.hid (fun w (h : Pow w) => awake_any w h)
  clear hp
  by_cases hs6 : (60 : Int) < (s.size : Int)
  · go_enter Tryd.func7, Tryd.ntmps7
    go_wp2_with (go_at_call 10; refine (HA.out _ HP.out).mono ?_; rintro e w1 ⟨rfl, hb⟩)
    go_ret
    exact ⟨rfl, by assumption⟩
  by_cases ht6 : (60 : Int) < (t.size : Int)
  · go_enter Tryd.func7, Tryd.ntmps7
    go_wp2_with (go_at_call 10; refine (HA.out _ HP.out).mono ?_; rintro e w1 ⟨rfl, hb⟩)
    go_ret
    exact ⟨rfl, by assumption⟩
  have hs' : s.size ≤ 60 := by omega
  have ht' : t.size ≤ 60 := by omega
  have hq : (ByteArray.mk #[34] ++ t).size ≤ 1048576 := by
    have : (ByteArray.mk #[34]).size = 1 := rfl
    rw [ByteArray.size_append, this]; omega
  obtain ⟨x1, y1, z1, e1⟩ := unqV_shape (unqF (bs t) k)
  obtain ⟨x2, y2, z2, e2⟩ := unqV_shape (unqF (bs (ByteArray.mk #[34] ++ t)) 0)
  have N1 : Hid (∀ w, Calls Tryd.prog 20 #[.string t, .int .i64 k] w fun e w' => e = .returned (.tuple #[.string x1, .int .i64 y1, .bool z1]) ∧ Below w.heap.size w w') := Lib.hid (by rw [← e1]; exact fun w => Unquote_any t k w (by omega))
  have R1 : Hid (∀ w, Calls Tryd.prog 21 #[.string t, .int .i64 k] w fun e w' => e = .returned (.tuple #[.string x1, .int .i64 y1, .bool z1]) ∧ Below w.heap.size w w') := Lib.hid (by rw [← e1]; exact fun w => UnquoteR_any t k w (by omega))
  have N2 : Hid (∀ w, Calls Tryd.prog 20 #[.string (ByteArray.mk #[34] ++ t), .int .i64 0] w fun e w' => e = .returned (.tuple #[.string x2, .int .i64 y2, .bool z2]) ∧ Below w.heap.size w w') := Lib.hid (by rw [← e2]; exact fun w => Unquote_any _ 0 w hq)
  have R2 : Hid (∀ w, Calls Tryd.prog 21 #[.string (ByteArray.mk #[34] ++ t), .int .i64 0] w fun e w' => e = .returned (.tuple #[.string x2, .int .i64 y2, .bool z2]) ∧ Below w.heap.size w w') := Lib.hid (by rw [← e2]; exact fun w => UnquoteR_any _ 0 w hq)
  obtain ⟨F, hF⟩ : ∃ F : ByteArray, F = ⟨(quoteF (bs s)).toArray⟩ := ⟨_, rfl⟩
  have HF : Hid (∀ w, Calls Tryd.prog 22 #[.string s] w fun e w' => e = .returned (.string F) ∧ Below w.heap.size w w') := Lib.hid (by rw [hF]; exact fun w => Quote_any s w (by omega))
  have HG : Hid (∀ w, Calls Tryd.prog 23 #[.string s] w fun e w' => e = .returned (.string F) ∧ Below w.heap.size w w') := Lib.hid (by rw [hF]; exact fun w => QuoteR_any s w (by omega))
  clear e1 e2 hF hs ht hq
  go_enter Tryd.func7, Tryd.ntmps7
  go_wp2_with fail
  refine (N1.out _).mono ?_
  rintro e w1 ⟨rfl, hb1⟩
  go_wp2_with fail
  refine (R1.out _).mono ?_
  rintro e w2 ⟨rfl, hb2⟩
  have b2 := hb1.trans (hb2.mono hb1.size)
  clear hb1 hb2
  go_wp2_with fail
  refine (N2.out _).mono ?_
  rintro e w3 ⟨rfl, hb3⟩
  have b3 := b2.trans (hb3.mono b2.size)
  clear b2 hb3
  go_wp2_with fail
  refine (R2.out _).mono ?_
  rintro e w4 ⟨rfl, hb4⟩
  have b4 := b3.trans (hb4.mono b3.size)
  clear b3 hb4
  go_wp2_with fail
  refine (HF.out _).mono ?_
  rintro e w5 ⟨rfl, hb5⟩
  have b5 := b4.trans (hb5.mono b4.size)
  clear b4 hb5
  go_wp2_with fail
  refine (HG.out _).mono ?_
  rintro e w6 ⟨rfl, hb6⟩
  have b6 := b5.trans (hb6.mono b5.size)
  have HP6 := Lib.hid (HP.out.stays b6)
  clear b5 hb6
  go_wp2_with (go_at_call 10; refine (HA.out _ HP6.out).mono ?_; rintro e w7 ⟨rfl, hb7⟩)
  go_ret
  exact ⟨rfl, b6.trans (hb7.mono b6.size)⟩
set_option maxRecDepth 100000 in
theorem lifted (os : Os) (started : os.Started) (H : Type) (enc : TypeId × Value → H) :
    ReturnsInHanded {} Tryd.checked os 7 .any (fun w args => (Rows.scanQuotesSpec.pre enc Tryd.prog Tryd.f7 [] false w args ∧ laidMetH Tryd.prog laid3 w) ∧ sizedMet enc Tryd.prog Tryd.f7 (OpenSpec.ofChange Rows.scanQuotesSpec) false w args)
      (Rows.scanQuotesSpec.post enc Tryd.prog Tryd.f7 false true false false) := by
  refine returnsInHanded_of_change_and (C := Tryd.checked) (X := fun w _ => laidMetH Tryd.prog laid3 w) (fun _ _ _ hh h => h.of_heap hh) own started (by kernel_rfl) Tryd.func7
    (ChangeSpec.witness_shaped (enc := enc) (C := Tryd.checked) (os := os) (X := fun w _ => laidMetH Tryd.prog laid3 w) false (World.doorLaid Tryd.prog 600 os) #[.string ⟨#[]⟩, .string ⟨#[]⟩, .int .i64 0] 8 rfl (World.shaped_of_RefB (by kernel_rfl) (by kernel_rfl)) (by kernel_rfl) (by kernel_rfl) (by kernel_rfl) (door_met os _)) ?_
  intro W base args ds gs before hval0 hW _ _ hL _
  have hval : ∀ (j : Nat) t v, Tryd.f7.params[j]? = some t → args[j]? = some v → Value.okWide Tryd.prog W .any base t v := hval0
  have hW' := hW
  obtain ⟨p, q, hA0, hV, rfl, hfz, hnd⟩ := hW
  have hA : DataW.TrodAll enc Tryd.prog W 0 (fun _ => true) true Tryd.f7.params.toList args.toList ds p := hA0
  rw [Tryd.params7] at hA hval
  obtain ⟨v0, v1, v2, d0, d1, d2, p0, p1, p2, rfl, rfl, rfl, h0, h1, h2⟩ := trodAll_three hA
  obtain ⟨rfl, rfl⟩ := trodVars_none hV
  obtain ⟨s, rfl, rfl, rfl, ws⟩ := open_string Tryd.underlying9 (hval 0 9 v0 rfl rfl) h0
  obtain ⟨t, rfl, rfl, rfl, wt⟩ := open_string Tryd.underlying9 (hval 1 9 v1 rfl rfl) h1
  obtain ⟨k, rfl, rfl, rfl, wk⟩ := open_int Tryd.underlying3 (hval 2 3 v2 rfl rfl) h2
  have bk := bounds_i64 wk
  have hp := pow_of_laid hL
  clear hA0 hval0
  simp only [List.append_nil] at hW'
  refine (walk s t k W ws wt bk.1 bk.2 hp).mono fun e W' ⟨he, hbel⟩ => ?_
  subst he
  exact ⟨_, rfl, post_of_below (pa := []) (pv := []) hW' (fun _ _ _ => trodAll_mk1 (shut_bool Tryd.underlying4 _)) (fun sp _ => trodAll_mk3 (shut_string Tryd.underlying9 ws) (shut_string Tryd.underlying9 wt) (shut_int Tryd.underlying3 wk)) (fun _ _ => rfl) rfl hbel (ok_one (by kernel_rfl) rfl (okWide_bool_mk Tryd.underlying4 _))⟩
theorem row_holds : Rows.ScanQuotesSaid :=
  OpenClaim.holds_of_wide 7 Tryd.f7 rfl rfl rfl rfl rfl rfl rfl ⟨rfl, rfl, rfl, rfl, rfl⟩ rfl rfl rfl rfl rfl (by kernel_rfl) Tryd.func7 (by kernel_rfl)
    (of_decide_eq_true (by kernel_rfl)) (by unfold Func.isWrapper; first | (rw [if_pos (by decide +kernel)]; kernel_rfl) | (rw [if_neg (by decide +kernel)]; exact ⟨rfl, rfl⟩))
    (fun os started H enc _ => lifted os started H enc)
theorem card_holds : Rows.ScanQuotesCardSaid :=
  Claim7.holds_tied_plain_at .later [] Rows.scanQuotesCard.laidKinds true Rows.scanQuotesCard.stood.harness false
    row_holds (fun _ h => by cases h) (by kernel_rfl) (fun _ h => by cases h) scanQuotes_row_tie rfl ⟨rfl, rfl⟩ (by kernel_rfl) rfl
    (fun f fn hf hfn => by
      obtain rfl : f = 7 := Option.some.inj ((show Tryd.prog.funcNamed Rows.scanQuotesRow.func = some 7 by kernel_rfl).symm.trans hf) |>.symm
      obtain rfl : fn = Tryd.f7 := (Option.some.inj (Tryd.func7.symm.trans hfn)).symm
      exact ⟨by kernel_rfl, fun j t ht => by
        have hm : t ∈ Tryd.f7.params.toList := by simpa using Array.mem_of_getElem? ht
        have hall : (Tryd.f7.params.toList.all fun u => !Tryd.prog.wantsStandIn u) = true := by kernel_rfl
        show Tryd.prog.wantsStandIn t = false
        simpa using List.all_eq_true.1 hall t hm⟩)
    (by kernel_rfl)
end Sc.Quotes
end Go.Proofs.YtgfinppppgpleaaDoor
