/-
  Proved: the law ScanRanges of layer 1 returns true for every start, count, text and offset, and its arguments read as before. Conditions: the package variables hold what the program's text lays (the card ties that).
-/
import Derived.Test.YtgfinppppgpleaaDoorScanRange
import Derived.Test.YtgfinppppgpleaaDoorScanMod
import Derived.Test.YtgfinppppgpleaaDoorScanFrame
import Derived.Test.YtgfinppppgpleaaDoorScanAwake
import Derived.Test.YtgfinppppgpleaaDoorCards
import Derived.Test.YtgfinppppgpleaaDoorTie
import Derived.SevenTiedAt
namespace Go.Proofs.YtgfinppppgpleaaDoor
open Go.ChangeShapes Go.WideShapes Go.ChangeAt Go.RowKit
open Go.ChangeMaps (open_string shut_string)
namespace Sc.Ranges

theorem rngV_shape (r : Option (Int × Nat × Nat)) : ∃ (x y z : Int) (b : Bool), rngV r = .tuple #[.int .i64 x, .int .i64 y, .int .i64 z, .bool b] := by
  cases r with
  | none => exact ⟨_, _, _, _, rfl⟩
  | some p => exact ⟨_, _, _, _, rfl⟩
set_option maxRecDepth 100000 in
set_option maxHeartbeats 1600000 in
theorem walk (a c : Int) (s : ByteArray) (k : Int) (w : World) (ha0 : -9223372036854775808 ≤ a) (ha1 : a ≤ 9223372036854775807) (hc0 : -9223372036854775808 ≤ c) (hc1 : c ≤ 9223372036854775807) (hs : s.size ≤ maxLen) (_hk0 : -9223372036854775808 ≤ k) (_hk1 : k ≤ 9223372036854775807) (hp : Pow w) :
    Calls Tryd.prog 5 #[.int .i64 a, .int .i64 c, .string s, .int .i64 k] w fun e w' => e = .returned (.bool true) ∧ Below w.heap.size w w' := by
  unfold maxLen at hs
  have HP := Lib.hid hp
  have HA := Lib.hid (fun w (h : Pow w) => awake_any w h)
  clear hp
  by_cases hs6 : (60 : Int) < (s.size : Int)
  · go_enter Tryd.func5, Tryd.ntmps5
    go_wp2_with (go_at_call 10; refine (HA.out _ HP.out).mono ?_; rintro e w1 ⟨rfl, hb⟩)
    go_ret
    exact ⟨rfl, by assumption⟩
  have hs' : s.size ≤ 60 := by omega
  have M1 : Hid (∀ w, Calls Tryd.prog 13 #[.int .i64 a, .int .i64 1000] w fun e w' => e = .returned (.int .i64 (modF a 1000)) ∧ w = w') := Lib.hid (fun w => Mod_any a _ w (by omega) (by omega) ha0 ha1)
  have M2 : Hid (∀ w, Calls Tryd.prog 13 #[.int .i64 c, .int .i64 5] w fun e w' => e = .returned (.int .i64 (modF c 5)) ∧ w = w') := Lib.hid (fun w => Mod_any c _ w (by omega) (by omega) hc0 hc1)
  have m1 := modF_lo a 1000 (by omega)
  have m2 := modF_hi a 1000 (by omega)
  have m3 := modF_lo c 5 (by omega)
  have m4 := modF_hi c 5 (by omega)
  generalize modF a 1000 = x at M1 m1 m2
  generalize modF c 5 = y at M2 m3 m4
  obtain ⟨T, hT⟩ : ∃ F : ByteArray, F = ⟨(fmtR x y).toArray⟩ := ⟨_, rfl⟩
  have hTs : T.size ≤ 43 := by rw [hT, size_mk]; exact fmtR_len x y
  have HT : Hid (∀ w, Calls Tryd.prog 18 #[.int .i64 x, .int .i64 y] w fun e w' => e = .returned (.string T) ∧ Below w.heap.size w w') := Lib.hid (by rw [hT]; exact fun w => FormatRangeR_any x y w (by omega) (by omega) (by omega) (by omega))
  obtain ⟨F, hF⟩ : ∃ F : ByteArray, F = ⟨(fmtR a c).toArray⟩ := ⟨_, rfl⟩
  have HF : Hid (∀ w, Pow w → Calls Tryd.prog 19 #[.int .i64 a, .int .i64 c] w fun e w' => e = .returned (.string F) ∧ Below w.heap.size w w') := Lib.hid (by rw [hF]; exact fun w h => FormatRange_any a c w ha0 ha1 hc0 hc1 h)
  have HG : Hid (∀ w, Calls Tryd.prog 18 #[.int .i64 a, .int .i64 c] w fun e w' => e = .returned (.string F) ∧ Below w.heap.size w w') := Lib.hid (by rw [hF]; exact fun w => FormatRangeR_any a c w ha0 ha1 hc0 hc1)
  have hTS : (T ++ s).size ≤ 4611686018427387904 := by rw [ByteArray.size_append]; omega
  obtain ⟨x1, y1, z1, b1, e1⟩ := rngV_shape (rngF (bs s) k)
  obtain ⟨x2, y2, z2, b2, e2⟩ := rngV_shape (rngF (bs (T ++ s)) 0)
  have N1 : Hid (∀ w, Pow w → Calls Tryd.prog 16 #[.string s, .int .i64 k] w fun e w' => e = .returned (.tuple #[.int .i64 x1, .int .i64 y1, .int .i64 z1, .bool b1]) ∧ Below w.heap.size w w') := Lib.hid (by rw [← e1]; exact fun w h => Range_any s k w (by omega) h)
  have R1 : Hid (∀ w, Calls Tryd.prog 17 #[.string s, .int .i64 k] w fun e w' => e = .returned (.tuple #[.int .i64 x1, .int .i64 y1, .int .i64 z1, .bool b1]) ∧ Below w.heap.size w w') := Lib.hid (by rw [← e1]; exact fun w => RangeR_any s k w (by omega))
  have N2 : Hid (∀ w, Pow w → Calls Tryd.prog 16 #[.string (T ++ s), .int .i64 0] w fun e w' => e = .returned (.tuple #[.int .i64 x2, .int .i64 y2, .int .i64 z2, .bool b2]) ∧ Below w.heap.size w w') := Lib.hid (by rw [← e2]; exact fun w h => Range_any (T ++ s) 0 w hTS h)
  have R2 : Hid (∀ w, Calls Tryd.prog 17 #[.string (T ++ s), .int .i64 0] w fun e w' => e = .returned (.tuple #[.int .i64 x2, .int .i64 y2, .int .i64 z2, .bool b2]) ∧ Below w.heap.size w w') := Lib.hid (by rw [← e2]; exact fun w => RangeR_any (T ++ s) 0 w hTS)
  clear e1 e2 hF hT hs ha0 ha1 hc0 hc1 m1 m2 m3 m4 hTS
  go_enter Tryd.func5, Tryd.ntmps5
  go_wp2_with fail
  refine (N1.out _ HP.out).mono ?_
  rintro e w1 ⟨rfl, hb1⟩
  go_wp2_with fail
  refine (R1.out _).mono ?_
  rintro e w2 ⟨rfl, hb2⟩
  have hb12 := hb1.trans (hb2.mono hb1.size)
  clear hb1 hb2
  go_wp2_with fail
  refine (M1.out _).mono ?_
  rintro e w3 ⟨rfl, rfl⟩
  go_wp2_with fail
  refine (M2.out _).mono ?_
  rintro e w3 ⟨rfl, rfl⟩
  go_wp2_with fail
  refine (HT.out _).mono ?_
  rintro e w3 ⟨rfl, hb3⟩
  have hb13 := hb12.trans (hb3.mono hb12.size)
  have HP3 := Lib.hid (HP.out.stays hb13)
  clear hb12 hb3
  go_wp2_with fail
  refine (N2.out _ HP3.out).mono ?_
  rintro e w4 ⟨rfl, hb4⟩
  go_wp2_with fail
  refine (R2.out _).mono ?_
  rintro e w5 ⟨rfl, hb5⟩
  have hb14 := hb13.trans (hb4.mono hb13.size)
  have hb15 := hb14.trans (hb5.mono hb14.size)
  have HP5 := Lib.hid (HP.out.stays hb15)
  clear hb13 hb14 hb4 hb5
  go_wp2_with fail
  refine (HF.out _ HP5.out).mono ?_
  rintro e w6 ⟨rfl, hb6⟩
  go_wp2_with fail
  refine (HG.out _).mono ?_
  rintro e w7 ⟨rfl, hb7⟩
  have hb16 := hb15.trans (hb6.mono hb15.size)
  have hb17 := hb16.trans (hb7.mono hb16.size)
  have HP7 := Lib.hid (HP.out.stays hb17)
  clear hb15 hb16 hb6 hb7
  go_wp2_with (go_at_call 10; refine (HA.out _ HP7.out).mono ?_; rintro e w8 ⟨rfl, hb8⟩)
  go_ret
  exact ⟨rfl, hb17.trans (hb8.mono hb17.size)⟩
set_option maxRecDepth 100000 in
theorem lifted (os : Os) (started : os.Started) (H : Type) (enc : TypeId × Value → H) :
    ReturnsInHanded {} Tryd.checked os 5 .any (fun w args => (Rows.scanRangesSpec.pre enc Tryd.prog Tryd.f5 [] false w args ∧ laidMetH Tryd.prog laid3 w) ∧ sizedMet enc Tryd.prog Tryd.f5 (OpenSpec.ofChange Rows.scanRangesSpec) false w args)
      (Rows.scanRangesSpec.post enc Tryd.prog Tryd.f5 false true false false) := by
  refine returnsInHanded_of_change_and (C := Tryd.checked) (X := fun w _ => laidMetH Tryd.prog laid3 w) (fun _ _ _ hh h => h.of_heap hh) own started (by kernel_rfl) Tryd.func5
    (ChangeSpec.witness_shaped (enc := enc) (C := Tryd.checked) (os := os) (X := fun w _ => laidMetH Tryd.prog laid3 w) false (World.doorLaid Tryd.prog 600 os) #[.int .i64 0, .int .i64 0, .string ⟨#[]⟩, .int .i64 0] 8 rfl (World.shaped_of_RefB (by kernel_rfl) (by kernel_rfl)) (by kernel_rfl) (by kernel_rfl) (by kernel_rfl) (door_met os _)) ?_
  intro W base args ds gs before hval0 hW _ _ hL _
  have hval : ∀ (j : Nat) t v, Tryd.f5.params[j]? = some t → args[j]? = some v → Value.okWide Tryd.prog W .any base t v := hval0
  have hW' := hW
  obtain ⟨p, q, hA0, hV, rfl, hfz, hnd⟩ := hW
  have hA : DataW.TrodAll enc Tryd.prog W 0 (fun _ => true) true Tryd.f5.params.toList args.toList ds p := hA0
  rw [Tryd.params5] at hA hval
  obtain ⟨v0, v1, v2, v3, d0, d1, d2, d3, p0, p1, p2, p3, rfl, rfl, rfl, h0, h1, h2, h3⟩ := trodAll_four hA
  obtain ⟨rfl, rfl⟩ := trodVars_none hV
  obtain ⟨a, rfl, rfl, rfl, wa⟩ := open_int Tryd.underlying3 (hval 0 3 v0 rfl rfl) h0
  have ba := bounds_i64 wa
  obtain ⟨c, rfl, rfl, rfl, wc⟩ := open_int Tryd.underlying3 (hval 1 3 v1 rfl rfl) h1
  have bc := bounds_i64 wc
  obtain ⟨s, rfl, rfl, rfl, ws⟩ := open_string Tryd.underlying9 (hval 2 9 v2 rfl rfl) h2
  obtain ⟨k, rfl, rfl, rfl, wk⟩ := open_int Tryd.underlying3 (hval 3 3 v3 rfl rfl) h3
  have bk := bounds_i64 wk
  have hp := pow_of_laid hL
  clear hA0 hval0
  simp only [List.append_nil] at hW'
  refine (walk a c s k W ba.1 ba.2 bc.1 bc.2 ws bk.1 bk.2 hp).mono fun e W' ⟨he, hbel⟩ => ?_
  subst he
  exact ⟨_, rfl, post_of_below (pa := []) (pv := []) hW' (fun _ _ _ => trodAll_mk1 (shut_bool Tryd.underlying4 _)) (fun sp _ => trodAll_mk4 (shut_int Tryd.underlying3 wa) (shut_int Tryd.underlying3 wc) (shut_string Tryd.underlying9 ws) (shut_int Tryd.underlying3 wk)) (fun _ _ => rfl) rfl hbel (ok_one (by kernel_rfl) rfl (okWide_bool_mk Tryd.underlying4 _))⟩
theorem row_holds : Rows.ScanRangesSaid :=
  OpenClaim.holds_of_wide 5 Tryd.f5 rfl rfl rfl rfl rfl rfl rfl ⟨rfl, rfl, rfl, rfl, rfl⟩ rfl rfl rfl rfl rfl (by kernel_rfl) Tryd.func5 (by kernel_rfl)
    (of_decide_eq_true (by kernel_rfl)) (by unfold Func.isWrapper; first | (rw [if_pos (by decide +kernel)]; kernel_rfl) | (rw [if_neg (by decide +kernel)]; exact ⟨rfl, rfl⟩))
    (fun os started H enc _ => lifted os started H enc)
theorem card_holds : Rows.ScanRangesCardSaid :=
  Claim7.holds_tied_plain_at .later [] Rows.scanRangesCard.laidKinds true Rows.scanRangesCard.stood.harness false
    row_holds (fun _ h => by cases h) (by kernel_rfl) (fun _ h => by cases h) scanRanges_row_tie rfl ⟨rfl, rfl⟩ (by kernel_rfl) rfl
    (fun f fn hf hfn => by
      obtain rfl : f = 5 := Option.some.inj ((show Tryd.prog.funcNamed Rows.scanRangesRow.func = some 5 by kernel_rfl).symm.trans hf) |>.symm
      obtain rfl : fn = Tryd.f5 := (Option.some.inj (Tryd.func5.symm.trans hfn)).symm
      exact ⟨by kernel_rfl, fun j t ht => by
        have hm : t ∈ Tryd.f5.params.toList := by simpa using Array.mem_of_getElem? ht
        have hall : (Tryd.f5.params.toList.all fun u => !Tryd.prog.wantsStandIn u) = true := by kernel_rfl
        show Tryd.prog.wantsStandIn t = false
        simpa using List.all_eq_true.1 hall t hm⟩)
    (by kernel_rfl)
end Sc.Ranges
end Go.Proofs.YtgfinppppgpleaaDoor
