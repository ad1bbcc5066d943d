/-
  Proved: the law ScanNumbers of layer 1 returns true for every number, text and offset, and its arguments read as before. Conditions: the package variables hold what the program's text lays (the card ties that).
-/
import Derived.Test.YtgfinppppgpleaaDoorScanNumR
import Derived.Test.YtgfinppppgpleaaDoorScanMod
import Derived.Test.YtgfinppppgpleaaDoorScanFrame
import Derived.Test.YtgfinppppgpleaaDoorScanAwake
import Derived.Test.YtgfinppppgpleaaDoorCards
import Derived.Test.YtgfinppppgpleaaDoorTie
import Derived.SevenTiedAt
namespace Go.Proofs.YtgfinppppgpleaaDoor
open Go.ChangeShapes Go.WideShapes Go.ChangeAt Go.RowKit
open Go.ChangeMaps (open_string shut_string)
namespace Sc.Numbers

theorem numV_shape (r : Option (Nat × Nat)) : ∃ (x y : Int) (z : Bool), numV r = .tuple #[.int .i64 x, .int .i64 y, .bool z] := by
  cases r with
  | none => exact ⟨_, _, _, rfl⟩
  | some p => exact ⟨_, _, _, rfl⟩
set_option maxRecDepth 100000 in
set_option maxHeartbeats 1600000 in
theorem walk (n : Int) (s : ByteArray) (k : Int) (w : World) (hn0 : -9223372036854775808 ≤ n) (hn1 : n ≤ 9223372036854775807) (hs : s.size ≤ maxLen) (hk0 : -9223372036854775808 ≤ k) (hk1 : k ≤ 9223372036854775807) (hp : Pow w) :
    Calls Tryd.prog 3 #[.int .i64 n, .string s, .int .i64 k] w fun e w' => e = .returned (.bool true) ∧ Below w.heap.size w w' := by
  unfold maxLen at hs
  have HP := Lib.hid hp
  have HA := Lib.hid (fun w (h : Pow w) => awake_any w h)
  clear hp
  by_cases hs6 : (60 : Int) < (s.size : Int)
  · go_enter Tryd.func3, Tryd.ntmps3
    go_wp2_with (go_at_call 10; refine (HA.out _ HP.out).mono ?_; rintro e w1 ⟨rfl, hb⟩)
    go_ret
    exact ⟨rfl, by assumption⟩
  have hs' : s.size ≤ 60 := by omega
  have hM : Hid (∀ w, Calls Tryd.prog 13 #[.int .i64 k, .int .i64 ((s.size : Int) + 1)] w fun e w' => e = .returned (.int .i64 (modF k ((s.size : Int) + 1))) ∧ w = w') := Lib.hid (fun w => Mod_any k _ w (by omega) (by omega) hk0 hk1)
  generalize modF k ((s.size : Int) + 1) = m at hM
  obtain ⟨x1, y1, z1, e1⟩ := numV_shape (numF (bs s) k)
  obtain ⟨x2, y2, z2, e2⟩ := numV_shape (numF (bs s) m)
  have N1 : Hid (∀ w, Calls Tryd.prog 11 #[.string s, .int .i64 k] w fun e w' => e = .returned (.tuple #[.int .i64 x1, .int .i64 y1, .bool z1]) ∧ w = w') := Lib.hid (by rw [← e1]; exact fun w => Number_any s k w (by omega))
  have R1 : Hid (∀ w, Calls Tryd.prog 12 #[.string s, .int .i64 k] w fun e w' => e = .returned (.tuple #[.int .i64 x1, .int .i64 y1, .bool z1]) ∧ w = w') := Lib.hid (by rw [← e1]; exact fun w => NumberR_any s k w (by omega))
  have N2 : Hid (∀ w, Calls Tryd.prog 11 #[.string s, .int .i64 m] w fun e w' => e = .returned (.tuple #[.int .i64 x2, .int .i64 y2, .bool z2]) ∧ w = w') := Lib.hid (by rw [← e2]; exact fun w => Number_any s m w (by omega))
  have R2 : Hid (∀ w, Calls Tryd.prog 12 #[.string s, .int .i64 m] w fun e w' => e = .returned (.tuple #[.int .i64 x2, .int .i64 y2, .bool z2]) ∧ w = w') := Lib.hid (by rw [← e2]; exact fun w => NumberR_any s m w (by omega))
  obtain ⟨F, hF⟩ : ∃ F : ByteArray, F = ⟨(fmtF n).toArray⟩ := ⟨_, rfl⟩
  have HF : Hid (∀ w, Pow w → Calls Tryd.prog 14 #[.int .i64 n] w fun e w' => e = .returned (.string F) ∧ Below w.heap.size w w') := Lib.hid (by rw [hF]; exact fun w h => Format_any n w hn0 hn1 h)
  have HR : Hid (∀ w, Calls Tryd.prog 15 #[.int .i64 n] w fun e w' => e = .returned (.string F) ∧ Below w.heap.size w w') := Lib.hid (by rw [hF]; exact fun w => FormatR_any n w hn0 hn1)
  clear e1 e2 hF hs hn0 hn1 hk0 hk1
  go_enter Tryd.func3, Tryd.ntmps3
  go_wp2_with fail
  refine (N1.out _).mono ?_
  rintro e w1 ⟨rfl, rfl⟩
  go_wp2_with fail
  refine (R1.out _).mono ?_
  rintro e w1 ⟨rfl, rfl⟩
  go_wp2_with fail
  refine (hM.out _).mono ?_
  rintro e w1 ⟨rfl, rfl⟩
  go_wp2_with fail
  refine (N2.out _).mono ?_
  rintro e w1 ⟨rfl, rfl⟩
  go_wp2_with fail
  refine (hM.out _).mono ?_
  rintro e w1 ⟨rfl, rfl⟩
  go_wp2_with fail
  refine (R2.out _).mono ?_
  rintro e w1 ⟨rfl, rfl⟩
  go_wp2_with fail
  refine (HF.out _ HP.out).mono ?_
  rintro e w1 ⟨rfl, hb1⟩
  go_wp2_with fail
  refine (HR.out _).mono ?_
  rintro e w2 ⟨rfl, hb2⟩
  have hb12 := hb1.trans (hb2.mono hb1.size)
  have HP2 := Lib.hid (HP.out.stays hb12)
  clear hb1 hb2
  go_wp2_with (go_at_call 10; refine (HA.out _ HP2.out).mono ?_; rintro e w3 ⟨rfl, hb3⟩)
  go_ret
  exact ⟨rfl, hb12.trans (hb3.mono hb12.size)⟩
set_option maxRecDepth 100000 in
theorem lifted (os : Os) (started : os.Started) (H : Type) (enc : TypeId × Value → H) :
    ReturnsInHanded {} Tryd.checked os 3 .any (fun w args => (Rows.scanNumbersSpec.pre enc Tryd.prog Tryd.f3 [] false w args ∧ laidMetH Tryd.prog laid3 w) ∧ sizedMet enc Tryd.prog Tryd.f3 (OpenSpec.ofChange Rows.scanNumbersSpec) false w args)
      (Rows.scanNumbersSpec.post enc Tryd.prog Tryd.f3 false true false false) := by
  refine returnsInHanded_of_change_and (C := Tryd.checked) (X := fun w _ => laidMetH Tryd.prog laid3 w) (fun _ _ _ hh h => h.of_heap hh) own started (by kernel_rfl) Tryd.func3
    (ChangeSpec.witness_shaped (enc := enc) (C := Tryd.checked) (os := os) (X := fun w _ => laidMetH Tryd.prog laid3 w) false (World.doorLaid Tryd.prog 600 os) #[.int .i64 0, .string ⟨#[]⟩, .int .i64 0] 8 rfl (World.shaped_of_RefB (by kernel_rfl) (by kernel_rfl)) (by kernel_rfl) (by kernel_rfl) (by kernel_rfl) (door_met os _)) ?_
  intro W base args ds gs before hval0 hW _ _ hL _
  have hval : ∀ (j : Nat) t v, Tryd.f3.params[j]? = some t → args[j]? = some v → Value.okWide Tryd.prog W .any base t v := hval0
  have hW' := hW
  obtain ⟨p, q, hA0, hV, rfl, hfz, hnd⟩ := hW
  have hA : DataW.TrodAll enc Tryd.prog W 0 (fun _ => true) true Tryd.f3.params.toList args.toList ds p := hA0
  rw [Tryd.params3] at hA hval
  obtain ⟨v0, v1, v2, d0, d1, d2, p0, p1, p2, rfl, rfl, rfl, h0, h1, h2⟩ := trodAll_three hA
  obtain ⟨rfl, rfl⟩ := trodVars_none hV
  obtain ⟨n, rfl, rfl, rfl, wn⟩ := open_int Tryd.underlying3 (hval 0 3 v0 rfl rfl) h0
  have bn := bounds_i64 wn
  obtain ⟨s, rfl, rfl, rfl, ws⟩ := open_string Tryd.underlying9 (hval 1 9 v1 rfl rfl) h1
  obtain ⟨k, rfl, rfl, rfl, wk⟩ := open_int Tryd.underlying3 (hval 2 3 v2 rfl rfl) h2
  have bk := bounds_i64 wk
  have hp := pow_of_laid hL
  clear hA0 hval0
  simp only [List.append_nil] at hW'
  refine (walk n s k W bn.1 bn.2 ws bk.1 bk.2 hp).mono fun e W' ⟨he, hbel⟩ => ?_
  subst he
  exact ⟨_, rfl, post_of_below (pa := []) (pv := []) hW' (fun _ _ _ => trodAll_mk1 (shut_bool Tryd.underlying4 _)) (fun sp _ => trodAll_mk3 (shut_int Tryd.underlying3 wn) (shut_string Tryd.underlying9 ws) (shut_int Tryd.underlying3 wk)) (fun _ _ => rfl) rfl hbel (ok_one (by kernel_rfl) rfl (okWide_bool_mk Tryd.underlying4 _))⟩
theorem row_holds : Rows.ScanNumbersSaid :=
  OpenClaim.holds_of_wide 3 Tryd.f3 rfl rfl rfl rfl rfl rfl rfl ⟨rfl, rfl, rfl, rfl, rfl⟩ rfl rfl rfl rfl rfl (by kernel_rfl) Tryd.func3 (by kernel_rfl)
    (of_decide_eq_true (by kernel_rfl)) (by unfold Func.isWrapper; first | (rw [if_pos (by decide +kernel)]; kernel_rfl) | (rw [if_neg (by decide +kernel)]; exact ⟨rfl, rfl⟩))
    (fun os started H enc _ => lifted os started H enc)
theorem card_holds : Rows.ScanNumbersCardSaid :=
  Claim7.holds_tied_plain_at .later [] Rows.scanNumbersCard.laidKinds true Rows.scanNumbersCard.stood.harness false
    row_holds (fun _ h => by cases h) (by kernel_rfl) (fun _ h => by cases h) scanNumbers_row_tie rfl ⟨rfl, rfl⟩ (by kernel_rfl) rfl
    (fun f fn hf hfn => by
      obtain rfl : f = 3 := Option.some.inj ((show Tryd.prog.funcNamed Rows.scanNumbersRow.func = some 3 by kernel_rfl).symm.trans hf) |>.symm
      obtain rfl : fn = Tryd.f3 := (Option.some.inj (Tryd.func3.symm.trans hfn)).symm
      exact ⟨by kernel_rfl, fun j t ht => by
        have hm : t ∈ Tryd.f3.params.toList := by simpa using Array.mem_of_getElem? ht
        have hall : (Tryd.f3.params.toList.all fun u => !Tryd.prog.wantsStandIn u) = true := by kernel_rfl
        show Tryd.prog.wantsStandIn t = false
        simpa using List.all_eq_true.1 hall t hm⟩)
    (by kernel_rfl)
end Sc.Numbers
end Go.Proofs.YtgfinppppgpleaaDoor
