/-
  Proved: the law ScanReads of layer 1 returns true for every number and every two texts, and its arguments read as before. Conditions: the package variables hold what the program's text lays (the card ties that).
-/
import Derived.Test.YtgfinppppgpleaaDoorScanFrame
import Derived.Test.YtgfinppppgpleaaDoorScanAwake
import Derived.Test.YtgfinppppgpleaaDoorScanMathB
import Derived.Test.YtgfinppppgpleaaDoorCards
import Derived.Test.YtgfinppppgpleaaDoorTie
import Derived.SevenTiedAt
namespace Go.Proofs.YtgfinppppgpleaaDoor
open Go.ChangeShapes Go.WideShapes Go.ChangeAt Go.RowKit
open Go.ChangeMaps (open_string shut_string)
namespace Sc.Reads
theorem bs_append (a b : ByteArray) : bs (a ++ b) = bs a ++ bs b := by simp [bs]
theorem Number_of (s : ByteArray) (k : Int) (r : Option (Nat × Nat)) (w : World) (hs : s.size ≤ 4611686018427387904) (h : numF (bs s) k = r) :
    Calls Tryd.prog 11 #[.string s, .int .i64 k] w fun e w' => e = .returned (numV r) ∧ w = w' := by
  subst h; exact Number_any s k w hs
/-- The number is read back from the middle. -/
theorem read_back (b a : ByteArray) (n : Nat) (hn : n ≤ 2147483647) (ha : ∀ x, (bs a).head? = some x → isDig x = false) :
    numF (bs (b ++ ⟨(fmtF n).toArray⟩ ++ a)) b.size = some (n, b.size + (fmtF n).length) := by
  rw [bs_append, bs_append, fmtF_in n (by omega) (by omega), Lib.itoa_nonneg]
  have h1 : bs ⟨(Lib.decDigits n).toArray⟩ = Lib.decDigits n := rfl
  have h2 : b.size = (bs b).length := rfl
  rw [h1, h2, numF_in _ _ (by simp only [List.length_append]; omega)]
  exact numAt_reads (bs b) (bs a) n hn ha
set_option maxRecDepth 100000 in
set_option maxHeartbeats 800000 in
theorem walk (n : Int) (b a : ByteArray) (w : World) (h0 : -9223372036854775808 ≤ n) (h1 : n ≤ 9223372036854775807) (hb : b.size ≤ maxLen) (ha : a.size ≤ maxLen) (hp : Pow w) :
    Calls Tryd.prog 4 #[.int .i64 n, .string b, .string a] w fun e w' => e = .returned (.bool true) ∧ Below w.heap.size w w' := by
  unfold maxLen at hb ha
  have HP := Lib.hid hp
  have HA := Lib.hid (fun w (h : Pow w) => awake_any w h)
  have HF := Lib.hid (fun w (h : Pow w) => Format_any n w h0 h1 h)
  clear hp
  by_cases hb4 : (40 : Int) < (b.size : Int)
  · go_enter Tryd.func4, Tryd.ntmps4
    go_wp2_with (go_at_call 10; refine (HA.out _ HP.out).mono ?_; rintro e w1 ⟨rfl, hb⟩)
    go_ret
    exact ⟨rfl, by assumption⟩
  by_cases ha4 : (40 : Int) < (a.size : Int)
  · go_enter Tryd.func4, Tryd.ntmps4
    go_wp2_with (go_at_call 10; refine (HA.out _ HP.out).mono ?_; rintro e w1 ⟨rfl, hb⟩)
    go_ret
    exact ⟨rfl, by assumption⟩
  by_cases hn : n < 0 ∨ 2147483647 < n
  · have HE := Lib.hid (fmtF_out n hn)
    rcases hn with hn | hn
    · go_enter Tryd.func4, Tryd.ntmps4
      go_wp2_with fail
      refine (HF.out _ HP.out).mono ?_
      rintro e w1 ⟨rfl, hb1⟩
      rw [HE.out]
      have HP1 := Lib.hid (HP.out.stays hb1)
      go_wp2_with (go_at_call 10; refine (HA.out _ HP1.out).mono ?_; rintro e w2 ⟨rfl, hb2⟩)
      go_ret
      exact ⟨rfl, hb1.trans (hb2.mono hb1.size)⟩
    · have hn2 : ¬ n < 0 := by omega
      go_enter Tryd.func4, Tryd.ntmps4
      go_wp2_with fail
      refine (HF.out _ HP.out).mono ?_
      rintro e w1 ⟨rfl, hb1⟩
      rw [HE.out]
      have HP1 := Lib.hid (HP.out.stays hb1)
      go_wp2_with (go_at_call 10; refine (HA.out _ HP1.out).mono ?_; rintro e w2 ⟨rfl, hb2⟩)
      go_ret
      exact ⟨rfl, hb1.trans (hb2.mono hb1.size)⟩
  · have hn1 : 0 ≤ n := by omega
    have hn2 : n ≤ 2147483647 := by omega
    clear hn h0 h1
    obtain ⟨n, rfl⟩ := Int.eq_ofNat_of_zero_le hn1
    obtain ⟨F, hF⟩ : ∃ F : ByteArray, F = ⟨(fmtF (n : Int)).toArray⟩ := ⟨_, rfl⟩
    have hL : F.size ≤ 21 := by rw [hF, size_mk]; exact fmtF_len _
    have HG : Hid (∀ w, Pow w → Calls Tryd.prog 14 #[.int .i64 n] w fun e w' => e = .returned (.string F) ∧ Below w.heap.size w w') := Lib.hid (by rw [hF]; exact HF.out)
    have HB : Hid (∀ a, (∀ x, (bs a).head? = some x → isDig x = false) → numF (bs (b ++ F ++ a)) b.size = some (n, b.size + F.size)) := Lib.hid (fun a ha => by
      rw [hF, size_mk]; exact read_back b a n (by omega) ha)
    clear hF HF
    by_cases hd : ∃ h : 0 < a.size, isDig a[0] = true
    · obtain ⟨hz, hd⟩ := hd
      have g1 : (48 : Int) ≤ (a[0].toNat : Int) := by unfold isDig at hd; simp at hd; omega
      have g2 : (a[0].toNat : Int) ≤ 57 := by unfold isDig at hd; simp at hd; omega
      have HX : Hid (∀ w, Calls Tryd.prog 11 #[.string (b ++ F ++ (⟨#[120]⟩ ++ a)), .int .i64 b.size] w fun e w' => e = .returned (numV (some (n, b.size + F.size))) ∧ w = w') :=
        Lib.hid (fun w => Number_of _ _ _ w (by
          have : (ByteArray.mk #[120]).size = 1 := rfl
          simp only [ByteArray.size_append, this]; omega) (HB.out _ (by
            intro x hx
            rw [bs_append] at hx
            have : x = 120 := (Option.some.inj hx).symm
            subst this; decide)))
      clear hd
      go_enter Tryd.func4, Tryd.ntmps4
      go_wp2_with fail
      refine (HG.out _ HP.out).mono ?_
      rintro e w1 ⟨rfl, hb1⟩
      have HP1 := Lib.hid (HP.out.stays hb1)
      go_wp2_with fail
      refine (HX.out _).mono ?_
      rintro e w2 ⟨rfl, rfl⟩
      unfold numV
      go_wp2_with (go_at_call 10; refine (HA.out _ HP1.out).mono ?_; rintro e w2 ⟨rfl, hb2⟩)
      go_ret
      exact ⟨rfl, hb1.trans (hb2.mono hb1.size)⟩
    · have HX : Hid (∀ w, Calls Tryd.prog 11 #[.string (b ++ F ++ a), .int .i64 b.size] w fun e w' => e = .returned (numV (some (n, b.size + F.size))) ∧ w = w') :=
        Lib.hid (fun w => Number_of _ _ _ w (by simp only [ByteArray.size_append]; omega) (HB.out a (by
          intro x hx
          cases hh : isDig x with
          | false => rfl
          | true =>
            refine absurd ?_ hd
            have h0 : 0 < a.size := by
              rcases Nat.eq_zero_or_pos a.size with h | h
              · have : bs a = [] := List.eq_nil_of_length_eq_zero h
                rw [this] at hx; cases hx
              · exact h
            refine ⟨h0, ?_⟩
            have : (bs a)[0]? = some a[0] := bs_get? a 0 h0
            rw [← List.head?_eq_getElem?, hx] at this
            rw [← Option.some.inj this]; exact hh)))
      by_cases hz : 0 < a.size
      · by_cases g1 : (48 : Int) ≤ (a[0].toNat : Int)
        · have g2 : ¬ (a[0].toNat : Int) ≤ 57 := fun g2 => hd ⟨hz, dig_yes a[0] g1 g2⟩
          clear hd
          go_enter Tryd.func4, Tryd.ntmps4
          go_wp2_with fail
          refine (HG.out _ HP.out).mono ?_
          rintro e w1 ⟨rfl, hb1⟩
          have HP1 := Lib.hid (HP.out.stays hb1)
          go_wp2_with fail
          refine (HX.out _).mono ?_
          rintro e w2 ⟨rfl, rfl⟩
          unfold numV
          go_wp2_with (go_at_call 10; refine (HA.out _ HP1.out).mono ?_; rintro e w2 ⟨rfl, hb2⟩)
          go_ret
          exact ⟨rfl, hb1.trans (hb2.mono hb1.size)⟩
        · clear hd
          go_enter Tryd.func4, Tryd.ntmps4
          go_wp2_with fail
          refine (HG.out _ HP.out).mono ?_
          rintro e w1 ⟨rfl, hb1⟩
          have HP1 := Lib.hid (HP.out.stays hb1)
          go_wp2_with fail
          refine (HX.out _).mono ?_
          rintro e w2 ⟨rfl, rfl⟩
          unfold numV
          go_wp2_with (go_at_call 10; refine (HA.out _ HP1.out).mono ?_; rintro e w2 ⟨rfl, hb2⟩)
          go_ret
          exact ⟨rfl, hb1.trans (hb2.mono hb1.size)⟩
      · have hz0 : decide ((0 : Int) < (a.size : Int)) = false := by simp only [decide_eq_false_iff_not]; omega
        clear hd
        go_enter Tryd.func4, Tryd.ntmps4
        go_wp2_with fail
        refine (HG.out _ HP.out).mono ?_
        rintro e w1 ⟨rfl, hb1⟩
        have HP1 := Lib.hid (HP.out.stays hb1)
        go_wp2_with fail
        refine (HX.out _).mono ?_
        rintro e w2 ⟨rfl, rfl⟩
        unfold numV
        go_wp2_with (go_at_call 10; refine (HA.out _ HP1.out).mono ?_; rintro e w2 ⟨rfl, hb2⟩)
        go_ret
        exact ⟨rfl, hb1.trans (hb2.mono hb1.size)⟩
set_option maxRecDepth 100000 in
theorem lifted (os : Os) (started : os.Started) (H : Type) (enc : TypeId × Value → H) :
    ReturnsInHanded {} Tryd.checked os 4 .any (fun w args => (Rows.scanReadsSpec.pre enc Tryd.prog Tryd.f4 [] false w args ∧ laidMetH Tryd.prog laid3 w) ∧ sizedMet enc Tryd.prog Tryd.f4 (OpenSpec.ofChange Rows.scanReadsSpec) false w args)
      (Rows.scanReadsSpec.post enc Tryd.prog Tryd.f4 false true false false) := by
  refine returnsInHanded_of_change_and (C := Tryd.checked) (X := fun w _ => laidMetH Tryd.prog laid3 w) (fun _ _ _ hh h => h.of_heap hh) own started (by kernel_rfl) Tryd.func4
    (ChangeSpec.witness_shaped (enc := enc) (C := Tryd.checked) (os := os) (X := fun w _ => laidMetH Tryd.prog laid3 w) false (World.doorLaid Tryd.prog 600 os) #[.int .i64 0, .string ⟨#[]⟩, .string ⟨#[]⟩] 8 rfl (World.shaped_of_RefB (by kernel_rfl) (by kernel_rfl)) (by kernel_rfl) (by kernel_rfl) (by kernel_rfl) (door_met os _)) ?_
  intro W base args ds gs before hval0 hW _ _ hL _
  have hval : ∀ (j : Nat) t v, Tryd.f4.params[j]? = some t → args[j]? = some v → Value.okWide Tryd.prog W .any base t v := hval0
  have hW' := hW
  obtain ⟨p, q, hA0, hV, rfl, hfz, hnd⟩ := hW
  have hA : DataW.TrodAll enc Tryd.prog W 0 (fun _ => true) true Tryd.f4.params.toList args.toList ds p := hA0
  rw [Tryd.params4] at hA hval
  obtain ⟨v0, v1, v2, d0, d1, d2, p0, p1, p2, rfl, rfl, rfl, h0, h1, h2⟩ := trodAll_three hA
  obtain ⟨rfl, rfl⟩ := trodVars_none hV
  obtain ⟨n, rfl, rfl, rfl, wn⟩ := open_int Tryd.underlying3 (hval 0 3 v0 rfl rfl) h0
  have bn := bounds_i64 wn
  obtain ⟨b, rfl, rfl, rfl, wb⟩ := open_string Tryd.underlying9 (hval 1 9 v1 rfl rfl) h1
  obtain ⟨a, rfl, rfl, rfl, wa⟩ := open_string Tryd.underlying9 (hval 2 9 v2 rfl rfl) h2
  have hp := pow_of_laid hL
  clear hA0 hval0
  simp only [List.append_nil] at hW'
  refine (walk n b a W bn.1 bn.2 wb wa hp).mono fun e W' ⟨he, hbel⟩ => ?_
  subst he
  exact ⟨_, rfl, post_of_below (pa := []) (pv := []) hW' (fun _ _ _ => trodAll_mk1 (shut_bool Tryd.underlying4 _)) (fun sp _ => trodAll_mk3 (shut_int Tryd.underlying3 wn) (shut_string Tryd.underlying9 wb) (shut_string Tryd.underlying9 wa)) (fun _ _ => rfl) rfl hbel (ok_one (by kernel_rfl) rfl (okWide_bool_mk Tryd.underlying4 _))⟩
theorem row_holds : Rows.ScanReadsSaid :=
  OpenClaim.holds_of_wide 4 Tryd.f4 rfl rfl rfl rfl rfl rfl rfl ⟨rfl, rfl, rfl, rfl, rfl⟩ rfl rfl rfl rfl rfl (by kernel_rfl) Tryd.func4 (by kernel_rfl)
    (of_decide_eq_true (by kernel_rfl)) (by unfold Func.isWrapper; first | (rw [if_pos (by decide +kernel)]; kernel_rfl) | (rw [if_neg (by decide +kernel)]; exact ⟨rfl, rfl⟩))
    (fun os started H enc _ => lifted os started H enc)
theorem card_holds : Rows.ScanReadsCardSaid :=
  Claim7.holds_tied_plain_at .later [] Rows.scanReadsCard.laidKinds true Rows.scanReadsCard.stood.harness false
    row_holds (fun _ h => by cases h) (by kernel_rfl) (fun _ h => by cases h) scanReads_row_tie rfl ⟨rfl, rfl⟩ (by kernel_rfl) rfl
    (fun f fn hf hfn => by
      obtain rfl : f = 4 := Option.some.inj ((show Tryd.prog.funcNamed Rows.scanReadsRow.func = some 4 by kernel_rfl).symm.trans hf) |>.symm
      obtain rfl : fn = Tryd.f4 := (Option.some.inj (Tryd.func4.symm.trans hfn)).symm
      exact ⟨by kernel_rfl, fun j t ht => by
        have hm : t ∈ Tryd.f4.params.toList := by simpa using Array.mem_of_getElem? ht
        have hall : (Tryd.f4.params.toList.all fun u => !Tryd.prog.wantsStandIn u) = true := by kernel_rfl
        show Tryd.prog.wantsStandIn t = false
        simpa using List.all_eq_true.1 hall t hm⟩)
    (by kernel_rfl)
end Sc.Reads
end Go.Proofs.YtgfinppppgpleaaDoor
