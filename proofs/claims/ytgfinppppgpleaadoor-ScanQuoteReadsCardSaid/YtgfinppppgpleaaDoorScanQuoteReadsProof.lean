/-
  Proved: the law ScanQuoteReads of layer 1 returns true for every two texts, and its arguments read as before. Conditions: the package variables hold what the program's text lays (the card ties that).
-/
import Derived.Test.YtgfinppppgpleaaDoorScanFrame
import Derived.Test.YtgfinppppgpleaaDoorScanAwake
import Derived.Test.YtgfinppppgpleaaDoorScanMathB
import Derived.Test.YtgfinppppgpleaaDoorCards
import Derived.Test.YtgfinppppgpleaaDoorTie
import Derived.SevenTiedAt
namespace Go.Proofs.YtgfinppppgpleaaDoor
open Go.ChangeShapes Go.WideShapes Go.ChangeAt Go.RowKit
open Go.ChangeMaps (open_string shut_string)
namespace Sc.QuoteReads
theorem bs_append (a b : ByteArray) : bs (a ++ b) = bs a ++ bs b := by simp [bs]
theorem Unquote_of (s : ByteArray) (k : Int) (r : Option (List UInt8 × Nat)) (w : World) (hs : s.size ≤ 1048576) (h : unqF (bs s) k = r) :
    Calls Tryd.prog 20 #[.string s, .int .i64 k] w fun e w' => e = .returned (unqV r) ∧ Below w.heap.size w w' := by
  subst h; exact Unquote_any s k w hs
theorem quoteF_len (l : List UInt8) : (quoteF l).length ≤ 4 * l.length + 2 := by
  have := flat_len l
  unfold quoteF; split
  · omega
  · simp only [List.length_cons, List.length_append, List.length_nil]; omega
theorem unq_back (q : ByteArray) (t : List UInt8) (hq : q = ⟨(quoteF t).toArray⟩) : unqF (bs (q ++ ⟨#[32, 120]⟩)) 0 = some (t, q.size) := by
  have h := unq_reads [] t [32, 120] (by intro b hb; have : b = 32 := (Option.some.inj hb).symm; subst this; decide)
  rw [bs_append, hq, size_mk]
  simp only [List.nil_append, List.length_nil, Nat.zero_add] at h
  exact h
theorem mk_bs (s : ByteArray) : (ByteArray.mk (bs s).toArray) = s := by cases s; simp [bs]
set_option maxRecDepth 100000 in
set_option maxHeartbeats 1600000 in
theorem walk (s t : ByteArray) (w : World) (hs : s.size ≤ maxLen) (ht : t.size ≤ maxLen) (hp : Pow w) :
    Calls Tryd.prog 8 #[.string s, .string t] w fun e w' => e = .returned (.bool true) ∧ Below w.heap.size w w' := by
  unfold maxLen at hs ht
  have HP := Lib.hid hp
  have HA := Lib.hid (fun w (h : Pow w) => awake_any w h)
  clear hp
  by_cases hs8 : (80 : Int) < (s.size : Int)
  · go_enter Tryd.func8, Tryd.ntmps8
    go_wp2_with (go_at_call 10; refine (HA.out _ HP.out).mono ?_; rintro e w1 ⟨rfl, hb⟩)
    go_ret
    exact ⟨rfl, by assumption⟩
  by_cases ht8 : (80 : Int) < (t.size : Int)
  · go_enter Tryd.func8, Tryd.ntmps8
    go_wp2_with (go_at_call 10; refine (HA.out _ HP.out).mono ?_; rintro e w1 ⟨rfl, hb⟩)
    go_ret
    exact ⟨rfl, by assumption⟩
  obtain ⟨q, hq⟩ : ∃ q : ByteArray, q = ⟨(quoteF (bs s)).toArray⟩ := ⟨_, rfl⟩
  obtain ⟨p, hpq⟩ : ∃ p : ByteArray, p = ⟨(quoteF (bs t)).toArray⟩ := ⟨_, rfl⟩
  have hqs : q.size ≤ 322 := by
    rw [hq, size_mk]; have := quoteF_len (bs s); rw [bs_len] at this; omega
  have HQ : Hid (∀ w, Calls Tryd.prog 22 #[.string s] w fun e w' => e = .returned (.string q) ∧ Below w.heap.size w w') := Lib.hid (by rw [hq]; exact fun w => Quote_any s w (by omega))
  have HT : Hid (∀ w, Calls Tryd.prog 22 #[.string t] w fun e w' => e = .returned (.string p) ∧ Below w.heap.size w w') := Lib.hid (by rw [hpq]; exact fun w => Quote_any t w (by omega))
  have HU : Hid (∀ w, Calls Tryd.prog 20 #[.string (q ++ ⟨#[32, 120]⟩), .int .i64 0] w fun e w' => e = .returned (.tuple #[.string s, .int .i64 q.size, .bool true]) ∧ Below w.heap.size w w') :=
    Lib.hid (fun w => by
      have h := Unquote_of (q ++ ⟨#[32, 120]⟩) 0 _ w (by
        have : (ByteArray.mk #[32, 120]).size = 2 := rfl
        simp only [ByteArray.size_append, this]; omega) (unq_back q (bs s) hq)
      have e : unqV (some (bs s, q.size)) = .tuple #[.string s, .int .i64 q.size, .bool true] := by
        show Value.tuple #[.string ⟨(bs s).toArray⟩, _, _] = _
        rw [mk_bs]
      rw [e] at h
      exact h)
  have HR : Hid (∀ j (h : j < q.size), (32 : Int) ≤ (q[j].toNat : Int) ∧ (q[j].toNat : Int) ≤ 126) := Lib.hid (fun j h => by
    have hm : q[j] ∈ bs q := by rw [← bs_get q j h]; exact List.getElem_mem _
    have : bs q = quoteF (bs s) := by rw [hq]
    rw [this] at hm
    have := quote_range (bs s) _ hm
    omega)
  have hE : (p.toList == q.toList) = (s.toList == t.toList) := by
    rw [ByteArray.toList_eq, ByteArray.toList_eq, ByteArray.toList_eq, ByteArray.toList_eq, hq, hpq]
    show (quoteF (bs t) == quoteF (bs s)) = (bs s == bs t)
    by_cases h : bs s = bs t
    · rw [h]; simp
    · rw [beq_eq_false_iff_ne.2 h, beq_eq_false_iff_ne.2 (fun e => h (quote_inj _ _ e).symm)]
  obtain ⟨b, f1, f2⟩ : ∃ b, (p.toList == q.toList) = b ∧ (s.toList == t.toList) = b := ⟨_, hE, rfl⟩
  clear hE hq hpq
  go_enter Tryd.func8, Tryd.ntmps8
  go_wp2_with fail
  refine (HQ.out _).mono ?_
  rintro e w1 ⟨rfl, hb1⟩
  go_wp2_with fail
  refine (HU.out _).mono ?_
  rintro e w2 ⟨rfl, hb2⟩
  have hb12 := hb1.trans (hb2.mono hb1.size)
  have HP2 := Lib.hid (HP.out.stays hb12)
  clear hb1 hb2
  go_wp2_with fail
  go_loop [9] (fun i => ∃ j : Nat, j ≤ q.size ∧ i = .int .i64 j) (fun i => q.size - (intOf i).toNat)
  case atStart => exact ⟨0, Nat.zero_le _, rfl⟩
  case round =>
    obtain ⟨j, hj, rfl⟩ := hrel
    by_cases hlt : j < q.size
    · obtain ⟨g1, g2⟩ := HR.out j hlt
      go_wp2_with fail
      go_round
      case rel => exact ⟨j + 1, by omega, by go_num⟩
      case measure => simp [intOf]; omega
    · have hd : decide ((j : Int) < (q.size : Int)) = false := by simp only [decide_eq_false_iff_not]; omega
      go_wp2_with fail
      refine (HT.out _).mono ?_
      rintro e w3 ⟨rfl, hb3⟩
      have HP3 := Lib.hid (HP2.out.stays hb3)
      go_wp2_with (go_at_call 10; refine (HA.out _ HP3.out).mono ?_; rintro e w4 ⟨rfl, hb4⟩)
      go_ret
      exact ⟨rfl, (hb12.trans (hb3.mono hb12.size)).trans (hb4.mono (hb12.trans (hb3.mono hb12.size)).size)⟩
set_option maxRecDepth 100000 in
theorem lifted (os : Os) (started : os.Started) (H : Type) (enc : TypeId × Value → H) :
    ReturnsInHanded {} Tryd.checked os 8 .any (fun w args => (Rows.scanQuoteReadsSpec.pre enc Tryd.prog Tryd.f8 [] false w args ∧ laidMetH Tryd.prog laid3 w) ∧ sizedMet enc Tryd.prog Tryd.f8 (OpenSpec.ofChange Rows.scanQuoteReadsSpec) false w args)
      (Rows.scanQuoteReadsSpec.post enc Tryd.prog Tryd.f8 false true false false) := by
  refine returnsInHanded_of_change_and (C := Tryd.checked) (X := fun w _ => laidMetH Tryd.prog laid3 w) (fun _ _ _ hh h => h.of_heap hh) own started (by kernel_rfl) Tryd.func8
    (ChangeSpec.witness_shaped (enc := enc) (C := Tryd.checked) (os := os) (X := fun w _ => laidMetH Tryd.prog laid3 w) false (World.doorLaid Tryd.prog 600 os) #[.string ⟨#[]⟩, .string ⟨#[]⟩] 8 rfl (World.shaped_of_RefB (by kernel_rfl) (by kernel_rfl)) (by kernel_rfl) (by kernel_rfl) (by kernel_rfl) (door_met os _)) ?_
  intro W base args ds gs before hval0 hW _ _ hL _
  have hval : ∀ (j : Nat) t v, Tryd.f8.params[j]? = some t → args[j]? = some v → Value.okWide Tryd.prog W .any base t v := hval0
  have hW' := hW
  obtain ⟨p, q, hA0, hV, rfl, hfz, hnd⟩ := hW
  have hA : DataW.TrodAll enc Tryd.prog W 0 (fun _ => true) true Tryd.f8.params.toList args.toList ds p := hA0
  rw [Tryd.params8] at hA hval
  obtain ⟨v0, v1, d0, d1, p0, p1, rfl, rfl, rfl, h0, h1⟩ := trodAll_two hA
  obtain ⟨rfl, rfl⟩ := trodVars_none hV
  obtain ⟨s, rfl, rfl, rfl, ws⟩ := open_string Tryd.underlying9 (hval 0 9 v0 rfl rfl) h0
  obtain ⟨t, rfl, rfl, rfl, wt⟩ := open_string Tryd.underlying9 (hval 1 9 v1 rfl rfl) h1
  have hp := pow_of_laid hL
  clear hA0 hval0
  simp only [List.append_nil] at hW'
  refine (walk s t W ws wt hp).mono fun e W' ⟨he, hbel⟩ => ?_
  subst he
  exact ⟨_, rfl, post_of_below (pa := []) (pv := []) hW' (fun _ _ _ => trodAll_mk1 (shut_bool Tryd.underlying4 _)) (fun sp _ => trodAll_mk2 (shut_string Tryd.underlying9 ws) (shut_string Tryd.underlying9 wt)) (fun _ _ => rfl) rfl hbel (ok_one (by kernel_rfl) rfl (okWide_bool_mk Tryd.underlying4 _))⟩
theorem row_holds : Rows.ScanQuoteReadsSaid :=
  OpenClaim.holds_of_wide 8 Tryd.f8 rfl rfl rfl rfl rfl rfl rfl ⟨rfl, rfl, rfl, rfl, rfl⟩ rfl rfl rfl rfl rfl (by kernel_rfl) Tryd.func8 (by kernel_rfl)
    (of_decide_eq_true (by kernel_rfl)) (by unfold Func.isWrapper; first | (rw [if_pos (by decide +kernel)]; kernel_rfl) | (rw [if_neg (by decide +kernel)]; exact ⟨rfl, rfl⟩))
    (fun os started H enc _ => lifted os started H enc)
theorem card_holds : Rows.ScanQuoteReadsCardSaid :=
  Claim7.holds_tied_plain_at .later [] Rows.scanQuoteReadsCard.laidKinds true Rows.scanQuoteReadsCard.stood.harness false
    row_holds (fun _ h => by cases h) (by kernel_rfl) (fun _ h => by cases h) scanQuoteReads_row_tie rfl ⟨rfl, rfl⟩ (by kernel_rfl) rfl
    (fun f fn hf hfn => by
      obtain rfl : f = 8 := Option.some.inj ((show Tryd.prog.funcNamed Rows.scanQuoteReadsRow.func = some 8 by kernel_rfl).symm.trans hf) |>.symm
      obtain rfl : fn = Tryd.f8 := (Option.some.inj (Tryd.func8.symm.trans hfn)).symm
      exact ⟨by kernel_rfl, fun j t ht => by
        have hm : t ∈ Tryd.f8.params.toList := by simpa using Array.mem_of_getElem? ht
        have hall : (Tryd.f8.params.toList.all fun u => !Tryd.prog.wantsStandIn u) = true := by kernel_rfl
        show Tryd.prog.wantsStandIn t = false
        simpa using List.all_eq_true.1 hall t hm⟩)
    (by kernel_rfl)
end Sc.QuoteReads
end Go.Proofs.YtgfinppppgpleaaDoor
