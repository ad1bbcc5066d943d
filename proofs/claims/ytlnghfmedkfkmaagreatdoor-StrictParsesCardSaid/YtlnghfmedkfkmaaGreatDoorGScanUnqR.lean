/-
  Walk of layer 1, the reference's Unquote. Condition: the text has at most 2^20 bytes. Walk of layer 1, the reference's Unquote, the quoted arm. Condition: the text has at most 2^20 bytes.
-/
import Derived.Test.YtlnghfmedkfkmaaGreatDoorGScanUnq
import Derived.Test.YtlnghfmedkfkmaaGreatDoorScanQuoteR
namespace Go.Proofs.YtlnghfmedkfkmaaGreatDoor
section
open Go.RowKit
namespace Sc
theorem n92 (b : UInt8) (h : b ≠ 92) : ((b.toNat : Int) != 92) = true := by
  have h2 : ((b.toNat : Int) == 92) = false := bne_of _ 92 h
  rw [bne, h2]; rfl
theorem b92 (b : UInt8) (h : b = 92) : ((b.toNat : Int) != 92) = false := by rw [h]; rfl
set_option maxRecDepth 100000 in
set_option maxHeartbeats 1000000 in
/-- The plain arm. -/
theorem UnquoteR_plain (s : ByteArray) (k : Nat) (w : World) (hs : s.size ≤ 1048576) (hk : k < s.size) (hq : s[k] ≠ 34) :
    Calls Tryz.prog 132 #[.string s, .int .i64 k] w fun e w' => e = .returned (unqV (unqF (bs s) k)) ∧ Below w.heap.size w w' := by
  have HV := Lib.hid (unqF_in (bs s) k hk)
  have d0 : decide ((k : Int) < 0) = false := by simp only [decide_eq_false_iff_not]; omega
  have d1 : decide (s.size ≤ k) = false := by simp only [decide_eq_false_iff_not]; omega
  have e1 := n34 _ hq
  have hq2 : ¬ (bs s)[k]? = some 34 := by rw [bs_get? s k hk]; intro h; exact hq (Option.some.inj h)
  have HY := Lib.hid (unqAt_yes (bs s) k hq2)
  have HN := Lib.hid (unqAt_no (bs s) k hq2)
  have HP := Lib.hid (fun b w => PlainR_any b w)
  clear hq hq2
  go_enter Tryz.func132, Tryz.ntmps132
  go_wp2_with fail
  go_loop [7] (fun i => ∃ j : Nat, k ≤ j ∧ j ≤ s.size ∧ i = .int .i64 j ∧ Hid (endOf isPlain (bs s) j = endOf isPlain (bs s) k)) (fun i => s.size - (intOf i).toNat)
  case atStart => exact ⟨k, Nat.le_refl _, by omega, rfl, Lib.hid rfl⟩
  case round =>
    obtain ⟨j, hj0, hj, rfl, H⟩ := hrel
    by_cases hgo : ∃ h : j < s.size, isPlain s[j] = true
    · obtain ⟨hlt, hp⟩ := hgo
      have HS := Lib.hid (endOf_step isPlain (bs s) j hlt hp)
      have HPP : Hid (∀ w, Calls Tryz.prog 121 #[.int .u8 s[j].toNat] w fun e w' => e = .returned (.bool true) ∧ w = w') := Lib.hid (by rw [← hp]; exact fun w => HP.out _ w)
      clear hp
      go_wp2_with (go_at_call 121; refine (HPP.out _).mono ?_; rintro e w' ⟨rfl, rfl⟩)
      go_round
      case rel => exact ⟨j + 1, by omega, by omega, by go_num, Lib.hid (HS.out.symm.trans H.out)⟩
      case measure => simp [intOf]; omega
    · have HE : Hid (endOf isPlain (bs s) k = j) := Lib.hid (by
        rw [← H.out]
        by_cases hlt : j < s.size
        · refine endOf_no isPlain (bs s) j hlt ?_
          cases h : isPlain s[j] with
          | false => exact h
          | true => exact absurd ⟨hlt, h⟩ hgo
        · exact endOf_end isPlain (bs s) j (by rw [bs_len]; omega))
      by_cases hjk : j = k
      · have HX : Hid (unqF (bs s) k = none) := Lib.hid (by rw [HV.out, HN.out (by rw [HE.out, hjk])])
        subst hjk
        have e2 : ((j : Int) == (j : Int)) = true := by simp
        have hpf : isPlain s[j] = false := by
          cases h : isPlain s[j] with
          | false => rfl
          | true => exact absurd ⟨hk, h⟩ hgo
        have HPP : Hid (∀ w, Calls Tryz.prog 121 #[.int .u8 s[j].toNat] w fun e w' => e = .returned (.bool false) ∧ w = w') := Lib.hid (by rw [← hpf]; exact fun w => HP.out _ w)
        clear hpf hgo
        go_wp2_with (go_at_call 121; refine (HPP.out _).mono ?_; rintro e w' ⟨rfl, rfl⟩)
        go_ret3
        exact ⟨by rw [HX.out]; rfl, Below.refl _ _⟩
      · have HX : Hid (unqF (bs s) k = some (bs (s.extract k j), j)) := Lib.hid (by rw [HV.out, HY.out (by rw [HE.out]; exact hjk), HE.out, bs_extract])
        have e2 : ((j : Int) == (k : Int)) = false := by simp only [beq_eq_false_iff_ne, ne_eq]; omega
        by_cases hlt : j < s.size
        · have hpf : isPlain s[j] = false := by
            cases h : isPlain s[j] with
            | false => rfl
            | true => exact absurd ⟨hlt, h⟩ hgo
          have HPP : Hid (∀ w, Calls Tryz.prog 121 #[.int .u8 s[j].toNat] w fun e w' => e = .returned (.bool false) ∧ w = w') := Lib.hid (by rw [← hpf]; exact fun w => HP.out _ w)
          clear hpf hgo hjk
          go_wp2_with (go_at_call 121; refine (HPP.out _).mono ?_; rintro e w' ⟨rfl, rfl⟩)
          go_ret3
          exact ⟨by rw [HX.out]; rfl, Below.refl _ _⟩
        · have hd : decide ((j : Int) < (s.size : Int)) = false := by simp only [decide_eq_false_iff_not]; omega
          clear hgo hjk
          go_wp2_with fail
          go_ret3
          exact ⟨by rw [HX.out]; rfl, Below.refl _ _⟩
end Sc
end
section
open Go.RowKit
namespace Sc
theorem octalR_at (s : ByteArray) (k : Nat) (w : World) (hs : s.size ≤ 4611686018427387904) (hk : k + 1 ≤ s.size) (ho : octF ((bs s).drop (k + 1)) = none) :
    Calls Tryz.prog 157 #[.string s, .int .i64 ((k : Int) + 1)] w (NoOct w) := octalR_no s (k + 1) w hs hk ho
theorem octalR_yes_at (s : ByteArray) (k : Nat) (b : UInt8) (w : World) (hs : s.size ≤ 4611686018427387904) (ho : octF ((bs s).drop (k + 1)) = some b) :
    Calls Tryz.prog 157 #[.string s, .int .i64 ((k : Int) + 1)] w fun e w' => e = .returned (.tuple #[.int .u8 b.toNat, .bool true]) ∧ w = w' := octalR_yes s (k + 1) b w hs ho
set_option maxRecDepth 100000 in
set_option maxHeartbeats 3000000 in
theorem UnquoteR_quoted (s : ByteArray) (k : Nat) (w : World) (hs : s.size ≤ 1048576) (hk : k < s.size) (hq : s[k] = 34) :
    Calls Tryz.prog 132 #[.string s, .int .i64 k] w fun e w' => e = .returned (unqV (unqF (bs s) k)) ∧ Below w.heap.size w w' := by
  have d0 : decide ((k : Int) < 0) = false := by simp only [decide_eq_false_iff_not]; omega
  have d1 : decide (s.size ≤ k) = false := by simp only [decide_eq_false_iff_not]; omega
  have e1 := b34 _ hq
  have HV : Hid (unqF (bs s) k = quotedAt (bs s) k) := Lib.hid (by rw [unqF_in (bs s) k hk, unqAt_q _ _ (by rw [bs_get? s k hk, hq])])
  clear hq
  go_enter Tryz.func132, Tryz.ntmps132
  go_wp2_with fail
  go_loopw [7, 8] (fun i v wr => ∃ (j f : Nat) (acc : List UInt8), k < j ∧ j ≤ s.size ∧ i = .int .i64 j ∧ s.size < j + f ∧ acc.length ≤ j ∧ Hid (wr.ownsRow w.heap.size 5 1 v acc.length (bytesV acc)) ∧
      Hid (runQ f ((bs s).drop j) acc j = runQ ((bs s).length + 1) ((bs s).drop (k + 1)) [] (k + 1)) ∧ Below w.heap.size w wr) (fun i _ _ => s.size - (intOf i).toNat)
  case atStart => exact ⟨k + 1, (bs s).length + 1, [], by omega, by omega, rfl, by rw [bs_len]; omega, Nat.zero_le _, Lib.hid (World.ownsRow_nil _ _ _ _), Lib.hid rfl, Below.refl _ _⟩
  case round =>
    obtain ⟨j, f, acc, hkj, hj, rfl, hf, hacc, HO, HR, hnx⟩ := hrel
    by_cases hlt : j < s.size
    · obtain ⟨f, rfl⟩ : ∃ f', f = f' + 1 := ⟨f - 1, by omega⟩
      have g0 : decide (s.size ≤ j) = false := by simp only [decide_eq_false_iff_not]; omega
      have g1 : decide ((s.size : Int) ≤ (j : Int)) = false := by simp only [decide_eq_false_iff_not]; omega
      by_cases hq : s[j] = 34
      · have e3 := b34 _ hq
        have HR2 : Hid (runQ ((bs s).length + 1) ((bs s).drop (k + 1)) [] (k + 1) = some (acc, j + 1)) := Lib.hid (by rw [← HR.out]; exact runQ_stop s f acc j hlt hq)
        have hcv := own_conv (own_below HO.out (Below.refl _ _).drew)
        have hz : (ByteArray.mk acc.toArray).size ≤ 1048576 := by
          show acc.toArray.size ≤ _
          simp; omega
        have HQ : Hid (∀ w, Calls Tryz.prog 83 #[.string ⟨acc.toArray⟩] w fun e w' => e = .returned (.string ⟨(quoteF acc).toArray⟩) ∧ Below w.heap.size w w') := Lib.hid (fun w => QuoteR_any ⟨acc.toArray⟩ w hz)
        have i0 : (0 : Int) ≤ (k : Int) := by omega
        have i1 : (k : Int) ≤ (j : Int) + 1 := by omega
        have i2 : (j : Int) + 1 ≤ (s.size : Int) := by omega
        have s1 : IntKind.i64.wrap ((j : Int) + 1) = (j : Int) + 1 := IntWalk.i64_in _ (by omega)
        have s2 : (0 : Int) ≤ (j : Int) + 1 := by omega
        have s3 : ((j : Int) + 1).toNat = j + 1 := by omega
        clear hq hz
        go_wp2_with fail
        go_region_held3 (fun W => (convert 92 9 u8).run Tryz.prog W = .ok (.string ⟨acc.toArray⟩) W) (first | exact hcv | exact own_conv (own_below HO.out ((Below.refl _ _).drew.trans (by assumption)))) (first | (go_at_call 83; refine (HQ.out _).mono ?_; rintro en w1 ⟨rfl, hbel⟩))
        have hcv1 := own_conv (own_below HO.out ((Below.refl _ _).drew.trans hbel))
        go_wp2_with fail
        · go_ret3
          exact ⟨by rw [HV.out, quoted_no s k (j + 1) acc HR2.out (by assumption)]; rfl, hnx.trans (((Below.refl _ _).drew.trans hbel).mono hnx.size)⟩
        · go_ret3
          exact ⟨by rw [HV.out, quoted_yes s k (j + 1) acc HR2.out (by assumption)]; rfl, hnx.trans (((Below.refl _ _).drew.trans hbel).mono hnx.size)⟩
      · have e3 := n34 _ hq
        by_cases h92 : s[j] = 92
        · have e4 := b92 _ h92
          by_cases hend : j + 1 < s.size
          · have e5 : ((j : Int) + 1 == (s.size : Int)) = false := by simp only [beq_eq_false_iff_ne, ne_eq]; omega
            have hd : (bs s).drop j = 92 :: s[j + 1] :: (bs s).drop (j + 2) := by rw [bs_drop s j hlt, bs_drop s (j + 1) hend, h92]
            have hd1 : (bs s).drop (j + 1) = s[j + 1] :: (bs s).drop (j + 2) := by rw [bs_drop s (j + 1) hend]
            by_cases c1 : s[j + 1] = 34
            · have f1 : ((s[j + 1].toNat : Int) == 34) = true := beq_of _ 34 c1
              have HS := Lib.hid (runQ_step s f acc j hlt hq s[j + 1] 2 (by rw [hd, decB_two _ _ (.inl c1)]))
              clear hd hd1 hq h92 c1
              go_wp2_with (at_builtin; refine app_new rfl (.tmp 95) (.tmp 100) rfl w.heap.size acc [s[j + 1]] _ rfl HO.out 1 rfl rfl rfl (by omega) hnx.size ?_; intro v2 w2 ho2 hb2; have HO2 := Lib.hid ho2; clear ho2)
              go_roundw
              case rel => exact ⟨j + 2, f, acc ++ [s[j + 1]], by omega, by omega, by go_num, by omega, by simp; omega, HO2, Lib.hid (HS.out.symm.trans HR.out), hnx.trans hb2⟩
              case measure => simp [intOf]; omega
            have f1 : ((s[j + 1].toNat : Int) == 34) = false := bne_of _ 34 c1
            by_cases c2 : s[j + 1] = 92
            · have f2 : ((s[j + 1].toNat : Int) == 92) = true := beq_of _ 92 c2
              have HS := Lib.hid (runQ_step s f acc j hlt hq s[j + 1] 2 (by rw [hd, decB_two _ _ (.inr c2)]))
              clear hd hd1 hq h92 c1 c2
              go_wp2_with (at_builtin; refine app_new rfl (.tmp 95) (.tmp 100) rfl w.heap.size acc [s[j + 1]] _ rfl HO.out 1 rfl rfl rfl (by omega) hnx.size ?_; intro v2 w2 ho2 hb2; have HO2 := Lib.hid ho2; clear ho2)
              go_roundw
              case rel => exact ⟨j + 2, f, acc ++ [s[j + 1]], by omega, by omega, by go_num, by omega, by simp; omega, HO2, Lib.hid (HS.out.symm.trans HR.out), hnx.trans hb2⟩
              case measure => simp [intOf]; omega
            have f2 : ((s[j + 1].toNat : Int) == 92) = false := bne_of _ 92 c2
            by_cases c3 : s[j + 1] = 110
            · have f3 : ((s[j + 1].toNat : Int) == 110) = true := beq_of _ 110 c3
              have HS := Lib.hid (runQ_step s f acc j hlt hq 10 2 (by rw [hd, c3, decB_n]))
              clear hd hd1 hq h92 c1 c2 c3
              go_wp2_with (at_builtin; refine app_new rfl (.tmp 106) (.tmp 107) rfl w.heap.size acc [10] _ rfl HO.out 1 rfl rfl rfl (by omega) hnx.size ?_; intro v2 w2 ho2 hb2; have HO2 := Lib.hid ho2; clear ho2)
              go_roundw
              case rel => exact ⟨j + 2, f, acc ++ [10], by omega, by omega, by go_num, by omega, by simp; omega, HO2, Lib.hid (HS.out.symm.trans HR.out), hnx.trans hb2⟩
              case measure => simp [intOf]; omega
            have f3 : ((s[j + 1].toNat : Int) == 110) = false := bne_of _ 110 c3
            by_cases c4 : s[j + 1] = 116
            · have f4 : ((s[j + 1].toNat : Int) == 116) = true := beq_of _ 116 c4
              have HS := Lib.hid (runQ_step s f acc j hlt hq 9 2 (by rw [hd, c4, decB_t]))
              clear hd hd1 hq h92 c1 c2 c3 c4
              go_wp2_with (at_builtin; refine app_new rfl (.tmp 113) (.tmp 114) rfl w.heap.size acc [9] _ rfl HO.out 1 rfl rfl rfl (by omega) hnx.size ?_; intro v2 w2 ho2 hb2; have HO2 := Lib.hid ho2; clear ho2)
              go_roundw
              case rel => exact ⟨j + 2, f, acc ++ [9], by omega, by omega, by go_num, by omega, by simp; omega, HO2, Lib.hid (HS.out.symm.trans HR.out), hnx.trans hb2⟩
              case measure => simp [intOf]; omega
            have f4 : ((s[j + 1].toNat : Int) == 116) = false := bne_of _ 116 c4
            have hdec : decB ((bs s).drop j) = (octF ((bs s).drop (j + 1))).map fun b => (b, 4) := by rw [hd, decB_oct _ _ (by rintro (h | h) <;> contradiction) c3 c4, hd1]
            cases ho : octF ((bs s).drop (j + 1)) with
            | none =>
              rw [ho] at hdec
              have HR2 : Hid (runQ ((bs s).length + 1) ((bs s).drop (k + 1)) [] (k + 1) = none) := Lib.hid (by rw [← HR.out]; exact runQ_bad s f acc j hlt hq hdec)
              have HN := Lib.hid (quoted_none _ _ HR2.out)
              have HC := Lib.hid (fun w => octalR_at s j w (by omega) (by omega) ho)
              clear hd hd1 hq h92 c1 c2 c3 c4 hdec ho
              go_wp2_with (go_at_call 157; refine (HC.out _).mono ?_; rintro e w1 ⟨x, rfl, rfl⟩)
              go_ret3
              exact ⟨by rw [HV.out, HN.out]; rfl, hnx⟩
            | some b =>
              rw [ho] at hdec
              have HS := Lib.hid (runQ_step s f acc j hlt hq b 4 hdec)
              have hl4 := octF_len _ _ ho
              rw [List.length_drop, bs_len] at hl4
              have HC := Lib.hid (fun w => octalR_yes_at s j b w (by omega) ho)
              clear hd hd1 hq h92 c1 c2 c3 c4 hdec ho
              go_wp2_with (first
                | (go_at_call 157; refine (HC.out _).mono ?_; rintro e w1 ⟨rfl, rfl⟩)
                | (at_builtin; refine app_new rfl (.tmp 86) (.tmp 88) rfl w.heap.size acc [b] _ rfl HO.out 1 rfl rfl rfl (by omega) hnx.size ?_; intro v2 w2 ho2 hb2; have HO2 := Lib.hid ho2; clear ho2))
              go_roundw
              case rel => exact ⟨j + 4, f, acc ++ [b], by omega, by omega, by go_num, by omega, by simp; omega, HO2, Lib.hid (HS.out.symm.trans HR.out), hnx.trans hb2⟩
              case measure => simp [intOf]; omega
          · have hje : j + 1 = s.size := by omega
            have e5 : ((j : Int) + 1 == (s.size : Int)) = true := by simp only [beq_iff_eq]; omega
            have HR2 : Hid (runQ ((bs s).length + 1) ((bs s).drop (k + 1)) [] (k + 1) = none) := Lib.hid (by
              rw [← HR.out]
              exact runQ_bad s f acc j hlt hq (by rw [bs_drop s j hlt, h92, List.drop_eq_nil_of_le (by rw [bs_len]; omega)]; rfl))
            have HN := Lib.hid (quoted_none _ _ HR2.out)
            clear hq h92 hje
            go_wp2_with fail
            go_ret3
            exact ⟨by rw [HV.out, HN.out]; rfl, hnx⟩
        · have e4 := n92 _ h92
          have HS := Lib.hid (runQ_step s f acc j hlt hq s[j] 1 (by rw [bs_drop s j hlt, decB_one _ _ h92]))
          clear hq h92
          go_wp2_with (at_builtin; refine app_new rfl (.tmp 60) (.tmp 64) rfl w.heap.size acc [s[j]] _ rfl HO.out 1 rfl rfl rfl (by omega) hnx.size ?_; intro v2 w2 ho2 hb2; have HO2 := Lib.hid ho2; clear ho2)
          go_roundw
          case rel => exact ⟨j + 1, f, acc ++ [s[j]], by omega, by omega, by go_num, by omega, by simp; omega, HO2, Lib.hid (HS.out.symm.trans HR.out), hnx.trans hb2⟩
          case measure => simp [intOf]; omega
    · have HR2 : Hid (runQ ((bs s).length + 1) ((bs s).drop (k + 1)) [] (k + 1) = none) := Lib.hid (by rw [← HR.out]; exact runQ_end s f acc j (by omega))
      have HN := Lib.hid (quoted_none _ _ HR2.out)
      have hd : decide ((j : Int) < (s.size : Int)) = false := by simp only [decide_eq_false_iff_not]; omega
      have g0 : decide (s.size ≤ j) = true := by simp only [decide_eq_true_eq]; omega
      go_wp2_with fail
      go_quiet (fail)
      go_wp2_with fail
      go_ret3
      exact ⟨by rw [HV.out, HN.out]; rfl, Go.Proofs.YtlnghfmedkfkmaaGreatDoor.Sc.below_drewN hnx _⟩
theorem UnquoteR_any (s : ByteArray) (k : Int) (w : World) (hs : s.size ≤ 1048576) :
    Calls Tryz.prog 132 #[.string s, .int .i64 k] w fun e w' => e = .returned (unqV (unqF (bs s) k)) ∧ Below w.heap.size w w' := by
  by_cases h0 : k < 0
  · have HV := Lib.hid (unqF_out (bs s) k (.inl h0))
    go_enter Tryz.func132, Tryz.ntmps132
    go_wp2_with fail
    go_ret3
    exact ⟨by rw [HV.out]; rfl, Below.refl _ _⟩
  by_cases h1 : (s.size : Int) ≤ k
  · have HV := Lib.hid (unqF_out (bs s) k (.inr h1))
    go_enter Tryz.func132, Tryz.ntmps132
    go_wp2_with fail
    go_ret3
    exact ⟨by rw [HV.out]; rfl, Below.refl _ _⟩
  obtain ⟨k, rfl⟩ := Int.eq_ofNat_of_zero_le (Int.not_lt.1 h0)
  have hk : k < s.size := by omega
  by_cases hq : s[k] = 34
  · exact UnquoteR_quoted s k w hs hk hq
  · exact UnquoteR_plain s k w hs hk hq
end Sc
end
end Go.Proofs.YtlnghfmedkfkmaaGreatDoor
