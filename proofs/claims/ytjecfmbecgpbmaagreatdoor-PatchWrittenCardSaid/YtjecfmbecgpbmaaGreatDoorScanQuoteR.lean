/- Facts; each states its conditions. -/
import Derived.Test.YtjecfmbecgpbmaaGreatDoorGTextBase
import Derived.Test.YtjecfmbecgpbmaaGreatDoorScanRange
namespace Go.Proofs.YtjecfmbecgpbmaaGreatDoor
open Go.RowKit
namespace Sc
theorem bs_append' (a b : ByteArray) : bs (a ++ b) = bs a ++ bs b := by simp [bs]
theorem bne_of (b c : UInt8) (h : b ≠ c) : ((b.toNat : Int) == (c.toNat : Int)) = false := by
 simp only [beq_eq_false_iff_ne, ne_eq]
 intro e; exact h (UInt8.toNat_inj.1 (by omega))
theorem beq_of (b c : UInt8) (h : b = c) : ((b.toNat : Int) == (c.toNat : Int)) = true := by rw [h]; simp
set_option maxRecDepth 100000 in
theorem PlainR_any (b : UInt8) (w : World) : Calls Tryz.prog 141 #[.int .u8 b.toNat] w fun e w' => e = .returned (.bool (isPlain b)) ∧ w = w' := by
 have hb0 := u8_lt b
 by_cases h1 : (33 : Int) ≤ (b.toNat : Int)
 · by_cases h2 : (b.toNat : Int) ≤ 126
   · by_cases h3 : b = 34
     · subst h3
       go_enter Tryz.func141, Tryz.ntmps141
       go_wp2
       go_ret
       exact ⟨rfl, rfl⟩
     by_cases h4 : b = 92
     · subst h4
       go_enter Tryz.func141, Tryz.ntmps141
       go_wp2
       go_ret
       exact ⟨rfl, rfl⟩
     have e3 : ((b.toNat : Int) == 34) = false := bne_of b 34 h3
     have e4 : ((b.toNat : Int) == 92) = false := bne_of b 92 h4
     have HP := Lib.hid (plain_ok b (by omega) (by omega) e3 e4)
     have n3 : ((b.toNat : Int) != 34) = true := by rw [bne, e3]; rfl
     have n4 : ((b.toNat : Int) != 92) = true := by rw [bne, e4]; rfl
     clear h3 h4
     go_enter Tryz.func141, Tryz.ntmps141
     go_wp2
     go_ret
     exact ⟨by rw [HP.out]; simp [*], rfl⟩
   · have HP := Lib.hid (plain_hi b (by omega))
     go_enter Tryz.func141, Tryz.ntmps141
     go_wp2
     go_ret
     exact ⟨by rw [HP.out]; simp [*], rfl⟩
 · have HP := Lib.hid (plain_lo b (by omega))
   go_enter Tryz.func141, Tryz.ntmps141
   go_wp2
   go_ret
   exact ⟨by rw [HP.out]; simp [*], rfl⟩
def plB (s : ByteArray) (j : Nat) : Bool := !(bs s).isEmpty && ((bs s).take j).all isPlain
theorem plB_step (s : ByteArray) (j : Nat) (h : j < s.size) : plB s (j + 1) = (plB s j && isPlain s[j]) := by
 unfold plB
 rw [List.take_succ_eq_append_getElem (by simpa using h), List.all_append]
 simp only [List.all_cons, List.all_nil, Bool.and_true, Bool.and_assoc]
 rfl
theorem bs_one (s : ByteArray) (j : Nat) (h : j < s.size) : bs (s.extract j (j + 1)) = [s[j]] := by
 rw [bs_extract, bs_drop s j h, show j + 1 - j = 1 by omega]; rfl
theorem oct10 (i : Nat) (h : i < 8) : (ByteArray.mk #[48, 49, 50, 51, 52, 53, 54, 55]).extract i (i + 1) = ⟨[UInt8.ofNat (48 + i)].toArray⟩ := by
 have : i = 0 ∨ i = 1 ∨ i = 2 ∨ i = 3 ∨ i = 4 ∨ i = 5 ∨ i = 6 ∨ i = 7 := by omega
 rcases this with rfl | rfl | rfl | rfl | rfl | rfl | rfl | rfl <;> rfl
theorem bs_mk (l : List UInt8) : bs ⟨l.toArray⟩ = l := rfl
theorem eq_mk (o : ByteArray) (l : List UInt8) (h : bs o = l) : o = ⟨l.toArray⟩ := by subst h; cases o; simp [bs]
theorem step_esc (s o : ByteArray) (j : Nat) (h : j < s.size) (ho : bs o = wd s j) (hq : s[j] = 34 ∨ s[j] = 92) : bs (o ++ ⟨#[92]⟩ ++ s.extract j (j + 1)) = wd s (j + 1) := by
 rw [bs_append', bs_append', ho, bs_one s j h, wd_step s j h, quoteB_esc _ hq, List.append_assoc]; rfl
theorem step_lf (s o : ByteArray) (j : Nat) (h : j < s.size) (ho : bs o = wd s j) (hq : s[j] = 10) : bs (o ++ ⟨#[92, 110]⟩) = wd s (j + 1) := by
 rw [bs_append', ho, wd_step s j h, hq, quoteB_lf]
theorem step_tab (s o : ByteArray) (j : Nat) (h : j < s.size) (ho : bs o = wd s j) (hq : s[j] = 9) : bs (o ++ ⟨#[92, 116]⟩) = wd s (j + 1) := by
 rw [bs_append', ho, wd_step s j h, hq, quoteB_tab]
theorem step_one (s o : ByteArray) (j : Nat) (h : j < s.size) (ho : bs o = wd s j) (hq : quoteB s[j] = [s[j]]) : bs (o ++ s.extract j (j + 1)) = wd s (j + 1) := by
 rw [bs_append', ho, bs_one s j h, wd_step s j h, hq]
theorem step_oct (s o : ByteArray) (j : Nat) (h : j < s.size) (ho : bs o = wd s j) (hq : quoteB s[j] = [92, UInt8.ofNat (48 + s[j].toNat / 64), UInt8.ofNat (48 + s[j].toNat / 8 % 8), UInt8.ofNat (48 + s[j].toNat % 8)]) :
 bs (o ++ ⟨#[92]⟩ ++ (ByteArray.mk #[48, 49, 50, 51, 52, 53, 54, 55]).extract (s[j].toNat / 64) (s[j].toNat / 64 + 1) ++ (ByteArray.mk #[48, 49, 50, 51, 52, 53, 54, 55]).extract (s[j].toNat / 8 % 8) (s[j].toNat / 8 % 8 + 1) ++
  (ByteArray.mk #[48, 49, 50, 51, 52, 53, 54, 55]).extract (s[j].toNat % 8) (s[j].toNat % 8 + 1)) = wd s (j + 1) := by
 have hb := s[j].toNat_lt
 rw [oct10 _ (by omega), oct10 _ (by omega), oct10 _ (by omega)]
 simp only [bs_append', ho, wd_step s j h, hq, bs_mk, List.append_assoc]
 rfl
theorem sz_of {s o : ByteArray} {j N : Nat} (h : bs o = wd s j) (hl : (wd s j).length ≤ N) : o.size ≤ N := by
 rw [← bs_len, h]; exact hl
theorem plB_yes (s : ByteArray) (j : Nat) (h : s.size ≤ j) (hp : plB s j = true) : quoteF (bs s) = bs s := by
 unfold plB at hp
 rw [List.take_of_length_le (by rw [bs_len]; exact h)] at hp
 simp only [Bool.and_eq_true, Bool.not_eq_true'] at hp
 exact quoteF_plain _ (by intro e; rw [e] at hp; exact absurd hp.1 (by decide)) hp.2
theorem plB_no (s : ByteArray) (j : Nat) (h : s.size ≤ j) (hp : plB s j = false) : quoteF (bs s) = 34 :: (bs s).flatMap quoteB ++ [34] := by
 refine quoteF_quoted _ ?_
 rintro ⟨h1, h2⟩
 unfold plB at hp
 rw [List.take_of_length_le (by rw [bs_len]; exact h), h2, Bool.and_true] at hp
 cases hb : bs s with
 | nil => exact h1 hb
 | cons x r => rw [hb] at hp; cases hp
set_option maxRecDepth 100000 in
set_option maxHeartbeats 3000000 in
theorem QuoteR_any (s : ByteArray) (w : World) (hs : s.size ≤ 1048576) :
 Calls Tryz.prog 106 #[.string s] w fun e w' => e = .returned (.string ⟨(quoteF (bs s)).toArray⟩) ∧ Below w.heap.size w w' := by
 have HP := Lib.hid (fun b w => PlainR_any b w)
 have hp0 : plB s 0 = (!s.toList.isEmpty) := by unfold plB; rw [ByteArray.toList_eq]; simp
 have HP0 := Lib.hid hp0
 clear hp0
 go_enter Tryz.func106, Tryz.ntmps106
 go_wp2_with fail
 go_loopw [3, 4, 5] (fun p v i wr => ∃ (j : Nat) (o : ByteArray), j ≤ s.size ∧ i = .int .i64 j ∧ v = .string o ∧ o.size ≤ 4 * s.size + 1 ∧ Hid (bs o = wd s j) ∧ Hid (p = .bool (plB s j)) ∧ Below w.heap.size w wr) (fun _ _ i _ => s.size - (intOf i).toNat)
 case atStart => exact ⟨0, ⟨#[34]⟩, Nat.zero_le _, rfl, rfl, by show 1 ≤ _; omega, Lib.hid rfl, Lib.hid (by rw [HP0.out]), Below.refl _ _⟩
 case round =>
  obtain ⟨j, o, hj, rfl, rfl, hos, HO, HPL, hnx⟩ := hrel
  have hpl := HPL.out
  clear HPL
  subst hpl
  by_cases hlt : j < s.size
  · have hlen := wd_len s (j + 1) (by omega)
    have HST := Lib.hid (plB_step s j hlt)
    have hb0 := u8_lt s[j]
    generalize hP : plB s j = P at HST
    have HPP := Lib.hid hP
    clear hP
    by_cases h1 : s[j] = 34
    · have e1 : ((s[j].toNat : Int) == 34) = true := beq_of _ 34 h1
      have HB := Lib.hid (step_esc s o j hlt HO.out (.inl h1))
      clear h1
      cases P with
      | true =>
        go_wp2_with (go_at_call 141; refine (HP.out _ _).mono ?_; rintro e w1 ⟨rfl, rfl⟩)
        go_roundw
        case rel => exact ⟨j + 1, _, by omega, by go_num, rfl, sz_of HB.out hlen, Lib.hid HB.out, Lib.hid (by rw [HST.out]; rfl), hnx⟩
        case measure => simp [intOf]; omega
      | false =>
        go_wp2_with (go_at_call 141; refine (HP.out _ _).mono ?_; rintro e w1 ⟨rfl, rfl⟩)
        go_roundw
        case rel => exact ⟨j + 1, _, by omega, by go_num, rfl, sz_of HB.out hlen, Lib.hid HB.out, Lib.hid (by rw [HST.out]; rfl), hnx⟩
        case measure => simp [intOf]; omega
    have e1 : ((s[j].toNat : Int) == 34) = false := bne_of _ 34 h1
    by_cases h2 : s[j] = 92
    · have e2 : ((s[j].toNat : Int) == 92) = true := beq_of _ 92 h2
      have HB := Lib.hid (step_esc s o j hlt HO.out (.inr h2))
      clear h1 h2
      cases P with
      | true =>
        go_wp2_with (go_at_call 141; refine (HP.out _ _).mono ?_; rintro e w1 ⟨rfl, rfl⟩)
        go_roundw
        case rel => exact ⟨j + 1, _, by omega, by go_num, rfl, sz_of HB.out hlen, Lib.hid HB.out, Lib.hid (by rw [HST.out]; rfl), hnx⟩
        case measure => simp [intOf]; omega
      | false =>
        go_wp2_with (go_at_call 141; refine (HP.out _ _).mono ?_; rintro e w1 ⟨rfl, rfl⟩)
        go_roundw
        case rel => exact ⟨j + 1, _, by omega, by go_num, rfl, sz_of HB.out hlen, Lib.hid HB.out, Lib.hid (by rw [HST.out]; rfl), hnx⟩
        case measure => simp [intOf]; omega
    have e2 : ((s[j].toNat : Int) == 92) = false := bne_of _ 92 h2
    by_cases h3 : s[j] = 10
    · have e3 : ((s[j].toNat : Int) == 10) = true := beq_of _ 10 h3
      have HB := Lib.hid (step_lf s o j hlt HO.out h3)
      clear h1 h2 h3
      cases P with
      | true =>
        go_wp2_with (go_at_call 141; refine (HP.out _ _).mono ?_; rintro e w1 ⟨rfl, rfl⟩)
        go_roundw
        case rel => exact ⟨j + 1, _, by omega, by go_num, rfl, sz_of HB.out hlen, Lib.hid HB.out, Lib.hid (by rw [HST.out]; rfl), hnx⟩
        case measure => simp [intOf]; omega
      | false =>
        go_wp2_with (go_at_call 141; refine (HP.out _ _).mono ?_; rintro e w1 ⟨rfl, rfl⟩)
        go_roundw
        case rel => exact ⟨j + 1, _, by omega, by go_num, rfl, sz_of HB.out hlen, Lib.hid HB.out, Lib.hid (by rw [HST.out]; rfl), hnx⟩
        case measure => simp [intOf]; omega
    have e3 : ((s[j].toNat : Int) == 10) = false := bne_of _ 10 h3
    by_cases h4 : s[j] = 9
    · have e4 : ((s[j].toNat : Int) == 9) = true := beq_of _ 9 h4
      have HB := Lib.hid (step_tab s o j hlt HO.out h4)
      clear h1 h2 h3 h4
      cases P with
      | true =>
        go_wp2_with (go_at_call 141; refine (HP.out _ _).mono ?_; rintro e w1 ⟨rfl, rfl⟩)
        go_roundw
        case rel => exact ⟨j + 1, _, by omega, by go_num, rfl, sz_of HB.out hlen, Lib.hid HB.out, Lib.hid (by rw [HST.out]; rfl), hnx⟩
        case measure => simp [intOf]; omega
      | false =>
        go_wp2_with (go_at_call 141; refine (HP.out _ _).mono ?_; rintro e w1 ⟨rfl, rfl⟩)
        go_roundw
        case rel => exact ⟨j + 1, _, by omega, by go_num, rfl, sz_of HB.out hlen, Lib.hid HB.out, Lib.hid (by rw [HST.out]; rfl), hnx⟩
        case measure => simp [intOf]; omega
    have e4 : ((s[j].toNat : Int) == 9) = false := bne_of _ 9 h4
    by_cases h5 : s[j].toNat < 32 ∨ 126 < s[j].toNat
    · have HB := Lib.hid (step_oct s o j hlt HO.out (quoteB_oct _ (by rintro (h | h) <;> contradiction) h3 h4 h5))
      clear h1 h2 h3 h4
      rcases h5 with h5 | h5
      · have h6 : (s[j].toNat : Int) < 32 := by omega
        clear h5
        cases P with
        | true =>
          go_wp2_with (go_at_call 141; refine (HP.out _ _).mono ?_; rintro e w1 ⟨rfl, rfl⟩)
          go_quiet (fail)
          go_wp2_with fail
          go_roundw
          case rel => exact ⟨j + 1, _, by omega, by go_num, rfl, sz_of HB.out hlen, Lib.hid HB.out, Lib.hid (by rw [HST.out]; rfl), below_drewN hnx _⟩
          case measure => simp [intOf]; omega
        | false =>
          go_wp2_with (go_at_call 141; refine (HP.out _ _).mono ?_; rintro e w1 ⟨rfl, rfl⟩)
          go_quiet (fail)
          go_wp2_with fail
          go_roundw
          case rel => exact ⟨j + 1, _, by omega, by go_num, rfl, sz_of HB.out hlen, Lib.hid HB.out, Lib.hid (by rw [HST.out]; rfl), below_drewN hnx _⟩
          case measure => simp [intOf]; omega
      · have h6 : ¬ (s[j].toNat : Int) < 32 := by omega
        have h7 : (126 : Int) < (s[j].toNat : Int) := by omega
        clear h5
        cases P with
        | true =>
          go_wp2_with (go_at_call 141; refine (HP.out _ _).mono ?_; rintro e w1 ⟨rfl, rfl⟩)
          go_quiet (fail)
          go_wp2_with fail
          go_roundw
          case rel => exact ⟨j + 1, _, by omega, by go_num, rfl, sz_of HB.out hlen, Lib.hid HB.out, Lib.hid (by rw [HST.out]; rfl), below_drewN hnx _⟩
          case measure => simp [intOf]; omega
        | false =>
          go_wp2_with (go_at_call 141; refine (HP.out _ _).mono ?_; rintro e w1 ⟨rfl, rfl⟩)
          go_quiet (fail)
          go_wp2_with fail
          go_roundw
          case rel => exact ⟨j + 1, _, by omega, by go_num, rfl, sz_of HB.out hlen, Lib.hid HB.out, Lib.hid (by rw [HST.out]; rfl), below_drewN hnx _⟩
          case measure => simp [intOf]; omega
    · have HB := Lib.hid (step_one s o j hlt HO.out (quoteB_one _ (by rintro (h | h) <;> contradiction) h3 h4 h5))
      have h6 : ¬ (s[j].toNat : Int) < 32 := by omega
      have h7 : ¬ (126 : Int) < (s[j].toNat : Int) := by omega
      clear h1 h2 h3 h4 h5
      cases P with
      | true =>
        go_wp2_with (go_at_call 141; refine (HP.out _ _).mono ?_; rintro e w1 ⟨rfl, rfl⟩)
        go_roundw
        case rel => exact ⟨j + 1, _, by omega, by go_num, rfl, sz_of HB.out hlen, Lib.hid HB.out, Lib.hid (by rw [HST.out]; rfl), hnx⟩
        case measure => simp [intOf]; omega
      | false =>
        go_wp2_with (go_at_call 141; refine (HP.out _ _).mono ?_; rintro e w1 ⟨rfl, rfl⟩)
        go_roundw
        case rel => exact ⟨j + 1, _, by omega, by go_num, rfl, sz_of HB.out hlen, Lib.hid HB.out, Lib.hid (by rw [HST.out]; rfl), hnx⟩
        case measure => simp [intOf]; omega
  · have hlen := wd_len s j hj
    have hd : decide ((j : Int) < (s.size : Int)) = false := by simp only [decide_eq_false_iff_not]; omega
    generalize hP : plB s j = P
    have HPP := Lib.hid hP
    clear hP
    cases P with
    | true =>
      have HQ := Lib.hid (plB_yes s j (by omega) HPP.out)
      go_wp2_with fail
      go_ret
      exact ⟨congrArg (fun x => Ending.returned (.string x)) (eq_mk _ _ HQ.out.symm), hnx⟩
    | false =>
      have HQ := Lib.hid (wd_end s j (by omega) (plB_no s j (by omega) HPP.out))
      go_wp2_with fail
      go_ret
      exact ⟨congrArg (fun x => Ending.returned (.string x)) (eq_mk _ _ (by rw [bs_append', HO.out, HQ.out])), hnx⟩
end Sc
end Go.Proofs.YtjecfmbecgpbmaaGreatDoor
