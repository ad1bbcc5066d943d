/-
  The reference's class without '^'. Conditions: short patterns.
-/
import Derived.Test.YtebljjdhgepfkaaRegexClsB
namespace Go.Proofs.Ytebljjdhgepfkaa
open Go.RowKit
namespace Rx
open Cm
section
variable {w : World} {base rb : Nat} {s : ByteArray} {at_ : Nat} {D : Int} {ns : List Nd} {ks : List Value}
set_option maxRecDepth 100000 in
set_option maxHeartbeats 16000000 in
theorem class_pos (h : Rdr w base rb s (at_ : Int) D 0 ns ks) (hs : s.size ≤ 1000000) (ha : at_ ≤ s.size) (hn : ns.length ≤ 1000000) (hx : ¬ (Tx.bs s)[at_]? = some 94) :
    Calls Try.prog 88 #[.pointer (some ⟨rb, 0, none⟩)] w (RPost w base rb s D ns ks (ClsP ns false (itemsF (Tx.bs s) ((Tx.bs s).length + 1) true (at_) noSet))) := by
  have HIs : Hid (Calls Try.prog 44 #[.pointer (some ⟨rb, 0, none⟩), .int .u8 94] w fun en w' => en = .returned (.bool false) ∧ ∃ m, w' = w.drewN m) := Lib.hid (by
    have h1 := is_any h 94
    rw [show isF (Tx.bs s) at_ 94 = false from is_F hx] at h1
    exact h1)
  have HC0 := Lib.hid (fun q => CR.start (w := w) (wr := w.drewN q) ⟨h.drewN q, below_drewN (Below.refl _ _) q, KeptX.drewN w q⟩)
  have HSz : Hid (∀ q, (w.drewN q).heap.size = w.heap.size) := Lib.hid (size_drewN' w)
  have hcr : ∃ v, w.heap[rb]? = some (.cells #[.string s, .int .i64 (at_ : Int), .int .i64 D, v, .int .i64 0] tRd (0, 0)) := by obtain ⟨v, _, hh, _⟩ := h; exact ⟨v, hh⟩
  obtain ⟨v0, hh0⟩ := hcr
  obtain ⟨c0, c1, c2, c3, c4, hf⟩ := rdr_cells hh0
  have f1 := hf 1
  generalize hT : itemsF (Tx.bs s) ((Tx.bs s).length + 1) true (at_) noSet = total
  have HT := Lib.hid hT
  have HZ : Hid (∀ j, word noSet j = 0) := Lib.hid (fun j => word_none j)
  generalize hr : ClsP ns false total = r
  have HRes := Lib.hid hr
  clear h hx hT hh0 hf hr c0 c2 c3 c4
  go_enter Try.func88, Try.ntmps88
  go_wp2_with fail
  refine HIs.out.mono ?_
  rintro e w1 ⟨rfl, q1, rfl⟩
  have C1 := HC0.out q1
  unfold rowR at C1
  rw [HZ.out, HZ.out, HZ.out, HZ.out] at C1
  have HS := Lib.hid (show ItR total w base rb (w.drewN q1).heap.size s D ns ks true ((w.drewN q1).alloc (.cells #[.int .u64 (0 : Nat), .int .u64 (0 : Nat), .int .u64 (0 : Nat), .int .u64 (0 : Nat)] tSet)) from
    ⟨_, at_, noSet, HT.out.symm, by rw [Tx.bs_len]; omega, by omega, C1⟩)
  rw [show (w.drewN q1).heap.size = w.heap.size from by simp] at HS
  clear C1
  go_wp2_with fail
  clear c1 f1
  obtain ⟨H, hH⟩ : ∃ H, H = w.heap.size := ⟨_, rfl⟩
  rw [← hH] at HS
  try simp only [← hH]
  clear hH
  go_loopw [5] (fun f wr => ∃ fb : Bool, f = .bool fb ∧ Hid (ItR total w base rb H s D ns ks fb wr)) (fun _ wr => measR s rb wr)
  case atStart => exact ⟨true, rfl, HS⟩
  case round =>
    obtain ⟨fb, rfl, HR⟩ := hrel
    clear HS
    obtain ⟨f, a, m, ht, hfu, hal, hC⟩ := HR.out
    obtain ⟨f', rfl⟩ : ∃ f', f = f' + 1 := ⟨f - 1, by omega⟩
    have HC := Lib.hid hC
    have HM := Lib.hid (measR_ok hC)
    clear hC HR HIs HC0 HT
    have HL := Lib.hid (Tx.bs_len s)
    by_cases hex : fb = false ∧ (Tx.bs s)[a]? = some 93
    · obtain ⟨rfl, h93⟩ := hex
      have HE : Hid (r = .ok (ns.length, a + 1, ns ++ [setN m])) := Lib.hid (by rw [← HRes.out, ht, Px.items_step, h93]; rfl)
      have HI := Lib.hid (HC.out.is rfl 93)
      rw [show isF (Tx.bs s) a 93 = true from is_T h93] at HI
      have hlt := get_lt h93
      rw [HL.out] at hlt
      clear ht hfu HRes h93
      go_wp2_with fail
      refine HI.out.mono ?_
      rintro e w4 ⟨rfl, q4, rfl⟩
      have HC4 := Lib.hid (HC.out.drewN q4)
      have HC5 := Lib.hid (HC4.out.setAt ((a : Int) + 1))
      obtain ⟨v4, ⟨_, c1, _, _, _⟩, f1⟩ := HC4.out.rdr
      obtain ⟨⟨s0, s1, s2, s3⟩, g0, g1, g2, g3⟩ := HC5.out.cells
      have HNode := Lib.hid (HC5.out.node (at_ := a + 1) (by omega) hn)
      unfold ndV at HNode
      simp only [setN] at HNode
      go_wp2_with fail
      refine HNode.out.mono ?_
      rintro e w9 ⟨rfl, hP⟩
      have HP := Lib.hid hP
      clear hP
      go_wp2_with fail
      go_ret
      rw [HE.out]
      exact HP.out
    · have hg : (!fb && (Tx.bs s)[a]? == some 93) = false := by
        cases fb
        · simp only [Bool.not_false, Bool.true_and, beq_eq_false_iff_ne]; exact fun h => hex ⟨rfl, h⟩
        · rfl
      have HT2 : Hid (total = nxt (Tx.bs s) f' m (Px.itemF (Tx.bs s) a)) := Lib.hid (by rw [ht, items_nxt hg])
      have HI : Hid (fb = false → Calls Try.prog 44 #[.pointer (some ⟨rb, 0, none⟩), .int .u8 93] wr fun en w' => en = .returned (.bool false) ∧ ∃ q, w' = wr.drewN q) := Lib.hid (fun hfb => by
        have h1 := HC.out.is rfl 93
        rw [show isF (Tx.bs s) a 93 = false from is_F (fun h => hex ⟨hfb, h⟩)] at h1
        exact h1)
      clear ht hg hex
      go_upto_region 6 with fail
      go_cut [31] from 26 to 244 (fun c wx => c = .bool true ∧ Hid (CR w wx base rb H s (a : Int) D ns ks m))
      case first =>
        cases fb
        · have HI1 := Lib.hid (HI.out rfl)
          clear HI
          go_wp2_with fail
          refine HI1.out.mono ?_
          rintro e w4 ⟨rfl, q4, rfl⟩
          go_wp2_with fail
          go_meet
          case rel => exact ⟨rfl, Lib.hid (HC.out.drewN q4)⟩
        · clear HI
          go_wp2_with fail
          go_meet
          case rel => exact ⟨rfl, HC⟩
      case rest =>
        obtain ⟨rfl, HC4⟩ := hcut
        clear HI HC
        obtain ⟨v4, ⟨c0, c1, c2, c3, c4⟩, f1⟩ := HC4.out.rdr
        clear c2 c3 c4
        by_cases hlt : a < s.size
        · have gx : (Tx.bs s)[a]? = some s[a] := Tx.bs_get? s a hlt
          have i0 : (0 : Int) ≤ (a : Int) := by omega
          have i1 : (a : Int) < (s.size : Int) := by omega
          have d8 : decide (s.size ≤ a) = false := by simp only [decide_eq_false_iff_not]; omega
          go_wp2_with fail
          go_quiet (fail)
          go_upto_region 10 with fail
          go_cut [71] from 26 to 244 (fun c wx => c = .bool (ncB (Tx.bs s) a) ∧ Hid (CR w wx base rb H s (a : Int) D ns ks m))
          case first =>
            have HL1 := Lib.hid gx
            clear gx
            by_cases h91 : s[a] = 91
            · have HIq : Hid (∀ W, CR w W base rb H s (a : Int) D ns ks m → Calls Try.prog 44 #[.pointer (some ⟨rb, 0, none⟩), .int .u8 91] W fun en w' => en = .returned (.bool true) ∧ ∃ q, w' = W.drewN q) := Lib.hid (fun W hW => by
                have h1 := hW.is rfl 91
                rw [show isF (Tx.bs s) a 91 = true from is_T (c := 91) (by rw [HL1.out, h91])] at h1
                exact h1)
              have h91' := Lib.hid h91
              clear h91
              have hw1 : IntKind.i64.wrap ((a : Int) + 1) = (a : Int) + 1 := IntWalk.i64_in _ (by omega)
              have hw2 : (0 : Int) ≤ (a : Int) + 1 := by omega
              have hw3 : ((a : Int) + 1).toNat = a + 1 := by omega
              by_cases hl1 : a + 1 < s.size
              · as_aux_lemma =>
                have hw4 : (a : Int) + 1 < (s.size : Int) := by omega
                have HB : Hid (((s[a + 1].toNat : Int) == 58) = ncB (Tx.bs s) a) := Lib.hid (by
                  unfold ncB
                  rw [Bool.eq_iff_iff, beq_iff_eq, decide_eq_true_eq, Tx.bs_get? s (a + 1) hl1, HL1.out, h91'.out]
                  constructor
                  · intro hh
                    exact ⟨rfl, congrArg some (UInt8.toNat_inj.1 (by show s[a + 1].toNat = 58; omega))⟩
                  · rintro ⟨_, hh⟩
                    rw [Option.some.inj hh]; rfl)
                go_quiet ((go_at_call 44; exact quiet_more (HIq.out _ (HC4.out.drewN _))))
                clear hw1
                go_wp2_with fail
                go_meet
                case rel => exact ⟨congrArg Value.bool HB.out, Lib.hid ((HC4.out.drewN _).drewN _)⟩
              · as_aux_lemma =>
                have HB : Hid (false = ncB (Tx.bs s) a) := Lib.hid (by unfold ncB; exact (decide_eq_false (fun hh => by have := get_lt hh.2; rw [HL.out] at this; omega)).symm)
                have hw4 : decide ((a : Int) + 1 < (s.size : Int)) = false := by simp only [decide_eq_false_iff_not]; omega
                go_quiet ((go_at_call 44; exact quiet_more (HIq.out _ (HC4.out.drewN _))))
                clear hw1
                go_wp2_with fail
                go_meet
                case rel => exact ⟨congrArg Value.bool HB.out, Lib.hid ((HC4.out.drewN _).drewN _)⟩
            · as_aux_lemma =>
              have HIq : Hid (∀ W, CR w W base rb H s (a : Int) D ns ks m → Calls Try.prog 44 #[.pointer (some ⟨rb, 0, none⟩), .int .u8 91] W fun en w' => en = .returned (.bool false) ∧ ∃ q, w' = W.drewN q) := Lib.hid (fun W hW => by
                have h1 := hW.is rfl 91
                rw [show isF (Tx.bs s) a 91 = false from is_F (c := 91) (by rw [HL1.out]; intro hh; exact h91 (Option.some.inj hh))] at h1
                exact h1)
              have HB : Hid (false = ncB (Tx.bs s) a) := Lib.hid (by unfold ncB; exact (decide_eq_false (fun hh => by have := hh.1; rw [HL1.out] at this; exact h91 (Option.some.inj this))).symm)
              clear h91
              go_quiet ((go_at_call 44; exact quiet_more (HIq.out _ (HC4.out.drewN _))))
              go_wp2_with fail
              go_meet
              case rel => exact ⟨congrArg Value.bool HB.out, Lib.hid ((HC4.out.drewN _).drewN _)⟩
          case rest =>
            obtain ⟨rfl, HC5⟩ := hcut
            have HG := Lib.hid gx
            clear HC4 c0 c1 f1 d8 gx
            obtain ⟨v5, ⟨c0, c1, c2, c3, c4⟩, f1⟩ := HC5.out.rdr
            clear c2 c3 c4
            have HF5 := Lib.hid (fun q => (HC5.out.drewN q).fail)
            by_cases hnc : ncB (Tx.bs s) a = true
            · have hp : (Tx.bs s)[a]? = some 91 ∧ (Tx.bs s)[a + 1]? = some 58 := of_decide_eq_true hnc
              have hlt1 := get_lt hp.2
              rw [HL.out] at hlt1
              have HItem : Hid (Px.itemF (Tx.bs s) a = namedI (Tx.bs s) a (nameEnd (Tx.bs s) (Tx.bs s).length (a + 2))) := Lib.hid (item_named hp.1 hp.2)
              rw [hnc]
              clear hp hnc
              go_upto_block 2 with fail
              go_cut [6, 7] from 26 to 244 (fun nm i wx => ∃ (k : Nat) (nv : ByteArray), a + 2 ≤ k ∧ k ≤ s.size ∧ i = .int .i64 (k : Int) ∧ nm = .string nv ∧ Hid (Tx.bs nv = ((Tx.bs s).drop (a + 2)).take (k - (a + 2)) ∧ nameEnd (Tx.bs s) (Tx.bs s).length (a + 2) = k) ∧ Hid (CR w wx base rb H s (a : Int) D ns ks m))
              case first => as_aux_lemma =>
                go_wp2_with fail
                go_loop [6, 7] (fun nm i => ∃ (k fu : Nat) (nv : ByteArray), a + 2 ≤ k ∧ k ≤ s.size ∧ i = .int .i64 (k : Int) ∧ nm = .string nv ∧ nv.size ≤ k ∧ Hid (Tx.bs nv = ((Tx.bs s).drop (a + 2)).take (k - (a + 2)) ∧ nameEnd (Tx.bs s) (Tx.bs s).length (a + 2) = nameEnd (Tx.bs s) fu k ∧ s.size ≤ k + fu)) (fun _ i => s.size - (intOf i).toNat)
                case atStart => exact ⟨a + 2, (Tx.bs s).length, ⟨#[]⟩, Nat.le_refl _, by omega, by go_num, rfl, Nat.zero_le _, Lib.hid ⟨by rw [Nat.sub_self, List.take_zero], rfl, by rw [HL.out]; omega⟩⟩
                case round =>
                  obtain ⟨k, fu, nv, hk1, hk2, rfl, rfl, hnv, HK⟩ := hrel
                  have b0 : (0 : Int) ≤ (k : Int) := by omega
                  by_cases hlk : k + 1 < s.size
                  · have b1 : (k : Int) + 1 < (s.size : Int) := by omega
                    have b2 : (k : Int) < (s.size : Int) := by omega
                    have b3 : (k : Int) + 1 ≤ (s.size : Int) := by omega
                    have b4 : (0 : Int) ≤ (k : Int) + 1 := by omega
                    have hcx : (s.extract k (k + 1)).size = 1 := by rw [ByteArray.size_extract]; omega
                    have b5 : ¬ (9223372036854775807 < nv.size + (s.extract k (k + 1)).size) := by omega
                    have HX : Hid (nv.size + (s.extract k (k + 1)).size ≤ k + 1) := Lib.hid (by omega)
                    have HE2 : Hid (∀ (_ : ¬ ((Tx.bs s)[k]? = some 58 ∧ (Tx.bs s)[k + 1]? = some 93)), ∃ fu', Tx.bs (nv ++ s.extract k (k + 1)) = ((Tx.bs s).drop (a + 2)).take (k + 1 - (a + 2)) ∧ nameEnd (Tx.bs s) (Tx.bs s).length (a + 2) = nameEnd (Tx.bs s) fu' (k + 1) ∧ s.size ≤ k + 1 + fu') := Lib.hid (name_more s HK.out.1 HK.out.2.1 HK.out.2.2 hk1 hlk)
                    clear hcx
                    by_cases h58 : s[k] = 58
                    · by_cases h93 : s[k + 1] = 93
                      · have HE3 : Hid (nameEnd (Tx.bs s) (Tx.bs s).length (a + 2) = k) := Lib.hid (name_stop HK.out.2.1 (.inr ⟨by rw [Tx.bs_get? s k (by omega), h58], by rw [Tx.bs_get? s (k + 1) hlk, h93]⟩))
                        have e58 : ((s[k].toNat : Int) == 58) = true := by rw [h58]; rfl
                        have n58 : ((s[k].toNat : Int) != 58) = false := by rw [h58]; rfl
                        have e93 : ((s[k + 1].toNat : Int) == 93) = true := by rw [h93]; rfl
                        have n93 : ((s[k + 1].toNat : Int) != 93) = false := by rw [h93]; rfl
                        clear h58 h93
                        go_wp2_with fail
                        go_meet
                        case rel => exact ⟨k, nv, hk1, hk2, rfl, rfl, Lib.hid ⟨HK.out.1, HE3.out⟩, HC5⟩
                      · have HE3 := Lib.hid (HE2.out (fun hh => by have := hh.2; rw [Tx.bs_get? s (k + 1) hlk] at this; exact h93 (Option.some.inj this)))
                        have e58 : ((s[k].toNat : Int) == 58) = true := by rw [h58]; rfl
                        have n58 : ((s[k].toNat : Int) != 58) = false := by rw [h58]; rfl
                        have e93 : ((s[k + 1].toNat : Int) == 93) = false := byte_F h93
                        have n93 : ((s[k + 1].toNat : Int) != 93) = true := by rw [bne, e93]; rfl
                        clear h58 h93
                        go_wp2_with fail
                        go_round
                        case rel => obtain ⟨fu', h1, h2, h3⟩ := HE3.out; exact ⟨k + 1, fu', _, by omega, by omega, by go_num, rfl, by rw [ByteArray.size_append]; exact HX.out, Lib.hid ⟨h1, h2, h3⟩⟩
                        case measure => simp [intOf]; omega
                    · have HE3 := Lib.hid (HE2.out (fun hh => by have := hh.1; rw [Tx.bs_get? s k (by omega)] at this; exact h58 (Option.some.inj this)))
                      have e58 : ((s[k].toNat : Int) == 58) = false := byte_F h58
                      have n58 : ((s[k].toNat : Int) != 58) = true := by rw [bne, e58]; rfl
                      clear h58
                      go_wp2_with fail
                      go_round
                      case rel => obtain ⟨fu', h1, h2, h3⟩ := HE3.out; exact ⟨k + 1, fu', _, by omega, by omega, by go_num, rfl, by rw [ByteArray.size_append]; exact HX.out, Lib.hid ⟨h1, h2, h3⟩⟩
                      case measure => simp [intOf]; omega
                  · have HE3 : Hid (nameEnd (Tx.bs s) (Tx.bs s).length (a + 2) = k) := Lib.hid (name_stop HK.out.2.1 (.inl (by rw [HL.out]; omega)))
                    have b1 : decide ((k : Int) + 1 < (s.size : Int)) = false := by simp only [decide_eq_false_iff_not]; omega
                    go_wp2_with fail
                    go_meet
                    case rel => exact ⟨k, nv, hk1, hk2, rfl, rfl, Lib.hid ⟨HK.out.1, HE3.out⟩, HC5⟩
              case rest =>
                obtain ⟨k, nv, hk1, hk2, rfl, rfl, HK, HC6⟩ := hcut
                clear c0 c1 f1 HF5 HC5
                obtain ⟨v6, ⟨c0, c1, c2, c3, c4⟩, f1⟩ := HC6.out.rdr
                clear c2 c3 c4
                have HF6 := Lib.hid HC6.out.fail
                have HNm := Lib.hid (fun (n : Nat) (W : World) => Named_any nv n W)
                have HIt : Hid (Px.itemF (Tx.bs s) a = namedI (Tx.bs s) a k) := Lib.hid (by rw [HItem.out, HK.out.2])
                have HBs := Lib.hid HK.out.1
                cases hcl : clsF (Tx.bs nv) with
                | none => as_aux_lemma =>
                  have HN : Hid (r = .error 40) := Lib.hid (by rw [← HRes.out, HT2.out, HIt.out]; unfold namedI; rw [← HBs.out, hcl]; rfl)
                  have HN0 : Hid (∀ W, Calls Try.prog 102 #[.string nv, .int .u8 0] W fun e w' => e = .returned (.tuple #[.bool false, .bool false]) ∧ W = w') := Lib.hid (fun W => by
                    have h1 := HNm.out 0 W
                    rw [clsV_none hcl] at h1
                    exact h1)
                  clear hcl
                  go_wp2_with (go_at_call 102; refine (HN0.out _).mono ?_; rintro e w8 ⟨rfl, rfl⟩)
                  refine HF6.out.mono ?_
                  rintro e w9 ⟨rfl, hP⟩
                  have HP := Lib.hid hP
                  clear hP
                  go_wp2_with fail
                  go_ret
                  rw [HN.out]
                  exact HP.out
                | some p =>
                  have HN0 : Hid (∀ W, Calls Try.prog 102 #[.string nv, .int .u8 0] W fun e w' => e = .returned (.tuple #[.bool (p 0), .bool true]) ∧ W = w') := Lib.hid (fun W => by
                    have h1 := HNm.out 0 W
                    rw [clsV_some hcl] at h1
                    exact h1)
                  by_cases hlk : k + 1 < s.size
                  · as_aux_lemma =>
                    have HNj : Hid (∀ (j : Nat) W, Calls Try.prog 102 #[.string nv, .int .u8 (j : Int)] W fun e w' => e = .returned (.tuple #[.bool (p j), .bool true]) ∧ W = w') := Lib.hid (fun j W => by
                      have h1 := HNm.out j W
                      rw [clsV_some hcl] at h1
                      exact h1)
                    have HI2 : Hid (total = itemsF (Tx.bs s) f' false (k + 2) (fun x => m x || (decide (x < 256) && p x))) := Lib.hid (by
                      rw [HT2.out, HIt.out]
                      unfold namedI
                      rw [← HBs.out, hcl]
                      simp only
                      rw [if_neg (by rw [HL.out]; omega)]; rfl)
                    have b1 : decide ((s.size : Int) ≤ (k : Int) + 1) = false := by simp only [decide_eq_false_iff_not]; omega
                    have b2 : ¬ ((s.size : Int) ≤ (k : Int) + 1) := by omega
                    clear hcl HT2 HItem HIt
                    go_wp2_with (go_at_call 102; refine (HN0.out _).mono ?_; rintro e w8 ⟨rfl, rfl⟩)
                    clear c0 c1 f1
                    go_loopw [10] (fun c wr => ∃ j : Nat, j ≤ 256 ∧ c = .int .i64 (j : Int) ∧ Hid (CR w wr base rb H s (a : Int) D ns ks (clsM m p j))) (fun c _ => 256 - (intOf c).toNat)
                    case atStart => exact ⟨0, by omega, by go_num, Lib.hid (HC6.out.congr (fun x _ => by unfold clsM; simp))⟩
                    case round =>
                      obtain ⟨j, hj, rfl, HCj⟩ := hrel
                      by_cases hj2 : j < 256
                      · have hw8 : IntKind.u8.wrap (j : Int) = (j : Int) := by rw [IntKind.wrap_u8]; omega
                        have hw9 : (j : Int) % 256 = (j : Int) := by omega
                        cases hpj : p j with
                        | true =>
                          have HN1 := Lib.hid (HNj.out j)
                          rw [hpj] at HN1
                          have HPut := Lib.hid (fun W => Put_any (clsM m p j) (UInt8.ofNat j) W)
                          rw [show (UInt8.ofNat j).toNat = j from UInt8.toNat_ofNat_of_lt' hj2] at HPut
                          have HMj := Lib.hid (clsM_T (m := m) hpj)
                          unfold setV at HPut
                          obtain ⟨⟨s0, s1, s2, s3⟩, _⟩ := HCj.out.cells
                          clear hpj
                          go_wp2_with (go_at_call 102; refine (HN1.out _).mono ?_; rintro e w8 ⟨rfl, rfl⟩)
                          refine (HPut.out _).mono ?_
                          rintro e w9 ⟨rfl, B9⟩
                          have HC9 := Lib.hid (HCj.out.below B9)
                          obtain ⟨⟨y0, y1, y2, y3⟩, z0, z1, z2, z3⟩ := HC9.out.cells
                          clear B9
                          go_wp2_with fail
                          go_roundw
                          case rel => exact ⟨j + 1, by omega, by go_num, Lib.hid (by rw [HMj.out]; exact HC9.out.put _)⟩
                          case measure => simp [intOf]; omega
                        | false =>
                          have HN1 := Lib.hid (HNj.out j)
                          rw [hpj] at HN1
                          have HMj := Lib.hid (clsM_F (m := m) hpj)
                          clear hpj
                          go_wp2_with (go_at_call 102; refine (HN1.out _).mono ?_; rintro e w8 ⟨rfl, rfl⟩)
                          go_roundw
                          case rel => exact ⟨j + 1, by omega, by go_num, Lib.hid (by rw [HMj.out]; exact HCj.out)⟩
                          case measure => simp [intOf]; omega
                      · obtain rfl : j = 256 := by omega
                        obtain ⟨v7, ⟨_, c1, _, _, _⟩, f1⟩ := HCj.out.rdr
                        have HC8 := Lib.hid (HCj.out.setAt ((k : Int) + 2))
                        go_wp2_with fail
                        go_roundw
                        case rel => exact ⟨false, rfl, Lib.hid ⟨f', k + 2, _, HI2.out, by omega, by omega, HC8.out⟩⟩
                        case measure => rw [measR_ok (a := k + 2) HC8.out, HM.out]; omega
                  · as_aux_lemma =>
                    have HN : Hid (r = .error 40) := Lib.hid (by
                      rw [← HRes.out, HT2.out, HIt.out]
                      unfold namedI
                      rw [← HBs.out, hcl]
                      simp only
                      rw [if_pos (by rw [HL.out]; omega)]; rfl)
                    have b1 : (s.size : Int) ≤ (k : Int) + 1 := by omega
                    clear hcl HT2 HItem HIt
                    go_wp2_with (go_at_call 102; refine (HN0.out _).mono ?_; rintro e w8 ⟨rfl, rfl⟩)
                    refine HF6.out.mono ?_
                    rintro e w9 ⟨rfl, hP⟩
                    have HP := Lib.hid hP
                    clear hP
                    go_wp2_with fail
                    go_ret
                    rw [HN.out]
                    exact HP.out
            · have hnc' : ncB (Tx.bs s) a = false := by cases hh : ncB (Tx.bs s) a with | true => exact absurd hh hnc | false => rfl
              have HNc := Lib.hid hnc'
              rw [hnc']
              clear hnc hnc'
              go_wp2_with fail
              go_quiet (fail)
              go_upto_region 28 with fail
              go_cut [202] from 26 to 244 (fun c wx => c = .bool (rgB (Tx.bs s) a) ∧ Hid (CR w wx base rb H s (a : Int) D ns ks m))
              case first =>
                have hw1 : IntKind.i64.wrap ((a : Int) + 1) = (a : Int) + 1 := IntWalk.i64_in _ (by omega)
                have hw2 : IntKind.i64.wrap ((a : Int) + 2) = (a : Int) + 2 := IntWalk.i64_in _ (by omega)
                have hw3 : (0 : Int) ≤ (a : Int) + 1 := by omega
                have hw4 : ((a : Int) + 1).toNat = a + 1 := by omega
                have hw5 : (0 : Int) ≤ (a : Int) + 2 := by omega
                have hw6 : ((a : Int) + 2).toNat = a + 2 := by omega
                by_cases hl2 : a + 2 < s.size
                · have hw7 : (a : Int) + 2 < (s.size : Int) := by omega
                  have hw8 : (a : Int) + 1 < (s.size : Int) := by omega
                  have g1 := Lib.hid (Tx.bs_get? s (a + 1) (by omega))
                  have g2 := Lib.hid (Tx.bs_get? s (a + 2) hl2)
                  by_cases h45 : s[a + 1] = 45
                  · as_aux_lemma =>
                    have HB : Hid (((s[a + 2].toNat : Int) != 93) = rgB (Tx.bs s) a) := Lib.hid (by
                      unfold rgB
                      rw [Bool.eq_iff_iff, bne_iff_ne, decide_eq_true_eq, g1.out, g2.out, HL.out, h45]
                      constructor
                      · intro hh
                        exact ⟨rfl, hl2, fun h3 => hh (by rw [Option.some.inj h3]; rfl)⟩
                      · rintro ⟨_, _, hh⟩ h3
                        exact hh (congrArg some (UInt8.toNat_inj.1 (by show s[a + 2].toNat = 93; omega))))
                    have e45 : ((s[a + 1].toNat : Int) == 45) = true := by rw [h45]; rfl
                    clear h45
                    go_quiet (fail)
                    go_wp2_with fail
                    go_meet
                    case rel => exact ⟨congrArg Value.bool HB.out, Lib.hid ((HC5.out.drewN _).drewN _)⟩
                  · as_aux_lemma =>
                    have HB : Hid (false = rgB (Tx.bs s) a) := Lib.hid (by
                      unfold rgB
                      exact (decide_eq_false (fun hh => by have := hh.1; rw [g1.out] at this; exact h45 (Option.some.inj this))).symm)
                    have e45 : ((s[a + 1].toNat : Int) == 45) = false := byte_F h45
                    clear h45
                    go_quiet (fail)
                    go_wp2_with fail
                    go_meet
                    case rel => exact ⟨congrArg Value.bool HB.out, Lib.hid ((HC5.out.drewN _).drewN _)⟩
                · as_aux_lemma =>
                  have HB : Hid (false = rgB (Tx.bs s) a) := Lib.hid (by
                    unfold rgB
                    exact (decide_eq_false (fun hh => by have := hh.2.1; rw [HL.out] at this; omega)).symm)
                  have hw7 : decide ((a : Int) + 2 < (s.size : Int)) = false := by simp only [decide_eq_false_iff_not]; omega
                  go_quiet (fail)
                  go_wp2_with fail
                  go_meet
                  case rel => exact ⟨congrArg Value.bool HB.out, Lib.hid ((HC5.out.drewN _).drewN _)⟩
              case rest =>
                obtain ⟨rfl, HC6⟩ := hcut
                clear HC5 HF5 c0 c1 f1
                obtain ⟨v6, ⟨c0, c1, c2, c3, c4⟩, f1⟩ := HC6.out.rdr
                clear c2 c3 c4
                go_upto_if 202 with fail
                go_cut [14] from 26 to 244 (fun hi wx => ∃ (h : UInt8) (e : Nat), hi = .int .u8 (h.toNat : Int) ∧ a ≤ e ∧ e + 1 ≤ s.size ∧ Hid (Px.itemF (Tx.bs s) a = rangeI s[a] h e) ∧ Hid (CR w wx base rb H s (e : Int) D ns ks m))
                case first =>
                  by_cases hrg : rgB (Tx.bs s) a = true
                  · as_aux_lemma =>
                    have hp : (Tx.bs s)[a + 1]? = some 45 ∧ a + 2 < (Tx.bs s).length ∧ (Tx.bs s)[a + 2]? ≠ some 93 := of_decide_eq_true hrg
                    have hl2 : a + 2 < s.size := by have := hp.2.1; rwa [HL.out] at this
                    have HIt : Hid (Px.itemF (Tx.bs s) a = rangeI s[a] s[a + 2] (a + 2)) := Lib.hid (item_range HG.out HNc.out hp (Tx.bs_get? s (a + 2) hl2))
                    have hw2 : IntKind.i64.wrap ((a : Int) + 2) = (a : Int) + 2 := IntWalk.i64_in _ (by omega)
                    have hw5 : (0 : Int) ≤ (a : Int) + 2 := by omega
                    have hw6 : ((a : Int) + 2).toNat = a + 2 := by omega
                    have hw7 : (a : Int) + 2 < (s.size : Int) := by omega
                    have HS := Lib.hid (fun q => (HC6.out.drewN q).setAt ((a : Int) + 2))
                    rw [hrg]
                    clear hp hrg
                    go_wp2_with fail
                    go_quiet (fail)
                    go_wp2_with fail
                    go_meet
                    case rel => exact ⟨s[a + 2], a + 2, rfl, by omega, by omega, HIt, Lib.hid (HS.out _)⟩
                  · as_aux_lemma =>
                    have hrg' : rgB (Tx.bs s) a = false := by cases hh : rgB (Tx.bs s) a with | true => exact absurd hh hrg | false => rfl
                    have HIt : Hid (Px.itemF (Tx.bs s) a = rangeI s[a] s[a] a) := Lib.hid (item_one HG.out HNc.out (of_decide_eq_false hrg'))
                    rw [hrg']
                    clear hrg hrg'
                    go_wp2_with fail
                    go_meet
                    case rel => exact ⟨s[a], a, rfl, Nat.le_refl _, by omega, HIt, HC6⟩
                case rest =>
                  obtain ⟨h, e, rfl, he1, he2, HIt, HC7⟩ := hcut
                  clear HC6 c0 c1 f1
                  obtain ⟨v7, ⟨c0, c1, c2, c3, c4⟩, f1⟩ := HC7.out.rdr
                  clear c0 c2 c3 c4
                  have HC8 := Lib.hid (HC7.out.setAt ((e : Int) + 1))
                  have HF8 := Lib.hid HC8.out.fail
                  generalize s[a] = lo at HIt HG
                  have hb1 : (lo.toNat : Int) < 256 := Tx.u8_lt lo
                  have hb2 : (h.toNat : Int) < 256 := Tx.u8_lt h
                  by_cases hhl : h.toNat < lo.toNat
                  · as_aux_lemma =>
                    have HN : Hid (r = .error 40) := Lib.hid (by rw [← HRes.out, HT2.out, HIt.out]; unfold rangeI; rw [if_pos hhl]; rfl)
                    go_wp2_with fail
                    refine HF8.out.mono ?_
                    rintro e w9 ⟨rfl, hP⟩
                    have HP := Lib.hid hP
                    clear hP
                    go_wp2_with fail
                    go_ret
                    rw [HN.out]
                    exact HP.out
                  · as_aux_lemma =>
                    have HI2 : Hid (total = itemsF (Tx.bs s) f' false (e + 1) (fun x => m x || (decide (lo.toNat ≤ x) && decide (x ≤ h.toNat)))) := Lib.hid (by
                      rw [HT2.out, HIt.out]; unfold rangeI; rw [if_neg hhl]; rfl)
                    go_wp2_with fail
                    clear c1 f1
                    go_loopw [15] (fun c wr => ∃ j : Nat, lo.toNat ≤ j ∧ j ≤ h.toNat + 1 ∧ c = .int .i64 (j : Int) ∧ Hid (CR w wr base rb H s ((e : Int) + 1) D ns ks (fun x => m x || (decide (lo.toNat ≤ x) && decide (x < j))))) (fun c _ => 256 - (intOf c).toNat)
                    case atStart => exact ⟨lo.toNat, Nat.le_refl _, by omega, rfl, Lib.hid (HC8.out.congr (fun x _ => by
                      rw [show (decide (lo.toNat ≤ x) && decide (x < lo.toNat)) = false from by rw [Bool.eq_iff_iff]; first | (simp; done) | (simp; omega), Bool.or_false]))⟩
                    case round =>
                      obtain ⟨j, hj1, hj2, rfl, HCj⟩ := hrel
                      by_cases hj3 : j ≤ h.toNat
                      · have hw8 : IntKind.u8.wrap (j : Int) = (j : Int) := by rw [IntKind.wrap_u8]; omega
                        have hw9 : (j : Int) % 256 = (j : Int) := by omega
                        have HPut := Lib.hid (fun W => Put_any (fun x => m x || (decide (lo.toNat ≤ x) && decide (x < j))) (UInt8.ofNat j) W)
                        rw [show (UInt8.ofNat j).toNat = j from UInt8.toNat_ofNat_of_lt' (show j < 256 by omega)] at HPut
                        have HMj : Hid (∀ x, putM (fun x => m x || (decide (lo.toNat ≤ x) && decide (x < j))) j x = (m x || (decide (lo.toNat ≤ x) && decide (x < j + 1)))) := Lib.hid (fun x => by
                          unfold putM
                          by_cases hx : x = j
                          · subst hx; simp; omega
                          · rw [show (x == j) = false from beq_eq_false_iff_ne.2 hx, Bool.false_or, show decide (x < j + 1) = decide (x < j) from by rw [Bool.eq_iff_iff]; simp only [decide_eq_true_eq]; omega])
                        unfold setV at HPut
                        obtain ⟨⟨s0, s1, s2, s3⟩, _⟩ := HCj.out.cells
                        go_wp2_with fail
                        refine (HPut.out _).mono ?_
                        rintro e w9 ⟨rfl, B9⟩
                        have HC9 := Lib.hid (HCj.out.below B9)
                        obtain ⟨⟨y0, y1, y2, y3⟩, z0, z1, z2, z3⟩ := HC9.out.cells
                        clear B9
                        go_wp2_with fail
                        go_roundw
                        case rel => exact ⟨j + 1, by omega, by omega, by go_num, Lib.hid ((HC9.out.put _).congr (fun x _ => HMj.out x))⟩
                        case measure => simp [intOf]; omega
                      · obtain rfl : j = h.toNat + 1 := by omega
                        have HC9 : Hid (CR w wr base rb H s ((e + 1 : Nat) : Int) D ns ks (fun x => m x || (decide (lo.toNat ≤ x) && decide (x ≤ h.toNat)))) := Lib.hid (HCj.out.congr (fun x _ => by
                          rw [show decide (x < h.toNat + 1) = decide (x ≤ h.toNat) from by rw [Bool.eq_iff_iff]; simp only [decide_eq_true_eq]; omega]))
                        go_wp2_with fail
                        go_roundw
                        case rel => exact ⟨false, rfl, Lib.hid ⟨f', e + 1, _, HI2.out, by omega, by omega, HC9.out⟩⟩
                        case measure => rw [measR_ok (a := e + 1) HC9.out, HM.out]; omega
        · have d8 : s.size ≤ a := by omega
          have HN : Hid (r = .error 40) := Lib.hid (by
            rw [← HRes.out, HT2.out]
            unfold Px.itemF
            rw [List.getElem?_eq_none (by rw [HL.out]; omega)]; rfl)
          have HF := Lib.hid (fun q => (HC4.out.drewN q).fail)
          go_wp2_with fail
          go_quiet (fail)
          go_wp2_with fail
          refine (HF.out _).mono ?_
          rintro e w9 ⟨rfl, hP⟩
          have HP := Lib.hid hP
          clear hP
          go_wp2_with fail
          go_ret
          rw [HN.out]
          exact HP.out
end
end Rx
end Go.Proofs.Ytebljjdhgepfkaa
