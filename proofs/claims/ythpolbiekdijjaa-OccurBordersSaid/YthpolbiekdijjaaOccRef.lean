/-
  Walks of layer 7's reference: At, Next, Positions. Condition: needle and text have at most 2^22 bytes.
-/
import Derived.Test.YthpolbiekdijjaaOccPos
namespace Go.Proofs.Ythpolbiekdijjaa
open Go.RowKit
namespace Oc
open Tx Cm
theorem ret_b {a b : Bool} (h : a = b) : Ending.returned (.bool a) = .returned (.bool b) := by rw [h]
theorem str_beq (a b : ByteArray) : (a.toList == b.toList) = decide (a = b) := by
  rw [ByteArray.toList_eq, ByteArray.toList_eq, Bool.eq_iff_iff, beq_iff_eq, decide_eq_true_iff]
  exact ⟨fun h => by rw [← mk_bs a, ← mk_bs b]; unfold bs; rw [h], fun h => by rw [h]⟩
theorem ext_bs {a b : ByteArray} (h : bs a = bs b) : a = b := by
  rw [← mk_bs a, ← mk_bs b, h]
theorem occ_iff (n s : ByteArray) (i : Nat) (h0 : 0 < n.size) : OccAt (bs n) (bs s) i ↔ s.extract i (i + n.size) = n := by
  constructor
  · rintro ⟨_, h⟩
    refine ext_bs ?_
    rw [bs_extract, Nat.add_sub_cancel_left]; exact h
  · intro h
    refine ⟨fun e => ?_, ?_⟩
    · have := congrArg List.length e
      rw [bs_len, List.length_nil] at this; omega
    · have := congrArg bs h
      rw [bs_extract, Nat.add_sub_cancel_left] at this; exact this
set_option maxHeartbeats 1000000 in
theorem At_any (n s : ByteArray) (i : Nat) (w : World) (hn : n.size ≤ 4194304) (hs : s.size ≤ 4194304) (hi : i ≤ s.size) :
    Calls Try.prog 23 #[.string n, .string s, .int .i64 i] w fun e w' => e = .returned (.bool (decide (OccAt (bs n) (bs s) i))) ∧ w = w' := by
  by_cases hn0 : n.size = 0
  · obtain rfl := empty_of n hn0
    have HE : Hid (decide (OccAt (bs ⟨#[]⟩) (bs s) i) = false) := Lib.hid (decide_eq_false fun h => h.1 rfl)
    clear hn0 hn
    go_enter Try.func23, Try.ntmps23
    go_wp2_with fail
    go_ret
    exact ⟨ret_b HE.out.symm, rfl⟩
  have hnp : 0 < n.size := by omega
  obtain ⟨e0, e1⟩ := nonempty_of n hnp
  by_cases h2 : s.size < i + n.size
  · have HE : Hid (decide (OccAt (bs n) (bs s) i) = false) := Lib.hid (decide_eq_false fun h => by have := h.le.1; rw [bs_len, bs_len] at this; omega)
    have hd : decide ((n.size : Int) ≤ (s.size : Int) - (i : Int)) = false := by simp only [decide_eq_false_iff_not]; omega
    clear hn0
    go_enter Try.func23, Try.ntmps23
    go_wp2_with fail
    go_ret
    exact ⟨ret_b HE.out.symm, rfl⟩
  have hd : decide ((n.size : Int) ≤ (s.size : Int) - (i : Int)) = true := by simp only [decide_eq_true_eq]; omega
  have HI := Lib.hid (occ_iff n s i hnp)
  have i1 : (0 : Int) ≤ (i : Int) := by omega
  have i2 : (i : Int) + (n.size : Int) ≤ (s.size : Int) := by omega
  have i3 : ((i : Int) + (n.size : Int)).toNat = i + n.size := by omega
  clear hn0
  go_enter Try.func23, Try.ntmps23
  go_wp2_with fail
  go_ret
  exact ⟨ret_b (by
    show ((s.extract i (i + n.size)).toList == n.toList) = _
    rw [str_beq, Bool.eq_iff_iff, decide_eq_true_iff, decide_eq_true_iff]; exact HI.out.symm), rfl⟩
theorem nextR_def {n s : List UInt8} {p : Nat} (h : p ≤ s.length) : nextR n s (p : Int) = nextF n s p := by rw [nextR_in h, nextF_head]
theorem firstF_step {n s : List UInt8} {p : Nat} (h : p < s.length) : nextF n s p = if OccAt n s p then some p else nextF n s (p + 1) := by
  unfold nextF
  obtain ⟨k, hk⟩ : ∃ k, s.length - p = k + 1 := ⟨s.length - p - 1, by omega⟩
  rw [hk, show s.length - (p + 1) = k by omega]; rfl
theorem firstF_end {n s : List UInt8} {p : Nat} (h : s.length ≤ p) : nextF n s p = none := by
  unfold nextF; rw [show s.length - p = 0 by omega]; rfl
set_option maxHeartbeats 1000000 in
theorem NextR_any (n s : ByteArray) (p : Int) (w : World) (hn : n.size ≤ 4194304) (hs : s.size ≤ 4194304) (hp : p ≤ 9223372036854775807) :
    Calls Try.prog 11 #[.string n, .string s, .int .i64 p] w fun e w' => e = .returned (nextT (nextR (bs n) (bs s) p)) ∧ w = w' := by
  by_cases h0 : p < 0
  · have HE := Lib.hid (nextR_out (n := bs n) (s := bs s) (p := p) (.inl h0))
    have hd : decide ((0 : Int) ≤ p) = false := by simp only [decide_eq_false_iff_not]; omega
    go_enter Try.func11, Try.ntmps11
    go_wp2_with fail
    refine wp_loop_rounds 1 ?_
    rw [rounds_succ]
    go_wp2_with fail
    go_ret2
    exact ⟨by rw [HE.out]; rfl, rfl⟩
  by_cases h1 : (s.size : Int) < p
  · have HE := Lib.hid (nextR_out (n := bs n) (s := bs s) (p := p) (.inr h1))
    have hd : decide ((0 : Int) ≤ p) = true := by simp only [decide_eq_true_eq]; omega
    have hd2 : decide (p ≤ (s.size : Int)) = false := by simp only [decide_eq_false_iff_not]; omega
    go_enter Try.func11, Try.ntmps11
    go_wp2_with fail
    refine wp_loop_rounds 1 ?_
    rw [rounds_succ]
    go_wp2_with fail
    go_ret2
    exact ⟨by rw [HE.out]; rfl, rfl⟩
  obtain ⟨q, rfl⟩ := Int.eq_ofNat_of_zero_le (show 0 ≤ p by omega)
  have hq : q ≤ s.size := by omega
  have HE := Lib.hid (nextR_def (n := bs n) (s := bs s) (p := q) hq)
  have HA := Lib.hid (fun i (h : i ≤ s.size) w => At_any n s i w hn hs h)
  clear h0 h1 hp
  go_enter Try.func11, Try.ntmps11
  go_wp2_with fail
  go_loop [8] (fun i => ∃ k : Nat, k ≤ s.size + 1 ∧ i = .int .i64 (k : Int) ∧ Hid (nextF (bs n) (bs s) q = nextF (bs n) (bs s) k)) (fun i => s.size + 1 - (intOf i).toNat)
  case atStart => exact ⟨q, by omega, rfl, Lib.hid rfl⟩
  case round =>
    obtain ⟨k, hk, rfl, HK⟩ := hrel
    have i1 : (0 : Int) ≤ (k : Int) := by omega
    by_cases hlt : k ≤ s.size
    · have HAk := Lib.hid (HA.out k hlt)
      have hd : decide (k ≤ s.size) = true := by simpa using hlt
      by_cases ho : OccAt (bs n) (bs s) k
      · have HS : Hid (nextF (bs n) (bs s) k = some k) := Lib.hid (by
          have := ho.le
          rw [bs_len, bs_len] at this
          rw [firstF_step (by rw [bs_len]; omega), if_pos ho])
        have HA1 : Hid (∀ w, Calls Try.prog 23 #[.string n, .string s, .int .i64 k] w fun e w' => e = .returned (.bool true) ∧ w = w') := Lib.hid (by simpa only [decide_eq_true ho] using HAk.out)
        clear HAk ho
        go_wp2_with (go_at_call 23; refine (HA1.out _).mono ?_; rintro e w1 ⟨rfl, rfl⟩)
        go_ret2
        exact ⟨by rw [HE.out, HK.out, HS.out]; rfl, rfl⟩
      · have HS : Hid (nextF (bs n) (bs s) q = nextF (bs n) (bs s) (k + 1)) := Lib.hid (by
          rw [HK.out]
          by_cases h : k < s.size
          · rw [firstF_step (by rw [bs_len]; omega), if_neg ho]
          · rw [firstF_end (by rw [bs_len]; omega), firstF_end (by rw [bs_len]; omega)])
        have HA1 : Hid (∀ w, Calls Try.prog 23 #[.string n, .string s, .int .i64 k] w fun e w' => e = .returned (.bool false) ∧ w = w') := Lib.hid (by simpa only [decide_eq_false ho] using HAk.out)
        clear HAk ho
        go_wp2_with (go_at_call 23; refine (HA1.out _).mono ?_; rintro e w1 ⟨rfl, rfl⟩)
        go_round
        case rel => exact ⟨k + 1, by omega, by go_num, HS⟩
        case measure => simp [intOf]; omega
    · have hd : decide (k ≤ s.size) = false := by simpa using hlt
      have HS : Hid (nextF (bs n) (bs s) k = none) := Lib.hid (firstF_end (by rw [bs_len]; omega))
      go_wp2_with fail
      go_ret2
      exact ⟨by rw [HE.out, HK.out, HS.out]; rfl, rfl⟩
theorem posL_none {n s : List UInt8} {q : Nat} (h : nextF n s q = none) : posL n s q = [] := posL_eq (firstF_none h (by omega))
theorem posL_some {n s : List UInt8} {q i : Nat} (h : nextF n s q = some i) : posL n s q = i :: posL n s (i + n.length) ∧ q ≤ i ∧ i + n.length ≤ s.length ∧ 0 < n.length := by
  obtain ⟨a, b, c⟩ := firstF_some h
  exact ⟨posL_eq ⟨a, b, c, posL_is n s _⟩, a, b.le.1, b.le.2⟩
set_option maxRecDepth 100000 in
set_option maxHeartbeats 2000000 in
theorem PositionsR_any (n s : ByteArray) (w : World) (hn : n.size ≤ 4194304) (hs : s.size ≤ 4194304) :
    Calls Try.prog 16 #[.string n, .string s] w (ListPost (posL (bs n) (bs s) 0) w) := by
  have HN := Lib.hid (fun (p : Nat) w (h : p ≤ s.size) => NextR_any n s p w hn hs (by omega))
  have HD := Lib.hid (fun (p : Nat) (h : p ≤ s.size) => nextR_def (n := bs n) (s := bs s) (p := p) h)
  go_enter Try.func16, Try.ntmps16
  go_wp2_with fail
  go_loopw [5, 6] (fun v i wr => ∃ (pre : List Nat) (q : Nat), i = .int .i64 (q : Int) ∧ q ≤ s.size ∧ pre.length ≤ q ∧ Hid (wr.ownsRow w.heap.size tInt 1 v pre.length (intsV (natsI pre))) ∧ Hid (Below w.heap.size w wr) ∧ Hid (posL (bs n) (bs s) 0 = pre ++ posL (bs n) (bs s) q)) (fun _ i _ => s.size - (intOf i).toNat)
  case atStart => exact ⟨[], 0, by go_num, Nat.zero_le _, Nat.le_refl _, Lib.hid (World.ownsRow_nil _ _ _ _), Lib.hid (Below.refl _ _), Lib.hid rfl⟩
  case round =>
    obtain ⟨pre, q, rfl, hq, hpl, HO, HB, HL⟩ := hrel
    have HNq := Lib.hid (HN.out q wr hq)
    have HDq := Lib.hid (HD.out q hq)
    rw [HDq.out] at HNq
    cases e : nextF (bs n) (bs s) q with
    | none =>
      rw [e] at HNq
      simp only [nextT] at HNq
      have HE := Lib.hid (posL_none e)
      clear e HDq
      go_wp2_with (go_at_call 11; refine HNq.out.mono ?_; rintro e w1 ⟨rfl, rfl⟩)
      go_ret
      exact ⟨_, rfl, by rw [HL.out, HE.out, List.append_nil]; exact HO.out, HB.out⟩
    | some i =>
      rw [e] at HNq
      simp only [nextT] at HNq
      obtain ⟨hE, h1, h2, h3⟩ := posL_some e
      have HE := Lib.hid hE
      rw [bs_len] at h2 h3
      rw [bs_len] at h2
      have HX : Hid (posL (bs n) (bs s) 0 = (pre ++ [i]) ++ posL (bs n) (bs s) (i + n.size)) := Lib.hid (by rw [HL.out, HE.out, bs_len, List.append_assoc]; rfl)
      clear e HDq hE HE HL
      obtain ⟨A, c, rfl⟩ := own_form HO.out
      go_wp2_with (first
        | (go_at_call 11; refine HNq.out.mono ?_; rintro e w1 ⟨rfl, rfl⟩)
        | (at_builtin; refine app_one rfl Try.underlying22 info_int rfl (by omega) (.tmp 19) (.tmp 21) rfl w.heap.size pre.length (intsV (natsI pre)) (.int .i64 (i : Int)) rfl _ _ rfl HO.out rfl rfl (by omega) HB.out.size ?_; intro v3 w3 ho3 hb3 _; have HO3 := Lib.hid ho3; have HB3 := Lib.hid (HB.out.trans hb3); obtain ⟨A3, c3, rfl⟩ := own_form ho3; clear ho3 hb3))
      go_roundw
      case rel => exact ⟨pre ++ [i], i + n.size, by go_num, h2, by rw [List.length_append, List.length_singleton]; omega, Lib.hid (by rw [List.length_append, List.length_singleton, natsV_snoc]; exact HO3.out), HB3, HX⟩
      case measure => simp [intOf]; omega
end Oc
end Go.Proofs.Ythpolbiekdijjaa
