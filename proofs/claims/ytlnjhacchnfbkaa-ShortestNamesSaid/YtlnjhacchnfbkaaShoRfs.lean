/-
  The reference's Script, Distance and Common on lists that read. Condition: at most 1000 lines.
-/
import Derived.Test.YtlnjhacchnfbkaaShoWkR
import Derived.Test.YtlnjhacchnfbkaaShoPre
namespace Go.Proofs.Ytlnjhacchnfbkaa
open Go.RowKit
namespace Sh
open Cm Sc
theorem longR_at (A B : Option Addr) (c d n m : Nat) (w : World) (hn : n ≤ 4096) (hm : m ≤ 4096) : Calls Try.prog 34 #[.slice A n c, .slice B m d] w fun e w' => e = .returned (.bool false) ∧ w = w' := by
  have h1 : decide ((4096 : Int) < (n : Int)) = false := by rw [decide_eq_false_iff_not]; omega
  have h2 : decide ((4096 : Int) < (m : Int)) = false := by rw [decide_eq_false_iff_not]; omega
  go_enter Try.func34, Try.ntmps34
  go_wp2_with fail
  go_ret
  exact ⟨rfl, rfl⟩
set_option maxRecDepth 100000 in
set_option maxHeartbeats 2000000 in
theorem ScrR_at (A B : Option Addr) (c d n m : Nat) (a b : List Int) (w : World) (HA : Hid (RdV w (.slice A n c) (intsV a))) (HB : Hid (RdV w (.slice B m d) (intsV b))) (hn : n ≤ 1000) (hm : m ≤ 1000) (HN : Hid (n = a.length)) (HM : Hid (m = b.length)) :
    Calls Try.prog 13 #[.slice A n c, .slice B m d] w (ScPost (scrF a b) w) := by
  have HW := Lib.hid (WalkR_at A B c d n m a b w HA HB hn hm HN HM)
  have HLg := Lib.hid (fun w => longR_at A B c d n m w (by omega) (by omega))
  go_enter Try.func13, Try.ntmps13
  go_wp2_with (first
    | (go_at_call 34; refine (HLg.out _).mono ?_; rintro e w' ⟨rfl, rfl⟩)
    | (go_at_call 35; refine HW.out.mono ?_; rintro e w1 ⟨v1, rfl, ho1, hb1⟩; have HO1 := Lib.hid ho1; have HB1 := Lib.hid hb1; clear ho1 hb1))
  go_ret2
  exact ⟨_, rfl, HO1.out, HB1.out⟩
set_option maxRecDepth 100000 in
set_option maxHeartbeats 2000000 in
theorem DistR_at (A B : Option Addr) (c d n m : Nat) (a b : List Int) (w : World) (HA : Hid (RdV w (.slice A n c) (intsV a))) (HB : Hid (RdV w (.slice B m d) (intsV b))) (hn : n ≤ 1000) (hm : m ≤ 1000) (HN : Hid (n = a.length)) (HM : Hid (m = b.length)) :
    Calls Try.prog 15 #[.slice A n c, .slice B m d] w (NumPost (dist a b) w) := by
  have HT := Lib.hid (TableR_at A B c d n m a b w HA HB hn hm HN HM)
  have HLg := Lib.hid (fun w => longR_at A B c d n m w (by omega) (by omega))
  have HD : Hid (dI a b 0 0 = dist a b) := Lib.hid rfl
  go_enter Try.func15, Try.ntmps15
  go_upto_region 3 with (go_at_call 34; refine (HLg.out _).mono ?_; rintro e w' ⟨rfl, rfl⟩)
  have hi0 : (0 : Int) < (n : Int) + 1 := by omega
  have hj0 : (0 : Int) < (m : Int) + 1 := by omega
  go_wp2_with (go_at_call 36; refine HT.out.mono ?_; rintro e w1 ⟨vt, rfl, ⟨D, us, rfl, hr⟩, hb1⟩; obtain ⟨g, q1, q2⟩ := hr.at (i := 0) (j := 0) (Nat.zero_le _) (Nat.zero_le _); rw [HD.out] at q2; rw [← HM.out] at q1; rw [← HN.out]; have HB1 := Lib.hid hb1; clear hr hb1)
  go_ret2
  exact ⟨rfl, HB1.out⟩
set_option maxRecDepth 100000 in
set_option maxHeartbeats 2000000 in
theorem ComR_at (A B : Option Addr) (c d n m : Nat) (a b : List Int) (w : World) (HA : Hid (RdV w (.slice A n c) (intsV a))) (HB : Hid (RdV w (.slice B m d) (intsV b))) (hn : n ≤ 1000) (hm : m ≤ 1000) (HN : Hid (n = a.length)) (HM : Hid (m = b.length)) :
    Calls Try.prog 17 #[.slice A n c, .slice B m d] w (NumPost (lcs a b) w) := by
  have HP := Lib.hid (DistR_at A B c d n m a b w HA HB hn hm HN HM)
  have hr := dist_rng a b
  rw [← HN.out, ← HM.out] at hr
  obtain ⟨hr1, hr2⟩ := hr
  have HD : Hid (((n : Int) + (m : Int) - dist a b) / 2 = (lcs a b : Int)) := Lib.hid (by unfold dist; rw [HN.out, HM.out]; omega)
  generalize dist a b = D at *
  generalize lcs a b = L at *
  have h0 : (0 : Int) ≤ (n : Int) + (m : Int) - D := by omega
  go_enter Try.func17, Try.ntmps17
  go_wp2_with (go_at_call 15; refine HP.out.mono ?_; rintro e w1 ⟨rfl, hb1⟩; have HB1 := Lib.hid hb1; clear hb1)
  go_ret2
  exact ⟨by rw [← HD.out]; rfl, HB1.out⟩
end Sh
end Go.Proofs.Ytlnjhacchnfbkaa
