/-
  The reference's Script, Distance and Common on lists that read. Condition: at most 1000 lines.
-/
import Derived.Test.YtechabkmepejaaaShoWkR
import Derived.Test.YtechabkmepejaaaShoPre
namespace Go.Proofs.Ytechabkmepejaaa
open Go.RowKit
namespace Sh
open Cm Sc
theorem longR_at (A B : Option Addr) (c d n m : Nat) (w : World) (hn : n ≤ 4096) (hm : m ≤ 4096) : Calls Try.prog 35 #[.slice A n c, .slice B m d] w fun e w' => e = .returned (.bool false) ∧ w = w' := by
  have h1 : decide ((4096 : Int) < (n : Int)) = false := by rw [decide_eq_false_iff_not]; omega
  have h2 : decide ((4096 : Int) < (m : Int)) = false := by rw [decide_eq_false_iff_not]; omega
  go_enter Try.func35, Try.ntmps35
  go_wp2_with fail
  go_ret
  exact ⟨rfl, rfl⟩
set_option maxRecDepth 100000 in
set_option maxHeartbeats 2000000 in
theorem ScrR_at (A B : Option Addr) (c d n m : Nat) (a b : List Int) (w : World) (HA : Hid (RdV w (.slice A n c) (intsV a))) (HB : Hid (RdV w (.slice B m d) (intsV b))) (hn : n ≤ 1000) (hm : m ≤ 1000) (HN : Hid (n = a.length)) (HM : Hid (m = b.length)) :
    Calls Try.prog 27 #[.slice A n c, .slice B m d] w (ScPost (scrF a b) w) := by
  have HW := Lib.hid (WalkR_at A B c d n m a b w HA HB hn hm HN HM)
  have HLg := Lib.hid (fun w => longR_at A B c d n m w (by omega) (by omega))
  go_enter Try.func27, Try.ntmps27
  go_wp2_with (first
    | (go_at_call 35; refine (HLg.out _).mono ?_; rintro e w' ⟨rfl, rfl⟩)
    | (go_at_call 36; refine HW.out.mono ?_; rintro e w1 ⟨v1, rfl, ho1, hb1⟩; have HO1 := Lib.hid ho1; have HB1 := Lib.hid hb1; clear ho1 hb1))
  go_ret2
  exact ⟨_, rfl, HO1.out, HB1.out⟩
end Sh
end Go.Proofs.Ytechabkmepejaaa
