/-
  The law's short: at most nine bytes. Conditions: the text's size.
-/
import Derived.Test.YtebljjdhgepfkaaComInts
namespace Go.Proofs.Ytebljjdhgepfkaa
open Go.RowKit
namespace No
open Cm
set_option maxRecDepth 100000 in
set_option maxHeartbeats 4000000 in
theorem short9 (s : ByteArray) (w : World) : Calls Try.prog 10 #[.string s, .int .i64 9] w fun e w' => ∃ x : ByteArray, x.size ≤ 9 ∧ e = .returned (.string x) ∧ w' = w := by
  go_enter Try.func10, Try.ntmps10
  by_cases h : (s.size : Int) < 9
  all_goals
    go_wp2_with fail
    all_goals go_ret
    all_goals exact ⟨_, by first | omega | (simp only [ByteArray.size_extract]; omega), rfl, rfl⟩
end No
end Go.Proofs.Ytebljjdhgepfkaa
