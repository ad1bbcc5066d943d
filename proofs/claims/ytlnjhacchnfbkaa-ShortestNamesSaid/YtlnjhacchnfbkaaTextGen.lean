/-
  Walk of the verifier's Line: some line. Conditions: the bounds of the number.
-/
import Derived.Test.YtlnjhacchnfbkaaTextPick
namespace Go.Proofs.Ytlnjhacchnfbkaa
open Go.RowKit
namespace Tx
set_option maxHeartbeats 1000000 in
theorem Line_any (k : Int) (w : World) (h0 : -9223372036854775808 ≤ k) (h1 : k ≤ 9223372036854775807) :
    Calls Try.prog 37 #[.int .i64 k] w (SomeStr 3 w) := by
  have H := Lib.hid (fun w => Mod_any k 10 w (by omega) (by omega) h0 h1)
  have hlo := modF_lo k 10 (by omega)
  have hhi := modF_hi k 10 (by omega)
  generalize modF k 10 = m at H hlo hhi
  clear h0 h1
  have hm : m = 0 ∨ m = 1 ∨ m = 2 ∨ m = 3 ∨ m = 4 ∨ m = 5 ∨ m = 6 ∨ m = 7 ∨ m = 8 ∨ m = 9 := by omega
  clear hlo hhi
  rcases hm with rfl | rfl | rfl | rfl | rfl | rfl | rfl | rfl | rfl | rfl
  all_goals
    go_enter Try.func37, Try.ntmps37
    go_wp2_with (go_at_call 25; refine (H.out _).mono ?_; rintro e w1 ⟨rfl, rfl⟩)
    go_ret
    exact ⟨_, by decide, rfl, (Below.refl _ _).alloc (Nat.le_refl _) _⟩
end Tx
end Go.Proofs.Ytlnjhacchnfbkaa
