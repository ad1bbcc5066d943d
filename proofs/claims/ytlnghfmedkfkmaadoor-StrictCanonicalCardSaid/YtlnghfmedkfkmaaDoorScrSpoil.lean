/-
  One field of one change of a script that the call owns is written. No conditions.
-/
import Derived.Test.YtlnghfmedkfkmaaDoorGScrBase
import Derived.Laws.OwnMore
namespace Go.Proofs.YtlnghfmedkfkmaaDoor
namespace Cm
end Cm
open Go.RowKit
namespace Sc
open Cm
theorem flat_set {α : Type} {k : Nat} {enc : α → List Value} (he : ∀ x, (enc x).length = k) : ∀ (xs : List α) (j : Nat) (hj : j < xs.length) (i : Nat) (_ : i < k) (u : Value) (y : α), enc y = (enc xs[j]).set i u → (flatK enc xs).set (j * k + i) u = flatK enc (xs.set j y)
  | [], j, h, _, _, _, _, _ => absurd h (Nat.not_lt_zero _)
  | s :: ss, 0, _, i, hi, u, y, hy => by
    show (enc s ++ flatK enc ss).set (0 * k + i) u = enc y ++ flatK enc ss
    rw [Nat.zero_mul, Nat.zero_add, List.set_append_left _ _ (by rw [he]; exact hi), hy]
    rfl
  | s :: ss, j + 1, h, i, hi, u, y, hy => by
    show (enc s ++ flatK enc ss).set ((j + 1) * k + i) u = enc s ++ flatK enc (ss.set j y)
    rw [List.set_append_right _ _ (by rw [he, Nat.succ_mul]; omega), he, show (j + 1) * k + i - k = j * k + i by rw [Nat.succ_mul]; omega, flat_set he ss j (by simpa using h) i hi u y hy]
end Sc
end Go.Proofs.YtlnghfmedkfkmaaDoor
