/-
  The verifier's comparisons of lists of changes and of spans: equal lists are equal. Conditions: the lists' lengths.
-/
import Derived.Test.YtechabkmepejaaaScrBase
namespace Go.Proofs.Ytechabkmepejaaa
open Go.RowKit
namespace Sc
open Cm
theorem eq64 (d : Nat) (x y : Int) (w : World) : (Op.equalIn (d + 1) 3 (.int .i64 x) (.int .i64 y)).run Try.prog w = .ok (x == y) w := by
  simp [Op.equalIn, run_underlying Try.underlying3]
theorem guard_ch : Try.prog.eqGuardType Try.prog.depth tCh = false := by kernel_rfl
theorem guard_sp : Try.prog.eqGuardType Try.prog.depth tSp = false := by kernel_rfl
set_option maxRecDepth 100000 in
theorem equal_ch (x0 x1 x2 x3 : Int) (w : World) : (Op.equalIn 10000 tCh (.agg #[.int .i64 x0, .int .i64 x1, .int .i64 x2, .int .i64 x3]) (.agg #[.int .i64 x0, .int .i64 x1, .int .i64 x2, .int .i64 x3])).run Try.prog w = .ok true w := by
  show (Op.equalIn (9999 + 1) tCh _ _).run Try.prog w = _
  unfold Op.equalIn
  simp [run_underlying Try.underlying55]
  have e := fun x w => eq64 9998 x x w
  simp at e
  have hs : ∀ w, (sizeOf 3).run Try.prog w = .ok 1 w := fun w => by kernel_rfl
  have hp : ∀ (cs : Array Value) (i : Nat) (v : Value) (w : World), cs[i]? = some v → (part 3 cs i).run Try.prog w = .ok v w := fun cs i v w h => by
    unfold part
    simp [hs, h]
  simp [hp, e, Result.andThen]
set_option maxRecDepth 100000 in
theorem equal_sp (x0 x1 : Int) (w : World) : (Op.equalIn 10000 tSp (.agg #[.int .i64 x0, .int .i64 x1]) (.agg #[.int .i64 x0, .int .i64 x1])).run Try.prog w = .ok true w := by
  show (Op.equalIn (9999 + 1) tSp _ _).run Try.prog w = _
  unfold Op.equalIn
  simp [run_underlying Try.underlying59]
  have e := fun x w => eq64 9998 x x w
  simp at e
  have hs : ∀ w, (sizeOf 3).run Try.prog w = .ok 1 w := fun w => by kernel_rfl
  have hp : ∀ (cs : Array Value) (i : Nat) (v : Value) (w : World), cs[i]? = some v → (part 3 cs i).run Try.prog w = .ok v w := fun cs i v w h => by
    unfold part
    simp [hs, h]
  simp [hp, e, Result.andThen]
end Sc
end Go.Proofs.Ytechabkmepejaaa
