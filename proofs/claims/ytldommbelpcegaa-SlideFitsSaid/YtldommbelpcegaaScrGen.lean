/-
  The verifier's comparisons of lists of changes and of spans: equal lists are equal. Conditions: the lists' lengths.
-/
import Derived.Test.YtldommbelpcegaaScrBase
namespace Go.Proofs.Ytldommbelpcegaa
open Go.RowKit
namespace Sc
open Cm
theorem eq64 (d : Nat) (x y : Int) (w : World) : (Op.equalIn (d + 1) 3 (.int .i64 x) (.int .i64 y)).run Try.prog w = .ok (x == y) w := by
  simp [Op.equalIn, run_underlying Try.underlying3]
theorem guard_ch : Try.prog.eqGuardType Try.prog.depth tCh = false := by kernel_rfl
theorem guard_sp : Try.prog.eqGuardType Try.prog.depth tSp = false := by kernel_rfl
set_option maxRecDepth 100000 in
theorem equal_ch (x0 x1 x2 x3 : Int) (w : World) : (Op.equalIn 10000 tCh (.agg #[.int .i64 x0, .int .i64 x1, .int .i64 x2, .int .i64 x3]) (.agg #[.int .i64 x0, .int .i64 x1, .int .i64 x2, .int .i64 x3])).run Try.prog w = .ok true w := by
  show (Op.equalIn (9999 + 1) tCh _ _).run Try.prog w = _
  unfold Op.equalIn
  simp [run_underlying Try.underlying41]
  have e := fun x w => eq64 9998 x x w
  simp at e
  have hs : ∀ w, (sizeOf 3).run Try.prog w = .ok 1 w := fun w => by kernel_rfl
  have hp : ∀ (cs : Array Value) (i : Nat) (v : Value) (w : World), cs[i]? = some v → (part 3 cs i).run Try.prog w = .ok v w := fun cs i v w h => by
    unfold part
    simp [hs, h]
  simp [hp, e, Result.andThen]
set_option maxRecDepth 100000 in
theorem equal_sp (x0 x1 : Int) (w : World) : (Op.equalIn 10000 tSp (.agg #[.int .i64 x0, .int .i64 x1]) (.agg #[.int .i64 x0, .int .i64 x1])).run Try.prog w = .ok true w := by
  show (Op.equalIn (9999 + 1) tSp _ _).run Try.prog w = _
  unfold Op.equalIn
  simp [run_underlying Try.underlying53]
  have e := fun x w => eq64 9998 x x w
  simp at e
  have hs : ∀ w, (sizeOf 3).run Try.prog w = .ok 1 w := fun w => by kernel_rfl
  have hp : ∀ (cs : Array Value) (i : Nat) (v : Value) (w : World), cs[i]? = some v → (part 3 cs i).run Try.prog w = .ok v w := fun cs i v w h => by
    unfold part
    simp [hs, h]
  simp [hp, e, Result.andThen]
set_option maxRecDepth 100000 in
set_option maxHeartbeats 4000000 in
theorem Changes_same (a b : Value) (l : List Ch) (w : World) (hl : l.length ≤ 4611686018427387904) (ha : RdC w a l) (hb : RdC w b l) :
    Calls Try.prog 14 #[a, b] w fun e w' => e = .returned (.bool true) ∧ ∃ m, w' = w.drewN m := by
  obtain ⟨A, c, rfl⟩ := ha.form
  obtain ⟨B, d, rfl⟩ := hb.form
  have HA := Lib.hid ha
  have HB := Lib.hid hb
  clear ha hb
  generalize hn : l.length = n at hl ⊢
  have HN := Lib.hid hn
  clear hn
  go_enter Try.func14, Try.ntmps14
  go_wp2_with fail
  go_loopw [5] (fun i wr => ∃ j : Nat, j ≤ n ∧ i = .int .i64 j ∧ ∃ m, wr = w.drewN m) (fun i _ => n - (intOf i).toNat)
  case atStart => exact ⟨0, Nat.zero_le _, rfl, 0, rfl⟩
  case round =>
    obtain ⟨j, hj, rfl, m, rfl⟩ := hrel
    by_cases hlt : j < n
    · have hx : j < l.length := by rw [HN.out]; exact hlt
      obtain ⟨b1, o1, rfl, p0, p1, p2, p3⟩ := RdC_at HA.out j hx
      obtain ⟨b2, o2, rfl, q0, q1, q2, q3⟩ := RdC_at HB.out j hx
      generalize l[j].old = x0 at p0 q0
      generalize l[j].oldLen = x1 at p1 q1
      generalize l[j].new = x2 at p2 q2
      generalize l[j].newLen = x3 at p3 q3
      have i1 : (0 : Int) ≤ (j : Int) := by omega
      have i2 : (j : Int) < (n : Int) := by omega
      have heq := equal_ch x0 x1 x2 x3
      have hgd := guard_ch
      go_wp2_with fail
      go_quiet (fail)
      go_wp2_with fail
      go_roundw
      case rel => exact ⟨j + 1, by omega, by go_num, _, rfl⟩
      case measure => simp [intOf]; omega
    · have hd : decide (j < n) = false := by simp only [decide_eq_false_iff_not]; omega
      go_wp2_with fail
      go_ret
      exact ⟨rfl, _, rfl⟩
end Sc
end Go.Proofs.Ytldommbelpcegaa
