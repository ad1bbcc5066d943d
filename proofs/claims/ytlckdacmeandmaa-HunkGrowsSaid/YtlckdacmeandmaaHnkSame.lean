/-
  The verifier's comparison of lists of hunks: equal lists are equal. Condition: the lists' length.
-/
import Derived.Test.YtlckdacmeandmaaHnkBase
import Derived.Test.YtlckdacmeandmaaScrGen
namespace Go.Proofs.Ytlckdacmeandmaa
open Go.RowKit
namespace Hn
open Cm Sc
theorem guard_hk : Try.prog.eqGuardType Try.prog.depth tHk = false := by kernel_rfl
theorem equal_sp2 (d : Nat) (x0 x1 : Int) (w : World) : (Op.equalIn (d + 2) tSp (.agg #[.int .i64 x0, .int .i64 x1]) (.agg #[.int .i64 x0, .int .i64 x1])).run Try.prog w = .ok true w := by
  show (Op.equalIn (d + 1 + 1) tSp _ _).run Try.prog w = _
  unfold Op.equalIn
  simp [run_underlying Try.underlying41]
  have e := fun x w => eq64 d x x w
  simp at e
  have hs : ∀ w, (sizeOf 3).run Try.prog w = .ok 1 w := fun w => by kernel_rfl
  have hp : ∀ (cs : Array Value) (i : Nat) (v : Value) (w : World), cs[i]? = some v → (part 3 cs i).run Try.prog w = .ok v w := fun cs i v w h => by
    unfold part
    simp [hs, h]
  simp [hp, e, Result.andThen]
set_option maxRecDepth 100000 in
theorem equal_hk (x0 x1 x2 x3 x4 x5 : Int) (w : World) : (Op.equalIn 10000 tHk (.agg #[.int .i64 x0, .int .i64 x1, .int .i64 x2, .int .i64 x3, .int .i64 x4, .int .i64 x5]) (.agg #[.int .i64 x0, .int .i64 x1, .int .i64 x2, .int .i64 x3, .int .i64 x4, .int .i64 x5])).run Try.prog w = .ok true w := by
  show (Op.equalIn (9999 + 1) tHk _ _).run Try.prog w = _
  unfold Op.equalIn
  simp [run_underlying Try.underlying43]
  have e := fun x w => eq64 9998 x x w
  simp at e
  have e2 := fun x y w => equal_sp2 9997 x y w
  simp at e2
  have hs : ∀ w, (sizeOf 3).run Try.prog w = .ok 1 w := fun w => by kernel_rfl
  have hs2 : ∀ w, (sizeOf tSp).run Try.prog w = .ok 2 w := fun w => by kernel_rfl
  have hp : ∀ (cs : Array Value) (i : Nat) (v : Value) (w : World), cs[i]? = some v → (part 3 cs i).run Try.prog w = .ok v w := fun cs i v w h => by
    unfold part
    simp [hs, h]
  have p2 : ∀ (c0 c1 c2 c3 c4 c5 : Value) (w : World), (part tSp #[c0, c1, c2, c3, c4, c5] 2).run Try.prog w = .ok (.agg #[c2, c3]) w := fun c0 c1 c2 c3 c4 c5 w => by
    unfold part
    simp [hs2]
  have p4 : ∀ (c0 c1 c2 c3 c4 c5 : Value) (w : World), (part tSp #[c0, c1, c2, c3, c4, c5] 4).run Try.prog w = .ok (.agg #[c4, c5]) w := fun c0 c1 c2 c3 c4 c5 w => by
    unfold part
    simp [hs2]
  simp [hp, e, p2, p4, e2, Result.andThen]
set_option maxRecDepth 100000 in
set_option maxHeartbeats 4000000 in
theorem Hunks_same (a b : Value) (l : List Hk) (w : World) (hl : l.length ≤ 4611686018427387904) (ha : RdH w a l) (hb : RdH w b l) :
    Calls Try.prog 13 #[a, b] w fun e w' => e = .returned (.bool true) ∧ ∃ m, w' = w.drewN m := by
  obtain ⟨A, c, rfl⟩ := ha.form
  obtain ⟨B, d, rfl⟩ := hb.form
  have HA := Lib.hid ha
  have HB := Lib.hid hb
  clear ha hb
  generalize hn : l.length = n at hl ⊢
  have HN := Lib.hid hn
  clear hn
  go_enter Try.func13, Try.ntmps13
  go_wp2_with fail
  go_loopw [5] (fun i wr => ∃ j : Nat, j ≤ n ∧ i = .int .i64 j ∧ ∃ m, wr = w.drewN m) (fun i _ => n - (intOf i).toNat)
  case atStart => exact ⟨0, Nat.zero_le _, rfl, 0, rfl⟩
  case round =>
    obtain ⟨j, hj, rfl, m, rfl⟩ := hrel
    by_cases hlt : j < n
    · have hx : j < l.length := by rw [HN.out]; exact hlt
      obtain ⟨b1, o1, rfl, p0, p1, p2, p3, p4, p5⟩ := RdH_at HA.out j hx
      obtain ⟨b2, o2, rfl, q0, q1, q2, q3, q4, q5⟩ := RdH_at HB.out j hx
      generalize l[j].fst = x0 at p0 q0
      generalize l[j].lst = x1 at p1 q1
      generalize l[j].oF = x2 at p2 q2
      generalize l[j].oT = x3 at p3 q3
      generalize l[j].nF = x4 at p4 q4
      generalize l[j].nT = x5 at p5 q5
      have i1 : (0 : Int) ≤ (j : Int) := by omega
      have i2 : (j : Int) < (n : Int) := by omega
      have heq := equal_hk x0 x1 x2 x3 x4 x5
      have hgd := guard_hk
      go_wp2_with fail
      go_quiet (fail)
      go_wp2_with fail
      go_roundw
      case rel => exact ⟨j + 1, by omega, by go_num, _, rfl⟩
      case measure => simp [intOf]; omega
    · have hd : decide (j < n) = false := by simp only [decide_eq_false_iff_not]; omega
      go_wp2_with fail
      go_ret
      exact ⟨rfl, _, rfl⟩
end Hn
end Go.Proofs.Ytlckdacmeandmaa
