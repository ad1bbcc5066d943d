/-
  The verifier's lists of layer 15, as functions of the raw numbers; the comparison of merged lists that are equal. Conditions: the raw numbers read as a slice of ints.
-/
import Derived.Test.YtechabkmepejaaaLosD
import Derived.Test.YtechabkmepejaaaTextPick
import Derived.Test.YtechabkmepejaaaComLL
import Derived.Test.YtechabkmepejaaaScrGen
namespace Go.Proofs.Ytechabkmepejaaa
open Go.RowKit
namespace Lo
open Cm Sc Au
def idsF (us : List Int) (fr kinds : Int) (N : Nat) : List Int := (List.range N).map fun i : Nat => Tx.modF (atF us (fr + i)) kinds
theorem idsF_len (us : List Int) (fr kinds : Int) (N : Nat) : (idsF us fr kinds N).length = N := by simp [idsF]
theorem idsF_succ (us : List Int) (fr kinds : Int) (k : Nat) : idsF us fr kinds (k + 1) = idsF us fr kinds k ++ [Tx.modF (atF us (fr + k)) kinds] := by simp [idsF, List.range_succ]
theorem idsF_zB {us : List Int} {fr kinds : Int} {N : Nat} (hk : 1 ≤ kinds ∧ kinds ≤ 100) : ∀ z ∈ idsF us fr kinds N, zB z := by
  intro z hz
  obtain ⟨i, _, rfl⟩ := List.mem_map.1 hz
  have m1 := Tx.modF_lo (atF us (fr + i)) kinds (by omega)
  have m2 := Tx.modF_hi (atF us (fr + i)) kinds (by omega)
  exact ⟨by omega, by omega⟩
def IdPost (xs : List Int) (w : World) (e : Ending) (w' : World) : Prop := ∃ v, e = .returned v ∧ w'.ownsRow w.heap.size tI 1 v xs.length (intsV xs) ∧ Below w.heap.size w w'
set_option maxRecDepth 100000 in
set_option maxHeartbeats 4000000 in
theorem Ids_at (v : Value) (us : List Int) (fr : Int) (N : Nat) (kinds : Int) (w : World) (h : RdV w v (intsV us)) (hu : us.length ≤ maxLen) (hf : 0 ≤ fr ∧ fr ≤ 1000) (hN : N ≤ 100) (hk : 1 ≤ kinds ∧ kinds ≤ 100) :
    Calls Try.prog 17 #[v, .int .i64 fr, .int .i64 (N : Int), .int .i64 kinds] w (IdPost (idsF us fr kinds N) w) := by
  have HIx := Lib.hid (fun k => idsF_succ us fr kinds k)
  have HAt := Lib.hid (fun (wq : World) (k : Int) (hb : Below w.heap.size w wq) (h0 : 0 ≤ k) (h1 : k ≤ 1000000) => At_fn v us k wq (h.below hb) hu h0 h1)
  obtain ⟨f0, f1⟩ := hf
  obtain ⟨k0, k1⟩ := hk
  obtain ⟨A, c, rfl⟩ := h.form
  clear h hu
  rw [intsV_len] at HAt ⊢
  generalize us.length = nu at HAt ⊢
  have HStart := Lib.hid (own_empty w tI)
  have HB0 := Lib.hid ((Below.refl w.heap.size w).alloc (Nat.le_refl _) (.cells #[] tI))
  go_enter Try.func17, Try.ntmps17
  go_wp2_with fail
  go_loopw [9, 10] (fun o' i' wr => ∃ (i : Nat), i ≤ N ∧ i' = .int .i64 (i : Int) ∧ Hid (wr.ownsRow w.heap.size tI 1 o' i (intsV (idsF us fr kinds i))) ∧ Hid (Below w.heap.size w wr)) (fun _ i' _ => N - (intOf i').toNat)
  case atStart => exact ⟨0, Nat.zero_le _, rfl, HStart, HB0⟩
  case round =>
    clear HStart HB0
    obtain ⟨i, hi, rfl, HO, HB⟩ := hrel
    by_cases hlt : i < N
    · have i0 : (0 : Int) ≤ (i : Int) := by omega
      have i1 : (i : Int) < (N : Int) := by omega
      have z1 := atF_lo us (fr + i)
      have z2 := atF_hi us (fr + i)
      have HA2 := Lib.hid (HAt.out wr (fr + i) HB.out (by omega) (by omega))
      have HS0 := Lib.hid (HIx.out i)
      generalize idsF us fr kinds i = l at *
      generalize hl2 : idsF us fr kinds (i + 1) = l2 at *
      have HL2 := Lib.hid hl2
      clear hl2
      generalize atF us (fr + i) = z at *
      have m1 := Tx.modF_lo z kinds (by omega)
      have m2 := Tx.modF_hi z kinds (by omega)
      have HMd := Lib.hid (fun w => Tx.Mod_any z kinds w (by omega) (by omega) z1 z2)
      generalize Tx.modF z kinds = x at *
      have HS : Hid (intsV l ++ [.int .i64 x] = intsV l2) := Lib.hid (by rw [HS0.out, intsV_snoc])
      have hbs : w.heap.size ≤ wr.heap.size := HB.out.size
      have HBs := Lib.hid hbs
      clear hbs
      go_wp2_with (first
        | (go_at_call 16; refine (HMd.out _).mono ?_; rintro e w7 ⟨rfl, rfl⟩)
        | (go_at_call 18; refine HA2.out.mono ?_; rintro e w7 ⟨rfl, rfl⟩)
        | (at_builtin; refine app_one rfl Try.underlying22 infoI rfl (by omega) (.tmp 17) (.tmp 25) rfl w.heap.size i (intsV l) (.int .i64 x) rfl _ _ rfl HO.out rfl rfl (by omega) HBs.out ?_; intro v3 w3 ho3 hb3 _; rw [HS.out] at ho3; have HO3 := Lib.hid ho3; have HB3 := Lib.hid (HB.out.trans (hb3.mono (Nat.le_refl _))); clear ho3 hb3))
      go_roundw
      case rel => exact ⟨i + 1, by omega, by go_num, by rw [HL2.out]; exact HO3, HB3⟩
      case measure => simp [intOf]; omega
    · obtain rfl : i = N := by omega
      have hd : decide (i < i) = false := by simp
      go_wp2_with fail
      go_ret
      exact ⟨_, rfl, by rw [idsF_len]; exact HO.out, HB.out⟩
theorem guard_mg : Try.prog.eqGuardType Try.prog.depth tMg = false := by kernel_rfl
theorem eq_u32 (d : Nat) (x y : Int) (w : World) : (Op.equalIn (d + 1) 36 (.int .u32 x) (.int .u32 y)).run Try.prog w = .ok (x == y) w := by
  unfold Op.equalIn
  simp [run_underlying Try.underlying36]
theorem equal_mg (x0 x1 : Int) (w : World) : (Op.equalIn 10000 tMg (.agg #[.int .i64 x0, .int .u32 x1]) (.agg #[.int .i64 x0, .int .u32 x1])).run Try.prog w = .ok true w := by
  show (Op.equalIn (9999 + 1) tMg _ _).run Try.prog w = _
  unfold Op.equalIn
  simp [run_underlying Try.underlying38]
  have e := fun x w => eq64 9998 x x w
  have e2 := fun x w => eq_u32 9998 x x w
  simp at e e2
  have hs : ∀ w, (sizeOf 3).run Try.prog w = .ok 1 w := fun w => by kernel_rfl
  have hs2 : ∀ w, (sizeOf 36).run Try.prog w = .ok 1 w := fun w => by kernel_rfl
  have hp : ∀ (cs : Array Value) (i : Nat) (v : Value) (w : World), cs[i]? = some v → (part 3 cs i).run Try.prog w = .ok v w := fun cs i v w h => by
    unfold part
    simp [hs, h]
  have hp2 : ∀ (cs : Array Value) (i : Nat) (v : Value) (w : World), cs[i]? = some v → (part 36 cs i).run Try.prog w = .ok v w := fun cs i v w h => by
    unfold part
    simp [hs2, h]
  simp [hp, hp2, e, e2, Result.andThen]
set_option maxRecDepth 100000 in
set_option maxHeartbeats 4000000 in
theorem Same_mg (a b : Value) (l : List Mg) (w : World) (hl : l.length ≤ 4611686018427387904) (ha : RdM w a l) (hb : RdM w b l) :
    Calls Try.prog 12 #[a, b] w fun e w' => e = .returned (.bool true) ∧ ∃ m, w' = w.drewN m := by
  obtain ⟨A, c, rfl⟩ := ha.form
  obtain ⟨B, d, rfl⟩ := hb.form
  have HA := Lib.hid ha
  have HB := Lib.hid hb
  clear ha hb
  generalize hn : l.length = n at hl ⊢
  have HN := Lib.hid hn
  clear hn
  go_enter Try.func12, Try.ntmps12
  go_wp2_with fail
  go_loopw [5] (fun i wr => ∃ j : Nat, j ≤ n ∧ i = .int .i64 j ∧ ∃ m, wr = w.drewN m) (fun i _ => n - (intOf i).toNat)
  case atStart => exact ⟨0, Nat.zero_le _, rfl, 0, rfl⟩
  case round =>
    obtain ⟨j, hj, rfl, m, rfl⟩ := hrel
    by_cases hlt : j < n
    · have hx : j < l.length := by rw [HN.out]; exact hlt
      obtain ⟨b1, o1, rfl, p0, p1⟩ := RdM_at HA.out j hx
      obtain ⟨b2, o2, rfl, q0, q1⟩ := RdM_at HB.out j hx
      generalize l[j].line = x0 at p0 q0
      generalize (l[j].par : Int) = x1 at p1 q1
      have i1 : (0 : Int) ≤ (j : Int) := by omega
      have i2 : (j : Int) < (n : Int) := by omega
      have heq := equal_mg x0 x1
      have hgd := guard_mg
      go_wp2_with fail
      go_quiet (fail)
      go_wp2_with fail
      go_roundw
      case rel => exact ⟨j + 1, by omega, by go_num, _, rfl⟩
      case measure => simp [intOf]; omega
    · have hd : decide (j < n) = false := by simp only [decide_eq_false_iff_not]; omega
      go_wp2_with fail
      go_ret
      exact ⟨rfl, _, rfl⟩
end Lo
end Go.Proofs.Ytechabkmepejaaa
