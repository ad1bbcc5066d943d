/-
  The verifier's lists of numbers, pairs of lists, and the sanity check of layer 9: it returns true. No conditions beyond the lengths.
-/
import Derived.Test.YtechabkmepejaaaShoScr
import Derived.Test.YtechabkmepejaaaScrGen
import Derived.Test.YtechabkmepejaaaTextPick
namespace Go.Proofs.Ytechabkmepejaaa
open Go.RowKit
namespace Sh
open Cm Sc Au
/-- A new list of numbers. -/
def NewI (N : Nat) (w : World) (e : Ending) (w' : World) : Prop := ∃ v l, e = .returned v ∧ l.length = N ∧ (∀ z ∈ l, zB z) ∧ w'.ownsRow w.heap.size tI 1 v N (intsV l) ∧ Below w.heap.size w w'
set_option maxRecDepth 100000 in
set_option maxHeartbeats 4000000 in
theorem Ids_any (v : Value) (us : List Int) (fr : Int) (N : Nat) (kinds : Int) (w : World) (h : RdV w v (intsV us)) (hu : us.length ≤ maxLen) (hf : 0 ≤ fr ∧ fr ≤ 1000) (hN : N ≤ 100) (hk : 1 ≤ kinds ∧ kinds ≤ 100) :
    Calls Try.prog 17 #[v, .int .i64 fr, .int .i64 (N : Int), .int .i64 kinds] w (NewI N w) := by
  have HAt := Lib.hid (fun (wq : World) (k : Int) (hb : Below w.heap.size w wq) (h0 : 0 ≤ k) (h1 : k ≤ 1000000) => At_fn v us k wq (h.below hb) hu h0 h1)
  obtain ⟨f0, f1⟩ := hf
  obtain ⟨k0, k1⟩ := hk
  obtain ⟨A, c, rfl⟩ := h.form
  clear h hu
  rw [intsV_len] at HAt ⊢
  generalize us.length = nu at HAt ⊢
  have HStart := Lib.hid (own_empty w tI)
  have HB0 := Lib.hid ((Below.refl w.heap.size w).alloc (Nat.le_refl _) (.cells #[] tI))
  go_enter Try.func17, Try.ntmps17
  go_wp2_with fail
  go_loopw [9, 10] (fun o' i' wr => ∃ (i : Nat) (l : List Int), i ≤ N ∧ i' = .int .i64 (i : Int) ∧ Hid (l.length = i ∧ ∀ z ∈ l, zB z) ∧ Hid (wr.ownsRow w.heap.size tI 1 o' i (intsV l)) ∧ Hid (Below w.heap.size w wr)) (fun _ i' _ => N - (intOf i').toNat)
  case atStart => exact ⟨0, [], Nat.zero_le _, rfl, Lib.hid ⟨rfl, fun z hz => by cases hz⟩, HStart, HB0⟩
  case round =>
    clear HStart HB0
    obtain ⟨i, l, hi, rfl, HL, HO, HB⟩ := hrel
    by_cases hlt : i < N
    · have i0 : (0 : Int) ≤ (i : Int) := by omega
      have i1 : (i : Int) < (N : Int) := by omega
      have z1 := atF_lo us (fr + i)
      have z2 := atF_hi us (fr + i)
      have HA2 := Lib.hid (HAt.out wr (fr + i) HB.out (by omega) (by omega))
      generalize atF us (fr + i) = z at HA2 z1 z2
      have m1 := Tx.modF_lo z kinds (by omega)
      have m2 := Tx.modF_hi z kinds (by omega)
      have HMd := Lib.hid (fun w => Tx.Mod_any z kinds w (by omega) (by omega) z1 z2)
      generalize Tx.modF z kinds = x at HMd m1 m2
      have HL2 : Hid ((l ++ [x]).length = i + 1 ∧ ∀ z ∈ l ++ [x], zB z) := Lib.hid ⟨by rw [List.length_append, HL.out.1]; rfl, fun z hz => by
        rcases List.mem_append.1 hz with h | h
        · exact HL.out.2 z h
        · rw [List.mem_singleton] at h; subst h; exact ⟨by omega, by omega⟩⟩
      have HS : Hid (intsV l ++ [.int .i64 x] = intsV (l ++ [x])) := Lib.hid (by simp [intsV])
      have hbs : w.heap.size ≤ wr.heap.size := HB.out.size
      have HBs := Lib.hid hbs
      clear hbs
      go_wp2_with (first
        | (go_at_call 16; refine (HMd.out _).mono ?_; rintro e w7 ⟨rfl, rfl⟩)
        | (go_at_call 18; refine HA2.out.mono ?_; rintro e w7 ⟨rfl, rfl⟩)
        | (at_builtin; refine app_one rfl Try.underlying22 info_i rfl (by omega) (.tmp 17) (.tmp 25) rfl w.heap.size i (intsV l) (.int .i64 x) rfl _ _ rfl HO.out rfl rfl (by omega) HBs.out ?_; intro v3 w3 ho3 hb3 _; rw [HS.out] at ho3; have HO3 := Lib.hid ho3; have HB3 := Lib.hid (HB.out.trans (hb3.mono (Nat.le_refl _))); clear ho3 hb3))
      go_roundw
      case rel => exact ⟨i + 1, _, by omega, by go_num, HL2, HO3, HB3⟩
      case measure => simp [intOf]; omega
    · obtain rfl : i = N := by omega
      have hd : decide (i < i) = false := by simp
      go_wp2_with fail
      go_ret
      exact ⟨_, l, rfl, HL.out.1, HL.out.2, HO.out, HB.out⟩
def PairPost (w : World) (e : Ending) (w' : World) : Prop := ∃ va vb a b, e = .returned (.tuple #[va, vb]) ∧ (a.length ≤ 12 ∧ ∀ z ∈ a, zB z) ∧ (b.length ≤ 12 ∧ ∀ z ∈ b, zB z) ∧ w'.ownsRow w.heap.size tI 1 va a.length (intsV a) ∧ w'.ownsRow w.heap.size tI 1 vb b.length (intsV b) ∧ Below w.heap.size w w'
theorem aw_wk : wkF 0 0 [1, 2, 3] [2, 4] = [⟨1, 0⟩] := by
  simp [wkF, lcs]
theorem aw_scr : scrF [1, 2, 3] [2, 4] = [⟨0, 1, 0, 0⟩, ⟨2, 1, 1, 1⟩] := by
  unfold scrF
  rw [aw_wk]
  simp [frF, btw]
theorem aw_dist : dist [1, 2, 3] [2, 4] = 3 := by
  simp [dist, lcs]
def AwPost (w : World) (e : Ending) (w' : World) : Prop := e = .returned (.bool true) ∧ Below w.heap.size w w'
end Sh
end Go.Proofs.Ytechabkmepejaaa
