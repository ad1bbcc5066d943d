/-
  The reference's Project of layer 15, for a parent in range. Conditions: fewer than 100000 elements, sets of 32 parents.
-/
import Derived.Test.YtechabkmepejaaaLosD
namespace Go.Proofs.Ytechabkmepejaaa
open Go.RowKit
namespace Lo
open Cm Sc
set_option maxRecDepth 100000 in
set_option maxHeartbeats 4000000 in
theorem ProjectR_in (v : Value) (l : List Mg) (p : Nat) (w : World) (h : RdM w v l) (hl : l.length ≤ 100000) (hp : p < 32) (hb : ∀ m ∈ l, m.par < 4294967296) :
    Calls Try.prog 15 #[v, .int .i64 (p : Int)] w (NwPost (prN l p) w) := by
  obtain ⟨A, c, rfl⟩ := h.form
  have HR := Lib.hid h
  have HP := Lib.hid (fun k (hk : k < l.length) => hb _ (List.getElem_mem hk))
  clear h hb
  generalize hN : l.length = N at hl ⊢
  have HN := Lib.hid hN
  clear hN
  have p0 : (0 : Int) ≤ (p : Int) := by omega
  have p1 : (p : Int) < 32 := by omega
  have q1 : decide ((0 : Int) ≤ (p : Int)) = true := decide_eq_true (by omega)
  have q2 : decide ((p : Int) < 32) = true := decide_eq_true (by omega)
  go_enter Try.func15, Try.ntmps15
  go_wp2_with fail
  go_loopw [5, 6] (fun v' k' wr => ∃ k : Nat, k ≤ N ∧ k' = .int .i64 (k : Int) ∧ Hid (wr.ownsRow w.heap.size tI 1 v' (prN (l.take k) p).length (intsV (prN (l.take k) p))) ∧ Hid (Below w.heap.size w wr)) (fun _ k' _ => N - (intOf k').toNat)
  case atStart => exact ⟨0, Nat.zero_le _, rfl, Lib.hid (World.ownsRow_nil _ _ _ _), Lib.hid (Below.refl _ _)⟩
  case round =>
    obtain ⟨k, hk, rfl, HO, HB⟩ := hrel
    by_cases hlt : k < N
    · have hx : k < l.length := by rw [HN.out]; exact hlt
      obtain ⟨b, off, rfl, c0, c1⟩ := RdM_at (HR.out.below HB.out) k hx
      have i1 : (0 : Int) ≤ (k : Int) := by omega
      have i2 : (k : Int) < (N : Int) := by omega
      have hbt := bit_at l[k].par p (HP.out k hx)
      have hln := prN_len (l.take k) p
      rw [List.length_take] at hln
      have hlb : (prN (l.take k) p).length ≤ 100000 := by omega
      have hbs := HB.out.size
      by_cases hbit : l[k].par.testBit p = true
      · have HT := Lib.hid (prN_take_T hx hbit)
        have e : bitI l[k].par p = 1 := by unfold bitI; rw [if_pos hbit]
        rw [e] at hbt
        clear e hbit hln
        generalize l[k].line = ln at *
        generalize l[k].par = pr at *
        generalize prN (l.take k) p = q at *
        go_wp2_with (at_builtin; refine app_i rfl (.tmp 31) (.tmp 37) rfl w.heap.size q.length (intsV q) (.int .i64 ln) rfl _ _ rfl HO.out rfl rfl rfl (by omega) hbs ?_; intro v3 w3 ho3 hb3 _; rw [intsV_snoc] at ho3; have HO3 := Lib.hid ho3; have HB3 := Lib.hid (HB.out.trans hb3); clear ho3 hb3)
        go_roundw
        case rel => exact ⟨k + 1, by omega, by go_num, by rw [HT.out, List.length_append, List.length_singleton]; exact HO3, HB3⟩
        case measure => simp [intOf]; omega
      · have HT := Lib.hid (prN_take_F hx (by simpa using hbit))
        have e : bitI l[k].par p = 0 := by unfold bitI; rw [if_neg hbit]
        rw [e] at hbt
        clear e hbit hln
        generalize l[k].line = ln at *
        generalize l[k].par = pr at *
        generalize prN (l.take k) p = q at *
        go_wp2_with fail
        go_roundw
        case rel => exact ⟨k + 1, by omega, by go_num, by rw [HT.out]; exact HO, HB⟩
        case measure => simp [intOf]; omega
    · obtain rfl : k = N := by omega
      go_wp2_with fail
      go_ret
      have h1 := HO.out
      rw [← HN.out, List.take_length] at h1
      exact ⟨_, rfl, h1, HB.out⟩
end Lo
end Go.Proofs.Ytechabkmepejaaa
