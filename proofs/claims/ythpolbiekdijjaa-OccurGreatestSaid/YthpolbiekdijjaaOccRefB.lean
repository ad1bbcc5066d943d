/-
  Walks of layer 7's reference: Borders. Condition: the needle has at most 2^22 bytes.
-/
import Derived.Test.YthpolbiekdijjaaOccRef
import Derived.BigQuiet
namespace Go.Proofs.Ythpolbiekdijjaa
open Go.RowKit
namespace Oc
open Tx Cm
def bordsI (n : List UInt8) (k : Nat) : List Int := (List.range k).map fun i => (bordF n (i + 1) : Int)
theorem bordsI_len (n : List UInt8) (k : Nat) : (bordsI n k).length = k := by simp [bordsI]
theorem bordsI_succ (n : List UInt8) (k : Nat) : intsV (bordsI n (k + 1)) = intsV (bordsI n k) ++ [.int .i64 (bordF n (k + 1) : Int)] := by
  unfold bordsI intsV; rw [List.range_succ, List.map_append, List.map_append]; rfl
theorem suf_iff {n : List UInt8} {k b : Nat} (hb : b ≤ k) (hk : k ≤ n.length) : Suf n (n.take k) b ↔ n.take b = (n.drop (k - b)).take b := by
  have e : (n.drop (k - b)).take b = (n.take k).drop (k - b) := by rw [List.drop_take]; congr 1; omega
  rw [e]
  constructor
  · rintro ⟨_, t, ht⟩
    have hl := congrArg List.length ht
    rw [List.length_append, List.length_take, List.length_take] at hl
    rw [← ht, show k - b = t.length by omega, List.drop_left]
  · intro h
    exact ⟨by omega, by rw [h]; exact List.drop_suffix _ _⟩
theorem suf_str (s : ByteArray) (k b : Nat) (hb : b ≤ k) (hk : k ≤ s.size) : ((s.extract 0 b).toList == (s.extract (k - b) k).toList) = decide (Suf (bs s) ((bs s).take k) b) := by
    rw [str_beq, Bool.eq_iff_iff, decide_eq_true_iff, decide_eq_true_iff, suf_iff hb (by rw [bs_len]; exact hk)]
    have e1 : bs (s.extract 0 b) = (bs s).take b := by rw [bs_extract, List.drop_zero]; rfl
    have e2 : bs (s.extract (k - b) k) = ((bs s).drop (k - b)).take b := by rw [bs_extract]; congr 1; omega
    rw [← e1, ← e2]
    exact ⟨fun h => by rw [h], ext_bs⟩
def BordRd (n : List UInt8) (w : World) (e : Ending) (w' : World) : Prop := ∃ v, e = .returned v ∧ RdV w' v (intsV (bordsI n n.length)) ∧ Below w.heap.size w w'
theorem Borders_rd (s : ByteArray) (w : World) (hs : s.size ≤ 4194304) : Calls Try.prog 18 #[.string s] w (BordRd (bs s) w) :=
  (Borders_any s w hs).mono fun e w' ⟨G, h1, h2, h3, h4⟩ => ⟨_, h1, by
    have h := rd_row h3
    have e : (List.range (bs s).length).map (bordI (bs s) (bs s).length) = bordsI (bs s) (bs s).length := List.map_congr_left fun i hi => by
      unfold bordI; rw [if_pos (List.mem_range.1 hi)]
    rw [e] at h; exact h, h4⟩
set_option maxRecDepth 100000 in
set_option maxHeartbeats 2000000 in
theorem BordersR_any (s : ByteArray) (w : World) (hs : s.size ≤ 4194304) :
    Calls Try.prog 19 #[.string s] w (BordRd (bs s) w) := by
  go_enter Try.func19, Try.ntmps19
  go_wp2_with fail
  go_loopw [3, 4] (fun v i wr => ∃ j : Nat, i = .int .i64 ((j : Int) + 1) ∧ j ≤ s.size ∧ Hid (wr.ownsRow w.heap.size tInt 1 v j (intsV (bordsI (bs s) j))) ∧ Hid (Below w.heap.size w wr)) (fun _ i _ => s.size + 1 - (intOf i).toNat)
  case atStart => exact ⟨0, by go_num, Nat.zero_le _, Lib.hid (World.ownsRow_nil _ _ _ _), Lib.hid (Below.refl _ _)⟩
  case round =>
    obtain ⟨j, rfl, hj, HO, HB⟩ := hrel
    obtain ⟨A, c, rfl⟩ := own_form HO.out
    by_cases hlt : j < s.size
    · have hd : decide ((j : Int) + 1 ≤ (s.size : Int)) = true := by simp only [decide_eq_true_eq]; omega
      obtain ⟨hb1, hb2, hb3⟩ := bordF_is (bs s) (k := j + 1) (by omega)
      go_wp2_with fail
      go_loopw [5] (fun b wq => ∃ q : Nat, b = .int .i64 (q : Int) ∧ q ≤ j ∧ bordF (bs s) (j + 1) ≤ q ∧ ∃ m, wq = wr.drewN m) (fun b _ => (intOf b).toNat)
      case atStart => exact ⟨j, by go_num, Nat.le_refl _, by omega, 0, rfl⟩
      case round =>
        obtain ⟨q, rfl, hq, hbq, m, rfl⟩ := hrel
        have HS := Lib.hid (suf_str s (j + 1) q (by omega) (by omega))
        have i1 : (0 : Int) ≤ (q : Int) := by omega
        have i2 : IntKind.i64.wrap ((j : Int) + 1 - (q : Int)) = (j : Int) + 1 - (q : Int) := IntWalk.i64_in _ (by omega)
        have i3 : ((j : Int) + 1 - (q : Int)).toNat = j + 1 - q := by omega
        have i4 : ((j : Int) + 1).toNat = j + 1 := by omega
        have i5 : (0 : Int) ≤ (j : Int) + 1 - (q : Int) := by omega
        have i6 : (j : Int) + 1 - (q : Int) ≤ (j : Int) + 1 := by omega
        have i7 : (j : Int) + 1 ≤ (s.size : Int) := by omega
        by_cases hS : Suf (bs s) ((bs s).take (j + 1)) q
        · have hne : ((s.extract 0 q).toList == (s.extract (j + 1 - q) (j + 1)).toList) = true := by rw [HS.out, decide_eq_true hS]
          have hqe : q = bordF (bs s) (j + 1) := by have := hb3 q (by omega) hS; omega
          have HSn : Hid (intsV (bordsI (bs s) (j + 1)) = intsV (bordsI (bs s) j) ++ [.int .i64 (q : Int)]) := Lib.hid (by rw [bordsI_succ, hqe])
          have HO2 := Lib.hid (show (wr.drewN m).ownsRow w.heap.size tInt 1 (.slice A j c) j (intsV (bordsI (bs s) j)) from own_below HO.out (below_drewN (Below.refl _ _) m))
          clear hb1 hb2 hb3 hbq hqe hS HS
          go_wp2_with fail
          go_quiet (fail)
          have HO3 := Lib.hid (show ((wr.drewN m).drewN nq).ownsRow w.heap.size tInt 1 (.slice A j c) j (intsV (bordsI (bs s) j)) from own_below HO2.out (below_drewN (Below.refl _ _) nq))
          have HB3 := Lib.hid (below_drewN (below_drewN HB.out m) nq)
          generalize World.drewN (World.drewN wr m) nq = w3 at HO3 HB3 ⊢
          clear HO2 i2 i3 i4 hne
          go_wp2_with (at_builtin; refine app_one rfl Try.underlying22 info_int rfl (by omega) (.tmp 26) (.tmp 28) rfl w.heap.size j (intsV (bordsI (bs s) j)) (.int .i64 (q : Int)) rfl _ _ rfl HO3.out rfl rfl (by omega) HB3.out.size ?_; intro v4 w4 ho4 hb4 _; have HO4 := Lib.hid ho4; have HB4 := Lib.hid (HB3.out.trans hb4); obtain ⟨A4, c4, rfl⟩ := own_form ho4; clear ho4 hb4)
          go_roundw
          case rel => exact ⟨j + 1, by go_num, by omega, Lib.hid (by rw [HSn.out]; exact HO4.out), HB4⟩
          case measure => simp [intOf]; omega
        · have hne : ((s.extract 0 q).toList == (s.extract (j + 1 - q) (j + 1)).toList) = false := by rw [HS.out, decide_eq_false hS]
          have hqb : bordF (bs s) (j + 1) ≠ q := fun e => hS (by rw [← e]; exact hb2)
          have hq1 : 1 ≤ q := by omega
          have HQ : Hid (Value.int .i64 ((q : Int) - 1) = .int .i64 ((q - 1 : Nat) : Int)) := Lib.hid (by congr 1; omega)
          clear hS HS
          go_wp2_with fail
          go_quiet (fail)
          clear i2 i3 i4 hne
          go_wp2_with fail
          go_roundw
          case rel => exact ⟨q - 1, HQ.out, by omega, by omega, m + nq, rfl⟩
          case measure => simp [intOf]; omega
    · have hd : decide ((j : Int) + 1 ≤ (s.size : Int)) = false := by simp only [decide_eq_false_iff_not]; omega
      obtain rfl : j = s.size := by omega
      go_wp2_with fail
      go_ret
      exact ⟨_, rfl, RdV.of_own HO.out, HB.out⟩
end Oc
end Go.Proofs.Ythpolbiekdijjaa
