/-
  The program's before: a column with one more line. Condition: at most 64 words.
-/
import Derived.Test.YtechabkmepejaaaShoProg
namespace Go.Proofs.Ytechabkmepejaaa
open Go.RowKit
namespace Sh
open Cm Sc
/-- The first k of n words are as asked, the others as they were made. -/
def halfL (m : Nat → Bool) (k n : Nat) : List Value := wordsV m k ++ List.replicate (n - k) (.int .u64 0)
theorem halfL_len {m : Nat → Bool} {k n : Nat} (h : k ≤ n) : (halfL m k n).length = n := by simp [halfL, wordsV]; omega
theorem halfL_zero (m : Nat → Bool) (n : Nat) : halfL m 0 n = List.replicate n (.int .u64 0) := by simp [halfL, wordsV]
theorem halfL_all (m : Nat → Bool) (n : Nat) : halfL m n n = wordsV m n := by simp [halfL]
theorem wordsV_snoc (m : Nat → Bool) (k : Nat) : wordsV m (k + 1) = wordsV m k ++ [.int .u64 (word m k : Int)] := by simp [wordsV, List.range_succ]
theorem halfL_set {m : Nat → Bool} {k n : Nat} (h : k < n) : (halfL m k n).set k (.int .u64 (word m k : Int)) = halfL m (k + 1) n := by
  unfold halfL
  rw [wordsV_snoc, show n - k = (n - (k + 1)) + 1 from by omega, List.replicate_succ, List.set_append]
  simp [wordsV_len]
theorem word_at {w : World} {A : Option Addr} {n c N : Nat} {m : Nat → Bool} (h : RdV w (.slice A n c) (wordsV m N)) (k : Nat) (hk : k < N) : ∃ b off, A = some ⟨b, off, none⟩ ∧ w.cell? ⟨b, off + k, none⟩ = some (.int .u64 (word m k : Int)) := by
  obtain ⟨_, b, off, e, hc⟩ := h.at (by rw [wordsV_len]; omega)
  refine ⟨b, off, e, ?_⟩
  rw [hc k (by rw [wordsV_len]; exact hk), wordsV_get]
/-- A new set. -/
def NewSet (m : Nat → Bool) (n : Nat) (w : World) (e : Ending) (w' : World) : Prop := ∃ G, e = .returned (.slice (some ⟨G, 0, none⟩) n n) ∧ w.heap.size ≤ G ∧ Blk w' G tU (wordsV m n) ∧ Below w.heap.size w w'
set_option maxRecDepth 100000 in
set_option maxHeartbeats 4000000 in
theorem before_at (A B : Option Addr) (c d n : Nat) (V M : Nat → Bool) (w : World) (HA : Hid (RdV w (.slice A n c) (wordsV V n))) (HB : Hid (RdV w (.slice B n d) (wordsV M n))) (hn : n ≤ 100) :
    Calls Try.prog 40 #[.slice A n c, .slice B n d] w (NewSet (nx V M) n w) := by
  go_enter Try.func40, Try.ntmps40
  go_wp2_with (refine mk_row rfl (.tmp 11) (.tmp 11) rfl Try.underlying72 info_u rfl (by omega) n rfl rfl (by omega) ?_; intro w1 HR1 HZ1 hb1; have HB1 := Lib.hid hb1; clear hb1)
  have HR0 : Hid (Blk w1 w.heap.size tU (halfL (nx V M) 0 n)) := Lib.hid (by rw [halfL_zero]; exact HR1.out)
  clear HR1
  go_loopw [7, 15] (fun c' i wr => ∃ k : Nat, k ≤ n ∧ i = .int .i64 k ∧ c' = .int .u64 ((cr V M (64 * k)).toNat : Int) ∧ Hid (Blk wr w.heap.size tU (halfL (nx V M) k n)) ∧ Hid (Below w.heap.size w wr)) (fun _ i _ => n - (intOf i).toNat)
  case atStart => exact ⟨0, Nat.zero_le _, rfl, rfl, HR0, HB1⟩
  case round =>
    clear HR0 HB1 HZ1
    obtain ⟨k, hk, rfl, rfl, HR, HBl⟩ := hrel
    by_cases hlt : k < n
    · obtain ⟨b1, o1, rfl, c1⟩ := word_at (HA.out.below HBl.out) k hlt
      obtain ⟨b2, o2, rfl, c2⟩ := word_at (HB.out.below HBl.out) k hlt
      have c3 := HR.out.cell (k := k) (by rw [halfL_len hk]; exact hlt)
      have f3 := HR.out.free k
      generalize (halfL (nx V M) k n)[k]'(by rw [halfL_len hk]; exact hlt) = z at c3
      have e1 := word_and V M k
      have e2 := sum_word V M k
      have e3 := word_andNot V M k
      have e4 := word_or (smB V M) (fun p => V p && !M p) k
      rw [nx_eq] at e4
      have a0 : (0 : Int) ≤ (word V k : Int) := by omega
      have a1 : (0 : Int) ≤ (word (fun p => V p && M p) k : Int) := by omega
      have a2 : (0 : Int) ≤ ((cr V M (64 * k)).toNat : Int) := by omega
      have a3 : ((cr V M (64 * k)).toNat : Int) ≤ 1 := by cases cr V M (64 * k) <;> simp
      have HS : Hid (((word V k : Int) + (word (fun p => V p && M p) k : Int) + ((cr V M (64 * k)).toNat : Int)) % 18446744073709551616 = (word (smB V M) k : Int)) := Lib.hid (by
        rw [← e2.1]; omega)
      have HC : Hid (((word V k : Int) + (word (fun p => V p && M p) k : Int) + ((cr V M (64 * k)).toNat : Int)) / 18446744073709551616 = ((cr V M (64 * (k + 1))).toNat : Int)) := Lib.hid (by
        rw [← e2.2]; omega)
      clear e2
      have HRn := Lib.hid (HR.out.set k (.int .u64 (word (nx V M) k : Int)))
      have HRs : Hid (Blk (wr.setCell ⟨w.heap.size, k, none⟩ (.int .u64 (word (nx V M) k : Int))) w.heap.size tU (halfL (nx V M) (k + 1) n)) := Lib.hid (by rw [← halfL_set hlt]; exact HRn.out)
      have HBs : Hid (Below w.heap.size w (wr.setCell ⟨w.heap.size, k, none⟩ (.int .u64 (word (nx V M) k : Int)))) := Lib.hid (HBl.out.setCell (Nat.le_refl _) _)
      have HAdd := Lib.hid (add64 (word V k : Int) (word (fun p => V p && M p) k : Int) ((cr V M (64 * k)).toNat : Int) a0 a1 a2 a3)
      rw [HS.out, HC.out] at HAdd
      generalize word (smB V M) k = sm at *
      generalize word (fun p => V p && !M p) k = an at *
      generalize word (fun p => V p && M p) k = ad at *
      generalize word (nx V M) k = nw at *
      generalize word V k = vv at *
      generalize word M k = mm at *
      generalize (cr V M (64 * k)).toNat = cc at *
      generalize hc' : (cr V M (64 * (k + 1))).toNat = cn at *
      have HCn := Lib.hid hc'
      have i0 : (0 : Int) ≤ (k : Int) := by omega
      have i1 : (k : Int) < (n : Int) := by omega
      clear hc' HS HC HRn HR a0 a1 a2 a3
      go_wp2_with (simp only [HAdd.out])
      go_roundw
      case rel => exact ⟨k + 1, by omega, by go_num, by rw [HCn.out], HRs, HBs⟩
      case measure => simp [intOf]; omega
    · obtain rfl : k = n := by omega
      have hd : decide (k < k) = false := by simp
      go_wp2_with fail
      go_ret
      refine ⟨_, rfl, Nat.le_refl _, ?_, HBl.out⟩
      have h := HR.out
      rw [halfL_all] at h
      exact h
end Sh
end Go.Proofs.Ytechabkmepejaaa
