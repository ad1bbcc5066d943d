/-
  Walk of the verifier's Blob: some string of at most 4 bytes a line. Conditions: the raw numbers read as a slice of ints; the bounds of the numbers.
-/
import Derived.Test.YtlnjhacchnfbkaaTextGen
namespace Go.Proofs.Ytlnjhacchnfbkaa
open Go.RowKit
namespace Tx
theorem ext_le (s : ByteArray) (a b : Nat) : (s.extract a b).size ≤ s.size := by
  rw [ByteArray.size_extract]; omega
set_option maxRecDepth 100000 in
set_option maxHeartbeats 2000000 in
theorem Blob_any (v : Value) (n : Nat) (fr N kinds : Int) (w : World) (h : RdI w v n) (hn : n ≤ maxLen) (h0 : 0 ≤ fr) (h1 : fr ≤ 10000) (h2 : 0 ≤ N) (h3 : N ≤ 100) (h4 : 0 < kinds) (h5 : kinds ≤ 100) :
    Calls Try.prog 19 #[v, .int .i64 fr, .int .i64 N, .int .i64 kinds] w (SomeStr (4 * N.toNat) w) := by
  have HI := Lib.hid h
  have HN := Lib.hid hn
  obtain ⟨A, c, rfl, _⟩ := h
  unfold maxLen at hn
  clear hn
  go_enter Try.func19, Try.ntmps19
  go_wp2_with (first
    | (go_at_call 27; refine (At_any _ _ _ _ HI.out HN.out (by omega) (by omega)).mono ?_; rintro e w1 ⟨a, ha1, ha2, rfl, rfl⟩)
    | (go_at_call 25; refine (Mod_any _ _ _ (by omega) (by omega) (by omega) (by omega)).mono ?_; rintro e w1 ⟨rfl, rfl⟩))
  have hm0 := modF_lo a (N + 1) (by omega)
  have hm1 := modF_hi a (N + 1) (by omega)
  generalize modF a (N + 1) = m at hm0 hm1
  go_loopw [9, 10] (fun t i wr => ∃ (j : Nat) (o : ByteArray), (j : Int) ≤ m ∧ i = .int .i64 j ∧ t = .string o ∧ o.size ≤ 4 * j ∧ Below w.heap.size w wr) (fun _ i _ => m.toNat - (intOf i).toNat)
  case atStart => exact ⟨0, ⟨#[]⟩, by omega, rfl, rfl, Nat.zero_le _, Below.refl _ _⟩
  case round =>
    obtain ⟨j, o, hj, rfl, rfl, ho, hnx⟩ := hrel
    have HI2 := Lib.hid (HI.out.below hnx)
    by_cases hlt : (j : Int) < m
    · go_wp2_with (first
        | (go_at_call 27; refine (At_any _ _ _ _ HI2.out HN.out (by omega) (by omega)).mono ?_; rintro e w1 ⟨a2, ha3, ha4, rfl, rfl⟩)
        | (go_at_call 25; refine (Mod_any _ _ _ (by omega) (by omega) (by omega) (by omega)).mono ?_; rintro e w1 ⟨rfl, rfl⟩)
        | (go_at_call 37; have hk0 := modF_lo a2 kinds h4; have hk1 := modF_hi a2 kinds h4; refine (Line_any _ _ (by omega) (by omega)).mono ?_; rintro e w2 ⟨x, hx, rfl, hb⟩))
      go_roundw
      case rel => exact ⟨j + 1, _, by omega, by go_num, rfl, by simp only [ByteArray.size_append]; have : (ByteArray.mk #[10]).size = 1 := rfl; omega, hnx.trans (hb.mono hnx.size)⟩
      case measure => simp [intOf]; omega
    · have hos : o.size ≤ 4 * N.toNat := by omega
      have HX := Lib.hid (fun a b => Nat.le_trans (ext_le o a b) hos)
      go_wp2_with (go_at_call 27; refine (At_any _ _ _ _ HI2.out HN.out (by omega) (by omega)).mono ?_; rintro e w1 ⟨a2, ha3, ha4, rfl, rfl⟩)
      all_goals go_ret
      all_goals first | exact ⟨_, hos, rfl, hnx⟩ | exact ⟨_, HX.out _ _, rfl, hnx⟩
end Tx
end Go.Proofs.Ytlnjhacchnfbkaa
