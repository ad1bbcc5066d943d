/-
  Walk of the verifier's Spoiled: some text that is at most one byte longer. Conditions: a short text.
-/
import Derived.Test.YtbjfopoakiagpaaTextPick
import Derived.Test.YtbjfopoakiagpaaComBytes
import Derived.Deep.RegionHeld3
import Derived.Deep.RegionLaw
import Derived.Deep.Cut
import Derived.IntWalk
namespace Go.Proofs.Ytbjfopoakiagpaa
open Go.RowKit
namespace Rx
open Cm Tx
theorem ext_leq (s : ByteArray) (a b : Nat) (h : b ≤ s.size) : (s.extract a b).size = b - a := by
  rw [ByteArray.size_extract]; omega
theorem one_conv (w : World) (c : Int) : ∃ y : ByteArray, y.size = 1 ∧ (convert 69 9 (.slice (some ⟨w.heap.size, 0, none⟩) 1 1)).run Try.prog (w.alloc (.cells #[.int .u8 (IntKind.u8.wrap c)] 5)).drew = .ok (.string y) (w.alloc (.cells #[.int .u8 (IntKind.u8.wrap c)] 5)).drew := by
  have h0 : 0 ≤ c % 256 := Int.emod_nonneg _ (by omega)
  have h1 : c % 256 < 256 := Int.emod_lt_of_pos _ (by omega)
  have e : IntKind.u8.wrap c = ((UInt8.ofNat (c % 256).toNat).toNat : Int) := by
    rw [IntKind.wrap_u8, UInt8.toNat_ofNat_of_lt' (show (c % 256).toNat < 256 by omega)]; omega
  refine ⟨⟨[UInt8.ofNat (c % 256).toNat].toArray⟩, rfl, ?_⟩
  refine run_convert_bytes_back _ _ _ 5 ⟨w.heap.size, 0, none⟩ 1 [UInt8.ofNat (c % 256).toNat] Try.underlying69 Try.underlying5 Try.underlying9 ?_
  intro j hj
  have hj0 : j = 0 := by simpa using hj
  subst hj0
  show (w.alloc (.cells #[.int .u8 (IntKind.u8.wrap c)] 5)).drew.cell? ⟨w.heap.size, 0, none⟩ = _
  have h2 : (w.alloc (.cells #[.int .u8 (IntKind.u8.wrap c)] 5)).drew.cell? ⟨w.heap.size, 0, none⟩ = (w.alloc (.cells #[.int .u8 (IntKind.u8.wrap c)] 5)).cell? ⟨w.heap.size, 0, none⟩ := rfl
  rw [h2, World.cell?_alloc_mark, e]
  rfl
set_option maxRecDepth 100000 in
set_option maxHeartbeats 4000000 in
theorem Spoiled_any (s : ByteArray) (what at_ c : Int) (w : World) (hs : s.size ≤ 100000) (h1 : -9223372036854775808 ≤ what) (h2 : what ≤ 9223372036854775807) (h3 : -9223372036854775808 ≤ at_) (h4 : at_ ≤ 9223372036854775807) :
    Calls Try.prog 14 #[.string s, .int .i64 what, .int .i64 at_, .int .i64 c] w (SomeStr (s.size + 1) w) := by
  have a0 := modF_lo at_ ((s.size : Int) + 1) (by omega)
  have a1 := modF_hi at_ ((s.size : Int) + 1) (by omega)
  have w0 := modF_lo what 4 (by omega)
  have w1 := modF_hi what 4 (by omega)
  have HX := Lib.hid (fun a b h => ext_leq s a b h)
  obtain ⟨y, hy, hcv⟩ := one_conv w c
  have hcv2 := hcv
  rw [IntKind.wrap_u8] at hcv2
  generalize hk0 : modF what 4 = k at w0 w1
  obtain ⟨j, hj⟩ : ∃ j : Nat, modF at_ ((s.size : Int) + 1) = j := ⟨(modF at_ ((s.size : Int) + 1)).toNat, by omega⟩
  rw [hj] at a0 a1
  generalize hn : s.size = n at hs a0 a1 HX hj ⊢
  have HJ := Lib.hid hj
  have hk : k = 0 ∨ k = 1 ∨ k = 2 ∨ k = 3 := by omega
  clear w0 w1 hj
  rcases hk with rfl | rfl | rfl | rfl
  · have HK := Lib.hid hk0
    clear hk0
    go_enter Try.func14, Try.ntmps14
    go_upto_region 4 with (go_at_call 21; refine (Mod_any _ _ _ (by omega) (by omega) (by omega) (by omega)).mono ?_; rintro e w1 ⟨rfl, rfl⟩; first | rw [HJ.out] | rw [HK.out])
    have k0 : (0 : Int) ≤ (j : Int) := by omega
    have k1 : (j : Int) ≤ (n : Int) := by omega
    have bb0 : ¬ (9223372036854775807 < min j n + 1) := by omega
    have bb1 : ¬ (9223372036854775807 < min j n + 1 + (n - j)) := by omega
    have bb2 : ¬ (9223372036854775807 < min j n + 1 + (n - (j + 1))) := by omega
    go_region_law (fail)
    all_goals try (go_wp2_with fail)
    all_goals first
      | (exfalso; omega)
      | (go_ret; exact ⟨_, by simp only [ByteArray.size_append, ByteArray.size_extract, hn, hy]; omega, rfl, (((Below.refl w.heap.size w).alloc (Nat.le_refl _) _).drew)⟩)
  · have HK := Lib.hid hk0
    clear hk0
    by_cases hjn : j < n
    · go_enter Try.func14, Try.ntmps14
      go_upto_region 6 with (go_at_call 21; refine (Mod_any _ _ _ (by omega) (by omega) (by omega) (by omega)).mono ?_; rintro e w1 ⟨rfl, rfl⟩; first | rw [HJ.out] | rw [HK.out])
      all_goals
        have k0 : (0 : Int) ≤ (j : Int) := by omega
        have k1 : (j : Int) ≤ (n : Int) := by omega
        have k2 : min ((j : Int) + 1) (n : Int) = (j : Int) + 1 := by omega
        have kk : ¬ ((n : Int) < (j : Int) + 1) := by omega
        have k3 : IntKind.i64.wrap ((j : Int) + 1) = (j : Int) + 1 := IntWalk.i64_in _ (by omega)
        have k4 : (0 : Int) ≤ (j : Int) + 1 := by omega
        have k5 : ((j : Int) + 1).toNat = j + 1 := by omega
        have k6 : (j : Int) + 1 ≤ (n : Int) := by omega
        have bb0 : ¬ (9223372036854775807 < min j n + (n - (j + 1))) := by omega
        have bb1 : ¬ (9223372036854775807 < min j n) := by omega
        have bb2 : ¬ (9223372036854775807 < min j n + (n - n)) := by omega
        go_quiet (fail)
        all_goals try (clear k3; go_wp2_with fail)
        all_goals first
          | (exfalso; omega)
          | (go_ret; exact ⟨_, by simp only [ByteArray.size_append, ByteArray.size_extract, hn]; omega, rfl, below_drewN (Below.refl w.heap.size w) _⟩)
    · go_enter Try.func14, Try.ntmps14
      go_upto_region 6 with (go_at_call 21; refine (Mod_any _ _ _ (by omega) (by omega) (by omega) (by omega)).mono ?_; rintro e w1 ⟨rfl, rfl⟩; first | rw [HJ.out] | rw [HK.out])
      all_goals
        have k0 : (0 : Int) ≤ (j : Int) := by omega
        have k1 : (j : Int) ≤ (n : Int) := by omega
        have k2 : min ((j : Int) + 1) (n : Int) = (n : Int) := by omega
        have kk : (n : Int) < (j : Int) + 1 := by omega
        have k3 : IntKind.i64.wrap ((j : Int) + 1) = (j : Int) + 1 := IntWalk.i64_in _ (by omega)
        have k4 : (0 : Int) ≤ (n : Int) := by omega
        have bb0 : ¬ (9223372036854775807 < min j n + (n - (j + 1))) := by omega
        have bb1 : ¬ (9223372036854775807 < min j n) := by omega
        have bb2 : ¬ (9223372036854775807 < min j n + (n - n)) := by omega
        go_quiet (fail)
        all_goals try (clear k3; go_wp2_with fail)
        all_goals first
          | (exfalso; omega)
          | (go_ret; exact ⟨_, by simp only [ByteArray.size_extract, hn]; omega, rfl, below_drewN (Below.refl w.heap.size w) _⟩)
  · have HK := Lib.hid hk0
    clear hk0
    by_cases hjn : j < n
    · go_enter Try.func14, Try.ntmps14
      go_upto_region 8 with (go_at_call 21; refine (Mod_any _ _ _ (by omega) (by omega) (by omega) (by omega)).mono ?_; rintro e w1 ⟨rfl, rfl⟩; first | rw [HJ.out] | rw [HK.out])
      all_goals
        have k0 : (0 : Int) ≤ (j : Int) := by omega
        have k1 : (j : Int) ≤ (n : Int) := by omega
        have k2 : min ((j : Int) + 1) (n : Int) = (j : Int) + 1 := by omega
        have kk : ¬ ((n : Int) < (j : Int) + 1) := by omega
        have k3 : IntKind.i64.wrap ((j : Int) + 1) = (j : Int) + 1 := IntWalk.i64_in _ (by omega)
        have k4 : (0 : Int) ≤ (j : Int) + 1 := by omega
        have k5 : ((j : Int) + 1).toNat = j + 1 := by omega
        have k6 : (j : Int) + 1 ≤ (n : Int) := by omega
        have bb0 : ¬ (9223372036854775807 < min j n + 1) := by omega
        have bb1 : ¬ (9223372036854775807 < min j n + 1 + (n - j)) := by omega
        have bb2 : ¬ (9223372036854775807 < min j n + 1 + (n - (j + 1))) := by omega
        go_region_law (fail)
        all_goals try (clear k3; go_wp2_with fail)
        all_goals first
          | (exfalso; omega)
          | (go_ret; exact ⟨_, by simp only [ByteArray.size_append, ByteArray.size_extract, hn, hy]; omega, rfl, (((Below.refl w.heap.size w).alloc (Nat.le_refl _) _).drew)⟩)
    · go_enter Try.func14, Try.ntmps14
      go_upto_region 8 with (go_at_call 21; refine (Mod_any _ _ _ (by omega) (by omega) (by omega) (by omega)).mono ?_; rintro e w1 ⟨rfl, rfl⟩; first | rw [HJ.out] | rw [HK.out])
      all_goals
        have k0 : (0 : Int) ≤ (j : Int) := by omega
        have k1 : (j : Int) ≤ (n : Int) := by omega
        have k2 : min ((j : Int) + 1) (n : Int) = (n : Int) := by omega
        have kk : (n : Int) < (j : Int) + 1 := by omega
        have k3 : IntKind.i64.wrap ((j : Int) + 1) = (j : Int) + 1 := IntWalk.i64_in _ (by omega)
        have k4 : (0 : Int) ≤ (n : Int) := by omega
        have bb0 : ¬ (9223372036854775807 < min j n + 1) := by omega
        have bb1 : ¬ (9223372036854775807 < min j n + 1 + (n - j)) := by omega
        have bb2 : ¬ (9223372036854775807 < min j n + 1 + (n - (j + 1))) := by omega
        go_region_law (fail)
        all_goals try (clear k3; go_wp2_with fail)
        all_goals first
          | (exfalso; omega)
          | (go_ret; exact ⟨_, by simp only [ByteArray.size_append, ByteArray.size_extract, hn, hy]; omega, rfl, (((Below.refl w.heap.size w).alloc (Nat.le_refl _) _).drew)⟩)
  · have HK := Lib.hid hk0
    clear hk0
    go_enter Try.func14, Try.ntmps14
    go_wp2_with (go_at_call 21; refine (Mod_any _ _ _ (by omega) (by omega) (by omega) (by omega)).mono ?_; rintro e w1 ⟨rfl, rfl⟩; first | rw [HJ.out] | rw [HK.out])
    all_goals first
      | (exfalso; omega)
      | (go_ret; exact ⟨_, by simp only [hn]; omega, rfl, (Below.refl _ _)⟩)
end Rx
end Go.Proofs.Ytbjfopoakiagpaa
