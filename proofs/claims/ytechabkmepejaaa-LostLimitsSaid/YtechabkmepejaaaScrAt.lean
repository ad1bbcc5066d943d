/-
  The verifier's At, as a function of the raw numbers. Conditions: few numbers, at a small place.
-/
import Derived.Test.YtechabkmepejaaaTextPick
import Derived.Test.YtechabkmepejaaaComIntsV
namespace Go.Proofs.Ytechabkmepejaaa
open Go.RowKit
namespace Au
open Cm
def mixY (x : Int) : Int := IntKind.u64.wrap (bits .xor .u64 x (x / 2147483648) * 13787848793156543929)
def mixF (x : Int) : Int := wrap64 (bits .xor .u64 (mixY x) (mixY x / 536870912) / 2)
def seedF (k : Int) : Int := IntKind.u64.wrap ((k + 1) * 11400714819323198485)
def atF (us : List Int) (k : Int) : Int := if 0 < us.length then mixF (bits .xor .u64 (seedF k) (IntKind.u64.wrap (us.getD (k % (us.length : Int)).toNat 0))) else mixF (seedF k)
theorem atF_lo (us : List Int) (k : Int) : -9223372036854775808 ≤ atF us k := by unfold atF mixF; split <;> exact Tx.w64_lo _
theorem atF_hi (us : List Int) (k : Int) : atF us k ≤ 9223372036854775807 := by unfold atF mixF; split <;> exact Tx.w64_hi _
set_option maxHeartbeats 1000000 in
theorem At_fn (v : Value) (us : List Int) (k : Int) (w : World) (h : RdV w v (intsV us)) (hn : us.length ≤ maxLen) (h0 : 0 ≤ k) (h1 : k ≤ 1000000) :
    Calls Try.prog 18 #[v, .int .i64 k] w fun e w' => e = .returned (.int .i64 (atF us k)) ∧ w = w' := by
  obtain ⟨A, c, rfl, _, hc⟩ := h
  unfold maxLen at hn
  have HAt : Hid (atF us k = if 0 < us.length then mixF (bits .xor .u64 (seedF k) (IntKind.u64.wrap (us.getD (k % (us.length : Int)).toNat 0))) else mixF (seedF k)) := Lib.hid rfl
  rw [intsV_len]
  by_cases hz : 0 < us.length
  · obtain ⟨b, off, rfl, hcell⟩ := hc (by rw [intsV_len]; exact hz)
    clear hc
    have hm0 : 0 ≤ k % (us.length : Int) := Int.emod_nonneg _ (by omega)
    have hm1 : k % (us.length : Int) < us.length := Int.emod_lt_of_pos _ (by omega)
    obtain ⟨j, hj⟩ : ∃ j : Nat, k % (us.length : Int) = j := ⟨(k % (us.length : Int)).toNat, by omega⟩
    have hz1 := hcell j (by rw [intsV_len]; omega)
    have hgd : us.getD (k % (us.length : Int)).toNat 0 = us[j]'(by omega) := by
      rw [hj, Int.toNat_natCast, List.getD_eq_getElem?_getD, List.getElem?_eq_getElem (by omega)]; rfl
    have hcj : w.cell? ⟨b, off + (k % (us.length : Int)).toNat, none⟩ = some (.int .i64 (us[j]'(by omega))) := by rw [hj]; rw [Int.toNat_natCast, hz1]; simp [intsV]
    rw [if_pos hz, hgd] at HAt
    clear hcell hz1 hgd
    generalize us[j]'(by omega) = z at HAt hcj
    clear hj
    generalize us.length = n at *
    go_enter Try.func18, Try.ntmps18
    go_wp2_with fail
    go_ret
    rw [HAt.out]
    exact ⟨rfl, rfl⟩
  · clear hc
    rw [if_neg hz] at HAt
    generalize us.length = n at *
    go_enter Try.func18, Try.ntmps18
    go_wp2_with fail
    go_ret
    rw [HAt.out]
    exact ⟨rfl, rfl⟩
end Au
end Go.Proofs.Ytechabkmepejaaa
