/-
  Walks of the verifier's Mod, At: some number. Conditions: the raw numbers read as a slice of ints; the bounds of the numbers.
-/
import Derived.Test.YtechabkmepejaaaTextBase
namespace Go.Proofs.Ytechabkmepejaaa
open Go.RowKit
namespace Tx
def modF (a n : Int) : Int := (a % 18446744073709551616) % n
theorem modF_lo (a n : Int) (h : 0 < n) : 0 ≤ modF a n := Int.emod_nonneg _ (by omega)
theorem modF_hi (a n : Int) (h : 0 < n) : modF a n < n := Int.emod_lt_of_pos _ h
theorem modF_walk (a n : Int) (h1 : 0 < n) (h2 : n ≤ 1099511627776) : wrap64 ((IntKind.u64.wrap a).tmod n) = modF a n := by
  have h3 := modF_lo a n h1
  have h4 := modF_hi a n h1
  have h5 : (IntKind.u64.wrap a).tmod n = modF a n := by
    rw [IntKind.wrap_u64, Int.tmod_eq_emod_of_nonneg (Int.emod_nonneg _ (by decide))]
    rfl
  rw [h5]
  exact IntWalk.wrap64_in _ ⟨by omega, by omega⟩
theorem Mod_any (a n : Int) (w : World) (h1 : 0 < n) (h2 : n ≤ 1099511627776) (_h0 : -9223372036854775808 ≤ a) (_h3 : a ≤ 9223372036854775807) :
    Calls Try.prog 16 #[.int .i64 a, .int .i64 n] w fun e w' => e = .returned (.int .i64 (modF a n)) ∧ w = w' := by
  go_enter Try.func16, Try.ntmps16
  go_wp2_with fail
  go_ret
  exact ⟨ret_int (modF_walk a n h1 h2), rfl⟩
/-- Some number that an int holds. -/
def SomeInt (w : World) (e : Ending) (w' : World) : Prop := ∃ n : Int, -9223372036854775808 ≤ n ∧ n ≤ 9223372036854775807 ∧ e = .returned (.int .i64 n) ∧ w = w'
theorem w64_lo (x : Int) : -9223372036854775808 ≤ wrap64 x := by unfold wrap64; omega
theorem w64_hi (x : Int) : wrap64 x ≤ 9223372036854775807 := by unfold wrap64; omega
set_option maxHeartbeats 1000000 in
theorem At_any (v : Value) (n : Nat) (k : Int) (w : World) (h : RdI w v n) (hn : n ≤ maxLen) (h0 : 0 ≤ k) (h1 : k ≤ 1000000) :
    Calls Try.prog 18 #[v, .int .i64 k] w (SomeInt w) := by
  obtain ⟨A, c, rfl, hc⟩ := h
  unfold maxLen at hn
  by_cases hz : 0 < n
  · obtain ⟨b, off, rfl, hcell⟩ := hc hz
    clear hc
    have hm0 : 0 ≤ k % (n : Int) := Int.emod_nonneg _ (by omega)
    have hm1 : k % (n : Int) < n := Int.emod_lt_of_pos _ (by omega)
    obtain ⟨j, hj⟩ : ∃ j : Nat, k % (n : Int) = j := ⟨(k % (n : Int)).toNat, by omega⟩
    obtain ⟨z, hz1, hz2, hz3⟩ := hcell j (by omega)
    have hcj : w.cell? ⟨b, off + (k % (n : Int)).toNat, none⟩ = some (.int .i64 z) := by rw [hj]; exact hz1
    clear hcell hj hz1
    go_enter Try.func18, Try.ntmps18
    go_wp2_with fail
    go_ret
    exact ⟨_, w64_lo _, w64_hi _, rfl, rfl⟩
  · clear hc
    go_enter Try.func18, Try.ntmps18
    go_wp2_with fail
    go_ret
    exact ⟨_, w64_lo _, w64_hi _, rfl, rfl⟩
/-- Some string of at most m bytes; nothing that lay before has changed. -/
def SomeStr (m : Nat) (w : World) (e : Ending) (w' : World) : Prop := ∃ b : ByteArray, b.size ≤ m ∧ e = .returned (.string b) ∧ Below w.heap.size w w'
end Tx
end Go.Proofs.Ytechabkmepejaaa
