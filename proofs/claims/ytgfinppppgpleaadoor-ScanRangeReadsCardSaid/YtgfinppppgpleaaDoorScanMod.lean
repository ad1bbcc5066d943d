/-
  Walk of the verifier's Mod: the remainder of the number taken as an unsigned one. Condition: the divisor is from 1 to 2^40.
-/
import Derived.Test.YtgfinppppgpleaaDoorScanBase
namespace Go.Proofs.YtgfinppppgpleaaDoor
open Go.RowKit
namespace Sc
def modF (a n : Int) : Int := (a % 18446744073709551616) % n
theorem modF_lo (a n : Int) (h : 0 < n) : 0 ≤ modF a n := Int.emod_nonneg _ (by omega)
theorem modF_hi (a n : Int) (h : 0 < n) : modF a n < n := Int.emod_lt_of_pos _ h
theorem modF_walk (a n : Int) (h1 : 0 < n) (h2 : n ≤ 1099511627776) : wrap64 ((IntKind.u64.wrap a).tmod n) = modF a n := by
  have h3 := modF_lo a n h1
  have h4 := modF_hi a n h1
  have h5 : (IntKind.u64.wrap a).tmod n = modF a n := by
    rw [IntKind.wrap_u64, Int.tmod_eq_emod_of_nonneg (Int.emod_nonneg _ (by decide))]
    rfl
  rw [h5]
  exact IntWalk.wrap64_in _ ⟨by omega, by omega⟩
theorem Mod_any (a n : Int) (w : World) (h1 : 0 < n) (h2 : n ≤ 1099511627776) (_h0 : -9223372036854775808 ≤ a) (_h3 : a ≤ 9223372036854775807) :
    Calls Tryd.prog 13 #[.int .i64 a, .int .i64 n] w fun e w' => e = .returned (.int .i64 (modF a n)) ∧ w = w' := by
  go_enter Tryd.func13, Tryd.ntmps13
  go_wp2_with fail
  go_ret
  exact ⟨ret_int (modF_walk a n h1 h2), rfl⟩
end Sc
end Go.Proofs.YtgfinppppgpleaaDoor
