/-
  The contracts of the library functions that the program calls, at this translation, as the shelf lays them: each by one application. No conditions beyond each contract's own.
-/
import Derived.Shelf.Lay
import Derived.Shelf.LaySoft
import Derived.Shelf.Bits.Mul64
import Derived.Test.YtfbpdidnlbffhaaProg
namespace Go.Proofs
open Go.Shelf
shelf_try shelf_lay Lays.n212 Nm 212 at Try as Try.lays212
shelf_try open Go.RowKit Go.Lib in
/-- math/bits.Mul: "Mul returns the full-width product of x and y": on a machine of 64 bits: Mul64's. (LAID: no walk: one application.) -/
theorem Try.bits_Mul (x y : Nat) (hx : x < 18446744073709551616) (hy : y < 18446744073709551616) (w : World) :
    Calls Try.prog 44 #[.int .u64 x, .int .u64 y] w fun e w' => e = .returned (.tuple #[.int .u64 ((x * y / 18446744073709551616 : Nat) : Int), .int .u64 ((x * y % 18446744073709551616 : Nat) : Int)]) ∧ w' = w := Any.bits_Mul Try.lays212 x y hx hy w
shelf_tried
end Go.Proofs
