/-
  The sanity check of layer 1's statements ('awake'): it returns true. Condition: the table of powers of ten is laid.
-/
import Derived.Test.YtgfinppppgpleaaDoorScanNum
import Derived.Test.YtgfinppppgpleaaDoorScanFmt
import Derived.Test.YtgfinppppgpleaaDoorScanUnqC
namespace Go.Proofs.YtgfinppppgpleaaDoor
open Go.RowKit
namespace Sc
theorem aw_num : numF [97, 49, 50, 98] 1 = some (12, 3) := by decide
theorem aw_quote : quoteF [97, 32, 98] = [34, 97, 32, 98, 34] := by decide
theorem aw_unq : unqF [34, 97, 32, 98, 34] 0 = some ([97, 32, 98], 5) := by decide
theorem aw_fmt : fmtR 4 0 = [52, 44, 48] := by
  rw [fmtR_0 4 (by decide) (by decide), fmtF_in 4 (by decide) (by decide)]
  show Lib.itoa ((4 : Nat) : Int) ++ _ = _
  rw [Lib.itoa_nonneg, Lib.decDigits_one (by decide)]
  decide
set_option maxRecDepth 100000 in
set_option maxHeartbeats 800000 in
theorem awake_any (w : World) (hp : Pow w) : Calls Tryd.prog 10 #[] w fun e w' => e = .returned (.bool true) ∧ Below w.heap.size w w' := by
  have HP := Lib.hid hp
  have H1 : Hid (∀ w, Calls Tryd.prog 11 #[.string ⟨#[97, 49, 50, 98]⟩, .int .i64 1] w fun e w' => e = .returned (numV (some (12, 3))) ∧ w = w') :=
    Lib.hid (fun w => aw_num ▸ Number_any ⟨#[97, 49, 50, 98]⟩ 1 w (by decide))
  have H2 : Hid (∀ w, Calls Tryd.prog 22 #[.string ⟨#[97, 32, 98]⟩] w fun e w' => e = .returned (.string ⟨#[34, 97, 32, 98, 34]⟩) ∧ Below w.heap.size w w') :=
    Lib.hid (fun w => by have := Quote_any ⟨#[97, 32, 98]⟩ w (by decide); rw [show bs ⟨#[97, 32, 98]⟩ = [97, 32, 98] from rfl, aw_quote] at this; exact this)
  have H3 : Hid (∀ w, Calls Tryd.prog 20 #[.string ⟨#[34, 97, 32, 98, 34]⟩, .int .i64 0] w fun e w' => e = .returned (unqV (some ([97, 32, 98], 5))) ∧ Below w.heap.size w w') :=
    Lib.hid (fun w => aw_unq ▸ Unquote_any ⟨#[34, 97, 32, 98, 34]⟩ 0 w (by decide))
  have H4 : Hid (∀ w, Pow w → Calls Tryd.prog 19 #[.int .i64 4, .int .i64 0] w fun e w' => e = .returned (.string ⟨#[52, 44, 48]⟩) ∧ Below w.heap.size w w') :=
    Lib.hid (fun w h => by have := FormatRange_any 4 0 w (by decide) (by decide) (by decide) (by decide) h; rw [aw_fmt] at this; exact this)
  clear hp
  go_enter Tryd.func10, Tryd.ntmps10
  go_wp2_with fail
  refine (H1.out _).mono ?_
  rintro e w1 ⟨rfl, rfl⟩
  unfold numV
  go_wp2_with fail
  refine (H2.out _).mono ?_
  rintro e w1 ⟨rfl, hb1⟩
  go_wp2_with fail
  refine (H3.out _).mono ?_
  rintro e w2 ⟨rfl, hb2⟩
  unfold unqV
  have hb12 := hb1.trans (hb2.mono hb1.size)
  have HP2 := Lib.hid (HP.out.stays hb12)
  go_wp2_with fail
  refine (H4.out _ HP2.out).mono ?_
  rintro e w3 ⟨rfl, hb3⟩
  go_wp2_with fail
  go_ret
  exact ⟨rfl, hb12.trans (hb3.mono hb12.size)⟩
end Sc
end Go.Proofs.YtgfinppppgpleaaDoor
