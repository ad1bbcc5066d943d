/-
  The sanity check of the chapter's laws. Condition: the table of powers.
-/
import Derived.Test.YtjamacdefcgbaaaGreatDoorUniAwM
namespace Go.Proofs.YtjamacdefcgbaaaGreatDoor
open Go.RowKit
namespace Uf
open Cm Hn
open Sc (fmtR Pow RdK)
open Tx (bs)
theorem ex_sm : PatSm exP.hunks := by
  refine ⟨by decide, fun h hh => ?_⟩
  have e : h = ⟨0, 0, [⟨32, l1B⟩, ⟨45, l2B⟩, ⟨43, l3B⟩]⟩ := by
    have : h ∈ [(⟨0, 0, [⟨32, l1B⟩, ⟨45, l2B⟩, ⟨43, l3B⟩]⟩ : PH)] := hh
    simpa using this
  subst e
  refine ⟨by simp only [List.length_cons, List.length_nil]; decide, by decide, by decide, fun l hl => ?_⟩
  have hl' : l = ⟨32, l1B⟩ ∨ l = ⟨45, l2B⟩ ∨ l = ⟨43, l3B⟩ := by simpa using hl
  rcases hl' with rfl | rfl | rfl <;> decide
set_option maxRecDepth 100000 in
set_option maxHeartbeats 2000000 in
theorem awake_any (w : World) (hw : Pow w) : Calls Tryz.prog 8 #[] w fun e w' => e = .returned (.bool true) ∧ Below w.heap.size w w' := by
  have HM := Lib.hid (Make_any xB xB exS exT 1 false (by decide) (by decide) w)
  rw [ex_mk, ex_mc] at HM
  go_enter Tryz.func8, Tryz.ntmps8
  go_wp2_with fail
  refine HM.out.mono ?_
  rintro e w1 ⟨v, he, ho, hb1⟩
  obtain ⟨A, c, rfl⟩ := ho.form
  obtain rfl : e = .returned (.tuple #[.agg #[.string xB, .string xB, .slice A exP.hunks.length c], .int .i64 0]) := he
  have HB1 := Lib.hid hb1
  have HB2 := Lib.hid ((Below.refl w1.heap.size w1).alloc (Nat.le_refl _) (.cells #[.string xB, .string xB, .slice A exP.hunks.length c] tPat))
  have HF := Lib.hid (Format_any exP _ _ ((ho.rd).below HB2.out) ex_sm ((hw.stays hb1).stays HB2.out))
  unfold FmPost at HF
  rw [ex_fmt, ex_chk] at HF
  have HBz := Lib.hid (HB1.out.trans (HB2.out.mono HB1.out.size))
  clear ho hb1 HM
  go_wp2_with fail
  refine HF.out.mono ?_
  rintro e w2 ⟨rfl, hb2⟩
  have HBy := Lib.hid (HBz.out.trans (hb2.mono HBz.out.size))
  clear hb2 HF
  go_wp2_with fail
  go_ret
  exact ⟨congrArg (fun b => Ending.returned (.bool b)) (by decide), HBy.out⟩
end Uf
end Go.Proofs.YtjamacdefcgbaaaGreatDoor
