/-
  The reference's Group. Conditions: at most 100000 changes. Group and the reference's Group for any script: hunks or an error. Conditions: numbers that an int holds, at most 100000 changes.
-/
import Derived.Test.YtjecfmbecgpbmaaGreatDoorGHnkProg
import Derived.Test.YtjecfmbecgpbmaaGreatDoorGScrBase
import Derived.Laws.OwnMore
import Derived.Deep.AppendLies
namespace Go.Proofs.YtjecfmbecgpbmaaGreatDoor
section
namespace Cm
end Cm
namespace Sc
end Sc
open Go.RowKit
namespace Hn
open Cm Sc
theorem flat_set {α : Type} {k : Nat} {enc : α → List Value} (he : ∀ x, (enc x).length = k) : ∀ (xs : List α) (j : Nat) (hj : j < xs.length) (i : Nat) (_ : i < k) (u : Value) (y : α), enc y = (enc xs[j]).set i u → (flatK enc xs).set (j * k + i) u = flatK enc (xs.set j y)
  | [], j, h, _, _, _, _, _ => absurd h (Nat.not_lt_zero _)
  | s :: ss, 0, _, i, hi, u, y, hy => by
    show (enc s ++ flatK enc ss).set (0 * k + i) u = enc y ++ flatK enc ss
    rw [Nat.zero_mul, Nat.zero_add, List.set_append_left _ _ (by rw [he]; exact hi), hy]
    rfl
  | s :: ss, j + 1, h, i, hi, u, y, hy => by
    show (enc s ++ flatK enc ss).set ((j + 1) * k + i) u = enc s ++ flatK enc (ss.set j y)
    rw [List.set_append_right _ _ (by rw [he, Nat.succ_mul]; omega), he, show (j + 1) * k + i - k = j * k + i by rw [Nat.succ_mul]; omega, flat_set he ss j (by simpa using h) i hi u y hy]
end Hn
end
section
namespace Cm
end Cm
namespace Sc
end Sc
open Go.RowKit
namespace Hn
open Cm Sc
set_option maxRecDepth 100000 in
set_option maxHeartbeats 4000000 in
theorem Group_any (v : Value) (l : List Ch) (m n ctx : Int) (w : World) (h : RdC w v l) (hl : l.length ≤ 100000) (hb : ∀ c ∈ l, ChB c) :
    Calls Tryz.prog 47 #[v, .int .i64 m, .int .i64 n, .int .i64 ctx] w (GrPost ctx l m n w) := by
  obtain ⟨A, cp, rfl⟩ := h.form
  have HR := Lib.hid h
  clear h
  generalize hN : l.length = N at *
  have HN := Lib.hid hN
  clear hN
  by_cases h0 : ctx < 0
  · have HE := Lib.hid (gc_out (l := l) (m := m) (n := n) (.inl h0))
    go_enter Tryz.func47, Tryz.ntmps47
    go_wp2_with fail
    go_ret2
    exact gr_err HE.out (by decide) (Below.refl _ _)
  · by_cases h1 : 1048576 < ctx
    · have HE := Lib.hid (gc_out (l := l) (m := m) (n := n) (.inr h1))
      have d0 : decide (ctx < 0) = false := decide_eq_false h0
      go_enter Tryz.func47, Tryz.ntmps47
      go_wp2_with fail
      go_ret2
      exact gr_err HE.out (by decide) (Below.refl _ _)
    · rcases chk_cases l m n with ⟨_, hm, hn, hok⟩ | hck
      · exact Group_ok A cp N l m n ctx w HR HN hl hb ⟨by omega, by omega⟩ hm hn (Lib.hid hok)
      · have HE : Hid (gcF ctx l m n = 80) := Lib.hid (by rw [gc_in (by omega)]; exact hck)
        have HCk := Lib.hid (Check_any _ l m n w HR.out (by rw [HN.out]; omega) hb)
        unfold CkPost at HCk
        rw [hck] at HCk
        have d0 : decide (ctx < 0) = false := decide_eq_false h0
        have d1 : decide (1048576 < ctx) = false := decide_eq_false h1
        clear hck hb
        go_enter Tryz.func47, Tryz.ntmps47
        go_wp2_with (go_at_call 75; refine HCk.out.mono ?_; rintro e w1 ⟨rfl, hb1⟩; have HB1 := Lib.hid hb1; clear hb1 HCk)
        go_ret2
        exact gr_err HE.out (by decide) HB1.out
end Hn
end
end Go.Proofs.YtjecfmbecgpbmaaGreatDoor
