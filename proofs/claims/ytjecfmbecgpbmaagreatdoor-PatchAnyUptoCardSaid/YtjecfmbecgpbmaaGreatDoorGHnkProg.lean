/-
  The program's oldEnd and around: the hunk of some changes. Conditions: fields that are numbers of lines, a context of the document. The program's Group. Conditions: the fields are numbers that an int holds, at most 100000 changes.
-/
import Derived.Test.YtjecfmbecgpbmaaGreatDoorGHnkBase
import Derived.Test.YtjecfmbecgpbmaaGreatDoorGScrBase
import Derived.Deep.RegionWith
namespace Go.Proofs.YtjecfmbecgpbmaaGreatDoor
section
namespace Cm
end Cm
namespace Sc
end Sc
open Go.RowKit
namespace Hn
open Cm Sc
theorem Blk.set_ne {w : World} {G H : Nat} {t : TypeId} {l : List Value} (h : Blk w G t l) (hne : G ≠ H) (k : Nat) (v : Value) : Blk (w.setCell ⟨H, k, none⟩ v) G t l :=
  (Below.heap_setCell _ _ _ _ hne).trans h
theorem Blk.drew {w : World} {G : Nat} {t : TypeId} {l : List Value} (h : Blk w G t l) : Blk w.drew G t l := h
end Hn
end
section
namespace Cm
end Cm
namespace Sc
end Sc
open Go.RowKit
namespace Hn
open Cm Sc
open Classical in
/-- The code of Group. -/
noncomputable def gcF (ctx : Int) (l : List Ch) (m n : Int) : Int := if ctx < 0 ∨ 1048576 < ctx then 3 else chkF l m n
def GrPost (ctx : Int) (l : List Ch) (m n : Int) (w : World) (e : Ending) (w' : World) : Prop :=
  ∃ v, e = .returned (.tuple #[v, .int .i64 (gcF ctx l m n)]) ∧ (gcF ctx l m n = 0 → OwnH w.heap.size w' v (group ctx m l)) ∧ (gcF ctx l m n ≠ 0 → v = .slice none 0 0) ∧ Below w.heap.size w w'
theorem gr_err {ctx : Int} {l : List Ch} {m n z : Int} {w w' : World} (h : gcF ctx l m n = z) (hz : z ≠ 0) (hb : Below w.heap.size w w') : GrPost ctx l m n w (.returned (.tuple #[.slice none 0 0, .int .i64 z])) w' :=
  ⟨_, by rw [h], fun h0 => absurd (h ▸ h0) hz, fun _ => rfl, hb⟩
theorem gr_good {ctx : Int} {l : List Ch} {m n : Int} {v : Value} {w w' : World} (h : gcF ctx l m n = 0) (ho : OwnH w.heap.size w' v (group ctx m l)) (hb : Below w.heap.size w w') : GrPost ctx l m n w (.returned (.tuple #[v, .int .i64 0])) w' :=
  ⟨_, by rw [h], fun _ => ho, fun h0 => absurd h h0, hb⟩
theorem gc_out {ctx : Int} {l : List Ch} {m n : Int} (h : ctx < 0 ∨ 1048576 < ctx) : gcF ctx l m n = 3 := by unfold gcF; rw [if_pos h]
theorem gc_in {ctx : Int} {l : List Ch} {m n : Int} (h : ¬ (ctx < 0 ∨ 1048576 < ctx)) : gcF ctx l m n = chkF l m n := by unfold gcF; rw [if_neg h]
theorem chk_cases (l : List Ch) (m n : Int) : (chkF l m n = 0 ∧ inI m ∧ inI n ∧ OkL true 0 0 l m n) ∨ chkF l m n = 80 := by
  by_cases h : inI m ∧ inI n ∧ OkL true 0 0 l m n
  · exact .inl ⟨chkF_ok h.1 h.2.1 h.2.2, h⟩
  · exact .inr (chkF_no h)
theorem grp_ne (ctx m : Int) (f q : Nat) (b e : Ch) : ∀ r : List Ch, 1 ≤ (grp ctx m f q b e r).length
  | [] => by rw [grp]; simp
  | c :: r => by
    rw [grp]
    split
    · simp
    · exact grp_ne ctx m f (q + 1) b c r
end Hn
end
end Go.Proofs.YtjecfmbecgpbmaaGreatDoor
