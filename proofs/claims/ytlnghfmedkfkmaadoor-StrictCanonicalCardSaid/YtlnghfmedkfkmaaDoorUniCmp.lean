/-
  isName, compare; Name of the reference. Conditions: blobs of at most 1000 bytes.
-/
import Derived.Test.YtlnghfmedkfkmaaDoorGTextBase
import Derived.Test.YtlnghfmedkfkmaaDoorShoBlb
import Derived.Test.YtlnghfmedkfkmaaDoorScrSpoil
import Derived.Test.YtlnghfmedkfkmaaDoorScrIter
import Derived.StillTailTactics
import Derived.RegionTactic
import Derived.ChangeAlike
import Derived.Test.YtlnghfmedkfkmaaDoorScrFits
import Derived.Laws.AppendOwnNone
import Derived.Lib.SliceRun
import Derived.Deep.LoopGhost
import Derived.Test.YtlnghfmedkfkmaaDoorShoScr
import Derived.Test.YtlnghfmedkfkmaaDoorInternTab
import Derived.Deep.OwnRows
import Derived.Maps.OwnOps
import Derived.Test.YtlnghfmedkfkmaaDoorGHnkBase
namespace Go.Proofs.YtlnghfmedkfkmaaDoor
namespace Cm
end Cm
namespace Hn
end Hn
namespace Sc
end Sc
namespace Sh
end Sh
namespace Sl
end Sl
open Go.RowKit
namespace Uf
open Cm Sc Hn Sl
open Sh (lnB lnB_len lnB_size idA idB idA_len idB_len blbF SpPost2)
def nameB (s : ByteArray) : Bool := decide (0 < s.size ∧ s.size ≤ 200)
theorem empty_of (s : ByteArray) (h : s.size = 0) : s.toList = [] := by
  rw [ByteArray.toList_eq]
  exact List.eq_nil_of_length_eq_zero h
theorem not_empty_of (s : ByteArray) (h : 0 < s.size) : ¬ s.toList = [] := by
  rw [ByteArray.toList_eq]
  intro e
  have : s.data.toList.length = 0 := by rw [e]; rfl
  have h2 : s.data.toList.length = s.size := rfl
  omega
set_option maxRecDepth 100000 in
theorem isName_any (s : ByteArray) (w : World) : Calls Tryd.prog 30 #[.string s] w fun e w' => e = .returned (.bool (nameB s)) ∧ w' = w := by
  by_cases h0 : s.size = 0
  · have e0 := empty_of s h0
    have e1 : (!s.toList.isEmpty) = false := by rw [e0]; rfl
    have en : nameB s = false := by unfold nameB; rw [decide_eq_false_iff_not]; omega
    rw [en]
    clear h0
    go_enter Tryd.func30, Tryd.ntmps30
    go_wp2_with fail
    go_ret
    exact ⟨rfl, rfl⟩
  · have e0 := not_empty_of s (by omega)
    have e1 : (!s.toList.isEmpty) = true := by simpa using e0
    by_cases h2 : (s.size : Int) ≤ 200
    · have en : nameB s = true := by unfold nameB; rw [decide_eq_true_iff]; omega
      rw [en]
      go_enter Tryd.func30, Tryd.ntmps30
      go_wp2_with fail
      go_ret
      exact ⟨rfl, rfl⟩
    · have en : nameB s = false := by unfold nameB; rw [decide_eq_false_iff_not]; omega
      have hd : decide ((s.size : Int) ≤ 200) = false := decide_eq_false h2
      rw [en]
      go_enter Tryd.func30, Tryd.ntmps30
      go_wp2_with fail
      go_ret
      exact ⟨rfl, rfl⟩
end Uf
end Go.Proofs.YtlnghfmedkfkmaaDoor
