/-
  The program's Make. Conditions: blobs of at most 1000 bytes.
-/
import Derived.Test.YtlnghfmedkfkmaaDoorUniCmp
import Derived.Test.YtlnghfmedkfkmaaDoorHnkRefG
import Derived.Deep.AppendLies
namespace Go.Proofs.YtlnghfmedkfkmaaDoor
namespace Cm
end Cm
namespace Hn
end Hn
namespace Sc
end Sc
namespace Sh
end Sh
namespace Sl
end Sl
open Go.RowKit
namespace Uf
open Cm Sc Hn Sl
open Sh (lnB lnB_len lnB_size idA idB idA_len idB_len blbF)
theorem own_box {w : World} {base n k g o : Nat} {e : TypeId} {v u : Value} {xs : List Value} (h : w.ownsRow base e k v n xs) (hg : g < base) : (w.setCell ⟨g, o, none⟩ u).ownsRow base e k v n xs := by
  refine h.kept (row := some g) ⟨rfl, rfl, rfl, by rw [World.size_setCell]; exact Nat.le_refl _, fun x hx hr => Below.heap_setCell _ _ _ _ (fun e => hr (by rw [e]))⟩ ?_
  rcases h.2 with ⟨rfl, _⟩ | ⟨g', cap, cur, rfl, hb, _⟩
  · exact .inl rfl
  · right
    intro e2
    have : g' = g := by simpa [Value.ownBlock] using e2
    omega
end Uf
end Go.Proofs.YtlnghfmedkfkmaaDoor
