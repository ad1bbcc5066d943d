/-
  Walks of layer 2: strings.Lines and its iterator, for every loop body that keeps the iterator's own cell. Condition: the blob has at most 2^22 bytes.
-/
import Derived.Test.YtlnghfmedkfkmaaGreatDoorTextProg
import Derived.RangeFuncGives
import Derived.RangeFuncOwn
import Derived.RangeFuncCalls
import Derived.RangeFuncLeaves
import Derived.Maps.AppendAt
import Derived.Shelf.AbstractIn
import Derived.OwnWalkIn
import Derived.TacticsInMore
import Derived.RegionIn
import Derived.LoopNIn
import Derived.LoopIn
namespace Go.Proofs.YtlnghfmedkfkmaaGreatDoor
open Go.RowKit
attribute [local go_sem] Oper.semAt_some
namespace Tx
theorem Lines_any (s : ByteArray) (w : World) : Calls Tryz.prog 104 #[.string s] w fun e w' => e = .returned (.func (.func 143) #[] #[.pointer (some ⟨w.heap.size, 0, none⟩)]) ∧ w' = w.alloc (.cells #[.string s] 9) := by
  go_enter Tryz.func104, Tryz.ntmps104
  go_wp2_with fail
  go_ret
  exact ⟨rfl, rfl⟩
end Tx
end Go.Proofs.YtlnghfmedkfkmaaGreatDoor
