/-
  Sizes of what the reader has read. No conditions.
-/
import Derived.Test.YtlnghfmedkfkmaaGreatDoorGTextBase
import Derived.LoopN
import Derived.Test.YtlnghfmedkfkmaaGreatDoorStrM
import Derived.Test.YtlnghfmedkfkmaaGreatDoorShelf
import Derived.Test.YtlnghfmedkfkmaaGreatDoorTextProg
import Derived.Test.YtlnghfmedkfkmaaGreatDoorTextCollect
import Derived.Test.YtlnghfmedkfkmaaGreatDoorUniMake
namespace Go.Proofs.YtlnghfmedkfkmaaGreatDoor
section
namespace Cm
end Cm
namespace Hn
end Hn
namespace Sc
end Sc
namespace Uf
end Uf
open Go.RowKit
namespace St
open Uf Cm Hn
open Sc (rngF rngAt chkR numAt)
theorem mk_size (l : List UInt8) : (⟨l.toArray⟩ : ByteArray).size = l.length := by simp [ByteArray.size]
end St
end
end Go.Proofs.YtlnghfmedkfkmaaGreatDoor
