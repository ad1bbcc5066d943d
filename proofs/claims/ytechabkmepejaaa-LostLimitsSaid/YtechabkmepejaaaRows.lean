/-
  No cell of these rows narrows 'for every input' (looked for: loops, veiled, ifaces, maps, wideKeys, modest, calm, conditions, laid).
  DERIVED. THE GIVEN ROWS OF THIS SEAT. 5 by the template 'for every input the law returns true; each argument reads behind the call as it read before'; 0 by the template 'total and deterministic' (their statements: YtechabkmepejaaaTotals.lean).
  GIVEN WITH THE SEED: the statements are not yours to turn. If you find one false, say at which input.
  Laid BY PROGRAM, IN A SANDBOX (cutbox-rows.mjs): the forced cells as the released guide's own fill.sh prints them over the translation 2ee5609c7de3d9ea… (all of the seat's roots in one cut). By AI agents, Wed Nov 11 2026. No macro, syntax, notation, axiom, sorry.
-/
import Derived.Test.YtechabkmepejaaaChecked
import GoSem.Claim
import GoSem.ClaimJoined
import GoSem.ClaimMapViews
import Derived.JoinedTies
import Derived.KernelRfl
namespace Go.Proofs.Ytechabkmepejaaa
/- THE CELL 'sum', in the pinned program and in every row, IS THE sha256 OF THE DUMP (.gsa) THAT YtechabkmepejaaaProg.lean LOADS. Nothing in Lean hashes anything: it is a label: what it is worth is what the hold of that sum in a sandbox is worth. -/
noncomputable def Try.pinned : Pinned := { name := "ytechabkmepejaaa", sum := "2ee5609c7de3d9ea0e0820b74432869feee71fdd02d1cd94bd6ae0a228041059", checked := Try.checked }
namespace Rows
def none {H : Type} : Left H := { results := [], args := [] }

/-- 'mergelenslaw15.LostCoalesces': WHATEVER THE INPUT: true; the input reads as it did. -/
def lostCoalescesSpec : ChangeSpec := { name := "lostCoalesces", fn := fun _ => fun
  | [d1, d2, d3] => { results := [.lit (.bool true)], args := [d1, d2, d3] }
  | _ => none }
def lostCoalescesRow : OpenClaim := { program := "ytechabkmepejaaa", sum := "2ee5609c7de3d9ea0e0820b74432869feee71fdd02d1cd94bd6ae0a228041059", func := "mergelens/mergelenslaw15.LostCoalesces", spec := "lostCoalesces", inPlace := ["math/bits.Add64"], apart := false }
def LostCoalescesSaid : Prop := lostCoalescesRow.holds Try.pinned (OpenSpec.ofChange lostCoalescesSpec)

/-- ITS FALSE NEIGHBOUR: 'it returns false'. Refute it at one input. -/
def lostCoalescesWrong : ChangeSpec := { name := "lostCoalesces", fn := fun _ => fun
  | [d1, d2, d3] => { results := [.lit (.bool false)], args := [d1, d2, d3] }
  | _ => none }
def LostCoalescesWrongFalsely : Prop := lostCoalescesRow.holds Try.pinned (OpenSpec.ofChange lostCoalescesWrong)

/-- 'mergelenslaw15.LostProjects': WHATEVER THE INPUT: true; the input reads as it did. -/
def lostProjectsSpec : ChangeSpec := { name := "lostProjects", fn := fun _ => fun
  | [d1, d2] => { results := [.lit (.bool true)], args := [d1, d2] }
  | _ => none }
def lostProjectsRow : OpenClaim := { program := "ytechabkmepejaaa", sum := "2ee5609c7de3d9ea0e0820b74432869feee71fdd02d1cd94bd6ae0a228041059", func := "mergelens/mergelenslaw15.LostProjects", spec := "lostProjects", inPlace := ["math/bits.Add64"], apart := false }
def LostProjectsSaid : Prop := lostProjectsRow.holds Try.pinned (OpenSpec.ofChange lostProjectsSpec)

/-- ITS FALSE NEIGHBOUR: 'it returns false'. Refute it at one input. -/
def lostProjectsWrong : ChangeSpec := { name := "lostProjects", fn := fun _ => fun
  | [d1, d2] => { results := [.lit (.bool false)], args := [d1, d2] }
  | _ => none }
def LostProjectsWrongFalsely : Prop := lostProjectsRow.holds Try.pinned (OpenSpec.ofChange lostProjectsWrong)

/-- 'mergelenslaw15.LostExact': WHATEVER THE INPUT: true; the input reads as it did. -/
def lostExactSpec : ChangeSpec := { name := "lostExact", fn := fun _ => fun
  | [d1, d2] => { results := [.lit (.bool true)], args := [d1, d2] }
  | _ => none }
def lostExactRow : OpenClaim := { program := "ytechabkmepejaaa", sum := "2ee5609c7de3d9ea0e0820b74432869feee71fdd02d1cd94bd6ae0a228041059", func := "mergelens/mergelenslaw15.LostExact", spec := "lostExact", inPlace := ["math/bits.Add64"], apart := false }
def LostExactSaid : Prop := lostExactRow.holds Try.pinned (OpenSpec.ofChange lostExactSpec)

/-- ITS FALSE NEIGHBOUR: 'it returns false'. Refute it at one input. -/
def lostExactWrong : ChangeSpec := { name := "lostExact", fn := fun _ => fun
  | [d1, d2] => { results := [.lit (.bool false)], args := [d1, d2] }
  | _ => none }
def LostExactWrongFalsely : Prop := lostExactRow.holds Try.pinned (OpenSpec.ofChange lostExactWrong)

/-- 'mergelenslaw15.LostCopies': WHATEVER THE INPUT: true; the input reads as it did. -/
def lostCopiesSpec : ChangeSpec := { name := "lostCopies", fn := fun _ => fun
  | [d1, d2] => { results := [.lit (.bool true)], args := [d1, d2] }
  | _ => none }
def lostCopiesRow : OpenClaim := { program := "ytechabkmepejaaa", sum := "2ee5609c7de3d9ea0e0820b74432869feee71fdd02d1cd94bd6ae0a228041059", func := "mergelens/mergelenslaw15.LostCopies", spec := "lostCopies", inPlace := ["math/bits.Add64"], apart := false }
def LostCopiesSaid : Prop := lostCopiesRow.holds Try.pinned (OpenSpec.ofChange lostCopiesSpec)

/-- ITS FALSE NEIGHBOUR: 'it returns false'. Refute it at one input. -/
def lostCopiesWrong : ChangeSpec := { name := "lostCopies", fn := fun _ => fun
  | [d1, d2] => { results := [.lit (.bool false)], args := [d1, d2] }
  | _ => none }
def LostCopiesWrongFalsely : Prop := lostCopiesRow.holds Try.pinned (OpenSpec.ofChange lostCopiesWrong)

/-- 'mergelenslaw15.LostLimits': WHATEVER THE INPUT: true; the input reads as it did. -/
def lostLimitsSpec : ChangeSpec := { name := "lostLimits", fn := fun _ => fun
  | [d1, d2] => { results := [.lit (.bool true)], args := [d1, d2] }
  | _ => none }
def lostLimitsRow : OpenClaim := { program := "ytechabkmepejaaa", sum := "2ee5609c7de3d9ea0e0820b74432869feee71fdd02d1cd94bd6ae0a228041059", func := "mergelens/mergelenslaw15.LostLimits", spec := "lostLimits", inPlace := ["math/bits.Add64"], apart := false }
def LostLimitsSaid : Prop := lostLimitsRow.holds Try.pinned (OpenSpec.ofChange lostLimitsSpec)

/-- ITS FALSE NEIGHBOUR: 'it returns false'. Refute it at one input. -/
def lostLimitsWrong : ChangeSpec := { name := "lostLimits", fn := fun _ => fun
  | [d1, d2] => { results := [.lit (.bool false)], args := [d1, d2] }
  | _ => none }
def LostLimitsWrongFalsely : Prop := lostLimitsRow.holds Try.pinned (OpenSpec.ofChange lostLimitsWrong)

/- THE SECOND FORM. 'bulk': how many values and letters a reading holds, each counted each time it is reached (what is shared counts as often as it is met; a slice's spare places count too). A statement '..UptoSaid' is the law's where the arguments, and the package variables that the reading takes, are together of bulk at most 1048576: NARROWER than '..Said'. Prove '..Said' where nothing that the law and all that it calls make is longer than what came in: it says more and counts as full. Else prove '..UptoSaid'. A law counts once. -/
mutual
def uptoBulk {H : Type} : DataW H → Nat
  | .lit (.string bytes) => bytes.length + 1
  | .lit _ => 1
  | .nil => 1
  | .ptr d => uptoBulk d + 1
  | .slice elems spare => uptoBulkAll elems + uptoBulkAll spare + 1
  | .agg parts => uptoBulkAll parts + 1
  | .iface _ d => uptoBulk d + 1
  | .map entries => uptoBulkEntries entries + 1
  | .held _ => 1
def uptoBulkAll {H : Type} : List (DataW H) → Nat
  | [] => 0
  | d :: r => uptoBulk d + uptoBulkAll r
def uptoBulkEntries {H : Type} : List (Lit × DataW H) → Nat
  | [] => 0
  | x :: r => uptoBulkEntry x + uptoBulkEntries r
def uptoBulkEntry {H : Type} : Lit × DataW H → Nat
  | (.string bytes, d) => bytes.length + uptoBulk d + 1
  | (_, d) => uptoBulk d + 1
 end
def uptoSmall : (H : Type) → List (DataW H) → Bool := fun _ ds => decide (uptoBulkAll ds ≤ 1048576)
def OpenSpec.upto (s : _root_.Go.ChangeSpec) : _root_.Go.OpenSpec := { _root_.Go.OpenSpec.ofChange s with cond := some uptoSmall }

/-- 'mergelenslaw15.LostCoalesces', WHERE WHAT IT READS IS OF BULK AT MOST 1048576: true; the input reads as it did. -/
def lostCoalescesUptoRow : OpenClaim := { program := "ytechabkmepejaaa", sum := "2ee5609c7de3d9ea0e0820b74432869feee71fdd02d1cd94bd6ae0a228041059", func := "mergelens/mergelenslaw15.LostCoalesces", spec := "lostCoalesces", inPlace := ["math/bits.Add64"], apart := false, narrowed := true }
def LostCoalescesUptoSaid : Prop := lostCoalescesUptoRow.holds Try.pinned (OpenSpec.upto lostCoalescesSpec)

/-- 'mergelenslaw15.LostProjects', WHERE WHAT IT READS IS OF BULK AT MOST 1048576: true; the input reads as it did. -/
def lostProjectsUptoRow : OpenClaim := { program := "ytechabkmepejaaa", sum := "2ee5609c7de3d9ea0e0820b74432869feee71fdd02d1cd94bd6ae0a228041059", func := "mergelens/mergelenslaw15.LostProjects", spec := "lostProjects", inPlace := ["math/bits.Add64"], apart := false, narrowed := true }
def LostProjectsUptoSaid : Prop := lostProjectsUptoRow.holds Try.pinned (OpenSpec.upto lostProjectsSpec)

/-- 'mergelenslaw15.LostExact', WHERE WHAT IT READS IS OF BULK AT MOST 1048576: true; the input reads as it did. -/
def lostExactUptoRow : OpenClaim := { program := "ytechabkmepejaaa", sum := "2ee5609c7de3d9ea0e0820b74432869feee71fdd02d1cd94bd6ae0a228041059", func := "mergelens/mergelenslaw15.LostExact", spec := "lostExact", inPlace := ["math/bits.Add64"], apart := false, narrowed := true }
def LostExactUptoSaid : Prop := lostExactUptoRow.holds Try.pinned (OpenSpec.upto lostExactSpec)

/-- 'mergelenslaw15.LostCopies', WHERE WHAT IT READS IS OF BULK AT MOST 1048576: true; the input reads as it did. -/
def lostCopiesUptoRow : OpenClaim := { program := "ytechabkmepejaaa", sum := "2ee5609c7de3d9ea0e0820b74432869feee71fdd02d1cd94bd6ae0a228041059", func := "mergelens/mergelenslaw15.LostCopies", spec := "lostCopies", inPlace := ["math/bits.Add64"], apart := false, narrowed := true }
def LostCopiesUptoSaid : Prop := lostCopiesUptoRow.holds Try.pinned (OpenSpec.upto lostCopiesSpec)

/-- 'mergelenslaw15.LostLimits', WHERE WHAT IT READS IS OF BULK AT MOST 1048576: true; the input reads as it did. -/
def lostLimitsUptoRow : OpenClaim := { program := "ytechabkmepejaaa", sum := "2ee5609c7de3d9ea0e0820b74432869feee71fdd02d1cd94bd6ae0a228041059", func := "mergelens/mergelenslaw15.LostLimits", spec := "lostLimits", inPlace := ["math/bits.Add64"], apart := false, narrowed := true }
def LostLimitsUptoSaid : Prop := lostLimitsUptoRow.holds Try.pinned (OpenSpec.upto lostLimitsSpec)

end Rows
end Go.Proofs.Ytechabkmepejaaa
