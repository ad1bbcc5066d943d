/-
  No cell of these rows narrows 'for every input' (looked for: loops, veiled, ifaces, maps, wideKeys, modest, calm, conditions, laid).
  DERIVED. THE GIVEN ROWS OF THIS SEAT. 7 by the template 'for every input the law returns true; each argument reads behind the call as it read before'; 0 by the template 'total and deterministic' (their statements: YtlnjhacchnfbkaaTotals.lean).
  GIVEN WITH THE SEED: the statements are not yours to turn. If you find one false, say at which input.
  Laid BY PROGRAM, IN A SANDBOX (cutbox-rows.mjs): the forced cells as the released guide's own fill.sh prints them over the translation 6fa28175ce4eefe8… (all of the seat's roots in one cut). By AI agents, Wed Nov 11 2026. No macro, syntax, notation, axiom, sorry.
-/
import Derived.Test.YtlnjhacchnfbkaaChecked
import GoSem.Claim
import GoSem.ClaimJoined
import GoSem.ClaimMapViews
import Derived.JoinedTies
import Derived.KernelRfl
namespace Go.Proofs.Ytlnjhacchnfbkaa
/- THE CELL 'sum', in the pinned program and in every row, IS THE sha256 OF THE DUMP (.gsa) THAT YtlnjhacchnfbkaaProg.lean LOADS. Nothing in Lean hashes anything: it is a label: what it is worth is what the hold of that sum in a sandbox is worth. -/
noncomputable def Try.pinned : Pinned := { name := "ytlnjhacchnfbkaa", sum := "6fa28175ce4eefe85f31d27f8fecb043908195954c4c74c21fc8fb52ce357014", checked := Try.checked }
namespace Rows
def none {H : Type} : Left H := { results := [], args := [] }

/-- 'mergelenslaw09.ShortestScripts': WHATEVER THE INPUT: true; the input reads as it did. -/
def shortestScriptsSpec : ChangeSpec := { name := "shortestScripts", fn := fun _ => fun
  | [d1, d2, d3, d4] => { results := [.lit (.bool true)], args := [d1, d2, d3, d4] }
  | _ => none }
def shortestScriptsRow : OpenClaim := { program := "ytlnjhacchnfbkaa", sum := "6fa28175ce4eefe85f31d27f8fecb043908195954c4c74c21fc8fb52ce357014", func := "mergelens/mergelenslaw09.ShortestScripts", spec := "shortestScripts", inPlace := ["math/bits.Add64"], apart := false }
def ShortestScriptsSaid : Prop := shortestScriptsRow.holds Try.pinned (OpenSpec.ofChange shortestScriptsSpec)

/-- ITS FALSE NEIGHBOUR: 'it returns false'. Refute it at one input. -/
def shortestScriptsWrong : ChangeSpec := { name := "shortestScripts", fn := fun _ => fun
  | [d1, d2, d3, d4] => { results := [.lit (.bool false)], args := [d1, d2, d3, d4] }
  | _ => none }
def ShortestScriptsWrongFalsely : Prop := shortestScriptsRow.holds Try.pinned (OpenSpec.ofChange shortestScriptsWrong)

/-- 'mergelenslaw09.ShortestBlobs': WHATEVER THE INPUT: true; the input reads as it did. -/
def shortestBlobsSpec : ChangeSpec := { name := "shortestBlobs", fn := fun _ => fun
  | [d1, d2, d3] => { results := [.lit (.bool true)], args := [d1, d2, d3] }
  | _ => none }
def shortestBlobsRow : OpenClaim := { program := "ytlnjhacchnfbkaa", sum := "6fa28175ce4eefe85f31d27f8fecb043908195954c4c74c21fc8fb52ce357014", func := "mergelens/mergelenslaw09.ShortestBlobs", spec := "shortestBlobs", inPlace := ["math/bits.Add64", "internal/bytealg.CountString", "internal/bytealg.IndexByteString", "internal/bytealg.IndexString"], unfollowed := true, recurses := true, named := ["internal/bytealg.MaxLen"], apart := false }
def ShortestBlobsSaid : Prop := shortestBlobsRow.holds Try.pinned (OpenSpec.ofChange shortestBlobsSpec)

/-- ITS FALSE NEIGHBOUR: 'it returns false'. Refute it at one input. -/
def shortestBlobsWrong : ChangeSpec := { name := "shortestBlobs", fn := fun _ => fun
  | [d1, d2, d3] => { results := [.lit (.bool false)], args := [d1, d2, d3] }
  | _ => none }
def ShortestBlobsWrongFalsely : Prop := shortestBlobsRow.holds Try.pinned (OpenSpec.ofChange shortestBlobsWrong)

/-- 'mergelenslaw09.ShortestLeast': WHATEVER THE INPUT: true; the input reads as it did. -/
def shortestLeastSpec : ChangeSpec := { name := "shortestLeast", fn := fun _ => fun
  | [d1, d2, d3] => { results := [.lit (.bool true)], args := [d1, d2, d3] }
  | _ => none }
def shortestLeastRow : OpenClaim := { program := "ytlnjhacchnfbkaa", sum := "6fa28175ce4eefe85f31d27f8fecb043908195954c4c74c21fc8fb52ce357014", func := "mergelens/mergelenslaw09.ShortestLeast", spec := "shortestLeast", inPlace := ["math/bits.Add64"], apart := false }
def ShortestLeastSaid : Prop := shortestLeastRow.holds Try.pinned (OpenSpec.ofChange shortestLeastSpec)

/-- ITS FALSE NEIGHBOUR: 'it returns false'. Refute it at one input. -/
def shortestLeastWrong : ChangeSpec := { name := "shortestLeast", fn := fun _ => fun
  | [d1, d2, d3] => { results := [.lit (.bool false)], args := [d1, d2, d3] }
  | _ => none }
def ShortestLeastWrongFalsely : Prop := shortestLeastRow.holds Try.pinned (OpenSpec.ofChange shortestLeastWrong)

/-- 'mergelenslaw09.ShortestMetric': WHATEVER THE INPUT: true; the input reads as it did. -/
def shortestMetricSpec : ChangeSpec := { name := "shortestMetric", fn := fun _ => fun
  | [d1, d2] => { results := [.lit (.bool true)], args := [d1, d2] }
  | _ => none }
def shortestMetricRow : OpenClaim := { program := "ytlnjhacchnfbkaa", sum := "6fa28175ce4eefe85f31d27f8fecb043908195954c4c74c21fc8fb52ce357014", func := "mergelens/mergelenslaw09.ShortestMetric", spec := "shortestMetric", inPlace := ["math/bits.Add64"], apart := false }
def ShortestMetricSaid : Prop := shortestMetricRow.holds Try.pinned (OpenSpec.ofChange shortestMetricSpec)

/-- ITS FALSE NEIGHBOUR: 'it returns false'. Refute it at one input. -/
def shortestMetricWrong : ChangeSpec := { name := "shortestMetric", fn := fun _ => fun
  | [d1, d2] => { results := [.lit (.bool false)], args := [d1, d2] }
  | _ => none }
def ShortestMetricWrongFalsely : Prop := shortestMetricRow.holds Try.pinned (OpenSpec.ofChange shortestMetricWrong)

/-- 'mergelenslaw09.ShortestPrefix': WHATEVER THE INPUT: true; the input reads as it did. -/
def shortestPrefixSpec : ChangeSpec := { name := "shortestPrefix", fn := fun _ => fun
  | [d1, d2, d3] => { results := [.lit (.bool true)], args := [d1, d2, d3] }
  | _ => none }
def shortestPrefixRow : OpenClaim := { program := "ytlnjhacchnfbkaa", sum := "6fa28175ce4eefe85f31d27f8fecb043908195954c4c74c21fc8fb52ce357014", func := "mergelens/mergelenslaw09.ShortestPrefix", spec := "shortestPrefix", inPlace := ["math/bits.Add64"], apart := false }
def ShortestPrefixSaid : Prop := shortestPrefixRow.holds Try.pinned (OpenSpec.ofChange shortestPrefixSpec)

/-- ITS FALSE NEIGHBOUR: 'it returns false'. Refute it at one input. -/
def shortestPrefixWrong : ChangeSpec := { name := "shortestPrefix", fn := fun _ => fun
  | [d1, d2, d3] => { results := [.lit (.bool false)], args := [d1, d2, d3] }
  | _ => none }
def ShortestPrefixWrongFalsely : Prop := shortestPrefixRow.holds Try.pinned (OpenSpec.ofChange shortestPrefixWrong)

/-- 'mergelenslaw09.ShortestNames': WHATEVER THE INPUT: true; the input reads as it did. -/
def shortestNamesSpec : ChangeSpec := { name := "shortestNames", fn := fun _ => fun
  | [d1, d2] => { results := [.lit (.bool true)], args := [d1, d2] }
  | _ => none }
def shortestNamesRow : OpenClaim := { program := "ytlnjhacchnfbkaa", sum := "6fa28175ce4eefe85f31d27f8fecb043908195954c4c74c21fc8fb52ce357014", func := "mergelens/mergelenslaw09.ShortestNames", spec := "shortestNames", inPlace := ["internal/bytealg.CountString", "internal/bytealg.IndexByteString", "internal/bytealg.IndexString", "math/bits.Add64"], unfollowed := true, recurses := true, named := ["internal/bytealg.MaxLen"], apart := false }
def ShortestNamesSaid : Prop := shortestNamesRow.holds Try.pinned (OpenSpec.ofChange shortestNamesSpec)

/-- ITS FALSE NEIGHBOUR: 'it returns false'. Refute it at one input. -/
def shortestNamesWrong : ChangeSpec := { name := "shortestNames", fn := fun _ => fun
  | [d1, d2] => { results := [.lit (.bool false)], args := [d1, d2] }
  | _ => none }
def ShortestNamesWrongFalsely : Prop := shortestNamesRow.holds Try.pinned (OpenSpec.ofChange shortestNamesWrong)

/-- 'mergelenslaw09.ShortestLimits': WHATEVER THE INPUT: true; the input reads as it did. -/
def shortestLimitsSpec : ChangeSpec := { name := "shortestLimits", fn := fun _ => fun
  | [d] => { results := [.lit (.bool true)], args := [d] }
  | _ => none }
def shortestLimitsRow : OpenClaim := { program := "ytlnjhacchnfbkaa", sum := "6fa28175ce4eefe85f31d27f8fecb043908195954c4c74c21fc8fb52ce357014", func := "mergelens/mergelenslaw09.ShortestLimits", spec := "shortestLimits", inPlace := ["math/bits.Add64"], apart := false }
def ShortestLimitsSaid : Prop := shortestLimitsRow.holds Try.pinned (OpenSpec.ofChange shortestLimitsSpec)

/-- ITS FALSE NEIGHBOUR: 'it returns false'. Refute it at one input. -/
def shortestLimitsWrong : ChangeSpec := { name := "shortestLimits", fn := fun _ => fun
  | [d] => { results := [.lit (.bool false)], args := [d] }
  | _ => none }
def ShortestLimitsWrongFalsely : Prop := shortestLimitsRow.holds Try.pinned (OpenSpec.ofChange shortestLimitsWrong)

/- THE SECOND FORM. 'bulk': how many values and letters a reading holds, each counted each time it is reached (what is shared counts as often as it is met; a slice's spare places count too). A statement '..UptoSaid' is the law's where the arguments, and the package variables that the reading takes, are together of bulk at most 1048576: NARROWER than '..Said'. Prove '..Said' where nothing that the law and all that it calls make is longer than what came in: it says more and counts as full. Else prove '..UptoSaid'. A law counts once. -/
mutual
def uptoBulk {H : Type} : DataW H → Nat
  | .lit (.string bytes) => bytes.length + 1
  | .lit _ => 1
  | .nil => 1
  | .ptr d => uptoBulk d + 1
  | .slice elems spare => uptoBulkAll elems + uptoBulkAll spare + 1
  | .agg parts => uptoBulkAll parts + 1
  | .iface _ d => uptoBulk d + 1
  | .map entries => uptoBulkEntries entries + 1
  | .held _ => 1
def uptoBulkAll {H : Type} : List (DataW H) → Nat
  | [] => 0
  | d :: r => uptoBulk d + uptoBulkAll r
def uptoBulkEntries {H : Type} : List (Lit × DataW H) → Nat
  | [] => 0
  | x :: r => uptoBulkEntry x + uptoBulkEntries r
def uptoBulkEntry {H : Type} : Lit × DataW H → Nat
  | (.string bytes, d) => bytes.length + uptoBulk d + 1
  | (_, d) => uptoBulk d + 1
 end
def uptoSmall : (H : Type) → List (DataW H) → Bool := fun _ ds => decide (uptoBulkAll ds ≤ 1048576)
def OpenSpec.upto (s : _root_.Go.ChangeSpec) : _root_.Go.OpenSpec := { _root_.Go.OpenSpec.ofChange s with cond := some uptoSmall }

/-- 'mergelenslaw09.ShortestScripts', WHERE WHAT IT READS IS OF BULK AT MOST 1048576: true; the input reads as it did. -/
def shortestScriptsUptoRow : OpenClaim := { program := "ytlnjhacchnfbkaa", sum := "6fa28175ce4eefe85f31d27f8fecb043908195954c4c74c21fc8fb52ce357014", func := "mergelens/mergelenslaw09.ShortestScripts", spec := "shortestScripts", inPlace := ["math/bits.Add64"], apart := false, narrowed := true }
def ShortestScriptsUptoSaid : Prop := shortestScriptsUptoRow.holds Try.pinned (OpenSpec.upto shortestScriptsSpec)

/-- 'mergelenslaw09.ShortestBlobs', WHERE WHAT IT READS IS OF BULK AT MOST 1048576: true; the input reads as it did. -/
def shortestBlobsUptoRow : OpenClaim := { program := "ytlnjhacchnfbkaa", sum := "6fa28175ce4eefe85f31d27f8fecb043908195954c4c74c21fc8fb52ce357014", func := "mergelens/mergelenslaw09.ShortestBlobs", spec := "shortestBlobs", inPlace := ["math/bits.Add64", "internal/bytealg.CountString", "internal/bytealg.IndexByteString", "internal/bytealg.IndexString"], unfollowed := true, recurses := true, named := ["internal/bytealg.MaxLen"], apart := false, narrowed := true }
def ShortestBlobsUptoSaid : Prop := shortestBlobsUptoRow.holds Try.pinned (OpenSpec.upto shortestBlobsSpec)

/-- 'mergelenslaw09.ShortestLeast', WHERE WHAT IT READS IS OF BULK AT MOST 1048576: true; the input reads as it did. -/
def shortestLeastUptoRow : OpenClaim := { program := "ytlnjhacchnfbkaa", sum := "6fa28175ce4eefe85f31d27f8fecb043908195954c4c74c21fc8fb52ce357014", func := "mergelens/mergelenslaw09.ShortestLeast", spec := "shortestLeast", inPlace := ["math/bits.Add64"], apart := false, narrowed := true }
def ShortestLeastUptoSaid : Prop := shortestLeastUptoRow.holds Try.pinned (OpenSpec.upto shortestLeastSpec)

/-- 'mergelenslaw09.ShortestMetric', WHERE WHAT IT READS IS OF BULK AT MOST 1048576: true; the input reads as it did. -/
def shortestMetricUptoRow : OpenClaim := { program := "ytlnjhacchnfbkaa", sum := "6fa28175ce4eefe85f31d27f8fecb043908195954c4c74c21fc8fb52ce357014", func := "mergelens/mergelenslaw09.ShortestMetric", spec := "shortestMetric", inPlace := ["math/bits.Add64"], apart := false, narrowed := true }
def ShortestMetricUptoSaid : Prop := shortestMetricUptoRow.holds Try.pinned (OpenSpec.upto shortestMetricSpec)

/-- 'mergelenslaw09.ShortestPrefix', WHERE WHAT IT READS IS OF BULK AT MOST 1048576: true; the input reads as it did. -/
def shortestPrefixUptoRow : OpenClaim := { program := "ytlnjhacchnfbkaa", sum := "6fa28175ce4eefe85f31d27f8fecb043908195954c4c74c21fc8fb52ce357014", func := "mergelens/mergelenslaw09.ShortestPrefix", spec := "shortestPrefix", inPlace := ["math/bits.Add64"], apart := false, narrowed := true }
def ShortestPrefixUptoSaid : Prop := shortestPrefixUptoRow.holds Try.pinned (OpenSpec.upto shortestPrefixSpec)

/-- 'mergelenslaw09.ShortestNames', WHERE WHAT IT READS IS OF BULK AT MOST 1048576: true; the input reads as it did. -/
def shortestNamesUptoRow : OpenClaim := { program := "ytlnjhacchnfbkaa", sum := "6fa28175ce4eefe85f31d27f8fecb043908195954c4c74c21fc8fb52ce357014", func := "mergelens/mergelenslaw09.ShortestNames", spec := "shortestNames", inPlace := ["internal/bytealg.CountString", "internal/bytealg.IndexByteString", "internal/bytealg.IndexString", "math/bits.Add64"], unfollowed := true, recurses := true, named := ["internal/bytealg.MaxLen"], apart := false, narrowed := true }
def ShortestNamesUptoSaid : Prop := shortestNamesUptoRow.holds Try.pinned (OpenSpec.upto shortestNamesSpec)

/-- 'mergelenslaw09.ShortestLimits', WHERE WHAT IT READS IS OF BULK AT MOST 1048576: true; the input reads as it did. -/
def shortestLimitsUptoRow : OpenClaim := { program := "ytlnjhacchnfbkaa", sum := "6fa28175ce4eefe85f31d27f8fecb043908195954c4c74c21fc8fb52ce357014", func := "mergelens/mergelenslaw09.ShortestLimits", spec := "shortestLimits", inPlace := ["math/bits.Add64"], apart := false, narrowed := true }
def ShortestLimitsUptoSaid : Prop := shortestLimitsUptoRow.holds Try.pinned (OpenSpec.upto shortestLimitsSpec)

end Rows
end Go.Proofs.Ytlnjhacchnfbkaa
