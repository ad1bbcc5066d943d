/-
  No cell of these rows narrows 'for every input' (looked for: loops, veiled, ifaces, maps, wideKeys, modest, calm, conditions, laid).
  DERIVED. THE GIVEN ROWS OF THIS SEAT. 5 by the template 'for every input the law returns true; each argument reads behind the call as it read before'; 0 by the template 'total and deterministic' (their statements: YtlckdacmeandmaaTotals.lean).
  GIVEN WITH THE SEED: the statements are not yours to turn. If you find one false, say at which input.
  Laid BY PROGRAM, IN A SANDBOX (cutbox-rows.mjs): the forced cells as the released guide's own fill.sh prints them over the translation 01676fc3a7e89854… (all of the seat's roots in one cut). By AI agents, Wed Nov 11 2026. No macro, syntax, notation, axiom, sorry.
-/
import Derived.Test.YtlckdacmeandmaaChecked
import GoSem.Claim
import GoSem.ClaimJoined
import GoSem.ClaimMapViews
import Derived.JoinedTies
import Derived.KernelRfl
namespace Go.Proofs.Ytlckdacmeandmaa
/- THE CELL 'sum', in the pinned program and in every row, IS THE sha256 OF THE DUMP (.gsa) THAT YtlckdacmeandmaaProg.lean LOADS. Nothing in Lean hashes anything: it is a label: what it is worth is what the hold of that sum in a sandbox is worth. -/
noncomputable def Try.pinned : Pinned := { name := "ytlckdacmeandmaa", sum := "01676fc3a7e898547aa18d67dab7609ebcd1e3fae180071ddeeeee8e826efaa9", checked := Try.checked }
namespace Rows
def none {H : Type} : Left H := { results := [], args := [] }

/-- 'mergelenslaw11.HunkGroups': WHATEVER THE INPUT: true; the input reads as it did. -/
def hunkGroupsSpec : ChangeSpec := { name := "hunkGroups", fn := fun _ => fun
  | [d1, d2, d3, d4, d5, d6] => { results := [.lit (.bool true)], args := [d1, d2, d3, d4, d5, d6] }
  | _ => none }
def hunkGroupsRow : OpenClaim := { program := "ytlckdacmeandmaa", sum := "01676fc3a7e898547aa18d67dab7609ebcd1e3fae180071ddeeeee8e826efaa9", func := "mergelens/mergelenslaw11.HunkGroups", spec := "hunkGroups", apart := false }
def HunkGroupsSaid : Prop := hunkGroupsRow.holds Try.pinned (OpenSpec.ofChange hunkGroupsSpec)

/-- ITS FALSE NEIGHBOUR: 'it returns false'. Refute it at one input. -/
def hunkGroupsWrong : ChangeSpec := { name := "hunkGroups", fn := fun _ => fun
  | [d1, d2, d3, d4, d5, d6] => { results := [.lit (.bool false)], args := [d1, d2, d3, d4, d5, d6] }
  | _ => none }
def HunkGroupsWrongFalsely : Prop := hunkGroupsRow.holds Try.pinned (OpenSpec.ofChange hunkGroupsWrong)

/-- 'mergelenslaw11.HunkCovers': WHATEVER THE INPUT: true; the input reads as it did. -/
def hunkCoversSpec : ChangeSpec := { name := "hunkCovers", fn := fun _ => fun
  | [d1, d2] => { results := [.lit (.bool true)], args := [d1, d2] }
  | _ => none }
def hunkCoversRow : OpenClaim := { program := "ytlckdacmeandmaa", sum := "01676fc3a7e898547aa18d67dab7609ebcd1e3fae180071ddeeeee8e826efaa9", func := "mergelens/mergelenslaw11.HunkCovers", spec := "hunkCovers", apart := false }
def HunkCoversSaid : Prop := hunkCoversRow.holds Try.pinned (OpenSpec.ofChange hunkCoversSpec)

/-- ITS FALSE NEIGHBOUR: 'it returns false'. Refute it at one input. -/
def hunkCoversWrong : ChangeSpec := { name := "hunkCovers", fn := fun _ => fun
  | [d1, d2] => { results := [.lit (.bool false)], args := [d1, d2] }
  | _ => none }
def HunkCoversWrongFalsely : Prop := hunkCoversRow.holds Try.pinned (OpenSpec.ofChange hunkCoversWrong)

/-- 'mergelenslaw11.HunkExact': WHATEVER THE INPUT: true; the input reads as it did. -/
def hunkExactSpec : ChangeSpec := { name := "hunkExact", fn := fun _ => fun
  | [d1, d2] => { results := [.lit (.bool true)], args := [d1, d2] }
  | _ => none }
def hunkExactRow : OpenClaim := { program := "ytlckdacmeandmaa", sum := "01676fc3a7e898547aa18d67dab7609ebcd1e3fae180071ddeeeee8e826efaa9", func := "mergelens/mergelenslaw11.HunkExact", spec := "hunkExact", apart := false }
def HunkExactSaid : Prop := hunkExactRow.holds Try.pinned (OpenSpec.ofChange hunkExactSpec)

/-- ITS FALSE NEIGHBOUR: 'it returns false'. Refute it at one input. -/
def hunkExactWrong : ChangeSpec := { name := "hunkExact", fn := fun _ => fun
  | [d1, d2] => { results := [.lit (.bool false)], args := [d1, d2] }
  | _ => none }
def HunkExactWrongFalsely : Prop := hunkExactRow.holds Try.pinned (OpenSpec.ofChange hunkExactWrong)

/-- 'mergelenslaw11.HunkApart': WHATEVER THE INPUT: true; the input reads as it did. -/
def hunkApartSpec : ChangeSpec := { name := "hunkApart", fn := fun _ => fun
  | [d1, d2] => { results := [.lit (.bool true)], args := [d1, d2] }
  | _ => none }
def hunkApartRow : OpenClaim := { program := "ytlckdacmeandmaa", sum := "01676fc3a7e898547aa18d67dab7609ebcd1e3fae180071ddeeeee8e826efaa9", func := "mergelens/mergelenslaw11.HunkApart", spec := "hunkApart", apart := false }
def HunkApartSaid : Prop := hunkApartRow.holds Try.pinned (OpenSpec.ofChange hunkApartSpec)

/-- ITS FALSE NEIGHBOUR: 'it returns false'. Refute it at one input. -/
def hunkApartWrong : ChangeSpec := { name := "hunkApart", fn := fun _ => fun
  | [d1, d2] => { results := [.lit (.bool false)], args := [d1, d2] }
  | _ => none }
def HunkApartWrongFalsely : Prop := hunkApartRow.holds Try.pinned (OpenSpec.ofChange hunkApartWrong)

/-- 'mergelenslaw11.HunkGrows': WHATEVER THE INPUT: true; the input reads as it did. -/
def hunkGrowsSpec : ChangeSpec := { name := "hunkGrows", fn := fun _ => fun
  | [d1, d2, d3] => { results := [.lit (.bool true)], args := [d1, d2, d3] }
  | _ => none }
def hunkGrowsRow : OpenClaim := { program := "ytlckdacmeandmaa", sum := "01676fc3a7e898547aa18d67dab7609ebcd1e3fae180071ddeeeee8e826efaa9", func := "mergelens/mergelenslaw11.HunkGrows", spec := "hunkGrows", apart := false }
def HunkGrowsSaid : Prop := hunkGrowsRow.holds Try.pinned (OpenSpec.ofChange hunkGrowsSpec)

/-- ITS FALSE NEIGHBOUR: 'it returns false'. Refute it at one input. -/
def hunkGrowsWrong : ChangeSpec := { name := "hunkGrows", fn := fun _ => fun
  | [d1, d2, d3] => { results := [.lit (.bool false)], args := [d1, d2, d3] }
  | _ => none }
def HunkGrowsWrongFalsely : Prop := hunkGrowsRow.holds Try.pinned (OpenSpec.ofChange hunkGrowsWrong)

/- THE SECOND FORM. 'bulk': how many values and letters a reading holds, each counted each time it is reached (what is shared counts as often as it is met; a slice's spare places count too). A statement '..UptoSaid' is the law's where the arguments, and the package variables that the reading takes, are together of bulk at most 1048576: NARROWER than '..Said'. Prove '..Said' where nothing that the law and all that it calls make is longer than what came in: it says more and counts as full. Else prove '..UptoSaid'. A law counts once. -/
mutual
def uptoBulk {H : Type} : DataW H → Nat
  | .lit (.string bytes) => bytes.length + 1
  | .lit _ => 1
  | .nil => 1
  | .ptr d => uptoBulk d + 1
  | .slice elems spare => uptoBulkAll elems + uptoBulkAll spare + 1
  | .agg parts => uptoBulkAll parts + 1
  | .iface _ d => uptoBulk d + 1
  | .map entries => uptoBulkEntries entries + 1
  | .held _ => 1
def uptoBulkAll {H : Type} : List (DataW H) → Nat
  | [] => 0
  | d :: r => uptoBulk d + uptoBulkAll r
def uptoBulkEntries {H : Type} : List (Lit × DataW H) → Nat
  | [] => 0
  | x :: r => uptoBulkEntry x + uptoBulkEntries r
def uptoBulkEntry {H : Type} : Lit × DataW H → Nat
  | (.string bytes, d) => bytes.length + uptoBulk d + 1
  | (_, d) => uptoBulk d + 1
 end
def uptoSmall : (H : Type) → List (DataW H) → Bool := fun _ ds => decide (uptoBulkAll ds ≤ 1048576)
def OpenSpec.upto (s : _root_.Go.ChangeSpec) : _root_.Go.OpenSpec := { _root_.Go.OpenSpec.ofChange s with cond := some uptoSmall }

/-- 'mergelenslaw11.HunkGroups', WHERE WHAT IT READS IS OF BULK AT MOST 1048576: true; the input reads as it did. -/
def hunkGroupsUptoRow : OpenClaim := { program := "ytlckdacmeandmaa", sum := "01676fc3a7e898547aa18d67dab7609ebcd1e3fae180071ddeeeee8e826efaa9", func := "mergelens/mergelenslaw11.HunkGroups", spec := "hunkGroups", apart := false, narrowed := true }
def HunkGroupsUptoSaid : Prop := hunkGroupsUptoRow.holds Try.pinned (OpenSpec.upto hunkGroupsSpec)

/-- 'mergelenslaw11.HunkCovers', WHERE WHAT IT READS IS OF BULK AT MOST 1048576: true; the input reads as it did. -/
def hunkCoversUptoRow : OpenClaim := { program := "ytlckdacmeandmaa", sum := "01676fc3a7e898547aa18d67dab7609ebcd1e3fae180071ddeeeee8e826efaa9", func := "mergelens/mergelenslaw11.HunkCovers", spec := "hunkCovers", apart := false, narrowed := true }
def HunkCoversUptoSaid : Prop := hunkCoversUptoRow.holds Try.pinned (OpenSpec.upto hunkCoversSpec)

/-- 'mergelenslaw11.HunkExact', WHERE WHAT IT READS IS OF BULK AT MOST 1048576: true; the input reads as it did. -/
def hunkExactUptoRow : OpenClaim := { program := "ytlckdacmeandmaa", sum := "01676fc3a7e898547aa18d67dab7609ebcd1e3fae180071ddeeeee8e826efaa9", func := "mergelens/mergelenslaw11.HunkExact", spec := "hunkExact", apart := false, narrowed := true }
def HunkExactUptoSaid : Prop := hunkExactUptoRow.holds Try.pinned (OpenSpec.upto hunkExactSpec)

/-- 'mergelenslaw11.HunkApart', WHERE WHAT IT READS IS OF BULK AT MOST 1048576: true; the input reads as it did. -/
def hunkApartUptoRow : OpenClaim := { program := "ytlckdacmeandmaa", sum := "01676fc3a7e898547aa18d67dab7609ebcd1e3fae180071ddeeeee8e826efaa9", func := "mergelens/mergelenslaw11.HunkApart", spec := "hunkApart", apart := false, narrowed := true }
def HunkApartUptoSaid : Prop := hunkApartUptoRow.holds Try.pinned (OpenSpec.upto hunkApartSpec)

/-- 'mergelenslaw11.HunkGrows', WHERE WHAT IT READS IS OF BULK AT MOST 1048576: true; the input reads as it did. -/
def hunkGrowsUptoRow : OpenClaim := { program := "ytlckdacmeandmaa", sum := "01676fc3a7e898547aa18d67dab7609ebcd1e3fae180071ddeeeee8e826efaa9", func := "mergelens/mergelenslaw11.HunkGrows", spec := "hunkGrows", apart := false, narrowed := true }
def HunkGrowsUptoSaid : Prop := hunkGrowsUptoRow.holds Try.pinned (OpenSpec.upto hunkGrowsSpec)

end Rows
end Go.Proofs.Ytlckdacmeandmaa
