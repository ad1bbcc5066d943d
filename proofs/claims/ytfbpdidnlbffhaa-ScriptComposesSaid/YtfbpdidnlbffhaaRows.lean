/-
  No cell of these rows narrows 'for every input' (looked for: loops, veiled, ifaces, maps, wideKeys, modest, calm, conditions, laid).
  DERIVED. THE GIVEN ROWS OF THIS SEAT. 6 by the template 'for every input the law returns true; each argument reads behind the call as it read before'; 0 by the template 'total and deterministic' (their statements: YtfbpdidnlbffhaaTotals.lean).
  GIVEN WITH THE SEED: the statements are not yours to turn. If you find one false, say at which input.
  Laid BY PROGRAM, IN A SANDBOX (cutbox-rows.mjs): the forced cells as the released guide's own fill.sh prints them over the translation 5b23a3704c2f9b54… (all of the seat's roots in one cut). By AI agents, Wed Nov 11 2026. No macro, syntax, notation, axiom, sorry.
-/
import Derived.Test.YtfbpdidnlbffhaaChecked
import GoSem.Claim
import GoSem.ClaimJoined
import GoSem.ClaimMapViews
import Derived.JoinedTies
import Derived.KernelRfl
namespace Go.Proofs.Ytfbpdidnlbffhaa
/- THE CELL 'sum', in the pinned program and in every row, IS THE sha256 OF THE DUMP (.gsa) THAT YtfbpdidnlbffhaaProg.lean LOADS. Nothing in Lean hashes anything: it is a label: what it is worth is what the hold of that sum in a sandbox is worth. -/
noncomputable def Try.pinned : Pinned := { name := "ytfbpdidnlbffhaa", sum := "5b23a3704c2f9b548f3dba54d4690885f6518702644bb2036c94f7c3bdb6968e", checked := Try.checked }
namespace Rows
def none {H : Type} : Left H := { results := [], args := [] }

/-- 'mergelenslaw08.ScriptChecks': WHATEVER THE INPUT: true; the input reads as it did. -/
def scriptChecksSpec : ChangeSpec := { name := "scriptChecks", fn := fun _ => fun
  | [d1, d2, d3, d4, d5, d6, d7] => { results := [.lit (.bool true)], args := [d1, d2, d3, d4, d5, d6, d7] }
  | _ => none }
def scriptChecksRow : OpenClaim := { program := "ytfbpdidnlbffhaa", sum := "5b23a3704c2f9b548f3dba54d4690885f6518702644bb2036c94f7c3bdb6968e", func := "mergelens/mergelenslaw08.ScriptChecks", spec := "scriptChecks", apart := false }
def ScriptChecksSaid : Prop := scriptChecksRow.holds Try.pinned (OpenSpec.ofChange scriptChecksSpec)

/-- ITS FALSE NEIGHBOUR: 'it returns false'. Refute it at one input. -/
def scriptChecksWrong : ChangeSpec := { name := "scriptChecks", fn := fun _ => fun
  | [d1, d2, d3, d4, d5, d6, d7] => { results := [.lit (.bool false)], args := [d1, d2, d3, d4, d5, d6, d7] }
  | _ => none }
def ScriptChecksWrongFalsely : Prop := scriptChecksRow.holds Try.pinned (OpenSpec.ofChange scriptChecksWrong)

/-- 'mergelenslaw08.ScriptPairs': WHATEVER THE INPUT: true; the input reads as it did. -/
def scriptPairsSpec : ChangeSpec := { name := "scriptPairs", fn := fun _ => fun
  | [d1, d2, d3, d4, d5] => { results := [.lit (.bool true)], args := [d1, d2, d3, d4, d5] }
  | _ => none }
def scriptPairsRow : OpenClaim := { program := "ytfbpdidnlbffhaa", sum := "5b23a3704c2f9b548f3dba54d4690885f6518702644bb2036c94f7c3bdb6968e", func := "mergelens/mergelenslaw08.ScriptPairs", spec := "scriptPairs", unfollowed := true, recurses := true, apart := false }
def ScriptPairsSaid : Prop := scriptPairsRow.holds Try.pinned (OpenSpec.ofChange scriptPairsSpec)

/-- ITS FALSE NEIGHBOUR: 'it returns false'. Refute it at one input. -/
def scriptPairsWrong : ChangeSpec := { name := "scriptPairs", fn := fun _ => fun
  | [d1, d2, d3, d4, d5] => { results := [.lit (.bool false)], args := [d1, d2, d3, d4, d5] }
  | _ => none }
def ScriptPairsWrongFalsely : Prop := scriptPairsRow.holds Try.pinned (OpenSpec.ofChange scriptPairsWrong)

/-- 'mergelenslaw08.ScriptDetermined': WHATEVER THE INPUT: true; the input reads as it did. -/
def scriptDeterminedSpec : ChangeSpec := { name := "scriptDetermined", fn := fun _ => fun
  | [d] => { results := [.lit (.bool true)], args := [d] }
  | _ => none }
def scriptDeterminedRow : OpenClaim := { program := "ytfbpdidnlbffhaa", sum := "5b23a3704c2f9b548f3dba54d4690885f6518702644bb2036c94f7c3bdb6968e", func := "mergelens/mergelenslaw08.ScriptDetermined", spec := "scriptDetermined", unfollowed := true, recurses := true, apart := false }
def ScriptDeterminedSaid : Prop := scriptDeterminedRow.holds Try.pinned (OpenSpec.ofChange scriptDeterminedSpec)

/-- ITS FALSE NEIGHBOUR: 'it returns false'. Refute it at one input. -/
def scriptDeterminedWrong : ChangeSpec := { name := "scriptDetermined", fn := fun _ => fun
  | [d] => { results := [.lit (.bool false)], args := [d] }
  | _ => none }
def ScriptDeterminedWrongFalsely : Prop := scriptDeterminedRow.holds Try.pinned (OpenSpec.ofChange scriptDeterminedWrong)

/-- 'mergelenslaw08.ScriptComposes': WHATEVER THE INPUT: true; the input reads as it did. -/
def scriptComposesSpec : ChangeSpec := { name := "scriptComposes", fn := fun _ => fun
  | [d1, d2, d3] => { results := [.lit (.bool true)], args := [d1, d2, d3] }
  | _ => none }
def scriptComposesRow : OpenClaim := { program := "ytfbpdidnlbffhaa", sum := "5b23a3704c2f9b548f3dba54d4690885f6518702644bb2036c94f7c3bdb6968e", func := "mergelens/mergelenslaw08.ScriptComposes", spec := "scriptComposes", unfollowed := true, recurses := true, apart := false }
def ScriptComposesSaid : Prop := scriptComposesRow.holds Try.pinned (OpenSpec.ofChange scriptComposesSpec)

/-- ITS FALSE NEIGHBOUR: 'it returns false'. Refute it at one input. -/
def scriptComposesWrong : ChangeSpec := { name := "scriptComposes", fn := fun _ => fun
  | [d1, d2, d3] => { results := [.lit (.bool false)], args := [d1, d2, d3] }
  | _ => none }
def ScriptComposesWrongFalsely : Prop := scriptComposesRow.holds Try.pinned (OpenSpec.ofChange scriptComposesWrong)

/-- 'mergelenslaw08.ScriptAlgebra': WHATEVER THE INPUT: true; the input reads as it did. -/
def scriptAlgebraSpec : ChangeSpec := { name := "scriptAlgebra", fn := fun _ => fun
  | [d] => { results := [.lit (.bool true)], args := [d] }
  | _ => none }
def scriptAlgebraRow : OpenClaim := { program := "ytfbpdidnlbffhaa", sum := "5b23a3704c2f9b548f3dba54d4690885f6518702644bb2036c94f7c3bdb6968e", func := "mergelens/mergelenslaw08.ScriptAlgebra", spec := "scriptAlgebra", unfollowed := true, recurses := true, apart := false }
def ScriptAlgebraSaid : Prop := scriptAlgebraRow.holds Try.pinned (OpenSpec.ofChange scriptAlgebraSpec)

/-- ITS FALSE NEIGHBOUR: 'it returns false'. Refute it at one input. -/
def scriptAlgebraWrong : ChangeSpec := { name := "scriptAlgebra", fn := fun _ => fun
  | [d] => { results := [.lit (.bool false)], args := [d] }
  | _ => none }
def ScriptAlgebraWrongFalsely : Prop := scriptAlgebraRow.holds Try.pinned (OpenSpec.ofChange scriptAlgebraWrong)

/-- 'mergelenslaw08.ScriptFits': WHATEVER THE INPUT: true; the input reads as it did. -/
def scriptFitsSpec : ChangeSpec := { name := "scriptFits", fn := fun _ => fun
  | [d1, d2, d3, d4, d5, d6] => { results := [.lit (.bool true)], args := [d1, d2, d3, d4, d5, d6] }
  | _ => none }
def scriptFitsRow : OpenClaim := { program := "ytfbpdidnlbffhaa", sum := "5b23a3704c2f9b548f3dba54d4690885f6518702644bb2036c94f7c3bdb6968e", func := "mergelens/mergelenslaw08.ScriptFits", spec := "scriptFits", unfollowed := true, recurses := true, apart := false }
def ScriptFitsSaid : Prop := scriptFitsRow.holds Try.pinned (OpenSpec.ofChange scriptFitsSpec)

/-- ITS FALSE NEIGHBOUR: 'it returns false'. Refute it at one input. -/
def scriptFitsWrong : ChangeSpec := { name := "scriptFits", fn := fun _ => fun
  | [d1, d2, d3, d4, d5, d6] => { results := [.lit (.bool false)], args := [d1, d2, d3, d4, d5, d6] }
  | _ => none }
def ScriptFitsWrongFalsely : Prop := scriptFitsRow.holds Try.pinned (OpenSpec.ofChange scriptFitsWrong)

/- THE SECOND FORM. 'bulk': how many values and letters a reading holds, each counted each time it is reached (what is shared counts as often as it is met; a slice's spare places count too). A statement '..UptoSaid' is the law's where the arguments, and the package variables that the reading takes, are together of bulk at most 1048576: NARROWER than '..Said'. Prove '..Said' where nothing that the law and all that it calls make is longer than what came in: it says more and counts as full. Else prove '..UptoSaid'. A law counts once. -/
mutual
def uptoBulk {H : Type} : DataW H → Nat
  | .lit (.string bytes) => bytes.length + 1
  | .lit _ => 1
  | .nil => 1
  | .ptr d => uptoBulk d + 1
  | .slice elems spare => uptoBulkAll elems + uptoBulkAll spare + 1
  | .agg parts => uptoBulkAll parts + 1
  | .iface _ d => uptoBulk d + 1
  | .map entries => uptoBulkEntries entries + 1
  | .held _ => 1
def uptoBulkAll {H : Type} : List (DataW H) → Nat
  | [] => 0
  | d :: r => uptoBulk d + uptoBulkAll r
def uptoBulkEntries {H : Type} : List (Lit × DataW H) → Nat
  | [] => 0
  | x :: r => uptoBulkEntry x + uptoBulkEntries r
def uptoBulkEntry {H : Type} : Lit × DataW H → Nat
  | (.string bytes, d) => bytes.length + uptoBulk d + 1
  | (_, d) => uptoBulk d + 1
 end
def uptoSmall : (H : Type) → List (DataW H) → Bool := fun _ ds => decide (uptoBulkAll ds ≤ 1048576)
def OpenSpec.upto (s : _root_.Go.ChangeSpec) : _root_.Go.OpenSpec := { _root_.Go.OpenSpec.ofChange s with cond := some uptoSmall }

/-- 'mergelenslaw08.ScriptChecks', WHERE WHAT IT READS IS OF BULK AT MOST 1048576: true; the input reads as it did. -/
def scriptChecksUptoRow : OpenClaim := { program := "ytfbpdidnlbffhaa", sum := "5b23a3704c2f9b548f3dba54d4690885f6518702644bb2036c94f7c3bdb6968e", func := "mergelens/mergelenslaw08.ScriptChecks", spec := "scriptChecks", apart := false, narrowed := true }
def ScriptChecksUptoSaid : Prop := scriptChecksUptoRow.holds Try.pinned (OpenSpec.upto scriptChecksSpec)

/-- 'mergelenslaw08.ScriptPairs', WHERE WHAT IT READS IS OF BULK AT MOST 1048576: true; the input reads as it did. -/
def scriptPairsUptoRow : OpenClaim := { program := "ytfbpdidnlbffhaa", sum := "5b23a3704c2f9b548f3dba54d4690885f6518702644bb2036c94f7c3bdb6968e", func := "mergelens/mergelenslaw08.ScriptPairs", spec := "scriptPairs", unfollowed := true, recurses := true, apart := false, narrowed := true }
def ScriptPairsUptoSaid : Prop := scriptPairsUptoRow.holds Try.pinned (OpenSpec.upto scriptPairsSpec)

/-- 'mergelenslaw08.ScriptDetermined', WHERE WHAT IT READS IS OF BULK AT MOST 1048576: true; the input reads as it did. -/
def scriptDeterminedUptoRow : OpenClaim := { program := "ytfbpdidnlbffhaa", sum := "5b23a3704c2f9b548f3dba54d4690885f6518702644bb2036c94f7c3bdb6968e", func := "mergelens/mergelenslaw08.ScriptDetermined", spec := "scriptDetermined", unfollowed := true, recurses := true, apart := false, narrowed := true }
def ScriptDeterminedUptoSaid : Prop := scriptDeterminedUptoRow.holds Try.pinned (OpenSpec.upto scriptDeterminedSpec)

/-- 'mergelenslaw08.ScriptComposes', WHERE WHAT IT READS IS OF BULK AT MOST 1048576: true; the input reads as it did. -/
def scriptComposesUptoRow : OpenClaim := { program := "ytfbpdidnlbffhaa", sum := "5b23a3704c2f9b548f3dba54d4690885f6518702644bb2036c94f7c3bdb6968e", func := "mergelens/mergelenslaw08.ScriptComposes", spec := "scriptComposes", unfollowed := true, recurses := true, apart := false, narrowed := true }
def ScriptComposesUptoSaid : Prop := scriptComposesUptoRow.holds Try.pinned (OpenSpec.upto scriptComposesSpec)

/-- 'mergelenslaw08.ScriptAlgebra', WHERE WHAT IT READS IS OF BULK AT MOST 1048576: true; the input reads as it did. -/
def scriptAlgebraUptoRow : OpenClaim := { program := "ytfbpdidnlbffhaa", sum := "5b23a3704c2f9b548f3dba54d4690885f6518702644bb2036c94f7c3bdb6968e", func := "mergelens/mergelenslaw08.ScriptAlgebra", spec := "scriptAlgebra", unfollowed := true, recurses := true, apart := false, narrowed := true }
def ScriptAlgebraUptoSaid : Prop := scriptAlgebraUptoRow.holds Try.pinned (OpenSpec.upto scriptAlgebraSpec)

/-- 'mergelenslaw08.ScriptFits', WHERE WHAT IT READS IS OF BULK AT MOST 1048576: true; the input reads as it did. -/
def scriptFitsUptoRow : OpenClaim := { program := "ytfbpdidnlbffhaa", sum := "5b23a3704c2f9b548f3dba54d4690885f6518702644bb2036c94f7c3bdb6968e", func := "mergelens/mergelenslaw08.ScriptFits", spec := "scriptFits", unfollowed := true, recurses := true, apart := false, narrowed := true }
def ScriptFitsUptoSaid : Prop := scriptFitsUptoRow.holds Try.pinned (OpenSpec.upto scriptFitsSpec)

end Rows
end Go.Proofs.Ytfbpdidnlbffhaa
