/-
  No cell of these rows narrows 'for every input' (looked for: loops, veiled, ifaces, maps, wideKeys, modest, calm, conditions, laid).
  DERIVED. THE GIVEN ROWS OF THIS SEAT. 5 by the template 'for every input the law returns true; each argument reads behind the call as it read before'; 0 by the template 'total and deterministic' (their statements: YtfhbffplbjmgoaaTotals.lean).
  GIVEN WITH THE SEED: the statements are not yours to turn. If you find one false, say at which input.
  Laid BY PROGRAM, IN A SANDBOX (cutbox-rows.mjs): the forced cells as the released guide's own fill.sh prints them over the translation 6438359f9e6946bd… (all of the seat's roots in one cut). By AI agents, Wed Nov 11 2026. No macro, syntax, notation, axiom, sorry.
-/
import Derived.Test.YtfhbffplbjmgoaaChecked
import GoSem.Claim
import GoSem.ClaimJoined
import GoSem.ClaimMapViews
import Derived.JoinedTies
import Derived.KernelRfl
namespace Go.Proofs.Ytfhbffplbjmgoaa
/- THE CELL 'sum', in the pinned program and in every row, IS THE sha256 OF THE DUMP (.gsa) THAT YtfhbffplbjmgoaaProg.lean LOADS. Nothing in Lean hashes anything: it is a label: what it is worth is what the hold of that sum in a sandbox is worth. -/
noncomputable def Try.pinned : Pinned := { name := "ytfhbffplbjmgoaa", sum := "6438359f9e6946bd30d0df1e1b7173aab8481bc5218249b2a5ecd8989f21decc", checked := Try.checked }
namespace Rows
def none {H : Type} : Left H := { results := [], args := [] }

/-- 'mergelenslaw02.TextSplits': WHATEVER THE INPUT: true; the input reads as it did. -/
def textSplitsSpec : ChangeSpec := { name := "textSplits", fn := fun _ => fun
  | [d1, d2] => { results := [.lit (.bool true)], args := [d1, d2] }
  | _ => none }
def textSplitsRow : OpenClaim := { program := "ytfhbffplbjmgoaa", sum := "6438359f9e6946bd30d0df1e1b7173aab8481bc5218249b2a5ecd8989f21decc", func := "mergelens/mergelenslaw02.TextSplits", spec := "textSplits", inPlace := ["internal/bytealg.CountString", "internal/bytealg.IndexByteString", "internal/bytealg.IndexString", "internal/abi.NoEscape", "internal/bytealg.MakeNoZero"], unfollowed := true, recurses := true, named := ["internal/bytealg.MaxLen"], apart := false }
def TextSplitsSaid : Prop := textSplitsRow.holds Try.pinned (OpenSpec.ofChange textSplitsSpec)

/-- ITS FALSE NEIGHBOUR: 'it returns false'. Refute it at one input. -/
def textSplitsWrong : ChangeSpec := { name := "textSplits", fn := fun _ => fun
  | [d1, d2] => { results := [.lit (.bool false)], args := [d1, d2] }
  | _ => none }
def TextSplitsWrongFalsely : Prop := textSplitsRow.holds Try.pinned (OpenSpec.ofChange textSplitsWrong)

/-- 'mergelenslaw02.TextJoins': WHATEVER THE INPUT: true; the input reads as it did. -/
def textJoinsSpec : ChangeSpec := { name := "textJoins", fn := fun _ => fun
  | [d1, d2] => { results := [.lit (.bool true)], args := [d1, d2] }
  | _ => none }
def textJoinsRow : OpenClaim := { program := "ytfhbffplbjmgoaa", sum := "6438359f9e6946bd30d0df1e1b7173aab8481bc5218249b2a5ecd8989f21decc", func := "mergelens/mergelenslaw02.TextJoins", spec := "textJoins", inPlace := ["internal/bytealg.CountString", "internal/bytealg.IndexByteString", "internal/bytealg.IndexString", "internal/abi.NoEscape", "internal/bytealg.MakeNoZero"], unfollowed := true, recurses := true, named := ["internal/bytealg.MaxLen"], apart := false }
def TextJoinsSaid : Prop := textJoinsRow.holds Try.pinned (OpenSpec.ofChange textJoinsSpec)

/-- ITS FALSE NEIGHBOUR: 'it returns false'. Refute it at one input. -/
def textJoinsWrong : ChangeSpec := { name := "textJoins", fn := fun _ => fun
  | [d1, d2] => { results := [.lit (.bool false)], args := [d1, d2] }
  | _ => none }
def TextJoinsWrongFalsely : Prop := textJoinsRow.holds Try.pinned (OpenSpec.ofChange textJoinsWrong)

/-- 'mergelenslaw02.TextRoundTrip': WHATEVER THE INPUT: true; the input reads as it did. -/
def textRoundTripSpec : ChangeSpec := { name := "textRoundTrip", fn := fun _ => fun
  | [d1, d2] => { results := [.lit (.bool true)], args := [d1, d2] }
  | _ => none }
def textRoundTripRow : OpenClaim := { program := "ytfhbffplbjmgoaa", sum := "6438359f9e6946bd30d0df1e1b7173aab8481bc5218249b2a5ecd8989f21decc", func := "mergelens/mergelenslaw02.TextRoundTrip", spec := "textRoundTrip", inPlace := ["internal/bytealg.CountString", "internal/bytealg.IndexByteString", "internal/bytealg.IndexString", "internal/abi.NoEscape", "internal/bytealg.MakeNoZero"], unfollowed := true, recurses := true, named := ["internal/bytealg.MaxLen"], apart := false }
def TextRoundTripSaid : Prop := textRoundTripRow.holds Try.pinned (OpenSpec.ofChange textRoundTripSpec)

/-- ITS FALSE NEIGHBOUR: 'it returns false'. Refute it at one input. -/
def textRoundTripWrong : ChangeSpec := { name := "textRoundTrip", fn := fun _ => fun
  | [d1, d2] => { results := [.lit (.bool false)], args := [d1, d2] }
  | _ => none }
def TextRoundTripWrongFalsely : Prop := textRoundTripRow.holds Try.pinned (OpenSpec.ofChange textRoundTripWrong)

/-- 'mergelenslaw02.TextLimits': WHATEVER THE INPUT: true; the input reads as it did. -/
def textLimitsSpec : ChangeSpec := { name := "textLimits", fn := fun _ => fun
  | [d1, d2] => { results := [.lit (.bool true)], args := [d1, d2] }
  | _ => none }
def textLimitsRow : OpenClaim := { program := "ytfhbffplbjmgoaa", sum := "6438359f9e6946bd30d0df1e1b7173aab8481bc5218249b2a5ecd8989f21decc", func := "mergelens/mergelenslaw02.TextLimits", spec := "textLimits", inPlace := ["internal/bytealg.CountString", "internal/bytealg.IndexByteString", "internal/bytealg.IndexString", "internal/abi.NoEscape", "internal/bytealg.MakeNoZero"], unfollowed := true, recurses := true, named := ["internal/bytealg.MaxLen"], apart := false }
def TextLimitsSaid : Prop := textLimitsRow.holds Try.pinned (OpenSpec.ofChange textLimitsSpec)

/-- ITS FALSE NEIGHBOUR: 'it returns false'. Refute it at one input. -/
def textLimitsWrong : ChangeSpec := { name := "textLimits", fn := fun _ => fun
  | [d1, d2] => { results := [.lit (.bool false)], args := [d1, d2] }
  | _ => none }
def TextLimitsWrongFalsely : Prop := textLimitsRow.holds Try.pinned (OpenSpec.ofChange textLimitsWrong)

/-- 'mergelenslaw02.TextConcatenates': WHATEVER THE INPUT: true; the input reads as it did. -/
def textConcatenatesSpec : ChangeSpec := { name := "textConcatenates", fn := fun _ => fun
  | [d1, d2] => { results := [.lit (.bool true)], args := [d1, d2] }
  | _ => none }
def textConcatenatesRow : OpenClaim := { program := "ytfhbffplbjmgoaa", sum := "6438359f9e6946bd30d0df1e1b7173aab8481bc5218249b2a5ecd8989f21decc", func := "mergelens/mergelenslaw02.TextConcatenates", spec := "textConcatenates", inPlace := ["internal/bytealg.CountString", "internal/bytealg.IndexByteString", "internal/bytealg.IndexString", "internal/abi.NoEscape", "internal/bytealg.MakeNoZero"], unfollowed := true, recurses := true, named := ["internal/bytealg.MaxLen"], apart := false }
def TextConcatenatesSaid : Prop := textConcatenatesRow.holds Try.pinned (OpenSpec.ofChange textConcatenatesSpec)

/-- ITS FALSE NEIGHBOUR: 'it returns false'. Refute it at one input. -/
def textConcatenatesWrong : ChangeSpec := { name := "textConcatenates", fn := fun _ => fun
  | [d1, d2] => { results := [.lit (.bool false)], args := [d1, d2] }
  | _ => none }
def TextConcatenatesWrongFalsely : Prop := textConcatenatesRow.holds Try.pinned (OpenSpec.ofChange textConcatenatesWrong)

/- THE SECOND FORM. 'bulk': how many values and letters a reading holds, each counted each time it is reached (what is shared counts as often as it is met; a slice's spare places count too). A statement '..UptoSaid' is the law's where the arguments, and the package variables that the reading takes, are together of bulk at most 1048576: NARROWER than '..Said'. Prove '..Said' where nothing that the law and all that it calls make is longer than what came in: it says more and counts as full. Else prove '..UptoSaid'. A law counts once. -/
mutual
def uptoBulk {H : Type} : DataW H → Nat
  | .lit (.string bytes) => bytes.length + 1
  | .lit _ => 1
  | .nil => 1
  | .ptr d => uptoBulk d + 1
  | .slice elems spare => uptoBulkAll elems + uptoBulkAll spare + 1
  | .agg parts => uptoBulkAll parts + 1
  | .iface _ d => uptoBulk d + 1
  | .map entries => uptoBulkEntries entries + 1
  | .held _ => 1
def uptoBulkAll {H : Type} : List (DataW H) → Nat
  | [] => 0
  | d :: r => uptoBulk d + uptoBulkAll r
def uptoBulkEntries {H : Type} : List (Lit × DataW H) → Nat
  | [] => 0
  | x :: r => uptoBulkEntry x + uptoBulkEntries r
def uptoBulkEntry {H : Type} : Lit × DataW H → Nat
  | (.string bytes, d) => bytes.length + uptoBulk d + 1
  | (_, d) => uptoBulk d + 1
 end
def uptoSmall : (H : Type) → List (DataW H) → Bool := fun _ ds => decide (uptoBulkAll ds ≤ 1048576)
def OpenSpec.upto (s : _root_.Go.ChangeSpec) : _root_.Go.OpenSpec := { _root_.Go.OpenSpec.ofChange s with cond := some uptoSmall }

/-- 'mergelenslaw02.TextSplits', WHERE WHAT IT READS IS OF BULK AT MOST 1048576: true; the input reads as it did. -/
def textSplitsUptoRow : OpenClaim := { program := "ytfhbffplbjmgoaa", sum := "6438359f9e6946bd30d0df1e1b7173aab8481bc5218249b2a5ecd8989f21decc", func := "mergelens/mergelenslaw02.TextSplits", spec := "textSplits", inPlace := ["internal/bytealg.CountString", "internal/bytealg.IndexByteString", "internal/bytealg.IndexString", "internal/abi.NoEscape", "internal/bytealg.MakeNoZero"], unfollowed := true, recurses := true, named := ["internal/bytealg.MaxLen"], apart := false, narrowed := true }
def TextSplitsUptoSaid : Prop := textSplitsUptoRow.holds Try.pinned (OpenSpec.upto textSplitsSpec)

/-- 'mergelenslaw02.TextJoins', WHERE WHAT IT READS IS OF BULK AT MOST 1048576: true; the input reads as it did. -/
def textJoinsUptoRow : OpenClaim := { program := "ytfhbffplbjmgoaa", sum := "6438359f9e6946bd30d0df1e1b7173aab8481bc5218249b2a5ecd8989f21decc", func := "mergelens/mergelenslaw02.TextJoins", spec := "textJoins", inPlace := ["internal/bytealg.CountString", "internal/bytealg.IndexByteString", "internal/bytealg.IndexString", "internal/abi.NoEscape", "internal/bytealg.MakeNoZero"], unfollowed := true, recurses := true, named := ["internal/bytealg.MaxLen"], apart := false, narrowed := true }
def TextJoinsUptoSaid : Prop := textJoinsUptoRow.holds Try.pinned (OpenSpec.upto textJoinsSpec)

/-- 'mergelenslaw02.TextRoundTrip', WHERE WHAT IT READS IS OF BULK AT MOST 1048576: true; the input reads as it did. -/
def textRoundTripUptoRow : OpenClaim := { program := "ytfhbffplbjmgoaa", sum := "6438359f9e6946bd30d0df1e1b7173aab8481bc5218249b2a5ecd8989f21decc", func := "mergelens/mergelenslaw02.TextRoundTrip", spec := "textRoundTrip", inPlace := ["internal/bytealg.CountString", "internal/bytealg.IndexByteString", "internal/bytealg.IndexString", "internal/abi.NoEscape", "internal/bytealg.MakeNoZero"], unfollowed := true, recurses := true, named := ["internal/bytealg.MaxLen"], apart := false, narrowed := true }
def TextRoundTripUptoSaid : Prop := textRoundTripUptoRow.holds Try.pinned (OpenSpec.upto textRoundTripSpec)

/-- 'mergelenslaw02.TextLimits', WHERE WHAT IT READS IS OF BULK AT MOST 1048576: true; the input reads as it did. -/
def textLimitsUptoRow : OpenClaim := { program := "ytfhbffplbjmgoaa", sum := "6438359f9e6946bd30d0df1e1b7173aab8481bc5218249b2a5ecd8989f21decc", func := "mergelens/mergelenslaw02.TextLimits", spec := "textLimits", inPlace := ["internal/bytealg.CountString", "internal/bytealg.IndexByteString", "internal/bytealg.IndexString", "internal/abi.NoEscape", "internal/bytealg.MakeNoZero"], unfollowed := true, recurses := true, named := ["internal/bytealg.MaxLen"], apart := false, narrowed := true }
def TextLimitsUptoSaid : Prop := textLimitsUptoRow.holds Try.pinned (OpenSpec.upto textLimitsSpec)

/-- 'mergelenslaw02.TextConcatenates', WHERE WHAT IT READS IS OF BULK AT MOST 1048576: true; the input reads as it did. -/
def textConcatenatesUptoRow : OpenClaim := { program := "ytfhbffplbjmgoaa", sum := "6438359f9e6946bd30d0df1e1b7173aab8481bc5218249b2a5ecd8989f21decc", func := "mergelens/mergelenslaw02.TextConcatenates", spec := "textConcatenates", inPlace := ["internal/bytealg.CountString", "internal/bytealg.IndexByteString", "internal/bytealg.IndexString", "internal/abi.NoEscape", "internal/bytealg.MakeNoZero"], unfollowed := true, recurses := true, named := ["internal/bytealg.MaxLen"], apart := false, narrowed := true }
def TextConcatenatesUptoSaid : Prop := textConcatenatesUptoRow.holds Try.pinned (OpenSpec.upto textConcatenatesSpec)

end Rows
end Go.Proofs.Ytfhbffplbjmgoaa
