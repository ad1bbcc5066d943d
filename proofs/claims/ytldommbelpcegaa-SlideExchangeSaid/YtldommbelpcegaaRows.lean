/-
  No cell of these rows narrows 'for every input' (looked for: loops, veiled, ifaces, maps, wideKeys, modest, calm, conditions, laid).
  DERIVED. THE GIVEN ROWS OF THIS SEAT. 6 by the template 'for every input the law returns true; each argument reads behind the call as it read before'; 0 by the template 'total and deterministic' (their statements: YtldommbelpcegaaTotals.lean).
  GIVEN WITH THE SEED: the statements are not yours to turn. If you find one false, say at which input.
  Laid BY PROGRAM, IN A SANDBOX (cutbox-rows.mjs): the forced cells as the released guide's own fill.sh prints them over the translation 95be1612b19e6677… (all of the seat's roots in one cut). By AI agents, Wed Nov 11 2026. No macro, syntax, notation, axiom, sorry.
-/
import Derived.Test.YtldommbelpcegaaChecked
import GoSem.Claim
import GoSem.ClaimJoined
import GoSem.ClaimMapViews
import Derived.JoinedTies
import Derived.KernelRfl
namespace Go.Proofs.Ytldommbelpcegaa
/- THE CELL 'sum', in the pinned program and in every row, IS THE sha256 OF THE DUMP (.gsa) THAT YtldommbelpcegaaProg.lean LOADS. Nothing in Lean hashes anything: it is a label: what it is worth is what the hold of that sum in a sandbox is worth. -/
noncomputable def Try.pinned : Pinned := { name := "ytldommbelpcegaa", sum := "95be1612b19e6677bba6145c7182fcd6f020c066298872ff38736559d8759ae7", checked := Try.checked }
namespace Rows
def none {H : Type} : Left H := { results := [], args := [] }

/-- 'mergelenslaw10.SlideMoves': WHATEVER THE INPUT: true; the input reads as it did. -/
def slideMovesSpec : ChangeSpec := { name := "slideMoves", fn := fun _ => fun
  | [d1, d2] => { results := [.lit (.bool true)], args := [d1, d2] }
  | _ => none }
def slideMovesRow : OpenClaim := { program := "ytldommbelpcegaa", sum := "95be1612b19e6677bba6145c7182fcd6f020c066298872ff38736559d8759ae7", func := "mergelens/mergelenslaw10.SlideMoves", spec := "slideMoves", unfollowed := true, recurses := true, apart := false }
def SlideMovesSaid : Prop := slideMovesRow.holds Try.pinned (OpenSpec.ofChange slideMovesSpec)

/-- ITS FALSE NEIGHBOUR: 'it returns false'. Refute it at one input. -/
def slideMovesWrong : ChangeSpec := { name := "slideMoves", fn := fun _ => fun
  | [d1, d2] => { results := [.lit (.bool false)], args := [d1, d2] }
  | _ => none }
def SlideMovesWrongFalsely : Prop := slideMovesRow.holds Try.pinned (OpenSpec.ofChange slideMovesWrong)

/-- 'mergelenslaw10.SlideRoom': WHATEVER THE INPUT: true; the input reads as it did. -/
def slideRoomSpec : ChangeSpec := { name := "slideRoom", fn := fun _ => fun
  | [d1, d2, d3] => { results := [.lit (.bool true)], args := [d1, d2, d3] }
  | _ => none }
def slideRoomRow : OpenClaim := { program := "ytldommbelpcegaa", sum := "95be1612b19e6677bba6145c7182fcd6f020c066298872ff38736559d8759ae7", func := "mergelens/mergelenslaw10.SlideRoom", spec := "slideRoom", unfollowed := true, recurses := true, apart := false }
def SlideRoomSaid : Prop := slideRoomRow.holds Try.pinned (OpenSpec.ofChange slideRoomSpec)

/-- ITS FALSE NEIGHBOUR: 'it returns false'. Refute it at one input. -/
def slideRoomWrong : ChangeSpec := { name := "slideRoom", fn := fun _ => fun
  | [d1, d2, d3] => { results := [.lit (.bool false)], args := [d1, d2, d3] }
  | _ => none }
def SlideRoomWrongFalsely : Prop := slideRoomRow.holds Try.pinned (OpenSpec.ofChange slideRoomWrong)

/-- 'mergelenslaw10.SlideRefuses': WHATEVER THE INPUT: true; the input reads as it did. -/
def slideRefusesSpec : ChangeSpec := { name := "slideRefuses", fn := fun _ => fun
  | [d1, d2, d3, d4] => { results := [.lit (.bool true)], args := [d1, d2, d3, d4] }
  | _ => none }
def slideRefusesRow : OpenClaim := { program := "ytldommbelpcegaa", sum := "95be1612b19e6677bba6145c7182fcd6f020c066298872ff38736559d8759ae7", func := "mergelens/mergelenslaw10.SlideRefuses", spec := "slideRefuses", unfollowed := true, recurses := true, apart := false }
def SlideRefusesSaid : Prop := slideRefusesRow.holds Try.pinned (OpenSpec.ofChange slideRefusesSpec)

/-- ITS FALSE NEIGHBOUR: 'it returns false'. Refute it at one input. -/
def slideRefusesWrong : ChangeSpec := { name := "slideRefuses", fn := fun _ => fun
  | [d1, d2, d3, d4] => { results := [.lit (.bool false)], args := [d1, d2, d3, d4] }
  | _ => none }
def SlideRefusesWrongFalsely : Prop := slideRefusesRow.holds Try.pinned (OpenSpec.ofChange slideRefusesWrong)

/-- 'mergelenslaw10.SlideFits': WHATEVER THE INPUT: true; the input reads as it did. -/
def slideFitsSpec : ChangeSpec := { name := "slideFits", fn := fun _ => fun
  | [d1, d2] => { results := [.lit (.bool true)], args := [d1, d2] }
  | _ => none }
def slideFitsRow : OpenClaim := { program := "ytldommbelpcegaa", sum := "95be1612b19e6677bba6145c7182fcd6f020c066298872ff38736559d8759ae7", func := "mergelens/mergelenslaw10.SlideFits", spec := "slideFits", unfollowed := true, recurses := true, apart := false }
def SlideFitsSaid : Prop := slideFitsRow.holds Try.pinned (OpenSpec.ofChange slideFitsSpec)

/-- ITS FALSE NEIGHBOUR: 'it returns false'. Refute it at one input. -/
def slideFitsWrong : ChangeSpec := { name := "slideFits", fn := fun _ => fun
  | [d1, d2] => { results := [.lit (.bool false)], args := [d1, d2] }
  | _ => none }
def SlideFitsWrongFalsely : Prop := slideFitsRow.holds Try.pinned (OpenSpec.ofChange slideFitsWrong)

/-- 'mergelenslaw10.SlideMirror': WHATEVER THE INPUT: true; the input reads as it did. -/
def slideMirrorSpec : ChangeSpec := { name := "slideMirror", fn := fun _ => fun
  | [d1, d2] => { results := [.lit (.bool true)], args := [d1, d2] }
  | _ => none }
def slideMirrorRow : OpenClaim := { program := "ytldommbelpcegaa", sum := "95be1612b19e6677bba6145c7182fcd6f020c066298872ff38736559d8759ae7", func := "mergelens/mergelenslaw10.SlideMirror", spec := "slideMirror", unfollowed := true, recurses := true, apart := false }
def SlideMirrorSaid : Prop := slideMirrorRow.holds Try.pinned (OpenSpec.ofChange slideMirrorSpec)

/-- ITS FALSE NEIGHBOUR: 'it returns false'. Refute it at one input. -/
def slideMirrorWrong : ChangeSpec := { name := "slideMirror", fn := fun _ => fun
  | [d1, d2] => { results := [.lit (.bool false)], args := [d1, d2] }
  | _ => none }
def SlideMirrorWrongFalsely : Prop := slideMirrorRow.holds Try.pinned (OpenSpec.ofChange slideMirrorWrong)

/-- 'mergelenslaw10.SlideExchange': WHATEVER THE INPUT: true; the input reads as it did. -/
def slideExchangeSpec : ChangeSpec := { name := "slideExchange", fn := fun _ => fun
  | [d1, d2] => { results := [.lit (.bool true)], args := [d1, d2] }
  | _ => none }
def slideExchangeRow : OpenClaim := { program := "ytldommbelpcegaa", sum := "95be1612b19e6677bba6145c7182fcd6f020c066298872ff38736559d8759ae7", func := "mergelens/mergelenslaw10.SlideExchange", spec := "slideExchange", unfollowed := true, recurses := true, apart := false }
def SlideExchangeSaid : Prop := slideExchangeRow.holds Try.pinned (OpenSpec.ofChange slideExchangeSpec)

/-- ITS FALSE NEIGHBOUR: 'it returns false'. Refute it at one input. -/
def slideExchangeWrong : ChangeSpec := { name := "slideExchange", fn := fun _ => fun
  | [d1, d2] => { results := [.lit (.bool false)], args := [d1, d2] }
  | _ => none }
def SlideExchangeWrongFalsely : Prop := slideExchangeRow.holds Try.pinned (OpenSpec.ofChange slideExchangeWrong)

/- THE SECOND FORM. 'bulk': how many values and letters a reading holds, each counted each time it is reached (what is shared counts as often as it is met; a slice's spare places count too). A statement '..UptoSaid' is the law's where the arguments, and the package variables that the reading takes, are together of bulk at most 1048576: NARROWER than '..Said'. Prove '..Said' where nothing that the law and all that it calls make is longer than what came in: it says more and counts as full. Else prove '..UptoSaid'. A law counts once. -/
mutual
def uptoBulk {H : Type} : DataW H → Nat
  | .lit (.string bytes) => bytes.length + 1
  | .lit _ => 1
  | .nil => 1
  | .ptr d => uptoBulk d + 1
  | .slice elems spare => uptoBulkAll elems + uptoBulkAll spare + 1
  | .agg parts => uptoBulkAll parts + 1
  | .iface _ d => uptoBulk d + 1
  | .map entries => uptoBulkEntries entries + 1
  | .held _ => 1
def uptoBulkAll {H : Type} : List (DataW H) → Nat
  | [] => 0
  | d :: r => uptoBulk d + uptoBulkAll r
def uptoBulkEntries {H : Type} : List (Lit × DataW H) → Nat
  | [] => 0
  | x :: r => uptoBulkEntry x + uptoBulkEntries r
def uptoBulkEntry {H : Type} : Lit × DataW H → Nat
  | (.string bytes, d) => bytes.length + uptoBulk d + 1
  | (_, d) => uptoBulk d + 1
 end
def uptoSmall : (H : Type) → List (DataW H) → Bool := fun _ ds => decide (uptoBulkAll ds ≤ 1048576)
def OpenSpec.upto (s : _root_.Go.ChangeSpec) : _root_.Go.OpenSpec := { _root_.Go.OpenSpec.ofChange s with cond := some uptoSmall }

/-- 'mergelenslaw10.SlideMoves', WHERE WHAT IT READS IS OF BULK AT MOST 1048576: true; the input reads as it did. -/
def slideMovesUptoRow : OpenClaim := { program := "ytldommbelpcegaa", sum := "95be1612b19e6677bba6145c7182fcd6f020c066298872ff38736559d8759ae7", func := "mergelens/mergelenslaw10.SlideMoves", spec := "slideMoves", unfollowed := true, recurses := true, apart := false, narrowed := true }
def SlideMovesUptoSaid : Prop := slideMovesUptoRow.holds Try.pinned (OpenSpec.upto slideMovesSpec)

/-- 'mergelenslaw10.SlideRoom', WHERE WHAT IT READS IS OF BULK AT MOST 1048576: true; the input reads as it did. -/
def slideRoomUptoRow : OpenClaim := { program := "ytldommbelpcegaa", sum := "95be1612b19e6677bba6145c7182fcd6f020c066298872ff38736559d8759ae7", func := "mergelens/mergelenslaw10.SlideRoom", spec := "slideRoom", unfollowed := true, recurses := true, apart := false, narrowed := true }
def SlideRoomUptoSaid : Prop := slideRoomUptoRow.holds Try.pinned (OpenSpec.upto slideRoomSpec)

/-- 'mergelenslaw10.SlideRefuses', WHERE WHAT IT READS IS OF BULK AT MOST 1048576: true; the input reads as it did. -/
def slideRefusesUptoRow : OpenClaim := { program := "ytldommbelpcegaa", sum := "95be1612b19e6677bba6145c7182fcd6f020c066298872ff38736559d8759ae7", func := "mergelens/mergelenslaw10.SlideRefuses", spec := "slideRefuses", unfollowed := true, recurses := true, apart := false, narrowed := true }
def SlideRefusesUptoSaid : Prop := slideRefusesUptoRow.holds Try.pinned (OpenSpec.upto slideRefusesSpec)

/-- 'mergelenslaw10.SlideFits', WHERE WHAT IT READS IS OF BULK AT MOST 1048576: true; the input reads as it did. -/
def slideFitsUptoRow : OpenClaim := { program := "ytldommbelpcegaa", sum := "95be1612b19e6677bba6145c7182fcd6f020c066298872ff38736559d8759ae7", func := "mergelens/mergelenslaw10.SlideFits", spec := "slideFits", unfollowed := true, recurses := true, apart := false, narrowed := true }
def SlideFitsUptoSaid : Prop := slideFitsUptoRow.holds Try.pinned (OpenSpec.upto slideFitsSpec)

/-- 'mergelenslaw10.SlideMirror', WHERE WHAT IT READS IS OF BULK AT MOST 1048576: true; the input reads as it did. -/
def slideMirrorUptoRow : OpenClaim := { program := "ytldommbelpcegaa", sum := "95be1612b19e6677bba6145c7182fcd6f020c066298872ff38736559d8759ae7", func := "mergelens/mergelenslaw10.SlideMirror", spec := "slideMirror", unfollowed := true, recurses := true, apart := false, narrowed := true }
def SlideMirrorUptoSaid : Prop := slideMirrorUptoRow.holds Try.pinned (OpenSpec.upto slideMirrorSpec)

/-- 'mergelenslaw10.SlideExchange', WHERE WHAT IT READS IS OF BULK AT MOST 1048576: true; the input reads as it did. -/
def slideExchangeUptoRow : OpenClaim := { program := "ytldommbelpcegaa", sum := "95be1612b19e6677bba6145c7182fcd6f020c066298872ff38736559d8759ae7", func := "mergelens/mergelenslaw10.SlideExchange", spec := "slideExchange", unfollowed := true, recurses := true, apart := false, narrowed := true }
def SlideExchangeUptoSaid : Prop := slideExchangeUptoRow.holds Try.pinned (OpenSpec.upto slideExchangeSpec)

end Rows
end Go.Proofs.Ytldommbelpcegaa
