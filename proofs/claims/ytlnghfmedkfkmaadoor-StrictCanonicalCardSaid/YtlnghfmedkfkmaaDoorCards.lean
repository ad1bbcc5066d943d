/-
  DERIVED. GIVEN WITH THE SEED: THE CARDS: each row of YtlnghfmedkfkmaaDoorRows.lean that lists a variable, with what it lists TIED to the program's text (the seventh form; the later family's looks); each row that meets fmt, with fmt's text TOLD by the authors' own Lean function (tested against real Go, not proved from fmt's source: count such statements apart). THE CARD IS WHAT COUNTS. Prove the row's statement (the work); the ties are given (YtlnghfmedkfkmaaDoorTie.lean); close each card by the builder's one call (the guide's Derived/Test/ToyasCard.lean, 'card_holds'). Laid BY PROGRAM, IN A SANDBOX (cutbox-door.mjs). By AI agents, Wed Nov 11 2026. No macro, syntax, notation, axiom, sorry.
-/
import Derived.Test.YtlnghfmedkfkmaaDoorRows
import GoSem.ClaimSeven
namespace Go.Proofs.YtlnghfmedkfkmaaDoor
namespace Rows

/-- THE TIED CARD OF 'mergelenslaw13.StrictCanonical'. -/
def strictCanonicalCard : Claim7 := { stood := { row := strictCanonicalRow, standIns := [], harness := (true, "e3eca810aba4bae1e78f582a2fc11c7e9d3bf1e88fcf34a6955aef1aaa2183cf"), looks := false }, kinds := [], alts := [], laidByText := true, laidKinds := [.data, .data, .data, .data, .pinned], laidTests := true, laidLooks := .later }
def StrictCanonicalCardSaid : Prop := Claim7.holds Tryd.pinned (.plain (OpenSpec.ofChange strictCanonicalSpec)) strictCanonicalCard

/-- THE SECOND FORM's CARD OF 'mergelenslaw13.StrictCanonical'. -/
def strictCanonicalUptoCard : Claim7 := { stood := { row := strictCanonicalUptoRow, standIns := [], harness := (true, "e3eca810aba4bae1e78f582a2fc11c7e9d3bf1e88fcf34a6955aef1aaa2183cf"), looks := false }, kinds := [], alts := [], laidByText := true, laidKinds := [.data, .data, .data, .data, .pinned], laidTests := true, laidLooks := .later }
def StrictCanonicalUptoCardSaid : Prop := Claim7.holds Tryd.pinned (.plain (OpenSpec.upto strictCanonicalSpec)) strictCanonicalUptoCard
end Rows
end Go.Proofs.YtlnghfmedkfkmaaDoor
