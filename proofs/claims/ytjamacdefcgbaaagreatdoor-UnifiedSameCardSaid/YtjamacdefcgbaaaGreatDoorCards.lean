/-
  DERIVED. GIVEN WITH THE SEED: THE CARDS: each row of YtjamacdefcgbaaaGreatDoorRows.lean that lists a variable, with what it lists TIED to the program's text (the seventh form; the later family's looks); each row that meets fmt, with fmt's text TOLD by the authors' own Lean function (tested against real Go, not proved from fmt's source: count such statements apart). THE CARD IS WHAT COUNTS. Prove the row's statement (the work); the ties are given (YtjamacdefcgbaaaGreatDoorTie.lean); close each card by the builder's one call (the guide's Derived/Test/ToyasCard.lean, 'card_holds'). Laid BY PROGRAM, IN A SANDBOX (cutbox-door.mjs). By AI agents, Wed Nov 11 2026. No macro, syntax, notation, axiom, sorry.
-/
import Derived.Test.YtjamacdefcgbaaaGreatDoorRows
import GoSem.ClaimSeven
namespace Go.Proofs.YtjamacdefcgbaaaGreatDoor
namespace Rows

/-- THE TIED CARD OF 'mergelenslaw12.UnifiedMakes'. -/
def unifiedMakesCard : Claim7 := { stood := { row := unifiedMakesRow, standIns := [], harness := (true, "7de258caad11954b339d86e53aaf96110c721e2bdf58e1f8f43156aca6836fc8"), looks := false }, kinds := [], alts := [], laidByText := true, laidKinds := [.data, .data, .data], laidTests := true, laidLooks := .later }
def UnifiedMakesCardSaid : Prop := Claim7.holds Tryz.pinned (.plain (OpenSpec.ofChange unifiedMakesSpec)) unifiedMakesCard

/-- THE TIED CARD OF 'mergelenslaw12.UnifiedChecks'. -/
def unifiedChecksCard : Claim7 := { stood := { row := unifiedChecksRow, standIns := [], harness := (true, "7de258caad11954b339d86e53aaf96110c721e2bdf58e1f8f43156aca6836fc8"), looks := false }, kinds := [], alts := [], laidByText := true, laidKinds := [.data, .data, .data], laidTests := true, laidLooks := .later }
def UnifiedChecksCardSaid : Prop := Claim7.holds Tryz.pinned (.plain (OpenSpec.ofChange unifiedChecksSpec)) unifiedChecksCard

/-- THE TIED CARD OF 'mergelenslaw12.UnifiedMinimal'. -/
def unifiedMinimalCard : Claim7 := { stood := { row := unifiedMinimalRow, standIns := [], harness := (true, "7de258caad11954b339d86e53aaf96110c721e2bdf58e1f8f43156aca6836fc8"), looks := false }, kinds := [], alts := [], laidByText := true, laidKinds := [.data, .data, .data], laidTests := true, laidLooks := .later }
def UnifiedMinimalCardSaid : Prop := Claim7.holds Tryz.pinned (.plain (OpenSpec.ofChange unifiedMinimalSpec)) unifiedMinimalCard

/-- THE TIED CARD OF 'mergelenslaw12.UnifiedContents'. -/
def unifiedContentsCard : Claim7 := { stood := { row := unifiedContentsRow, standIns := [], harness := (true, "7de258caad11954b339d86e53aaf96110c721e2bdf58e1f8f43156aca6836fc8"), looks := false }, kinds := [], alts := [], laidByText := true, laidKinds := [.data, .data, .data], laidTests := true, laidLooks := .later }
def UnifiedContentsCardSaid : Prop := Claim7.holds Tryz.pinned (.plain (OpenSpec.ofChange unifiedContentsSpec)) unifiedContentsCard

/-- THE TIED CARD OF 'mergelenslaw12.UnifiedSame'. -/
def unifiedSameCard : Claim7 := { stood := { row := unifiedSameRow, standIns := [], harness := (true, "7de258caad11954b339d86e53aaf96110c721e2bdf58e1f8f43156aca6836fc8"), looks := false }, kinds := [], alts := [], laidByText := true, laidKinds := [.data, .data, .data], laidTests := true, laidLooks := .later }
def UnifiedSameCardSaid : Prop := Claim7.holds Tryz.pinned (.plain (OpenSpec.ofChange unifiedSameSpec)) unifiedSameCard

/-- THE SECOND FORM's CARD OF 'mergelenslaw12.UnifiedMakes'. -/
def unifiedMakesUptoCard : Claim7 := { stood := { row := unifiedMakesUptoRow, standIns := [], harness := (true, "7de258caad11954b339d86e53aaf96110c721e2bdf58e1f8f43156aca6836fc8"), looks := false }, kinds := [], alts := [], laidByText := true, laidKinds := [.data, .data, .data], laidTests := true, laidLooks := .later }
def UnifiedMakesUptoCardSaid : Prop := Claim7.holds Tryz.pinned (.plain (OpenSpec.upto unifiedMakesSpec)) unifiedMakesUptoCard

/-- THE SECOND FORM's CARD OF 'mergelenslaw12.UnifiedChecks'. -/
def unifiedChecksUptoCard : Claim7 := { stood := { row := unifiedChecksUptoRow, standIns := [], harness := (true, "7de258caad11954b339d86e53aaf96110c721e2bdf58e1f8f43156aca6836fc8"), looks := false }, kinds := [], alts := [], laidByText := true, laidKinds := [.data, .data, .data], laidTests := true, laidLooks := .later }
def UnifiedChecksUptoCardSaid : Prop := Claim7.holds Tryz.pinned (.plain (OpenSpec.upto unifiedChecksSpec)) unifiedChecksUptoCard

/-- THE SECOND FORM's CARD OF 'mergelenslaw12.UnifiedMinimal'. -/
def unifiedMinimalUptoCard : Claim7 := { stood := { row := unifiedMinimalUptoRow, standIns := [], harness := (true, "7de258caad11954b339d86e53aaf96110c721e2bdf58e1f8f43156aca6836fc8"), looks := false }, kinds := [], alts := [], laidByText := true, laidKinds := [.data, .data, .data], laidTests := true, laidLooks := .later }
def UnifiedMinimalUptoCardSaid : Prop := Claim7.holds Tryz.pinned (.plain (OpenSpec.upto unifiedMinimalSpec)) unifiedMinimalUptoCard

/-- THE SECOND FORM's CARD OF 'mergelenslaw12.UnifiedContents'. -/
def unifiedContentsUptoCard : Claim7 := { stood := { row := unifiedContentsUptoRow, standIns := [], harness := (true, "7de258caad11954b339d86e53aaf96110c721e2bdf58e1f8f43156aca6836fc8"), looks := false }, kinds := [], alts := [], laidByText := true, laidKinds := [.data, .data, .data], laidTests := true, laidLooks := .later }
def UnifiedContentsUptoCardSaid : Prop := Claim7.holds Tryz.pinned (.plain (OpenSpec.upto unifiedContentsSpec)) unifiedContentsUptoCard

/-- THE SECOND FORM's CARD OF 'mergelenslaw12.UnifiedSame'. -/
def unifiedSameUptoCard : Claim7 := { stood := { row := unifiedSameUptoRow, standIns := [], harness := (true, "7de258caad11954b339d86e53aaf96110c721e2bdf58e1f8f43156aca6836fc8"), looks := false }, kinds := [], alts := [], laidByText := true, laidKinds := [.data, .data, .data], laidTests := true, laidLooks := .later }
def UnifiedSameUptoCardSaid : Prop := Claim7.holds Tryz.pinned (.plain (OpenSpec.upto unifiedSameSpec)) unifiedSameUptoCard
end Rows
end Go.Proofs.YtjamacdefcgbaaaGreatDoor
