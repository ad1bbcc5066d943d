/-
  DERIVED. GIVEN WITH THE SEED: THE CARDS: each row of YtjecfmbecgpbmaaGreatDoorRows.lean that lists a variable, with what it lists TIED to the program's text (the seventh form; the later family's looks); each row that meets fmt, with fmt's text TOLD by the authors' own Lean function (tested against real Go, not proved from fmt's source: count such statements apart). THE CARD IS WHAT COUNTS. Prove the row's statement (the work); the ties are given (YtjecfmbecgpbmaaGreatDoorTie.lean); close each card by the builder's one call (the guide's Derived/Test/ToyasCard.lean, 'card_holds'). Laid BY PROGRAM, IN A SANDBOX (cutbox-door.mjs). By AI agents, Wed Nov 11 2026. No macro, syntax, notation, axiom, sorry.
-/
import Derived.Test.YtjecfmbecgpbmaaGreatDoorRows
import GoSem.ClaimSeven
namespace Go.Proofs.YtjecfmbecgpbmaaGreatDoor
namespace Rows

/-- THE TIED CARD OF 'mergelenslaw14.PatchApplies'. -/
def patchAppliesCard : Claim7 := { stood := { row := patchAppliesRow, standIns := [], harness := (true, "ea58506a3ef13f08a569766f473e97c0f13ea5687cffef2d8c731d1ab011a9e9"), looks := false }, kinds := [], alts := [], laidByText := true, laidKinds := [.data, .data, .data], laidTests := true, laidLooks := .later }
def PatchAppliesCardSaid : Prop := Claim7.holds Tryz.pinned (.plain (OpenSpec.ofChange patchAppliesSpec)) patchAppliesCard

/-- THE TIED CARD OF 'mergelenslaw14.PatchAny'. -/
def patchAnyCard : Claim7 := { stood := { row := patchAnyRow, standIns := [], harness := (true, "ea58506a3ef13f08a569766f473e97c0f13ea5687cffef2d8c731d1ab011a9e9"), looks := false }, kinds := [], alts := [], laidByText := true, laidKinds := [.data, .data, .data], laidTests := true, laidLooks := .later }
def PatchAnyCardSaid : Prop := Claim7.holds Tryz.pinned (.plain (OpenSpec.ofChange patchAnySpec)) patchAnyCard

/-- THE TIED CARD OF 'mergelenslaw14.PatchRestores'. -/
def patchRestoresCard : Claim7 := { stood := { row := patchRestoresRow, standIns := [], harness := (true, "ea58506a3ef13f08a569766f473e97c0f13ea5687cffef2d8c731d1ab011a9e9"), looks := false }, kinds := [], alts := [], laidByText := true, laidKinds := [.data, .data, .data], laidTests := true, laidLooks := .later }
def PatchRestoresCardSaid : Prop := Claim7.holds Tryz.pinned (.plain (OpenSpec.ofChange patchRestoresSpec)) patchRestoresCard

/-- THE TIED CARD OF 'mergelenslaw14.PatchMakes'. -/
def patchMakesCard : Claim7 := { stood := { row := patchMakesRow, standIns := [], harness := (true, "ea58506a3ef13f08a569766f473e97c0f13ea5687cffef2d8c731d1ab011a9e9"), looks := false }, kinds := [], alts := [], laidByText := true, laidKinds := [.data, .data, .data], laidTests := true, laidLooks := .later }
def PatchMakesCardSaid : Prop := Claim7.holds Tryz.pinned (.plain (OpenSpec.ofChange patchMakesSpec)) patchMakesCard

/-- THE TIED CARD OF 'mergelenslaw14.PatchWritten'. -/
def patchWrittenCard : Claim7 := { stood := { row := patchWrittenRow, standIns := [], harness := (true, "ea58506a3ef13f08a569766f473e97c0f13ea5687cffef2d8c731d1ab011a9e9"), looks := false }, kinds := [], alts := [], laidByText := true, laidKinds := [.data, .data, .data, .data, .pinned], laidTests := true, laidLooks := .later }
def PatchWrittenCardSaid : Prop := Claim7.holds Tryz.pinned (.plain (OpenSpec.ofChange patchWrittenSpec)) patchWrittenCard

/-- THE TIED CARD OF 'mergelenslaw14.PatchTwice'. -/
def patchTwiceCard : Claim7 := { stood := { row := patchTwiceRow, standIns := [], harness := (true, "ea58506a3ef13f08a569766f473e97c0f13ea5687cffef2d8c731d1ab011a9e9"), looks := false }, kinds := [], alts := [], laidByText := true, laidKinds := [.data, .data, .data], laidTests := true, laidLooks := .later }
def PatchTwiceCardSaid : Prop := Claim7.holds Tryz.pinned (.plain (OpenSpec.ofChange patchTwiceSpec)) patchTwiceCard

/-- THE TIED CARD OF 'mergelenstop.TopReverses'. -/
def topReversesCard : Claim7 := { stood := { row := topReversesRow, standIns := [], harness := (true, "ea58506a3ef13f08a569766f473e97c0f13ea5687cffef2d8c731d1ab011a9e9"), looks := false }, kinds := [], alts := [], laidByText := true, laidKinds := [.data, .data, .data, .data, .pinned], laidTests := true, laidLooks := .later }
def TopReversesCardSaid : Prop := Claim7.holds Tryz.pinned (.plain (OpenSpec.ofChange topReversesSpec)) topReversesCard

/-- THE TIED CARD OF 'mergelenstop.TopChains'. -/
def topChainsCard : Claim7 := { stood := { row := topChainsRow, standIns := [], harness := (true, "ea58506a3ef13f08a569766f473e97c0f13ea5687cffef2d8c731d1ab011a9e9"), looks := false }, kinds := [], alts := [], laidByText := true, laidKinds := [.data, .data, .data, .data, .pinned], laidTests := true, laidLooks := .later }
def TopChainsCardSaid : Prop := Claim7.holds Tryz.pinned (.plain (OpenSpec.ofChange topChainsSpec)) topChainsCard

/-- THE SECOND FORM's CARD OF 'mergelenslaw14.PatchApplies'. -/
def patchAppliesUptoCard : Claim7 := { stood := { row := patchAppliesUptoRow, standIns := [], harness := (true, "ea58506a3ef13f08a569766f473e97c0f13ea5687cffef2d8c731d1ab011a9e9"), looks := false }, kinds := [], alts := [], laidByText := true, laidKinds := [.data, .data, .data], laidTests := true, laidLooks := .later }
def PatchAppliesUptoCardSaid : Prop := Claim7.holds Tryz.pinned (.plain (OpenSpec.upto patchAppliesSpec)) patchAppliesUptoCard

/-- THE SECOND FORM's CARD OF 'mergelenslaw14.PatchAny'. -/
def patchAnyUptoCard : Claim7 := { stood := { row := patchAnyUptoRow, standIns := [], harness := (true, "ea58506a3ef13f08a569766f473e97c0f13ea5687cffef2d8c731d1ab011a9e9"), looks := false }, kinds := [], alts := [], laidByText := true, laidKinds := [.data, .data, .data], laidTests := true, laidLooks := .later }
def PatchAnyUptoCardSaid : Prop := Claim7.holds Tryz.pinned (.plain (OpenSpec.upto patchAnySpec)) patchAnyUptoCard

/-- THE SECOND FORM's CARD OF 'mergelenslaw14.PatchRestores'. -/
def patchRestoresUptoCard : Claim7 := { stood := { row := patchRestoresUptoRow, standIns := [], harness := (true, "ea58506a3ef13f08a569766f473e97c0f13ea5687cffef2d8c731d1ab011a9e9"), looks := false }, kinds := [], alts := [], laidByText := true, laidKinds := [.data, .data, .data], laidTests := true, laidLooks := .later }
def PatchRestoresUptoCardSaid : Prop := Claim7.holds Tryz.pinned (.plain (OpenSpec.upto patchRestoresSpec)) patchRestoresUptoCard

/-- THE SECOND FORM's CARD OF 'mergelenslaw14.PatchMakes'. -/
def patchMakesUptoCard : Claim7 := { stood := { row := patchMakesUptoRow, standIns := [], harness := (true, "ea58506a3ef13f08a569766f473e97c0f13ea5687cffef2d8c731d1ab011a9e9"), looks := false }, kinds := [], alts := [], laidByText := true, laidKinds := [.data, .data, .data], laidTests := true, laidLooks := .later }
def PatchMakesUptoCardSaid : Prop := Claim7.holds Tryz.pinned (.plain (OpenSpec.upto patchMakesSpec)) patchMakesUptoCard

/-- THE SECOND FORM's CARD OF 'mergelenslaw14.PatchWritten'. -/
def patchWrittenUptoCard : Claim7 := { stood := { row := patchWrittenUptoRow, standIns := [], harness := (true, "ea58506a3ef13f08a569766f473e97c0f13ea5687cffef2d8c731d1ab011a9e9"), looks := false }, kinds := [], alts := [], laidByText := true, laidKinds := [.data, .data, .data, .data, .pinned], laidTests := true, laidLooks := .later }
def PatchWrittenUptoCardSaid : Prop := Claim7.holds Tryz.pinned (.plain (OpenSpec.upto patchWrittenSpec)) patchWrittenUptoCard

/-- THE SECOND FORM's CARD OF 'mergelenslaw14.PatchTwice'. -/
def patchTwiceUptoCard : Claim7 := { stood := { row := patchTwiceUptoRow, standIns := [], harness := (true, "ea58506a3ef13f08a569766f473e97c0f13ea5687cffef2d8c731d1ab011a9e9"), looks := false }, kinds := [], alts := [], laidByText := true, laidKinds := [.data, .data, .data], laidTests := true, laidLooks := .later }
def PatchTwiceUptoCardSaid : Prop := Claim7.holds Tryz.pinned (.plain (OpenSpec.upto patchTwiceSpec)) patchTwiceUptoCard

/-- THE SECOND FORM's CARD OF 'mergelenstop.TopReverses'. -/
def topReversesUptoCard : Claim7 := { stood := { row := topReversesUptoRow, standIns := [], harness := (true, "ea58506a3ef13f08a569766f473e97c0f13ea5687cffef2d8c731d1ab011a9e9"), looks := false }, kinds := [], alts := [], laidByText := true, laidKinds := [.data, .data, .data, .data, .pinned], laidTests := true, laidLooks := .later }
def TopReversesUptoCardSaid : Prop := Claim7.holds Tryz.pinned (.plain (OpenSpec.upto topReversesSpec)) topReversesUptoCard

/-- THE SECOND FORM's CARD OF 'mergelenstop.TopChains'. -/
def topChainsUptoCard : Claim7 := { stood := { row := topChainsUptoRow, standIns := [], harness := (true, "ea58506a3ef13f08a569766f473e97c0f13ea5687cffef2d8c731d1ab011a9e9"), looks := false }, kinds := [], alts := [], laidByText := true, laidKinds := [.data, .data, .data, .data, .pinned], laidTests := true, laidLooks := .later }
def TopChainsUptoCardSaid : Prop := Claim7.holds Tryz.pinned (.plain (OpenSpec.upto topChainsSpec)) topChainsUptoCard
end Rows
end Go.Proofs.YtjecfmbecgpbmaaGreatDoor
