/-
  DERIVED. GIVEN WITH THE SEED: THE CARDS: each row of YtjpaihnnljpaeaaDoorRows.lean that lists a variable, with what it lists TIED to the program's text (the seventh form; the later family's looks); each row that meets fmt, with fmt's text TOLD by the authors' own Lean function (tested against real Go, not proved from fmt's source: count such statements apart). THE CARD IS WHAT COUNTS. Prove the row's statement (the work); the ties are given (YtjpaihnnljpaeaaDoorTie.lean); close each card by the builder's one call (the guide's Derived/Test/ToyasCard.lean, 'card_holds'). Laid BY PROGRAM, IN A SANDBOX (cutbox-door.mjs). By AI agents, Wed Nov 11 2026. No macro, syntax, notation, axiom, sorry.
-/
import Derived.Test.YtjpaihnnljpaeaaDoorRows
import GoSem.ClaimSeven
namespace Go.Proofs.YtjpaihnnljpaeaaDoor
namespace Rows

/-- THE TIED CARD OF 'shalelaw8.LocateSquares'. -/
def locateSquaresCard : Claim7 := { stood := { row := locateSquaresRow, standIns := [], harness := (true, "9aeb5d8558bf369f4505d1b080228c3d9d7ea32cb29fa9001f226c6f67b7f173"), looks := true }, kinds := [], alts := [], laidByText := true, laidKinds := [.sentinel, .sentinel, .sentinel], laidTests := true, laidLooks := .later }
def LocateSquaresCardSaid : Prop := Claim7.holds Tryd.pinned (.plain (OpenSpec.ofChange locateSquaresSpec)) locateSquaresCard

/-- THE TIED CARD OF 'shalelaw8.LocateSays'. -/
def locateSaysCard : Claim7 := { stood := { row := locateSaysRow, standIns := [], harness := (true, "9aeb5d8558bf369f4505d1b080228c3d9d7ea32cb29fa9001f226c6f67b7f173"), looks := true }, kinds := [], alts := [], laidByText := true, laidKinds := [.sentinel, .sentinel, .sentinel], laidTests := true, laidLooks := .later }
def LocateSaysCardSaid : Prop := Claim7.holds Tryd.pinned (.plain (OpenSpec.ofChange locateSaysSpec)) locateSaysCard

/-- THE TIED CARD OF 'shalelaw8.LocateMakes'. -/
def locateMakesCard : Claim7 := { stood := { row := locateMakesRow, standIns := [], harness := (true, "9aeb5d8558bf369f4505d1b080228c3d9d7ea32cb29fa9001f226c6f67b7f173"), looks := true }, kinds := [], alts := [], laidByText := true, laidKinds := [.sentinel, .sentinel, .sentinel], laidTests := true, laidLooks := .later }
def LocateMakesCardSaid : Prop := Claim7.holds Tryd.pinned (.plain (OpenSpec.ofChange locateMakesSpec)) locateMakesCard

/-- THE TIED CARD OF 'shalelaw8.LocateFinds'. -/
def locateFindsCard : Claim7 := { stood := { row := locateFindsRow, standIns := [], harness := (true, "9aeb5d8558bf369f4505d1b080228c3d9d7ea32cb29fa9001f226c6f67b7f173"), looks := true }, kinds := [], alts := [], laidByText := true, laidKinds := [.sentinel, .sentinel, .sentinel], laidTests := true, laidLooks := .later }
def LocateFindsCardSaid : Prop := Claim7.holds Tryd.pinned (.plain (OpenSpec.ofChange locateFindsSpec)) locateFindsCard

/-- THE TIED CARD OF 'shalelaw8.LocateGrows'. -/
def locateGrowsCard : Claim7 := { stood := { row := locateGrowsRow, standIns := [], harness := (true, "9aeb5d8558bf369f4505d1b080228c3d9d7ea32cb29fa9001f226c6f67b7f173"), looks := true }, kinds := [], alts := [], laidByText := true, laidKinds := [.sentinel, .sentinel, .sentinel], laidTests := true, laidLooks := .later }
def LocateGrowsCardSaid : Prop := Claim7.holds Tryd.pinned (.plain (OpenSpec.ofChange locateGrowsSpec)) locateGrowsCard

/-- THE TIED CARD OF 'shalelaw8.LocateScales'. -/
def locateScalesCard : Claim7 := { stood := { row := locateScalesRow, standIns := [], harness := (true, "9aeb5d8558bf369f4505d1b080228c3d9d7ea32cb29fa9001f226c6f67b7f173"), looks := true }, kinds := [], alts := [], laidByText := true, laidKinds := [.sentinel, .sentinel, .sentinel], laidTests := true, laidLooks := .later }
def LocateScalesCardSaid : Prop := Claim7.holds Tryd.pinned (.plain (OpenSpec.ofChange locateScalesSpec)) locateScalesCard

/-- THE SECOND FORM's CARD OF 'shalelaw8.LocateSquares'. -/
def locateSquaresUptoCard : Claim7 := { stood := { row := locateSquaresUptoRow, standIns := [], harness := (true, "9aeb5d8558bf369f4505d1b080228c3d9d7ea32cb29fa9001f226c6f67b7f173"), looks := true }, kinds := [], alts := [], laidByText := true, laidKinds := [.sentinel, .sentinel, .sentinel], laidTests := true, laidLooks := .later }
def LocateSquaresUptoCardSaid : Prop := Claim7.holds Tryd.pinned (.plain (OpenSpec.upto locateSquaresSpec)) locateSquaresUptoCard

/-- THE SECOND FORM's CARD OF 'shalelaw8.LocateSays'. -/
def locateSaysUptoCard : Claim7 := { stood := { row := locateSaysUptoRow, standIns := [], harness := (true, "9aeb5d8558bf369f4505d1b080228c3d9d7ea32cb29fa9001f226c6f67b7f173"), looks := true }, kinds := [], alts := [], laidByText := true, laidKinds := [.sentinel, .sentinel, .sentinel], laidTests := true, laidLooks := .later }
def LocateSaysUptoCardSaid : Prop := Claim7.holds Tryd.pinned (.plain (OpenSpec.upto locateSaysSpec)) locateSaysUptoCard

/-- THE SECOND FORM's CARD OF 'shalelaw8.LocateMakes'. -/
def locateMakesUptoCard : Claim7 := { stood := { row := locateMakesUptoRow, standIns := [], harness := (true, "9aeb5d8558bf369f4505d1b080228c3d9d7ea32cb29fa9001f226c6f67b7f173"), looks := true }, kinds := [], alts := [], laidByText := true, laidKinds := [.sentinel, .sentinel, .sentinel], laidTests := true, laidLooks := .later }
def LocateMakesUptoCardSaid : Prop := Claim7.holds Tryd.pinned (.plain (OpenSpec.upto locateMakesSpec)) locateMakesUptoCard

/-- THE SECOND FORM's CARD OF 'shalelaw8.LocateFinds'. -/
def locateFindsUptoCard : Claim7 := { stood := { row := locateFindsUptoRow, standIns := [], harness := (true, "9aeb5d8558bf369f4505d1b080228c3d9d7ea32cb29fa9001f226c6f67b7f173"), looks := true }, kinds := [], alts := [], laidByText := true, laidKinds := [.sentinel, .sentinel, .sentinel], laidTests := true, laidLooks := .later }
def LocateFindsUptoCardSaid : Prop := Claim7.holds Tryd.pinned (.plain (OpenSpec.upto locateFindsSpec)) locateFindsUptoCard

/-- THE SECOND FORM's CARD OF 'shalelaw8.LocateGrows'. -/
def locateGrowsUptoCard : Claim7 := { stood := { row := locateGrowsUptoRow, standIns := [], harness := (true, "9aeb5d8558bf369f4505d1b080228c3d9d7ea32cb29fa9001f226c6f67b7f173"), looks := true }, kinds := [], alts := [], laidByText := true, laidKinds := [.sentinel, .sentinel, .sentinel], laidTests := true, laidLooks := .later }
def LocateGrowsUptoCardSaid : Prop := Claim7.holds Tryd.pinned (.plain (OpenSpec.upto locateGrowsSpec)) locateGrowsUptoCard

/-- THE SECOND FORM's CARD OF 'shalelaw8.LocateScales'. -/
def locateScalesUptoCard : Claim7 := { stood := { row := locateScalesUptoRow, standIns := [], harness := (true, "9aeb5d8558bf369f4505d1b080228c3d9d7ea32cb29fa9001f226c6f67b7f173"), looks := true }, kinds := [], alts := [], laidByText := true, laidKinds := [.sentinel, .sentinel, .sentinel], laidTests := true, laidLooks := .later }
def LocateScalesUptoCardSaid : Prop := Claim7.holds Tryd.pinned (.plain (OpenSpec.upto locateScalesSpec)) locateScalesUptoCard
end Rows
end Go.Proofs.YtjpaihnnljpaeaaDoor
