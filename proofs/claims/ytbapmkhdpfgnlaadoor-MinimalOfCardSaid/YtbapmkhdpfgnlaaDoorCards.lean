/-
  DERIVED. GIVEN WITH THE SEED: THE CARDS: each row of YtbapmkhdpfgnlaaDoorRows.lean that lists a variable, with what it lists TIED to the program's text (the seventh form; the later family's looks); each row that meets fmt, with fmt's text TOLD by the authors' own Lean function (tested against real Go, not proved from fmt's source: count such statements apart). THE CARD IS WHAT COUNTS. Prove the row's statement (the work); the ties are given (YtbapmkhdpfgnlaaDoorTie.lean); close each card by the builder's one call (the guide's Derived/Test/ToyasCard.lean, 'card_holds'). Laid BY PROGRAM, IN A SANDBOX (cutbox-door.mjs). By AI agents, Wed Nov 11 2026. No macro, syntax, notation, axiom, sorry.
-/
import Derived.Test.YtbapmkhdpfgnlaaDoorRows
import GoSem.ClaimSeven
namespace Go.Proofs.YtbapmkhdpfgnlaaDoor
namespace Rows

/-- THE TIED CARD OF 'shalelaw5.MinimalCosets'. -/
def minimalCosetsCard : Claim7 := { stood := { row := minimalCosetsRow, standIns := [], harness := (true, "447b15f85a4094ebf7f8457a8f509fa91ea12b3d6514b91506cce6486bc7b5da"), looks := true }, kinds := [], alts := [], laidByText := true, laidKinds := [.sentinel, .sentinel, .sentinel, .sentinel], laidTests := true, laidLooks := .later }
def MinimalCosetsCardSaid : Prop := Claim7.holds Tryd.pinned (.plain (OpenSpec.ofChange minimalCosetsSpec)) minimalCosetsCard

/-- THE TIED CARD OF 'shalelaw5.MinimalOf'. -/
def minimalOfCard : Claim7 := { stood := { row := minimalOfRow, standIns := [], harness := (true, "447b15f85a4094ebf7f8457a8f509fa91ea12b3d6514b91506cce6486bc7b5da"), looks := true }, kinds := [], alts := [], laidByText := true, laidKinds := [.sentinel, .sentinel, .sentinel, .sentinel], laidTests := true, laidLooks := .later }
def MinimalOfCardSaid : Prop := Claim7.holds Tryd.pinned (.plain (OpenSpec.ofChange minimalOfSpec)) minimalOfCard

/-- THE TIED CARD OF 'shalelaw5.MinimalGenerators'. -/
def minimalGeneratorsCard : Claim7 := { stood := { row := minimalGeneratorsRow, standIns := [], harness := (true, "447b15f85a4094ebf7f8457a8f509fa91ea12b3d6514b91506cce6486bc7b5da"), looks := true }, kinds := [], alts := [], laidByText := true, laidKinds := [.sentinel, .sentinel, .sentinel, .sentinel, .sentinel, .sentinel, .sentinel, .sentinel, .sentinel, .sentinel, .sentinel, .sentinel, .sentinel, .sentinel, .sentinel, .sentinel, .sentinel, .sentinel, .sentinel], laidTests := true, laidLooks := .later }
def MinimalGeneratorsCardSaid : Prop := Claim7.holds Tryd.pinned (.plain (OpenSpec.ofChange minimalGeneratorsSpec)) minimalGeneratorsCard

/-- THE TIED CARD OF 'shalelaw5.MinimalDivides'. -/
def minimalDividesCard : Claim7 := { stood := { row := minimalDividesRow, standIns := [], harness := (true, "447b15f85a4094ebf7f8457a8f509fa91ea12b3d6514b91506cce6486bc7b5da"), looks := true }, kinds := [], alts := [], laidByText := true, laidKinds := [.sentinel, .sentinel, .sentinel, .sentinel, .sentinel], laidTests := true, laidLooks := .later }
def MinimalDividesCardSaid : Prop := Claim7.holds Tryd.pinned (.plain (OpenSpec.ofChange minimalDividesSpec)) minimalDividesCard

/-- THE TIED CARD OF 'shalelaw5.MinimalZeros'. -/
def minimalZerosCard : Claim7 := { stood := { row := minimalZerosRow, standIns := [], harness := (true, "447b15f85a4094ebf7f8457a8f509fa91ea12b3d6514b91506cce6486bc7b5da"), looks := true }, kinds := [], alts := [], laidByText := true, laidKinds := [.sentinel, .sentinel, .sentinel, .sentinel, .sentinel], laidTests := true, laidLooks := .later }
def MinimalZerosCardSaid : Prop := Claim7.holds Tryd.pinned (.plain (OpenSpec.ofChange minimalZerosSpec)) minimalZerosCard

/-- THE TIED CARD OF 'shalelaw5.MinimalWhole'. -/
def minimalWholeCard : Claim7 := { stood := { row := minimalWholeRow, standIns := [], harness := (true, "447b15f85a4094ebf7f8457a8f509fa91ea12b3d6514b91506cce6486bc7b5da"), looks := true }, kinds := [], alts := [], laidByText := true, laidKinds := [.sentinel, .sentinel, .sentinel, .sentinel], laidTests := true, laidLooks := .later }
def MinimalWholeCardSaid : Prop := Claim7.holds Tryd.pinned (.plain (OpenSpec.ofChange minimalWholeSpec)) minimalWholeCard

/-- THE SECOND FORM's CARD OF 'shalelaw5.MinimalCosets'. -/
def minimalCosetsUptoCard : Claim7 := { stood := { row := minimalCosetsUptoRow, standIns := [], harness := (true, "447b15f85a4094ebf7f8457a8f509fa91ea12b3d6514b91506cce6486bc7b5da"), looks := true }, kinds := [], alts := [], laidByText := true, laidKinds := [.sentinel, .sentinel, .sentinel, .sentinel], laidTests := true, laidLooks := .later }
def MinimalCosetsUptoCardSaid : Prop := Claim7.holds Tryd.pinned (.plain (OpenSpec.upto minimalCosetsSpec)) minimalCosetsUptoCard

/-- THE SECOND FORM's CARD OF 'shalelaw5.MinimalOf'. -/
def minimalOfUptoCard : Claim7 := { stood := { row := minimalOfUptoRow, standIns := [], harness := (true, "447b15f85a4094ebf7f8457a8f509fa91ea12b3d6514b91506cce6486bc7b5da"), looks := true }, kinds := [], alts := [], laidByText := true, laidKinds := [.sentinel, .sentinel, .sentinel, .sentinel], laidTests := true, laidLooks := .later }
def MinimalOfUptoCardSaid : Prop := Claim7.holds Tryd.pinned (.plain (OpenSpec.upto minimalOfSpec)) minimalOfUptoCard

/-- THE SECOND FORM's CARD OF 'shalelaw5.MinimalGenerators'. -/
def minimalGeneratorsUptoCard : Claim7 := { stood := { row := minimalGeneratorsUptoRow, standIns := [], harness := (true, "447b15f85a4094ebf7f8457a8f509fa91ea12b3d6514b91506cce6486bc7b5da"), looks := true }, kinds := [], alts := [], laidByText := true, laidKinds := [.sentinel, .sentinel, .sentinel, .sentinel, .sentinel, .sentinel, .sentinel, .sentinel, .sentinel, .sentinel, .sentinel, .sentinel, .sentinel, .sentinel, .sentinel, .sentinel, .sentinel, .sentinel, .sentinel], laidTests := true, laidLooks := .later }
def MinimalGeneratorsUptoCardSaid : Prop := Claim7.holds Tryd.pinned (.plain (OpenSpec.upto minimalGeneratorsSpec)) minimalGeneratorsUptoCard

/-- THE SECOND FORM's CARD OF 'shalelaw5.MinimalDivides'. -/
def minimalDividesUptoCard : Claim7 := { stood := { row := minimalDividesUptoRow, standIns := [], harness := (true, "447b15f85a4094ebf7f8457a8f509fa91ea12b3d6514b91506cce6486bc7b5da"), looks := true }, kinds := [], alts := [], laidByText := true, laidKinds := [.sentinel, .sentinel, .sentinel, .sentinel, .sentinel], laidTests := true, laidLooks := .later }
def MinimalDividesUptoCardSaid : Prop := Claim7.holds Tryd.pinned (.plain (OpenSpec.upto minimalDividesSpec)) minimalDividesUptoCard

/-- THE SECOND FORM's CARD OF 'shalelaw5.MinimalZeros'. -/
def minimalZerosUptoCard : Claim7 := { stood := { row := minimalZerosUptoRow, standIns := [], harness := (true, "447b15f85a4094ebf7f8457a8f509fa91ea12b3d6514b91506cce6486bc7b5da"), looks := true }, kinds := [], alts := [], laidByText := true, laidKinds := [.sentinel, .sentinel, .sentinel, .sentinel, .sentinel], laidTests := true, laidLooks := .later }
def MinimalZerosUptoCardSaid : Prop := Claim7.holds Tryd.pinned (.plain (OpenSpec.upto minimalZerosSpec)) minimalZerosUptoCard

/-- THE SECOND FORM's CARD OF 'shalelaw5.MinimalWhole'. -/
def minimalWholeUptoCard : Claim7 := { stood := { row := minimalWholeUptoRow, standIns := [], harness := (true, "447b15f85a4094ebf7f8457a8f509fa91ea12b3d6514b91506cce6486bc7b5da"), looks := true }, kinds := [], alts := [], laidByText := true, laidKinds := [.sentinel, .sentinel, .sentinel, .sentinel], laidTests := true, laidLooks := .later }
def MinimalWholeUptoCardSaid : Prop := Claim7.holds Tryd.pinned (.plain (OpenSpec.upto minimalWholeSpec)) minimalWholeUptoCard
end Rows
end Go.Proofs.YtbapmkhdpfgnlaaDoor
