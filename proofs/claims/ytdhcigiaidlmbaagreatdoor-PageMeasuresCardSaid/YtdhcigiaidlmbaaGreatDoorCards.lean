/-
  DERIVED. GIVEN WITH THE SEED: THE CARDS: each row of YtdhcigiaidlmbaaGreatDoorRows.lean that lists a variable, with what it lists TIED to the program's text (the seventh form; the later family's looks); each row that meets fmt, with fmt's text TOLD by the authors' own Lean function (tested against real Go, not proved from fmt's source: count such statements apart). THE CARD IS WHAT COUNTS. Prove the row's statement (the work); the ties are given (YtdhcigiaidlmbaaGreatDoorTie.lean); close each card by the builder's one call (the guide's Derived/Test/ToyasCard.lean, 'card_holds'). Laid BY PROGRAM, IN A SANDBOX (cutbox-door.mjs). By AI agents, Wed Nov 11 2026. No macro, syntax, notation, axiom, sorry.
-/
import Derived.Test.YtdhcigiaidlmbaaGreatDoorRows
import GoSem.ClaimSeven
namespace Go.Proofs.YtdhcigiaidlmbaaGreatDoor
namespace Rows

/-- THE TIED CARD OF 'shalelaw13.PageMeasures'. -/
def pageMeasuresCard : Claim7 := { stood := { row := pageMeasuresRow, standIns := [], harness := (true, "e00b9a97707e6d478126677cc87582ff7c771fb49cae49d4fd5d2027905c76a0"), looks := true }, kinds := [], alts := [], laidByText := true, laidKinds := [.data, .sentinel, .sentinel, .sentinel, .sentinel, .sentinel, .sentinel, .sentinel, .sentinel, .sentinel, .sentinel, .sentinel, .sentinel, .sentinel, .sentinel, .sentinel, .sentinel, .sentinel, .sentinel, .sentinel], laidTests := true, laidLooks := .later }
def PageMeasuresCardSaid : Prop := Claim7.holds Tryz.pinned (.plain (OpenSpec.ofChange pageMeasuresSpec)) pageMeasuresCard

/-- THE TIED CARD OF 'shalelaw13.PageSays'. -/
def pageSaysCard : Claim7 := { stood := { row := pageSaysRow, standIns := [], harness := (true, "e00b9a97707e6d478126677cc87582ff7c771fb49cae49d4fd5d2027905c76a0"), looks := true }, kinds := [], alts := [], laidByText := true, laidKinds := [.data, .sentinel, .sentinel, .sentinel, .sentinel, .sentinel, .sentinel, .sentinel, .sentinel, .sentinel, .sentinel, .sentinel, .sentinel, .sentinel, .sentinel, .sentinel, .sentinel, .sentinel, .sentinel, .sentinel], laidTests := true, laidLooks := .later }
def PageSaysCardSaid : Prop := Claim7.holds Tryz.pinned (.plain (OpenSpec.ofChange pageSaysSpec)) pageSaysCard

/-- THE TIED CARD OF 'shalelaw13.PageMends'. -/
def pageMendsCard : Claim7 := { stood := { row := pageMendsRow, standIns := [], harness := (true, "e00b9a97707e6d478126677cc87582ff7c771fb49cae49d4fd5d2027905c76a0"), looks := true }, kinds := [], alts := [], laidByText := true, laidKinds := [.data, .sentinel, .sentinel, .sentinel, .sentinel, .sentinel, .sentinel, .sentinel, .sentinel, .sentinel], laidTests := true, laidLooks := .later }
def PageMendsCardSaid : Prop := Claim7.holds Tryz.pinned (.plain (OpenSpec.ofChange pageMendsSpec)) pageMendsCard

/-- THE TIED CARD OF 'shalelaw13.PageErased'. -/
def pageErasedCard : Claim7 := { stood := { row := pageErasedRow, standIns := [], harness := (true, "e00b9a97707e6d478126677cc87582ff7c771fb49cae49d4fd5d2027905c76a0"), looks := true }, kinds := [], alts := [], laidByText := true, laidKinds := [.data, .sentinel, .sentinel, .sentinel, .sentinel, .sentinel, .sentinel, .sentinel, .sentinel, .sentinel], laidTests := true, laidLooks := .later }
def PageErasedCardSaid : Prop := Claim7.holds Tryz.pinned (.plain (OpenSpec.ofChange pageErasedSpec)) pageErasedCard

/-- THE TIED CARD OF 'shalelaw13.PageElsewhere'. -/
def pageElsewhereCard : Claim7 := { stood := { row := pageElsewhereRow, standIns := [], harness := (true, "e00b9a97707e6d478126677cc87582ff7c771fb49cae49d4fd5d2027905c76a0"), looks := true }, kinds := [], alts := [], laidByText := true, laidKinds := [.data, .sentinel, .sentinel, .sentinel, .sentinel, .sentinel, .sentinel, .sentinel, .sentinel, .sentinel], laidTests := true, laidLooks := .later }
def PageElsewhereCardSaid : Prop := Claim7.holds Tryz.pinned (.plain (OpenSpec.ofChange pageElsewhereSpec)) pageElsewhereCard

/-- THE TIED CARD OF 'shalelaw13.PageFar'. -/
def pageFarCard : Claim7 := { stood := { row := pageFarRow, standIns := [], harness := (true, "e00b9a97707e6d478126677cc87582ff7c771fb49cae49d4fd5d2027905c76a0"), looks := true }, kinds := [], alts := [], laidByText := true, laidKinds := [.data, .sentinel, .sentinel, .sentinel, .sentinel, .sentinel, .sentinel, .sentinel, .sentinel, .sentinel], laidTests := true, laidLooks := .later }
def PageFarCardSaid : Prop := Claim7.holds Tryz.pinned (.plain (OpenSpec.ofChange pageFarSpec)) pageFarCard

/-- THE TIED CARD OF 'shalelaw13.PageOwn'. -/
def pageOwnCard : Claim7 := { stood := { row := pageOwnRow, standIns := [], harness := (true, "e00b9a97707e6d478126677cc87582ff7c771fb49cae49d4fd5d2027905c76a0"), looks := true }, kinds := [], alts := [], laidByText := true, laidKinds := [.data, .sentinel, .sentinel, .sentinel, .sentinel, .sentinel, .sentinel, .sentinel, .sentinel, .sentinel], laidTests := true, laidLooks := .later }
def PageOwnCardSaid : Prop := Claim7.holds Tryz.pinned (.plain (OpenSpec.ofChange pageOwnSpec)) pageOwnCard

/-- THE SECOND FORM's CARD OF 'shalelaw13.PageMeasures'. -/
def pageMeasuresUptoCard : Claim7 := { stood := { row := pageMeasuresUptoRow, standIns := [], harness := (true, "e00b9a97707e6d478126677cc87582ff7c771fb49cae49d4fd5d2027905c76a0"), looks := true }, kinds := [], alts := [], laidByText := true, laidKinds := [.data, .sentinel, .sentinel, .sentinel, .sentinel, .sentinel, .sentinel, .sentinel, .sentinel, .sentinel, .sentinel, .sentinel, .sentinel, .sentinel, .sentinel, .sentinel, .sentinel, .sentinel, .sentinel, .sentinel], laidTests := true, laidLooks := .later }
def PageMeasuresUptoCardSaid : Prop := Claim7.holds Tryz.pinned (.plain (OpenSpec.upto pageMeasuresSpec)) pageMeasuresUptoCard

/-- THE SECOND FORM's CARD OF 'shalelaw13.PageSays'. -/
def pageSaysUptoCard : Claim7 := { stood := { row := pageSaysUptoRow, standIns := [], harness := (true, "e00b9a97707e6d478126677cc87582ff7c771fb49cae49d4fd5d2027905c76a0"), looks := true }, kinds := [], alts := [], laidByText := true, laidKinds := [.data, .sentinel, .sentinel, .sentinel, .sentinel, .sentinel, .sentinel, .sentinel, .sentinel, .sentinel, .sentinel, .sentinel, .sentinel, .sentinel, .sentinel, .sentinel, .sentinel, .sentinel, .sentinel, .sentinel], laidTests := true, laidLooks := .later }
def PageSaysUptoCardSaid : Prop := Claim7.holds Tryz.pinned (.plain (OpenSpec.upto pageSaysSpec)) pageSaysUptoCard

/-- THE SECOND FORM's CARD OF 'shalelaw13.PageMends'. -/
def pageMendsUptoCard : Claim7 := { stood := { row := pageMendsUptoRow, standIns := [], harness := (true, "e00b9a97707e6d478126677cc87582ff7c771fb49cae49d4fd5d2027905c76a0"), looks := true }, kinds := [], alts := [], laidByText := true, laidKinds := [.data, .sentinel, .sentinel, .sentinel, .sentinel, .sentinel, .sentinel, .sentinel, .sentinel, .sentinel], laidTests := true, laidLooks := .later }
def PageMendsUptoCardSaid : Prop := Claim7.holds Tryz.pinned (.plain (OpenSpec.upto pageMendsSpec)) pageMendsUptoCard

/-- THE SECOND FORM's CARD OF 'shalelaw13.PageErased'. -/
def pageErasedUptoCard : Claim7 := { stood := { row := pageErasedUptoRow, standIns := [], harness := (true, "e00b9a97707e6d478126677cc87582ff7c771fb49cae49d4fd5d2027905c76a0"), looks := true }, kinds := [], alts := [], laidByText := true, laidKinds := [.data, .sentinel, .sentinel, .sentinel, .sentinel, .sentinel, .sentinel, .sentinel, .sentinel, .sentinel], laidTests := true, laidLooks := .later }
def PageErasedUptoCardSaid : Prop := Claim7.holds Tryz.pinned (.plain (OpenSpec.upto pageErasedSpec)) pageErasedUptoCard

/-- THE SECOND FORM's CARD OF 'shalelaw13.PageElsewhere'. -/
def pageElsewhereUptoCard : Claim7 := { stood := { row := pageElsewhereUptoRow, standIns := [], harness := (true, "e00b9a97707e6d478126677cc87582ff7c771fb49cae49d4fd5d2027905c76a0"), looks := true }, kinds := [], alts := [], laidByText := true, laidKinds := [.data, .sentinel, .sentinel, .sentinel, .sentinel, .sentinel, .sentinel, .sentinel, .sentinel, .sentinel], laidTests := true, laidLooks := .later }
def PageElsewhereUptoCardSaid : Prop := Claim7.holds Tryz.pinned (.plain (OpenSpec.upto pageElsewhereSpec)) pageElsewhereUptoCard

/-- THE SECOND FORM's CARD OF 'shalelaw13.PageFar'. -/
def pageFarUptoCard : Claim7 := { stood := { row := pageFarUptoRow, standIns := [], harness := (true, "e00b9a97707e6d478126677cc87582ff7c771fb49cae49d4fd5d2027905c76a0"), looks := true }, kinds := [], alts := [], laidByText := true, laidKinds := [.data, .sentinel, .sentinel, .sentinel, .sentinel, .sentinel, .sentinel, .sentinel, .sentinel, .sentinel], laidTests := true, laidLooks := .later }
def PageFarUptoCardSaid : Prop := Claim7.holds Tryz.pinned (.plain (OpenSpec.upto pageFarSpec)) pageFarUptoCard

/-- THE SECOND FORM's CARD OF 'shalelaw13.PageOwn'. -/
def pageOwnUptoCard : Claim7 := { stood := { row := pageOwnUptoRow, standIns := [], harness := (true, "e00b9a97707e6d478126677cc87582ff7c771fb49cae49d4fd5d2027905c76a0"), looks := true }, kinds := [], alts := [], laidByText := true, laidKinds := [.data, .sentinel, .sentinel, .sentinel, .sentinel, .sentinel, .sentinel, .sentinel, .sentinel, .sentinel], laidTests := true, laidLooks := .later }
def PageOwnUptoCardSaid : Prop := Claim7.holds Tryz.pinned (.plain (OpenSpec.upto pageOwnSpec)) pageOwnUptoCard
end Rows
end Go.Proofs.YtdhcigiaidlmbaaGreatDoor
