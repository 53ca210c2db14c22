/-
  DERIVED. GIVEN WITH THE SEED: THE CARDS: each row of YtnmallpimbpagaaDoorRows.lean that lists a variable, with what it lists TIED to the program's text (the seventh form; the later family's looks); each row that meets fmt, with fmt's text TOLD by the authors' own Lean function (tested against real Go, not proved from fmt's source: count such statements apart). THE CARD IS WHAT COUNTS. Prove the row's statement (the work); the ties are given (YtnmallpimbpagaaDoorTie.lean); close each card by the builder's one call (the guide's Derived/Test/ToyasCard.lean, 'card_holds'). Laid BY PROGRAM, IN A SANDBOX (cutbox-door.mjs). By AI agents, Wed Nov 11 2026. No macro, syntax, notation, axiom, sorry.
-/
import Derived.Test.YtnmallpimbpagaaDoorRows
import GoSem.ClaimSeven
namespace Go.Proofs.YtnmallpimbpagaaDoor
namespace Rows

/-- THE TIED CARD OF 'shalelaw6.EncodeSays'. -/
def encodeSaysCard : Claim7 := { stood := { row := encodeSaysRow, standIns := [], harness := (true, "78f7a70e69a08acdb3471fea880b23172c8cef728f0e56c71c59707348ae41a7"), looks := true }, kinds := [], alts := [], laidByText := true, laidKinds := [.sentinel, .sentinel, .sentinel, .sentinel], laidTests := true, laidLooks := .later }
def EncodeSaysCardSaid : Prop := Claim7.holds Tryd.pinned (.plain (OpenSpec.ofChange encodeSaysSpec)) encodeSaysCard

/-- THE TIED CARD OF 'shalelaw6.EncodeLinear'. -/
def encodeLinearCard : Claim7 := { stood := { row := encodeLinearRow, standIns := [], harness := (true, "78f7a70e69a08acdb3471fea880b23172c8cef728f0e56c71c59707348ae41a7"), looks := true }, kinds := [], alts := [], laidByText := true, laidKinds := [.sentinel, .sentinel, .sentinel, .sentinel], laidTests := true, laidLooks := .later }
def EncodeLinearCardSaid : Prop := Claim7.holds Tryd.pinned (.plain (OpenSpec.ofChange encodeLinearSpec)) encodeLinearCard

/-- THE TIED CARD OF 'shalelaw6.EncodeApart'. -/
def encodeApartCard : Claim7 := { stood := { row := encodeApartRow, standIns := [], harness := (true, "78f7a70e69a08acdb3471fea880b23172c8cef728f0e56c71c59707348ae41a7"), looks := true }, kinds := [], alts := [], laidByText := true, laidKinds := [.sentinel, .sentinel, .sentinel, .sentinel], laidTests := true, laidLooks := .later }
def EncodeApartCardSaid : Prop := Claim7.holds Tryd.pinned (.plain (OpenSpec.ofChange encodeApartSpec)) encodeApartCard

/-- THE TIED CARD OF 'shalelaw6.EncodeWide'. -/
def encodeWideCard : Claim7 := { stood := { row := encodeWideRow, standIns := [], harness := (true, "78f7a70e69a08acdb3471fea880b23172c8cef728f0e56c71c59707348ae41a7"), looks := true }, kinds := [], alts := [], laidByText := true, laidKinds := [.sentinel, .sentinel, .sentinel, .sentinel], laidTests := true, laidLooks := .later }
def EncodeWideCardSaid : Prop := Claim7.holds Tryd.pinned (.plain (OpenSpec.ofChange encodeWideSpec)) encodeWideCard

/-- THE TIED CARD OF 'shalelaw6.EncodeDivides'. -/
def encodeDividesCard : Claim7 := { stood := { row := encodeDividesRow, standIns := [], harness := (true, "78f7a70e69a08acdb3471fea880b23172c8cef728f0e56c71c59707348ae41a7"), looks := true }, kinds := [], alts := [], laidByText := true, laidKinds := [.sentinel, .sentinel, .sentinel, .sentinel, .sentinel], laidTests := true, laidLooks := .later }
def EncodeDividesCardSaid : Prop := Claim7.holds Tryd.pinned (.plain (OpenSpec.ofChange encodeDividesSpec)) encodeDividesCard

/-- THE TIED CARD OF 'shalelaw6.EncodeFlips'. -/
def encodeFlipsCard : Claim7 := { stood := { row := encodeFlipsRow, standIns := [], harness := (true, "78f7a70e69a08acdb3471fea880b23172c8cef728f0e56c71c59707348ae41a7"), looks := true }, kinds := [], alts := [], laidByText := true, laidKinds := [.sentinel, .sentinel, .sentinel, .sentinel], laidTests := true, laidLooks := .later }
def EncodeFlipsCardSaid : Prop := Claim7.holds Tryd.pinned (.plain (OpenSpec.ofChange encodeFlipsSpec)) encodeFlipsCard

/-- THE SECOND FORM's CARD OF 'shalelaw6.EncodeSays'. -/
def encodeSaysUptoCard : Claim7 := { stood := { row := encodeSaysUptoRow, standIns := [], harness := (true, "78f7a70e69a08acdb3471fea880b23172c8cef728f0e56c71c59707348ae41a7"), looks := true }, kinds := [], alts := [], laidByText := true, laidKinds := [.sentinel, .sentinel, .sentinel, .sentinel], laidTests := true, laidLooks := .later }
def EncodeSaysUptoCardSaid : Prop := Claim7.holds Tryd.pinned (.plain (OpenSpec.upto encodeSaysSpec)) encodeSaysUptoCard

/-- THE SECOND FORM's CARD OF 'shalelaw6.EncodeLinear'. -/
def encodeLinearUptoCard : Claim7 := { stood := { row := encodeLinearUptoRow, standIns := [], harness := (true, "78f7a70e69a08acdb3471fea880b23172c8cef728f0e56c71c59707348ae41a7"), looks := true }, kinds := [], alts := [], laidByText := true, laidKinds := [.sentinel, .sentinel, .sentinel, .sentinel], laidTests := true, laidLooks := .later }
def EncodeLinearUptoCardSaid : Prop := Claim7.holds Tryd.pinned (.plain (OpenSpec.upto encodeLinearSpec)) encodeLinearUptoCard

/-- THE SECOND FORM's CARD OF 'shalelaw6.EncodeApart'. -/
def encodeApartUptoCard : Claim7 := { stood := { row := encodeApartUptoRow, standIns := [], harness := (true, "78f7a70e69a08acdb3471fea880b23172c8cef728f0e56c71c59707348ae41a7"), looks := true }, kinds := [], alts := [], laidByText := true, laidKinds := [.sentinel, .sentinel, .sentinel, .sentinel], laidTests := true, laidLooks := .later }
def EncodeApartUptoCardSaid : Prop := Claim7.holds Tryd.pinned (.plain (OpenSpec.upto encodeApartSpec)) encodeApartUptoCard

/-- THE SECOND FORM's CARD OF 'shalelaw6.EncodeWide'. -/
def encodeWideUptoCard : Claim7 := { stood := { row := encodeWideUptoRow, standIns := [], harness := (true, "78f7a70e69a08acdb3471fea880b23172c8cef728f0e56c71c59707348ae41a7"), looks := true }, kinds := [], alts := [], laidByText := true, laidKinds := [.sentinel, .sentinel, .sentinel, .sentinel], laidTests := true, laidLooks := .later }
def EncodeWideUptoCardSaid : Prop := Claim7.holds Tryd.pinned (.plain (OpenSpec.upto encodeWideSpec)) encodeWideUptoCard

/-- THE SECOND FORM's CARD OF 'shalelaw6.EncodeDivides'. -/
def encodeDividesUptoCard : Claim7 := { stood := { row := encodeDividesUptoRow, standIns := [], harness := (true, "78f7a70e69a08acdb3471fea880b23172c8cef728f0e56c71c59707348ae41a7"), looks := true }, kinds := [], alts := [], laidByText := true, laidKinds := [.sentinel, .sentinel, .sentinel, .sentinel, .sentinel], laidTests := true, laidLooks := .later }
def EncodeDividesUptoCardSaid : Prop := Claim7.holds Tryd.pinned (.plain (OpenSpec.upto encodeDividesSpec)) encodeDividesUptoCard

/-- THE SECOND FORM's CARD OF 'shalelaw6.EncodeFlips'. -/
def encodeFlipsUptoCard : Claim7 := { stood := { row := encodeFlipsUptoRow, standIns := [], harness := (true, "78f7a70e69a08acdb3471fea880b23172c8cef728f0e56c71c59707348ae41a7"), looks := true }, kinds := [], alts := [], laidByText := true, laidKinds := [.sentinel, .sentinel, .sentinel, .sentinel], laidTests := true, laidLooks := .later }
def EncodeFlipsUptoCardSaid : Prop := Claim7.holds Tryd.pinned (.plain (OpenSpec.upto encodeFlipsSpec)) encodeFlipsUptoCard
end Rows
end Go.Proofs.YtnmallpimbpagaaDoor
