/-
  DERIVED. GIVEN WITH THE SEED: THE CARDS: each row of YtgfaaaeechgjmaaDoorRows.lean that lists a variable, with what it lists TIED to the program's text (the seventh form; the later family's looks); each row that meets fmt, with fmt's text TOLD by the authors' own Lean function (tested against real Go, not proved from fmt's source: count such statements apart). THE CARD IS WHAT COUNTS. Prove the row's statement (the work); the ties are given (YtgfaaaeechgjmaaDoorTie.lean); close each card by the builder's one call (the guide's Derived/Test/ToyasCard.lean, 'card_holds'). Laid BY PROGRAM, IN A SANDBOX (cutbox-door.mjs). By AI agents, Wed Nov 11 2026. No macro, syntax, notation, axiom, sorry.
-/
import Derived.Test.YtgfaaaeechgjmaaDoorRows
import GoSem.ClaimSeven
namespace Go.Proofs.YtgfaaaeechgjmaaDoor
namespace Rows

/-- THE TIED CARD OF 'shalelaw4.PolySays'. -/
def polySaysCard : Claim7 := { stood := { row := polySaysRow, standIns := [], harness := (true, "08c2f691d938931a0c450ab4d8c50af1c1c52b23e5694e257723ee108cd0f5a9"), looks := true }, kinds := [], alts := [], laidByText := true, laidKinds := [.sentinel, .sentinel, .sentinel], laidTests := true, laidLooks := .later }
def PolySaysCardSaid : Prop := Claim7.holds Tryd.pinned (.plain (OpenSpec.ofChange polySaysSpec)) polySaysCard

/-- THE TIED CARD OF 'shalelaw4.PolyRoots'. -/
def polyRootsCard : Claim7 := { stood := { row := polyRootsRow, standIns := [], harness := (true, "08c2f691d938931a0c450ab4d8c50af1c1c52b23e5694e257723ee108cd0f5a9"), looks := true }, kinds := [], alts := [], laidByText := true, laidKinds := [.sentinel, .sentinel, .sentinel], laidTests := true, laidLooks := .later }
def PolyRootsCardSaid : Prop := Claim7.holds Tryd.pinned (.plain (OpenSpec.ofChange polyRootsSpec)) polyRootsCard

/-- THE TIED CARD OF 'shalelaw4.PolyRing'. -/
def polyRingCard : Claim7 := { stood := { row := polyRingRow, standIns := [], harness := (true, "08c2f691d938931a0c450ab4d8c50af1c1c52b23e5694e257723ee108cd0f5a9"), looks := true }, kinds := [], alts := [], laidByText := true, laidKinds := [.sentinel, .sentinel, .sentinel], laidTests := true, laidLooks := .later }
def PolyRingCardSaid : Prop := Claim7.holds Tryd.pinned (.plain (OpenSpec.ofChange polyRingSpec)) polyRingCard

/-- THE TIED CARD OF 'shalelaw4.PolyLong'. -/
def polyLongCard : Claim7 := { stood := { row := polyLongRow, standIns := [], harness := (true, "08c2f691d938931a0c450ab4d8c50af1c1c52b23e5694e257723ee108cd0f5a9"), looks := true }, kinds := [], alts := [], laidByText := true, laidKinds := [.sentinel, .sentinel, .sentinel], laidTests := true, laidLooks := .later }
def PolyLongCardSaid : Prop := Claim7.holds Tryd.pinned (.plain (OpenSpec.ofChange polyLongSpec)) polyLongCard

/-- THE TIED CARD OF 'shalelaw4.PolyGcds'. -/
def polyGcdsCard : Claim7 := { stood := { row := polyGcdsRow, standIns := [], harness := (true, "08c2f691d938931a0c450ab4d8c50af1c1c52b23e5694e257723ee108cd0f5a9"), looks := true }, kinds := [], alts := [], laidByText := true, laidKinds := [.sentinel, .sentinel, .sentinel], laidTests := true, laidLooks := .later }
def PolyGcdsCardSaid : Prop := Claim7.holds Tryd.pinned (.plain (OpenSpec.ofChange polyGcdsSpec)) polyGcdsCard

/-- THE TIED CARD OF 'shalelaw4.PolyOwn'. -/
def polyOwnCard : Claim7 := { stood := { row := polyOwnRow, standIns := [], harness := (true, "08c2f691d938931a0c450ab4d8c50af1c1c52b23e5694e257723ee108cd0f5a9"), looks := true }, kinds := [], alts := [], laidByText := true, laidKinds := [.sentinel, .sentinel, .sentinel], laidTests := true, laidLooks := .later }
def PolyOwnCardSaid : Prop := Claim7.holds Tryd.pinned (.plain (OpenSpec.ofChange polyOwnSpec)) polyOwnCard

/-- THE SECOND FORM's CARD OF 'shalelaw4.PolySays'. -/
def polySaysUptoCard : Claim7 := { stood := { row := polySaysUptoRow, standIns := [], harness := (true, "08c2f691d938931a0c450ab4d8c50af1c1c52b23e5694e257723ee108cd0f5a9"), looks := true }, kinds := [], alts := [], laidByText := true, laidKinds := [.sentinel, .sentinel, .sentinel], laidTests := true, laidLooks := .later }
def PolySaysUptoCardSaid : Prop := Claim7.holds Tryd.pinned (.plain (OpenSpec.upto polySaysSpec)) polySaysUptoCard

/-- THE SECOND FORM's CARD OF 'shalelaw4.PolyRoots'. -/
def polyRootsUptoCard : Claim7 := { stood := { row := polyRootsUptoRow, standIns := [], harness := (true, "08c2f691d938931a0c450ab4d8c50af1c1c52b23e5694e257723ee108cd0f5a9"), looks := true }, kinds := [], alts := [], laidByText := true, laidKinds := [.sentinel, .sentinel, .sentinel], laidTests := true, laidLooks := .later }
def PolyRootsUptoCardSaid : Prop := Claim7.holds Tryd.pinned (.plain (OpenSpec.upto polyRootsSpec)) polyRootsUptoCard

/-- THE SECOND FORM's CARD OF 'shalelaw4.PolyRing'. -/
def polyRingUptoCard : Claim7 := { stood := { row := polyRingUptoRow, standIns := [], harness := (true, "08c2f691d938931a0c450ab4d8c50af1c1c52b23e5694e257723ee108cd0f5a9"), looks := true }, kinds := [], alts := [], laidByText := true, laidKinds := [.sentinel, .sentinel, .sentinel], laidTests := true, laidLooks := .later }
def PolyRingUptoCardSaid : Prop := Claim7.holds Tryd.pinned (.plain (OpenSpec.upto polyRingSpec)) polyRingUptoCard

/-- THE SECOND FORM's CARD OF 'shalelaw4.PolyLong'. -/
def polyLongUptoCard : Claim7 := { stood := { row := polyLongUptoRow, standIns := [], harness := (true, "08c2f691d938931a0c450ab4d8c50af1c1c52b23e5694e257723ee108cd0f5a9"), looks := true }, kinds := [], alts := [], laidByText := true, laidKinds := [.sentinel, .sentinel, .sentinel], laidTests := true, laidLooks := .later }
def PolyLongUptoCardSaid : Prop := Claim7.holds Tryd.pinned (.plain (OpenSpec.upto polyLongSpec)) polyLongUptoCard

/-- THE SECOND FORM's CARD OF 'shalelaw4.PolyGcds'. -/
def polyGcdsUptoCard : Claim7 := { stood := { row := polyGcdsUptoRow, standIns := [], harness := (true, "08c2f691d938931a0c450ab4d8c50af1c1c52b23e5694e257723ee108cd0f5a9"), looks := true }, kinds := [], alts := [], laidByText := true, laidKinds := [.sentinel, .sentinel, .sentinel], laidTests := true, laidLooks := .later }
def PolyGcdsUptoCardSaid : Prop := Claim7.holds Tryd.pinned (.plain (OpenSpec.upto polyGcdsSpec)) polyGcdsUptoCard

/-- THE SECOND FORM's CARD OF 'shalelaw4.PolyOwn'. -/
def polyOwnUptoCard : Claim7 := { stood := { row := polyOwnUptoRow, standIns := [], harness := (true, "08c2f691d938931a0c450ab4d8c50af1c1c52b23e5694e257723ee108cd0f5a9"), looks := true }, kinds := [], alts := [], laidByText := true, laidKinds := [.sentinel, .sentinel, .sentinel], laidTests := true, laidLooks := .later }
def PolyOwnUptoCardSaid : Prop := Claim7.holds Tryd.pinned (.plain (OpenSpec.upto polyOwnSpec)) polyOwnUptoCard
end Rows
end Go.Proofs.YtgfaaaeechgjmaaDoor
