/-
  DERIVED. GIVEN WITH THE SEED: THE CARDS: each row of YtnmallpimbpagaaGreatDoorRows.lean that lists a variable, with what it lists TIED to the program's text (the seventh form; the later family's looks); each row that meets fmt, with fmt's text TOLD by the authors' own Lean function (tested against real Go, not proved from fmt's source: count such statements apart). THE CARD IS WHAT COUNTS. Prove the row's statement (the work); the ties are given (YtnmallpimbpagaaGreatDoorTie.lean); close each card by the builder's one call (the guide's Derived/Test/ToyasCard.lean, 'card_holds'). Laid BY PROGRAM, IN A SANDBOX (cutbox-door.mjs). By AI agents, Wed Nov 11 2026. No macro, syntax, notation, axiom, sorry.
-/
import Derived.Test.YtnmallpimbpagaaGreatDoorRows
import GoSem.ClaimSeven
namespace Go.Proofs.YtnmallpimbpagaaGreatDoor
namespace Rows

/-- THE TIED CARD OF 'shalelaw6.EncodeMakes'. -/
def encodeMakesCard : Claim7 := { stood := { row := encodeMakesRow, standIns := [], harness := (true, "1e772f04f0f03ea966c2a60311de42db6e1acf25d37b115359f5cd466dc3f47c"), looks := true }, kinds := [], alts := [], laidByText := true, laidKinds := [.sentinel, .sentinel, .sentinel, .sentinel, .sentinel, .sentinel, .sentinel, .sentinel, .sentinel, .sentinel, .sentinel, .sentinel, .sentinel, .sentinel, .sentinel, .sentinel, .sentinel, .sentinel, .sentinel], laidTests := true, laidLooks := .later }
def EncodeMakesCardSaid : Prop := Claim7.holds Tryz.pinned (.plain (OpenSpec.ofChange encodeMakesSpec)) encodeMakesCard

/-- THE SECOND FORM's CARD OF 'shalelaw6.EncodeMakes'. -/
def encodeMakesUptoCard : Claim7 := { stood := { row := encodeMakesUptoRow, standIns := [], harness := (true, "1e772f04f0f03ea966c2a60311de42db6e1acf25d37b115359f5cd466dc3f47c"), looks := true }, kinds := [], alts := [], laidByText := true, laidKinds := [.sentinel, .sentinel, .sentinel, .sentinel, .sentinel, .sentinel, .sentinel, .sentinel, .sentinel, .sentinel, .sentinel, .sentinel, .sentinel, .sentinel, .sentinel, .sentinel, .sentinel, .sentinel, .sentinel], laidTests := true, laidLooks := .later }
def EncodeMakesUptoCardSaid : Prop := Claim7.holds Tryz.pinned (.plain (OpenSpec.upto encodeMakesSpec)) encodeMakesUptoCard
end Rows
end Go.Proofs.YtnmallpimbpagaaGreatDoor
