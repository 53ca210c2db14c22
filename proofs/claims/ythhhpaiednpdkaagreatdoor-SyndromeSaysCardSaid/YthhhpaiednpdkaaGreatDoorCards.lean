/-
  DERIVED. GIVEN WITH THE SEED: THE CARDS: each row of YthhhpaiednpdkaaGreatDoorRows.lean that lists a variable, with what it lists TIED to the program's text (the seventh form; the later family's looks); each row that meets fmt, with fmt's text TOLD by the authors' own Lean function (tested against real Go, not proved from fmt's source: count such statements apart). THE CARD IS WHAT COUNTS. Prove the row's statement (the work); the ties are given (YthhhpaiednpdkaaGreatDoorTie.lean); close each card by the builder's one call (the guide's Derived/Test/ToyasCard.lean, 'card_holds'). Laid BY PROGRAM, IN A SANDBOX (cutbox-door.mjs). By AI agents, Wed Nov 11 2026. No macro, syntax, notation, axiom, sorry.
-/
import Derived.Test.YthhhpaiednpdkaaGreatDoorRows
import GoSem.ClaimSeven
namespace Go.Proofs.YthhhpaiednpdkaaGreatDoor
namespace Rows

/-- THE TIED CARD OF 'shalelaw7.SyndromeSays'. -/
def syndromeSaysCard : Claim7 := { stood := { row := syndromeSaysRow, standIns := [], harness := (true, "9556a72fd3d4ed1ae42a756afda0adab9eb2dcf9b0dfe877f34ce0008cead4ba"), looks := true }, kinds := [], alts := [], laidByText := true, laidKinds := [.sentinel, .sentinel, .sentinel, .sentinel], laidTests := true, laidLooks := .later }
def SyndromeSaysCardSaid : Prop := Claim7.holds Tryz.pinned (.plain (OpenSpec.ofChange syndromeSaysSpec)) syndromeSaysCard

/-- THE SECOND FORM's CARD OF 'shalelaw7.SyndromeSays'. -/
def syndromeSaysUptoCard : Claim7 := { stood := { row := syndromeSaysUptoRow, standIns := [], harness := (true, "9556a72fd3d4ed1ae42a756afda0adab9eb2dcf9b0dfe877f34ce0008cead4ba"), looks := true }, kinds := [], alts := [], laidByText := true, laidKinds := [.sentinel, .sentinel, .sentinel, .sentinel], laidTests := true, laidLooks := .later }
def SyndromeSaysUptoCardSaid : Prop := Claim7.holds Tryz.pinned (.plain (OpenSpec.upto syndromeSaysSpec)) syndromeSaysUptoCard
end Rows
end Go.Proofs.YthhhpaiednpdkaaGreatDoor
