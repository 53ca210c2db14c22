/-
  DERIVED. GIVEN WITH THE SEED: THE CARDS: each row of YthhhpaiednpdkaaDoorRows.lean that lists a variable, with what it lists TIED to the program's text (the seventh form; the later family's looks); each row that meets fmt, with fmt's text TOLD by the authors' own Lean function (tested against real Go, not proved from fmt's source: count such statements apart). THE CARD IS WHAT COUNTS. Prove the row's statement (the work); the ties are given (YthhhpaiednpdkaaDoorTie.lean); close each card by the builder's one call (the guide's Derived/Test/ToyasCard.lean, 'card_holds'). Laid BY PROGRAM, IN A SANDBOX (cutbox-door.mjs). By AI agents, Wed Nov 11 2026. No macro, syntax, notation, axiom, sorry.
-/
import Derived.Test.YthhhpaiednpdkaaDoorRows
import GoSem.ClaimSeven
namespace Go.Proofs.YthhhpaiednpdkaaDoor
namespace Rows

/-- THE TIED CARD OF 'shalelaw7.SyndromeTells'. -/
def syndromeTellsCard : Claim7 := { stood := { row := syndromeTellsRow, standIns := [], harness := (true, "272862d01f57ecc524c2f8d58de76d1e73aa9d7dd64a43ef408d615cee72a585"), looks := true }, kinds := [], alts := [], laidByText := true, laidKinds := [.sentinel, .sentinel, .sentinel, .sentinel], laidTests := true, laidLooks := .later }
def SyndromeTellsCardSaid : Prop := Claim7.holds Tryd.pinned (.plain (OpenSpec.ofChange syndromeTellsSpec)) syndromeTellsCard

/-- THE TIED CARD OF 'shalelaw7.SyndromeApart'. -/
def syndromeApartCard : Claim7 := { stood := { row := syndromeApartRow, standIns := [], harness := (true, "272862d01f57ecc524c2f8d58de76d1e73aa9d7dd64a43ef408d615cee72a585"), looks := true }, kinds := [], alts := [], laidByText := true, laidKinds := [.sentinel, .sentinel, .sentinel, .sentinel], laidTests := true, laidLooks := .later }
def SyndromeApartCardSaid : Prop := Claim7.holds Tryd.pinned (.plain (OpenSpec.ofChange syndromeApartSpec)) syndromeApartCard

/-- THE TIED CARD OF 'shalelaw7.SyndromeAdds'. -/
def syndromeAddsCard : Claim7 := { stood := { row := syndromeAddsRow, standIns := [], harness := (true, "272862d01f57ecc524c2f8d58de76d1e73aa9d7dd64a43ef408d615cee72a585"), looks := true }, kinds := [], alts := [], laidByText := true, laidKinds := [.sentinel, .sentinel, .sentinel, .sentinel], laidTests := true, laidLooks := .later }
def SyndromeAddsCardSaid : Prop := Claim7.holds Tryd.pinned (.plain (OpenSpec.ofChange syndromeAddsSpec)) syndromeAddsCard

/-- THE SECOND FORM's CARD OF 'shalelaw7.SyndromeTells'. -/
def syndromeTellsUptoCard : Claim7 := { stood := { row := syndromeTellsUptoRow, standIns := [], harness := (true, "272862d01f57ecc524c2f8d58de76d1e73aa9d7dd64a43ef408d615cee72a585"), looks := true }, kinds := [], alts := [], laidByText := true, laidKinds := [.sentinel, .sentinel, .sentinel, .sentinel], laidTests := true, laidLooks := .later }
def SyndromeTellsUptoCardSaid : Prop := Claim7.holds Tryd.pinned (.plain (OpenSpec.upto syndromeTellsSpec)) syndromeTellsUptoCard

/-- THE SECOND FORM's CARD OF 'shalelaw7.SyndromeApart'. -/
def syndromeApartUptoCard : Claim7 := { stood := { row := syndromeApartUptoRow, standIns := [], harness := (true, "272862d01f57ecc524c2f8d58de76d1e73aa9d7dd64a43ef408d615cee72a585"), looks := true }, kinds := [], alts := [], laidByText := true, laidKinds := [.sentinel, .sentinel, .sentinel, .sentinel], laidTests := true, laidLooks := .later }
def SyndromeApartUptoCardSaid : Prop := Claim7.holds Tryd.pinned (.plain (OpenSpec.upto syndromeApartSpec)) syndromeApartUptoCard

/-- THE SECOND FORM's CARD OF 'shalelaw7.SyndromeAdds'. -/
def syndromeAddsUptoCard : Claim7 := { stood := { row := syndromeAddsUptoRow, standIns := [], harness := (true, "272862d01f57ecc524c2f8d58de76d1e73aa9d7dd64a43ef408d615cee72a585"), looks := true }, kinds := [], alts := [], laidByText := true, laidKinds := [.sentinel, .sentinel, .sentinel, .sentinel], laidTests := true, laidLooks := .later }
def SyndromeAddsUptoCardSaid : Prop := Claim7.holds Tryd.pinned (.plain (OpenSpec.upto syndromeAddsSpec)) syndromeAddsUptoCard
end Rows
end Go.Proofs.YthhhpaiednpdkaaDoor
