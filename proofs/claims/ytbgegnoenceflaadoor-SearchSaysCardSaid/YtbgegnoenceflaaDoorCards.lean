/-
  DERIVED. GIVEN WITH THE SEED: THE CARDS: each row of YtbgegnoenceflaaDoorRows.lean that lists a variable, with what it lists TIED to the program's text (the seventh form; the later family's looks); each row that meets fmt, with fmt's text TOLD by the authors' own Lean function (tested against real Go, not proved from fmt's source: count such statements apart). THE CARD IS WHAT COUNTS. Prove the row's statement (the work); the ties are given (YtbgegnoenceflaaDoorTie.lean); close each card by the builder's one call (the guide's Derived/Test/ToyasCard.lean, 'card_holds'). Laid BY PROGRAM, IN A SANDBOX (cutbox-door.mjs). By AI agents, Wed Nov 11 2026. No macro, syntax, notation, axiom, sorry.
-/
import Derived.Test.YtbgegnoenceflaaDoorRows
import GoSem.ClaimSeven
namespace Go.Proofs.YtbgegnoenceflaaDoor
namespace Rows

/-- THE TIED CARD OF 'shalelaw9.SearchSays'. -/
def searchSaysCard : Claim7 := { stood := { row := searchSaysRow, standIns := [], harness := (true, "e67d9d735c496109b3ad9f9060437433ea651150c9766fe04fbd6ee4e8ebde58"), looks := false }, kinds := [], alts := [], laidByText := true, laidKinds := [.sentinel, .sentinel], laidTests := true, laidLooks := .later }
def SearchSaysCardSaid : Prop := Claim7.holds Tryd.pinned (.plain (OpenSpec.ofChange searchSaysSpec)) searchSaysCard

/-- THE TIED CARD OF 'shalelaw9.SearchFinds'. -/
def searchFindsCard : Claim7 := { stood := { row := searchFindsRow, standIns := [], harness := (true, "e67d9d735c496109b3ad9f9060437433ea651150c9766fe04fbd6ee4e8ebde58"), looks := false }, kinds := [], alts := [], laidByText := true, laidKinds := [.sentinel, .sentinel, .sentinel], laidTests := true, laidLooks := .later }
def SearchFindsCardSaid : Prop := Claim7.holds Tryd.pinned (.plain (OpenSpec.ofChange searchFindsSpec)) searchFindsCard

/-- THE TIED CARD OF 'shalelaw9.SearchFew'. -/
def searchFewCard : Claim7 := { stood := { row := searchFewRow, standIns := [], harness := (true, "e67d9d735c496109b3ad9f9060437433ea651150c9766fe04fbd6ee4e8ebde58"), looks := false }, kinds := [], alts := [], laidByText := true, laidKinds := [.sentinel, .sentinel], laidTests := true, laidLooks := .later }
def SearchFewCardSaid : Prop := Claim7.holds Tryd.pinned (.plain (OpenSpec.ofChange searchFewSpec)) searchFewCard

/-- THE TIED CARD OF 'shalelaw9.SearchTurns'. -/
def searchTurnsCard : Claim7 := { stood := { row := searchTurnsRow, standIns := [], harness := (true, "e67d9d735c496109b3ad9f9060437433ea651150c9766fe04fbd6ee4e8ebde58"), looks := false }, kinds := [], alts := [], laidByText := true, laidKinds := [.sentinel, .sentinel], laidTests := true, laidLooks := .later }
def SearchTurnsCardSaid : Prop := Claim7.holds Tryd.pinned (.plain (OpenSpec.ofChange searchTurnsSpec)) searchTurnsCard

/-- THE SECOND FORM's CARD OF 'shalelaw9.SearchSays'. -/
def searchSaysUptoCard : Claim7 := { stood := { row := searchSaysUptoRow, standIns := [], harness := (true, "e67d9d735c496109b3ad9f9060437433ea651150c9766fe04fbd6ee4e8ebde58"), looks := false }, kinds := [], alts := [], laidByText := true, laidKinds := [.sentinel, .sentinel], laidTests := true, laidLooks := .later }
def SearchSaysUptoCardSaid : Prop := Claim7.holds Tryd.pinned (.plain (OpenSpec.upto searchSaysSpec)) searchSaysUptoCard

/-- THE SECOND FORM's CARD OF 'shalelaw9.SearchFinds'. -/
def searchFindsUptoCard : Claim7 := { stood := { row := searchFindsUptoRow, standIns := [], harness := (true, "e67d9d735c496109b3ad9f9060437433ea651150c9766fe04fbd6ee4e8ebde58"), looks := false }, kinds := [], alts := [], laidByText := true, laidKinds := [.sentinel, .sentinel, .sentinel], laidTests := true, laidLooks := .later }
def SearchFindsUptoCardSaid : Prop := Claim7.holds Tryd.pinned (.plain (OpenSpec.upto searchFindsSpec)) searchFindsUptoCard

/-- THE SECOND FORM's CARD OF 'shalelaw9.SearchFew'. -/
def searchFewUptoCard : Claim7 := { stood := { row := searchFewUptoRow, standIns := [], harness := (true, "e67d9d735c496109b3ad9f9060437433ea651150c9766fe04fbd6ee4e8ebde58"), looks := false }, kinds := [], alts := [], laidByText := true, laidKinds := [.sentinel, .sentinel], laidTests := true, laidLooks := .later }
def SearchFewUptoCardSaid : Prop := Claim7.holds Tryd.pinned (.plain (OpenSpec.upto searchFewSpec)) searchFewUptoCard

/-- THE SECOND FORM's CARD OF 'shalelaw9.SearchTurns'. -/
def searchTurnsUptoCard : Claim7 := { stood := { row := searchTurnsUptoRow, standIns := [], harness := (true, "e67d9d735c496109b3ad9f9060437433ea651150c9766fe04fbd6ee4e8ebde58"), looks := false }, kinds := [], alts := [], laidByText := true, laidKinds := [.sentinel, .sentinel], laidTests := true, laidLooks := .later }
def SearchTurnsUptoCardSaid : Prop := Claim7.holds Tryd.pinned (.plain (OpenSpec.upto searchTurnsSpec)) searchTurnsUptoCard
end Rows
end Go.Proofs.YtbgegnoenceflaaDoor
