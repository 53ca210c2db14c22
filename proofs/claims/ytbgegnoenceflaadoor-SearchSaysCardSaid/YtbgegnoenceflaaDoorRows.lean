/-
  NARROWER THAN 'FOR EVERY INPUT', by the rows' own cells (each row's printed sentence says how): SearchSays: laid · SearchFinds: laid · SearchFew: laid · SearchTurns: laid.
  DERIVED. THE GIVEN ROWS OF THIS SEAT. 4 by the template 'for every input the law returns true; each argument reads behind the call as it read before'; 0 by the template 'total and deterministic' (their statements: YtbgegnoenceflaaDoorTotals.lean).
  GIVEN WITH THE SEED: the statements are not yours to turn. If you find one false, say at which input.
  Laid BY PROGRAM, IN A SANDBOX (cutbox-rows.mjs): the forced cells as the released guide's own fill.sh prints them over the translation c316eb7734f11e22… (all of the seat's roots in one cut). By AI agents, Wed Nov 11 2026. No macro, syntax, notation, axiom, sorry.
-/
import Derived.Test.YtbgegnoenceflaaDoorChecked
import GoSem.Claim
import GoSem.ClaimJoined
import GoSem.ClaimMapViews
import Derived.JoinedTies
import Derived.KernelRfl
namespace Go.Proofs.YtbgegnoenceflaaDoor
/- THE CELL 'sum', in the pinned program and in every row, IS THE sha256 OF THE DUMP (.gsa) THAT YtbgegnoenceflaaDoorProg.lean LOADS. Nothing in Lean hashes anything: it is a label: what it is worth is what the hold of that sum in a sandbox is worth. -/
noncomputable def Tryd.pinned : Pinned := { name := "ytbgegnoenceflaadoor", sum := "c316eb7734f11e22f58f7cd7fd79bf53727217e10a96216313cb2586ea12c764", checked := Tryd.checked }
namespace Rows
def none {H : Type} : Left H := { results := [], args := [] }

/- WHAT THE LISTED PACKAGE-LEVEL VARIABLES READ AS WHEN THE CALL BEGINS. Each datum BY PROGRAM (the guide's laid-datum.mjs) off the statement by which the dump's own 'gosem.cut.vars' lays the variable. In a bare row this is a premise. The card (YtbgegnoenceflaaDoorCards.lean) ties it to the program's text. -/
def laid_shale_api_ErrField {H : Type} : DataW H := .iface "*errors.errorString" (.ptr (.agg [.lit (.string [110, 111, 32, 115, 117, 99, 104, 32, 102, 105, 101, 108, 100])]))
def laid_shale_api_ErrZero {H : Type} : DataW H := .iface "*errors.errorString" (.ptr (.agg [.lit (.string [122, 101, 114, 111, 32, 104, 97, 115, 32, 110, 111, 110, 101])]))
def laid_shale_api_ErrLong {H : Type} : DataW H := .iface "*errors.errorString" (.ptr (.agg [.lit (.string [116, 111, 111, 32, 108, 111, 110, 103])]))

/-- 'shalelaw9.SearchSays': WHATEVER THE INPUT: true; the input reads as it did. -/
def searchSaysSpec : ChangeSpec := { name := "searchSays", fn := fun _ => fun
  | [d1, d2, d3, d4] => { results := [.lit (.bool true)], args := [d1, d2, d3, d4] }
  | _ => none }
def searchSaysRow : OpenClaim := { program := "ytbgegnoenceflaadoor", sum := "c316eb7734f11e22f58f7cd7fd79bf53727217e10a96216313cb2586ea12c764", func := "shale/shalelaw9.SearchSays", spec := "searchSays", unfollowed := true, recurses := true, named := ["shale/api.ErrField", "shale/api.ErrZero"], apart := false, laid := [("shale/api.ErrField", laid_shale_api_ErrField), ("shale/api.ErrZero", laid_shale_api_ErrZero)] }
def SearchSaysSaid : Prop := searchSaysRow.holds Tryd.pinned (OpenSpec.ofChange searchSaysSpec)

/-- ITS FALSE NEIGHBOUR: 'it returns false'. Refute it at one input. -/
def searchSaysWrong : ChangeSpec := { name := "searchSays", fn := fun _ => fun
  | [d1, d2, d3, d4] => { results := [.lit (.bool false)], args := [d1, d2, d3, d4] }
  | _ => none }
def SearchSaysWrongFalsely : Prop := searchSaysRow.holds Tryd.pinned (OpenSpec.ofChange searchSaysWrong)

/-- 'shalelaw9.SearchFinds': WHATEVER THE INPUT: true; the input reads as it did. -/
def searchFindsSpec : ChangeSpec := { name := "searchFinds", fn := fun _ => fun
  | [d1, d2, d3] => { results := [.lit (.bool true)], args := [d1, d2, d3] }
  | _ => none }
def searchFindsRow : OpenClaim := { program := "ytbgegnoenceflaadoor", sum := "c316eb7734f11e22f58f7cd7fd79bf53727217e10a96216313cb2586ea12c764", func := "shale/shalelaw9.SearchFinds", spec := "searchFinds", unfollowed := true, recurses := true, named := ["shale/api.ErrField", "shale/api.ErrZero", "shale/api.ErrLong"], apart := false, laid := [("shale/api.ErrField", laid_shale_api_ErrField), ("shale/api.ErrZero", laid_shale_api_ErrZero), ("shale/api.ErrLong", laid_shale_api_ErrLong)] }
def SearchFindsSaid : Prop := searchFindsRow.holds Tryd.pinned (OpenSpec.ofChange searchFindsSpec)

/-- ITS FALSE NEIGHBOUR: 'it returns false'. Refute it at one input. -/
def searchFindsWrong : ChangeSpec := { name := "searchFinds", fn := fun _ => fun
  | [d1, d2, d3] => { results := [.lit (.bool false)], args := [d1, d2, d3] }
  | _ => none }
def SearchFindsWrongFalsely : Prop := searchFindsRow.holds Tryd.pinned (OpenSpec.ofChange searchFindsWrong)

/-- 'shalelaw9.SearchFew': WHATEVER THE INPUT: true; the input reads as it did. -/
def searchFewSpec : ChangeSpec := { name := "searchFew", fn := fun _ => fun
  | [d1, d2, d3] => { results := [.lit (.bool true)], args := [d1, d2, d3] }
  | _ => none }
def searchFewRow : OpenClaim := { program := "ytbgegnoenceflaadoor", sum := "c316eb7734f11e22f58f7cd7fd79bf53727217e10a96216313cb2586ea12c764", func := "shale/shalelaw9.SearchFew", spec := "searchFew", unfollowed := true, recurses := true, named := ["shale/api.ErrField", "shale/api.ErrZero"], apart := false, laid := [("shale/api.ErrField", laid_shale_api_ErrField), ("shale/api.ErrZero", laid_shale_api_ErrZero)] }
def SearchFewSaid : Prop := searchFewRow.holds Tryd.pinned (OpenSpec.ofChange searchFewSpec)

/-- ITS FALSE NEIGHBOUR: 'it returns false'. Refute it at one input. -/
def searchFewWrong : ChangeSpec := { name := "searchFew", fn := fun _ => fun
  | [d1, d2, d3] => { results := [.lit (.bool false)], args := [d1, d2, d3] }
  | _ => none }
def SearchFewWrongFalsely : Prop := searchFewRow.holds Tryd.pinned (OpenSpec.ofChange searchFewWrong)

/-- 'shalelaw9.SearchTurns': WHATEVER THE INPUT: true; the input reads as it did. -/
def searchTurnsSpec : ChangeSpec := { name := "searchTurns", fn := fun _ => fun
  | [d1, d2, d3] => { results := [.lit (.bool true)], args := [d1, d2, d3] }
  | _ => none }
def searchTurnsRow : OpenClaim := { program := "ytbgegnoenceflaadoor", sum := "c316eb7734f11e22f58f7cd7fd79bf53727217e10a96216313cb2586ea12c764", func := "shale/shalelaw9.SearchTurns", spec := "searchTurns", unfollowed := true, recurses := true, named := ["shale/api.ErrField", "shale/api.ErrZero"], apart := false, laid := [("shale/api.ErrField", laid_shale_api_ErrField), ("shale/api.ErrZero", laid_shale_api_ErrZero)] }
def SearchTurnsSaid : Prop := searchTurnsRow.holds Tryd.pinned (OpenSpec.ofChange searchTurnsSpec)

/-- ITS FALSE NEIGHBOUR: 'it returns false'. Refute it at one input. -/
def searchTurnsWrong : ChangeSpec := { name := "searchTurns", fn := fun _ => fun
  | [d1, d2, d3] => { results := [.lit (.bool false)], args := [d1, d2, d3] }
  | _ => none }
def SearchTurnsWrongFalsely : Prop := searchTurnsRow.holds Tryd.pinned (OpenSpec.ofChange searchTurnsWrong)

/- THE SECOND FORM. 'bulk': how many values and letters a reading holds, each counted each time it is reached (what is shared counts as often as it is met; a slice's spare places count too). A statement '..UptoSaid' is the law's where the arguments, and the package variables that the reading takes, are together of bulk at most 1048576: NARROWER than '..Said'. Prove '..Said' where nothing that the law and all that it calls make is longer than what came in: it says more and counts as full. Else prove '..UptoSaid'. A law counts once. -/
mutual
def uptoBulk {H : Type} : DataW H → Nat
  | .lit (.string bytes) => bytes.length + 1
  | .lit _ => 1
  | .nil => 1
  | .ptr d => uptoBulk d + 1
  | .slice elems spare => uptoBulkAll elems + uptoBulkAll spare + 1
  | .agg parts => uptoBulkAll parts + 1
  | .iface _ d => uptoBulk d + 1
  | .map entries => uptoBulkEntries entries + 1
  | .held _ => 1
def uptoBulkAll {H : Type} : List (DataW H) → Nat
  | [] => 0
  | d :: r => uptoBulk d + uptoBulkAll r
def uptoBulkEntries {H : Type} : List (Lit × DataW H) → Nat
  | [] => 0
  | x :: r => uptoBulkEntry x + uptoBulkEntries r
def uptoBulkEntry {H : Type} : Lit × DataW H → Nat
  | (.string bytes, d) => bytes.length + uptoBulk d + 1
  | (_, d) => uptoBulk d + 1
 end
def uptoSmall : (H : Type) → List (DataW H) → Bool := fun _ ds => decide (uptoBulkAll ds ≤ 1048576)
def OpenSpec.upto (s : _root_.Go.ChangeSpec) : _root_.Go.OpenSpec := { _root_.Go.OpenSpec.ofChange s with cond := some uptoSmall }

/-- 'shalelaw9.SearchSays', WHERE WHAT IT READS IS OF BULK AT MOST 1048576: true; the input reads as it did. -/
def searchSaysUptoRow : OpenClaim := { program := "ytbgegnoenceflaadoor", sum := "c316eb7734f11e22f58f7cd7fd79bf53727217e10a96216313cb2586ea12c764", func := "shale/shalelaw9.SearchSays", spec := "searchSays", unfollowed := true, recurses := true, named := ["shale/api.ErrField", "shale/api.ErrZero"], apart := false, laid := [("shale/api.ErrField", laid_shale_api_ErrField), ("shale/api.ErrZero", laid_shale_api_ErrZero)], narrowed := true }
def SearchSaysUptoSaid : Prop := searchSaysUptoRow.holds Tryd.pinned (OpenSpec.upto searchSaysSpec)

/-- 'shalelaw9.SearchFinds', WHERE WHAT IT READS IS OF BULK AT MOST 1048576: true; the input reads as it did. -/
def searchFindsUptoRow : OpenClaim := { program := "ytbgegnoenceflaadoor", sum := "c316eb7734f11e22f58f7cd7fd79bf53727217e10a96216313cb2586ea12c764", func := "shale/shalelaw9.SearchFinds", spec := "searchFinds", unfollowed := true, recurses := true, named := ["shale/api.ErrField", "shale/api.ErrZero", "shale/api.ErrLong"], apart := false, laid := [("shale/api.ErrField", laid_shale_api_ErrField), ("shale/api.ErrZero", laid_shale_api_ErrZero), ("shale/api.ErrLong", laid_shale_api_ErrLong)], narrowed := true }
def SearchFindsUptoSaid : Prop := searchFindsUptoRow.holds Tryd.pinned (OpenSpec.upto searchFindsSpec)

/-- 'shalelaw9.SearchFew', WHERE WHAT IT READS IS OF BULK AT MOST 1048576: true; the input reads as it did. -/
def searchFewUptoRow : OpenClaim := { program := "ytbgegnoenceflaadoor", sum := "c316eb7734f11e22f58f7cd7fd79bf53727217e10a96216313cb2586ea12c764", func := "shale/shalelaw9.SearchFew", spec := "searchFew", unfollowed := true, recurses := true, named := ["shale/api.ErrField", "shale/api.ErrZero"], apart := false, laid := [("shale/api.ErrField", laid_shale_api_ErrField), ("shale/api.ErrZero", laid_shale_api_ErrZero)], narrowed := true }
def SearchFewUptoSaid : Prop := searchFewUptoRow.holds Tryd.pinned (OpenSpec.upto searchFewSpec)

/-- 'shalelaw9.SearchTurns', WHERE WHAT IT READS IS OF BULK AT MOST 1048576: true; the input reads as it did. -/
def searchTurnsUptoRow : OpenClaim := { program := "ytbgegnoenceflaadoor", sum := "c316eb7734f11e22f58f7cd7fd79bf53727217e10a96216313cb2586ea12c764", func := "shale/shalelaw9.SearchTurns", spec := "searchTurns", unfollowed := true, recurses := true, named := ["shale/api.ErrField", "shale/api.ErrZero"], apart := false, laid := [("shale/api.ErrField", laid_shale_api_ErrField), ("shale/api.ErrZero", laid_shale_api_ErrZero)], narrowed := true }
def SearchTurnsUptoSaid : Prop := searchTurnsUptoRow.holds Tryd.pinned (OpenSpec.upto searchTurnsSpec)

end Rows
end Go.Proofs.YtbgegnoenceflaaDoor
