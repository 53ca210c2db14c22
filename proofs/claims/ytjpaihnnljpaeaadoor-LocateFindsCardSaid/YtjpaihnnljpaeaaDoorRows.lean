/-
  NARROWER THAN 'FOR EVERY INPUT', by the rows' own cells (each row's printed sentence says how): LocateSquares: laid · LocateSays: laid · LocateMakes: laid · LocateFinds: laid · LocateGrows: laid · LocateScales: laid.
  DERIVED. THE GIVEN ROWS OF THIS SEAT. 6 by the template 'for every input the law returns true; each argument reads behind the call as it read before'; 0 by the template 'total and deterministic' (their statements: YtjpaihnnljpaeaaDoorTotals.lean).
  GIVEN WITH THE SEED: the statements are not yours to turn. If you find one false, say at which input.
  Laid BY PROGRAM, IN A SANDBOX (cutbox-rows.mjs): the forced cells as the released guide's own fill.sh prints them over the translation baf26802a55a4f9b… (all of the seat's roots in one cut). By AI agents, Wed Nov 11 2026. No macro, syntax, notation, axiom, sorry.
-/
import Derived.Test.YtjpaihnnljpaeaaDoorChecked
import GoSem.Claim
import GoSem.ClaimJoined
import GoSem.ClaimMapViews
import Derived.JoinedTies
import Derived.KernelRfl
namespace Go.Proofs.YtjpaihnnljpaeaaDoor
/- THE CELL 'sum', in the pinned program and in every row, IS THE sha256 OF THE DUMP (.gsa) THAT YtjpaihnnljpaeaaDoorProg.lean LOADS. Nothing in Lean hashes anything: it is a label: what it is worth is what the hold of that sum in a sandbox is worth. -/
noncomputable def Tryd.pinned : Pinned := { name := "ytjpaihnnljpaeaadoor", sum := "baf26802a55a4f9b0c0c4718b64346937ce6a4344a9229893be27d980803a9c7", checked := Tryd.checked }
namespace Rows
def none {H : Type} : Left H := { results := [], args := [] }

/- WHAT THE LISTED PACKAGE-LEVEL VARIABLES READ AS WHEN THE CALL BEGINS. Each datum BY PROGRAM (the guide's laid-datum.mjs) off the statement by which the dump's own 'gosem.cut.vars' lays the variable. In a bare row this is a premise. The card (YtjpaihnnljpaeaaDoorCards.lean) ties it to the program's text. -/
def laid_shale_api_ErrField {H : Type} : DataW H := .iface "*errors.errorString" (.ptr (.agg [.lit (.string [110, 111, 32, 115, 117, 99, 104, 32, 102, 105, 101, 108, 100])]))
def laid_shale_api_ErrZero {H : Type} : DataW H := .iface "*errors.errorString" (.ptr (.agg [.lit (.string [122, 101, 114, 111, 32, 104, 97, 115, 32, 110, 111, 110, 101])]))
def laid_shale_api_ErrLong {H : Type} : DataW H := .iface "*errors.errorString" (.ptr (.agg [.lit (.string [116, 111, 111, 32, 108, 111, 110, 103])]))

/-- 'shalelaw8.LocateSquares': WHATEVER THE INPUT: true; the input reads as it did. -/
def locateSquaresSpec : ChangeSpec := { name := "locateSquares", fn := fun _ => fun
  | [d1, d2] => { results := [.lit (.bool true)], args := [d1, d2] }
  | _ => none }
def locateSquaresRow : OpenClaim := { program := "ytjpaihnnljpaeaadoor", sum := "baf26802a55a4f9b0c0c4718b64346937ce6a4344a9229893be27d980803a9c7", func := "shale/shalelaw8.LocateSquares", spec := "locateSquares", unfollowed := true, recurses := true, named := ["shale/api.ErrField", "shale/api.ErrZero", "shale/api.ErrLong"], apart := false, laid := [("shale/api.ErrField", laid_shale_api_ErrField), ("shale/api.ErrZero", laid_shale_api_ErrZero), ("shale/api.ErrLong", laid_shale_api_ErrLong)] }
def LocateSquaresSaid : Prop := locateSquaresRow.holds Tryd.pinned (OpenSpec.ofChange locateSquaresSpec)

/-- ITS FALSE NEIGHBOUR: 'it returns false'. Refute it at one input. -/
def locateSquaresWrong : ChangeSpec := { name := "locateSquares", fn := fun _ => fun
  | [d1, d2] => { results := [.lit (.bool false)], args := [d1, d2] }
  | _ => none }
def LocateSquaresWrongFalsely : Prop := locateSquaresRow.holds Tryd.pinned (OpenSpec.ofChange locateSquaresWrong)

/-- 'shalelaw8.LocateSays': WHATEVER THE INPUT: true; the input reads as it did. -/
def locateSaysSpec : ChangeSpec := { name := "locateSays", fn := fun _ => fun
  | [d1, d2, d3, d4, d5] => { results := [.lit (.bool true)], args := [d1, d2, d3, d4, d5] }
  | _ => none }
def locateSaysRow : OpenClaim := { program := "ytjpaihnnljpaeaadoor", sum := "baf26802a55a4f9b0c0c4718b64346937ce6a4344a9229893be27d980803a9c7", func := "shale/shalelaw8.LocateSays", spec := "locateSays", unfollowed := true, recurses := true, named := ["shale/api.ErrLong", "shale/api.ErrField", "shale/api.ErrZero"], apart := false, laid := [("shale/api.ErrField", laid_shale_api_ErrField), ("shale/api.ErrZero", laid_shale_api_ErrZero), ("shale/api.ErrLong", laid_shale_api_ErrLong)] }
def LocateSaysSaid : Prop := locateSaysRow.holds Tryd.pinned (OpenSpec.ofChange locateSaysSpec)

/-- ITS FALSE NEIGHBOUR: 'it returns false'. Refute it at one input. -/
def locateSaysWrong : ChangeSpec := { name := "locateSays", fn := fun _ => fun
  | [d1, d2, d3, d4, d5] => { results := [.lit (.bool false)], args := [d1, d2, d3, d4, d5] }
  | _ => none }
def LocateSaysWrongFalsely : Prop := locateSaysRow.holds Tryd.pinned (OpenSpec.ofChange locateSaysWrong)

/-- 'shalelaw8.LocateMakes': WHATEVER THE INPUT: true; the input reads as it did. -/
def locateMakesSpec : ChangeSpec := { name := "locateMakes", fn := fun _ => fun
  | [d1, d2, d3, d4] => { results := [.lit (.bool true)], args := [d1, d2, d3, d4] }
  | _ => none }
def locateMakesRow : OpenClaim := { program := "ytjpaihnnljpaeaadoor", sum := "baf26802a55a4f9b0c0c4718b64346937ce6a4344a9229893be27d980803a9c7", func := "shale/shalelaw8.LocateMakes", spec := "locateMakes", unfollowed := true, recurses := true, named := ["shale/api.ErrField", "shale/api.ErrZero", "shale/api.ErrLong"], apart := false, laid := [("shale/api.ErrField", laid_shale_api_ErrField), ("shale/api.ErrZero", laid_shale_api_ErrZero), ("shale/api.ErrLong", laid_shale_api_ErrLong)] }
def LocateMakesSaid : Prop := locateMakesRow.holds Tryd.pinned (OpenSpec.ofChange locateMakesSpec)

/-- ITS FALSE NEIGHBOUR: 'it returns false'. Refute it at one input. -/
def locateMakesWrong : ChangeSpec := { name := "locateMakes", fn := fun _ => fun
  | [d1, d2, d3, d4] => { results := [.lit (.bool false)], args := [d1, d2, d3, d4] }
  | _ => none }
def LocateMakesWrongFalsely : Prop := locateMakesRow.holds Tryd.pinned (OpenSpec.ofChange locateMakesWrong)

/-- 'shalelaw8.LocateFinds': WHATEVER THE INPUT: true; the input reads as it did. -/
def locateFindsSpec : ChangeSpec := { name := "locateFinds", fn := fun _ => fun
  | [d1, d2, d3] => { results := [.lit (.bool true)], args := [d1, d2, d3] }
  | _ => none }
def locateFindsRow : OpenClaim := { program := "ytjpaihnnljpaeaadoor", sum := "baf26802a55a4f9b0c0c4718b64346937ce6a4344a9229893be27d980803a9c7", func := "shale/shalelaw8.LocateFinds", spec := "locateFinds", unfollowed := true, recurses := true, named := ["shale/api.ErrField", "shale/api.ErrZero", "shale/api.ErrLong"], apart := false, laid := [("shale/api.ErrField", laid_shale_api_ErrField), ("shale/api.ErrZero", laid_shale_api_ErrZero), ("shale/api.ErrLong", laid_shale_api_ErrLong)] }
def LocateFindsSaid : Prop := locateFindsRow.holds Tryd.pinned (OpenSpec.ofChange locateFindsSpec)

/-- ITS FALSE NEIGHBOUR: 'it returns false'. Refute it at one input. -/
def locateFindsWrong : ChangeSpec := { name := "locateFinds", fn := fun _ => fun
  | [d1, d2, d3] => { results := [.lit (.bool false)], args := [d1, d2, d3] }
  | _ => none }
def LocateFindsWrongFalsely : Prop := locateFindsRow.holds Tryd.pinned (OpenSpec.ofChange locateFindsWrong)

/-- 'shalelaw8.LocateGrows': WHATEVER THE INPUT: true; the input reads as it did. -/
def locateGrowsSpec : ChangeSpec := { name := "locateGrows", fn := fun _ => fun
  | [d1, d2, d3] => { results := [.lit (.bool true)], args := [d1, d2, d3] }
  | _ => none }
def locateGrowsRow : OpenClaim := { program := "ytjpaihnnljpaeaadoor", sum := "baf26802a55a4f9b0c0c4718b64346937ce6a4344a9229893be27d980803a9c7", func := "shale/shalelaw8.LocateGrows", spec := "locateGrows", unfollowed := true, recurses := true, named := ["shale/api.ErrField", "shale/api.ErrZero", "shale/api.ErrLong"], apart := false, laid := [("shale/api.ErrField", laid_shale_api_ErrField), ("shale/api.ErrZero", laid_shale_api_ErrZero), ("shale/api.ErrLong", laid_shale_api_ErrLong)] }
def LocateGrowsSaid : Prop := locateGrowsRow.holds Tryd.pinned (OpenSpec.ofChange locateGrowsSpec)

/-- ITS FALSE NEIGHBOUR: 'it returns false'. Refute it at one input. -/
def locateGrowsWrong : ChangeSpec := { name := "locateGrows", fn := fun _ => fun
  | [d1, d2, d3] => { results := [.lit (.bool false)], args := [d1, d2, d3] }
  | _ => none }
def LocateGrowsWrongFalsely : Prop := locateGrowsRow.holds Tryd.pinned (OpenSpec.ofChange locateGrowsWrong)

/-- 'shalelaw8.LocateScales': WHATEVER THE INPUT: true; the input reads as it did. -/
def locateScalesSpec : ChangeSpec := { name := "locateScales", fn := fun _ => fun
  | [d1, d2, d3, d4] => { results := [.lit (.bool true)], args := [d1, d2, d3, d4] }
  | _ => none }
def locateScalesRow : OpenClaim := { program := "ytjpaihnnljpaeaadoor", sum := "baf26802a55a4f9b0c0c4718b64346937ce6a4344a9229893be27d980803a9c7", func := "shale/shalelaw8.LocateScales", spec := "locateScales", unfollowed := true, recurses := true, named := ["shale/api.ErrField", "shale/api.ErrZero", "shale/api.ErrLong"], apart := false, laid := [("shale/api.ErrField", laid_shale_api_ErrField), ("shale/api.ErrZero", laid_shale_api_ErrZero), ("shale/api.ErrLong", laid_shale_api_ErrLong)] }
def LocateScalesSaid : Prop := locateScalesRow.holds Tryd.pinned (OpenSpec.ofChange locateScalesSpec)

/-- ITS FALSE NEIGHBOUR: 'it returns false'. Refute it at one input. -/
def locateScalesWrong : ChangeSpec := { name := "locateScales", fn := fun _ => fun
  | [d1, d2, d3, d4] => { results := [.lit (.bool false)], args := [d1, d2, d3, d4] }
  | _ => none }
def LocateScalesWrongFalsely : Prop := locateScalesRow.holds Tryd.pinned (OpenSpec.ofChange locateScalesWrong)

/- THE SECOND FORM. 'bulk': how many values and letters a reading holds, each counted each time it is reached (what is shared counts as often as it is met; a slice's spare places count too). A statement '..UptoSaid' is the law's where the arguments, and the package variables that the reading takes, are together of bulk at most 1048576: NARROWER than '..Said'. Prove '..Said' where nothing that the law and all that it calls make is longer than what came in: it says more and counts as full. Else prove '..UptoSaid'. A law counts once. -/
mutual
def uptoBulk {H : Type} : DataW H → Nat
  | .lit (.string bytes) => bytes.length + 1
  | .lit _ => 1
  | .nil => 1
  | .ptr d => uptoBulk d + 1
  | .slice elems spare => uptoBulkAll elems + uptoBulkAll spare + 1
  | .agg parts => uptoBulkAll parts + 1
  | .iface _ d => uptoBulk d + 1
  | .map entries => uptoBulkEntries entries + 1
  | .held _ => 1
def uptoBulkAll {H : Type} : List (DataW H) → Nat
  | [] => 0
  | d :: r => uptoBulk d + uptoBulkAll r
def uptoBulkEntries {H : Type} : List (Lit × DataW H) → Nat
  | [] => 0
  | x :: r => uptoBulkEntry x + uptoBulkEntries r
def uptoBulkEntry {H : Type} : Lit × DataW H → Nat
  | (.string bytes, d) => bytes.length + uptoBulk d + 1
  | (_, d) => uptoBulk d + 1
 end
def uptoSmall : (H : Type) → List (DataW H) → Bool := fun _ ds => decide (uptoBulkAll ds ≤ 1048576)
def OpenSpec.upto (s : _root_.Go.ChangeSpec) : _root_.Go.OpenSpec := { _root_.Go.OpenSpec.ofChange s with cond := some uptoSmall }

/-- 'shalelaw8.LocateSquares', WHERE WHAT IT READS IS OF BULK AT MOST 1048576: true; the input reads as it did. -/
def locateSquaresUptoRow : OpenClaim := { program := "ytjpaihnnljpaeaadoor", sum := "baf26802a55a4f9b0c0c4718b64346937ce6a4344a9229893be27d980803a9c7", func := "shale/shalelaw8.LocateSquares", spec := "locateSquares", unfollowed := true, recurses := true, named := ["shale/api.ErrField", "shale/api.ErrZero", "shale/api.ErrLong"], apart := false, laid := [("shale/api.ErrField", laid_shale_api_ErrField), ("shale/api.ErrZero", laid_shale_api_ErrZero), ("shale/api.ErrLong", laid_shale_api_ErrLong)], narrowed := true }
def LocateSquaresUptoSaid : Prop := locateSquaresUptoRow.holds Tryd.pinned (OpenSpec.upto locateSquaresSpec)

/-- 'shalelaw8.LocateSays', WHERE WHAT IT READS IS OF BULK AT MOST 1048576: true; the input reads as it did. -/
def locateSaysUptoRow : OpenClaim := { program := "ytjpaihnnljpaeaadoor", sum := "baf26802a55a4f9b0c0c4718b64346937ce6a4344a9229893be27d980803a9c7", func := "shale/shalelaw8.LocateSays", spec := "locateSays", unfollowed := true, recurses := true, named := ["shale/api.ErrLong", "shale/api.ErrField", "shale/api.ErrZero"], apart := false, laid := [("shale/api.ErrField", laid_shale_api_ErrField), ("shale/api.ErrZero", laid_shale_api_ErrZero), ("shale/api.ErrLong", laid_shale_api_ErrLong)], narrowed := true }
def LocateSaysUptoSaid : Prop := locateSaysUptoRow.holds Tryd.pinned (OpenSpec.upto locateSaysSpec)

/-- 'shalelaw8.LocateMakes', WHERE WHAT IT READS IS OF BULK AT MOST 1048576: true; the input reads as it did. -/
def locateMakesUptoRow : OpenClaim := { program := "ytjpaihnnljpaeaadoor", sum := "baf26802a55a4f9b0c0c4718b64346937ce6a4344a9229893be27d980803a9c7", func := "shale/shalelaw8.LocateMakes", spec := "locateMakes", unfollowed := true, recurses := true, named := ["shale/api.ErrField", "shale/api.ErrZero", "shale/api.ErrLong"], apart := false, laid := [("shale/api.ErrField", laid_shale_api_ErrField), ("shale/api.ErrZero", laid_shale_api_ErrZero), ("shale/api.ErrLong", laid_shale_api_ErrLong)], narrowed := true }
def LocateMakesUptoSaid : Prop := locateMakesUptoRow.holds Tryd.pinned (OpenSpec.upto locateMakesSpec)

/-- 'shalelaw8.LocateFinds', WHERE WHAT IT READS IS OF BULK AT MOST 1048576: true; the input reads as it did. -/
def locateFindsUptoRow : OpenClaim := { program := "ytjpaihnnljpaeaadoor", sum := "baf26802a55a4f9b0c0c4718b64346937ce6a4344a9229893be27d980803a9c7", func := "shale/shalelaw8.LocateFinds", spec := "locateFinds", unfollowed := true, recurses := true, named := ["shale/api.ErrField", "shale/api.ErrZero", "shale/api.ErrLong"], apart := false, laid := [("shale/api.ErrField", laid_shale_api_ErrField), ("shale/api.ErrZero", laid_shale_api_ErrZero), ("shale/api.ErrLong", laid_shale_api_ErrLong)], narrowed := true }
def LocateFindsUptoSaid : Prop := locateFindsUptoRow.holds Tryd.pinned (OpenSpec.upto locateFindsSpec)

/-- 'shalelaw8.LocateGrows', WHERE WHAT IT READS IS OF BULK AT MOST 1048576: true; the input reads as it did. -/
def locateGrowsUptoRow : OpenClaim := { program := "ytjpaihnnljpaeaadoor", sum := "baf26802a55a4f9b0c0c4718b64346937ce6a4344a9229893be27d980803a9c7", func := "shale/shalelaw8.LocateGrows", spec := "locateGrows", unfollowed := true, recurses := true, named := ["shale/api.ErrField", "shale/api.ErrZero", "shale/api.ErrLong"], apart := false, laid := [("shale/api.ErrField", laid_shale_api_ErrField), ("shale/api.ErrZero", laid_shale_api_ErrZero), ("shale/api.ErrLong", laid_shale_api_ErrLong)], narrowed := true }
def LocateGrowsUptoSaid : Prop := locateGrowsUptoRow.holds Tryd.pinned (OpenSpec.upto locateGrowsSpec)

/-- 'shalelaw8.LocateScales', WHERE WHAT IT READS IS OF BULK AT MOST 1048576: true; the input reads as it did. -/
def locateScalesUptoRow : OpenClaim := { program := "ytjpaihnnljpaeaadoor", sum := "baf26802a55a4f9b0c0c4718b64346937ce6a4344a9229893be27d980803a9c7", func := "shale/shalelaw8.LocateScales", spec := "locateScales", unfollowed := true, recurses := true, named := ["shale/api.ErrField", "shale/api.ErrZero", "shale/api.ErrLong"], apart := false, laid := [("shale/api.ErrField", laid_shale_api_ErrField), ("shale/api.ErrZero", laid_shale_api_ErrZero), ("shale/api.ErrLong", laid_shale_api_ErrLong)], narrowed := true }
def LocateScalesUptoSaid : Prop := locateScalesUptoRow.holds Tryd.pinned (OpenSpec.upto locateScalesSpec)

end Rows
end Go.Proofs.YtjpaihnnljpaeaaDoor
