/-
  NARROWER THAN 'FOR EVERY INPUT', by the rows' own cells (each row's printed sentence says how): PageMeasures: laid · PageSays: laid · PageMends: laid · PageErased: laid · PageElsewhere: laid · PageFar: laid · PageOwn: laid.
  DERIVED. THE GIVEN ROWS OF THIS SEAT. 7 by the template 'for every input the law returns true; each argument reads behind the call as it read before'; 0 by the template 'total and deterministic' (their statements: YtdhcigiaidlmbaaGreatDoorTotals.lean).
  GIVEN WITH THE SEED: the statements are not yours to turn. If you find one false, say at which input.
  Laid BY PROGRAM, IN A SANDBOX (cutbox-rows.mjs): the forced cells as the released guide's own fill.sh prints them over the translation abb071518c2dd804… (all of the seat's roots in one cut). By AI agents, Wed Nov 11 2026. No macro, syntax, notation, axiom, sorry.
-/
import Derived.Test.YtdhcigiaidlmbaaGreatDoorChecked
import GoSem.Claim
import GoSem.ClaimJoined
import GoSem.ClaimMapViews
import Derived.JoinedTies
import Derived.KernelRfl
namespace Go.Proofs.YtdhcigiaidlmbaaGreatDoor
/- THE CELL 'sum', in the pinned program and in every row, IS THE sha256 OF THE DUMP (.gsa) THAT YtdhcigiaidlmbaaGreatDoorProg.lean LOADS. Nothing in Lean hashes anything: it is a label: what it is worth is what the hold of that sum in a sandbox is worth. -/
noncomputable def Tryz.pinned : Pinned := { name := "ytdhcigiaidlmbaagreatdoor", sum := "abb071518c2dd804dda49eec1af5bd2bd023527c3518d58c38770f22226122a4", checked := Tryz.checked }
namespace Rows
def none {H : Type} : Left H := { results := [], args := [] }

/- WHAT THE LISTED PACKAGE-LEVEL VARIABLES READ AS WHEN THE CALL BEGINS. Each datum BY PROGRAM (the guide's laid-datum.mjs) off the statement by which the dump's own 'gosem.cut.vars' lays the variable. In a bare row this is a premise. The card (YtdhcigiaidlmbaaGreatDoorCards.lean) ties it to the program's text. -/
def laid_shale_crc_halves {H : Type} : DataW H := .agg [.lit (.int .u32 0), .lit (.int .u32 498536548), .lit (.int .u32 997073096), .lit (.int .u32 651767980), .lit (.int .u32 1994146192), .lit (.int .u32 1802195444), .lit (.int .u32 1303535960), .lit (.int .u32 1342533948), .lit (.int .u32 3988292384), .lit (.int .u32 4027552580), .lit (.int .u32 3604390888), .lit (.int .u32 3412177804), .lit (.int .u32 2607071920), .lit (.int .u32 2262029012), .lit (.int .u32 2685067896), .lit (.int .u32 3183342108)]
def laid_shale_api_ErrField {H : Type} : DataW H := .iface "*errors.errorString" (.ptr (.agg [.lit (.string [110, 111, 32, 115, 117, 99, 104, 32, 102, 105, 101, 108, 100])]))
def laid_shale_api_ErrNumber {H : Type} : DataW H := .iface "*errors.errorString" (.ptr (.agg [.lit (.string [110, 111, 32, 115, 117, 99, 104, 32, 110, 117, 109, 98, 101, 114])]))
def laid_shale_api_ErrZero {H : Type} : DataW H := .iface "*errors.errorString" (.ptr (.agg [.lit (.string [122, 101, 114, 111, 32, 104, 97, 115, 32, 110, 111, 110, 101])]))
def laid_shale_api_ErrLong {H : Type} : DataW H := .iface "*errors.errorString" (.ptr (.agg [.lit (.string [116, 111, 111, 32, 108, 111, 110, 103])]))
def laid_shale_api_ErrCode {H : Type} : DataW H := .iface "*errors.errorString" (.ptr (.agg [.lit (.string [110, 111, 32, 115, 117, 99, 104, 32, 99, 111, 100, 101])]))
def laid_shale_api_ErrMany {H : Type} : DataW H := .iface "*errors.errorString" (.ptr (.agg [.lit (.string [109, 111, 114, 101, 32, 105, 115, 32, 97, 109, 105, 115, 115, 32, 116, 104, 97, 110, 32, 99, 97, 110, 32, 98, 101, 32, 109, 101, 110, 100, 101, 100])]))
def laid_shale_api_ErrRecord {H : Type} : DataW H := .iface "*errors.errorString" (.ptr (.agg [.lit (.string [110, 111, 32, 114, 101, 99, 111, 114, 100])]))
def laid_shale_api_ErrGeometry {H : Type} : DataW H := .iface "*errors.errorString" (.ptr (.agg [.lit (.string [110, 111, 32, 115, 117, 99, 104, 32, 99, 104, 105, 112])]))
def laid_shale_api_ErrDead {H : Type} : DataW H := .iface "*errors.errorString" (.ptr (.agg [.lit (.string [116, 104, 101, 32, 112, 111, 119, 101, 114, 32, 105, 115, 32, 111, 102, 102])]))
def laid_shale_api_ErrOrder {H : Type} : DataW H := .iface "*errors.errorString" (.ptr (.agg [.lit (.string [105, 116, 32, 100, 111, 101, 115, 32, 110, 111, 116, 32, 99, 111, 109, 101, 32, 104, 101, 114, 101])]))
def laid_shale_api_ErrFailed {H : Type} : DataW H := .iface "*errors.errorString" (.ptr (.agg [.lit (.string [116, 104, 101, 32, 99, 104, 105, 112, 32, 102, 97, 105, 108, 101, 100])]))
def laid_shale_api_ErrBad {H : Type} : DataW H := .iface "*errors.errorString" (.ptr (.agg [.lit (.string [116, 104, 101, 32, 98, 108, 111, 99, 107, 32, 105, 115, 32, 98, 97, 100])]))
def laid_shale_api_ErrPage {H : Type} : DataW H := .iface "*errors.errorString" (.ptr (.agg [.lit (.string [116, 104, 101, 32, 112, 97, 103, 101, 32, 99, 97, 110, 110, 111, 116, 32, 98, 101, 32, 114, 101, 97, 100])]))
def laid_shale_api_ErrFull {H : Type} : DataW H := .iface "*errors.errorString" (.ptr (.agg [.lit (.string [110, 111, 32, 114, 111, 111, 109])]))
def laid_shale_api_ErrGone {H : Type} : DataW H := .iface "*errors.errorString" (.ptr (.agg [.lit (.string [105, 116, 32, 105, 115, 32, 110, 111, 116, 32, 116, 104, 101, 114, 101])]))
def laid_shale_api_ErrSize {H : Type} : DataW H := .iface "*errors.errorString" (.ptr (.agg [.lit (.string [110, 111, 32, 115, 101, 99, 116, 111, 114, 39, 115, 32, 115, 105, 122, 101])]))
def laid_shale_api_ErrReadOnly {H : Type} : DataW H := .iface "*errors.errorString" (.ptr (.agg [.lit (.string [105, 116, 32, 99, 97, 110, 32, 111, 110, 108, 121, 32, 98, 101, 32, 114, 101, 97, 100])]))
def laid_shale_api_ErrStep {H : Type} : DataW H := .iface "*errors.errorString" (.ptr (.agg [.lit (.string [110, 111, 32, 115, 117, 99, 104, 32, 115, 116, 101, 112])]))
def laid_shale_api_ErrMount {H : Type} : DataW H := .iface "*errors.errorString" (.ptr (.agg [.lit (.string [105, 116, 32, 105, 115, 32, 110, 111, 116, 32, 109, 111, 117, 110, 116, 101, 100])]))

/-- 'shalelaw13.PageMeasures': WHATEVER THE INPUT: true; the input reads as it did. -/
def pageMeasuresSpec : ChangeSpec := { name := "pageMeasures", fn := fun _ => fun
  | [d] => { results := [.lit (.bool true)], args := [d] }
  | _ => none }
def pageMeasuresRow : OpenClaim := { program := "ytdhcigiaidlmbaagreatdoor", sum := "abb071518c2dd804dda49eec1af5bd2bd023527c3518d58c38770f22226122a4", func := "shale/shalelaw13.PageMeasures", spec := "pageMeasures", unfollowed := true, recurses := true, named := ["shale/api.ErrGeometry", "shale/api.ErrLong", "shale/api.ErrCode", "shale/api.ErrField", "shale/api.ErrNumber", "shale/api.ErrSize", "shale/api.ErrMany", "shale/api.ErrZero", "shale/api.ErrRecord", "shale/crc.halves", "shale/api.ErrDead", "shale/api.ErrOrder", "shale/api.ErrFailed", "shale/api.ErrBad", "shale/api.ErrPage", "shale/api.ErrFull", "shale/api.ErrGone", "shale/api.ErrReadOnly", "shale/api.ErrStep", "shale/api.ErrMount"], apart := false, laid := [("shale/crc.halves", laid_shale_crc_halves), ("shale/api.ErrField", laid_shale_api_ErrField), ("shale/api.ErrNumber", laid_shale_api_ErrNumber), ("shale/api.ErrZero", laid_shale_api_ErrZero), ("shale/api.ErrLong", laid_shale_api_ErrLong), ("shale/api.ErrCode", laid_shale_api_ErrCode), ("shale/api.ErrMany", laid_shale_api_ErrMany), ("shale/api.ErrRecord", laid_shale_api_ErrRecord), ("shale/api.ErrGeometry", laid_shale_api_ErrGeometry), ("shale/api.ErrDead", laid_shale_api_ErrDead), ("shale/api.ErrOrder", laid_shale_api_ErrOrder), ("shale/api.ErrFailed", laid_shale_api_ErrFailed), ("shale/api.ErrBad", laid_shale_api_ErrBad), ("shale/api.ErrPage", laid_shale_api_ErrPage), ("shale/api.ErrFull", laid_shale_api_ErrFull), ("shale/api.ErrGone", laid_shale_api_ErrGone), ("shale/api.ErrSize", laid_shale_api_ErrSize), ("shale/api.ErrReadOnly", laid_shale_api_ErrReadOnly), ("shale/api.ErrStep", laid_shale_api_ErrStep), ("shale/api.ErrMount", laid_shale_api_ErrMount)] }
def PageMeasuresSaid : Prop := pageMeasuresRow.holds Tryz.pinned (OpenSpec.ofChange pageMeasuresSpec)

/-- ITS FALSE NEIGHBOUR: 'it returns false'. Refute it at one input. -/
def pageMeasuresWrong : ChangeSpec := { name := "pageMeasures", fn := fun _ => fun
  | [d] => { results := [.lit (.bool false)], args := [d] }
  | _ => none }
def PageMeasuresWrongFalsely : Prop := pageMeasuresRow.holds Tryz.pinned (OpenSpec.ofChange pageMeasuresWrong)

/-- 'shalelaw13.PageSays': WHATEVER THE INPUT: true; the input reads as it did. -/
def pageSaysSpec : ChangeSpec := { name := "pageSays", fn := fun _ => fun
  | [d1, d2, d3, d4, d5, d6] => { results := [.lit (.bool true)], args := [d1, d2, d3, d4, d5, d6] }
  | _ => none }
def pageSaysRow : OpenClaim := { program := "ytdhcigiaidlmbaagreatdoor", sum := "abb071518c2dd804dda49eec1af5bd2bd023527c3518d58c38770f22226122a4", func := "shale/shalelaw13.PageSays", spec := "pageSays", unfollowed := true, recurses := true, named := ["shale/api.ErrSize", "shale/api.ErrGeometry", "shale/api.ErrLong", "shale/api.ErrCode", "shale/api.ErrField", "shale/api.ErrNumber", "shale/api.ErrMany", "shale/api.ErrZero", "shale/api.ErrRecord", "shale/crc.halves", "shale/api.ErrDead", "shale/api.ErrOrder", "shale/api.ErrFailed", "shale/api.ErrBad", "shale/api.ErrPage", "shale/api.ErrFull", "shale/api.ErrGone", "shale/api.ErrReadOnly", "shale/api.ErrStep", "shale/api.ErrMount"], apart := false, laid := [("shale/crc.halves", laid_shale_crc_halves), ("shale/api.ErrField", laid_shale_api_ErrField), ("shale/api.ErrNumber", laid_shale_api_ErrNumber), ("shale/api.ErrZero", laid_shale_api_ErrZero), ("shale/api.ErrLong", laid_shale_api_ErrLong), ("shale/api.ErrCode", laid_shale_api_ErrCode), ("shale/api.ErrMany", laid_shale_api_ErrMany), ("shale/api.ErrRecord", laid_shale_api_ErrRecord), ("shale/api.ErrGeometry", laid_shale_api_ErrGeometry), ("shale/api.ErrDead", laid_shale_api_ErrDead), ("shale/api.ErrOrder", laid_shale_api_ErrOrder), ("shale/api.ErrFailed", laid_shale_api_ErrFailed), ("shale/api.ErrBad", laid_shale_api_ErrBad), ("shale/api.ErrPage", laid_shale_api_ErrPage), ("shale/api.ErrFull", laid_shale_api_ErrFull), ("shale/api.ErrGone", laid_shale_api_ErrGone), ("shale/api.ErrSize", laid_shale_api_ErrSize), ("shale/api.ErrReadOnly", laid_shale_api_ErrReadOnly), ("shale/api.ErrStep", laid_shale_api_ErrStep), ("shale/api.ErrMount", laid_shale_api_ErrMount)] }
def PageSaysSaid : Prop := pageSaysRow.holds Tryz.pinned (OpenSpec.ofChange pageSaysSpec)

/-- ITS FALSE NEIGHBOUR: 'it returns false'. Refute it at one input. -/
def pageSaysWrong : ChangeSpec := { name := "pageSays", fn := fun _ => fun
  | [d1, d2, d3, d4, d5, d6] => { results := [.lit (.bool false)], args := [d1, d2, d3, d4, d5, d6] }
  | _ => none }
def PageSaysWrongFalsely : Prop := pageSaysRow.holds Tryz.pinned (OpenSpec.ofChange pageSaysWrong)

/-- 'shalelaw13.PageMends': WHATEVER THE INPUT: true; the input reads as it did. -/
def pageMendsSpec : ChangeSpec := { name := "pageMends", fn := fun _ => fun
  | [d1, d2, d3, d4, d5, d6] => { results := [.lit (.bool true)], args := [d1, d2, d3, d4, d5, d6] }
  | _ => none }
def pageMendsRow : OpenClaim := { program := "ytdhcigiaidlmbaagreatdoor", sum := "abb071518c2dd804dda49eec1af5bd2bd023527c3518d58c38770f22226122a4", func := "shale/shalelaw13.PageMends", spec := "pageMends", unfollowed := true, recurses := true, named := ["shale/api.ErrRecord", "shale/api.ErrGeometry", "shale/api.ErrLong", "shale/api.ErrCode", "shale/api.ErrField", "shale/api.ErrNumber", "shale/api.ErrSize", "shale/api.ErrMany", "shale/api.ErrZero", "shale/crc.halves"], apart := false, laid := [("shale/crc.halves", laid_shale_crc_halves), ("shale/api.ErrField", laid_shale_api_ErrField), ("shale/api.ErrNumber", laid_shale_api_ErrNumber), ("shale/api.ErrZero", laid_shale_api_ErrZero), ("shale/api.ErrLong", laid_shale_api_ErrLong), ("shale/api.ErrCode", laid_shale_api_ErrCode), ("shale/api.ErrMany", laid_shale_api_ErrMany), ("shale/api.ErrRecord", laid_shale_api_ErrRecord), ("shale/api.ErrGeometry", laid_shale_api_ErrGeometry), ("shale/api.ErrSize", laid_shale_api_ErrSize)] }
def PageMendsSaid : Prop := pageMendsRow.holds Tryz.pinned (OpenSpec.ofChange pageMendsSpec)

/-- ITS FALSE NEIGHBOUR: 'it returns false'. Refute it at one input. -/
def pageMendsWrong : ChangeSpec := { name := "pageMends", fn := fun _ => fun
  | [d1, d2, d3, d4, d5, d6] => { results := [.lit (.bool false)], args := [d1, d2, d3, d4, d5, d6] }
  | _ => none }
def PageMendsWrongFalsely : Prop := pageMendsRow.holds Tryz.pinned (OpenSpec.ofChange pageMendsWrong)

/-- 'shalelaw13.PageErased': WHATEVER THE INPUT: true; the input reads as it did. -/
def pageErasedSpec : ChangeSpec := { name := "pageErased", fn := fun _ => fun
  | [d1, d2, d3, d4, d5, d6] => { results := [.lit (.bool true)], args := [d1, d2, d3, d4, d5, d6] }
  | _ => none }
def pageErasedRow : OpenClaim := { program := "ytdhcigiaidlmbaagreatdoor", sum := "abb071518c2dd804dda49eec1af5bd2bd023527c3518d58c38770f22226122a4", func := "shale/shalelaw13.PageErased", spec := "pageErased", unfollowed := true, recurses := true, named := ["shale/api.ErrGeometry", "shale/api.ErrLong", "shale/api.ErrCode", "shale/api.ErrField", "shale/api.ErrNumber", "shale/api.ErrSize", "shale/api.ErrMany", "shale/api.ErrZero", "shale/api.ErrRecord", "shale/crc.halves"], apart := false, laid := [("shale/crc.halves", laid_shale_crc_halves), ("shale/api.ErrField", laid_shale_api_ErrField), ("shale/api.ErrNumber", laid_shale_api_ErrNumber), ("shale/api.ErrZero", laid_shale_api_ErrZero), ("shale/api.ErrLong", laid_shale_api_ErrLong), ("shale/api.ErrCode", laid_shale_api_ErrCode), ("shale/api.ErrMany", laid_shale_api_ErrMany), ("shale/api.ErrRecord", laid_shale_api_ErrRecord), ("shale/api.ErrGeometry", laid_shale_api_ErrGeometry), ("shale/api.ErrSize", laid_shale_api_ErrSize)] }
def PageErasedSaid : Prop := pageErasedRow.holds Tryz.pinned (OpenSpec.ofChange pageErasedSpec)

/-- ITS FALSE NEIGHBOUR: 'it returns false'. Refute it at one input. -/
def pageErasedWrong : ChangeSpec := { name := "pageErased", fn := fun _ => fun
  | [d1, d2, d3, d4, d5, d6] => { results := [.lit (.bool false)], args := [d1, d2, d3, d4, d5, d6] }
  | _ => none }
def PageErasedWrongFalsely : Prop := pageErasedRow.holds Tryz.pinned (OpenSpec.ofChange pageErasedWrong)

/-- 'shalelaw13.PageElsewhere': WHATEVER THE INPUT: true; the input reads as it did. -/
def pageElsewhereSpec : ChangeSpec := { name := "pageElsewhere", fn := fun _ => fun
  | [d1, d2, d3, d4, d5, d6, d7] => { results := [.lit (.bool true)], args := [d1, d2, d3, d4, d5, d6, d7] }
  | _ => none }
def pageElsewhereRow : OpenClaim := { program := "ytdhcigiaidlmbaagreatdoor", sum := "abb071518c2dd804dda49eec1af5bd2bd023527c3518d58c38770f22226122a4", func := "shale/shalelaw13.PageElsewhere", spec := "pageElsewhere", unfollowed := true, recurses := true, named := ["shale/api.ErrGeometry", "shale/api.ErrLong", "shale/api.ErrCode", "shale/api.ErrField", "shale/api.ErrNumber", "shale/api.ErrSize", "shale/api.ErrMany", "shale/api.ErrZero", "shale/api.ErrRecord", "shale/crc.halves"], apart := false, laid := [("shale/crc.halves", laid_shale_crc_halves), ("shale/api.ErrField", laid_shale_api_ErrField), ("shale/api.ErrNumber", laid_shale_api_ErrNumber), ("shale/api.ErrZero", laid_shale_api_ErrZero), ("shale/api.ErrLong", laid_shale_api_ErrLong), ("shale/api.ErrCode", laid_shale_api_ErrCode), ("shale/api.ErrMany", laid_shale_api_ErrMany), ("shale/api.ErrRecord", laid_shale_api_ErrRecord), ("shale/api.ErrGeometry", laid_shale_api_ErrGeometry), ("shale/api.ErrSize", laid_shale_api_ErrSize)] }
def PageElsewhereSaid : Prop := pageElsewhereRow.holds Tryz.pinned (OpenSpec.ofChange pageElsewhereSpec)

/-- ITS FALSE NEIGHBOUR: 'it returns false'. Refute it at one input. -/
def pageElsewhereWrong : ChangeSpec := { name := "pageElsewhere", fn := fun _ => fun
  | [d1, d2, d3, d4, d5, d6, d7] => { results := [.lit (.bool false)], args := [d1, d2, d3, d4, d5, d6, d7] }
  | _ => none }
def PageElsewhereWrongFalsely : Prop := pageElsewhereRow.holds Tryz.pinned (OpenSpec.ofChange pageElsewhereWrong)

/-- 'shalelaw13.PageFar': WHATEVER THE INPUT: true; the input reads as it did. -/
def pageFarSpec : ChangeSpec := { name := "pageFar", fn := fun _ => fun
  | [d1, d2, d3, d4, d5, d6, d7] => { results := [.lit (.bool true)], args := [d1, d2, d3, d4, d5, d6, d7] }
  | _ => none }
def pageFarRow : OpenClaim := { program := "ytdhcigiaidlmbaagreatdoor", sum := "abb071518c2dd804dda49eec1af5bd2bd023527c3518d58c38770f22226122a4", func := "shale/shalelaw13.PageFar", spec := "pageFar", unfollowed := true, recurses := true, named := ["shale/api.ErrGeometry", "shale/api.ErrLong", "shale/api.ErrCode", "shale/api.ErrField", "shale/api.ErrNumber", "shale/api.ErrSize", "shale/api.ErrMany", "shale/api.ErrZero", "shale/api.ErrRecord", "shale/crc.halves"], apart := false, laid := [("shale/crc.halves", laid_shale_crc_halves), ("shale/api.ErrField", laid_shale_api_ErrField), ("shale/api.ErrNumber", laid_shale_api_ErrNumber), ("shale/api.ErrZero", laid_shale_api_ErrZero), ("shale/api.ErrLong", laid_shale_api_ErrLong), ("shale/api.ErrCode", laid_shale_api_ErrCode), ("shale/api.ErrMany", laid_shale_api_ErrMany), ("shale/api.ErrRecord", laid_shale_api_ErrRecord), ("shale/api.ErrGeometry", laid_shale_api_ErrGeometry), ("shale/api.ErrSize", laid_shale_api_ErrSize)] }
def PageFarSaid : Prop := pageFarRow.holds Tryz.pinned (OpenSpec.ofChange pageFarSpec)

/-- ITS FALSE NEIGHBOUR: 'it returns false'. Refute it at one input. -/
def pageFarWrong : ChangeSpec := { name := "pageFar", fn := fun _ => fun
  | [d1, d2, d3, d4, d5, d6, d7] => { results := [.lit (.bool false)], args := [d1, d2, d3, d4, d5, d6, d7] }
  | _ => none }
def PageFarWrongFalsely : Prop := pageFarRow.holds Tryz.pinned (OpenSpec.ofChange pageFarWrong)

/-- 'shalelaw13.PageOwn': WHATEVER THE INPUT: true; the input reads as it did. -/
def pageOwnSpec : ChangeSpec := { name := "pageOwn", fn := fun _ => fun
  | [d1, d2, d3, d4, d5] => { results := [.lit (.bool true)], args := [d1, d2, d3, d4, d5] }
  | _ => none }
def pageOwnRow : OpenClaim := { program := "ytdhcigiaidlmbaagreatdoor", sum := "abb071518c2dd804dda49eec1af5bd2bd023527c3518d58c38770f22226122a4", func := "shale/shalelaw13.PageOwn", spec := "pageOwn", unfollowed := true, recurses := true, named := ["shale/api.ErrRecord", "shale/api.ErrGeometry", "shale/api.ErrLong", "shale/api.ErrCode", "shale/api.ErrField", "shale/api.ErrNumber", "shale/api.ErrSize", "shale/api.ErrMany", "shale/api.ErrZero", "shale/crc.halves"], apart := false, laid := [("shale/crc.halves", laid_shale_crc_halves), ("shale/api.ErrField", laid_shale_api_ErrField), ("shale/api.ErrNumber", laid_shale_api_ErrNumber), ("shale/api.ErrZero", laid_shale_api_ErrZero), ("shale/api.ErrLong", laid_shale_api_ErrLong), ("shale/api.ErrCode", laid_shale_api_ErrCode), ("shale/api.ErrMany", laid_shale_api_ErrMany), ("shale/api.ErrRecord", laid_shale_api_ErrRecord), ("shale/api.ErrGeometry", laid_shale_api_ErrGeometry), ("shale/api.ErrSize", laid_shale_api_ErrSize)] }
def PageOwnSaid : Prop := pageOwnRow.holds Tryz.pinned (OpenSpec.ofChange pageOwnSpec)

/-- ITS FALSE NEIGHBOUR: 'it returns false'. Refute it at one input. -/
def pageOwnWrong : ChangeSpec := { name := "pageOwn", fn := fun _ => fun
  | [d1, d2, d3, d4, d5] => { results := [.lit (.bool false)], args := [d1, d2, d3, d4, d5] }
  | _ => none }
def PageOwnWrongFalsely : Prop := pageOwnRow.holds Tryz.pinned (OpenSpec.ofChange pageOwnWrong)

/- THE SECOND FORM. 'bulk': how many values and letters a reading holds, each counted each time it is reached (what is shared counts as often as it is met; a slice's spare places count too). A statement '..UptoSaid' is the law's where the arguments, and the package variables that the reading takes, are together of bulk at most 1048576: NARROWER than '..Said'. Prove '..Said' where nothing that the law and all that it calls make is longer than what came in: it says more and counts as full. Else prove '..UptoSaid'. A law counts once. -/
mutual
def uptoBulk {H : Type} : DataW H → Nat
  | .lit (.string bytes) => bytes.length + 1
  | .lit _ => 1
  | .nil => 1
  | .ptr d => uptoBulk d + 1
  | .slice elems spare => uptoBulkAll elems + uptoBulkAll spare + 1
  | .agg parts => uptoBulkAll parts + 1
  | .iface _ d => uptoBulk d + 1
  | .map entries => uptoBulkEntries entries + 1
  | .held _ => 1
def uptoBulkAll {H : Type} : List (DataW H) → Nat
  | [] => 0
  | d :: r => uptoBulk d + uptoBulkAll r
def uptoBulkEntries {H : Type} : List (Lit × DataW H) → Nat
  | [] => 0
  | x :: r => uptoBulkEntry x + uptoBulkEntries r
def uptoBulkEntry {H : Type} : Lit × DataW H → Nat
  | (.string bytes, d) => bytes.length + uptoBulk d + 1
  | (_, d) => uptoBulk d + 1
 end
def uptoSmall : (H : Type) → List (DataW H) → Bool := fun _ ds => decide (uptoBulkAll ds ≤ 1048576)
def OpenSpec.upto (s : _root_.Go.ChangeSpec) : _root_.Go.OpenSpec := { _root_.Go.OpenSpec.ofChange s with cond := some uptoSmall }

/-- 'shalelaw13.PageMeasures', WHERE WHAT IT READS IS OF BULK AT MOST 1048576: true; the input reads as it did. -/
def pageMeasuresUptoRow : OpenClaim := { program := "ytdhcigiaidlmbaagreatdoor", sum := "abb071518c2dd804dda49eec1af5bd2bd023527c3518d58c38770f22226122a4", func := "shale/shalelaw13.PageMeasures", spec := "pageMeasures", unfollowed := true, recurses := true, named := ["shale/api.ErrGeometry", "shale/api.ErrLong", "shale/api.ErrCode", "shale/api.ErrField", "shale/api.ErrNumber", "shale/api.ErrSize", "shale/api.ErrMany", "shale/api.ErrZero", "shale/api.ErrRecord", "shale/crc.halves", "shale/api.ErrDead", "shale/api.ErrOrder", "shale/api.ErrFailed", "shale/api.ErrBad", "shale/api.ErrPage", "shale/api.ErrFull", "shale/api.ErrGone", "shale/api.ErrReadOnly", "shale/api.ErrStep", "shale/api.ErrMount"], apart := false, laid := [("shale/crc.halves", laid_shale_crc_halves), ("shale/api.ErrField", laid_shale_api_ErrField), ("shale/api.ErrNumber", laid_shale_api_ErrNumber), ("shale/api.ErrZero", laid_shale_api_ErrZero), ("shale/api.ErrLong", laid_shale_api_ErrLong), ("shale/api.ErrCode", laid_shale_api_ErrCode), ("shale/api.ErrMany", laid_shale_api_ErrMany), ("shale/api.ErrRecord", laid_shale_api_ErrRecord), ("shale/api.ErrGeometry", laid_shale_api_ErrGeometry), ("shale/api.ErrDead", laid_shale_api_ErrDead), ("shale/api.ErrOrder", laid_shale_api_ErrOrder), ("shale/api.ErrFailed", laid_shale_api_ErrFailed), ("shale/api.ErrBad", laid_shale_api_ErrBad), ("shale/api.ErrPage", laid_shale_api_ErrPage), ("shale/api.ErrFull", laid_shale_api_ErrFull), ("shale/api.ErrGone", laid_shale_api_ErrGone), ("shale/api.ErrSize", laid_shale_api_ErrSize), ("shale/api.ErrReadOnly", laid_shale_api_ErrReadOnly), ("shale/api.ErrStep", laid_shale_api_ErrStep), ("shale/api.ErrMount", laid_shale_api_ErrMount)], narrowed := true }
def PageMeasuresUptoSaid : Prop := pageMeasuresUptoRow.holds Tryz.pinned (OpenSpec.upto pageMeasuresSpec)

/-- 'shalelaw13.PageSays', WHERE WHAT IT READS IS OF BULK AT MOST 1048576: true; the input reads as it did. -/
def pageSaysUptoRow : OpenClaim := { program := "ytdhcigiaidlmbaagreatdoor", sum := "abb071518c2dd804dda49eec1af5bd2bd023527c3518d58c38770f22226122a4", func := "shale/shalelaw13.PageSays", spec := "pageSays", unfollowed := true, recurses := true, named := ["shale/api.ErrSize", "shale/api.ErrGeometry", "shale/api.ErrLong", "shale/api.ErrCode", "shale/api.ErrField", "shale/api.ErrNumber", "shale/api.ErrMany", "shale/api.ErrZero", "shale/api.ErrRecord", "shale/crc.halves", "shale/api.ErrDead", "shale/api.ErrOrder", "shale/api.ErrFailed", "shale/api.ErrBad", "shale/api.ErrPage", "shale/api.ErrFull", "shale/api.ErrGone", "shale/api.ErrReadOnly", "shale/api.ErrStep", "shale/api.ErrMount"], apart := false, laid := [("shale/crc.halves", laid_shale_crc_halves), ("shale/api.ErrField", laid_shale_api_ErrField), ("shale/api.ErrNumber", laid_shale_api_ErrNumber), ("shale/api.ErrZero", laid_shale_api_ErrZero), ("shale/api.ErrLong", laid_shale_api_ErrLong), ("shale/api.ErrCode", laid_shale_api_ErrCode), ("shale/api.ErrMany", laid_shale_api_ErrMany), ("shale/api.ErrRecord", laid_shale_api_ErrRecord), ("shale/api.ErrGeometry", laid_shale_api_ErrGeometry), ("shale/api.ErrDead", laid_shale_api_ErrDead), ("shale/api.ErrOrder", laid_shale_api_ErrOrder), ("shale/api.ErrFailed", laid_shale_api_ErrFailed), ("shale/api.ErrBad", laid_shale_api_ErrBad), ("shale/api.ErrPage", laid_shale_api_ErrPage), ("shale/api.ErrFull", laid_shale_api_ErrFull), ("shale/api.ErrGone", laid_shale_api_ErrGone), ("shale/api.ErrSize", laid_shale_api_ErrSize), ("shale/api.ErrReadOnly", laid_shale_api_ErrReadOnly), ("shale/api.ErrStep", laid_shale_api_ErrStep), ("shale/api.ErrMount", laid_shale_api_ErrMount)], narrowed := true }
def PageSaysUptoSaid : Prop := pageSaysUptoRow.holds Tryz.pinned (OpenSpec.upto pageSaysSpec)

/-- 'shalelaw13.PageMends', WHERE WHAT IT READS IS OF BULK AT MOST 1048576: true; the input reads as it did. -/
def pageMendsUptoRow : OpenClaim := { program := "ytdhcigiaidlmbaagreatdoor", sum := "abb071518c2dd804dda49eec1af5bd2bd023527c3518d58c38770f22226122a4", func := "shale/shalelaw13.PageMends", spec := "pageMends", unfollowed := true, recurses := true, named := ["shale/api.ErrRecord", "shale/api.ErrGeometry", "shale/api.ErrLong", "shale/api.ErrCode", "shale/api.ErrField", "shale/api.ErrNumber", "shale/api.ErrSize", "shale/api.ErrMany", "shale/api.ErrZero", "shale/crc.halves"], apart := false, laid := [("shale/crc.halves", laid_shale_crc_halves), ("shale/api.ErrField", laid_shale_api_ErrField), ("shale/api.ErrNumber", laid_shale_api_ErrNumber), ("shale/api.ErrZero", laid_shale_api_ErrZero), ("shale/api.ErrLong", laid_shale_api_ErrLong), ("shale/api.ErrCode", laid_shale_api_ErrCode), ("shale/api.ErrMany", laid_shale_api_ErrMany), ("shale/api.ErrRecord", laid_shale_api_ErrRecord), ("shale/api.ErrGeometry", laid_shale_api_ErrGeometry), ("shale/api.ErrSize", laid_shale_api_ErrSize)], narrowed := true }
def PageMendsUptoSaid : Prop := pageMendsUptoRow.holds Tryz.pinned (OpenSpec.upto pageMendsSpec)

/-- 'shalelaw13.PageErased', WHERE WHAT IT READS IS OF BULK AT MOST 1048576: true; the input reads as it did. -/
def pageErasedUptoRow : OpenClaim := { program := "ytdhcigiaidlmbaagreatdoor", sum := "abb071518c2dd804dda49eec1af5bd2bd023527c3518d58c38770f22226122a4", func := "shale/shalelaw13.PageErased", spec := "pageErased", unfollowed := true, recurses := true, named := ["shale/api.ErrGeometry", "shale/api.ErrLong", "shale/api.ErrCode", "shale/api.ErrField", "shale/api.ErrNumber", "shale/api.ErrSize", "shale/api.ErrMany", "shale/api.ErrZero", "shale/api.ErrRecord", "shale/crc.halves"], apart := false, laid := [("shale/crc.halves", laid_shale_crc_halves), ("shale/api.ErrField", laid_shale_api_ErrField), ("shale/api.ErrNumber", laid_shale_api_ErrNumber), ("shale/api.ErrZero", laid_shale_api_ErrZero), ("shale/api.ErrLong", laid_shale_api_ErrLong), ("shale/api.ErrCode", laid_shale_api_ErrCode), ("shale/api.ErrMany", laid_shale_api_ErrMany), ("shale/api.ErrRecord", laid_shale_api_ErrRecord), ("shale/api.ErrGeometry", laid_shale_api_ErrGeometry), ("shale/api.ErrSize", laid_shale_api_ErrSize)], narrowed := true }
def PageErasedUptoSaid : Prop := pageErasedUptoRow.holds Tryz.pinned (OpenSpec.upto pageErasedSpec)

/-- 'shalelaw13.PageElsewhere', WHERE WHAT IT READS IS OF BULK AT MOST 1048576: true; the input reads as it did. -/
def pageElsewhereUptoRow : OpenClaim := { program := "ytdhcigiaidlmbaagreatdoor", sum := "abb071518c2dd804dda49eec1af5bd2bd023527c3518d58c38770f22226122a4", func := "shale/shalelaw13.PageElsewhere", spec := "pageElsewhere", unfollowed := true, recurses := true, named := ["shale/api.ErrGeometry", "shale/api.ErrLong", "shale/api.ErrCode", "shale/api.ErrField", "shale/api.ErrNumber", "shale/api.ErrSize", "shale/api.ErrMany", "shale/api.ErrZero", "shale/api.ErrRecord", "shale/crc.halves"], apart := false, laid := [("shale/crc.halves", laid_shale_crc_halves), ("shale/api.ErrField", laid_shale_api_ErrField), ("shale/api.ErrNumber", laid_shale_api_ErrNumber), ("shale/api.ErrZero", laid_shale_api_ErrZero), ("shale/api.ErrLong", laid_shale_api_ErrLong), ("shale/api.ErrCode", laid_shale_api_ErrCode), ("shale/api.ErrMany", laid_shale_api_ErrMany), ("shale/api.ErrRecord", laid_shale_api_ErrRecord), ("shale/api.ErrGeometry", laid_shale_api_ErrGeometry), ("shale/api.ErrSize", laid_shale_api_ErrSize)], narrowed := true }
def PageElsewhereUptoSaid : Prop := pageElsewhereUptoRow.holds Tryz.pinned (OpenSpec.upto pageElsewhereSpec)

/-- 'shalelaw13.PageFar', WHERE WHAT IT READS IS OF BULK AT MOST 1048576: true; the input reads as it did. -/
def pageFarUptoRow : OpenClaim := { program := "ytdhcigiaidlmbaagreatdoor", sum := "abb071518c2dd804dda49eec1af5bd2bd023527c3518d58c38770f22226122a4", func := "shale/shalelaw13.PageFar", spec := "pageFar", unfollowed := true, recurses := true, named := ["shale/api.ErrGeometry", "shale/api.ErrLong", "shale/api.ErrCode", "shale/api.ErrField", "shale/api.ErrNumber", "shale/api.ErrSize", "shale/api.ErrMany", "shale/api.ErrZero", "shale/api.ErrRecord", "shale/crc.halves"], apart := false, laid := [("shale/crc.halves", laid_shale_crc_halves), ("shale/api.ErrField", laid_shale_api_ErrField), ("shale/api.ErrNumber", laid_shale_api_ErrNumber), ("shale/api.ErrZero", laid_shale_api_ErrZero), ("shale/api.ErrLong", laid_shale_api_ErrLong), ("shale/api.ErrCode", laid_shale_api_ErrCode), ("shale/api.ErrMany", laid_shale_api_ErrMany), ("shale/api.ErrRecord", laid_shale_api_ErrRecord), ("shale/api.ErrGeometry", laid_shale_api_ErrGeometry), ("shale/api.ErrSize", laid_shale_api_ErrSize)], narrowed := true }
def PageFarUptoSaid : Prop := pageFarUptoRow.holds Tryz.pinned (OpenSpec.upto pageFarSpec)

/-- 'shalelaw13.PageOwn', WHERE WHAT IT READS IS OF BULK AT MOST 1048576: true; the input reads as it did. -/
def pageOwnUptoRow : OpenClaim := { program := "ytdhcigiaidlmbaagreatdoor", sum := "abb071518c2dd804dda49eec1af5bd2bd023527c3518d58c38770f22226122a4", func := "shale/shalelaw13.PageOwn", spec := "pageOwn", unfollowed := true, recurses := true, named := ["shale/api.ErrRecord", "shale/api.ErrGeometry", "shale/api.ErrLong", "shale/api.ErrCode", "shale/api.ErrField", "shale/api.ErrNumber", "shale/api.ErrSize", "shale/api.ErrMany", "shale/api.ErrZero", "shale/crc.halves"], apart := false, laid := [("shale/crc.halves", laid_shale_crc_halves), ("shale/api.ErrField", laid_shale_api_ErrField), ("shale/api.ErrNumber", laid_shale_api_ErrNumber), ("shale/api.ErrZero", laid_shale_api_ErrZero), ("shale/api.ErrLong", laid_shale_api_ErrLong), ("shale/api.ErrCode", laid_shale_api_ErrCode), ("shale/api.ErrMany", laid_shale_api_ErrMany), ("shale/api.ErrRecord", laid_shale_api_ErrRecord), ("shale/api.ErrGeometry", laid_shale_api_ErrGeometry), ("shale/api.ErrSize", laid_shale_api_ErrSize)], narrowed := true }
def PageOwnUptoSaid : Prop := pageOwnUptoRow.holds Tryz.pinned (OpenSpec.upto pageOwnSpec)

end Rows
end Go.Proofs.YtdhcigiaidlmbaaGreatDoor
