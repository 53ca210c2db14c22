/-
  NARROWER THAN 'FOR EVERY INPUT', by the rows' own cells (each row's printed sentence says how): SyndromeTells: laid · SyndromeApart: laid · SyndromeAdds: laid.
  DERIVED. THE GIVEN ROWS OF THIS SEAT. 3 by the template 'for every input the law returns true; each argument reads behind the call as it read before'; 0 by the template 'total and deterministic' (their statements: YthhhpaiednpdkaaDoorTotals.lean).
  GIVEN WITH THE SEED: the statements are not yours to turn. If you find one false, say at which input.
  Laid BY PROGRAM, IN A SANDBOX (cutbox-rows.mjs): the forced cells as the released guide's own fill.sh prints them over the translation 8e023475acf4719a… (all of the seat's roots in one cut). By AI agents, Wed Nov 11 2026. No macro, syntax, notation, axiom, sorry.
-/
import Derived.Test.YthhhpaiednpdkaaDoorChecked
import GoSem.Claim
import GoSem.ClaimJoined
import GoSem.ClaimMapViews
import Derived.JoinedTies
import Derived.KernelRfl
namespace Go.Proofs.YthhhpaiednpdkaaDoor
/- THE CELL 'sum', in the pinned program and in every row, IS THE sha256 OF THE DUMP (.gsa) THAT YthhhpaiednpdkaaDoorProg.lean LOADS. Nothing in Lean hashes anything: it is a label: what it is worth is what the hold of that sum in a sandbox is worth. -/
noncomputable def Tryd.pinned : Pinned := { name := "ythhhpaiednpdkaadoor", sum := "8e023475acf4719ae8e4c30525159b288af898e8c54461c1ee4a8083ed74fa67", checked := Tryd.checked }
namespace Rows
def none {H : Type} : Left H := { results := [], args := [] }

/- WHAT THE LISTED PACKAGE-LEVEL VARIABLES READ AS WHEN THE CALL BEGINS. Each datum BY PROGRAM (the guide's laid-datum.mjs) off the statement by which the dump's own 'gosem.cut.vars' lays the variable. In a bare row this is a premise. The card (YthhhpaiednpdkaaDoorCards.lean) ties it to the program's text. -/
def laid_shale_api_ErrField {H : Type} : DataW H := .iface "*errors.errorString" (.ptr (.agg [.lit (.string [110, 111, 32, 115, 117, 99, 104, 32, 102, 105, 101, 108, 100])]))
def laid_shale_api_ErrNumber {H : Type} : DataW H := .iface "*errors.errorString" (.ptr (.agg [.lit (.string [110, 111, 32, 115, 117, 99, 104, 32, 110, 117, 109, 98, 101, 114])]))
def laid_shale_api_ErrLong {H : Type} : DataW H := .iface "*errors.errorString" (.ptr (.agg [.lit (.string [116, 111, 111, 32, 108, 111, 110, 103])]))
def laid_shale_api_ErrCode {H : Type} : DataW H := .iface "*errors.errorString" (.ptr (.agg [.lit (.string [110, 111, 32, 115, 117, 99, 104, 32, 99, 111, 100, 101])]))

/-- 'shalelaw7.SyndromeTells': WHATEVER THE INPUT: true; the input reads as it did. -/
def syndromeTellsSpec : ChangeSpec := { name := "syndromeTells", fn := fun _ => fun
  | [d1, d2, d3, d4, d5] => { results := [.lit (.bool true)], args := [d1, d2, d3, d4, d5] }
  | _ => none }
def syndromeTellsRow : OpenClaim := { program := "ythhhpaiednpdkaadoor", sum := "8e023475acf4719ae8e4c30525159b288af898e8c54461c1ee4a8083ed74fa67", func := "shale/shalelaw7.SyndromeTells", spec := "syndromeTells", unfollowed := true, recurses := true, named := ["shale/api.ErrNumber", "shale/api.ErrLong", "shale/api.ErrCode", "shale/api.ErrField"], apart := false, laid := [("shale/api.ErrField", laid_shale_api_ErrField), ("shale/api.ErrNumber", laid_shale_api_ErrNumber), ("shale/api.ErrLong", laid_shale_api_ErrLong), ("shale/api.ErrCode", laid_shale_api_ErrCode)] }
def SyndromeTellsSaid : Prop := syndromeTellsRow.holds Tryd.pinned (OpenSpec.ofChange syndromeTellsSpec)

/-- ITS FALSE NEIGHBOUR: 'it returns false'. Refute it at one input. -/
def syndromeTellsWrong : ChangeSpec := { name := "syndromeTells", fn := fun _ => fun
  | [d1, d2, d3, d4, d5] => { results := [.lit (.bool false)], args := [d1, d2, d3, d4, d5] }
  | _ => none }
def SyndromeTellsWrongFalsely : Prop := syndromeTellsRow.holds Tryd.pinned (OpenSpec.ofChange syndromeTellsWrong)

/-- 'shalelaw7.SyndromeApart': WHATEVER THE INPUT: true; the input reads as it did. -/
def syndromeApartSpec : ChangeSpec := { name := "syndromeApart", fn := fun _ => fun
  | [d1, d2, d3, d4, d5] => { results := [.lit (.bool true)], args := [d1, d2, d3, d4, d5] }
  | _ => none }
def syndromeApartRow : OpenClaim := { program := "ythhhpaiednpdkaadoor", sum := "8e023475acf4719ae8e4c30525159b288af898e8c54461c1ee4a8083ed74fa67", func := "shale/shalelaw7.SyndromeApart", spec := "syndromeApart", unfollowed := true, recurses := true, named := ["shale/api.ErrNumber", "shale/api.ErrLong", "shale/api.ErrCode", "shale/api.ErrField"], apart := false, laid := [("shale/api.ErrField", laid_shale_api_ErrField), ("shale/api.ErrNumber", laid_shale_api_ErrNumber), ("shale/api.ErrLong", laid_shale_api_ErrLong), ("shale/api.ErrCode", laid_shale_api_ErrCode)] }
def SyndromeApartSaid : Prop := syndromeApartRow.holds Tryd.pinned (OpenSpec.ofChange syndromeApartSpec)

/-- ITS FALSE NEIGHBOUR: 'it returns false'. Refute it at one input. -/
def syndromeApartWrong : ChangeSpec := { name := "syndromeApart", fn := fun _ => fun
  | [d1, d2, d3, d4, d5] => { results := [.lit (.bool false)], args := [d1, d2, d3, d4, d5] }
  | _ => none }
def SyndromeApartWrongFalsely : Prop := syndromeApartRow.holds Tryd.pinned (OpenSpec.ofChange syndromeApartWrong)

/-- 'shalelaw7.SyndromeAdds': WHATEVER THE INPUT: true; the input reads as it did. -/
def syndromeAddsSpec : ChangeSpec := { name := "syndromeAdds", fn := fun _ => fun
  | [d1, d2, d3, d4, d5, d6, d7] => { results := [.lit (.bool true)], args := [d1, d2, d3, d4, d5, d6, d7] }
  | _ => none }
def syndromeAddsRow : OpenClaim := { program := "ythhhpaiednpdkaadoor", sum := "8e023475acf4719ae8e4c30525159b288af898e8c54461c1ee4a8083ed74fa67", func := "shale/shalelaw7.SyndromeAdds", spec := "syndromeAdds", unfollowed := true, recurses := true, named := ["shale/api.ErrNumber", "shale/api.ErrLong", "shale/api.ErrCode", "shale/api.ErrField"], apart := false, laid := [("shale/api.ErrField", laid_shale_api_ErrField), ("shale/api.ErrNumber", laid_shale_api_ErrNumber), ("shale/api.ErrLong", laid_shale_api_ErrLong), ("shale/api.ErrCode", laid_shale_api_ErrCode)] }
def SyndromeAddsSaid : Prop := syndromeAddsRow.holds Tryd.pinned (OpenSpec.ofChange syndromeAddsSpec)

/-- ITS FALSE NEIGHBOUR: 'it returns false'. Refute it at one input. -/
def syndromeAddsWrong : ChangeSpec := { name := "syndromeAdds", fn := fun _ => fun
  | [d1, d2, d3, d4, d5, d6, d7] => { results := [.lit (.bool false)], args := [d1, d2, d3, d4, d5, d6, d7] }
  | _ => none }
def SyndromeAddsWrongFalsely : Prop := syndromeAddsRow.holds Tryd.pinned (OpenSpec.ofChange syndromeAddsWrong)

/- THE SECOND FORM. 'bulk': how many values and letters a reading holds, each counted each time it is reached (what is shared counts as often as it is met; a slice's spare places count too). A statement '..UptoSaid' is the law's where the arguments, and the package variables that the reading takes, are together of bulk at most 1048576: NARROWER than '..Said'. Prove '..Said' where nothing that the law and all that it calls make is longer than what came in: it says more and counts as full. Else prove '..UptoSaid'. A law counts once. -/
mutual
def uptoBulk {H : Type} : DataW H → Nat
  | .lit (.string bytes) => bytes.length + 1
  | .lit _ => 1
  | .nil => 1
  | .ptr d => uptoBulk d + 1
  | .slice elems spare => uptoBulkAll elems + uptoBulkAll spare + 1
  | .agg parts => uptoBulkAll parts + 1
  | .iface _ d => uptoBulk d + 1
  | .map entries => uptoBulkEntries entries + 1
  | .held _ => 1
def uptoBulkAll {H : Type} : List (DataW H) → Nat
  | [] => 0
  | d :: r => uptoBulk d + uptoBulkAll r
def uptoBulkEntries {H : Type} : List (Lit × DataW H) → Nat
  | [] => 0
  | x :: r => uptoBulkEntry x + uptoBulkEntries r
def uptoBulkEntry {H : Type} : Lit × DataW H → Nat
  | (.string bytes, d) => bytes.length + uptoBulk d + 1
  | (_, d) => uptoBulk d + 1
 end
def uptoSmall : (H : Type) → List (DataW H) → Bool := fun _ ds => decide (uptoBulkAll ds ≤ 1048576)
def OpenSpec.upto (s : _root_.Go.ChangeSpec) : _root_.Go.OpenSpec := { _root_.Go.OpenSpec.ofChange s with cond := some uptoSmall }

/-- 'shalelaw7.SyndromeTells', WHERE WHAT IT READS IS OF BULK AT MOST 1048576: true; the input reads as it did. -/
def syndromeTellsUptoRow : OpenClaim := { program := "ythhhpaiednpdkaadoor", sum := "8e023475acf4719ae8e4c30525159b288af898e8c54461c1ee4a8083ed74fa67", func := "shale/shalelaw7.SyndromeTells", spec := "syndromeTells", unfollowed := true, recurses := true, named := ["shale/api.ErrNumber", "shale/api.ErrLong", "shale/api.ErrCode", "shale/api.ErrField"], apart := false, laid := [("shale/api.ErrField", laid_shale_api_ErrField), ("shale/api.ErrNumber", laid_shale_api_ErrNumber), ("shale/api.ErrLong", laid_shale_api_ErrLong), ("shale/api.ErrCode", laid_shale_api_ErrCode)], narrowed := true }
def SyndromeTellsUptoSaid : Prop := syndromeTellsUptoRow.holds Tryd.pinned (OpenSpec.upto syndromeTellsSpec)

/-- 'shalelaw7.SyndromeApart', WHERE WHAT IT READS IS OF BULK AT MOST 1048576: true; the input reads as it did. -/
def syndromeApartUptoRow : OpenClaim := { program := "ythhhpaiednpdkaadoor", sum := "8e023475acf4719ae8e4c30525159b288af898e8c54461c1ee4a8083ed74fa67", func := "shale/shalelaw7.SyndromeApart", spec := "syndromeApart", unfollowed := true, recurses := true, named := ["shale/api.ErrNumber", "shale/api.ErrLong", "shale/api.ErrCode", "shale/api.ErrField"], apart := false, laid := [("shale/api.ErrField", laid_shale_api_ErrField), ("shale/api.ErrNumber", laid_shale_api_ErrNumber), ("shale/api.ErrLong", laid_shale_api_ErrLong), ("shale/api.ErrCode", laid_shale_api_ErrCode)], narrowed := true }
def SyndromeApartUptoSaid : Prop := syndromeApartUptoRow.holds Tryd.pinned (OpenSpec.upto syndromeApartSpec)

/-- 'shalelaw7.SyndromeAdds', WHERE WHAT IT READS IS OF BULK AT MOST 1048576: true; the input reads as it did. -/
def syndromeAddsUptoRow : OpenClaim := { program := "ythhhpaiednpdkaadoor", sum := "8e023475acf4719ae8e4c30525159b288af898e8c54461c1ee4a8083ed74fa67", func := "shale/shalelaw7.SyndromeAdds", spec := "syndromeAdds", unfollowed := true, recurses := true, named := ["shale/api.ErrNumber", "shale/api.ErrLong", "shale/api.ErrCode", "shale/api.ErrField"], apart := false, laid := [("shale/api.ErrField", laid_shale_api_ErrField), ("shale/api.ErrNumber", laid_shale_api_ErrNumber), ("shale/api.ErrLong", laid_shale_api_ErrLong), ("shale/api.ErrCode", laid_shale_api_ErrCode)], narrowed := true }
def SyndromeAddsUptoSaid : Prop := syndromeAddsUptoRow.holds Tryd.pinned (OpenSpec.upto syndromeAddsSpec)

end Rows
end Go.Proofs.YthhhpaiednpdkaaDoor
