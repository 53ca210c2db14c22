/-
  NARROWER THAN 'FOR EVERY INPUT', by the rows' own cells (each row's printed sentence says how): EncodeSays: laid · EncodeLinear: laid · EncodeApart: laid · EncodeWide: laid · EncodeDivides: laid · EncodeFlips: laid.
  DERIVED. THE GIVEN ROWS OF THIS SEAT. 6 by the template 'for every input the law returns true; each argument reads behind the call as it read before'; 0 by the template 'total and deterministic' (their statements: YtnmallpimbpagaaDoorTotals.lean).
  GIVEN WITH THE SEED: the statements are not yours to turn. If you find one false, say at which input.
  Laid BY PROGRAM, IN A SANDBOX (cutbox-rows.mjs): the forced cells as the released guide's own fill.sh prints them over the translation 9a39e4f9f07a8338… (all of the seat's roots in one cut). By AI agents, Wed Nov 11 2026. No macro, syntax, notation, axiom, sorry.
-/
import Derived.Test.YtnmallpimbpagaaDoorChecked
import GoSem.Claim
import GoSem.ClaimJoined
import GoSem.ClaimMapViews
import Derived.JoinedTies
import Derived.KernelRfl
namespace Go.Proofs.YtnmallpimbpagaaDoor
/- THE CELL 'sum', in the pinned program and in every row, IS THE sha256 OF THE DUMP (.gsa) THAT YtnmallpimbpagaaDoorProg.lean LOADS. Nothing in Lean hashes anything: it is a label: what it is worth is what the hold of that sum in a sandbox is worth. -/
noncomputable def Tryd.pinned : Pinned := { name := "ytnmallpimbpagaadoor", sum := "9a39e4f9f07a83387d9ed9fdcaf9502d6f14bfa5e6102cea7b6332b73ba6b36c", checked := Tryd.checked }
namespace Rows
def none {H : Type} : Left H := { results := [], args := [] }

/- WHAT THE LISTED PACKAGE-LEVEL VARIABLES READ AS WHEN THE CALL BEGINS. Each datum BY PROGRAM (the guide's laid-datum.mjs) off the statement by which the dump's own 'gosem.cut.vars' lays the variable. In a bare row this is a premise. The card (YtnmallpimbpagaaDoorCards.lean) ties it to the program's text. -/
def laid_shale_api_ErrField {H : Type} : DataW H := .iface "*errors.errorString" (.ptr (.agg [.lit (.string [110, 111, 32, 115, 117, 99, 104, 32, 102, 105, 101, 108, 100])]))
def laid_shale_api_ErrNumber {H : Type} : DataW H := .iface "*errors.errorString" (.ptr (.agg [.lit (.string [110, 111, 32, 115, 117, 99, 104, 32, 110, 117, 109, 98, 101, 114])]))
def laid_shale_api_ErrLong {H : Type} : DataW H := .iface "*errors.errorString" (.ptr (.agg [.lit (.string [116, 111, 111, 32, 108, 111, 110, 103])]))
def laid_shale_api_ErrCode {H : Type} : DataW H := .iface "*errors.errorString" (.ptr (.agg [.lit (.string [110, 111, 32, 115, 117, 99, 104, 32, 99, 111, 100, 101])]))
def laid_shale_api_ErrZero {H : Type} : DataW H := .iface "*errors.errorString" (.ptr (.agg [.lit (.string [122, 101, 114, 111, 32, 104, 97, 115, 32, 110, 111, 110, 101])]))

/-- 'shalelaw6.EncodeSays': WHATEVER THE INPUT: true; the input reads as it did. -/
def encodeSaysSpec : ChangeSpec := { name := "encodeSays", fn := fun _ => fun
  | [d1, d2, d3, d4, d5, d6] => { results := [.lit (.bool true)], args := [d1, d2, d3, d4, d5, d6] }
  | _ => none }
def encodeSaysRow : OpenClaim := { program := "ytnmallpimbpagaadoor", sum := "9a39e4f9f07a83387d9ed9fdcaf9502d6f14bfa5e6102cea7b6332b73ba6b36c", func := "shale/shalelaw6.EncodeSays", spec := "encodeSays", unfollowed := true, recurses := true, named := ["shale/api.ErrLong", "shale/api.ErrNumber", "shale/api.ErrCode", "shale/api.ErrField"], apart := false, laid := [("shale/api.ErrField", laid_shale_api_ErrField), ("shale/api.ErrNumber", laid_shale_api_ErrNumber), ("shale/api.ErrLong", laid_shale_api_ErrLong), ("shale/api.ErrCode", laid_shale_api_ErrCode)] }
def EncodeSaysSaid : Prop := encodeSaysRow.holds Tryd.pinned (OpenSpec.ofChange encodeSaysSpec)

/-- ITS FALSE NEIGHBOUR: 'it returns false'. Refute it at one input. -/
def encodeSaysWrong : ChangeSpec := { name := "encodeSays", fn := fun _ => fun
  | [d1, d2, d3, d4, d5, d6] => { results := [.lit (.bool false)], args := [d1, d2, d3, d4, d5, d6] }
  | _ => none }
def EncodeSaysWrongFalsely : Prop := encodeSaysRow.holds Tryd.pinned (OpenSpec.ofChange encodeSaysWrong)

/-- 'shalelaw6.EncodeLinear': WHATEVER THE INPUT: true; the input reads as it did. -/
def encodeLinearSpec : ChangeSpec := { name := "encodeLinear", fn := fun _ => fun
  | [d1, d2, d3, d4, d5] => { results := [.lit (.bool true)], args := [d1, d2, d3, d4, d5] }
  | _ => none }
def encodeLinearRow : OpenClaim := { program := "ytnmallpimbpagaadoor", sum := "9a39e4f9f07a83387d9ed9fdcaf9502d6f14bfa5e6102cea7b6332b73ba6b36c", func := "shale/shalelaw6.EncodeLinear", spec := "encodeLinear", unfollowed := true, recurses := true, named := ["shale/api.ErrCode", "shale/api.ErrLong", "shale/api.ErrField", "shale/api.ErrNumber"], apart := false, laid := [("shale/api.ErrField", laid_shale_api_ErrField), ("shale/api.ErrNumber", laid_shale_api_ErrNumber), ("shale/api.ErrLong", laid_shale_api_ErrLong), ("shale/api.ErrCode", laid_shale_api_ErrCode)] }
def EncodeLinearSaid : Prop := encodeLinearRow.holds Tryd.pinned (OpenSpec.ofChange encodeLinearSpec)

/-- ITS FALSE NEIGHBOUR: 'it returns false'. Refute it at one input. -/
def encodeLinearWrong : ChangeSpec := { name := "encodeLinear", fn := fun _ => fun
  | [d1, d2, d3, d4, d5] => { results := [.lit (.bool false)], args := [d1, d2, d3, d4, d5] }
  | _ => none }
def EncodeLinearWrongFalsely : Prop := encodeLinearRow.holds Tryd.pinned (OpenSpec.ofChange encodeLinearWrong)

/-- 'shalelaw6.EncodeApart': WHATEVER THE INPUT: true; the input reads as it did. -/
def encodeApartSpec : ChangeSpec := { name := "encodeApart", fn := fun _ => fun
  | [d1, d2, d3, d4, d5] => { results := [.lit (.bool true)], args := [d1, d2, d3, d4, d5] }
  | _ => none }
def encodeApartRow : OpenClaim := { program := "ytnmallpimbpagaadoor", sum := "9a39e4f9f07a83387d9ed9fdcaf9502d6f14bfa5e6102cea7b6332b73ba6b36c", func := "shale/shalelaw6.EncodeApart", spec := "encodeApart", unfollowed := true, recurses := true, named := ["shale/api.ErrCode", "shale/api.ErrLong", "shale/api.ErrField", "shale/api.ErrNumber"], apart := false, laid := [("shale/api.ErrField", laid_shale_api_ErrField), ("shale/api.ErrNumber", laid_shale_api_ErrNumber), ("shale/api.ErrLong", laid_shale_api_ErrLong), ("shale/api.ErrCode", laid_shale_api_ErrCode)] }
def EncodeApartSaid : Prop := encodeApartRow.holds Tryd.pinned (OpenSpec.ofChange encodeApartSpec)

/-- ITS FALSE NEIGHBOUR: 'it returns false'. Refute it at one input. -/
def encodeApartWrong : ChangeSpec := { name := "encodeApart", fn := fun _ => fun
  | [d1, d2, d3, d4, d5] => { results := [.lit (.bool false)], args := [d1, d2, d3, d4, d5] }
  | _ => none }
def EncodeApartWrongFalsely : Prop := encodeApartRow.holds Tryd.pinned (OpenSpec.ofChange encodeApartWrong)

/-- 'shalelaw6.EncodeWide': WHATEVER THE INPUT: true; the input reads as it did. -/
def encodeWideSpec : ChangeSpec := { name := "encodeWide", fn := fun _ => fun
  | [d1, d2, d3, d4, d5] => { results := [.lit (.bool true)], args := [d1, d2, d3, d4, d5] }
  | _ => none }
def encodeWideRow : OpenClaim := { program := "ytnmallpimbpagaadoor", sum := "9a39e4f9f07a83387d9ed9fdcaf9502d6f14bfa5e6102cea7b6332b73ba6b36c", func := "shale/shalelaw6.EncodeWide", spec := "encodeWide", unfollowed := true, recurses := true, named := ["shale/api.ErrCode", "shale/api.ErrLong", "shale/api.ErrField", "shale/api.ErrNumber"], apart := false, laid := [("shale/api.ErrField", laid_shale_api_ErrField), ("shale/api.ErrNumber", laid_shale_api_ErrNumber), ("shale/api.ErrLong", laid_shale_api_ErrLong), ("shale/api.ErrCode", laid_shale_api_ErrCode)] }
def EncodeWideSaid : Prop := encodeWideRow.holds Tryd.pinned (OpenSpec.ofChange encodeWideSpec)

/-- ITS FALSE NEIGHBOUR: 'it returns false'. Refute it at one input. -/
def encodeWideWrong : ChangeSpec := { name := "encodeWide", fn := fun _ => fun
  | [d1, d2, d3, d4, d5] => { results := [.lit (.bool false)], args := [d1, d2, d3, d4, d5] }
  | _ => none }
def EncodeWideWrongFalsely : Prop := encodeWideRow.holds Tryd.pinned (OpenSpec.ofChange encodeWideWrong)

/-- 'shalelaw6.EncodeDivides': WHATEVER THE INPUT: true; the input reads as it did. -/
def encodeDividesSpec : ChangeSpec := { name := "encodeDivides", fn := fun _ => fun
  | [d1, d2, d3, d4] => { results := [.lit (.bool true)], args := [d1, d2, d3, d4] }
  | _ => none }
def encodeDividesRow : OpenClaim := { program := "ytnmallpimbpagaadoor", sum := "9a39e4f9f07a83387d9ed9fdcaf9502d6f14bfa5e6102cea7b6332b73ba6b36c", func := "shale/shalelaw6.EncodeDivides", spec := "encodeDivides", unfollowed := true, recurses := true, named := ["shale/api.ErrCode", "shale/api.ErrLong", "shale/api.ErrField", "shale/api.ErrNumber", "shale/api.ErrZero"], apart := false, laid := [("shale/api.ErrField", laid_shale_api_ErrField), ("shale/api.ErrNumber", laid_shale_api_ErrNumber), ("shale/api.ErrZero", laid_shale_api_ErrZero), ("shale/api.ErrLong", laid_shale_api_ErrLong), ("shale/api.ErrCode", laid_shale_api_ErrCode)] }
def EncodeDividesSaid : Prop := encodeDividesRow.holds Tryd.pinned (OpenSpec.ofChange encodeDividesSpec)

/-- ITS FALSE NEIGHBOUR: 'it returns false'. Refute it at one input. -/
def encodeDividesWrong : ChangeSpec := { name := "encodeDivides", fn := fun _ => fun
  | [d1, d2, d3, d4] => { results := [.lit (.bool false)], args := [d1, d2, d3, d4] }
  | _ => none }
def EncodeDividesWrongFalsely : Prop := encodeDividesRow.holds Tryd.pinned (OpenSpec.ofChange encodeDividesWrong)

/-- 'shalelaw6.EncodeFlips': WHATEVER THE INPUT: true; the input reads as it did. -/
def encodeFlipsSpec : ChangeSpec := { name := "encodeFlips", fn := fun _ => fun
  | [d1, d2, d3, d4, d5, d6] => { results := [.lit (.bool true)], args := [d1, d2, d3, d4, d5, d6] }
  | _ => none }
def encodeFlipsRow : OpenClaim := { program := "ytnmallpimbpagaadoor", sum := "9a39e4f9f07a83387d9ed9fdcaf9502d6f14bfa5e6102cea7b6332b73ba6b36c", func := "shale/shalelaw6.EncodeFlips", spec := "encodeFlips", unfollowed := true, recurses := true, named := ["shale/api.ErrNumber", "shale/api.ErrCode", "shale/api.ErrLong", "shale/api.ErrField"], apart := false, laid := [("shale/api.ErrField", laid_shale_api_ErrField), ("shale/api.ErrNumber", laid_shale_api_ErrNumber), ("shale/api.ErrLong", laid_shale_api_ErrLong), ("shale/api.ErrCode", laid_shale_api_ErrCode)] }
def EncodeFlipsSaid : Prop := encodeFlipsRow.holds Tryd.pinned (OpenSpec.ofChange encodeFlipsSpec)

/-- ITS FALSE NEIGHBOUR: 'it returns false'. Refute it at one input. -/
def encodeFlipsWrong : ChangeSpec := { name := "encodeFlips", fn := fun _ => fun
  | [d1, d2, d3, d4, d5, d6] => { results := [.lit (.bool false)], args := [d1, d2, d3, d4, d5, d6] }
  | _ => none }
def EncodeFlipsWrongFalsely : Prop := encodeFlipsRow.holds Tryd.pinned (OpenSpec.ofChange encodeFlipsWrong)

/- THE SECOND FORM. 'bulk': how many values and letters a reading holds, each counted each time it is reached (what is shared counts as often as it is met; a slice's spare places count too). A statement '..UptoSaid' is the law's where the arguments, and the package variables that the reading takes, are together of bulk at most 1048576: NARROWER than '..Said'. Prove '..Said' where nothing that the law and all that it calls make is longer than what came in: it says more and counts as full. Else prove '..UptoSaid'. A law counts once. -/
mutual
def uptoBulk {H : Type} : DataW H → Nat
  | .lit (.string bytes) => bytes.length + 1
  | .lit _ => 1
  | .nil => 1
  | .ptr d => uptoBulk d + 1
  | .slice elems spare => uptoBulkAll elems + uptoBulkAll spare + 1
  | .agg parts => uptoBulkAll parts + 1
  | .iface _ d => uptoBulk d + 1
  | .map entries => uptoBulkEntries entries + 1
  | .held _ => 1
def uptoBulkAll {H : Type} : List (DataW H) → Nat
  | [] => 0
  | d :: r => uptoBulk d + uptoBulkAll r
def uptoBulkEntries {H : Type} : List (Lit × DataW H) → Nat
  | [] => 0
  | x :: r => uptoBulkEntry x + uptoBulkEntries r
def uptoBulkEntry {H : Type} : Lit × DataW H → Nat
  | (.string bytes, d) => bytes.length + uptoBulk d + 1
  | (_, d) => uptoBulk d + 1
 end
def uptoSmall : (H : Type) → List (DataW H) → Bool := fun _ ds => decide (uptoBulkAll ds ≤ 1048576)
def OpenSpec.upto (s : _root_.Go.ChangeSpec) : _root_.Go.OpenSpec := { _root_.Go.OpenSpec.ofChange s with cond := some uptoSmall }

/-- 'shalelaw6.EncodeSays', WHERE WHAT IT READS IS OF BULK AT MOST 1048576: true; the input reads as it did. -/
def encodeSaysUptoRow : OpenClaim := { program := "ytnmallpimbpagaadoor", sum := "9a39e4f9f07a83387d9ed9fdcaf9502d6f14bfa5e6102cea7b6332b73ba6b36c", func := "shale/shalelaw6.EncodeSays", spec := "encodeSays", unfollowed := true, recurses := true, named := ["shale/api.ErrLong", "shale/api.ErrNumber", "shale/api.ErrCode", "shale/api.ErrField"], apart := false, laid := [("shale/api.ErrField", laid_shale_api_ErrField), ("shale/api.ErrNumber", laid_shale_api_ErrNumber), ("shale/api.ErrLong", laid_shale_api_ErrLong), ("shale/api.ErrCode", laid_shale_api_ErrCode)], narrowed := true }
def EncodeSaysUptoSaid : Prop := encodeSaysUptoRow.holds Tryd.pinned (OpenSpec.upto encodeSaysSpec)

/-- 'shalelaw6.EncodeLinear', WHERE WHAT IT READS IS OF BULK AT MOST 1048576: true; the input reads as it did. -/
def encodeLinearUptoRow : OpenClaim := { program := "ytnmallpimbpagaadoor", sum := "9a39e4f9f07a83387d9ed9fdcaf9502d6f14bfa5e6102cea7b6332b73ba6b36c", func := "shale/shalelaw6.EncodeLinear", spec := "encodeLinear", unfollowed := true, recurses := true, named := ["shale/api.ErrCode", "shale/api.ErrLong", "shale/api.ErrField", "shale/api.ErrNumber"], apart := false, laid := [("shale/api.ErrField", laid_shale_api_ErrField), ("shale/api.ErrNumber", laid_shale_api_ErrNumber), ("shale/api.ErrLong", laid_shale_api_ErrLong), ("shale/api.ErrCode", laid_shale_api_ErrCode)], narrowed := true }
def EncodeLinearUptoSaid : Prop := encodeLinearUptoRow.holds Tryd.pinned (OpenSpec.upto encodeLinearSpec)

/-- 'shalelaw6.EncodeApart', WHERE WHAT IT READS IS OF BULK AT MOST 1048576: true; the input reads as it did. -/
def encodeApartUptoRow : OpenClaim := { program := "ytnmallpimbpagaadoor", sum := "9a39e4f9f07a83387d9ed9fdcaf9502d6f14bfa5e6102cea7b6332b73ba6b36c", func := "shale/shalelaw6.EncodeApart", spec := "encodeApart", unfollowed := true, recurses := true, named := ["shale/api.ErrCode", "shale/api.ErrLong", "shale/api.ErrField", "shale/api.ErrNumber"], apart := false, laid := [("shale/api.ErrField", laid_shale_api_ErrField), ("shale/api.ErrNumber", laid_shale_api_ErrNumber), ("shale/api.ErrLong", laid_shale_api_ErrLong), ("shale/api.ErrCode", laid_shale_api_ErrCode)], narrowed := true }
def EncodeApartUptoSaid : Prop := encodeApartUptoRow.holds Tryd.pinned (OpenSpec.upto encodeApartSpec)

/-- 'shalelaw6.EncodeWide', WHERE WHAT IT READS IS OF BULK AT MOST 1048576: true; the input reads as it did. -/
def encodeWideUptoRow : OpenClaim := { program := "ytnmallpimbpagaadoor", sum := "9a39e4f9f07a83387d9ed9fdcaf9502d6f14bfa5e6102cea7b6332b73ba6b36c", func := "shale/shalelaw6.EncodeWide", spec := "encodeWide", unfollowed := true, recurses := true, named := ["shale/api.ErrCode", "shale/api.ErrLong", "shale/api.ErrField", "shale/api.ErrNumber"], apart := false, laid := [("shale/api.ErrField", laid_shale_api_ErrField), ("shale/api.ErrNumber", laid_shale_api_ErrNumber), ("shale/api.ErrLong", laid_shale_api_ErrLong), ("shale/api.ErrCode", laid_shale_api_ErrCode)], narrowed := true }
def EncodeWideUptoSaid : Prop := encodeWideUptoRow.holds Tryd.pinned (OpenSpec.upto encodeWideSpec)

/-- 'shalelaw6.EncodeDivides', WHERE WHAT IT READS IS OF BULK AT MOST 1048576: true; the input reads as it did. -/
def encodeDividesUptoRow : OpenClaim := { program := "ytnmallpimbpagaadoor", sum := "9a39e4f9f07a83387d9ed9fdcaf9502d6f14bfa5e6102cea7b6332b73ba6b36c", func := "shale/shalelaw6.EncodeDivides", spec := "encodeDivides", unfollowed := true, recurses := true, named := ["shale/api.ErrCode", "shale/api.ErrLong", "shale/api.ErrField", "shale/api.ErrNumber", "shale/api.ErrZero"], apart := false, laid := [("shale/api.ErrField", laid_shale_api_ErrField), ("shale/api.ErrNumber", laid_shale_api_ErrNumber), ("shale/api.ErrZero", laid_shale_api_ErrZero), ("shale/api.ErrLong", laid_shale_api_ErrLong), ("shale/api.ErrCode", laid_shale_api_ErrCode)], narrowed := true }
def EncodeDividesUptoSaid : Prop := encodeDividesUptoRow.holds Tryd.pinned (OpenSpec.upto encodeDividesSpec)

/-- 'shalelaw6.EncodeFlips', WHERE WHAT IT READS IS OF BULK AT MOST 1048576: true; the input reads as it did. -/
def encodeFlipsUptoRow : OpenClaim := { program := "ytnmallpimbpagaadoor", sum := "9a39e4f9f07a83387d9ed9fdcaf9502d6f14bfa5e6102cea7b6332b73ba6b36c", func := "shale/shalelaw6.EncodeFlips", spec := "encodeFlips", unfollowed := true, recurses := true, named := ["shale/api.ErrNumber", "shale/api.ErrCode", "shale/api.ErrLong", "shale/api.ErrField"], apart := false, laid := [("shale/api.ErrField", laid_shale_api_ErrField), ("shale/api.ErrNumber", laid_shale_api_ErrNumber), ("shale/api.ErrLong", laid_shale_api_ErrLong), ("shale/api.ErrCode", laid_shale_api_ErrCode)], narrowed := true }
def EncodeFlipsUptoSaid : Prop := encodeFlipsUptoRow.holds Tryd.pinned (OpenSpec.upto encodeFlipsSpec)

end Rows
end Go.Proofs.YtnmallpimbpagaaDoor
