/-
  NARROWER THAN 'FOR EVERY INPUT', by the rows' own cells (each row's printed sentence says how): PolySays: laid · PolyRoots: laid · PolyRing: laid · PolyLong: laid · PolyGcds: laid · PolyOwn: laid.
  DERIVED. THE GIVEN ROWS OF THIS SEAT. 6 by the template 'for every input the law returns true; each argument reads behind the call as it read before'; 0 by the template 'total and deterministic' (their statements: YtgfaaaeechgjmaaDoorTotals.lean).
  GIVEN WITH THE SEED: the statements are not yours to turn. If you find one false, say at which input.
  Laid BY PROGRAM, IN A SANDBOX (cutbox-rows.mjs): the forced cells as the released guide's own fill.sh prints them over the translation c9c066976fcf4be1… (all of the seat's roots in one cut). By AI agents, Wed Nov 11 2026. No macro, syntax, notation, axiom, sorry.
-/
import Derived.Test.YtgfaaaeechgjmaaDoorChecked
import GoSem.Claim
import GoSem.ClaimJoined
import GoSem.ClaimMapViews
import Derived.JoinedTies
import Derived.KernelRfl
namespace Go.Proofs.YtgfaaaeechgjmaaDoor
/- THE CELL 'sum', in the pinned program and in every row, IS THE sha256 OF THE DUMP (.gsa) THAT YtgfaaaeechgjmaaDoorProg.lean LOADS. Nothing in Lean hashes anything: it is a label: what it is worth is what the hold of that sum in a sandbox is worth. -/
noncomputable def Tryd.pinned : Pinned := { name := "ytgfaaaeechgjmaadoor", sum := "c9c066976fcf4be1b5d175da1f4417771e594fbf91bdee65ba679c9d26a12317", checked := Tryd.checked }
namespace Rows
def none {H : Type} : Left H := { results := [], args := [] }

/- WHAT THE LISTED PACKAGE-LEVEL VARIABLES READ AS WHEN THE CALL BEGINS. Each datum BY PROGRAM (the guide's laid-datum.mjs) off the statement by which the dump's own 'gosem.cut.vars' lays the variable. In a bare row this is a premise. The card (YtgfaaaeechgjmaaDoorCards.lean) ties it to the program's text. -/
def laid_shale_api_ErrField {H : Type} : DataW H := .iface "*errors.errorString" (.ptr (.agg [.lit (.string [110, 111, 32, 115, 117, 99, 104, 32, 102, 105, 101, 108, 100])]))
def laid_shale_api_ErrZero {H : Type} : DataW H := .iface "*errors.errorString" (.ptr (.agg [.lit (.string [122, 101, 114, 111, 32, 104, 97, 115, 32, 110, 111, 110, 101])]))
def laid_shale_api_ErrLong {H : Type} : DataW H := .iface "*errors.errorString" (.ptr (.agg [.lit (.string [116, 111, 111, 32, 108, 111, 110, 103])]))

/-- 'shalelaw4.PolySays': WHATEVER THE INPUT: true; the input reads as it did. -/
def polySaysSpec : ChangeSpec := { name := "polySays", fn := fun _ => fun
  | [d1, d2, d3, d4] => { results := [.lit (.bool true)], args := [d1, d2, d3, d4] }
  | _ => none }
def polySaysRow : OpenClaim := { program := "ytgfaaaeechgjmaadoor", sum := "c9c066976fcf4be1b5d175da1f4417771e594fbf91bdee65ba679c9d26a12317", func := "shale/shalelaw4.PolySays", spec := "polySays", unfollowed := true, recurses := true, named := ["shale/api.ErrZero", "shale/api.ErrField", "shale/api.ErrLong"], apart := false, laid := [("shale/api.ErrField", laid_shale_api_ErrField), ("shale/api.ErrZero", laid_shale_api_ErrZero), ("shale/api.ErrLong", laid_shale_api_ErrLong)] }
def PolySaysSaid : Prop := polySaysRow.holds Tryd.pinned (OpenSpec.ofChange polySaysSpec)

/-- ITS FALSE NEIGHBOUR: 'it returns false'. Refute it at one input. -/
def polySaysWrong : ChangeSpec := { name := "polySays", fn := fun _ => fun
  | [d1, d2, d3, d4] => { results := [.lit (.bool false)], args := [d1, d2, d3, d4] }
  | _ => none }
def PolySaysWrongFalsely : Prop := polySaysRow.holds Tryd.pinned (OpenSpec.ofChange polySaysWrong)

/-- 'shalelaw4.PolyRoots': WHATEVER THE INPUT: true; the input reads as it did. -/
def polyRootsSpec : ChangeSpec := { name := "polyRoots", fn := fun _ => fun
  | [d1, d2] => { results := [.lit (.bool true)], args := [d1, d2] }
  | _ => none }
def polyRootsRow : OpenClaim := { program := "ytgfaaaeechgjmaadoor", sum := "c9c066976fcf4be1b5d175da1f4417771e594fbf91bdee65ba679c9d26a12317", func := "shale/shalelaw4.PolyRoots", spec := "polyRoots", unfollowed := true, recurses := true, named := ["shale/api.ErrField", "shale/api.ErrLong", "shale/api.ErrZero"], apart := false, laid := [("shale/api.ErrField", laid_shale_api_ErrField), ("shale/api.ErrZero", laid_shale_api_ErrZero), ("shale/api.ErrLong", laid_shale_api_ErrLong)] }
def PolyRootsSaid : Prop := polyRootsRow.holds Tryd.pinned (OpenSpec.ofChange polyRootsSpec)

/-- ITS FALSE NEIGHBOUR: 'it returns false'. Refute it at one input. -/
def polyRootsWrong : ChangeSpec := { name := "polyRoots", fn := fun _ => fun
  | [d1, d2] => { results := [.lit (.bool false)], args := [d1, d2] }
  | _ => none }
def PolyRootsWrongFalsely : Prop := polyRootsRow.holds Tryd.pinned (OpenSpec.ofChange polyRootsWrong)

/-- 'shalelaw4.PolyRing': WHATEVER THE INPUT: true; the input reads as it did. -/
def polyRingSpec : ChangeSpec := { name := "polyRing", fn := fun _ => fun
  | [d1, d2, d3, d4] => { results := [.lit (.bool true)], args := [d1, d2, d3, d4] }
  | _ => none }
def polyRingRow : OpenClaim := { program := "ytgfaaaeechgjmaadoor", sum := "c9c066976fcf4be1b5d175da1f4417771e594fbf91bdee65ba679c9d26a12317", func := "shale/shalelaw4.PolyRing", spec := "polyRing", unfollowed := true, recurses := true, named := ["shale/api.ErrField", "shale/api.ErrLong", "shale/api.ErrZero"], apart := false, laid := [("shale/api.ErrField", laid_shale_api_ErrField), ("shale/api.ErrZero", laid_shale_api_ErrZero), ("shale/api.ErrLong", laid_shale_api_ErrLong)] }
def PolyRingSaid : Prop := polyRingRow.holds Tryd.pinned (OpenSpec.ofChange polyRingSpec)

/-- ITS FALSE NEIGHBOUR: 'it returns false'. Refute it at one input. -/
def polyRingWrong : ChangeSpec := { name := "polyRing", fn := fun _ => fun
  | [d1, d2, d3, d4] => { results := [.lit (.bool false)], args := [d1, d2, d3, d4] }
  | _ => none }
def PolyRingWrongFalsely : Prop := polyRingRow.holds Tryd.pinned (OpenSpec.ofChange polyRingWrong)

/-- 'shalelaw4.PolyLong': WHATEVER THE INPUT: true; the input reads as it did. -/
def polyLongSpec : ChangeSpec := { name := "polyLong", fn := fun _ => fun
  | [d1, d2] => { results := [.lit (.bool true)], args := [d1, d2] }
  | _ => none }
def polyLongRow : OpenClaim := { program := "ytgfaaaeechgjmaadoor", sum := "c9c066976fcf4be1b5d175da1f4417771e594fbf91bdee65ba679c9d26a12317", func := "shale/shalelaw4.PolyLong", spec := "polyLong", unfollowed := true, recurses := true, named := ["shale/api.ErrLong", "shale/api.ErrField", "shale/api.ErrZero"], apart := false, laid := [("shale/api.ErrField", laid_shale_api_ErrField), ("shale/api.ErrZero", laid_shale_api_ErrZero), ("shale/api.ErrLong", laid_shale_api_ErrLong)] }
def PolyLongSaid : Prop := polyLongRow.holds Tryd.pinned (OpenSpec.ofChange polyLongSpec)

/-- ITS FALSE NEIGHBOUR: 'it returns false'. Refute it at one input. -/
def polyLongWrong : ChangeSpec := { name := "polyLong", fn := fun _ => fun
  | [d1, d2] => { results := [.lit (.bool false)], args := [d1, d2] }
  | _ => none }
def PolyLongWrongFalsely : Prop := polyLongRow.holds Tryd.pinned (OpenSpec.ofChange polyLongWrong)

/-- 'shalelaw4.PolyGcds': WHATEVER THE INPUT: true; the input reads as it did. -/
def polyGcdsSpec : ChangeSpec := { name := "polyGcds", fn := fun _ => fun
  | [d1, d2, d3, d4] => { results := [.lit (.bool true)], args := [d1, d2, d3, d4] }
  | _ => none }
def polyGcdsRow : OpenClaim := { program := "ytgfaaaeechgjmaadoor", sum := "c9c066976fcf4be1b5d175da1f4417771e594fbf91bdee65ba679c9d26a12317", func := "shale/shalelaw4.PolyGcds", spec := "polyGcds", unfollowed := true, recurses := true, named := ["shale/api.ErrField", "shale/api.ErrLong", "shale/api.ErrZero"], apart := false, laid := [("shale/api.ErrField", laid_shale_api_ErrField), ("shale/api.ErrZero", laid_shale_api_ErrZero), ("shale/api.ErrLong", laid_shale_api_ErrLong)] }
def PolyGcdsSaid : Prop := polyGcdsRow.holds Tryd.pinned (OpenSpec.ofChange polyGcdsSpec)

/-- ITS FALSE NEIGHBOUR: 'it returns false'. Refute it at one input. -/
def polyGcdsWrong : ChangeSpec := { name := "polyGcds", fn := fun _ => fun
  | [d1, d2, d3, d4] => { results := [.lit (.bool false)], args := [d1, d2, d3, d4] }
  | _ => none }
def PolyGcdsWrongFalsely : Prop := polyGcdsRow.holds Tryd.pinned (OpenSpec.ofChange polyGcdsWrong)

/-- 'shalelaw4.PolyOwn': WHATEVER THE INPUT: true; the input reads as it did. -/
def polyOwnSpec : ChangeSpec := { name := "polyOwn", fn := fun _ => fun
  | [d1, d2, d3] => { results := [.lit (.bool true)], args := [d1, d2, d3] }
  | _ => none }
def polyOwnRow : OpenClaim := { program := "ytgfaaaeechgjmaadoor", sum := "c9c066976fcf4be1b5d175da1f4417771e594fbf91bdee65ba679c9d26a12317", func := "shale/shalelaw4.PolyOwn", spec := "polyOwn", unfollowed := true, recurses := true, named := ["shale/api.ErrField", "shale/api.ErrLong", "shale/api.ErrZero"], apart := false, laid := [("shale/api.ErrField", laid_shale_api_ErrField), ("shale/api.ErrZero", laid_shale_api_ErrZero), ("shale/api.ErrLong", laid_shale_api_ErrLong)] }
def PolyOwnSaid : Prop := polyOwnRow.holds Tryd.pinned (OpenSpec.ofChange polyOwnSpec)

/-- ITS FALSE NEIGHBOUR: 'it returns false'. Refute it at one input. -/
def polyOwnWrong : ChangeSpec := { name := "polyOwn", fn := fun _ => fun
  | [d1, d2, d3] => { results := [.lit (.bool false)], args := [d1, d2, d3] }
  | _ => none }
def PolyOwnWrongFalsely : Prop := polyOwnRow.holds Tryd.pinned (OpenSpec.ofChange polyOwnWrong)

/- THE SECOND FORM. 'bulk': how many values and letters a reading holds, each counted each time it is reached (what is shared counts as often as it is met; a slice's spare places count too). A statement '..UptoSaid' is the law's where the arguments, and the package variables that the reading takes, are together of bulk at most 1048576: NARROWER than '..Said'. Prove '..Said' where nothing that the law and all that it calls make is longer than what came in: it says more and counts as full. Else prove '..UptoSaid'. A law counts once. -/
mutual
def uptoBulk {H : Type} : DataW H → Nat
  | .lit (.string bytes) => bytes.length + 1
  | .lit _ => 1
  | .nil => 1
  | .ptr d => uptoBulk d + 1
  | .slice elems spare => uptoBulkAll elems + uptoBulkAll spare + 1
  | .agg parts => uptoBulkAll parts + 1
  | .iface _ d => uptoBulk d + 1
  | .map entries => uptoBulkEntries entries + 1
  | .held _ => 1
def uptoBulkAll {H : Type} : List (DataW H) → Nat
  | [] => 0
  | d :: r => uptoBulk d + uptoBulkAll r
def uptoBulkEntries {H : Type} : List (Lit × DataW H) → Nat
  | [] => 0
  | x :: r => uptoBulkEntry x + uptoBulkEntries r
def uptoBulkEntry {H : Type} : Lit × DataW H → Nat
  | (.string bytes, d) => bytes.length + uptoBulk d + 1
  | (_, d) => uptoBulk d + 1
 end
def uptoSmall : (H : Type) → List (DataW H) → Bool := fun _ ds => decide (uptoBulkAll ds ≤ 1048576)
def OpenSpec.upto (s : _root_.Go.ChangeSpec) : _root_.Go.OpenSpec := { _root_.Go.OpenSpec.ofChange s with cond := some uptoSmall }

/-- 'shalelaw4.PolySays', WHERE WHAT IT READS IS OF BULK AT MOST 1048576: true; the input reads as it did. -/
def polySaysUptoRow : OpenClaim := { program := "ytgfaaaeechgjmaadoor", sum := "c9c066976fcf4be1b5d175da1f4417771e594fbf91bdee65ba679c9d26a12317", func := "shale/shalelaw4.PolySays", spec := "polySays", unfollowed := true, recurses := true, named := ["shale/api.ErrZero", "shale/api.ErrField", "shale/api.ErrLong"], apart := false, laid := [("shale/api.ErrField", laid_shale_api_ErrField), ("shale/api.ErrZero", laid_shale_api_ErrZero), ("shale/api.ErrLong", laid_shale_api_ErrLong)], narrowed := true }
def PolySaysUptoSaid : Prop := polySaysUptoRow.holds Tryd.pinned (OpenSpec.upto polySaysSpec)

/-- 'shalelaw4.PolyRoots', WHERE WHAT IT READS IS OF BULK AT MOST 1048576: true; the input reads as it did. -/
def polyRootsUptoRow : OpenClaim := { program := "ytgfaaaeechgjmaadoor", sum := "c9c066976fcf4be1b5d175da1f4417771e594fbf91bdee65ba679c9d26a12317", func := "shale/shalelaw4.PolyRoots", spec := "polyRoots", unfollowed := true, recurses := true, named := ["shale/api.ErrField", "shale/api.ErrLong", "shale/api.ErrZero"], apart := false, laid := [("shale/api.ErrField", laid_shale_api_ErrField), ("shale/api.ErrZero", laid_shale_api_ErrZero), ("shale/api.ErrLong", laid_shale_api_ErrLong)], narrowed := true }
def PolyRootsUptoSaid : Prop := polyRootsUptoRow.holds Tryd.pinned (OpenSpec.upto polyRootsSpec)

/-- 'shalelaw4.PolyRing', WHERE WHAT IT READS IS OF BULK AT MOST 1048576: true; the input reads as it did. -/
def polyRingUptoRow : OpenClaim := { program := "ytgfaaaeechgjmaadoor", sum := "c9c066976fcf4be1b5d175da1f4417771e594fbf91bdee65ba679c9d26a12317", func := "shale/shalelaw4.PolyRing", spec := "polyRing", unfollowed := true, recurses := true, named := ["shale/api.ErrField", "shale/api.ErrLong", "shale/api.ErrZero"], apart := false, laid := [("shale/api.ErrField", laid_shale_api_ErrField), ("shale/api.ErrZero", laid_shale_api_ErrZero), ("shale/api.ErrLong", laid_shale_api_ErrLong)], narrowed := true }
def PolyRingUptoSaid : Prop := polyRingUptoRow.holds Tryd.pinned (OpenSpec.upto polyRingSpec)

/-- 'shalelaw4.PolyLong', WHERE WHAT IT READS IS OF BULK AT MOST 1048576: true; the input reads as it did. -/
def polyLongUptoRow : OpenClaim := { program := "ytgfaaaeechgjmaadoor", sum := "c9c066976fcf4be1b5d175da1f4417771e594fbf91bdee65ba679c9d26a12317", func := "shale/shalelaw4.PolyLong", spec := "polyLong", unfollowed := true, recurses := true, named := ["shale/api.ErrLong", "shale/api.ErrField", "shale/api.ErrZero"], apart := false, laid := [("shale/api.ErrField", laid_shale_api_ErrField), ("shale/api.ErrZero", laid_shale_api_ErrZero), ("shale/api.ErrLong", laid_shale_api_ErrLong)], narrowed := true }
def PolyLongUptoSaid : Prop := polyLongUptoRow.holds Tryd.pinned (OpenSpec.upto polyLongSpec)

/-- 'shalelaw4.PolyGcds', WHERE WHAT IT READS IS OF BULK AT MOST 1048576: true; the input reads as it did. -/
def polyGcdsUptoRow : OpenClaim := { program := "ytgfaaaeechgjmaadoor", sum := "c9c066976fcf4be1b5d175da1f4417771e594fbf91bdee65ba679c9d26a12317", func := "shale/shalelaw4.PolyGcds", spec := "polyGcds", unfollowed := true, recurses := true, named := ["shale/api.ErrField", "shale/api.ErrLong", "shale/api.ErrZero"], apart := false, laid := [("shale/api.ErrField", laid_shale_api_ErrField), ("shale/api.ErrZero", laid_shale_api_ErrZero), ("shale/api.ErrLong", laid_shale_api_ErrLong)], narrowed := true }
def PolyGcdsUptoSaid : Prop := polyGcdsUptoRow.holds Tryd.pinned (OpenSpec.upto polyGcdsSpec)

/-- 'shalelaw4.PolyOwn', WHERE WHAT IT READS IS OF BULK AT MOST 1048576: true; the input reads as it did. -/
def polyOwnUptoRow : OpenClaim := { program := "ytgfaaaeechgjmaadoor", sum := "c9c066976fcf4be1b5d175da1f4417771e594fbf91bdee65ba679c9d26a12317", func := "shale/shalelaw4.PolyOwn", spec := "polyOwn", unfollowed := true, recurses := true, named := ["shale/api.ErrField", "shale/api.ErrLong", "shale/api.ErrZero"], apart := false, laid := [("shale/api.ErrField", laid_shale_api_ErrField), ("shale/api.ErrZero", laid_shale_api_ErrZero), ("shale/api.ErrLong", laid_shale_api_ErrLong)], narrowed := true }
def PolyOwnUptoSaid : Prop := polyOwnUptoRow.holds Tryd.pinned (OpenSpec.upto polyOwnSpec)

end Rows
end Go.Proofs.YtgfaaaeechgjmaaDoor
