/- What the variables that the row of PageMeasures lists give its walk; a world that holds them. By the verifier of shale. -/
import Derived.Test.YtdhcigiaidlmbaaGreatDoorGreat1
import Derived.Test.YtdhcigiaidlmbaaGreatDoorGreat2
import Derived.Test.YtdhcigiaidlmbaaGreatDoorGreat3
import Derived.Test.YtdhcigiaidlmbaaGreatDoorGreat4
import Derived.Test.YtdhcigiaidlmbaaGreatDoorGreat5
import Derived.Test.YtdhcigiaidlmbaaGreatDoorGreat6
import Derived.Test.YtdhcigiaidlmbaaGreatDoorRows
import Derived.Lib.LaidTab
import Derived.Deep.DeepHandedRow
import Derived.MakeChecks
namespace Go.Proofs.YtdhcigiaidlmbaaGreatDoor.LaidPageMeasures
open Go Go.RowKit
set_option linter.unusedVariables false
/-- what the walk is told. -/
def Holds (W : World) : Prop := Crc.Tab W ∧ ∃ f : Nat → Addr, (ErrAt W 5 (f 1) ∧ ErrAt W 7 (f 2) ∧ ErrAt W 9 (f 3) ∧ ErrAt W 3 (f 4) ∧ ErrAt W 4 (f 5) ∧ ErrAt W 6 (f 6) ∧ ErrAt W 1 (f 7) ∧ ErrAt W 2 (f 8) ∧ ErrAt W 10 (f 9) ∧ ErrAt W 11 (f 10) ∧ ErrAt W 12 (f 11) ∧ ErrAt W 13 (f 12) ∧ ErrAt W 14 (f 13) ∧ ErrAt W 15 (f 14) ∧ ErrAt W 16 (f 15) ∧ ErrAt W 0 (f 16) ∧ ErrAt W 17 (f 17) ∧ ErrAt W 18 (f 18) ∧ ErrAt W 19 (f 19)) ∧ (∀ i j, 1 ≤ i → i < 20 → 1 ≤ j → j < 20 → i ≠ j → f i ≠ f j)
theorem isErr1 : IsErr Rows.pageMeasuresRow.laid 1 5 := ⟨"shale/api.ErrField", [110, 111, 32, 115, 117, 99, 104, 32, 102, 105, 101, 108, 100], rfl, by kernel_rfl, by kernel_rfl⟩
theorem isErr2 : IsErr Rows.pageMeasuresRow.laid 2 7 := ⟨"shale/api.ErrNumber", [110, 111, 32, 115, 117, 99, 104, 32, 110, 117, 109, 98, 101, 114], rfl, by kernel_rfl, by kernel_rfl⟩
theorem isErr3 : IsErr Rows.pageMeasuresRow.laid 3 9 := ⟨"shale/api.ErrZero", [122, 101, 114, 111, 32, 104, 97, 115, 32, 110, 111, 110, 101], rfl, by kernel_rfl, by kernel_rfl⟩
theorem isErr4 : IsErr Rows.pageMeasuresRow.laid 4 3 := ⟨"shale/api.ErrLong", [116, 111, 111, 32, 108, 111, 110, 103], rfl, by kernel_rfl, by kernel_rfl⟩
theorem isErr5 : IsErr Rows.pageMeasuresRow.laid 5 4 := ⟨"shale/api.ErrCode", [110, 111, 32, 115, 117, 99, 104, 32, 99, 111, 100, 101], rfl, by kernel_rfl, by kernel_rfl⟩
theorem isErr6 : IsErr Rows.pageMeasuresRow.laid 6 6 := ⟨"shale/api.ErrMany", [109, 111, 114, 101, 32, 105, 115, 32, 97, 109, 105, 115, 115, 32, 116, 104, 97, 110, 32, 99, 97, 110, 32, 98, 101, 32, 109, 101, 110, 100, 101, 100], rfl, by kernel_rfl, by kernel_rfl⟩
theorem isErr7 : IsErr Rows.pageMeasuresRow.laid 7 1 := ⟨"shale/api.ErrRecord", [110, 111, 32, 114, 101, 99, 111, 114, 100], rfl, by kernel_rfl, by kernel_rfl⟩
theorem isErr8 : IsErr Rows.pageMeasuresRow.laid 8 2 := ⟨"shale/api.ErrGeometry", [110, 111, 32, 115, 117, 99, 104, 32, 99, 104, 105, 112], rfl, by kernel_rfl, by kernel_rfl⟩
theorem isErr9 : IsErr Rows.pageMeasuresRow.laid 9 10 := ⟨"shale/api.ErrDead", [116, 104, 101, 32, 112, 111, 119, 101, 114, 32, 105, 115, 32, 111, 102, 102], rfl, by kernel_rfl, by kernel_rfl⟩
theorem isErr10 : IsErr Rows.pageMeasuresRow.laid 10 11 := ⟨"shale/api.ErrOrder", [105, 116, 32, 100, 111, 101, 115, 32, 110, 111, 116, 32, 99, 111, 109, 101, 32, 104, 101, 114, 101], rfl, by kernel_rfl, by kernel_rfl⟩
theorem isErr11 : IsErr Rows.pageMeasuresRow.laid 11 12 := ⟨"shale/api.ErrFailed", [116, 104, 101, 32, 99, 104, 105, 112, 32, 102, 97, 105, 108, 101, 100], rfl, by kernel_rfl, by kernel_rfl⟩
theorem isErr12 : IsErr Rows.pageMeasuresRow.laid 12 13 := ⟨"shale/api.ErrBad", [116, 104, 101, 32, 98, 108, 111, 99, 107, 32, 105, 115, 32, 98, 97, 100], rfl, by kernel_rfl, by kernel_rfl⟩
theorem isErr13 : IsErr Rows.pageMeasuresRow.laid 13 14 := ⟨"shale/api.ErrPage", [116, 104, 101, 32, 112, 97, 103, 101, 32, 99, 97, 110, 110, 111, 116, 32, 98, 101, 32, 114, 101, 97, 100], rfl, by kernel_rfl, by kernel_rfl⟩
theorem isErr14 : IsErr Rows.pageMeasuresRow.laid 14 15 := ⟨"shale/api.ErrFull", [110, 111, 32, 114, 111, 111, 109], rfl, by kernel_rfl, by kernel_rfl⟩
theorem isErr15 : IsErr Rows.pageMeasuresRow.laid 15 16 := ⟨"shale/api.ErrGone", [105, 116, 32, 105, 115, 32, 110, 111, 116, 32, 116, 104, 101, 114, 101], rfl, by kernel_rfl, by kernel_rfl⟩
theorem isErr16 : IsErr Rows.pageMeasuresRow.laid 16 0 := ⟨"shale/api.ErrSize", [110, 111, 32, 115, 101, 99, 116, 111, 114, 39, 115, 32, 115, 105, 122, 101], rfl, by kernel_rfl, by kernel_rfl⟩
theorem isErr17 : IsErr Rows.pageMeasuresRow.laid 17 17 := ⟨"shale/api.ErrReadOnly", [105, 116, 32, 99, 97, 110, 32, 111, 110, 108, 121, 32, 98, 101, 32, 114, 101, 97, 100], rfl, by kernel_rfl, by kernel_rfl⟩
theorem isErr18 : IsErr Rows.pageMeasuresRow.laid 18 18 := ⟨"shale/api.ErrStep", [110, 111, 32, 115, 117, 99, 104, 32, 115, 116, 101, 112], rfl, by kernel_rfl, by kernel_rfl⟩
theorem isErr19 : IsErr Rows.pageMeasuresRow.laid 19 19 := ⟨"shale/api.ErrMount", [105, 116, 32, 105, 115, 32, 110, 111, 116, 32, 109, 111, 117, 110, 116, 101, 100], rfl, by kernel_rfl, by kernel_rfl⟩
theorem isErr (i : Nat) (h0 : 1 ≤ i) (hi : i < 20) : ∃ g, IsErr Rows.pageMeasuresRow.laid i g := by
  rcases (by omega : i = 1 ∨ i = 2 ∨ i = 3 ∨ i = 4 ∨ i = 5 ∨ i = 6 ∨ i = 7 ∨ i = 8 ∨ i = 9 ∨ i = 10 ∨ i = 11 ∨ i = 12 ∨ i = 13 ∨ i = 14 ∨ i = 15 ∨ i = 16 ∨ i = 17 ∨ i = 18 ∨ i = 19) with rfl | rfl | rfl | rfl | rfl | rfl | rfl | rfl | rfl | rfl | rfl | rfl | rfl | rfl | rfl | rfl | rfl | rfl | rfl
  · exact ⟨_, isErr1⟩
  · exact ⟨_, isErr2⟩
  · exact ⟨_, isErr3⟩
  · exact ⟨_, isErr4⟩
  · exact ⟨_, isErr5⟩
  · exact ⟨_, isErr6⟩
  · exact ⟨_, isErr7⟩
  · exact ⟨_, isErr8⟩
  · exact ⟨_, isErr9⟩
  · exact ⟨_, isErr10⟩
  · exact ⟨_, isErr11⟩
  · exact ⟨_, isErr12⟩
  · exact ⟨_, isErr13⟩
  · exact ⟨_, isErr14⟩
  · exact ⟨_, isErr15⟩
  · exact ⟨_, isErr16⟩
  · exact ⟨_, isErr17⟩
  · exact ⟨_, isErr18⟩
  · exact ⟨_, isErr19⟩
theorem plain {W : World} (h : laidMetH Tryz.prog Rows.pageMeasuresRow.laid W) : laidMet Tryz.prog Rows.pageMeasuresRow.laid W := by
  rw [MakeChecks.laidMetH_plain _ _ _ (by kernel_rfl)] at h; exact h
theorem gTabType : (Tryz.prog.globals[8]?).map (·.type) = some 224 := by kernel_rfl
theorem cellsT : Tryz.prog.cellsOf 224 = 16 := by kernel_rfl
theorem cellsE : Tryz.prog.cellsOf 172 = 1 := by kernel_rfl
def zs : List Int := [0, 498536548, 997073096, 651767980, 1994146192, 1802195444, 1303535960, 1342533948, 3988292384, 4027552580, 3604390888, 3412177804, 2607071920, 2262029012, 2685067896, 3183342108]
theorem zs_at : ∀ i : Fin 16, zs.getD i 0 = Bits32.u (Crc.ups 4 (BitVec.ofNat 32 i)) := by decide +kernel
theorem tab {W : World} (h : laidMet Tryz.prog Rows.pageMeasuresRow.laid W) : Crc.Tab W := by
  have h1 : laidMet Tryz.prog (Rows.pageMeasuresRow.laid.drop 0) W := h
  have t : Lib.TabIs Tryz.prog W "shale/crc.halves" .u32 zs := Lib.tabIs_of_head (rest := Rows.pageMeasuresRow.laid.drop 1) (by kernel_rfl) gTabType Tryz.underlying224 Tryz.underlying172 cellsE cellsT (by first | exact h1 | (rw [MakeChecks.laidMetH_plain _ _ _ (by kernel_rfl)]; exact h1))
  intro x
  have h2 := Bits32.and15_lt x
  have h1 := Bits32.u_lo (x &&& 15#32)
  have c := t.cell (g := 8) (by kernel_rfl) (Bits32.u (x &&& 15#32)).toNat (by show _ < 16; omega)
  have z := zs_at ⟨(Bits32.u (x &&& 15#32)).toNat, by omega⟩
  simp only at z
  rw [c, z]
  congr 4
  apply BitVec.eq_of_toNat_eq
  rw [BitVec.toNat_ofNat]
  unfold Bits32.u at *
  have := (x &&& 15#32).isLt
  omega
theorem holds {W : World} (h : laidMetH Tryz.prog Rows.pageMeasuresRow.laid W) : Holds W := by
  have h := plain h
  obtain ⟨f, f1, f2⟩ := laid_errs' _ h
  exact ⟨tab h, ⟨f, ⟨f1 _ _ isErr1, f1 _ _ isErr2, f1 _ _ isErr3, f1 _ _ isErr4, f1 _ _ isErr5, f1 _ _ isErr6, f1 _ _ isErr7, f1 _ _ isErr8, f1 _ _ isErr9, f1 _ _ isErr10, f1 _ _ isErr11, f1 _ _ isErr12, f1 _ _ isErr13, f1 _ _ isErr14, f1 _ _ isErr15, f1 _ _ isErr16, f1 _ _ isErr17, f1 _ _ isErr18, f1 _ _ isErr19⟩, fun i j h0 hi h1 hj hij => by obtain ⟨g, a⟩ := isErr i h0 hi; obtain ⟨k, b⟩ := isErr j h1 hj; exact f2 i j g k a b hij⟩⟩
noncomputable def low : Nat := (World.holding Tryz.prog default ⟨#[], #[], []⟩).heap.size
/-- A WORLD FOR THE WITNESS: the settled one, the variables holding what their initialisers lay. -/
noncomputable def world (os : Os) : World :=
  let w0 := World.holding Tryz.prog os ⟨#[.cells #[.string { data := #[110, 111, 32, 115, 117, 99, 104, 32, 102, 105, 101, 108, 100] }] 289, .cells #[.string { data := #[110, 111, 32, 115, 117, 99, 104, 32, 110, 117, 109, 98, 101, 114] }] 289, .cells #[.string { data := #[122, 101, 114, 111, 32, 104, 97, 115, 32, 110, 111, 110, 101] }] 289, .cells #[.string { data := #[116, 111, 111, 32, 108, 111, 110, 103] }] 289, .cells #[.string { data := #[110, 111, 32, 115, 117, 99, 104, 32, 99, 111, 100, 101] }] 289, .cells #[.string { data := #[109, 111, 114, 101, 32, 105, 115, 32, 97, 109, 105, 115, 115, 32, 116, 104, 97, 110, 32, 99, 97, 110, 32, 98, 101, 32, 109, 101, 110, 100, 101, 100] }] 289, .cells #[.string { data := #[110, 111, 32, 114, 101, 99, 111, 114, 100] }] 289, .cells #[.string { data := #[110, 111, 32, 115, 117, 99, 104, 32, 99, 104, 105, 112] }] 289, .cells #[.string { data := #[116, 104, 101, 32, 112, 111, 119, 101, 114, 32, 105, 115, 32, 111, 102, 102] }] 289, .cells #[.string { data := #[105, 116, 32, 100, 111, 101, 115, 32, 110, 111, 116, 32, 99, 111, 109, 101, 32, 104, 101, 114, 101] }] 289, .cells #[.string { data := #[116, 104, 101, 32, 99, 104, 105, 112, 32, 102, 97, 105, 108, 101, 100] }] 289, .cells #[.string { data := #[116, 104, 101, 32, 98, 108, 111, 99, 107, 32, 105, 115, 32, 98, 97, 100] }] 289, .cells #[.string { data := #[116, 104, 101, 32, 112, 97, 103, 101, 32, 99, 97, 110, 110, 111, 116, 32, 98, 101, 32, 114, 101, 97, 100] }] 289, .cells #[.string { data := #[110, 111, 32, 114, 111, 111, 109] }] 289, .cells #[.string { data := #[105, 116, 32, 105, 115, 32, 110, 111, 116, 32, 116, 104, 101, 114, 101] }] 289, .cells #[.string { data := #[110, 111, 32, 115, 101, 99, 116, 111, 114, 39, 115, 32, 115, 105, 122, 101] }] 289, .cells #[.string { data := #[105, 116, 32, 99, 97, 110, 32, 111, 110, 108, 121, 32, 98, 101, 32, 114, 101, 97, 100] }] 289, .cells #[.string { data := #[110, 111, 32, 115, 117, 99, 104, 32, 115, 116, 101, 112] }] 289, .cells #[.string { data := #[105, 116, 32, 105, 115, 32, 110, 111, 116, 32, 109, 111, 117, 110, 116, 101, 100] }] 289], #[], []⟩
  { w0 with heap := ((((((((((((((((((((w0.heap.modify 5 fun
      | .cells _ t frozen => .cells #[.iface 272 (.pointer (some ⟨low + 0, 0, none⟩))] t frozen
      | o => o).modify 7 fun
      | .cells _ t frozen => .cells #[.iface 272 (.pointer (some ⟨low + 1, 0, none⟩))] t frozen
      | o => o).modify 9 fun
      | .cells _ t frozen => .cells #[.iface 272 (.pointer (some ⟨low + 2, 0, none⟩))] t frozen
      | o => o).modify 3 fun
      | .cells _ t frozen => .cells #[.iface 272 (.pointer (some ⟨low + 3, 0, none⟩))] t frozen
      | o => o).modify 4 fun
      | .cells _ t frozen => .cells #[.iface 272 (.pointer (some ⟨low + 4, 0, none⟩))] t frozen
      | o => o).modify 6 fun
      | .cells _ t frozen => .cells #[.iface 272 (.pointer (some ⟨low + 5, 0, none⟩))] t frozen
      | o => o).modify 1 fun
      | .cells _ t frozen => .cells #[.iface 272 (.pointer (some ⟨low + 6, 0, none⟩))] t frozen
      | o => o).modify 2 fun
      | .cells _ t frozen => .cells #[.iface 272 (.pointer (some ⟨low + 7, 0, none⟩))] t frozen
      | o => o).modify 10 fun
      | .cells _ t frozen => .cells #[.iface 272 (.pointer (some ⟨low + 8, 0, none⟩))] t frozen
      | o => o).modify 11 fun
      | .cells _ t frozen => .cells #[.iface 272 (.pointer (some ⟨low + 9, 0, none⟩))] t frozen
      | o => o).modify 12 fun
      | .cells _ t frozen => .cells #[.iface 272 (.pointer (some ⟨low + 10, 0, none⟩))] t frozen
      | o => o).modify 13 fun
      | .cells _ t frozen => .cells #[.iface 272 (.pointer (some ⟨low + 11, 0, none⟩))] t frozen
      | o => o).modify 14 fun
      | .cells _ t frozen => .cells #[.iface 272 (.pointer (some ⟨low + 12, 0, none⟩))] t frozen
      | o => o).modify 15 fun
      | .cells _ t frozen => .cells #[.iface 272 (.pointer (some ⟨low + 13, 0, none⟩))] t frozen
      | o => o).modify 16 fun
      | .cells _ t frozen => .cells #[.iface 272 (.pointer (some ⟨low + 14, 0, none⟩))] t frozen
      | o => o).modify 0 fun
      | .cells _ t frozen => .cells #[.iface 272 (.pointer (some ⟨low + 15, 0, none⟩))] t frozen
      | o => o).modify 17 fun
      | .cells _ t frozen => .cells #[.iface 272 (.pointer (some ⟨low + 16, 0, none⟩))] t frozen
      | o => o).modify 18 fun
      | .cells _ t frozen => .cells #[.iface 272 (.pointer (some ⟨low + 17, 0, none⟩))] t frozen
      | o => o).modify 19 fun
      | .cells _ t frozen => .cells #[.iface 272 (.pointer (some ⟨low + 18, 0, none⟩))] t frozen
      | o => o).modify 8 fun
      | .cells _ t frozen => .cells #[.int .u32 0, .int .u32 498536548, .int .u32 997073096, .int .u32 651767980, .int .u32 1994146192, .int .u32 1802195444, .int .u32 1303535960, .int .u32 1342533948, .int .u32 3988292384, .int .u32 4027552580, .int .u32 3604390888, .int .u32 3412177804, .int .u32 2607071920, .int .u32 2262029012, .int .u32 2685067896, .int .u32 3183342108] t frozen
      | o => o) }
theorem met (os : Os) (args : Array Value) : laidMet Tryz.prog Rows.pageMeasuresRow.laid ((world os).forCall (fun _ _ => 0) ⟨#[], args, []⟩).memory :=
  laidMet_of_run' 8 (by kernel_rfl) (by kernel_rfl)
end Go.Proofs.YtdhcigiaidlmbaaGreatDoor.LaidPageMeasures
