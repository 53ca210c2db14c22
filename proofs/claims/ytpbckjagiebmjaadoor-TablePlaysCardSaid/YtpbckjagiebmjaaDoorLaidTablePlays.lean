/- What the variables that the row of TablePlays lists give its walk; a world that holds them. By the verifier of shale. -/
import Derived.Test.YtpbckjagiebmjaaDoorGreat1
import Derived.Test.YtpbckjagiebmjaaDoorGreat2
import Derived.Test.YtpbckjagiebmjaaDoorGreat3
import Derived.Test.YtpbckjagiebmjaaDoorRows
import Derived.Deep.DeepHandedRow
import Derived.MakeChecks
namespace Go.Proofs.YtpbckjagiebmjaaDoor.LaidTablePlays
open Go Go.RowKit
set_option linter.unusedVariables false
/-- what the walk is told. -/
def Holds (W : World) : Prop := ∃ f : Nat → Addr, (ErrAt W 3 (f 0) ∧ ErrAt W 2 (f 1) ∧ ErrAt W 4 (f 2) ∧ ErrAt W 5 (f 3) ∧ ErrAt W 6 (f 4) ∧ ErrAt W 7 (f 5) ∧ ErrAt W 8 (f 6) ∧ ErrAt W 0 (f 7) ∧ ErrAt W 9 (f 8) ∧ ErrAt W 1 (f 9) ∧ ErrAt W 10 (f 10) ∧ ErrAt W 11 (f 11) ∧ ErrAt W 12 (f 12) ∧ ErrAt W 13 (f 13) ∧ ErrAt W 14 (f 14) ∧ ErrAt W 15 (f 15) ∧ ErrAt W 16 (f 16) ∧ ErrAt W 17 (f 17) ∧ ErrAt W 18 (f 18)) ∧ (∀ i j, i < 19 → j < 19 → i ≠ j → f i ≠ f j)
theorem isErr0 : IsErr Rows.tablePlaysRow.laid 0 3 := ⟨"shale/api.ErrField", [110, 111, 32, 115, 117, 99, 104, 32, 102, 105, 101, 108, 100], rfl, by kernel_rfl, by kernel_rfl⟩
theorem isErr1 : IsErr Rows.tablePlaysRow.laid 1 2 := ⟨"shale/api.ErrNumber", [110, 111, 32, 115, 117, 99, 104, 32, 110, 117, 109, 98, 101, 114], rfl, by kernel_rfl, by kernel_rfl⟩
theorem isErr2 : IsErr Rows.tablePlaysRow.laid 2 4 := ⟨"shale/api.ErrZero", [122, 101, 114, 111, 32, 104, 97, 115, 32, 110, 111, 110, 101], rfl, by kernel_rfl, by kernel_rfl⟩
theorem isErr3 : IsErr Rows.tablePlaysRow.laid 3 5 := ⟨"shale/api.ErrLong", [116, 111, 111, 32, 108, 111, 110, 103], rfl, by kernel_rfl, by kernel_rfl⟩
theorem isErr4 : IsErr Rows.tablePlaysRow.laid 4 6 := ⟨"shale/api.ErrCode", [110, 111, 32, 115, 117, 99, 104, 32, 99, 111, 100, 101], rfl, by kernel_rfl, by kernel_rfl⟩
theorem isErr5 : IsErr Rows.tablePlaysRow.laid 5 7 := ⟨"shale/api.ErrMany", [109, 111, 114, 101, 32, 105, 115, 32, 97, 109, 105, 115, 115, 32, 116, 104, 97, 110, 32, 99, 97, 110, 32, 98, 101, 32, 109, 101, 110, 100, 101, 100], rfl, by kernel_rfl, by kernel_rfl⟩
theorem isErr6 : IsErr Rows.tablePlaysRow.laid 6 8 := ⟨"shale/api.ErrRecord", [110, 111, 32, 114, 101, 99, 111, 114, 100], rfl, by kernel_rfl, by kernel_rfl⟩
theorem isErr7 : IsErr Rows.tablePlaysRow.laid 7 0 := ⟨"shale/api.ErrGeometry", [110, 111, 32, 115, 117, 99, 104, 32, 99, 104, 105, 112], rfl, by kernel_rfl, by kernel_rfl⟩
theorem isErr8 : IsErr Rows.tablePlaysRow.laid 8 9 := ⟨"shale/api.ErrDead", [116, 104, 101, 32, 112, 111, 119, 101, 114, 32, 105, 115, 32, 111, 102, 102], rfl, by kernel_rfl, by kernel_rfl⟩
theorem isErr9 : IsErr Rows.tablePlaysRow.laid 9 1 := ⟨"shale/api.ErrOrder", [105, 116, 32, 100, 111, 101, 115, 32, 110, 111, 116, 32, 99, 111, 109, 101, 32, 104, 101, 114, 101], rfl, by kernel_rfl, by kernel_rfl⟩
theorem isErr10 : IsErr Rows.tablePlaysRow.laid 10 10 := ⟨"shale/api.ErrFailed", [116, 104, 101, 32, 99, 104, 105, 112, 32, 102, 97, 105, 108, 101, 100], rfl, by kernel_rfl, by kernel_rfl⟩
theorem isErr11 : IsErr Rows.tablePlaysRow.laid 11 11 := ⟨"shale/api.ErrBad", [116, 104, 101, 32, 98, 108, 111, 99, 107, 32, 105, 115, 32, 98, 97, 100], rfl, by kernel_rfl, by kernel_rfl⟩
theorem isErr12 : IsErr Rows.tablePlaysRow.laid 12 12 := ⟨"shale/api.ErrPage", [116, 104, 101, 32, 112, 97, 103, 101, 32, 99, 97, 110, 110, 111, 116, 32, 98, 101, 32, 114, 101, 97, 100], rfl, by kernel_rfl, by kernel_rfl⟩
theorem isErr13 : IsErr Rows.tablePlaysRow.laid 13 13 := ⟨"shale/api.ErrFull", [110, 111, 32, 114, 111, 111, 109], rfl, by kernel_rfl, by kernel_rfl⟩
theorem isErr14 : IsErr Rows.tablePlaysRow.laid 14 14 := ⟨"shale/api.ErrGone", [105, 116, 32, 105, 115, 32, 110, 111, 116, 32, 116, 104, 101, 114, 101], rfl, by kernel_rfl, by kernel_rfl⟩
theorem isErr15 : IsErr Rows.tablePlaysRow.laid 15 15 := ⟨"shale/api.ErrSize", [110, 111, 32, 115, 101, 99, 116, 111, 114, 39, 115, 32, 115, 105, 122, 101], rfl, by kernel_rfl, by kernel_rfl⟩
theorem isErr16 : IsErr Rows.tablePlaysRow.laid 16 16 := ⟨"shale/api.ErrReadOnly", [105, 116, 32, 99, 97, 110, 32, 111, 110, 108, 121, 32, 98, 101, 32, 114, 101, 97, 100], rfl, by kernel_rfl, by kernel_rfl⟩
theorem isErr17 : IsErr Rows.tablePlaysRow.laid 17 17 := ⟨"shale/api.ErrStep", [110, 111, 32, 115, 117, 99, 104, 32, 115, 116, 101, 112], rfl, by kernel_rfl, by kernel_rfl⟩
theorem isErr18 : IsErr Rows.tablePlaysRow.laid 18 18 := ⟨"shale/api.ErrMount", [105, 116, 32, 105, 115, 32, 110, 111, 116, 32, 109, 111, 117, 110, 116, 101, 100], rfl, by kernel_rfl, by kernel_rfl⟩
theorem isErr (i : Nat) (hi : i < 19) : ∃ g, IsErr Rows.tablePlaysRow.laid i g := by
  rcases (by omega : i = 0 ∨ i = 1 ∨ i = 2 ∨ i = 3 ∨ i = 4 ∨ i = 5 ∨ i = 6 ∨ i = 7 ∨ i = 8 ∨ i = 9 ∨ i = 10 ∨ i = 11 ∨ i = 12 ∨ i = 13 ∨ i = 14 ∨ i = 15 ∨ i = 16 ∨ i = 17 ∨ i = 18) with rfl | rfl | rfl | rfl | rfl | rfl | rfl | rfl | rfl | rfl | rfl | rfl | rfl | rfl | rfl | rfl | rfl | rfl | rfl
  · exact ⟨_, isErr0⟩
  · exact ⟨_, isErr1⟩
  · exact ⟨_, isErr2⟩
  · exact ⟨_, isErr3⟩
  · exact ⟨_, isErr4⟩
  · exact ⟨_, isErr5⟩
  · exact ⟨_, isErr6⟩
  · exact ⟨_, isErr7⟩
  · exact ⟨_, isErr8⟩
  · exact ⟨_, isErr9⟩
  · exact ⟨_, isErr10⟩
  · exact ⟨_, isErr11⟩
  · exact ⟨_, isErr12⟩
  · exact ⟨_, isErr13⟩
  · exact ⟨_, isErr14⟩
  · exact ⟨_, isErr15⟩
  · exact ⟨_, isErr16⟩
  · exact ⟨_, isErr17⟩
  · exact ⟨_, isErr18⟩
theorem plain {W : World} (h : laidMetH Tryd.prog Rows.tablePlaysRow.laid W) : laidMet Tryd.prog Rows.tablePlaysRow.laid W := by
  rw [MakeChecks.laidMetH_plain _ _ _ (by kernel_rfl)] at h; exact h
theorem holds {W : World} (h : laidMetH Tryd.prog Rows.tablePlaysRow.laid W) : Holds W := by
  have h := plain h
  obtain ⟨f, f1, f2⟩ := laid_errs' _ h
  exact ⟨f, ⟨f1 _ _ isErr0, f1 _ _ isErr1, f1 _ _ isErr2, f1 _ _ isErr3, f1 _ _ isErr4, f1 _ _ isErr5, f1 _ _ isErr6, f1 _ _ isErr7, f1 _ _ isErr8, f1 _ _ isErr9, f1 _ _ isErr10, f1 _ _ isErr11, f1 _ _ isErr12, f1 _ _ isErr13, f1 _ _ isErr14, f1 _ _ isErr15, f1 _ _ isErr16, f1 _ _ isErr17, f1 _ _ isErr18⟩, fun i j hi hj hij => by obtain ⟨g, a⟩ := isErr i hi; obtain ⟨k, b⟩ := isErr j hj; exact f2 i j g k a b hij⟩
noncomputable def low : Nat := (World.holding Tryd.prog default ⟨#[], #[], []⟩).heap.size
/-- A WORLD FOR THE WITNESS: the settled one, the variables holding what their initialisers lay. -/
noncomputable def world (os : Os) : World :=
  let w0 := World.holding Tryd.prog os ⟨#[.cells #[.string { data := #[110, 111, 32, 115, 117, 99, 104, 32, 102, 105, 101, 108, 100] }] 148, .cells #[.string { data := #[110, 111, 32, 115, 117, 99, 104, 32, 110, 117, 109, 98, 101, 114] }] 148, .cells #[.string { data := #[122, 101, 114, 111, 32, 104, 97, 115, 32, 110, 111, 110, 101] }] 148, .cells #[.string { data := #[116, 111, 111, 32, 108, 111, 110, 103] }] 148, .cells #[.string { data := #[110, 111, 32, 115, 117, 99, 104, 32, 99, 111, 100, 101] }] 148, .cells #[.string { data := #[109, 111, 114, 101, 32, 105, 115, 32, 97, 109, 105, 115, 115, 32, 116, 104, 97, 110, 32, 99, 97, 110, 32, 98, 101, 32, 109, 101, 110, 100, 101, 100] }] 148, .cells #[.string { data := #[110, 111, 32, 114, 101, 99, 111, 114, 100] }] 148, .cells #[.string { data := #[110, 111, 32, 115, 117, 99, 104, 32, 99, 104, 105, 112] }] 148, .cells #[.string { data := #[116, 104, 101, 32, 112, 111, 119, 101, 114, 32, 105, 115, 32, 111, 102, 102] }] 148, .cells #[.string { data := #[105, 116, 32, 100, 111, 101, 115, 32, 110, 111, 116, 32, 99, 111, 109, 101, 32, 104, 101, 114, 101] }] 148, .cells #[.string { data := #[116, 104, 101, 32, 99, 104, 105, 112, 32, 102, 97, 105, 108, 101, 100] }] 148, .cells #[.string { data := #[116, 104, 101, 32, 98, 108, 111, 99, 107, 32, 105, 115, 32, 98, 97, 100] }] 148, .cells #[.string { data := #[116, 104, 101, 32, 112, 97, 103, 101, 32, 99, 97, 110, 110, 111, 116, 32, 98, 101, 32, 114, 101, 97, 100] }] 148, .cells #[.string { data := #[110, 111, 32, 114, 111, 111, 109] }] 148, .cells #[.string { data := #[105, 116, 32, 105, 115, 32, 110, 111, 116, 32, 116, 104, 101, 114, 101] }] 148, .cells #[.string { data := #[110, 111, 32, 115, 101, 99, 116, 111, 114, 39, 115, 32, 115, 105, 122, 101] }] 148, .cells #[.string { data := #[105, 116, 32, 99, 97, 110, 32, 111, 110, 108, 121, 32, 98, 101, 32, 114, 101, 97, 100] }] 148, .cells #[.string { data := #[110, 111, 32, 115, 117, 99, 104, 32, 115, 116, 101, 112] }] 148, .cells #[.string { data := #[105, 116, 32, 105, 115, 32, 110, 111, 116, 32, 109, 111, 117, 110, 116, 101, 100] }] 148], #[], []⟩
  { w0 with heap := (((((((((((((((((((w0.heap.modify 3 fun
      | .cells _ t frozen => .cells #[.iface 132 (.pointer (some ⟨low + 0, 0, none⟩))] t frozen
      | o => o).modify 2 fun
      | .cells _ t frozen => .cells #[.iface 132 (.pointer (some ⟨low + 1, 0, none⟩))] t frozen
      | o => o).modify 4 fun
      | .cells _ t frozen => .cells #[.iface 132 (.pointer (some ⟨low + 2, 0, none⟩))] t frozen
      | o => o).modify 5 fun
      | .cells _ t frozen => .cells #[.iface 132 (.pointer (some ⟨low + 3, 0, none⟩))] t frozen
      | o => o).modify 6 fun
      | .cells _ t frozen => .cells #[.iface 132 (.pointer (some ⟨low + 4, 0, none⟩))] t frozen
      | o => o).modify 7 fun
      | .cells _ t frozen => .cells #[.iface 132 (.pointer (some ⟨low + 5, 0, none⟩))] t frozen
      | o => o).modify 8 fun
      | .cells _ t frozen => .cells #[.iface 132 (.pointer (some ⟨low + 6, 0, none⟩))] t frozen
      | o => o).modify 0 fun
      | .cells _ t frozen => .cells #[.iface 132 (.pointer (some ⟨low + 7, 0, none⟩))] t frozen
      | o => o).modify 9 fun
      | .cells _ t frozen => .cells #[.iface 132 (.pointer (some ⟨low + 8, 0, none⟩))] t frozen
      | o => o).modify 1 fun
      | .cells _ t frozen => .cells #[.iface 132 (.pointer (some ⟨low + 9, 0, none⟩))] t frozen
      | o => o).modify 10 fun
      | .cells _ t frozen => .cells #[.iface 132 (.pointer (some ⟨low + 10, 0, none⟩))] t frozen
      | o => o).modify 11 fun
      | .cells _ t frozen => .cells #[.iface 132 (.pointer (some ⟨low + 11, 0, none⟩))] t frozen
      | o => o).modify 12 fun
      | .cells _ t frozen => .cells #[.iface 132 (.pointer (some ⟨low + 12, 0, none⟩))] t frozen
      | o => o).modify 13 fun
      | .cells _ t frozen => .cells #[.iface 132 (.pointer (some ⟨low + 13, 0, none⟩))] t frozen
      | o => o).modify 14 fun
      | .cells _ t frozen => .cells #[.iface 132 (.pointer (some ⟨low + 14, 0, none⟩))] t frozen
      | o => o).modify 15 fun
      | .cells _ t frozen => .cells #[.iface 132 (.pointer (some ⟨low + 15, 0, none⟩))] t frozen
      | o => o).modify 16 fun
      | .cells _ t frozen => .cells #[.iface 132 (.pointer (some ⟨low + 16, 0, none⟩))] t frozen
      | o => o).modify 17 fun
      | .cells _ t frozen => .cells #[.iface 132 (.pointer (some ⟨low + 17, 0, none⟩))] t frozen
      | o => o).modify 18 fun
      | .cells _ t frozen => .cells #[.iface 132 (.pointer (some ⟨low + 18, 0, none⟩))] t frozen
      | o => o) }
theorem met (os : Os) (args : Array Value) : laidMet Tryd.prog Rows.tablePlaysRow.laid ((world os).forCall (fun _ _ => 0) ⟨#[], args, []⟩).memory :=
  laidMet_of_run' 8 (by kernel_rfl) (by kernel_rfl)
end Go.Proofs.YtpbckjagiebmjaaDoor.LaidTablePlays
