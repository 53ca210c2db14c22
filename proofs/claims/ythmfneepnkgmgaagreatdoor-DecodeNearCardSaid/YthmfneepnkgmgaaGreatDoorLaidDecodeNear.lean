/- What the variables that the row of DecodeNear lists give its walk; a world that holds them. By the verifier of shale. -/
import Derived.Test.YthmfneepnkgmgaaGreatDoorGreat1
import Derived.Test.YthmfneepnkgmgaaGreatDoorGreat2
import Derived.Test.YthmfneepnkgmgaaGreatDoorGreat3
import Derived.Test.YthmfneepnkgmgaaGreatDoorGreat4
import Derived.Test.YthmfneepnkgmgaaGreatDoorGreat5
import Derived.Test.YthmfneepnkgmgaaGreatDoorGreat6
import Derived.Test.YthmfneepnkgmgaaGreatDoorGreat7
import Derived.Test.YthmfneepnkgmgaaGreatDoorRows
import Derived.Deep.DeepHandedRow
import Derived.MakeChecks
namespace Go.Proofs.YthmfneepnkgmgaaGreatDoor.LaidDecodeNear
open Go Go.RowKit
set_option linter.unusedVariables false
/-- what the walk is told. -/
def Holds (W : World) : Prop := ∃ f : Nat → Addr, (ErrAt W 4 (f 0) ∧ ErrAt W 2 (f 1) ∧ ErrAt W 5 (f 2) ∧ ErrAt W 0 (f 3) ∧ ErrAt W 3 (f 4) ∧ ErrAt W 1 (f 5)) ∧ (∀ i j, i < 6 → j < 6 → i ≠ j → f i ≠ f j)
theorem isErr0 : IsErr Rows.decodeNearRow.laid 0 4 := ⟨"shale/api.ErrField", [110, 111, 32, 115, 117, 99, 104, 32, 102, 105, 101, 108, 100], rfl, by kernel_rfl, by kernel_rfl⟩
theorem isErr1 : IsErr Rows.decodeNearRow.laid 1 2 := ⟨"shale/api.ErrNumber", [110, 111, 32, 115, 117, 99, 104, 32, 110, 117, 109, 98, 101, 114], rfl, by kernel_rfl, by kernel_rfl⟩
theorem isErr2 : IsErr Rows.decodeNearRow.laid 2 5 := ⟨"shale/api.ErrZero", [122, 101, 114, 111, 32, 104, 97, 115, 32, 110, 111, 110, 101], rfl, by kernel_rfl, by kernel_rfl⟩
theorem isErr3 : IsErr Rows.decodeNearRow.laid 3 0 := ⟨"shale/api.ErrLong", [116, 111, 111, 32, 108, 111, 110, 103], rfl, by kernel_rfl, by kernel_rfl⟩
theorem isErr4 : IsErr Rows.decodeNearRow.laid 4 3 := ⟨"shale/api.ErrCode", [110, 111, 32, 115, 117, 99, 104, 32, 99, 111, 100, 101], rfl, by kernel_rfl, by kernel_rfl⟩
theorem isErr5 : IsErr Rows.decodeNearRow.laid 5 1 := ⟨"shale/api.ErrMany", [109, 111, 114, 101, 32, 105, 115, 32, 97, 109, 105, 115, 115, 32, 116, 104, 97, 110, 32, 99, 97, 110, 32, 98, 101, 32, 109, 101, 110, 100, 101, 100], rfl, by kernel_rfl, by kernel_rfl⟩
theorem isErr (i : Nat) (hi : i < 6) : ∃ g, IsErr Rows.decodeNearRow.laid i g := by
  rcases (by omega : i = 0 ∨ i = 1 ∨ i = 2 ∨ i = 3 ∨ i = 4 ∨ i = 5) with rfl | rfl | rfl | rfl | rfl | rfl
  · exact ⟨_, isErr0⟩
  · exact ⟨_, isErr1⟩
  · exact ⟨_, isErr2⟩
  · exact ⟨_, isErr3⟩
  · exact ⟨_, isErr4⟩
  · exact ⟨_, isErr5⟩
theorem plain {W : World} (h : laidMetH Tryz.prog Rows.decodeNearRow.laid W) : laidMet Tryz.prog Rows.decodeNearRow.laid W := by
  rw [MakeChecks.laidMetH_plain _ _ _ (by kernel_rfl)] at h; exact h
theorem holds {W : World} (h : laidMetH Tryz.prog Rows.decodeNearRow.laid W) : Holds W := by
  have h := plain h
  obtain ⟨f, f1, f2⟩ := laid_errs' _ h
  exact ⟨f, ⟨f1 _ _ isErr0, f1 _ _ isErr1, f1 _ _ isErr2, f1 _ _ isErr3, f1 _ _ isErr4, f1 _ _ isErr5⟩, fun i j hi hj hij => by obtain ⟨g, a⟩ := isErr i hi; obtain ⟨k, b⟩ := isErr j hj; exact f2 i j g k a b hij⟩
noncomputable def low : Nat := (World.holding Tryz.prog default ⟨#[], #[], []⟩).heap.size
/-- A WORLD FOR THE WITNESS: the settled one, the variables holding what their initialisers lay. -/
noncomputable def world (os : Os) : World :=
  let w0 := World.holding Tryz.prog os ⟨#[.cells #[.string { data := #[110, 111, 32, 115, 117, 99, 104, 32, 102, 105, 101, 108, 100] }] 222, .cells #[.string { data := #[110, 111, 32, 115, 117, 99, 104, 32, 110, 117, 109, 98, 101, 114] }] 222, .cells #[.string { data := #[122, 101, 114, 111, 32, 104, 97, 115, 32, 110, 111, 110, 101] }] 222, .cells #[.string { data := #[116, 111, 111, 32, 108, 111, 110, 103] }] 222, .cells #[.string { data := #[110, 111, 32, 115, 117, 99, 104, 32, 99, 111, 100, 101] }] 222, .cells #[.string { data := #[109, 111, 114, 101, 32, 105, 115, 32, 97, 109, 105, 115, 115, 32, 116, 104, 97, 110, 32, 99, 97, 110, 32, 98, 101, 32, 109, 101, 110, 100, 101, 100] }] 222], #[], []⟩
  { w0 with heap := ((((((w0.heap.modify 4 fun
      | .cells _ t frozen => .cells #[.iface 206 (.pointer (some ⟨low + 0, 0, none⟩))] t frozen
      | o => o).modify 2 fun
      | .cells _ t frozen => .cells #[.iface 206 (.pointer (some ⟨low + 1, 0, none⟩))] t frozen
      | o => o).modify 5 fun
      | .cells _ t frozen => .cells #[.iface 206 (.pointer (some ⟨low + 2, 0, none⟩))] t frozen
      | o => o).modify 0 fun
      | .cells _ t frozen => .cells #[.iface 206 (.pointer (some ⟨low + 3, 0, none⟩))] t frozen
      | o => o).modify 3 fun
      | .cells _ t frozen => .cells #[.iface 206 (.pointer (some ⟨low + 4, 0, none⟩))] t frozen
      | o => o).modify 1 fun
      | .cells _ t frozen => .cells #[.iface 206 (.pointer (some ⟨low + 5, 0, none⟩))] t frozen
      | o => o) }
theorem met (os : Os) (args : Array Value) : laidMet Tryz.prog Rows.decodeNearRow.laid ((world os).forCall (fun _ _ => 0) ⟨#[], args, []⟩).memory :=
  laidMet_of_run' 8 (by kernel_rfl) (by kernel_rfl)
end Go.Proofs.YthmfneepnkgmgaaGreatDoor.LaidDecodeNear
