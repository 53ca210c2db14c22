/- What the variables that the row of ModelPlays lists give its walk; a world that holds them. By the verifier of shale. -/
import Derived.Test.YtbngkmlipmhgdaaDoorGreat1
import Derived.Test.YtbngkmlipmhgdaaDoorGreat2
import Derived.Test.YtbngkmlipmhgdaaDoorGreat3
import Derived.Test.YtbngkmlipmhgdaaDoorGreat4
import Derived.Test.YtbngkmlipmhgdaaDoorRows
import Derived.Deep.DeepHandedRow
import Derived.MakeChecks
namespace Go.Proofs.YtbngkmlipmhgdaaDoor.LaidModelPlays
open Go Go.RowKit
set_option linter.unusedVariables false
/-- what the walk is told. -/
def Holds (W : World) : Prop := ∃ f : Nat → Addr, (ErrAt W 1 (f 0) ∧ ErrAt W 0 (f 1) ∧ ErrAt W 2 (f 2)) ∧ (∀ i j, i < 3 → j < 3 → i ≠ j → f i ≠ f j)
theorem isErr0 : IsErr Rows.modelPlaysRow.laid 0 1 := ⟨"shale/api.ErrNumber", [110, 111, 32, 115, 117, 99, 104, 32, 110, 117, 109, 98, 101, 114], rfl, by kernel_rfl, by kernel_rfl⟩
theorem isErr1 : IsErr Rows.modelPlaysRow.laid 1 0 := ⟨"shale/api.ErrGeometry", [110, 111, 32, 115, 117, 99, 104, 32, 99, 104, 105, 112], rfl, by kernel_rfl, by kernel_rfl⟩
theorem isErr2 : IsErr Rows.modelPlaysRow.laid 2 2 := ⟨"shale/api.ErrSize", [110, 111, 32, 115, 101, 99, 116, 111, 114, 39, 115, 32, 115, 105, 122, 101], rfl, by kernel_rfl, by kernel_rfl⟩
theorem isErr (i : Nat) (hi : i < 3) : ∃ g, IsErr Rows.modelPlaysRow.laid i g := by
  rcases (by omega : i = 0 ∨ i = 1 ∨ i = 2) with rfl | rfl | rfl
  · exact ⟨_, isErr0⟩
  · exact ⟨_, isErr1⟩
  · exact ⟨_, isErr2⟩
theorem plain {W : World} (h : laidMetH Tryd.prog Rows.modelPlaysRow.laid W) : laidMet Tryd.prog Rows.modelPlaysRow.laid W := by
  rw [MakeChecks.laidMetH_plain _ _ _ (by kernel_rfl)] at h; exact h
theorem holds {W : World} (h : laidMetH Tryd.prog Rows.modelPlaysRow.laid W) : Holds W := by
  have h := plain h
  obtain ⟨f, f1, f2⟩ := laid_errs' _ h
  exact ⟨f, ⟨f1 _ _ isErr0, f1 _ _ isErr1, f1 _ _ isErr2⟩, fun i j hi hj hij => by obtain ⟨g, a⟩ := isErr i hi; obtain ⟨k, b⟩ := isErr j hj; exact f2 i j g k a b hij⟩
noncomputable def low : Nat := (World.holding Tryd.prog default ⟨#[], #[], []⟩).heap.size
/-- A WORLD FOR THE WITNESS: the settled one, the variables holding what their initialisers lay. -/
noncomputable def world (os : Os) : World :=
  let w0 := World.holding Tryd.prog os ⟨#[.cells #[.string { data := #[110, 111, 32, 115, 117, 99, 104, 32, 110, 117, 109, 98, 101, 114] }] 93, .cells #[.string { data := #[110, 111, 32, 115, 117, 99, 104, 32, 99, 104, 105, 112] }] 93, .cells #[.string { data := #[110, 111, 32, 115, 101, 99, 116, 111, 114, 39, 115, 32, 115, 105, 122, 101] }] 93], #[], []⟩
  { w0 with heap := (((w0.heap.modify 1 fun
      | .cells _ t frozen => .cells #[.iface 76 (.pointer (some ⟨low + 0, 0, none⟩))] t frozen
      | o => o).modify 0 fun
      | .cells _ t frozen => .cells #[.iface 76 (.pointer (some ⟨low + 1, 0, none⟩))] t frozen
      | o => o).modify 2 fun
      | .cells _ t frozen => .cells #[.iface 76 (.pointer (some ⟨low + 2, 0, none⟩))] t frozen
      | o => o) }
theorem met (os : Os) (args : Array Value) : laidMet Tryd.prog Rows.modelPlaysRow.laid ((world os).forCall (fun _ _ => 0) ⟨#[], args, []⟩).memory :=
  laidMet_of_run' 8 (by kernel_rfl) (by kernel_rfl)
end Go.Proofs.YtbngkmlipmhgdaaDoor.LaidModelPlays
