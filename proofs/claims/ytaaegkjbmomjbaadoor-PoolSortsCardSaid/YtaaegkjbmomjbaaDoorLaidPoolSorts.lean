/- What the variables that the row of PoolSorts lists give its walk; a world that holds them. By the verifier of shale. -/
import Derived.Test.YtaaegkjbmomjbaaDoorErrs
import Derived.Test.YtaaegkjbmomjbaaDoorRows
import Derived.Deep.DeepHandedRow
import Derived.MakeChecks
namespace Go.Proofs.YtaaegkjbmomjbaaDoor.LaidPoolSorts
open Go Go.RowKit
set_option linter.unusedVariables false
/-- what the walk is told. -/
def Holds (W : World) : Prop := ∃ f : Nat → Addr, (ErrAt W 0 (f 0) ∧ ErrAt W 1 (f 1)) ∧ (∀ i j, i < 2 → j < 2 → i ≠ j → f i ≠ f j)
theorem isErr0 : IsErr Rows.poolSortsRow.laid 0 0 := ⟨"shale/api.ErrNumber", [110, 111, 32, 115, 117, 99, 104, 32, 110, 117, 109, 98, 101, 114], rfl, by kernel_rfl, by kernel_rfl⟩
theorem isErr1 : IsErr Rows.poolSortsRow.laid 1 1 := ⟨"shale/api.ErrOrder", [105, 116, 32, 100, 111, 101, 115, 32, 110, 111, 116, 32, 99, 111, 109, 101, 32, 104, 101, 114, 101], rfl, by kernel_rfl, by kernel_rfl⟩
theorem isErr (i : Nat) (hi : i < 2) : ∃ g, IsErr Rows.poolSortsRow.laid i g := by
  rcases (by omega : i = 0 ∨ i = 1) with rfl | rfl
  · exact ⟨_, isErr0⟩
  · exact ⟨_, isErr1⟩
theorem plain {W : World} (h : laidMetH Tryd.prog Rows.poolSortsRow.laid W) : laidMet Tryd.prog Rows.poolSortsRow.laid W := by
  rw [MakeChecks.laidMetH_plain _ _ _ (by kernel_rfl)] at h; exact h
theorem holds {W : World} (h : laidMetH Tryd.prog Rows.poolSortsRow.laid W) : Holds W := by
  have h := plain h
  obtain ⟨f, f1, f2⟩ := laid_errs' _ h
  exact ⟨f, ⟨f1 _ _ isErr0, f1 _ _ isErr1⟩, fun i j hi hj hij => by obtain ⟨g, a⟩ := isErr i hi; obtain ⟨k, b⟩ := isErr j hj; exact f2 i j g k a b hij⟩
noncomputable def low : Nat := (World.holding Tryd.prog default ⟨#[], #[], []⟩).heap.size
/-- A WORLD FOR THE WITNESS: the settled one, the variables holding what their initialisers lay. -/
noncomputable def world (os : Os) : World :=
  let w0 := World.holding Tryd.prog os ⟨#[.cells #[.string { data := #[110, 111, 32, 115, 117, 99, 104, 32, 110, 117, 109, 98, 101, 114] }] 111, .cells #[.string { data := #[105, 116, 32, 100, 111, 101, 115, 32, 110, 111, 116, 32, 99, 111, 109, 101, 32, 104, 101, 114, 101] }] 111], #[], []⟩
  { w0 with heap := ((w0.heap.modify 0 fun
      | .cells _ t frozen => .cells #[.iface 94 (.pointer (some ⟨low + 0, 0, none⟩))] t frozen
      | o => o).modify 1 fun
      | .cells _ t frozen => .cells #[.iface 94 (.pointer (some ⟨low + 1, 0, none⟩))] t frozen
      | o => o) }
theorem met (os : Os) (args : Array Value) : laidMet Tryd.prog Rows.poolSortsRow.laid ((world os).forCall (fun _ _ => 0) ⟨#[], args, []⟩).memory :=
  laidMet_of_run' 8 (by kernel_rfl) (by kernel_rfl)
end Go.Proofs.YtaaegkjbmomjbaaDoor.LaidPoolSorts
