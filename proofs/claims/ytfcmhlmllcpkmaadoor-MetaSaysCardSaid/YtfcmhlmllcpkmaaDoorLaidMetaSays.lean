/- What the variables that the row of MetaSays lists give its walk; a world that holds them. By the verifier of shale. -/
import Derived.Test.YtfcmhlmllcpkmaaDoorErrs
import Derived.Test.YtfcmhlmllcpkmaaDoorRows
import Derived.Test.YtfcmhlmllcpkmaaDoorCrcOf
import Derived.Lib.LaidTab
import Derived.Deep.DeepHandedRow
import Derived.MakeChecks
namespace Go.Proofs.YtfcmhlmllcpkmaaDoor.LaidMetaSays
open Go Go.RowKit
set_option linter.unusedVariables false
/-- what the walk is told. -/
def Holds (W : World) : Prop := Crc.Tab W ∧ ∃ f : Nat → Addr, (ErrAt W 0 (f 1)) ∧ (True)
theorem isErr1 : IsErr Rows.metaSaysRow.laid 1 0 := ⟨"shale/api.ErrRecord", [110, 111, 32, 114, 101, 99, 111, 114, 100], rfl, by kernel_rfl, by kernel_rfl⟩
theorem plain {W : World} (h : laidMetH Tryd.prog Rows.metaSaysRow.laid W) : laidMet Tryd.prog Rows.metaSaysRow.laid W := by
  rw [MakeChecks.laidMetH_plain _ _ _ (by kernel_rfl)] at h; exact h
theorem gTabType : (Tryd.prog.globals[1]?).map (·.type) = some 68 := by kernel_rfl
theorem cellsT : Tryd.prog.cellsOf 68 = 16 := by kernel_rfl
theorem cellsE : Tryd.prog.cellsOf 62 = 1 := by kernel_rfl
def zs : List Int := [0, 498536548, 997073096, 651767980, 1994146192, 1802195444, 1303535960, 1342533948, 3988292384, 4027552580, 3604390888, 3412177804, 2607071920, 2262029012, 2685067896, 3183342108]
theorem zs_at : ∀ i : Fin 16, zs.getD i 0 = Bits32.u (Crc.ups 4 (BitVec.ofNat 32 i)) := by decide +kernel
theorem tab {W : World} (h : laidMet Tryd.prog Rows.metaSaysRow.laid W) : Crc.Tab W := by
  have h1 : laidMet Tryd.prog (Rows.metaSaysRow.laid.drop 0) W := h
  have t : Lib.TabIs Tryd.prog W "shale/crc.halves" .u32 zs := Lib.tabIs_of_head (rest := Rows.metaSaysRow.laid.drop 1) (by kernel_rfl) gTabType Tryd.underlying68 Tryd.underlying62 cellsE cellsT (by first | exact h1 | (rw [MakeChecks.laidMetH_plain _ _ _ (by kernel_rfl)]; exact h1))
  intro x
  have h2 := Bits32.and15_lt x
  have h1 := Bits32.u_lo (x &&& 15#32)
  have c := t.cell (g := 1) (by kernel_rfl) (Bits32.u (x &&& 15#32)).toNat (by show _ < 16; omega)
  have z := zs_at ⟨(Bits32.u (x &&& 15#32)).toNat, by omega⟩
  simp only at z
  rw [c, z]
  congr 4
  apply BitVec.eq_of_toNat_eq
  rw [BitVec.toNat_ofNat]
  unfold Bits32.u at *
  have := (x &&& 15#32).isLt
  omega
theorem holds {W : World} (h : laidMetH Tryd.prog Rows.metaSaysRow.laid W) : Holds W := by
  have h := plain h
  obtain ⟨f, f1, f2⟩ := laid_errs' _ h
  exact ⟨tab h, ⟨f, f1 _ _ isErr1, trivial⟩⟩
noncomputable def low : Nat := (World.holding Tryd.prog default ⟨#[], #[], []⟩).heap.size
/-- A WORLD FOR THE WITNESS: the settled one, the variables holding what their initialisers lay. -/
noncomputable def world (os : Os) : World :=
  let w0 := World.holding Tryd.prog os ⟨#[.cells #[.string { data := #[110, 111, 32, 114, 101, 99, 111, 114, 100] }] 85], #[], []⟩
  { w0 with heap := ((w0.heap.modify 0 fun
      | .cells _ t frozen => .cells #[.iface 69 (.pointer (some ⟨low + 0, 0, none⟩))] t frozen
      | o => o).modify 1 fun
      | .cells _ t frozen => .cells #[.int .u32 0, .int .u32 498536548, .int .u32 997073096, .int .u32 651767980, .int .u32 1994146192, .int .u32 1802195444, .int .u32 1303535960, .int .u32 1342533948, .int .u32 3988292384, .int .u32 4027552580, .int .u32 3604390888, .int .u32 3412177804, .int .u32 2607071920, .int .u32 2262029012, .int .u32 2685067896, .int .u32 3183342108] t frozen
      | o => o) }
theorem met (os : Os) (args : Array Value) : laidMet Tryd.prog Rows.metaSaysRow.laid ((world os).forCall (fun _ _ => 0) ⟨#[], args, []⟩).memory :=
  laidMet_of_run' 8 (by kernel_rfl) (by kernel_rfl)
end Go.Proofs.YtfcmhlmllcpkmaaDoor.LaidMetaSays
