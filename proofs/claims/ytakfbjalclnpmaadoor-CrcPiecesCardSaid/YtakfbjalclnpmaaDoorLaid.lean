/- What the one listed variable (crc's table) gives the walks; a world that holds it. By the verifier of shale. -/
import Derived.Test.YtakfbjalclnpmaaDoorCrcWalks
import Derived.Lib.LaidTab
import Derived.Deep.DeepHandedRow
namespace Go.Proofs.YtakfbjalclnpmaaDoor.Laid
open Go Go.RowKit
theorem gTab : Tryd.prog.globalNamed "shale/crc.halves" = some 0 := by kernel_rfl
theorem gTabType : (Tryd.prog.globals[0]?).map (·.type) = some 44 := by kernel_rfl
theorem cellsT : Tryd.prog.cellsOf 44 = 16 := by kernel_rfl
theorem cellsE : Tryd.prog.cellsOf 34 = 1 := by kernel_rfl
def zs : List Int := [0, 498536548, 997073096, 651767980, 1994146192, 1802195444, 1303535960, 1342533948, 3988292384, 4027552580, 3604390888, 3412177804, 2607071920, 2262029012, 2685067896, 3183342108]
theorem zs_at : ∀ i : Fin 16, zs.getD i 0 = Bits32.u (Crc.ups 4 (BitVec.ofNat 32 i)) := by decide +kernel
def list : List (String × DataW Unit) := [("shale/crc.halves", Lib.tabData .u32 zs)]
theorem holds {W : World} (h : laidMetH Tryd.prog list W) : Crc.Tab W := by
  have t : Lib.TabIs Tryd.prog W "shale/crc.halves" .u32 zs := Lib.tabIs_of_head (rest := []) gTab gTabType Tryd.underlying44 Tryd.underlying34 cellsE cellsT h
  intro x
  have h2 := Bits32.and15_lt x
  have h1 := Bits32.u_lo (x &&& 15#32)
  have c := t.cell gTab (Bits32.u (x &&& 15#32)).toNat (by show _ < 16; omega)
  have z := zs_at ⟨(Bits32.u (x &&& 15#32)).toNat, by omega⟩
  simp only at z
  rw [c, z]
  congr 4
  apply BitVec.eq_of_toNat_eq
  rw [BitVec.toNat_ofNat]
  unfold Bits32.u at *
  have := (x &&& 15#32).isLt
  omega
/-- A WORLD FOR THE WITNESS: the settled one, the table holding what its initialiser lays. -/
noncomputable def world (os : Os) : World :=
  { World.holding Tryd.prog os ⟨#[], #[], []⟩ with heap := (World.holding Tryd.prog os ⟨#[], #[], []⟩).heap.modify 0 fun
      | .cells _ t frozen => .cells #[.int .u32 0, .int .u32 498536548, .int .u32 997073096, .int .u32 651767980, .int .u32 1994146192, .int .u32 1802195444, .int .u32 1303535960, .int .u32 1342533948, .int .u32 3988292384, .int .u32 4027552580, .int .u32 3604390888, .int .u32 3412177804, .int .u32 2607071920, .int .u32 2262029012, .int .u32 2685067896, .int .u32 3183342108] t frozen
      | o => o }
theorem met (os : Os) (args : Array Value) : laidMet Tryd.prog list ((world os).forCall (fun _ _ => 0) ⟨#[], args, []⟩).memory :=
  laidMet_of_run' 8 (by kernel_rfl) (by kernel_rfl)
end Go.Proofs.YtakfbjalclnpmaaDoor.Laid
