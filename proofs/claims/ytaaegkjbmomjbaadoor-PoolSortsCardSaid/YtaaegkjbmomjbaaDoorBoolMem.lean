/- Blocks of bools that the call itself makes. By the verifier of shale. -/
import Derived.Test.YtaaegkjbmomjbaaDoorBase
import Derived.WalkKit
import Derived.Deep.AppendLies
namespace Go.Proofs.YtaaegkjbmomjbaaDoor
open Go Go.RowKit
set_option linter.unusedVariables false
def objB (l : List Bool) : Obj := .cells (l.map Value.bool).toArray 4 (0, 0)
/-- block g is the first N values of p. -/
def BF (w : World) (g N : Nat) (p : Nat → Bool) : Prop := w.heap[g]? = some (objB ((List.range N).map p))
theorem BF.lt {w : World} {g N : Nat} {p : Nat → Bool} (h : BF w g N p) : g < w.heap.size := lt_of_block h
theorem BF.cell {w : World} {g N : Nat} {p : Nat → Bool} (h : BF w g N p) {i : Nat} (hi : i < N) : w.cell? ⟨g, i, none⟩ = some (.bool (p i)) := by
  unfold World.cell?
  simp only
  rw [show w.heap[g]? = some (objB ((List.range N).map p)) from h]
  simp [objB, hi]
theorem BF.free {w : World} {g N : Nat} {p : Nat → Bool} (h : BF w g N p) (i : Nat) : w.frozen? ⟨g, i, none⟩ = false := by
  unfold World.frozen?
  simp only
  rw [show w.heap[g]? = some (objB ((List.range N).map p)) from h]
  rfl
theorem BF.of {w : World} {g N : Nat} {p q : Nat → Bool} (h : BF w g N p) (e : ∀ i, i < N → p i = q i) : BF w g N q := by
  unfold BF at h ⊢
  rw [h]
  congr 2
  exact List.map_congr_left fun i hi => e i (List.mem_range.1 hi)
theorem BF.set {w : World} {g N : Nat} {p : Nat → Bool} (h : BF w g N p) (k : Nat) : BF (w.setCell ⟨g, k, none⟩ (.bool true)) g N (fun i => p i || decide (i = k)) := by
  unfold BF
  rw [heap_setCell_same w g k _ _ _ h]
  congr 2
  apply Array.ext
  · simp
  · intro i h1 h2
    simp at h1 h2
    by_cases e : i = k
    · subst e; simp
    · simp [e, Ne.symm e]
set_option maxRecDepth 100000 in
theorem infoB : ∃ i, Tryd.prog.info? 4 = some i ∧ i.zero = some (.bool false) ∧ i.size = 1 ∧ i.bytes = 1 :=
  info_parts (show (Tryd.prog.info? 4).map (fun i => (i.zero, i.size, i.bytes)) = some (some (.bool false), 1, 1) by kernel_rfl)
set_option maxRecDepth 100000 in
theorem madeB (w : World) (n : Nat) (hn : n ≤ 1000000) :
    (Instr.makeSlice 50 (.int .i64 (n : Int)) (.int .i64 (n : Int))).run Tryd.prog w = .ok (.slice (some ⟨w.heap.size, 0, none⟩) n n) (w.alloc (objB (List.replicate n false))) := by
  obtain ⟨i0, hi, hz0, hz1, hz2⟩ := infoB
  rw [run_make (P := Tryd.prog) w 50 4 i0 (.bool false) Tryd.underlying50 hi hz0 .i64 .i64 (n : Int) (n : Int) (by omega) (by omega) (by rw [hz2]; omega) (by omega)]
  congr 2
  unfold objB madeCells
  rw [hz1]
  congr 1
  apply Array.ext
  · simp
  · intro i h1 h2
    simp [Value.cells, Nat.mod_one]
theorem BF.new (w : World) (n : Nat) : BF (w.alloc (objB (List.replicate n false))) w.heap.size n (fun _ => false) := by
  unfold BF
  rw [heap_alloc_new]
  congr 2
  apply List.ext_getElem
  · simp
  · intro i h1 h2; simp
end Go.Proofs.YtaaegkjbmomjbaaDoor
