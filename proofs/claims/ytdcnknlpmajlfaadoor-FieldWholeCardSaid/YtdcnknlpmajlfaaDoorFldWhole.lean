/- What FieldWhole counts. By the verifier of shale. -/
import Derived.Test.YtdcnknlpmajlfaaDoorFldAt
import Derived.Test.YtdcnknlpmajlfaaDoorSee
namespace Go.Proofs.YtdcnknlpmajlfaaDoor.Whole
open Go Go.RowKit Bits16 Fld
set_option linter.unusedVariables false
/-- a block of bools. -/
def objB (l : List Bool) : Obj := .cells (l.map Value.bool).toArray 4 (0, 0)
def BlkB (w : World) (g : Nat) (l : List Bool) : Prop := w.heap[g]? = some (objB l)
theorem BlkB.cell {w : World} {g : Nat} {l : List Bool} (e : BlkB w g l) {i : Nat} {b : Bool} (hi : l[i]? = some b) : w.cell? ⟨g, i, none⟩ = some (.bool b) := by
  unfold World.cell?
  simp only
  rw [show w.heap[g]? = some (objB l) from e]
  simp [objB, hi]
theorem BlkB.free {w : World} {g : Nat} {l : List Bool} (e : BlkB w g l) (i : Nat) : w.frozen? ⟨g, i, none⟩ = false := by
  unfold World.frozen?
  simp only
  rw [show w.heap[g]? = some (objB l) from e]
  rfl
theorem BlkB.set {w : World} {g : Nat} {l : List Bool} (e : BlkB w g l) (i : Nat) (c : Bool) : BlkB (w.setCell ⟨g, i, none⟩ (.bool c)) g (l.set i c) := by
  have hlt := lt_of_block e
  have e' : w.heap[g] = objB l := by simpa [BlkB, Array.getElem?_eq_getElem hlt] using e
  show (w.heap.modify g _)[g]? = _
  rw [Array.getElem?_eq_getElem (by simpa using hlt), Array.getElem_modify_self, e']
  simp [objB, List.map_set]
theorem madeB (w : World) (n : Nat) (hn : n ≤ 1000000) :
    (Instr.makeSlice 42 (.int .i64 (n : Int)) (.int .i64 (n : Int))).run Tryd.prog w = .ok (.slice (some ⟨w.heap.size, 0, none⟩) n n) (w.alloc (objB (List.replicate n false))) := by
  obtain ⟨i0, hi, hz0, hz1, hz2⟩ := info_parts (show (Tryd.prog.info? 4).map (fun i => (i.zero, i.size, i.bytes)) = some (some (.bool false), 1, 1) by kernel_rfl)
  rw [run_make (P := Tryd.prog) w 42 4 i0 (.bool false) Tryd.underlying42 hi hz0 .i64 .i64 (n : Int) (n : Int) (by omega) (by omega) (by rw [hz2]; omega) (by omega)]
  congr 2
  unfold objB madeCells
  rw [hz1]
  congr 1
  apply Array.ext
  · simp
  · intro i h1 h2
    simp [Value.cells, Nat.mod_one]
/-- which elements have been met behind k powers; 0 has been. -/
def seenL (m k : Nat) : List Bool := (List.range (els m)).map fun a => decide (a = 0 ∨ lg m (BitVec.ofNat 16 a) < k)
theorem seenL_length (m k : Nat) : (seenL m k).length = els m := by simp [seenL]
theorem seenL_zero (m : Nat) : (List.replicate (els m) false).set 0 true = seenL m 0 := by
  apply List.ext_getElem
  · simp [seenL]
  · intro i h1 h2
    simp only [seenL, List.getElem_map, List.getElem_range, List.getElem_set, List.getElem_replicate]
    by_cases h : 0 = i
    · subst h; simp
    · rw [if_neg h]; simp; omega
section
variable (m : Nat) (h1 : 3 ≤ m) (h2 : m ≤ 14)
include h1 h2
theorem seenL_at (k : Nat) (hk : k < size m) : (seenL m k)[(h (pw m k)).toNat]? = some false := by
  obtain ⟨p1, p2⟩ := pw_ne m h1 h2 k
  have e : (h (pw m k)).toNat = (pw m k).toNat := by unfold h; omega
  have hp := nat_pos _ p1
  rw [e]
  unfold seenL
  rw [List.getElem?_map, List.getElem?_range (show (pw m k).toNat < els m from p2)]
  simp only [Option.map_some, BitVec.ofNat_toNat, BitVec.setWidth_eq, lg_pw m h1 h2 k hk]
  congr 1
  simp
  omega
theorem seenL_set (k : Nat) (hk : k < size m) : (seenL m k).set (h (pw m k)).toNat true = seenL m (k + 1) := by
  have e : (h (pw m k)).toNat = (pw m k).toNat := by unfold h; omega
  rw [e]
  obtain ⟨p1, p2⟩ := pw_ne m h1 h2 k
  have hp := nat_pos _ p1
  have hm := pow14 m h2
  apply List.ext_getElem
  · simp [seenL]
  · intro i a b
    have hi : i < els m := by simpa [seenL] using b
    have hi2 : i < 2 ^ m := hi
    simp only [seenL, List.getElem_set, List.getElem_map, List.getElem_range]
    by_cases hc : (pw m k).toNat = i
    · have e2 : BitVec.ofNat 16 i = pw m k := by rw [← hc]; simp
      rw [if_pos hc, e2, lg_pw m h1 h2 k hk]
      simp
    · rw [if_neg hc]
      by_cases h0 : i = 0
      · subst h0; simp
      · have hn : (BitVec.ofNat 16 i).toNat = i := by rw [BitVec.toNat_ofNat]; exact Nat.mod_eq_of_lt (by omega)
        have hne : BitVec.ofNat 16 i ≠ 0 := by
          intro e3
          rw [e3] at hn
          exact h0 hn.symm
        obtain ⟨l1, l2⟩ := lg_spec m h1 h2 (BitVec.ofNat 16 i) (by omega) hne
        have hlk : lg m (BitVec.ofNat 16 i) ≠ k := by
          intro e3
          rw [e3] at l2
          apply hc
          rw [l2, hn]
        rw [decide_eq_decide]
        omega
end
/-- the traces of the first k elements, added up. -/
def trSum (m : Nat) : Nat → Nat
  | 0 => 0
  | k + 1 => trSum m k + (tr m (BitVec.ofNat 16 k)).toNat
theorem half_traces : ∀ m, 3 ≤ m → m ≤ 8 → 2 * trSum m (els m) = els m := by
  intro m h1 h2
  rcases (by omega : m = 3 ∨ m = 4 ∨ m = 5 ∨ m = 6 ∨ m = 7 ∨ m = 8) with rfl | rfl | rfl | rfl | rfl | rfl
  all_goals decide +kernel
theorem trSum_le (m : Nat) (h1 : 3 ≤ m) (h2 : m ≤ 14) : ∀ k, k ≤ els m → trSum m k ≤ k
  | 0, _ => Nat.le_refl _
  | k + 1, hk => by
    have hl : (BitVec.ofNat 16 k).toNat < 2 ^ m := by
      have := els_hi m h2
      rw [BitVec.toNat_ofNat, Nat.mod_eq_of_lt (by omega)]; exact hk
    have := trSum_le m h1 h2 k (by omega)
    simp only [trSum]
    rcases tr_01 m h1 h2 _ hl with e | e
    · rw [e]; show _ + 0 ≤ _; omega
    · rw [e]; show _ + 1 ≤ _; omega
end Go.Proofs.YtdcnknlpmajlfaaDoor.Whole
