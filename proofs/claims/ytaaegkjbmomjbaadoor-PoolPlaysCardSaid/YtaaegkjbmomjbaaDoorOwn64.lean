/- Blocks and slices of ints that the call itself makes. By the verifier of shale. -/
import Derived.Test.YtaaegkjbmomjbaaDoorBase
import Derived.WalkKit
import Derived.Deep.AppendLies
namespace Go.Proofs.YtaaegkjbmomjbaaDoor
open Go Go.RowKit
set_option linter.unusedVariables false
def cells64 (l : List Int) : List Value := l.map (Value.int .i64)
theorem cells64_length (l : List Int) : (cells64 l).length = l.length := by simp [cells64]
theorem cells64_append (l m : List Int) : cells64 l ++ cells64 m = cells64 (l ++ m) := by simp [cells64]
/-- number i of a list of ints, behind a name that no tactic opens. -/
def nth64 (l : List Int) (i : Nat) : Int := l.getD i 0
def obj64 (l : List Int) : Obj := .cells (cells64 l).toArray 3 (0, 0)
/-- block g is just these ints. -/
def Blk64 (w : World) (g : Nat) (l : List Int) : Prop := w.heap[g]? = some (obj64 l)
theorem Blk64.cell {w : World} {g : Nat} {l : List Int} (e : Blk64 w g l) {i : Nat} (hi : i < l.length) : w.cell? ⟨g, i, none⟩ = some (.int .i64 (nth64 l i)) := by
  unfold World.cell?
  simp only
  rw [show w.heap[g]? = some (obj64 l) from e]
  simp [obj64, cells64, nth64, hi]
theorem Blk64.free {w : World} {g : Nat} {l : List Int} (e : Blk64 w g l) (i : Nat) : w.frozen? ⟨g, i, none⟩ = false := by
  unfold World.frozen?
  simp only
  rw [show w.heap[g]? = some (obj64 l) from e]
  rfl
theorem Blk64.lt {w : World} {g : Nat} {l : List Int} (e : Blk64 w g l) : g < w.heap.size := lt_of_block e
theorem Blk64.new (w : World) (l : List Int) : Blk64 (w.alloc (obj64 l)) w.heap.size l := heap_alloc_new w _
theorem info64 : ∃ i, Tryd.prog.info? 3 = some i ∧ i.zero = some (.int .i64 0) ∧ i.size = 1 ∧ i.bytes = 8 :=
  info_parts (show (Tryd.prog.info? 3).map (fun i => (i.zero, i.size, i.bytes)) = some (some (.int .i64 0), 1, 8) by kernel_rfl)
set_option maxRecDepth 100000 in
theorem made64 (w : World) (n : Nat) (hn : n ≤ 1000000) :
    (Instr.makeSlice 49 (.int .i64 (n : Int)) (.int .i64 (n : Int))).run Tryd.prog w = .ok (.slice (some ⟨w.heap.size, 0, none⟩) n n) (w.alloc (obj64 (List.replicate n 0))) := by
  obtain ⟨i0, hi, hz0, hz1, hz2⟩ := info64
  rw [run_make (P := Tryd.prog) w 49 3 i0 (.int .i64 0) Tryd.underlying49 hi hz0 .i64 .i64 (n : Int) (n : Int) (by omega) (by omega) (by rw [hz2]; omega) (by omega)]
  congr 2
  unfold obj64 madeCells
  rw [hz1]
  congr 1
  apply Array.ext
  · simp [cells64]
  · intro i h1 h2
    simp [Value.cells, Nat.mod_one, cells64]
/-- v is a slice of the call's own (in a block from base on, or nil) that holds these ints. -/
def Own64 (w : World) (base : Nat) (v : Value) (n : Nat) (l : List Int) : Prop := w.ownsRow base 3 1 v n (cells64 l)
theorem Own64.nil (w : World) (base : Nat) : Own64 w base (.slice none 0 0) 0 [] := ⟨rfl, Or.inl ⟨rfl, rfl⟩⟩
theorem Own64.len {w : World} {base n : Nat} {v : Value} {l : List Int} (e : Own64 w base v n l) : l.length = n := by
  have := e.1
  rw [cells64_length] at this
  omega
theorem Own64.block {w : World} {base n : Nat} {v : Value} {l : List Int} (e : Own64 w base v n l) : ∀ g, v.ownBlock = some g → base ≤ g ∧ g < w.heap.size := by
  intro g hg
  rcases e.2 with ⟨h0, _⟩ | ⟨g', cap', cur, hv, hbg, hh, _⟩
  · rw [h0] at hg; cases hg
  · rw [hv] at hg
    simp only [Value.ownBlock, Option.some.injEq] at hg
    subst hg
    exact ⟨hbg, lt_of_block hh⟩
theorem Own64.keep {w w' : World} {base n : Nat} {v : Value} {l : List Int} (e : Own64 w base v n l) (o : ∀ g, v.ownBlock = some g → w'.heap[g]? = w.heap[g]?) : Own64 w' base v n l := by
  refine ⟨e.1, ?_⟩
  rcases e.2 with h0 | ⟨g', cap', cur, hv, hbg, hh, r⟩
  · exact Or.inl h0
  · exact Or.inr ⟨g', cap', cur, hv, hbg, by rw [o g' (by rw [hv]; rfl)]; exact hh, r⟩
/-- its cells, where it is not empty. -/
theorem Own64.cells {w : World} {base n : Nat} {v : Value} {l : List Int} (e : Own64 w base v n l) (hn : 0 < n) :
    ∃ g cap, v = .slice (some ⟨g, 0, none⟩) n cap ∧ base ≤ g ∧ g < w.heap.size ∧ n ≤ cap ∧ ∀ i, i < n → w.cell? ⟨g, i, none⟩ = some (.int .i64 (nth64 l i)) := by
  rcases e.2 with ⟨h0, h1⟩ | ⟨g', cap', cur, hv, hbg, hh, hnc, hm, hs, ht⟩
  · omega
  · have hl := e.len
    refine ⟨g', cap', hv, hbg, lt_of_block hh, hnc, ?_⟩
    intro i hi
    unfold World.cell?
    simp only
    rw [hh]
    have e2 : cur.toList[i]? = (cells64 l)[i]? := by
      rw [← ht, List.getElem?_take_of_lt (by omega)]
    simp only [Array.getElem?_toList] at e2
    simp only
    rw [e2]
    unfold cells64 nth64
    simp [show i < l.length by omega]
theorem three_cells {w : World} {s : Nat} {a b c : Value} {t : TypeId} (e : w.heap[s]? = some (.cells #[a, b, c] t (0, 0))) :
    w.cell? ⟨s, 0, none⟩ = some a ∧ w.cell? ⟨s, 1, none⟩ = some b ∧ w.cell? ⟨s, 2, none⟩ = some c ∧ (∀ i, w.frozen? ⟨s, i, none⟩ = false) := by
  refine ⟨?_, ?_, ?_, fun i => ?_⟩
  · unfold World.cell?; simp only; rw [e]; rfl
  · unfold World.cell?; simp only; rw [e]; rfl
  · unfold World.cell?; simp only; rw [e]; rfl
  · unfold World.frozen?; simp only; rw [e]; rfl
theorem set1 {w : World} {s : Nat} {a b c : Value} {t : TypeId} (e : w.heap[s]? = some (.cells #[a, b, c] t (0, 0))) (b' : Value) : (w.setCell ⟨s, 1, none⟩ b').heap[s]? = some (.cells #[a, b', c] t (0, 0)) := by
  have hlt := lt_of_block e
  have e' : w.heap[s] = .cells #[a, b, c] t (0, 0) := by simpa [Array.getElem?_eq_getElem hlt] using e
  show (w.heap.modify s _)[s]? = _
  rw [Array.getElem?_eq_getElem (by simpa using hlt), Array.getElem_modify_self, e']
  rfl
theorem Blk64.set {w : World} {g : Nat} {l : List Int} (e : Blk64 w g l) (i : Nat) (c : Int) : Blk64 (w.setCell ⟨g, i, none⟩ (.int .i64 c)) g (l.set i c) := by
  have hlt := lt_of_block e
  have e' : w.heap[g] = obj64 l := by simpa [Blk64, Array.getElem?_eq_getElem hlt] using e
  show (w.heap.modify g _)[g]? = _
  rw [Array.getElem?_eq_getElem (by simpa using hlt), Array.getElem_modify_self, e']
  simp [obj64, cells64, List.map_set]
theorem Own64.set {w : World} {base n : Nat} {v : Value} {l : List Int} (e : Own64 w base v n l) (p : Addr) (u : Value) (hp : p.block < base) : Own64 (w.setCell p u) base v n l :=
  e.keep fun g hg => Below.heap_setCell _ _ _ _ (by have := (e.block g hg).1; omega)
end Go.Proofs.YtaaegkjbmomjbaaDoor
