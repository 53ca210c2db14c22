/- Small words on memory: a world in which one block alone may have changed; bytes that stand in a row. By the verifier of shale. -/
import Derived.Test.YtbngkmlipmhgdaaDoorBits
import Derived.Test.YtbngkmlipmhgdaaDoorBase
import Derived.Test.YtbngkmlipmhgdaaDoorRows
import Derived.WalkKit
import Derived.IntWalk
import Derived.OneCell
import Derived.Lib.Hide
namespace Go.Proofs.YtbngkmlipmhgdaaDoor
open Go Go.RowKit

/-- number i of a list of bytes, behind a name that no tactic opens. -/
def nth8 (l : List (BitVec 8)) (i : Nat) : BitVec 8 := l.getD i 0
/-- the bytes l stand from address p on. -/
def Row8 (w : World) (bb off : Nat) (l : List (BitVec 8)) : Prop := ∀ i, i < l.length → w.cell? ⟨bb, off + i, none⟩ = some (.int .u8 (Bits32.b (nth8 l i)))
theorem Row8.only {s : Nat} {w w' : World} {bb off : Nat} {l : List (BitVec 8)} (h : Row8 w bb off l) (o : Only s w w') (hb : bb ≠ s) : Row8 w' bb off l :=
  fun i hi => (o.cell (p := ⟨bb, off + i, none⟩) hb).trans (h i hi)
theorem Row8.below {B : Nat} {w w' : World} {bb off : Nat} {l : List (BitVec 8)} (h : Row8 w bb off l) (o : Below B w w') (hb : bb < B) : Row8 w' bb off l :=
  fun i hi => (o.cell (p := ⟨bb, off + i, none⟩) hb).trans (h i hi)
theorem Row8.take {w : World} {bb off : Nat} {l : List (BitVec 8)} (h : Row8 w bb off l) (k : Nat) : Row8 w bb off (l.take k) := by
  intro i hi
  have h1 : i < l.length := by simp at hi; omega
  have h2 : i < k := by simp at hi; omega
  have := h i h1
  unfold nth8 at this ⊢
  rwa [List.getD_eq_getElem?_getD, List.getElem?_take_of_lt h2, ← List.getD_eq_getElem?_getD]
theorem Row8.drop {w : World} {bb off : Nat} {l : List (BitVec 8)} (h : Row8 w bb off l) (k : Nat) : Row8 w bb (off + k) (l.drop k) := by
  intro i hi
  have h1 : k + i < l.length := by simp at hi; omega
  have := h (k + i) h1
  unfold nth8 at this ⊢
  rw [Nat.add_assoc]
  rwa [List.getD_eq_getElem?_getD, List.getElem?_drop, ← List.getD_eq_getElem?_getD]

/-- a slice value that holds the bytes l; nothing beyond its length is said. -/
def IsBytes (w : World) (v : Value) (l : List (BitVec 8)) : Prop :=
  (l = [] ∧ ∃ a cap, v = .slice a 0 cap) ∨ ∃ bb off cap, v = .slice (some ⟨bb, off, none⟩) l.length cap ∧ Row8 w bb off l ∧ bb < w.heap.size
theorem IsBytes.block {w : World} {v : Value} {l : List (BitVec 8)} (h : IsBytes w v l) : ∀ bb off cap, v = .slice (some ⟨bb, off, none⟩) l.length cap → l ≠ [] → bb < w.heap.size := by
  intro bb off cap hv hn
  rcases h with ⟨h, _⟩ | ⟨b2, o2, c2, h, _, hb⟩
  · exact absurd h hn
  · rw [hv] at h
    simp only [Value.slice.injEq, Option.some.injEq, Addr.mk.injEq] at h
    omega
theorem IsBytes.below {B : Nat} {w w' : World} {v : Value} {l : List (BitVec 8)} (h : IsBytes w v l) (o : Below B w w') (hB : ∀ bb off cap, v = .slice (some ⟨bb, off, none⟩) l.length cap → l ≠ [] → bb < B) : IsBytes w' v l := by
  rcases h with h | ⟨bb, off, cap, rfl, hr, hb⟩
  · exact Or.inl h
  · by_cases hn : l = []
    · subst hn; exact Or.inl ⟨rfl, _, _, rfl⟩
    · exact Or.inr ⟨bb, off, cap, rfl, hr.below o (hB bb off cap rfl hn), Nat.lt_of_lt_of_le hb o.size⟩

theorem IsBytes.mk {w : World} {l : List (BitVec 8)} {n bb off cap : Nat} (hn : n = l.length) (hr : Row8 w bb off l) (hb : bb < w.heap.size) : IsBytes w (.slice (some ⟨bb, off, none⟩) n cap) l := by
  subst hn; exact Or.inr ⟨bb, off, cap, rfl, hr, hb⟩
/-- bytes that a call is handed. -/
def Arg8 (W : World) (v : Value) (l : List (BitVec 8)) : Prop := IsBytes W v l ∧ l.length ≤ maxLen
theorem Arg8.nil (W : World) (p : Option Addr) (cap : Nat) : Arg8 W (.slice p 0 cap) [] := ⟨Or.inl ⟨rfl, _, _, rfl⟩, Nat.zero_le _⟩
theorem Arg8.whole {W : World} {l : List (BitVec 8)} {n bb off cap : Nat} (hr : Row8 W bb off l) (hb : bb < W.heap.size) (hn : n = l.length) (hl : n ≤ maxLen) : Arg8 W (.slice (some ⟨bb, off, none⟩) n cap) l := ⟨.mk hn hr hb, by omega⟩
theorem Arg8.take {W : World} {l : List (BitVec 8)} {n bb off cap : Nat} (hr : Row8 W bb off l) (hb : bb < W.heap.size) (hl : l.length ≤ maxLen) (hn : n ≤ l.length) : Arg8 W (.slice (some ⟨bb, off, none⟩) n cap) (l.take n) :=
  ⟨.mk (by simp; omega) (hr.take n) hb, by simp; omega⟩
theorem Arg8.drop {W : World} {l : List (BitVec 8)} {n bb off cap m : Nat} (hr : Row8 W bb off l) (hb : bb < W.heap.size) (hl : l.length ≤ maxLen) (hm : m = l.length - n) : Arg8 W (.slice (some ⟨bb, off + n, none⟩) m cap) (l.drop n) :=
  ⟨.mk (by simp; omega) (hr.drop n) hb, by simp; omega⟩

/-- a block of bytes that a call has made. -/
def obj8 (l : List (BitVec 8)) : Obj := .cells (l.map fun c => Value.int .u8 (Bits32.b c)).toArray 5 (0, 0)
/-- block g holds the bytes l. -/
def Blk8 (w : World) (g : Nat) (l : List (BitVec 8)) : Prop := w.heap[g]? = some (obj8 l)
theorem Blk8.cell {w : World} {g : Nat} {l : List (BitVec 8)} (h : Blk8 w g l) {i : Nat} (hi : i < l.length) : w.cell? ⟨g, i, none⟩ = some (.int .u8 (Bits32.b (nth8 l i))) := by
  unfold World.cell?
  simp only
  rw [show w.heap[g]? = _ from h]
  unfold obj8 nth8
  simp [hi]
theorem Blk8.free {w : World} {g : Nat} {l : List (BitVec 8)} (h : Blk8 w g l) (i : Nat) : w.frozen? ⟨g, i, none⟩ = false := by
  unfold World.frozen?
  simp only
  rw [show w.heap[g]? = _ from h]
  unfold obj8
  simp
theorem Blk8.row {w : World} {g : Nat} {l : List (BitVec 8)} (h : Blk8 w g l) : Row8 w g 0 l := by
  intro i hi
  rw [Nat.zero_add]
  exact h.cell hi
theorem Blk8.lt {w : World} {g : Nat} {l : List (BitVec 8)} (h : Blk8 w g l) : g < w.heap.size := lt_of_block h
theorem Blk8.set {w : World} {g : Nat} {l : List (BitVec 8)} (h : Blk8 w g l) (i : Nat) (c : BitVec 8) : Blk8 (w.setCell ⟨g, i, none⟩ (.int .u8 (Bits32.b c))) g (l.set i c) := by
  have hlt := lt_of_block h
  have h' : w.heap[g] = obj8 l := by simpa [Blk8, Array.getElem?_eq_getElem hlt] using h
  show (w.heap.modify g _)[g]? = _
  rw [Array.getElem?_eq_getElem (by simpa using hlt), Array.getElem_modify_self, h']
  simp [obj8, List.map_set]
theorem Blk8.new (w : World) (l : List (BitVec 8)) : Blk8 (w.alloc (obj8 l)) w.heap.size l := heap_alloc_new w _
theorem Blk8.drew {w : World} {g : Nat} {l : List (BitVec 8)} (h : Blk8 w g l) : Blk8 w.drew g l := h
theorem Blk8.arg {w : World} {g : Nat} {l : List (BitVec 8)} (h : Blk8 w g l) {n cap : Nat} (hn : n = l.length) (hm : n ≤ maxLen) : Arg8 w (.slice (some ⟨g, 0, none⟩) n cap) l :=
  Arg8.whole h.row h.lt hn hm
theorem Arg8.since {B : Nat} {W w : World} {v : Value} {l : List (BitVec 8)} (h : Arg8 W v l) (hB : W.heap.size ≤ B) (o : Below B W w) : Arg8 w v l :=
  ⟨h.1.below o (fun bb off cap hv hn => Nat.lt_of_lt_of_le (h.1.block bb off cap hv hn) hB), h.2⟩
set_option maxRecDepth 100000 in
theorem made8 (w : World) (n : Nat) (hn : n ≤ 1000000) :
    (Instr.makeSlice 31 (.int .i64 (n : Int)) (.int .i64 (n : Int))).run Tryd.prog w = .ok (.slice (some ⟨w.heap.size, 0, none⟩) n n) (w.alloc (obj8 (List.replicate n 0))) := by
  obtain ⟨i0, hi, hz0, hz1, hz2⟩ := info_parts (show (Tryd.prog.info? 5).map (fun i => (i.zero, i.size, i.bytes)) = some (some (.int .u8 0), 1, 1) by kernel_rfl)
  rw [run_make (P := Tryd.prog) w 31 5 i0 (.int .u8 0) Tryd.underlying31 hi hz0 .i64 .i64 (n : Int) (n : Int) (by omega) (by omega) (by rw [hz2]; omega) (by omega)]
  congr 2
  unfold obj8 madeCells
  rw [hz1]
  congr 1
  apply Array.ext
  · simp
  · intro i h1 h2
    simp [Value.cells, Bits32.b, Nat.mod_one]
theorem Row8.upd {s : Nat} {w w' : World} {bb off : Nat} {l : List (BitVec 8)} (h : Row8 w bb off l) (o : Upd s w w') (hl : bb < w.heap.size) (hb : bb ≠ s) : Row8 w' bb off l :=
  fun i hi => (o.cell (p := ⟨bb, off + i, none⟩) hl hb).trans (h i hi)
end Go.Proofs.YtbngkmlipmhgdaaDoor
