/- Slices of bytes that the call itself appends to; a piece of a slice whatever its address. By the verifier of shale. -/
import Derived.Test.YtbngkmlipmhgdaaDoorMem
import Derived.WalkKit
import Derived.Deep.AppendLies
namespace Go.Proofs.YtbngkmlipmhgdaaDoor
open Go Go.RowKit
set_option linter.unusedVariables false
def cells8 (l : List (BitVec 8)) : List Value := l.map fun c => Value.int .u8 (Bits32.b c)
theorem cells8_length (l : List (BitVec 8)) : (cells8 l).length = l.length := by simp [cells8]
theorem cells8_append (l m : List (BitVec 8)) : cells8 l ++ cells8 m = cells8 (l ++ m) := by simp [cells8]
theorem cells8_one (l : List (BitVec 8)) : ∀ u ∈ cells8 l, u.oneCell' = true := by
  intro u hu
  obtain ⟨_, _, rfl⟩ := List.mem_map.1 hu
  rfl
/-- v is a slice of the call's own (in a block from base on, or nil) that holds the bytes l. -/
def Own8 (w : World) (base : Nat) (v : Value) (n : Nat) (l : List (BitVec 8)) : Prop := w.ownsRow base 5 1 v n (cells8 l)
theorem Own8.nil (w : World) (base : Nat) : Own8 w base (.slice none 0 0) 0 [] := ⟨rfl, Or.inl ⟨rfl, rfl⟩⟩
theorem Own8.len {w : World} {base n : Nat} {v : Value} {l : List (BitVec 8)} (h : Own8 w base v n l) : l.length = n := by
  have := h.1
  rw [cells8_length] at this
  omega
theorem Own8.block {w : World} {base n : Nat} {v : Value} {l : List (BitVec 8)} (h : Own8 w base v n l) : ∀ g, v.ownBlock = some g → base ≤ g ∧ g < w.heap.size := by
  intro g hg
  rcases h.2 with ⟨h0, _⟩ | ⟨g', cap', cur, hv, hbg, hh, _⟩
  · rw [h0] at hg; cases hg
  · rw [hv] at hg
    simp only [Value.ownBlock, Option.some.injEq] at hg
    subst hg
    exact ⟨hbg, lt_of_block hh⟩
theorem Own8.keep {w w' : World} {base n : Nat} {v : Value} {l : List (BitVec 8)} (h : Own8 w base v n l) (o : ∀ g, v.ownBlock = some g → w'.heap[g]? = w.heap[g]?) : Own8 w' base v n l := by
  refine ⟨h.1, ?_⟩
  rcases h.2 with h0 | ⟨g', cap', cur, hv, hbg, hh, r⟩
  · exact Or.inl h0
  · exact Or.inr ⟨g', cap', cur, hv, hbg, by rw [o g' (by rw [hv]; rfl)]; exact hh, r⟩
theorem Own8.bytes {w : World} {base n : Nat} {v : Value} {l : List (BitVec 8)} (h : Own8 w base v n l) : IsBytes w v l := by
  rcases h.2 with ⟨h0, h1⟩ | ⟨g', cap', cur, hv, hbg, hh, hn, hm, hs, ht⟩
  · exact Or.inl ⟨List.eq_nil_of_length_eq_zero (h.len.trans h1), _, _, h0⟩
  · have hl := h.len
    refine Or.inr ⟨g', 0, cap', by rw [hl]; exact hv, ?_, lt_of_block hh⟩
    intro i hi
    rw [Nat.zero_add]
    unfold World.cell?
    simp only
    rw [hh]
    have e : cur.toList[i]? = (cells8 l)[i]? := by
      rw [← ht, List.getElem?_take_of_lt (by omega)]
    simp only [Array.getElem?_toList] at e
    simp only
    rw [e]
    unfold cells8 nth8
    simp [hi]
theorem info8 : ∃ i, Tryd.prog.info? 5 = some i ∧ i.zero = some (.int .u8 0) ∧ i.size = 1 ∧ i.bytes = 1 :=
  info_parts (show (Tryd.prog.info? 5).map (fun i => (i.zero, i.size, i.bytes)) = some (some (.int .u8 0), 1, 1) by kernel_rfl)
/-- what is appended out of a block that holds bytes. -/
theorem news8 {w : World} {g : Nat} {l : List (BitVec 8)} (h : Blk8 w g l) : ∀ j u, (cells8 l)[j]? = some u → w.cell? ((⟨g, 0, none⟩ : Addr).add j) = some u := by
  intro j u hu
  have hj : j < l.length := by
    have := (List.getElem?_eq_some_iff.1 hu).1
    rwa [cells8_length] at this
  have hadd : (⟨g, 0, none⟩ : Addr).add j = ⟨g, j, none⟩ := by unfold Addr.add; split <;> simp_all
  rw [hadd, h.cell hj, ← hu]
  unfold cells8 nth8
  simp [hj]
set_option maxRecDepth 100000 in
/-- a piece of a slice of bytes, whatever its address. -/
theorem piece8 (p : Option Addr) (n cap c d : Nat) (h1 : c ≤ d) (h2 : d ≤ n) (h3 : n ≤ cap) (hp : n = 0 ∨ ∃ bb off, p = some ⟨bb, off, none⟩) :
    ∃ pv cv, (∀ w, (Instr.slice 31 (.slice p n cap) (some (.int .i64 (c : Int))) (some (.int .i64 (d : Int))) none).run Tryd.prog w = .ok (.slice pv (d - c) cv) w) ∧
      (d - c = 0 ∨ ∃ bb off, p = some ⟨bb, off, none⟩ ∧ pv = some ⟨bb, off + c, none⟩) := by
  have hz : ∀ w, (sizeOf (Tryd.prog.elem 31)).run Tryd.prog w = .ok 1 w := fun w => by kernel_rfl
  have key : ∀ w, (Instr.slice 31 (.slice p n cap) (some (.int .i64 (c : Int))) (some (.int .i64 (d : Int))) none).run Tryd.prog w = .ok (sliced p c d cap 1) w := by
    intro w
    rw [run_slice_lh (P := Tryd.prog) w 31 p n cap (by kernel_rfl) .i64 .i64 (c : Int) (d : Int) (by omega) (by omega) (by omega), hz w]
    simp [Result.andThen]
  refine ⟨if cap = c then p else p.map (·.add (c * 1)), cap - c, fun w => by rw [key w]; rfl, ?_⟩
  by_cases hd : d - c = 0
  · exact Or.inl hd
  · rcases hp with hp | ⟨bb, off, rfl⟩
    · omega
    · refine Or.inr ⟨bb, off, rfl, ?_⟩
      rw [if_neg (by omega)]
      have e : (⟨bb, off, none⟩ : Addr).add (c * 1) = ⟨bb, off + c, none⟩ := by
        rw [Nat.mul_one]
        by_cases h : c = 0 <;> simp [Addr.add, h]
      show some ((⟨bb, off, none⟩ : Addr).add (c * 1)) = _
      rw [e]
set_option maxRecDepth 100000 in
theorem piece8_from (p : Option Addr) (n cap c : Nat) (h2 : c ≤ n) (h3 : n ≤ cap) (hp : n = 0 ∨ ∃ bb off, p = some ⟨bb, off, none⟩) :
    ∃ pv cv, (∀ w, (Instr.slice 31 (.slice p n cap) (some (.int .i64 (c : Int))) none none).run Tryd.prog w = .ok (.slice pv (n - c) cv) w) ∧
      (n - c = 0 ∨ ∃ bb off, p = some ⟨bb, off, none⟩ ∧ pv = some ⟨bb, off + c, none⟩) := by
  have hz : ∀ w, (sizeOf (Tryd.prog.elem 31)).run Tryd.prog w = .ok 1 w := fun w => by kernel_rfl
  have key : ∀ w, (Instr.slice 31 (.slice p n cap) (some (.int .i64 (c : Int))) none none).run Tryd.prog w = .ok (sliced p c n cap 1) w := by
    intro w
    rw [run_slice_l (P := Tryd.prog) w 31 p n cap (by kernel_rfl) .i64 (c : Int) (by omega) (by omega), hz w]
    simp [Result.andThen]
  refine ⟨if cap = c then p else p.map (·.add (c * 1)), cap - c, fun w => by rw [key w]; rfl, ?_⟩
  by_cases hd : n - c = 0
  · exact Or.inl hd
  · rcases hp with hp | ⟨bb, off, rfl⟩
    · omega
    · refine Or.inr ⟨bb, off, rfl, ?_⟩
      rw [if_neg (by omega)]
      have e : (⟨bb, off, none⟩ : Addr).add (c * 1) = ⟨bb, off + c, none⟩ := by
        rw [Nat.mul_one]
        by_cases h : c = 0 <;> simp [Addr.add, h]
      show some ((⟨bb, off, none⟩ : Addr).add (c * 1)) = _
      rw [e]
/-- n bytes from p on, wherever that is; no bytes may be anywhere. -/
def Arr8 (w : World) (p : Option Addr) (n : Nat) (l : List (BitVec 8)) : Prop := n = 0 ∨ ∃ bb off, p = some ⟨bb, off, none⟩ ∧ Row8 w bb off l ∧ bb < w.heap.size
theorem Arr8.below {w w' : World} {p : Option Addr} {n : Nat} {l : List (BitVec 8)} (h : Arr8 w p n l) (o : Below w.heap.size w w') : Arr8 w' p n l := by
  rcases h with h | ⟨bb, off, hp, hr, hb⟩
  · exact Or.inl h
  · exact Or.inr ⟨bb, off, hp, hr.below o hb, Nat.lt_of_lt_of_le hb o.size⟩
theorem Arr8.isBytes {w : World} {p : Option Addr} {n cap : Nat} {l : List (BitVec 8)} (h : Arr8 w p n l) (hl : n = l.length) : IsBytes w (.slice p n cap) l := by
  rcases h with h | ⟨bb, off, hp, hr, hb⟩
  · subst h; exact Or.inl ⟨List.eq_nil_of_length_eq_zero hl.symm, _, _, rfl⟩
  · subst hp; exact IsBytes.mk hl hr hb
theorem Upd.grown {s : Nat} {a b c : World} {row : Option Nat} (h : Upd s a b) (g : b.grownBy c row) (hr : ∀ k, row = some k → a.heap.size ≤ k) : Upd s a c :=
  ⟨g.os.trans h.os, g.tape.trans h.tape, g.output.trans h.output, Nat.le_trans h.size g.size, fun k hk hs => (g.block k (Nat.lt_of_lt_of_le hk h.size) (fun e => by have := hr k e.symm; omega)).trans (h.block k hk hs)⟩
theorem Upd.others {s g : Nat} {a b c : World} (h : Upd s a b) (o : Only g b c) (hg : a.heap.size ≤ g) : Upd s a c :=
  ⟨o.os.trans h.os, o.tape.trans h.tape, o.output.trans h.output, by rw [o.size]; exact h.size, fun k hk hs => (o.block k (by omega)).trans (h.block k hk hs)⟩
end Go.Proofs.YtbngkmlipmhgdaaDoor
