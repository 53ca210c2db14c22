/- What a walk is told of a slice of integers that came in. By the verifier of shale. -/
import Derived.Test.YtbngkmlipmhgdaaDoorMem
import Derived.WalkKit
import Derived.OpenShut
namespace Go.Proofs.YtbngkmlipmhgdaaDoor
open Go Go.RowKit
/-- A slice of integers that came in: it is nil; or it leads to a row of 'cap' cells, the numbers 'zs' (the first 'len' are its elements, the rest its spare room), each fitting its kind. -/
def IsRow (k : IntKind) (w : World) (a : Option Addr) (len cap : Nat) (zs : List Int) : Prop :=
  (a = none ∧ len = 0 ∧ cap = 0 ∧ zs = []) ∨
  ∃ x, a = some x ∧ len ≤ cap ∧ cap ≤ maxLen ∧ zs.length = cap ∧ (∀ i, i < zs.length → w.cell? (x.add i) = some (.int k (zs.getD i 0))) ∧ ∀ n ∈ zs, (Lit.int k n).wf = true

theorem add_row (bb off i : Nat) : (⟨bb, off, none⟩ : Addr).add i = ⟨bb, off + i, none⟩ := by
  by_cases h : i = 0 <;> simp [Addr.add, h]
theorem b_ofInt (n : Int) (h : (Lit.int .u8 n).wf = true) : Bits32.b (BitVec.ofInt 8 n) = n := by
  have h2 := bounds_u8 h
  unfold Bits32.b
  rw [BitVec.toNat_ofInt]
  omega
/-- bytes that came in: none of them, or a row. -/
theorem IsRow.bytes {w : World} {a : Option Addr} {len cap : Nat} {zs : List Int} (h : IsRow .u8 w a len cap zs) :
    len ≤ maxLen ∧ ((len = 0) ∨ ∃ bb off l, a = some ⟨bb, off, none⟩ ∧ l.length = len ∧ len ≤ cap ∧ Row8 w bb off l ∧ bb < w.heap.size) := by
  rcases h with ⟨rfl, rfl, rfl, rfl⟩ | ⟨x, rfl, hl, hm, hz, hc, hw⟩
  · exact ⟨Nat.zero_le _, Or.inl rfl⟩
  · refine ⟨by omega, ?_⟩
    by_cases h0 : len = 0
    · exact Or.inl h0
    · obtain ⟨bb, off, spot⟩ := x
      have c0 := hc 0 (by omega)
      obtain rfl : spot = none := by simpa [Addr.add] using World.cell?_spot c0
      refine Or.inr ⟨bb, off, (zs.take len).map (BitVec.ofInt 8), rfl, by simp; omega, hl, ?_, World.block_lt_of_cell? w _ c0⟩
      intro i hi
      have hi' : i < len := by simp at hi; omega
      have ci := hc i (by omega)
      have hz' : i < zs.length := by omega
      have e : nth8 ((zs.take len).map (BitVec.ofInt 8)) i = BitVec.ofInt 8 (zs.getD i 0) := by
        unfold nth8
        rw [List.getD_eq_getElem?_getD, List.getElem?_map, List.getElem?_take_of_lt hi', List.getElem?_eq_getElem hz', List.getD_eq_getElem?_getD, List.getElem?_eq_getElem hz']
        rfl
      rw [e, b_ofInt]
      · rwa [add_row] at ci
      · rw [List.getD_eq_getElem?_getD, List.getElem?_eq_getElem hz']
        exact hw _ (List.getElem_mem hz')
/-- an int that came in. -/
theorem int64_bounds {x : Int} (h : (Lit.int .i64 x).wf = true) : -9223372036854775808 ≤ x ∧ x ≤ 9223372036854775807 := bounds_i64 h
theorem IsRow.nil_cap {k : IntKind} {w : World} {a : Option Addr} {len cap : Nat} {zs : List Int} (h : IsRow k w a len cap zs) : a = none → cap = 0 := by
  rintro rfl
  rcases h with ⟨_, _, h, _⟩ | ⟨x, h, _⟩
  · exact h
  · cases h
/-- a slice of ints that came in: each element is there. -/
theorem IsRow.at {k : IntKind} {w : World} {a : Option Addr} {len cap : Nat} {zs : List Int} (h : IsRow k w a len cap zs) :
    len ≤ maxLen ∧ len ≤ cap ∧ ∀ i, i < len → ∃ bb off z, a = some ⟨bb, off, none⟩ ∧ w.cell? ⟨bb, off + i, none⟩ = some (.int k z) ∧ bb < w.heap.size ∧ (Lit.int k z).wf = true := by
  rcases h with ⟨rfl, rfl, rfl, rfl⟩ | ⟨x, rfl, hl, hm, hz, hc, hw⟩
  · exact ⟨Nat.zero_le _, Nat.le_refl _, fun i hi => by omega⟩
  · refine ⟨by omega, hl, fun i hi => ?_⟩
    obtain ⟨bb, off, spot⟩ := x
    have c0 := hc i (by omega)
    obtain rfl : spot = none := by simpa [Addr.add] using World.cell?_spot (hc 0 (by omega))
    rw [add_row] at c0
    refine ⟨bb, off, _, rfl, c0, World.block_lt_of_cell? w _ c0, ?_⟩
    rw [List.getD_eq_getElem?_getD, List.getElem?_eq_getElem (by omega)]
    exact hw _ (List.getElem_mem (by omega))
/-- bytes that came in, as an argument for a call. -/
theorem IsRow.arg8 {w : World} {a : Option Addr} {len cap : Nat} {zs : List Int} (h : IsRow .u8 w a len cap zs) : ∃ l, l.length = len ∧ Arg8 w (.slice a len cap) l ∧ len ≤ cap := by
  obtain ⟨hm, h0 | ⟨bb, off, l, rfl, hl, hc, hr, hb⟩⟩ := h.bytes
  · subst h0; exact ⟨[], rfl, Arg8.nil _ _ _, Nat.zero_le _⟩
  · exact ⟨l, hl, Arg8.whole hr hb hl.symm hm, hc⟩
end Go.Proofs.YtbngkmlipmhgdaaDoor
