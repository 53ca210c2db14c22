/- shaleref.Bytes of bytes that came in; appending to such a copy. By the verifier of shale. -/
import Derived.Test.YtabpfadbioalgaaDoorRefBytes
import Derived.Test.YtabpfadbioalgaaDoorOwn8
namespace Go.Proofs.YtabpfadbioalgaaDoor
open Go Go.RowKit
set_option linter.unusedVariables false
theorem Arg8.len {W : World} {p : Option Addr} {n cap : Nat} {l : List (BitVec 8)} (h : Arg8 W (.slice p n cap) l) : n = l.length := by
  rcases h.1 with ⟨rfl, a, c, e⟩ | ⟨bb, off, c, e, _, _⟩
  · simp only [Value.slice.injEq] at e; exact e.2.1
  · simp only [Value.slice.injEq] at e; exact e.2.1
theorem copy_of {p : Option Addr} {n cap : Nat} {l : List (BitVec 8)} {w : World} (h : Arg8 w (.slice p n cap) l) (hp : p = none → cap = 0) (hm : n ≤ 1000000) :
    Calls Tryd.prog 11 #[.slice p n cap] w fun e w' => e = .returned (.slice (some ⟨w.heap.size, 0, none⟩) n n) ∧ Blk8 w' w.heap.size l ∧ Below w.heap.size w w' := by
  have hn := h.len
  refine copy_all p n cap l w ?_ ?_ hn hm
  · intro e
    refine ⟨?_, hp e⟩
    rcases h.1 with ⟨rfl, _⟩ | ⟨bb, off, c, e', _, _⟩
    · exact hn
    · rw [e] at e'; simp at e'
  · rcases h.1 with ⟨rfl, _⟩ | ⟨bb, off, c, e', hr, hb⟩
    · exact Or.inl hn
    · simp only [Value.slice.injEq] at e'
      exact Or.inr ⟨bb, off, e'.1, hr, hb⟩
/-- a block of the call's own is a slice of its own. -/
theorem Blk8.own {w : World} {g base n : Nat} {l : List (BitVec 8)} (h : Blk8 w g l) (hb : base ≤ g) (hn : n = l.length) (hm : n ≤ maxLen) : Own8 w base (.slice (some ⟨g, 0, none⟩) n n) n l := by
  refine ⟨by rw [cells8_length]; omega, Or.inr ⟨g, n, (cells8 l).toArray, rfl, hb, h, Nat.le_refl _, hm, by simp [cells8_length, hn], ?_⟩⟩
  rw [List.toList_toArray]
  rw [List.take_of_length_le (by rw [cells8_length]; omega)]
end Go.Proofs.YtabpfadbioalgaaDoor
