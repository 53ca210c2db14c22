/- The walk over package binpoly's Add. By the verifier of shale. -/
import Derived.Test.YtbngkmlipmhgdaaDoorBinShift
import Derived.Laws.CopyOwn
import Derived.OwnWalk
namespace Go.Proofs.YtbngkmlipmhgdaaDoor.Bin
open Go Go.RowKit
set_option linter.unusedVariables false
theorem size8 : (Tryd.prog.info? 5).map (·.size) = some 1 := by kernel_rfl
/-- a polynomial in new memory, or none. -/
structure NewP (w w' : World) (a : Option Addr) (n cap : Nat) (X : List (BitVec 8)) : Prop where
  hlen : n = X.length
  hcap : n ≤ cap
  hmost : cap ≤ maxLen
  own : (a = none ∧ n = 0 ∧ cap = 0) ∨ ∃ g, a = some ⟨g, 0, none⟩ ∧ w.heap.size ≤ g ∧ Buf8 w' g X
theorem NewP.pol {w w' : World} {a : Option Addr} {n cap : Nat} {X : List (BitVec 8)} (h : NewP w w' a n cap X) : Pol w' a n cap X := by
  refine ⟨h.hlen, h.hcap, h.hmost, ?_, ?_⟩
  · intro e
    rcases h.own with ⟨_, _, h2⟩ | ⟨g, h2, _⟩
    · exact h2
    · rw [e] at h2; cases h2
  · rcases h.own with ⟨_, h2, _⟩ | ⟨g, h2, _, hb⟩
    · exact Or.inl h2
    · exact Or.inr ⟨g, 0, h2, hb.row, hb.lt⟩
theorem buf_take {w : World} {g : Nat} {X : List (BitVec 8)} (h : Buf8 w g X) (k : Nat) : Buf8 w g (X.take k) := by
  obtain ⟨cur, t, hh, hc⟩ := h
  refine ⟨cur, t, hh, fun i hi => ?_⟩
  rw [List.length_take] at hi
  rw [hc i (by omega), nth8_take, if_pos (by omega)]
theorem buf_of_blk {w : World} {g : Nat} {X : List (BitVec 8)} (h : Blk8 w g X) : Buf8 w g X := ⟨_, _, h, fun i hi => by simp [nth8, hi]⟩
/-- the answer is a polynomial of this value, bare, in new memory. -/
abbrev GivesP (v : Nat) (w : World) (e : Ending) (w' : World) : Prop := ∃ a n cap X, e = .returned (.slice a n cap) ∧ NewP w w' a n cap X ∧ Bare X ∧ val X = v ∧ Below w.heap.size w w'
theorem arg_src {W : World} {a : Option Addr} {n cap : Nat} {l : List (BitVec 8)} (h : Pol W a n cap l) (W' : World) (b : Below W.heap.size W W') : 0 < (cells8 l).length → ∃ ad, a = some ad ∧ ∀ j v, (cells8 l)[j]? = some v → W'.cell? (ad.add j) = some v := by
  intro h0
  rw [cells8_length] at h0
  rcases h.hrow with h1 | ⟨bb, off, rfl, hr, hb⟩
  · have := h.hlen; omega
  · refine ⟨_, rfl, fun j v hj => ?_⟩
    have hj2 : j < l.length := by
      have := (List.getElem?_eq_some_iff.1 hj).1
      rwa [cells8_length] at this
    have hadd : (⟨bb, off, none⟩ : Addr).add j = ⟨bb, off + j, none⟩ := by by_cases h : j = 0 <;> simp [Addr.add, h]
    rw [hadd, (hr.below b hb) j hj2, ← hj]
    unfold cells8 nth8
    simp [hj2]
theorem splice_all (xs : List Value) (z : Value) (n : Nat) (h : n = xs.length) : splice (List.replicate n z) 0 xs = xs := by
  unfold splice
  simp [h]
section
attribute [local go_sem] Bits32.bxor
end
end Go.Proofs.YtbngkmlipmhgdaaDoor.Bin
