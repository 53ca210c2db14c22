/- A block that holds bytes, and maybe more behind them. By the verifier of shale. -/
import Derived.Test.YtbngkmlipmhgdaaDoorOwn8
namespace Go.Proofs.YtbngkmlipmhgdaaDoor
open Go Go.RowKit
set_option linter.unusedVariables false
/-- block g holds the bytes l, and maybe more behind them. -/
def Buf8 (w : World) (g : Nat) (l : List (BitVec 8)) : Prop := ∃ cur t, w.heap[g]? = some (.cells cur t (0, 0)) ∧ ∀ i, i < l.length → cur[i]? = some (.int .u8 (Bits32.b (nth8 l i)))
theorem Buf8.lt {w : World} {g : Nat} {l : List (BitVec 8)} (h : Buf8 w g l) : g < w.heap.size := by obtain ⟨_, _, h, _⟩ := h; exact lt_of_block h
theorem Buf8.cell {w : World} {g : Nat} {l : List (BitVec 8)} (h : Buf8 w g l) (i : Nat) (hi : i < l.length) : w.cell? ⟨g, i, none⟩ = some (.int .u8 (Bits32.b (nth8 l i))) := by
  obtain ⟨cur, t, hh, hc⟩ := h
  unfold World.cell?
  simp only
  rw [hh]
  exact hc i hi
theorem Buf8.row {w : World} {g : Nat} {l : List (BitVec 8)} (h : Buf8 w g l) : Row8 w g 0 l := by
  intro i hi; rw [Nat.zero_add]; exact h.cell i hi
theorem Buf8.free {w : World} {g : Nat} {l : List (BitVec 8)} (h : Buf8 w g l) (i : Nat) : w.frozen? ⟨g, i, none⟩ = false := by
  obtain ⟨cur, t, hh, hc⟩ := h
  unfold World.frozen?
  simp only
  rw [hh]
  simp
theorem Buf8.below {B : Nat} {w w' : World} {g : Nat} {l : List (BitVec 8)} (h : Buf8 w g l) (b : Below B w w') (hg : g < B) : Buf8 w' g l := by
  obtain ⟨cur, t, hh, hc⟩ := h
  exact ⟨cur, t, (b.block _ hg).trans hh, hc⟩
theorem Buf8.set {w : World} {g : Nat} {l : List (BitVec 8)} (h : Buf8 w g l) (i : Nat) (hi : i < l.length) (c : BitVec 8) : Buf8 (w.setCell ⟨g, i, none⟩ (.int .u8 (Bits32.b c))) g (l.set i c) := by
  obtain ⟨cur, t, hh, hc⟩ := h
  have hlt := lt_of_block hh
  have h' : w.heap[g] = .cells cur t (0, 0) := by rw [Array.getElem?_eq_getElem hlt] at hh; exact Option.some.inj hh
  refine ⟨cur.setIfInBounds i (.int .u8 (Bits32.b c)), t, ?_, ?_⟩
  · show (w.heap.modify g _)[g]? = _
    rw [Array.getElem?_eq_getElem (by simpa using hlt), Array.getElem_modify_self, h']
    rfl
  · intro j hj
    rw [List.length_set] at hj
    have hcj := hc j hj
    have hjs : j < cur.size := (Array.getElem?_eq_some_iff.1 hcj).1
    by_cases e : i = j
    · subst e
      rw [Array.getElem?_setIfInBounds_self, if_pos hjs]
      unfold nth8
      simp [hi]
    · rw [Array.getElem?_setIfInBounds_ne e, hcj]
      unfold nth8
      rw [List.getD_eq_getElem?_getD, List.getD_eq_getElem?_getD, List.getElem?_set_ne e]
theorem Own8.buf {w : World} {base g n cap : Nat} {l : List (BitVec 8)} (h : Own8 w base (.slice (some ⟨g, 0, none⟩) n cap) n l) : Buf8 w g l ∧ n = l.length ∧ n ≤ cap := by
  have hl := h.len
  rcases h.2 with ⟨h0, h1⟩ | ⟨g', cap', cur, hv, hbg, hh, hn, hm, hs, ht⟩
  · cases h0
  · simp only [Value.slice.injEq, Option.some.injEq, Addr.mk.injEq] at hv
    obtain ⟨⟨rfl, _⟩, _, rfl⟩ := hv
    refine ⟨⟨cur, _, hh, ?_⟩, hl.symm, hn⟩
    intro i hi
    have e : cur.toList[i]? = (cells8 l)[i]? := by rw [← ht, List.getElem?_take_of_lt (by omega)]
    simp only [Array.getElem?_toList] at e
    rw [e]
    unfold cells8 nth8
    simp [hi]
end Go.Proofs.YtbngkmlipmhgdaaDoor
