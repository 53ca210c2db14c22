/- What a call of package fieldpoly answers may be written over, without a trace elsewhere. By the verifier of shale. -/
import Derived.Test.YtgfaaaeechgjmaaDoorPolyFrom
namespace Go.Proofs.YtgfaaaeechgjmaaDoor.Pl
open Go Go.RowKit Fld Bits16
set_option linter.unusedVariables false
/-- n ints in block g. -/
def Buf64 (w : World) (g n : Nat) : Prop := ∃ cur t, w.heap[g]? = some (.cells cur t (0, 0)) ∧ ∀ j, j < n → ∃ z : Int, cur[j]? = some (.int .i64 z)
theorem Buf64.lt {w : World} {g n : Nat} (h : Buf64 w g n) : g < w.heap.size := by
  obtain ⟨cur, t, hh, _⟩ := h
  exact lt_of_block hh
theorem Buf64.cell {w : World} {g n j : Nat} (h : Buf64 w g n) (hj : j < n) : ∃ z : Int, w.cell? ⟨g, j, none⟩ = some (.int .i64 z) := by
  obtain ⟨cur, t, hh, hc⟩ := h
  obtain ⟨z, hz⟩ := hc j hj
  refine ⟨z, ?_⟩
  unfold World.cell?
  simp only
  rw [hh]; exact hz
theorem Buf64.free {w : World} {g n : Nat} (h : Buf64 w g n) (j : Nat) : w.frozen? ⟨g, j, none⟩ = false := by
  obtain ⟨cur, t, hh, _⟩ := h
  unfold World.frozen?
  simp only
  rw [hh]; rfl
theorem Buf64.since {w w' : World} {g n : Nat} (h : Buf64 w g n) (b : Below w.heap.size w w') : Buf64 w' g n := by
  have hl := h.lt
  obtain ⟨cur, t, hh, hc⟩ := h
  exact ⟨cur, t, (b.block g hl).trans hh, hc⟩
theorem Buf64.set {w : World} {g n : Nat} (h : Buf64 w g n) (g' i : Nat) (z : Int) : Buf64 (w.setCell ⟨g', i, none⟩ (.int .i64 z)) g n := by
  obtain ⟨cur, t, hh, hc⟩ := h
  by_cases hg : g = g'
  · subst hg
    refine ⟨cur.setIfInBounds i (.int .i64 z), t, heap_setCell_same w g i cur t _ hh, fun j hj => ?_⟩
    by_cases e : i = j
    · subst e
      obtain ⟨y, hy⟩ := hc i hj
      have hs := (Array.getElem?_eq_some_iff.1 hy).1
      exact ⟨z, by rw [Array.getElem?_setIfInBounds_self, if_pos hs]⟩
    · rw [Array.getElem?_setIfInBounds_ne e]; exact hc j hj
  · exact ⟨cur, t, (Below.heap_setCell _ _ _ _ hg).trans hh, hc⟩
theorem Blk64.buf {w : World} {g : Nat} {l : List Int} (h : Blk64 w g l) {n : Nat} (hn : n ≤ l.length) : Buf64 w g n :=
  ⟨_, _, h, fun j hj => ⟨l.getD j 0, by
    have : j < l.length := by omega
    simp [cells64, this]⟩⟩
/-- n ints from block B0 on. -/
def Room64 (w : World) (B0 : Nat) (a : Option Addr) (n : Nat) : Prop := n ≤ maxLen ∧ (n = 0 ∨ ∃ g, a = some ⟨g, 0, none⟩ ∧ B0 ≤ g ∧ Buf64 w g n)
theorem Room64.nil (w : World) (B0 : Nat) (a : Option Addr) : Room64 w B0 a 0 := ⟨Nat.zero_le _, Or.inl rfl⟩
theorem Room64.below {w w' : World} {B0 : Nat} {a : Option Addr} {n : Nat} (h : Room64 w B0 a n) (b : Below w.heap.size w w') : Room64 w' B0 a n := by
  refine ⟨h.1, ?_⟩
  rcases h.2 with h0 | ⟨g, ha, hg, hB⟩
  · exact Or.inl h0
  · exact Or.inr ⟨g, ha, hg, hB.since b⟩
theorem Room64.from {w : World} {B0 B1 : Nat} {a : Option Addr} {n : Nat} (h : Room64 w B1 a n) (hB : B0 ≤ B1) : Room64 w B0 a n := by
  refine ⟨h.1, ?_⟩
  rcases h.2 with h0 | ⟨g, ha, hg, hb⟩
  · exact Or.inl h0
  · exact Or.inr ⟨g, ha, Nat.le_trans hB hg, hb⟩
theorem Room64.set {w : World} {B0 : Nat} {a : Option Addr} {n : Nat} (h : Room64 w B0 a n) (g' i : Nat) (z : Int) : Room64 (w.setCell ⟨g', i, none⟩ (.int .i64 z)) B0 a n := by
  refine ⟨h.1, ?_⟩
  rcases h.2 with h0 | ⟨g, ha, hg, hb⟩
  · exact Or.inl h0
  · exact Or.inr ⟨g, ha, hg, hb.set g' i z⟩
section
variable {m : Nat} [M : Mid m]
theorem Out.room {w0 w : World} {a : Option Addr} {n c : Nat} {p : Ser (El m)} (h : Out m w0 w a n c p) : Room64 w w0.heap.size a n := by
  rcases h with ⟨_, rfl, _, _⟩ | ⟨g, N, ha, hg, hN, _, hk, hn, _⟩
  · exact Room64.nil _ _ _
  · have := top_le p N
    exact ⟨by unfold maxLen; omega, Or.inr ⟨g, ha, hg, Blk64.buf hk (by rw [nums_length]; omega)⟩⟩
theorem own_room {w : World} {base n : Nat} {a : Option Addr} {c : Nat} {l : List Int} (e : Own64 w base (.slice a n c) n l) : Room64 w base a n := by
  rcases e.2 with ⟨h0, h1⟩ | ⟨g', cap', cur, hv, hbg, hh, hnc, hm, hs, ht⟩
  · rw [h1]; exact Room64.nil _ _ _
  · simp only [Value.slice.injEq] at hv
    obtain ⟨ha, _, _⟩ := hv
    have hl := e.len
    refine ⟨by omega, Or.inr ⟨g', ha, hbg, cur, _, hh, fun j hj => ⟨nth64 l j, ?_⟩⟩⟩
    have e2 : cur.toList[j]? = (cells64 l)[j]? := by rw [← ht, List.getElem?_take_of_lt (by omega)]
    simp only [Array.getElem?_toList] at e2
    rw [e2]
    unfold cells64 nth64
    simp [show j < l.length by omega]
section
variable {g s be ce bl : Nat} {w : World} {a a' : Option Addr} {n c n' c' : Nat} {l l' : List Int}
theorem mulO (R : RingAt m w g s be ce bl) (h1 : RowZ w a n c l) (h2 : RowZ w a' n' c' l') (k1 : n ≤ 24) (k2 : n' ≤ 24) :
    Calls Tryd.prog 11 #[.pointer (some ⟨g, 0, none⟩), .slice a n c, .slice a' n' c'] w fun e w' => ∃ a n c, e = .returned (.tuple #[.slice a n c, .nilIface]) ∧ Room64 w' w.heap.size a n ∧ Below w.heap.size w w' := by
  have t1 := top_le (sr m l) n
  have t2 := top_le (sr m l') n'
  refine (pmul_any (m := m) a n c l a' n' c' l' w R h1 h2 (by omega) (by omega) (by omega)).mono ?_
  rintro e w1 ⟨a3, n3, c3, rfl, hO, b⟩
  exact ⟨a3, n3, c3, rfl, hO.room, b⟩
theorem divO (R : RingAt m w g s be ce bl) (h1 : RowZ w a n c l) (h2 : RowZ w a' n' c' l') (k1 : n ≤ 24) (k2 : n' ≤ 24) (p : Addr) (E : ErrAt w 0 p) :
    Calls Tryd.prog 28 #[.pointer (some ⟨g, 0, none⟩), .slice a n c, .slice a' n' c'] w fun e w' => ∃ a n c b k d er, e = .returned (.tuple #[.slice a n c, .slice b k d, er]) ∧ Room64 w' w.heap.size a n ∧ Room64 w' w.heap.size b k ∧ Below w.heap.size w w' := by
  by_cases hz : top (sr m l') n' = 0
  · refine (pdiv_zero (m := m) a n c l a' n' c' l' w R h1 h2 (by omega) (by omega) hz p E).mono ?_
    rintro e w1 ⟨rfl, b⟩
    exact ⟨_, _, _, _, _, _, _, rfl, Room64.nil _ _ _, Room64.nil _ _ _, b⟩
  · refine (pdiv_any (m := m) a n c l a' n' c' l' w R h1 h2 (by omega) (by omega) hz).mono ?_
    rintro e w1 ⟨a3, n3, c3, b3, k3, d3, A, L, rfl, hA, hL, _, b⟩
    exact ⟨_, _, _, _, _, _, _, rfl, hA.room, hL.room, b⟩
theorem fromO (R : RingAt m w g s be ce bl) (h1 : RowZ w a n c l) (k1 : n ≤ 24) :
    Calls Tryd.prog 30 #[.pointer (some ⟨g, 0, none⟩), .slice a n c] w fun e w' => ∃ a n c, e = .returned (.tuple #[.slice a n c, .nilIface]) ∧ Room64 w' w.heap.size a n ∧ Below w.heap.size w w' := by
  refine (from_any (m := m) a n c l w R h1 (by omega)).mono ?_
  rintro e w1 ⟨a3, n3, c3, rfl, hO, b⟩
  exact ⟨a3, n3, c3, rfl, hO.room, b⟩
theorem trimO (R : RingAt m w g s be ce bl) (h1 : RowZ w a n c l) (k1 : n ≤ 24) :
    Calls Tryd.prog 14 #[.pointer (some ⟨g, 0, none⟩), .slice a n c] w fun e w' => ∃ a n c, e = .returned (.slice a n c) ∧ Room64 w' w.heap.size a n ∧ Below w.heap.size w w' := by
  have t1 := top_le (sr m l) n
  refine (trim_any (m := m) a n c l w R h1 (by omega)).mono ?_
  rintro e w1 ⟨rfl, hO, b⟩
  exact ⟨_, _, _, rfl, ⟨by unfold maxLen; omega, Or.inr ⟨_, rfl, Nat.le_refl _, Blk64.buf hO (by rw [nums_length]; exact Nat.le_refl _)⟩⟩, b⟩
theorem addO (R : RingAt m w g s be ce bl) (h1 : RowZ w a n c l) (h2 : RowZ w a' n' c' l') (k1 : n ≤ 24) (k2 : n' ≤ 24) :
    Calls Tryd.prog 16 #[.pointer (some ⟨g, 0, none⟩), .slice a n c, .slice a' n' c'] w fun e w' => ∃ a n c, e = .returned (.slice a n c) ∧ Room64 w' w.heap.size a n ∧ Below w.heap.size w w' := by
  refine (padd_any (m := m) a n c l a' n' c' l' w R h1 h2 (by omega) (by omega)).mono ?_
  rintro e w1 ⟨a3, n3, c3, rfl, hO, b⟩
  exact ⟨a3, n3, c3, rfl, hO.room, b⟩
theorem scaleO (z : Int) (R : RingAt m w g s be ce bl) (h1 : RowZ w a n c l) (k1 : n ≤ 24) :
    Calls Tryd.prog 18 #[.pointer (some ⟨g, 0, none⟩), .slice a n c, .int .i64 z] w fun e w' => ∃ a n c, e = .returned (.slice a n c) ∧ Room64 w' w.heap.size a n ∧ Below w.heap.size w w' := by
  refine (scale_any (m := m) a n c l z w R h1 (by omega)).mono ?_
  rintro e w1 ⟨a3, n3, c3, rfl, hO, b⟩
  exact ⟨a3, n3, c3, rfl, hO.room, b⟩
theorem derO (R : RingAt m w g s be ce bl) (h1 : RowZ w a n c l) (k1 : n ≤ 24) :
    Calls Tryd.prog 22 #[.pointer (some ⟨g, 0, none⟩), .slice a n c] w fun e w' => ∃ a n c, e = .returned (.slice a n c) ∧ Room64 w' w.heap.size a n ∧ Below w.heap.size w w' := by
  refine (der_any (m := m) a n c l w R h1 (by omega)).mono ?_
  rintro e w1 ⟨a3, n3, c3, rfl, hO, b⟩
  exact ⟨a3, n3, c3, rfl, hO.room, b⟩
theorem gcdO (R : RingAt m w g s be ce bl) (h1 : RowZ w a n c l) (h2 : RowZ w a' n' c' l') (k1 : n ≤ 24) (k2 : n' ≤ 24) :
    Calls Tryd.prog 24 #[.pointer (some ⟨g, 0, none⟩), .slice a n c, .slice a' n' c'] w fun e w' => ∃ a n c, e = .returned (.slice a n c) ∧ Room64 w' w.heap.size a n ∧ Below w.heap.size w w' := by
  refine (pgcd_any (m := m) a n c l a' n' c' l' w R h1 h2 (by omega) (by omega)).mono ?_
  rintro e w1 ⟨a3, n3, c3, G, rfl, hO, _, _, b⟩
  exact ⟨a3, n3, c3, rfl, hO.room, b⟩
theorem rootsO (R : RingAt m w g s be ce bl) (h1 : RowZ w a n c l) (k1 : n ≤ 24) :
    Calls Tryd.prog 26 #[.pointer (some ⟨g, 0, none⟩), .slice a n c] w fun e w' => ∃ a n c, e = .returned (.slice a n c) ∧ Room64 w' w.heap.size a n ∧ Below w.heap.size w w' := by
  by_cases hz : top (sr m l) n = 0
  · refine (roots_zero (m := m) a n c l w R h1 (by omega) hz).mono ?_
    rintro e w1 ⟨rfl, b⟩
    exact ⟨_, _, _, rfl, Room64.nil _ _ _, b⟩
  · refine (roots_any (m := m) a n c l w R h1 (by omega) hz).mono ?_
    rintro e w1 ⟨v, k, rfl, hO, b⟩
    obtain ⟨a3, c3, rfl⟩ := own_slice hO
    exact ⟨a3, k, c3, rfl, own_room hO, b⟩
end
end
theorem rowz_nil (w : World) : RowZ w none 0 0 [] := ⟨rfl, Nat.le_refl _, by decide, fun i hi => by omega⟩
abbrev Ent := Option Addr × Nat × Nat
def ent (L : List Ent) (i : Nat) : Ent := L.getD i (none, 0, 0)
def litS (L : List Ent) : Obj := .cells (L.map fun e => Value.slice e.1 e.2.1 e.2.2).toArray 22 (0, 0)
/-- a list of lists in block gl, each of them to be written over. -/
structure ListS (w : World) (B0 gl : Nat) (L : List Ent) : Prop where
  blk : w.heap[gl]? = some (litS L)
  each : ∀ i, i < L.length → Room64 w B0 (ent L i).1 (ent L i).2.1
  apart : ∀ i, i < L.length → ∀ g o, (ent L i).1 = some ⟨g, o, none⟩ → (ent L i).2.1 ≠ 0 → g ≠ gl
  low : B0 ≤ gl
theorem ListS.cell {w : World} {B0 gl : Nat} {L : List Ent} (h : ListS w B0 gl L) (i : Nat) (hi : i < L.length) : w.cell? ⟨gl, i, none⟩ = some (.slice (ent L i).1 (ent L i).2.1 (ent L i).2.2) := by
  unfold World.cell?
  simp only
  rw [h.blk]
  unfold litS ent
  simp [hi]
theorem ListS.set {w : World} {B0 gl : Nat} {L : List Ent} (h : ListS w B0 gl L) (g i : Nat) (z : Int) (hg : g ≠ gl) : ListS (w.setCell ⟨g, i, none⟩ (.int .i64 z)) B0 gl L :=
  ⟨(Below.heap_setCell _ _ _ _ (by show gl ≠ g; omega)).trans h.blk, fun j hj => (h.each j hj).set g i z, h.apart, h.low⟩
theorem ListS.new {w : World} {B0 : Nat} {L : List Ent} (hB : B0 ≤ w.heap.size) (h : ∀ e ∈ L, Room64 w B0 e.1 e.2.1) : ListS (w.alloc (litS L)) B0 w.heap.size L := by
  have hm : ∀ i, i < L.length → ent L i ∈ L := fun i hi => by
    unfold ent
    rw [List.getD_eq_getElem?_getD, List.getElem?_eq_getElem hi]
    exact List.getElem_mem hi
  refine ⟨heap_alloc_new w _, fun i hi => (h _ (hm i hi)).below ((Below.refl _ _).alloc (Nat.le_refl _) _), fun i hi g o ha hn => ?_, hB⟩
  rcases (h _ (hm i hi)).2 with h0 | ⟨g', ha', _, hb⟩
  · exact absurd h0 hn
  · rw [ha] at ha'
    simp only [Option.some.injEq, Addr.mk.injEq] at ha'
    have := hb.lt
    omega
end Go.Proofs.YtgfaaaeechgjmaaDoor.Pl
