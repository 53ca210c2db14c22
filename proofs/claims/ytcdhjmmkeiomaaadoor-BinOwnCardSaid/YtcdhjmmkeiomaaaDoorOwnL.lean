/- Lists of polynomials, each of which a call may write over: for BinOwn. By the verifier of shale. -/
import Derived.Test.YtcdhjmmkeiomaaaDoorSayV
namespace Go.Proofs.YtcdhjmmkeiomaaaDoor.Bin
open Go Go.RowKit
set_option linter.unusedVariables false
/-- n bytes in memory from block B0 on, each of which may be written. -/
def Room8 (w : World) (B0 : Nat) (a : Option Addr) (n : Nat) : Prop := n ≤ maxLen ∧ (n = 0 ∨ ∃ g X, a = some ⟨g, 0, none⟩ ∧ B0 ≤ g ∧ n = X.length ∧ Buf8 w g X)
theorem Room8.of {w0 w : World} {K B0 : Nat} {a : Option Addr} {n c v : Nat} (h : NewV w0 w K a n c v) (hb : B0 ≤ w0.heap.size) : Room8 w B0 a n := by
  obtain ⟨X, p1, _, _, _⟩ := h
  refine ⟨Nat.le_trans p1.hcap p1.hmost, ?_⟩
  rcases p1.own with ⟨_, h0, _⟩ | ⟨g, ha, hg, hB⟩
  · exact Or.inl h0
  · exact Or.inr ⟨g, X, ha, Nat.le_trans hb hg, p1.hlen, hB⟩
theorem Room8.nil (w : World) (B0 : Nat) (a : Option Addr) : Room8 w B0 a 0 := ⟨Nat.zero_le _, Or.inl rfl⟩
theorem Room8.below {w w' : World} {B0 : Nat} {a : Option Addr} {n : Nat} (h : Room8 w B0 a n) (b : Below w.heap.size w w') : Room8 w' B0 a n := by
  refine ⟨h.1, ?_⟩
  rcases h.2 with h0 | ⟨g, X, ha, hg, hn, hB⟩
  · exact Or.inl h0
  · exact Or.inr ⟨g, X, ha, hg, hn, Buf8.since hB b⟩
theorem buf_any {w : World} {g : Nat} {X : List (BitVec 8)} (h : Buf8 w g X) (g' i : Nat) (c : BitVec 8) : ∃ X', X'.length = X.length ∧ Buf8 (w.setCell ⟨g', i, none⟩ (.int .u8 (Bits32.b c))) g X' := by
  by_cases hg : g = g'
  · subst hg
    by_cases hi : i < X.length
    · exact ⟨X.set i c, by simp, h.set i hi c⟩
    · refine ⟨X, rfl, ?_⟩
      obtain ⟨cur, t, hh, hc⟩ := h
      refine ⟨cur.setIfInBounds i (.int .u8 (Bits32.b c)), t, heap_setCell_same w g i cur t _ hh, fun j hj => ?_⟩
      rw [Array.getElem?_setIfInBounds_ne (by omega)]
      exact hc j hj
  · refine ⟨X, rfl, ?_⟩
    obtain ⟨cur, t, hh, hc⟩ := h
    exact ⟨cur, t, (Below.heap_setCell _ _ _ _ hg).trans hh, hc⟩
theorem Room8.set {w : World} {B0 : Nat} {a : Option Addr} {n : Nat} (h : Room8 w B0 a n) (g' i : Nat) (c : BitVec 8) : Room8 (w.setCell ⟨g', i, none⟩ (.int .u8 (Bits32.b c))) B0 a n := by
  refine ⟨h.1, ?_⟩
  rcases h.2 with h0 | ⟨g, X, ha, hg, hn, hB⟩
  · exact Or.inl h0
  · obtain ⟨X', hl, hB'⟩ := buf_any hB g' i c
    exact Or.inr ⟨g, X', ha, hg, by rw [hl]; exact hn, hB'⟩
abbrev Ent := Option Addr × Nat × Nat
def ent (L : List Ent) (i : Nat) : Ent := L.getD i (none, 0, 0)
def litP (L : List Ent) : Obj := .cells (L.map fun e => Value.slice e.1 e.2.1 e.2.2).toArray 24 (0, 0)
/-- a list of polynomials in block gl, each of them to be written over. -/
structure ListP (w : World) (B0 gl : Nat) (L : List Ent) : Prop where
  blk : w.heap[gl]? = some (litP L)
  each : ∀ i, i < L.length → Room8 w B0 (ent L i).1 (ent L i).2.1
  apart : ∀ i, i < L.length → ∀ g o, (ent L i).1 = some ⟨g, o, none⟩ → (ent L i).2.1 ≠ 0 → g ≠ gl
  low : B0 ≤ gl
theorem ListP.cell {w : World} {B0 gl : Nat} {L : List Ent} (h : ListP w B0 gl L) (i : Nat) (hi : i < L.length) : w.cell? ⟨gl, i, none⟩ = some (.slice (ent L i).1 (ent L i).2.1 (ent L i).2.2) := by
  unfold World.cell?
  simp only
  rw [h.blk]
  unfold litP ent
  simp [hi]
theorem ListP.set {w : World} {B0 gl : Nat} {L : List Ent} (h : ListP w B0 gl L) (g i : Nat) (c : BitVec 8) (hg : g ≠ gl) : ListP (w.setCell ⟨g, i, none⟩ (.int .u8 (Bits32.b c))) B0 gl L :=
  ⟨(Below.heap_setCell _ _ _ _ (by show gl ≠ g; omega)).trans h.blk, fun j hj => (h.each j hj).set g i c, h.apart, h.low⟩
theorem ListP.new {w : World} {B0 : Nat} {L : List Ent} (hB : B0 ≤ w.heap.size) (h : ∀ e ∈ L, Room8 w B0 e.1 e.2.1) : ListP (w.alloc (litP L)) B0 w.heap.size L := by
  have hm : ∀ i, i < L.length → ent L i ∈ L := fun i hi => by
    unfold ent
    rw [List.getD_eq_getElem?_getD, List.getElem?_eq_getElem hi]
    exact List.getElem_mem hi
  refine ⟨heap_alloc_new w _, fun i hi => (h _ (hm i hi)).below ((Below.refl _ _).alloc (Nat.le_refl _) _), fun i hi g o ha hn => ?_, hB⟩
  rcases (h _ (hm i hi)).2 with h0 | ⟨g', X, ha', _, _, hb⟩
  · exact absurd h0 hn
  · rw [ha] at ha'
    simp only [Option.some.injEq, Addr.mk.injEq] at ha'
    have := hb.lt
    omega
end Go.Proofs.YtcdhjmmkeiomaaaDoor.Bin
