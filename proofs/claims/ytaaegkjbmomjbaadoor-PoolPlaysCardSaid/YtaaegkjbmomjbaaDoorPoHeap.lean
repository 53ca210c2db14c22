/- Package heap over a queue: its Less and Swap by what they do to the list. By the verifier of shale. -/
import Derived.Test.YtaaegkjbmomjbaaDoorPoOps
namespace Go.Proofs.YtaaegkjbmomjbaaDoor.Po
open Go Go.RowKit Hp
set_option linter.unusedVariables false
set_option linter.unusedSimpArgs false
theorem row_set {w : World} {base g n c : Nat} {e : TypeId} {s : Nat} {xs : List Value} (h : w.ownsRow base e s (.slice (some ⟨g, 0, none⟩) n c) n xs) (k : Nat) (u : Value) : (w.setCell ⟨g, k, none⟩ u).ownsRow base e s (.slice (some ⟨g, 0, none⟩) n c) n (xs.set k u) := by
  refine ⟨by rw [List.length_set]; exact h.1, ?_⟩
  rcases h.2 with ⟨h0, _⟩ | ⟨g', cap', cur, hv, hbg, hh, hnc, hm, hs, ht⟩
  · cases h0
  · cases hv
    refine .inr ⟨g, c, _, rfl, hbg, heap_setCell_same _ _ k _ _ _ hh, hnc, hm, by simpa using hs, ?_⟩
    rw [← ht]
    simp [List.take_set]
/-- a queue of N places in block g. -/
structure HpAt (w : World) (base qb : Nat) (ty : TypeId) (g N c : Nat) (L : List It) : Prop where
  q : QAt w base qb ty (.slice (some ⟨g, 0, none⟩) N c) L
  len : L.length = N
section
variable {w : World} {base qb : Nat} {ty : TypeId} {g N c : Nat} {L : List It}
theorem HpAt.ne (h : HpAt w base qb ty g N c L) : g ≠ qb := fun e => h.q.apart (by rw [e]; rfl)
theorem HpAt.cell (h : HpAt w base qb ty g N c L) : w.cell? ⟨qb, 0, none⟩ = some (.slice (some ⟨g, 0, none⟩) N c) := h.q.cell.1
theorem HpAt.item (h : HpAt w base qb ty g N c L) {i : Nat} (hi : i < N) : w.cell? ⟨g, i * 2, none⟩ = some (.int .i64 (L[i]!).b) ∧ w.cell? ⟨g, i * 2 + 1, none⟩ = some (.int .i64 (L[i]!).w) := by
  obtain ⟨a, c', e, _, _, h1, _⟩ := row_sliceP h.q.row
  cases e
  obtain ⟨k, e, _, _, _, h2⟩ := h1 _ rfl
  cases e
  exact h2 i (by rw [h.len]; exact hi)
theorem HpAt.free (h : HpAt w base qb ty g N c L) (i : Nat) : w.frozen? ⟨g, i, none⟩ = false := by
  obtain ⟨a, c', e, _, _, h1, _⟩ := row_sliceP h.q.row
  cases e
  obtain ⟨k, e, _, _, h2, _⟩ := h1 _ rfl
  cases e
  exact h2 i
theorem HpAt.g0 (h : HpAt w base qb ty g N c L) : base ≤ g ∧ g < w.heap.size := h.q.bl_lt g (List.mem_cons_of_mem _ (by simp [Value.ownBlock]))
theorem HpAt.drawn {w' : World} (h : HpAt w base qb ty g N c L) (d : Drawn w w') : HpAt w' base qb ty g N c L := ⟨h.q.below (d.below _), h.len⟩
theorem HpAt.below {w' : World} (h : HpAt w base qb ty g N c L) (d : Below w.heap.size w w') : HpAt w' base qb ty g N c L := ⟨h.q.below d, h.len⟩
theorem qless (h : HpAt w base qb ty g N c L) {i j : Nat} (hi : i < N) (hj : j < N) : Calls Tryd.prog 64 #[.slice (some ⟨g, 0, none⟩) N c, .int .i64 (i : Int), .int .i64 (j : Int)] w fun e w' => e = .returned (.bool (Lt.lt (L[i]!) (L[j]!))) ∧ HpAt w' base qb ty g N c L ∧ Only g w w' :=
  (less_any hi hj (h.item hi).1 (h.item hi).2 (h.item hj).1 (h.item hj).2).mono fun e w' ⟨h1, h2⟩ => ⟨h1, h.drawn h2, by obtain ⟨n, rfl⟩ := h2; exact ⟨rfl, rfl, rfl, rfl, fun _ _ => rfl⟩⟩
theorem qswap (h : HpAt w base qb ty g N c L) {i j : Nat} (hi : i < N) (hj : j < N) : Calls Tryd.prog 65 #[.slice (some ⟨g, 0, none⟩) N c, .int .i64 (i : Int), .int .i64 (j : Int)] w fun e w' => e = .returned (.tuple #[]) ∧ HpAt w' base qb ty g N c (swapL L i j) ∧ Only g w w' := by
  refine (swap_any hi hj (h.item hi).1 (h.item hi).2 (h.item hj).1 (h.item hj).2 h.free).mono ?_
  rintro e w' ⟨rfl, rfl⟩
  have hl := h.len
  have o : Only g w ((((w.setCell ⟨g, i * 2, none⟩ (.int .i64 (L[j]!).b)).setCell ⟨g, i * 2 + 1, none⟩ (.int .i64 (L[j]!).w)).setCell ⟨g, j * 2, none⟩ (.int .i64 (L[i]!).b)).setCell ⟨g, j * 2 + 1, none⟩ (.int .i64 (L[i]!).w)).drew :=
    (((((Only.refl g w).trans (Only.setCell _ ⟨g, i * 2, none⟩ _)).trans (Only.setCell _ ⟨g, i * 2 + 1, none⟩ _)).trans (Only.setCell _ ⟨g, j * 2, none⟩ _)).trans (Only.setCell _ ⟨g, j * 2 + 1, none⟩ _)).drew
  have hr := h.q.row
  rw [hl] at hr
  have r := row_set (row_set (row_set (row_set hr (i * 2) (.int .i64 (L[j]!).b)) (i * 2 + 1) (.int .i64 (L[j]!).w)) (j * 2) (.int .i64 (L[i]!).b)) (j * 2 + 1) (.int .i64 (L[i]!).w)
  have e : icells (swapL L i j) = ((((icells L).set (i * 2) (.int .i64 (L[j]!).b)).set (i * 2 + 1) (.int .i64 (L[j]!).w)).set (j * 2) (.int .i64 (L[i]!).b)).set (j * 2 + 1) (.int .i64 (L[i]!).w) := by
    unfold swapL
    rw [icells_set _ j _ (by rw [List.length_set]; omega), icells_set _ i _ (by omega)]
  refine ⟨rfl, ⟨⟨h.q.q0, (o.block qb (Ne.symm h.ne)).trans h.q.blk, ?_, h.q.apart⟩, by rw [swap_len]; exact hl⟩, o⟩
  rw [swap_len, hl, e]
  exact row_keepP r fun _ _ => rfl
end
end Go.Proofs.YtaaegkjbmomjbaaDoor.Po
