/- Entries that wait, in memory. By the verifier of shale. -/
import Derived.Test.YtabpfadbioalgaaDoorBinTurn
import Derived.Test.YtabpfadbioalgaaDoorBuf
import Derived.Test.YtabpfadbioalgaaDoorErrs
import Derived.Test.YtabpfadbioalgaaDoorRangeSep
namespace Go.Proofs.YtabpfadbioalgaaDoor.Wt
open Go Go.RowKit Bin
set_option linter.unusedVariables false
set_option linter.unusedSimpArgs false
/-- an entry: its key, whether it is to be gone, its data and where they lie. -/
structure Ent where
  key : Int
  trim : Bool
  a : Option Addr
  n : Nat
  c : Nat
  l : List (BitVec 8)
def Ent.cells (e : Ent) : List Value := [.int .i64 e.key, .bool e.trim, .slice e.a e.n e.c]
abbrev Ent.val (e : Ent) : Value := .agg #[.int .i64 e.key, .bool e.trim, .slice e.a e.n e.c]
def ecells (L : List Ent) : List Value := L.flatMap Ent.cells
theorem ecells_nil : ecells [] = [] := rfl
theorem ecells_cons (e : Ent) (L : List Ent) : ecells (e :: L) = e.cells ++ ecells L := rfl
theorem ecells_append (L M : List Ent) : ecells (L ++ M) = ecells L ++ ecells M := by unfold ecells; rw [List.flatMap_append]
theorem ecells_length : ∀ L : List Ent, (ecells L).length = L.length * 3
  | [] => rfl
  | e :: L => by rw [ecells_cons, List.length_append, ecells_length L]; show 3 + _ = _; rw [List.length_cons]; omega
theorem ecells_take : ∀ (L : List Ent) (i : Nat), (ecells L).take (i * 3) = ecells (L.take i)
  | L, 0 => by simp [ecells]
  | [], i + 1 => by simp [ecells]
  | e :: L, i + 1 => by
    rw [ecells_cons, List.take_succ_cons, ecells_cons, ← ecells_take L i, List.take_append, show e.cells.length = 3 from rfl, List.take_of_length_le (by show 3 ≤ _; omega), show (i + 1) * 3 - 3 = i * 3 by omega]
theorem ecells_drop : ∀ (L : List Ent) (i : Nat), (ecells L).drop (i * 3) = ecells (L.drop i)
  | L, 0 => by simp
  | [], i + 1 => by simp [ecells]
  | e :: L, i + 1 => by
    rw [ecells_cons, List.drop_succ_cons, ← ecells_drop L i, List.drop_append, show e.cells.length = 3 from rfl, List.drop_of_length_le (by show 3 ≤ _; omega), List.nil_append, show (i + 1) * 3 - 3 = i * 3 by omega]
theorem ecells_one (L : List Ent) : ∀ u ∈ ecells L, u.oneCell' = true := by
  intro u hu
  obtain ⟨e, _, he⟩ := List.mem_flatMap.1 hu
  unfold Ent.cells at he
  simp only [List.mem_cons, List.not_mem_nil, or_false] at he
  rcases he with rfl | rfl | rfl <;> rfl
theorem ecells_at {L : List Ent} {i : Nat} {e : Ent} (h : L[i]? = some e) : (ecells L)[i * 3]? = some (.int .i64 e.key) ∧ (ecells L)[i * 3 + 1]? = some (.bool e.trim) ∧ (ecells L)[i * 3 + 2]? = some (.slice e.a e.n e.c) := by
  have hd : (ecells L).drop (i * 3) = e.cells ++ ecells (L.drop (i + 1)) := by
    rw [ecells_drop]
    have hi := (List.getElem?_eq_some_iff.1 h).1
    rw [List.drop_eq_getElem_cons hi, (List.getElem?_eq_some_iff.1 h).2]
    rfl
  have k : ∀ j, j < 3 → (ecells L)[i * 3 + j]? = e.cells[j]? := by
    intro j hj
    have := congrArg (fun l => l[j]?) hd
    simp only [List.getElem?_drop] at this
    rw [this, List.getElem?_append_left (by show j < 3; exact hj)]
  exact ⟨k 0 (by omega), k 1 (by omega), k 2 (by omega)⟩
/-- a row of entries of the call's own. -/
abbrev Row (w : World) (base : Nat) (v : Value) (L : List Ent) : Prop := w.ownsRow base 35 3 v L.length (ecells L)
theorem row_slice {w : World} {base : Nat} {v : Value} {L : List Ent} (h : Row w base v L) : ∃ a c, v = .slice a L.length c ∧ L.length ≤ c ∧ c ≤ maxLen ∧ (a = none → c = 0) := by
  rcases h.2 with ⟨h1, h2⟩ | ⟨g, cap, cur, hv, _, _, h3, h4, _⟩
  · exact ⟨none, 0, by rw [h1, h2], by omega, by decide, fun _ => rfl⟩
  · exact ⟨_, cap, hv, h3, h4, fun e => by cases e⟩
/-- an entry's cells, where it lies. -/
theorem row_cells {w : World} {base : Nat} {a : Option Addr} {n c : Nat} {L : List Ent} (h : Row w base (.slice a n c) L) {i : Nat} {e : Ent} (hi : L[i]? = some e) :
    ∃ g, a = some ⟨g, 0, none⟩ ∧ base ≤ g ∧ w.cell? ⟨g, i * 3, none⟩ = some (.int .i64 e.key) ∧ w.cell? ⟨g, i * 3 + 1, none⟩ = some (.bool e.trim) ∧ w.cell? ⟨g, i * 3 + 2, none⟩ = some (.slice e.a e.n e.c) := by
  obtain ⟨k0, k1, k2⟩ := ecells_at hi
  rcases h.2 with ⟨h1, h2⟩ | ⟨g, cap, cur, hv, hb, hh, _, _, _, _⟩
  · have := (List.getElem?_eq_some_iff.1 hi).1; omega
  · cases hv
    have hc := h.cells (g := g) rfl
    have hadd : ∀ j, (⟨g, 0, none⟩ : Addr).add j = ⟨g, j, none⟩ := fun j => by unfold Addr.add; split <;> simp_all
    have c0 := hc _ _ k0
    have c1 := hc _ _ k1
    have c2 := hc _ _ k2
    rw [hadd] at c0 c1 c2
    exact ⟨g, rfl, hb, c0, c1, c2⟩
/-- the buffer: its numbers, its row, what waits. -/
structure BufAt (w : World) (base bb : Nat) (sz mo sc : Int) (v : Value) (L : List Ent) : Prop where
  bb0 : base ≤ bb
  blk : w.heap[bb]? = some (.cells #[.int .i64 sz, .int .i64 mo, .int .i64 sc, v] 58 (0, 0))
  row : Row w base v L
  apart : v.ownBlock ≠ some bb
  ents : ∀ e ∈ L, Pol w e.a e.n e.c e.l ∧ ∀ q, e.a = some q → base ≤ q.block ∧ q.block < w.heap.size ∧ q.block ≠ bb ∧ some q.block ≠ v.ownBlock
/-- the blocks that a buffer may turn. -/
def blks (bb : Nat) (v : Value) : List Nat := bb :: v.ownBlock.toList
theorem BufAt.cells {w : World} {base bb : Nat} {sz mo sc : Int} {v : Value} {L : List Ent} (h : BufAt w base bb sz mo sc v L) :
    w.cell? ⟨bb, 0, none⟩ = some (.int .i64 sz) ∧ w.cell? ⟨bb, 1, none⟩ = some (.int .i64 mo) ∧ w.cell? ⟨bb, 2, none⟩ = some (.int .i64 sc) ∧ w.cell? ⟨bb, 3, none⟩ = some v ∧ ∀ i, w.frozen? ⟨bb, i, none⟩ = false := by
  have e := h.blk
  refine ⟨?_, ?_, ?_, ?_, fun i => ?_⟩
  · unfold World.cell?; simp only; rw [e]; rfl
  · unfold World.cell?; simp only; rw [e]; rfl
  · unfold World.cell?; simp only; rw [e]; rfl
  · unfold World.cell?; simp only; rw [e]; rfl
  · unfold World.frozen?; simp only; rw [e]; rfl
theorem BufAt.lt {w : World} {base bb : Nat} {sz mo sc : Int} {v : Value} {L : List Ent} (h : BufAt w base bb sz mo sc v L) : bb < w.heap.size := lt_of_block h.blk
theorem row_keep {w w' : World} {base : Nat} {v : Value} {L : List Ent} (h : Row w base v L) (o : ∀ g, v.ownBlock = some g → w'.heap[g]? = w.heap[g]?) : Row w' base v L := by
  refine ⟨h.1, ?_⟩
  rcases h.2 with h0 | ⟨g', cap', cur, hv, hbg, hh, r⟩
  · exact Or.inl h0
  · exact Or.inr ⟨g', cap', cur, hv, hbg, by rw [o g' (by rw [hv]; rfl)]; exact hh, r⟩
theorem pol_same {w w' : World} {a : Option Addr} {n c : Nat} {l : List (BitVec 8)} (h : Pol w a n c l) (hs : w.heap.size ≤ w'.heap.size) (o : ∀ q, a = some q → w'.heap[q.block]? = w.heap[q.block]?) : Pol w' a n c l := by
  refine ⟨h.hlen, h.hcap, h.hmost, h.hnil, ?_⟩
  rcases h.hrow with h0 | ⟨bb, off, e, hr, hb⟩
  · exact .inl h0
  · refine .inr ⟨bb, off, e, fun i hi => ?_, Nat.lt_of_lt_of_le hb hs⟩
    have := hr i hi
    unfold World.cell? at this ⊢
    simp only at this ⊢
    rw [o _ e]
    exact this
/-- what turns none of a buffer's blocks leaves it. -/
theorem BufAt.same {w w' : World} {base bb : Nat} {sz mo sc : Int} {v : Value} {L : List Ent} (h : BufAt w base bb sz mo sc v L) (hs : w.heap.size ≤ w'.heap.size) (o : ∀ k, base ≤ k → k < w.heap.size → w'.heap[k]? = w.heap[k]?) : BufAt w' base bb sz mo sc v L := by
  refine ⟨h.bb0, (o _ h.bb0 h.lt).trans h.blk, row_keep h.row fun g hg => ?_, h.apart, fun e he => ?_⟩
  · have := h.row.lt g hg; exact o g this.1 this.2
  · obtain ⟨h1, h2⟩ := h.ents e he
    exact ⟨pol_same h1 hs fun q hq => o _ (h2 q hq).1 (h2 q hq).2.1, fun q hq => ⟨(h2 q hq).1, Nat.lt_of_lt_of_le (h2 q hq).2.1 hs, (h2 q hq).2.2⟩⟩
theorem BufAt.below {w w' : World} {base bb : Nat} {sz mo sc : Int} {v : Value} {L : List Ent} (h : BufAt w base bb sz mo sc v L) (b : Below w.heap.size w w') : BufAt w' base bb sz mo sc v L :=
  h.same b.size fun k _ hk => b.block k hk
theorem blks_lt {w : World} {base bb : Nat} {sz mo sc : Int} {v : Value} {L : List Ent} (h : BufAt w base bb sz mo sc v L) : ∀ k ∈ blks bb v, base ≤ k ∧ k < w.heap.size := by
  intro k hk
  unfold blks at hk
  rcases List.mem_cons.1 hk with rfl | hk
  · exact ⟨h.bb0, h.lt⟩
  · exact h.row.lt k (by simpa using hk)
end Go.Proofs.YtabpfadbioalgaaDoor.Wt
