/- A queue of free blocks in memory, and the methods that package heap asks it for. By the verifier of shale. -/
import Derived.Test.YtaaegkjbmomjbaaDoorHeapMath
import Derived.Test.YtaaegkjbmomjbaaDoorErrs
import Derived.Test.YtaaegkjbmomjbaaDoorOwn64
import Derived.Test.YtaaegkjbmomjbaaDoorRangeSep
namespace Go.Proofs.YtaaegkjbmomjbaaDoor.Po
open Go Go.RowKit Hp
set_option linter.unusedVariables false
set_option linter.unusedSimpArgs false
/-- a free block, and how worn it is. -/
structure It where
  b : Int
  w : Int
deriving DecidableEq, Inhabited
def itLt (x y : It) : Bool := decide (x.w < y.w) || (decide (x.w = y.w) && decide (x.b < y.b))
instance : Lt It where
  lt := itLt
  asym a b h := by
    unfold itLt at *
    simp only [Bool.or_eq_true, Bool.and_eq_true, decide_eq_true_eq, Bool.or_eq_false_iff, Bool.and_eq_false_iff, decide_eq_false_iff_not] at *
    omega
  tr a b c h1 h2 := by
    unfold itLt at *
    simp only [Bool.or_eq_false_iff, Bool.and_eq_false_iff, decide_eq_false_iff_not] at *
    omega
abbrev itV (x : It) : Value := .agg #[.int .i64 x.b, .int .i64 x.w]
abbrev itC (x : It) : List Value := [.int .i64 x.b, .int .i64 x.w]
def icells (L : List It) : List Value := L.flatMap itC
theorem icells_snoc (L : List It) (s : It) : icells (L ++ [s]) = icells L ++ itC s := by unfold icells; simp
theorem icells_len (L : List It) : (icells L).length = L.length * 2 := by
  induction L with
  | nil => rfl
  | cons s L ih => unfold icells at *; simp only [List.flatMap_cons, List.length_append, ih, List.length_cons]; simp; omega
theorem icells_get (L : List It) (i : Nat) (hi : i < L.length) : (icells L)[i * 2]? = some (.int .i64 (L[i]!).b) ∧ (icells L)[i * 2 + 1]? = some (.int .i64 (L[i]!).w) := by
  induction L generalizing i with
  | nil => simp at hi
  | cons s L ih =>
    cases i with
    | zero => exact ⟨rfl, rfl⟩
    | succ i =>
      have := ih i (by simpa using hi)
      have e : icells (s :: L) = .int .i64 s.b :: .int .i64 s.w :: icells L := rfl
      rw [e, show (i + 1) * 2 = i * 2 + 1 + 1 from by omega]
      simpa using this
theorem icells_set (L : List It) (i : Nat) (x : It) (hi : i < L.length) : icells (L.set i x) = ((icells L).set (i * 2) (.int .i64 x.b)).set (i * 2 + 1) (.int .i64 x.w) := by
  induction L generalizing i with
  | nil => simp at hi
  | cons s L ih =>
    cases i with
    | zero => rfl
    | succ i =>
      have := ih i (by simpa using hi)
      have e : ∀ (s : It) (L : List It), icells (s :: L) = .int .i64 s.b :: .int .i64 s.w :: icells L := fun _ _ => rfl
      rw [List.set_cons_succ, e, e, this, show (i + 1) * 2 = i * 2 + 1 + 1 from by omega]
      simp
theorem icells_take (L : List It) (n : Nat) : icells (L.take n) = (icells L).take (n * 2) := by
  induction L generalizing n with
  | nil => simp [icells]
  | cons s L ih =>
    cases n with
    | zero => simp [icells]
    | succ n =>
      have e : ∀ (s : It) (L : List It), icells (s :: L) = .int .i64 s.b :: .int .i64 s.w :: icells L := fun _ _ => rfl
      rw [List.take_succ_cons, e, e, ih, show (n + 1) * 2 = n * 2 + 1 + 1 from by omega]
      simp
/-- a queue: the variable that holds it, its row. -/
structure QAt (w : World) (base qb : Nat) (ty : TypeId) (v : Value) (L : List It) : Prop where
  q0 : base ≤ qb
  blk : w.heap[qb]? = some (.cells #[v] ty (0, 0))
  row : w.ownsRow base 64 2 v L.length (icells L)
  apart : v.ownBlock ≠ some qb
theorem QAt.cell {w : World} {base qb : Nat} {ty : TypeId} {v : Value} {L : List It} (h : QAt w base qb ty v L) : w.cell? ⟨qb, 0, none⟩ = some v ∧ ∀ i, w.frozen? ⟨qb, i, none⟩ = false := by
  refine ⟨?_, fun i => ?_⟩
  · unfold World.cell?; simp only; rw [h.blk]; rfl
  · unfold World.frozen?; simp only; rw [h.blk]; rfl
theorem QAt.lt {w : World} {base qb : Nat} {ty : TypeId} {v : Value} {L : List It} (h : QAt w base qb ty v L) : qb < w.heap.size := lt_of_block h.blk
theorem row_keepP {w w' : World} {base : Nat} {e : TypeId} {s : Nat} {v : Value} {n : Nat} {xs : List Value} (h : w.ownsRow base e s v n xs) (o : ∀ g, v.ownBlock = some g → w'.heap[g]? = w.heap[g]?) : w'.ownsRow base e s v n xs := by
  refine ⟨h.1, ?_⟩
  rcases h.2 with h0 | ⟨g', cap', cur, hv, hbg, hh, r⟩
  · exact .inl h0
  · exact .inr ⟨g', cap', cur, hv, hbg, (o g' (by rw [hv]; rfl)).trans hh, r⟩
def qbl (qb : Nat) (v : Value) : List Nat := qb :: v.ownBlock.toList
theorem QAt.same {w w' : World} {base qb : Nat} {ty : TypeId} {v : Value} {L : List It} (h : QAt w base qb ty v L) (o : ∀ k ∈ qbl qb v, w'.heap[k]? = w.heap[k]?) : QAt w' base qb ty v L :=
  ⟨h.q0, (o qb (List.mem_cons_self ..)).trans h.blk, row_keepP h.row fun g hg => o g (List.mem_cons_of_mem _ (by simp [hg])), h.apart⟩
theorem QAt.bl_lt {w : World} {base qb : Nat} {ty : TypeId} {v : Value} {L : List It} (h : QAt w base qb ty v L) : ∀ k ∈ qbl qb v, base ≤ k ∧ k < w.heap.size := by
  intro k hk
  rcases List.mem_cons.1 hk with rfl | hk
  · exact ⟨h.q0, h.lt⟩
  · exact h.row.lt k (by simpa using hk)
theorem QAt.below {w w' : World} {base qb : Nat} {ty : TypeId} {v : Value} {L : List It} (h : QAt w base qb ty v L) (b : Below w.heap.size w w') : QAt w' base qb ty v L := h.same fun k hk => b.block k (h.bl_lt k hk).2
/-- its slice. -/
theorem row_sliceP {w : World} {base : Nat} {v : Value} {L : List It} (h : w.ownsRow base 64 2 v L.length (icells L)) : ∃ a c, v = .slice a L.length c ∧ L.length ≤ c ∧ c ≤ maxLen ∧ (∀ g, a = some g → ∃ k, g = ⟨k, 0, none⟩ ∧ base ≤ k ∧ k < w.heap.size ∧ (∀ i, w.frozen? ⟨k, i, none⟩ = false) ∧ ∀ i, i < L.length → w.cell? ⟨k, i * 2, none⟩ = some (.int .i64 (L[i]!).b) ∧ w.cell? ⟨k, i * 2 + 1, none⟩ = some (.int .i64 (L[i]!).w)) ∧ (0 < L.length → a ≠ none) := by
  rcases h.2 with ⟨h0, h1⟩ | ⟨g', cap', cur, hv, hbg, hh, hnc, hm, hs, ht⟩
  · rw [h1]
    exact ⟨none, 0, h0, Nat.le_refl _, by unfold maxLen; omega, (fun g hg => (nomatch hg)), fun h => absurd h (by omega)⟩
  · refine ⟨_, cap', hv, hnc, hm, fun g hg => ⟨g', by cases hg; rfl, hbg, lt_of_block hh, fun i => ?_, fun i hi => ?_⟩, fun _ e => nomatch e⟩
    · unfold World.frozen?; simp only; rw [hh]; rfl
    · have hl := icells_len L
      have key : ∀ j, j < (icells L).length → w.cell? ⟨g', j, none⟩ = (icells L)[j]? := by
        intro j hj
        unfold World.cell?
        simp only
        rw [hh]
        have e2 : cur.toList[j]? = (icells L)[j]? := by rw [← ht, List.getElem?_take_of_lt (by omega)]
        simpa using e2
      obtain ⟨k1, k2⟩ := icells_get L i hi
      exact ⟨(key _ (by omega)).trans k1, (key _ (by omega)).trans k2⟩
theorem infoQ (name : String) (f : FuncId) (hf : (name = "Len" ∧ f = 63) ∨ (name = "Less" ∧ f = 64) ∨ (name = "Swap" ∧ f = 65)) : ((Tryd.prog.info? 62).bind fun i => (i.methods.find? (·.name == name)).map fun m => (m.path, m.func)) = some (#[], some (f, false)) := by
  rcases hf with ⟨rfl, rfl⟩ | ⟨rfl, rfl⟩ | ⟨rfl, rfl⟩ <;> kernel_rfl
theorem methQ {name : String} {f : FuncId} (hf : (name = "Len" ∧ f = 63) ∨ (name = "Less" ∧ f = 64) ∨ (name = "Swap" ∧ f = 65)) {w : World} {qb : Nat} {v : Value} (hv : w.cell? ⟨qb, 0, none⟩ = some v) (F : Nat) :
    (method (F + 1) 62 (.pointer (some ⟨qb, 0, none⟩)) name).run Tryd.prog w = .ok (f, v) w := by
  have h := infoQ name f hf
  obtain ⟨i, hi, hm⟩ := Option.bind_eq_some_iff.1 h
  obtain ⟨m, h1, h2⟩ := Option.map_eq_some_iff.1 hm
  simp only [Prod.mk.injEq] at h2
  obtain ⟨h2, h3⟩ := h2
  have hl : (loadVar 54 ⟨qb, 0, none⟩).run Tryd.prog w = .ok v w := by
    go_simp
  have hn : ∀ s t : String, (Builtin.ssaWrapNilChk_ #[62] 62 #[.pointer (some ⟨qb, 0, none⟩), strVal s, strVal t]).run Tryd.prog w = .ok (.pointer (some ⟨qb, 0, none⟩)) w := fun s t => rfl
  unfold method
  simp [typeInfo, hi, h1, h2, h3, follow, receiverAt, run_underlying Tryd.underlying62, Place.get, hn, asAddr, hl]
end Go.Proofs.YtaaegkjbmomjbaaDoor.Po
