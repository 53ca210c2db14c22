/- The document's buffer, in memory. By the verifier of shale. -/
import Derived.Test.YtabpfadbioalgaaDoorWtSame
import Derived.Test.YtabpfadbioalgaaDoorWtFirst
namespace Go.Proofs.YtabpfadbioalgaaDoor.Wt
open Go Go.RowKit Bin
set_option linter.unusedVariables false
set_option linter.unusedSimpArgs false
/-- the buffer: its numbers, its row, what waits. -/
structure RefAt (w : World) (base bb : Nat) (sz mo sc : Int) (v : Value) (L : List Ent) : Prop where
  bb0 : base ≤ bb
  blk : w.heap[bb]? = some (.cells #[.int .i64 sz, .int .i64 mo, .int .i64 sc, v] 32 (0, 0))
  row : Row w base v L
  apart : v.ownBlock ≠ some bb
  ents : ∀ e ∈ L, Pol w e.a e.n e.c e.l ∧ ∀ q, e.a = some q → base ≤ q.block ∧ q.block < w.heap.size ∧ q.block ≠ bb ∧ some q.block ≠ v.ownBlock
theorem RefAt.cells {w : World} {base bb : Nat} {sz mo sc : Int} {v : Value} {L : List Ent} (h : RefAt w base bb sz mo sc v L) :
    w.cell? ⟨bb, 0, none⟩ = some (.int .i64 sz) ∧ w.cell? ⟨bb, 1, none⟩ = some (.int .i64 mo) ∧ w.cell? ⟨bb, 2, none⟩ = some (.int .i64 sc) ∧ w.cell? ⟨bb, 3, none⟩ = some v ∧ ∀ i, w.frozen? ⟨bb, i, none⟩ = false := by
  have e := h.blk
  refine ⟨?_, ?_, ?_, ?_, fun i => ?_⟩
  · unfold World.cell?; simp only; rw [e]; rfl
  · unfold World.cell?; simp only; rw [e]; rfl
  · unfold World.cell?; simp only; rw [e]; rfl
  · unfold World.cell?; simp only; rw [e]; rfl
  · unfold World.frozen?; simp only; rw [e]; rfl
theorem RefAt.lt {w : World} {base bb : Nat} {sz mo sc : Int} {v : Value} {L : List Ent} (h : RefAt w base bb sz mo sc v L) : bb < w.heap.size := lt_of_block h.blk
/-- what turns none of a buffer's blocks leaves it. -/
theorem RefAt.same {w w' : World} {base bb : Nat} {sz mo sc : Int} {v : Value} {L : List Ent} (h : RefAt w base bb sz mo sc v L) (hs : w.heap.size ≤ w'.heap.size) (o : ∀ k, base ≤ k → k < w.heap.size → w'.heap[k]? = w.heap[k]?) : RefAt w' base bb sz mo sc v L := by
  refine ⟨h.bb0, (o _ h.bb0 h.lt).trans h.blk, row_keep h.row fun g hg => ?_, h.apart, fun e he => ?_⟩
  · have := h.row.lt g hg; exact o g this.1 this.2
  · obtain ⟨h1, h2⟩ := h.ents e he
    exact ⟨pol_same h1 hs fun q hq => o _ (h2 q hq).1 (h2 q hq).2.1, fun q hq => ⟨(h2 q hq).1, Nat.lt_of_lt_of_le (h2 q hq).2.1 hs, (h2 q hq).2.2⟩⟩
theorem RefAt.below {w w' : World} {base bb : Nat} {sz mo sc : Int} {v : Value} {L : List Ent} (h : RefAt w base bb sz mo sc v L) (b : Below w.heap.size w w') : RefAt w' base bb sz mo sc v L :=
  h.same b.size fun k _ hk => b.block k hk
theorem rblks_lt {w : World} {base bb : Nat} {sz mo sc : Int} {v : Value} {L : List Ent} (h : RefAt w base bb sz mo sc v L) : ∀ k ∈ blks bb v, base ≤ k ∧ k < w.heap.size := by
  intro k hk
  unfold blks at hk
  rcases List.mem_cons.1 hk with rfl | hk
  · exact ⟨h.bb0, h.lt⟩
  · exact h.row.lt k (by simpa using hk)
/-- all blocks of a buffer. -/
def allb (bb : Nat) (v : Value) (L : List Ent) : List Nat := blks bb v ++ L.flatMap fun e => e.a.toList.map fun q => q.block
theorem mem_allb {bb : Nat} {v : Value} {L : List Ent} {k : Nat} : k ∈ allb bb v L ↔ k ∈ blks bb v ∨ ∃ e ∈ L, ∃ q, e.a = some q ∧ q.block = k := by
  unfold allb
  rw [List.mem_append, List.mem_flatMap]
  constructor
  · rintro (h | ⟨e, he, h⟩)
    · exact .inl h
    · obtain ⟨q, hq, rfl⟩ := List.mem_map.1 h
      exact .inr ⟨e, he, q, by simpa using hq, rfl⟩
  · rintro (h | ⟨e, he, q, hq, rfl⟩)
    · exact .inl h
    · exact .inr ⟨e, he, List.mem_map.2 ⟨q, by simp [hq], rfl⟩⟩
theorem BufAt.allb_lt {w : World} {base bb : Nat} {sz mo sc : Int} {v : Value} {L : List Ent} (h : BufAt w base bb sz mo sc v L) : ∀ k ∈ allb bb v L, base ≤ k ∧ k < w.heap.size := by
  intro k hk
  rcases mem_allb.1 hk with hk | ⟨e, he, q, hq, rfl⟩
  · exact blks_lt h k hk
  · have := (h.ents e he).2 q hq; exact ⟨this.1, this.2.1⟩
theorem RefAt.allb_lt {w : World} {base bb : Nat} {sz mo sc : Int} {v : Value} {L : List Ent} (h : RefAt w base bb sz mo sc v L) : ∀ k ∈ allb bb v L, base ≤ k ∧ k < w.heap.size := by
  intro k hk
  rcases mem_allb.1 hk with hk | ⟨e, he, q, hq, rfl⟩
  · exact rblks_lt h k hk
  · have := (h.ents e he).2 q hq; exact ⟨this.1, this.2.1⟩
/-- what turns none of its blocks leaves it. -/
theorem BufAt.far {w w' : World} {base bb : Nat} {sz mo sc : Int} {v : Value} {L : List Ent} (h : BufAt w base bb sz mo sc v L) (hs : w.heap.size ≤ w'.heap.size) (o : ∀ k ∈ allb bb v L, w'.heap[k]? = w.heap[k]?) : BufAt w' base bb sz mo sc v L := by
  refine ⟨h.bb0, (o _ (mem_allb.2 (.inl (List.mem_cons_self ..)))).trans h.blk, row_keep h.row fun g hg => o g (mem_allb.2 (.inl (List.mem_cons_of_mem _ (by simp [hg])))), h.apart, fun e he => ?_⟩
  obtain ⟨h1, h2⟩ := h.ents e he
  exact ⟨pol_same h1 hs fun q hq => o _ (mem_allb.2 (.inr ⟨e, he, q, hq, rfl⟩)), fun q hq => ⟨(h2 q hq).1, Nat.lt_of_lt_of_le (h2 q hq).2.1 hs, (h2 q hq).2.2⟩⟩
theorem RefAt.far {w w' : World} {base bb : Nat} {sz mo sc : Int} {v : Value} {L : List Ent} (h : RefAt w base bb sz mo sc v L) (hs : w.heap.size ≤ w'.heap.size) (o : ∀ k ∈ allb bb v L, w'.heap[k]? = w.heap[k]?) : RefAt w' base bb sz mo sc v L := by
  refine ⟨h.bb0, (o _ (mem_allb.2 (.inl (List.mem_cons_self ..)))).trans h.blk, row_keep h.row fun g hg => o g (mem_allb.2 (.inl (List.mem_cons_of_mem _ (by simp [hg])))), h.apart, fun e he => ?_⟩
  obtain ⟨h1, h2⟩ := h.ents e he
  exact ⟨pol_same h1 hs fun q hq => o _ (mem_allb.2 (.inr ⟨e, he, q, hq, rfl⟩)), fun q hq => ⟨(h2 q hq).1, Nat.lt_of_lt_of_le (h2 q hq).2.1 hs, (h2 q hq).2.2⟩⟩
/-- what an entry says. -/
abbrev core (e : Ent) : Int × Bool × List (BitVec 8) := (e.key, e.trim, e.l)
abbrev cores (L : List Ent) : List (Int × Bool × List (BitVec 8)) := L.map core
/-- all but a key. -/
def restL (L : List Ent) (key : Int) : List Ent := L.filter fun d => decide (d.key ≠ key)
theorem rest_cores (L : List Ent) (key : Int) : cores (restL L key) = (cores L).filter fun x => decide (x.1 ≠ key) := by
  unfold restL cores
  rw [List.filter_map]
  rfl
theorem at_cons (a : Ent) (L : List Ent) (key : Int) : at? (a :: L) key = if a.key = key then some 0 else (at? L key).map (· + 1) := by
  unfold at?
  rw [List.findIdx?_cons]
  by_cases h : a.key = key
  · simp [h]
  · rw [if_neg h]
    have : (a.key == key) = false := by rw [beq_eq_false_iff_ne]; exact h
    rw [this]
    simp
theorem rest_gone {L : List Ent} {key : Int} (h : ∀ d ∈ L, d.key ≠ key) : restL L key = L := by
  unfold restL
  exact List.filter_eq_self.2 fun d hd => decide_eq_true (h d hd)
theorem erase_rest : ∀ {L : List Ent} {key : Int} {i : Nat}, (L.map Ent.key).Nodup → at? L key = some i → L.eraseIdx i = restL L key
  | [], key, i, _, h => by cases h
  | a :: L, key, i, hn, h => by
    rw [List.map_cons, List.nodup_cons] at hn
    rw [at_cons] at h
    by_cases hk : a.key = key
    · rw [if_pos hk] at h
      cases h
      have : ∀ d ∈ L, d.key ≠ key := fun d hd e => hn.1 (List.mem_map.2 ⟨d, hd, by rw [e, hk]⟩)
      rw [List.eraseIdx_cons_zero]
      unfold restL
      rw [List.filter_cons_of_neg (by simp [hk])]
      exact (rest_gone this).symm
    · rw [if_neg hk] at h
      cases hat : at? L key with
      | none => rw [hat] at h; cases h
      | some j =>
        rw [hat] at h
        cases h
        have := erase_rest hn.2 hat
        show a :: L.eraseIdx j = _
        rw [this]
        unfold restL
        rw [List.filter_cons_of_pos (by simp [hk])]
theorem lastL_rest {L : List Ent} {e : Ent} (h : (L.map Ent.key).Nodup) : lastL L e = restL L e.key ++ [e] := by
  unfold lastL
  cases hat : at? L e.key with
  | none => rw [rest_gone (at_none hat)]
  | some i => show L.eraseIdx i ++ [e] = _; rw [erase_rest h hat]
theorem cores_keys {L M : List Ent} (h : cores L = cores M) : L.map Ent.key = M.map Ent.key := by
  have := congrArg (List.map fun x : Int × Bool × List (BitVec 8) => x.1) h
  rw [List.map_map, List.map_map] at this
  exact this
theorem cores_len {L M : List Ent} (h : cores L = cores M) : L.length = M.length := by
  have := congrArg List.length h
  simpa using this
theorem cores_at {L M : List Ent} (h : cores L = cores M) {i : Nat} {d e : Ent} (hd : L[i]? = some d) (he : M[i]? = some e) : d.key = e.key ∧ d.trim = e.trim ∧ d.l = e.l := by
  have := congrArg (fun l => l[i]?) h
  simp only [List.getElem?_map, hd, he, Option.map_some, Option.some.injEq, Prod.mk.injEq] at this
  exact this
theorem cores_get {L M : List Ent} (h : cores L = cores M) {i : Nat} {d : Ent} (hd : L[i]? = some d) : ∃ e, M[i]? = some e ∧ d.key = e.key ∧ d.trim = e.trim ∧ d.l = e.l := by
  have hi := (List.getElem?_eq_some_iff.1 hd).1
  rw [cores_len h] at hi
  exact ⟨M[i], List.getElem?_eq_getElem hi, cores_at h hd (List.getElem?_eq_getElem hi)⟩
theorem at_keys : ∀ {L M : List Ent} (key : Int), L.map Ent.key = M.map Ent.key → at? L key = at? M key
  | [], [], _, _ => rfl
  | [], b :: M, _, h => by cases h
  | a :: L, [], _, h => by cases h
  | a :: L, b :: M, key, h => by
    rw [List.map_cons, List.map_cons, List.cons.injEq] at h
    rw [at_cons, at_cons, at_keys key h.2, h.1]
theorem cores_last {L M : List Ent} (h : cores L = cores M) (hn : (L.map Ent.key).Nodup) {e e' : Ent} (he : core e = core e') : cores (lastL L e) = cores (restL M e.key ++ [e']) := by
  rw [lastL_rest hn]
  unfold cores at *
  rw [List.map_append, List.map_append]
  have h1 := rest_cores L e.key
  have h2 := rest_cores M e.key
  unfold cores at h1 h2
  rw [h1, h2, h]
  simp only [List.map_cons, List.map_nil, he]
theorem rest_at {L : List Ent} {key : Int} (hn : (L.map Ent.key).Nodup) : ((restL L key).length = L.length ↔ at? L key = none) := by
  constructor
  · intro h
    cases hat : at? L key with
    | none => rfl
    | some i =>
      obtain ⟨d, hd, hk⟩ := at_some hat
      have := List.length_filter_eq_length_iff.1 h d (List.mem_of_getElem? hd)
      simp [hk] at this
  · intro h
    rw [rest_gone (at_none h)]
/-- behind Put's append (its list lies in new memory) and the store. -/
theorem rput_at {w w9 : World} {base xb g cap B0 : Nat} {sz mo sc : Int} {v : Value} {M R : List Ent} {e : Ent} (hM : RefAt w base xb sz mo sc v M) (hB0 : w.heap.size ≤ B0) (hR : ∀ d ∈ R, d ∈ M) (E : Pol w9 e.a e.n e.c e.l) (E2 : ∀ q, e.a = some q → w.heap.size ≤ q.block ∧ q.block < w9.heap.size ∧ q.block ≠ g)
    (b : Below w.heap.size w w9) (hr : w9.ownsRow B0 35 3 (.slice (some ⟨g, 0, none⟩) (R.length + 1) cap) (R.length + 1) (ecells R ++ e.cells)) :
    RefAt (w9.setCell ⟨xb, 3, none⟩ (.slice (some ⟨g, 0, none⟩) (R.length + 1) cap)) base xb sz mo sc (.slice (some ⟨g, 0, none⟩) (R.length + 1) cap) (R ++ [e]) ∧
      Tn (blks xb v) w (w9.setCell ⟨xb, 3, none⟩ (.slice (some ⟨g, 0, none⟩) (R.length + 1) cap)) (blks xb (.slice (some ⟨g, 0, none⟩) (R.length + 1) cap)) := by
  have hxl := hM.lt
  have hg := hr.lt g rfl
  have hgx : g ≠ xb := by omega
  have o2 := Only.setCell w9 ⟨xb, 3, none⟩ (.slice (some ⟨g, 0, none⟩) (R.length + 1) cap)
  have hb1 := (b.block xb hxl).trans hM.blk
  refine ⟨⟨hM.bb0, heap_setCell_same _ _ 3 _ _ _ hb1, ?_, ?_, fun d hd => ?_⟩, ?_⟩
  · have h1 : Row w9 base (.slice (some ⟨g, 0, none⟩) (R.length + 1) cap) (R ++ [e]) := by
      show w9.ownsRow _ _ _ _ _ _
      rw [List.length_append, ecells_append]
      have : ecells [e] = e.cells := by show e.cells ++ [] = _; rw [List.append_nil]
      rw [this]
      have := hM.bb0
      refine ⟨hr.1, ?_⟩
      rcases hr.2 with h0 | ⟨g', cap', cur, hv, hbg, r⟩
      · exact .inl h0
      · exact .inr ⟨g', cap', cur, hv, by omega, r⟩
    refine row_keep h1 fun k hk => ?_
    cases hk
    exact o2.block g hgx
  · intro e; cases e; exact hgx rfl
  · have hs : w9.heap.size ≤ (w9.setCell ⟨xb, 3, none⟩ (.slice (some ⟨g, 0, none⟩) (R.length + 1) cap)).heap.size := by rw [o2.size]; exact Nat.le_refl _
    have := hM.bb0
    rcases List.mem_append.1 hd with hd | hd
    · obtain ⟨h1, h2⟩ := hM.ents d (hR d hd)
      refine ⟨pol_same (h1.below b) hs fun q hq => o2.block _ (h2 q hq).2.2.1, fun q hq => ⟨(h2 q hq).1, Nat.lt_of_lt_of_le (h2 q hq).2.1 (Nat.le_trans b.size hs), (h2 q hq).2.2.1, fun e => ?_⟩⟩
      have e2 : q.block = g := Option.some.inj e
      have := (h2 q hq).2.1
      omega
    · obtain rfl := List.mem_singleton.1 hd
      refine ⟨pol_same E hs fun q hq => o2.block _ (by have := E2 q hq; show q.block ≠ xb; omega), fun q hq => ?_⟩
      have h3 := E2 q hq
      exact ⟨by omega, Nat.lt_of_lt_of_le h3.2.1 hs, by omega, fun e => h3.2.2 (Option.some.inj e)⟩
  · have hs : w.heap.size ≤ (w9.setCell ⟨xb, 3, none⟩ (.slice (some ⟨g, 0, none⟩) (R.length + 1) cap)).heap.size := by rw [o2.size]; exact b.size
    refine ⟨o2.os.trans b.os, o2.tape.trans b.tape, o2.output.trans b.output, hs, fun k hk hn => ?_, fun k hk => ?_⟩
    · unfold blks at hn
      simp only [List.mem_cons, not_or] at hn
      exact (o2.block k hn.1).trans (b.block k hk)
    · rw [blks_slice] at hk
      rcases List.mem_cons.1 hk with rfl | hk
      · exact .inl (by unfold blks; simp)
      · rw [List.mem_singleton] at hk
        subst hk
        exact .inr (by omega)
end Go.Proofs.YtabpfadbioalgaaDoor.Wt
