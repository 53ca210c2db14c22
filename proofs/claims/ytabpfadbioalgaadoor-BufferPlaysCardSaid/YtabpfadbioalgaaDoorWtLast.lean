/- An entry waits behind all others. By the verifier of shale. -/
import Derived.Test.YtabpfadbioalgaaDoorWtDel
import Derived.Deep.AppendLies
namespace Go.Proofs.YtabpfadbioalgaaDoor.Wt
open Go Go.RowKit Bin
set_option linter.unusedVariables false
set_option linter.unusedSimpArgs false
/-- what an entry's data must be. -/
def EntOK (w : World) (base bb : Nat) (v : Value) (e : Ent) : Prop := Pol w e.a e.n e.c e.l ∧ ∀ q, e.a = some q → base ≤ q.block ∧ q.block < w.heap.size ∧ q.block ≠ bb ∧ some q.block ≠ v.ownBlock
theorem EntOK.below {w w' : World} {base bb : Nat} {v : Value} {e : Ent} (h : EntOK w base bb v e) (b : Below w.heap.size w w') : EntOK w' base bb v e :=
  ⟨h.1.below b, fun q hq => ⟨(h.2 q hq).1, Nat.lt_of_lt_of_le (h.2 q hq).2.1 b.size, (h.2 q hq).2.2⟩⟩
theorem EntOK.tn {w w' : World} {base bb : Nat} {v v' : Value} {e : Ent} (h : EntOK w base bb v e) (t : Tn (blks bb v) w w' (blks bb v')) : EntOK w' base bb v' e := by
  have hn : ∀ q, e.a = some q → q.block ∉ blks bb v := fun q hq hm => by
    unfold blks at hm
    rcases List.mem_cons.1 hm with h1 | h1
    · exact (h.2 q hq).2.2.1 h1
    · exact (h.2 q hq).2.2.2 (by have := Option.mem_toList.1 h1; exact this.symm)
  refine ⟨pol_same h.1 t.size fun q hq => t.same _ (h.2 q hq).2.1 (hn q hq), fun q hq => ⟨(h.2 q hq).1, Nat.lt_of_lt_of_le (h.2 q hq).2.1 t.size, (h.2 q hq).2.2.1, fun e => ?_⟩⟩
  have := t.new q.block (by unfold blks; rw [← e]; simp)
  rcases this with h1 | h1
  · exact hn q hq h1
  · have := (h.2 q hq).2.1; omega
theorem blks_slice (bb g n c : Nat) : blks bb (.slice (some ⟨g, 0, none⟩) n c) = [bb, g] := rfl
/-- behind Delete and the store of what it answers. -/
theorem del_at {w w1 : World} {base bb g c : Nat} {sz mo sc : Int} {L : List Ent} (B : BufAt w base bb sz mo sc (.slice (some ⟨g, 0, none⟩) L.length c) L) {i : Nat} (hi : i < L.length)
    (hr : Row w1 base (.slice (some ⟨g, 0, none⟩) (L.length - 1) c) (L.eraseIdx i)) (o : Only g w w1) :
    BufAt (w1.setCell ⟨bb, 3, none⟩ (.slice (some ⟨g, 0, none⟩) (L.length - 1) c)) base bb sz mo sc (.slice (some ⟨g, 0, none⟩) (L.length - 1) c) (L.eraseIdx i) ∧
      Tn (blks bb (.slice (some ⟨g, 0, none⟩) L.length c)) w (w1.setCell ⟨bb, 3, none⟩ (.slice (some ⟨g, 0, none⟩) (L.length - 1) c)) (blks bb (.slice (some ⟨g, 0, none⟩) (L.length - 1) c)) := by
  have hgb : g ≠ bb := fun e => B.apart (by rw [e]; rfl)
  have o2 := Only.setCell w1 ⟨bb, 3, none⟩ (.slice (some ⟨g, 0, none⟩) (L.length - 1) c)
  have hb1 : w1.heap[bb]? = _ := (o.block bb (Ne.symm hgb)).trans B.blk
  have hT : Tn [bb, g] w (w1.setCell ⟨bb, 3, none⟩ (.slice (some ⟨g, 0, none⟩) (L.length - 1) c)) [bb, g] := by
    have t1 : Tn [bb, g] w w1 [bb, g] := ⟨o.os, o.tape, o.output, by rw [o.size]; exact Nat.le_refl _, fun k _ hk => o.block k (by simp at hk; exact hk.2), fun _ h => .inl h⟩
    exact t1.trans (Tn.setCell w1 _ _ (by simp))
  refine ⟨⟨B.bb0, ?_, row_keep hr fun k hk => ?_, ?_, fun e he => ?_⟩, hT⟩
  · exact heap_setCell_same _ _ 3 _ _ _ hb1
  · cases hk
    exact o2.block g hgb
  · intro e; cases e; exact hgb rfl
  · have h := B.ents e (List.mem_of_mem_eraseIdx he)
    exact EntOK.tn (v' := .slice (some ⟨g, 0, none⟩) (L.length - 1) c) (show EntOK w base bb _ e from h) hT
/-- behind append and the store of what it answers. -/
theorem app_at {w w9 : World} {base bb g cap : Nat} {sz mo sc : Int} {v : Value} {L : List Ent} {e : Ent} (B : BufAt w base bb sz mo sc v L) (E : EntOK w base bb v e) {w2 : World} (b2 : Below w.heap.size w w2)
    (hr : w9.ownsRow base 35 3 (.slice (some ⟨g, 0, none⟩) (L.length + 1) cap) (L.length + 1) (ecells L ++ e.cells)) (hg : w2.grownBy w9 v.ownBlock) (ho : v.ownBlock = some g ∨ g = w2.heap.size) :
    BufAt (w9.setCell ⟨bb, 3, none⟩ (.slice (some ⟨g, 0, none⟩) (L.length + 1) cap)) base bb sz mo sc (.slice (some ⟨g, 0, none⟩) (L.length + 1) cap) (L ++ [e]) ∧
      Tn (blks bb v) w (w9.setCell ⟨bb, 3, none⟩ (.slice (some ⟨g, 0, none⟩) (L.length + 1) cap)) (blks bb (.slice (some ⟨g, 0, none⟩) (L.length + 1) cap)) := by
  have hbl := B.lt
  have hgb : g ≠ bb := fun e => by
    rcases ho with h | h
    · exact B.apart (by rw [h, e])
    · have := b2.size; omega
  have o2 := Only.setCell w9 ⟨bb, 3, none⟩ (.slice (some ⟨g, 0, none⟩) (L.length + 1) cap)
  have hold : ∀ k, k < w.heap.size → some k ≠ v.ownBlock → w9.heap[k]? = w.heap[k]? := fun k hk hn => (hg.block k (Nat.lt_of_lt_of_le hk b2.size) hn).trans (b2.block k hk)
  have hb1 : w9.heap[bb]? = _ := (hold bb hbl (Ne.symm B.apart)).trans B.blk
  have hs : w.heap.size ≤ w9.heap.size := Nat.le_trans b2.size hg.size
  have hT : Tn (blks bb v) w (w9.setCell ⟨bb, 3, none⟩ (.slice (some ⟨g, 0, none⟩) (L.length + 1) cap)) (blks bb (.slice (some ⟨g, 0, none⟩) (L.length + 1) cap)) := by
    refine ⟨o2.os.trans (hg.os.trans b2.os), o2.tape.trans (hg.tape.trans b2.tape), o2.output.trans (hg.output.trans b2.output), by rw [o2.size]; exact hs, fun k hk hn => ?_, fun k hk => ?_⟩
    · unfold blks at hn
      simp only [List.mem_cons, not_or, Option.mem_toList] at hn
      exact (o2.block k hn.1).trans (hold k hk (fun e => hn.2 e.symm))
    · rw [blks_slice] at hk
      rcases List.mem_cons.1 hk with rfl | hk
      · exact .inl (by unfold blks; simp)
      · rw [List.mem_singleton] at hk
        subst hk
        rcases ho with h | h
        · exact .inl (by unfold blks; rw [h]; simp)
        · exact .inr (by rw [h]; exact b2.size)
  refine ⟨⟨B.bb0, heap_setCell_same _ _ 3 _ _ _ hb1, ?_, ?_, fun d hd => ?_⟩, hT⟩
  · have h1 : Row w9 base (.slice (some ⟨g, 0, none⟩) (L.length + 1) cap) (L ++ [e]) := by
      show w9.ownsRow _ _ _ _ _ _
      rw [List.length_append, ecells_append]
      have : ecells [e] = e.cells := by show e.cells ++ [] = _; rw [List.append_nil]
      rw [this]
      exact hr
    refine row_keep h1 fun k hk => ?_
    cases hk
    exact o2.block g hgb
  · intro e; cases e; exact hgb rfl
  · rcases List.mem_append.1 hd with hd | hd
    · exact EntOK.tn (show EntOK w base bb v d from B.ents d hd) hT
    · rw [List.mem_singleton.1 hd]
      exact EntOK.tn E hT
end Go.Proofs.YtabpfadbioalgaaDoor.Wt
