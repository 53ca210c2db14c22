/- A buffer's Entries. By the verifier of shale. -/
import Derived.Test.YtabpfadbioalgaaDoorWtIter
namespace Go.Proofs.YtabpfadbioalgaaDoor.Wt
open Go Go.RowKit Bin
set_option linter.unusedVariables false
set_option linter.unusedSimpArgs false
def gifts (pre : List Yd) : List Nat := pre.flatMap gift
theorem gifts_snoc (pre : List Yd) (x : Yd) : gifts (pre ++ [x]) = gifts pre ++ gift x := by unfold gifts; simp
/-- what the body of the range in Entries holds. -/
def EnI (w0 : World) (lb Bs : Nat) (pre : List Yd) (bl : List Nat) (W : World) : Prop :=
  ∃ v, bl = lb :: (v.ownBlock.toList ++ gifts pre) ∧ W.heap[lb]? = some (.cells #[v] 30 (0, 0)) ∧ Row W Bs v (pre.map Yd.e) ∧ lb < Bs ∧ w0.heap.size ≤ lb ∧ Below w0.heap.size w0 W ∧
    (∀ x ∈ pre, FreD W x.e ∧ ∀ k ∈ gift x, Bs ≤ k ∧ some k ≠ v.ownBlock) ∧ pre.Pairwise (fun x y => ∀ k ∈ gift x, k ∉ gift y)
theorem gift_mem {x : Yd} {q : Addr} (h : x.e.a = some q) : q.block ∈ gift x := by unfold gift; rw [h]; simp
theorem mem_gift {x : Yd} {k : Nat} (h : k ∈ gift x) : ∃ q, x.e.a = some q ∧ q.block = k := by
  unfold gift at h
  simp only [List.mem_map, Option.mem_toList] at h
  obtain ⟨q, hq, rfl⟩ := h
  exact ⟨q, hq, rfl⟩
theorem EnI.lt {w0 : World} {lb Bs : Nat} {pre : List Yd} {bl : List Nat} {W : World} (h : EnI w0 lb Bs pre bl W) : ∀ k ∈ bl, k < W.heap.size := by
  obtain ⟨v, rfl, h1, h2, h3, h4, h5, h6, h7⟩ := h
  intro k hk
  rcases List.mem_cons.1 hk with rfl | hk
  · exact lt_of_block h1
  · rcases List.mem_append.1 hk with hk | hk
    · exact (h2.lt k (Option.mem_toList.1 hk)).2
    · unfold gifts at hk
      obtain ⟨x, hx, hk⟩ := List.mem_flatMap.1 hk
      obtain ⟨q, hq, rfl⟩ := mem_gift hk
      exact (h6 x hx).1.lt q hq
theorem EnI.fr {w0 : World} {lb Bs : Nat} {pre : List Yd} {bl : List Nat} {X Y : World} (h : EnI w0 lb Bs pre bl X) (f : Fr Bs [] bl X Y) : EnI w0 lb Bs pre bl Y := by
  have hl := h.lt
  obtain ⟨v, rfl, h1, h2, h3, h4, h5, h6, h7⟩ := h
  refine ⟨v, rfl, ?_, ?_, h3, h4, ?_, fun x hx => ⟨(h6 x hx).1.same fun q hq => ?_, (h6 x hx).2⟩, h7⟩
  · exact (f.same lb (.inr (by simp)) (hl lb (by simp))).trans h1
  · exact row_keep h2 fun k hk => f.same k (.inr (by simp [hk])) (h2.lt k hk).2
  · exact h5.trans { os := f.os, tape := f.tape, output := f.output, size := f.size, block := fun k hk => f.same k (.inl ⟨by omega, by simp⟩) (Nat.lt_of_lt_of_le hk h5.size) }
  · refine f.same q.block (.inr ?_) ((h6 x hx).1.lt q hq)
    refine List.mem_cons_of_mem _ (List.mem_append_right _ ?_)
    unfold gifts
    exact List.mem_flatMap.2 ⟨x, hx, gift_mem hq⟩
/-- a round of it. -/
theorem en_add {w0 : World} {lb Bs : Nat} {pre : List Yd} {bl : List Nat} {W : World} {L : List Ent} {x : Yd} {ol : List Nat} {v : Value} (hbl : bl = lb :: (v.ownBlock.toList ++ gifts pre)) (hbox : W.heap[lb]? = some (.cells #[v] 30 (0, 0))) (hrow : Row W Bs v (pre.map Yd.e)) (hlb : lb < Bs) (hw0 : w0.heap.size ≤ lb) (hbel : Below w0.heap.size w0 W)
    (hf : ∀ x ∈ pre, FreD W x.e ∧ ∀ k ∈ gift x, Bs ≤ k ∧ some k ≠ v.ownBlock) (hp : pre.Pairwise (fun x y => ∀ k ∈ gift x, k ∉ gift y)) (hx : FreD W x.e) (hxb : ∀ k ∈ gift x, Bs ≤ k ∧ k ∉ bl)
    {w2 w5 : World} {v' : Value} (b2 : Below W.heap.size W w2) (hown : w5.ownsRow Bs 35 3 v' (pre.length + 1) (ecells (pre.map Yd.e) ++ x.e.cells)) (hgrow : w2.grownBy w5 v.ownBlock) (hat : v'.ownBlock = v.ownBlock ∨ v'.ownBlock = some w2.heap.size) :
    ∃ bl', Tn (gift x ++ bl) W (w5.setCell ⟨lb, 0, none⟩ v') bl' ∧ EnI w0 lb Bs (pre ++ [x]) bl' (w5.setCell ⟨lb, 0, none⟩ v') := by
  have hlW : lb < W.heap.size := lt_of_block hbox
  have hvlb : v.ownBlock ≠ some lb := fun e => by have := (hrow.lt lb e).1; omega
  have o2 := Only.setCell w5 ⟨lb, 0, none⟩ v'
  have hold : ∀ k, k < W.heap.size → some k ≠ v.ownBlock → w5.heap[k]? = W.heap[k]? := fun k hk hn => (hgrow.block k (Nat.lt_of_lt_of_le hk b2.size) hn).trans (b2.block k hk)
  have hs : W.heap.size ≤ w5.heap.size := Nat.le_trans b2.size hgrow.size
  have hfin : ∀ k, k < W.heap.size → some k ≠ v.ownBlock → k ≠ lb → (w5.setCell ⟨lb, 0, none⟩ v').heap[k]? = W.heap[k]? := fun k hk hn hl => (o2.block k hl).trans (hold k hk hn)
  have hv' : ∀ k, v'.ownBlock = some k → some k = v.ownBlock ∨ W.heap.size ≤ k := fun k hk => by
    rcases hat with h | h
    · exact .inl (by rw [← h, hk])
    · rw [hk] at h; cases h; exact .inr b2.size
  have hgx : ∀ k ∈ gift x, k < W.heap.size := fun k hk => by obtain ⟨q, hq, rfl⟩ := mem_gift hk; exact hx.lt q hq
  have hgn : ∀ k ∈ gift x, some k ≠ v.ownBlock := fun k hk e => (hxb k hk).2 (by rw [hbl]; exact List.mem_cons_of_mem _ (List.mem_append_left _ (Option.mem_toList.2 e.symm)))
  refine ⟨lb :: (v'.ownBlock.toList ++ gifts (pre ++ [x])), ⟨o2.os.trans (hgrow.os.trans b2.os), o2.tape.trans (hgrow.tape.trans b2.tape), o2.output.trans (hgrow.output.trans b2.output), by rw [o2.size]; exact hs, fun k hk hn => ?_, fun k hk => ?_⟩, v', rfl, ?_, ?_, hlb, hw0, ?_, fun y hy => ?_, ?_⟩
  · rw [hbl] at hn
    simp only [List.mem_append, List.mem_cons, not_or, Option.mem_toList] at hn
    exact hfin k hk (fun e => hn.2.2.1 e.symm) hn.2.1
  · rw [hbl]
    rcases List.mem_cons.1 hk with rfl | hk
    · exact .inl (by simp)
    · rcases List.mem_append.1 hk with hk | hk
      · rcases hv' k (Option.mem_toList.1 hk) with h | h
        · exact .inl (by simp [← h])
        · exact .inr h
      · rw [gifts_snoc] at hk
        rcases List.mem_append.1 hk with hk | hk
        · exact .inl (by simp [hk])
        · exact .inl (by simp [hk])
  · have hb5 : w5.heap[lb]? = some (.cells #[v] 30 (0, 0)) := (hold lb hlW (Ne.symm hvlb)).trans hbox
    exact one_setCell hb5
  · have h1 : Row w5 Bs v' ((pre ++ [x]).map Yd.e) := by
      show w5.ownsRow _ _ _ _ _ _
      rw [List.map_append, List.length_append, List.length_map, ecells_append]
      have : ecells (List.map Yd.e [x]) = x.e.cells := by show x.e.cells ++ [] = _; rw [List.append_nil]
      rw [this]
      exact hown
    refine row_keep h1 fun k hk => o2.block k ?_
    rintro rfl
    have := (h1.lt _ hk).1
    omega
  · exact hbel.trans { os := o2.os.trans (hgrow.os.trans b2.os), tape := o2.tape.trans (hgrow.tape.trans b2.tape), output := o2.output.trans (hgrow.output.trans b2.output), size := by rw [o2.size]; exact hs, block := fun k hk => hfin k (Nat.lt_of_lt_of_le hk hbel.size) (fun e => by have := (hrow.lt k e.symm).1; omega) (by omega) }
  · rcases List.mem_append.1 hy with hy | hy
    · obtain ⟨g1, g2⟩ := hf y hy
      refine ⟨g1.same fun q hq => hfin _ (g1.lt q hq) (g2 _ (gift_mem hq)).2 (by have := (g2 _ (gift_mem hq)).1; omega), fun k hk => ⟨(g2 k hk).1, fun e => ?_⟩⟩
      rcases hv' k e.symm with h | h
      · exact (g2 k hk).2 h
      · obtain ⟨q, hq, rfl⟩ := mem_gift hk
        have := g1.lt q hq
        omega
    · rw [List.mem_singleton.1 hy]
      refine ⟨hx.same fun q hq => hfin _ (hx.lt q hq) (hgn _ (gift_mem hq)) (by have := (hxb _ (gift_mem hq)).1; omega), fun k hk => ⟨(hxb k hk).1, fun e => ?_⟩⟩
      rcases hv' k e.symm with h | h
      · exact hgn k hk h
      · have := hgx k hk; omega
  · rw [List.pairwise_append]
    refine ⟨hp, List.pairwise_singleton _ _, fun y hy z hz k hk hkz => ?_⟩
    rw [List.mem_singleton.1 hz] at hkz
    refine (hxb k hkz).2 ?_
    rw [hbl]
    refine List.mem_cons_of_mem _ (List.mem_append_right _ ?_)
    unfold gifts
    exact List.mem_flatMap.2 ⟨y, hy, hk⟩
end Go.Proofs.YtabpfadbioalgaaDoor.Wt
