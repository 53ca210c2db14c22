/- What BufferKeeps holds: for each key what came last for it. By the verifier of shale. -/
import Derived.Test.YtabpfadbioalgaaDoorWtFirst
import Derived.Test.YtabpfadbioalgaaDoorWtKeys
import Derived.Test.YtabpfadbioalgaaDoorOwn64
namespace Go.Proofs.YtabpfadbioalgaaDoor.Wt
open Go Go.RowKit Bin
set_option linter.unusedVariables false
set_option linter.unusedSimpArgs false
theorem nodup_sub : ∀ (l m : List Nat), l.Nodup → (∀ x ∈ l, x ∈ m) → l.length ≤ m.length
  | [], m, _, _ => by simp
  | a :: l, m, hd, h => by
    have ha := h a (by simp)
    have h1 := nodup_sub l (m.erase a) (List.nodup_cons.1 hd).2 (fun x hx => by
      have hne : x ≠ a := fun e => (List.nodup_cons.1 hd).1 (e ▸ hx)
      exact (List.mem_erase_of_ne hne).2 (h x (by simp [hx])))
    rw [List.length_erase_of_mem ha] at h1
    have : 0 < m.length := List.length_pos_of_mem ha
    rw [List.length_cons]
    omega
/-- what waits says v. -/
def SaysE (d : Ent) (v : Int) : Prop := (d.trim = true ∧ d.n = 0 ∧ v = 200) ∨ (d.trim = false ∧ d.n = 1 ∧ ∃ x : BitVec 8, d.l = [x] ∧ v = Bits32.b x ∧ 1 ≤ v ∧ v ≤ 128)
theorem SaysE.pos {d : Ent} {v : Int} (h : SaysE d v) : v ≠ 0 := by
  rcases h with ⟨_, _, h⟩ | ⟨_, _, _, _, _, h, _⟩ <;> omega
structure KeepL (f : Nat → Int) (L : List Ent) : Prop where
  keys : KeyOK 16 L
  waits : ∀ k, k < 16 → f k ≠ 0 → ∃ d ∈ L, d.key = (k : Int)
  says : ∀ d ∈ L, SaysE d (f d.key.toNat)
theorem KeepL.nil : KeepL (fun _ => 0) [] := ⟨keyOK_nil 16, fun k _ h => absurd rfl h, fun d h => by cases h⟩
theorem KeepL.last {f : Nat → Int} {L : List Ent} (h : KeepL f L) {e : Ent} {v : Int} {k : Nat} (hk : e.key = (k : Int)) (hk16 : k < 16) (hv : SaysE e v) : KeepL (fun j => if j = k then v else f j) (lastL L e) := by
  refine ⟨h.keys.last (by omega) (by omega), fun j hj hne => ?_, fun d hd => ?_⟩
  · by_cases hjk : j = k
    · exact ⟨e, (lastL_mem h.keys.once).2 (.inl rfl), by rw [hk, hjk]⟩
    · simp only [if_neg hjk] at hne
      obtain ⟨d, hd, hdk⟩ := h.waits j hj hne
      exact ⟨d, (lastL_mem h.keys.once).2 (.inr ⟨hd, by rw [hdk, hk]; omega⟩), hdk⟩
  · rcases (lastL_mem h.keys.once).1 hd with rfl | ⟨hd, hne⟩
    · rw [hk]
      simp only [Int.toNat_natCast, if_true]
      exact hv
    · have hl := h.keys.low d hd
      rw [hk] at hne
      rw [if_neg (by omega)]
      exact h.says d hd
theorem KeepL.gone {f : Nat → Int} {L : List Ent} (h : KeepL f L) {k : Nat} (h0 : f k = 0) : at? L (k : Int) = none := by
  cases hat : at? L (k : Int) with
  | none => rfl
  | some i =>
    obtain ⟨d, hd, hdk⟩ := at_some hat
    have := (h.says d (List.mem_of_getElem? hd)).pos
    rw [hdk, Int.toNat_natCast] at this
    exact absurd h0 this
theorem KeepL.here {f : Nat → Int} {L : List Ent} (h : KeepL f L) {k : Nat} (hk : k < 16) (h0 : f k ≠ 0) : ∃ i d, at? L (k : Int) = some i ∧ L[i]? = some d ∧ d.key = (k : Int) ∧ SaysE d (f k) := by
  cases hat : at? L (k : Int) with
  | none =>
    obtain ⟨d, hd, hdk⟩ := h.waits k hk h0
    exact absurd hdk (at_none hat d hd)
  | some i =>
    obtain ⟨d, hd, hdk⟩ := at_some hat
    have := h.says d (List.mem_of_getElem? hd)
    rw [hdk, Int.toNat_natCast] at this
    exact ⟨i, d, rfl, hd, hdk, this⟩
/-- so many keys of the first k wait. -/
def cntK (f : Nat → Int) (k : Nat) : Nat := ((List.range k).filter fun j => decide (f j ≠ 0)).length
theorem cntK_succ (f : Nat → Int) (k : Nat) : cntK f (k + 1) = cntK f k + if f k ≠ 0 then 1 else 0 := by
  unfold cntK
  rw [List.range_succ, List.filter_append, List.length_append]
  by_cases h : f k ≠ 0
  · simp [h]
  · simp [h]
theorem KeepL.count {f : Nat → Int} {L : List Ent} (h : KeepL f L) : cntK f 16 = L.length := by
  have hn : (L.map fun d => d.key.toNat).Nodup := by
    have h1 := h.keys.once
    unfold List.Nodup at h1 ⊢
    rw [List.pairwise_map] at h1 ⊢
    refine List.Pairwise.imp_of_mem ?_ h1
    intro a b ha hb hab e
    have := h.keys.low a ha
    have := h.keys.low b hb
    omega
  have hr : ((List.range 16).filter fun j => decide (f j ≠ 0)).Nodup := List.Nodup.sublist List.filter_sublist List.nodup_range
  have h1 := nodup_sub _ ((List.range 16).filter fun j => decide (f j ≠ 0)) hn (fun x hx => by
    obtain ⟨d, hd, rfl⟩ := List.mem_map.1 hx
    have hl := h.keys.low d hd
    simp only [List.mem_filter, List.mem_range, decide_eq_true_eq]
    exact ⟨by omega, (h.says d hd).pos⟩)
  have h2 := nodup_sub _ (L.map fun d => d.key.toNat) hr (fun x hx => by
    simp only [List.mem_filter, List.mem_range, decide_eq_true_eq] at hx
    obtain ⟨d, hd, hdk⟩ := h.waits x hx.1 hx.2
    exact List.mem_map.2 ⟨d, hd, by rw [hdk, Int.toNat_natCast]⟩)
  rw [List.length_map] at h1 h2
  show ((List.range 16).filter fun j => decide (f j ≠ 0)).length = L.length
  omega
theorem lastL_len {L : List Ent} {e : Ent} : (at? L e.key = none → (lastL L e).length = L.length + 1) ∧ (at? L e.key ≠ none → (lastL L e).length = L.length) := by
  unfold lastL
  cases hat : at? L e.key with
  | none => exact ⟨fun _ => by simp, fun h => absurd rfl h⟩
  | some i =>
    refine ⟨fun h => by simp at h, fun _ => ?_⟩
    obtain ⟨d, hd, _⟩ := at_some hat
    have hi := (List.getElem?_eq_some_iff.1 hd).1
    show (L.eraseIdx i ++ [e]).length = _
    rw [List.length_append, List.length_eraseIdx, if_pos hi]
    simp
    omega
/-- the buffer in BufferKeeps, apart from the block of last. -/
structure KeepB (W : World) (bb lb : Nat) (mo : Int) (f : Nat → Int) (v : Value) (L : List Ent) : Prop where
  buf : BufAt W bb bb 1 mo 16 v L
  own : KeepL f L
  most : (L.length : Int) ≤ mo
  mine : bb < lb
  apart : lb ∉ blks bb v ∧ ∀ e ∈ L, ∀ q, e.a = some q → q.block ≠ lb
theorem KeepB.below {W W' : World} {bb lb : Nat} {mo : Int} {f : Nat → Int} {v : Value} {L : List Ent} (h : KeepB W bb lb mo f v L) (b : Below W.heap.size W W') : KeepB W' bb lb mo f v L := ⟨h.buf.below b, h.own, h.most, h.mine, h.apart⟩
theorem KeepB.set {W : World} {bb lb : Nat} {mo : Int} {f : Nat → Int} {v : Value} {L : List Ent} (h : KeepB W bb lb mo f v L) (i : Nat) (u : Value) : KeepB (W.setCell ⟨lb, i, none⟩ u) bb lb mo f v L := by
  have hk : ∀ k, k ≠ lb → (W.setCell ⟨lb, i, none⟩ u).heap[k]? = W.heap[k]? := fun k hk => Below.heap_setCell _ _ _ _ hk
  have hs : W.heap.size ≤ (W.setCell ⟨lb, i, none⟩ u).heap.size := by simp [World.setCell]
  refine ⟨⟨h.buf.bb0, (hk _ (by have := h.mine; omega)).trans h.buf.blk, row_keep h.buf.row fun k hk' => hk k ?_, h.buf.apart, fun e he => ?_⟩, h.own, h.most, h.mine, h.apart⟩
  · rintro rfl
    exact h.apart.1 (List.mem_cons_of_mem _ (Option.mem_toList.2 hk'))
  · obtain ⟨h1, h2⟩ := h.buf.ents e he
    exact ⟨pol_same h1 hs fun q hq => hk _ (h.apart.2 e he q hq), fun q hq => ⟨(h2 q hq).1, Nat.lt_of_lt_of_le (h2 q hq).2.1 hs, (h2 q hq).2.2⟩⟩
/-- what a Put or a Drop leaves. -/
theorem KeepB.last {W W' : World} {bb lb : Nat} {mo : Int} {f : Nat → Int} {v : Value} {L : List Ent} (h : KeepB W bb lb mo f v L) (hm : lb < W.heap.size) {e : Ent} {y : Addr} {en : Ending} {k : Nat} {val : Int} (hk : e.key = (k : Int)) (hk16 : k < 16) (hv : SaysE e val) (hq : ∀ q, e.a = some q → W.heap.size ≤ q.block) (hp : LastPost bb bb 1 mo 16 v L e y W en W') :
    (en = .returned (errOf y) ∧ f k = 0 ∧ (L.length : Int) = mo ∧ KeepB W' bb lb mo f v L ∧ Below W.heap.size W W') ∨
    (en = .returned .nilIface ∧ (∃ v' L', KeepB W' bb lb mo (fun j => if j = k then val else f j) v' L') ∧ Below bb W W' ∧ W'.heap[lb]? = W.heap[lb]?) := by
  have hmo := h.most
  rcases hp with ⟨h1, h2, rfl, b⟩ | ⟨hc, rfl, v', B', T⟩
  · refine .inl ⟨rfl, ?_, by omega, h.below b, b⟩
    rw [hk] at h1
    refine Classical.byContradiction fun hne => ?_
    obtain ⟨i, d, hi, _⟩ := h.own.here hk16 hne
    rw [h1] at hi
    cases hi
  · refine .inr ⟨rfl, ⟨v', _, B', h.own.last hk hk16 hv, ?_, h.mine, ?_, fun d hd q hdq => ?_⟩, tn_below T (Nat.le_of_lt h.buf.lt) (fun k hk => (blks_lt h.buf k hk).1), T.same lb hm h.apart.1⟩
    · by_cases ha : at? L e.key = none
      · rw [lastL_len.1 ha]
        rcases hc with hc | hc
        · exact absurd ha hc
        · omega
      · rw [lastL_len.2 ha]; exact hmo
    · intro hmem
      rcases T.new lb hmem with hmem | hmem
      · exact h.apart.1 hmem
      · omega
    · rcases (lastL_mem h.own.keys.once).1 hd with rfl | hd
      · have := hq q hdq; omega
      · exact h.apart.2 d hd.1 q hdq
/-- the state between the steps. -/
def KeepS (w : World) (base bb lb : Nat) (mo : Int) (W : World) : Prop := ∃ v L f, KeepB W bb lb mo f v L ∧ Blk64 W lb ((List.range 16).map f) ∧ Below base w W
theorem map_set {f : Nat → Int} {k : Nat} {v : Int} (hk : k < 16) : ((List.range 16).map f).set k v = (List.range 16).map (fun j => if j = k then v else f j) := by
  apply List.ext_getElem?
  intro j
  rw [List.getElem?_set]
  by_cases hj : j < 16
  · by_cases e : k = j
    · subst e
      rw [if_pos rfl, if_pos (by simpa using hj)]
      simp [hj]
    · rw [if_neg e]
      simp [hj, Ne.symm e]
  · rw [if_neg (by omega)]
    simp [hj]
theorem map_nth {f : Nat → Int} {k : Nat} (hk : k < 16) : nth64 ((List.range 16).map f) k = f k := by
  unfold nth64
  simp [hk]
end Go.Proofs.YtabpfadbioalgaaDoor.Wt
