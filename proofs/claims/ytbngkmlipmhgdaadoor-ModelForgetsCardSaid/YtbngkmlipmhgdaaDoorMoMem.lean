/- A model in memory. By the verifier of shale. -/
import Derived.Test.YtbngkmlipmhgdaaDoorMoMap
import Derived.Test.YtbngkmlipmhgdaaDoorBinTurn
import Derived.Deep.AppendLies
namespace Go.Proofs.YtbngkmlipmhgdaaDoor.Mo
open Go Go.RowKit Bin
set_option linter.unusedVariables false
set_option linter.unusedSimpArgs false
abbrev Bs := List (BitVec 8)
/-- an entry that waits: its sector, where its bytes lie, and what they are. -/
structure We where
  key : Nat
  d : Sd
  l : Bs
def We.cells (e : We) : List Value := [.int .i64 (e.key : Int), sdV e.d]
def wcells (L : List We) : List Value := L.flatMap We.cells
theorem wcells_cons (e : We) (L : List We) : wcells (e :: L) = e.cells ++ wcells L := rfl
theorem wcells_append (L M : List We) : wcells (L ++ M) = wcells L ++ wcells M := by unfold wcells; rw [List.flatMap_append]
theorem wcells_length : ∀ L : List We, (wcells L).length = L.length * 2
  | [] => rfl
  | e :: L => by rw [wcells_cons, List.length_append, wcells_length L]; show 2 + _ = _; rw [List.length_cons]; omega
theorem wcells_drop : ∀ (L : List We) (i : Nat), (wcells L).drop (i * 2) = wcells (L.drop i)
  | L, 0 => by simp
  | [], i + 1 => by simp [wcells]
  | e :: L, i + 1 => by
    rw [wcells_cons, List.drop_succ_cons, ← wcells_drop L i, List.drop_append, show e.cells.length = 2 from rfl, List.drop_of_length_le (by show 2 ≤ _; omega), List.nil_append, show (i + 1) * 2 - 2 = i * 2 by omega]
theorem wcells_one (L : List We) : ∀ u ∈ wcells L, u.oneCell' = true := by
  intro u hu
  obtain ⟨e, _, he⟩ := List.mem_flatMap.1 hu
  unfold We.cells at he
  simp only [List.mem_cons, List.not_mem_nil, or_false] at he
  rcases he with rfl | rfl <;> rfl
theorem wcells_at {L : List We} {i : Nat} {e : We} (h : L[i]? = some e) : (wcells L)[i * 2]? = some (.int .i64 (e.key : Int)) ∧ (wcells L)[i * 2 + 1]? = some (sdV e.d) := by
  have hd : (wcells L).drop (i * 2) = e.cells ++ wcells (L.drop (i + 1)) := by
    rw [wcells_drop]
    have hi := (List.getElem?_eq_some_iff.1 h).1
    rw [List.drop_eq_getElem_cons hi, (List.getElem?_eq_some_iff.1 h).2]
    rfl
  have k : ∀ j, j < 2 → (wcells L)[i * 2 + j]? = e.cells[j]? := by
    intro j hj
    have := congrArg (fun l => l[j]?) hd
    simp only [List.getElem?_drop] at this
    rw [this, List.getElem?_append_left (by show j < 2; exact hj)]
  exact ⟨k 0 (by omega), k 1 (by omega)⟩
abbrev WRow (w : World) (v : Value) (L : List We) : Prop := w.ownsRow 0 67 2 v L.length (wcells L)
theorem wrow_slice {w : World} {v : Value} {L : List We} (h : WRow w v L) : ∃ a c, v = .slice a L.length c ∧ L.length ≤ c ∧ c ≤ maxLen ∧ (a = none → c = 0) := by
  rcases h.2 with ⟨h1, h2⟩ | ⟨g, cap, cur, hv, _, _, h3, h4, _⟩
  · exact ⟨none, 0, by rw [h1, h2], by omega, by decide, fun _ => rfl⟩
  · exact ⟨_, cap, hv, h3, h4, fun e => by cases e⟩
theorem wrow_cells {w : World} {a : Option Addr} {n c : Nat} {L : List We} (h : WRow w (.slice a n c) L) {i : Nat} {e : We} (hi : L[i]? = some e) :
    ∃ g, a = some ⟨g, 0, none⟩ ∧ w.cell? ⟨g, i * 2, none⟩ = some (.int .i64 (e.key : Int)) ∧ w.cell? ⟨g, i * 2 + 1, none⟩ = some (sdV e.d) := by
  obtain ⟨k0, k1⟩ := wcells_at hi
  rcases h.2 with ⟨h1, h2⟩ | ⟨g, cap, cur, hv, hb, hh, _, _, _, _⟩
  · have := (List.getElem?_eq_some_iff.1 hi).1; omega
  · cases hv
    have hc := h.cells (g := g) rfl
    have hadd : ∀ j, (⟨g, 0, none⟩ : Addr).add j = ⟨g, j, none⟩ := fun j => by unfold Addr.add; split <;> simp_all
    have c0 := hc _ _ k0
    have c1 := hc _ _ k1
    rw [hadd] at c0 c1
    exact ⟨g, rfl, c0, c1⟩
theorem wrow_keep {w w' : World} {v : Value} {L : List We} (h : WRow w v L) (o : ∀ g, v.ownBlock = some g → w'.heap[g]? = w.heap[g]?) : WRow w' v L := by
  refine ⟨h.1, ?_⟩
  rcases h.2 with h0 | ⟨g', cap', cur, hv, hbg, hh, r⟩
  · exact Or.inl h0
  · exact Or.inr ⟨g', cap', cur, hv, hbg, by rw [o g' (by rw [hv]; rfl)]; exact hh, r⟩
/-- bytes where they lie. -/
abbrev Dat (w : World) (s : Sd) (l : Bs) : Prop := Pol w s.addr s.n s.c l
theorem Dat.same {w w' : World} {s : Sd} {l : Bs} (h : Dat w s l) (hs : w.heap.size ≤ w'.heap.size) (o : ∀ p, s.q = some p → w'.heap[p.1]? = w.heap[p.1]?) : Dat w' s l := by
  refine ⟨h.hlen, h.hcap, h.hmost, h.hnil, ?_⟩
  rcases h.hrow with h0 | ⟨bb, off, e, hr, hb⟩
  · exact .inl h0
  · refine .inr ⟨bb, off, e, fun i hi => ?_, Nat.lt_of_lt_of_le hb hs⟩
    have := hr i hi
    unfold Sd.addr at e
    cases hq : s.q with
    | none => rw [hq] at e; cases e
    | some p =>
      rw [hq] at e
      simp only [Option.map_some, Option.some.injEq, Addr.mk.injEq, and_true] at e
      obtain ⟨rfl, rfl⟩ := e
      unfold World.cell? at this ⊢
      simp only at this ⊢
      rw [o p hq]
      exact this
def zerosL (sz : Nat) : Bs := List.replicate sz 0
def upT (T : Nat → Bs) (k : Nat) (l : Bs) : Nat → Bs := fun j => if j = k then l else T j
def app (T : Nat → Bs) (L : List (Nat × Bs)) : Nat → Bs := L.foldl (fun T p => upT T p.1 p.2) T
theorem app_append (T : Nat → Bs) (L M : List (Nat × Bs)) : app T (L ++ M) = app (app T L) M := by unfold app; rw [List.foldl_append]
theorem app_snoc (T : Nat → Bs) (L : List (Nat × Bs)) (k : Nat) (l : Bs) : app T (L ++ [(k, l)]) = upT (app T L) k l := by rw [app_append]; rfl
theorem app_len {sz : Nat} : ∀ (L : List (Nat × Bs)) (T : Nat → Bs), (∀ k, (T k).length = sz) → (∀ p ∈ L, p.2.length = sz) → ∀ k, (app T L k).length = sz
  | [], T, h, _, k => h k
  | p :: L, T, h, hL, k => by
    refine app_len L (upT T p.1 p.2) (fun j => ?_) (fun q hq => hL q (by simp [hq])) k
    unfold upT
    split
    · exact hL p (by simp)
    · exact h j
/-- the map says what the sectors are. -/
def Holds (w : World) (n sz : Nat) (T : Nat → Bs) (m : Int → Option Sd) : Prop := ∀ k : Nat, k < n → (m (k : Int) = none ∧ T k = zerosL sz) ∨ ∃ s, m (k : Int) = some s ∧ Dat w s (T k)
def InD (dl : List Nat) (s : Sd) : Prop := ∀ p, s.q = some p → p.1 ∈ dl
def MIn (dl : List Nat) (m : Int → Option Sd) : Prop := ∀ k s, m k = some s → InD dl s
theorem Holds.same {w w' : World} {n sz : Nat} {T : Nat → Bs} {m : Int → Option Sd} {dl : List Nat} (h : Holds w n sz T m) (hi : MIn dl m) (hs : w.heap.size ≤ w'.heap.size) (o : ∀ k ∈ dl, w'.heap[k]? = w.heap[k]?) : Holds w' n sz T m := fun k hk => by
  rcases h k hk with h | ⟨s, h1, h2⟩
  · exact .inl h
  · exact .inr ⟨s, h1, h2.same hs fun p hp => o _ (hi _ s h1 p hp)⟩
theorem Holds.up {w : World} {n sz : Nat} {T : Nat → Bs} {m : Int → Option Sd} (h : Holds w n sz T m) (k : Nat) (s : Sd) (l : Bs) (d : Dat w s l) : Holds w n sz (upT T k l) (upM m (k : Int) s) := fun j hj => by
  unfold upT upM
  by_cases e : j = k
  · subst e
    exact .inr ⟨s, by simp, by simpa using d⟩
  · rw [if_neg e, if_neg (by omega)]
    exact h j hj
structure MoIn (w : World) (mo n sz : Nat) (T : Nat → Bs) (L : List (Nat × Bs)) (bl dl : List Nat) (cb tm nm : Nat) (mT mN : Int → Option Sd) (bT bN : Nat) (v : Value) (E : List We) : Prop where
  blk : w.heap[mo]? = some (.cells #[.int .i64 (n : Int), .int .i64 (sz : Int), .map (some tm), .map (some nm), v] 63 (0, 0))
  mapT : MapS w tm mT bT
  mapN : MapS w nm mN bN
  row : WRow w v E
  bls : bl = mo :: tm :: nm :: v.ownBlock.toList
  nod : mo ≠ tm ∧ mo ≠ nm ∧ tm ≠ nm ∧ v.ownBlock ≠ some mo ∧ v.ownBlock ≠ some tm ∧ v.ownBlock ≠ some nm
  dis : ∀ k ∈ dl, k ∉ bl
  dlt : ∀ k ∈ dl, k < w.heap.size
  inT : MIn dl mT
  inN : MIn dl mN
  inE : ∀ e ∈ E, InD dl e.d
  holT : Holds w n sz T mT
  holN : Holds w n sz (app T L) mN
  lay : E.map (fun e => (e.key, e.l)) = L
  ents : ∀ e ∈ E, Dat w e.d e.l ∧ e.key < n ∧ e.l.length = sz
  lens : ∀ k, (T k).length = sz
  num : 1 ≤ n ∧ n ≤ 1048576 ∧ 1 ≤ sz ∧ sz ≤ 1024
  cnt : bT + L.length ≤ cb ∧ bN ≤ cb ∧ cb ≤ 1000
/-- a model: its measures, what is there, what waits; bl: the blocks that it turns; dl: those that it only reads. -/
def MoAt (w : World) (mo n sz : Nat) (T : Nat → Bs) (L : List (Nat × Bs)) (bl dl : List Nat) (cb : Nat) : Prop := ∃ tm nm mT mN bT bN v E, MoIn w mo n sz T L bl dl cb tm nm mT mN bT bN v E
section
variable {w : World} {mo n sz : Nat} {T : Nat → Bs} {L : List (Nat × Bs)} {bl dl : List Nat} {cb tm nm : Nat} {mT mN : Int → Option Sd} {bT bN : Nat} {v : Value} {E : List We}
theorem MoIn.blt (h : MoIn w mo n sz T L bl dl cb tm nm mT mN bT bN v E) : ∀ k ∈ bl, k < w.heap.size := by
  intro k hk
  rw [h.bls] at hk
  simp only [List.mem_cons, Option.mem_toList] at hk
  rcases hk with rfl | rfl | rfl | hk
  · exact lt_of_block h.blk
  · exact h.mapT.lt
  · exact h.mapN.lt
  · exact (h.row.lt k hk).2
theorem MoIn.keep {w' : World} (h : MoIn w mo n sz T L bl dl cb tm nm mT mN bT bN v E) (hs : w.heap.size ≤ w'.heap.size) (o : ∀ k, k ∈ bl ∨ k ∈ dl → w'.heap[k]? = w.heap[k]?) : MoIn w' mo n sz T L bl dl cb tm nm mT mN bT bN v E := by
  have ob : ∀ k, k ∈ mo :: tm :: nm :: v.ownBlock.toList → w'.heap[k]? = w.heap[k]? := fun k hk => o k (.inl (by rw [h.bls]; exact hk))
  have od : ∀ k ∈ dl, w'.heap[k]? = w.heap[k]? := fun k hk => o k (.inr hk)
  exact { h with
    blk := (ob mo (by simp)).trans h.blk
    mapT := h.mapT.keep (ob tm (by simp))
    mapN := h.mapN.keep (ob nm (by simp))
    row := wrow_keep h.row fun g hg => ob g (by rw [hg]; simp)
    dlt := fun k hk => Nat.lt_of_lt_of_le (h.dlt k hk) hs
    holT := h.holT.same h.inT hs od
    holN := h.holN.same h.inN hs od
    ents := fun e he => ⟨(h.ents e he).1.same hs fun p hp => od _ (h.inE e he p hp), (h.ents e he).2⟩ }
theorem MoAt.keep {w' : World} (h : MoAt w mo n sz T L bl dl cb) (hs : w.heap.size ≤ w'.heap.size) (o : ∀ k, k ∈ bl ∨ k ∈ dl → w'.heap[k]? = w.heap[k]?) : MoAt w' mo n sz T L bl dl cb := by
  obtain ⟨tm, nm, mT, mN, bT, bN, v, E, h⟩ := h
  exact ⟨tm, nm, mT, mN, bT, bN, v, E, h.keep hs o⟩
theorem MoAt.lt (h : MoAt w mo n sz T L bl dl cb) : ∀ k, k ∈ bl ∨ k ∈ dl → k < w.heap.size := by
  obtain ⟨tm, nm, mT, mN, bT, bN, v, E, h⟩ := h
  rintro k (hk | hk)
  · exact h.blt k hk
  · exact h.dlt k hk
theorem MoAt.below {w' : World} (h : MoAt w mo n sz T L bl dl cb) (b : Below w.heap.size w w') : MoAt w' mo n sz T L bl dl cb := h.keep b.size fun k hk => b.block k (h.lt k hk)
theorem MoAt.tn {w' : World} {b2 b3 : List Nat} (h : MoAt w mo n sz T L bl dl cb) (t : Tn b2 w w' b3) (hd : ∀ k, k ∈ bl ∨ k ∈ dl → k ∉ b2) : MoAt w' mo n sz T L bl dl cb := h.keep t.size fun k hk => t.same k (h.lt k hk) (hd k hk)
theorem MoAt.more {cb' : Nat} (h : MoAt w mo n sz T L bl dl cb) (h1 : cb ≤ cb') (h2 : cb' ≤ 1000) : MoAt w mo n sz T L bl dl cb' := by
  obtain ⟨tm, nm, mT, mN, bT, bN, v, E, h⟩ := h
  exact ⟨tm, nm, mT, mN, bT, bN, v, E, { h with cnt := ⟨by have := h.cnt; omega, by have := h.cnt; omega, h2⟩ }⟩
theorem MoAt.lens (h : MoAt w mo n sz T L bl dl cb) : (∀ k, (T k).length = sz) ∧ (∀ p ∈ L, p.1 < n ∧ p.2.length = sz) ∧ 1 ≤ n ∧ n ≤ 1048576 ∧ 1 ≤ sz ∧ sz ≤ 1024 ∧ L.length ≤ cb ∧ cb ≤ 1000 := by
  obtain ⟨tm, nm, mT, mN, bT, bN, v, E, h⟩ := h
  refine ⟨h.lens, fun p hp => ?_, h.num.1, h.num.2.1, h.num.2.2.1, h.num.2.2.2, by have := h.cnt; omega, h.cnt.2.2⟩
  rw [← h.lay] at hp
  obtain ⟨e, he, rfl⟩ := List.mem_map.1 hp
  exact (h.ents e he).2
theorem mo_cells {a b c d v : Value} {t : TypeId} (e : w.heap[mo]? = some (.cells #[a, b, c, d, v] t (0, 0))) : w.cell? ⟨mo, 0, none⟩ = some a ∧ w.cell? ⟨mo, 1, none⟩ = some b ∧ w.cell? ⟨mo, 2, none⟩ = some c ∧ w.cell? ⟨mo, 3, none⟩ = some d ∧ w.cell? ⟨mo, 4, none⟩ = some v ∧ ∀ i, w.frozen? ⟨mo, i, none⟩ = false := by
  refine ⟨?_, ?_, ?_, ?_, ?_, fun i => ?_⟩
  · unfold World.cell?; simp only; rw [e]; rfl
  · unfold World.cell?; simp only; rw [e]; rfl
  · unfold World.cell?; simp only; rw [e]; rfl
  · unfold World.cell?; simp only; rw [e]; rfl
  · unfold World.cell?; simp only; rw [e]; rfl
  · unfold World.frozen?; simp only; rw [e]; rfl
end
theorem wf_nat (k : Nat) (h : k ≤ 1073741824) : (Lit.int .i64 (k : Int)).wf = true := by
  have h1 : IntKind.i64.min = -9223372036854775808 := by decide
  have h2 : IntKind.i64.max = 9223372036854775807 := by decide
  simp only [Lit.wf, h1, h2, Bool.and_eq_true, decide_eq_true_eq]
  omega
end Go.Proofs.YtbngkmlipmhgdaaDoor.Mo
