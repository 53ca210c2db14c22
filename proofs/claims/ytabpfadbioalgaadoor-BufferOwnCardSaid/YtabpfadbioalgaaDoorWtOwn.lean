/- What BufferOwn holds between its steps. By the verifier of shale. -/
import Derived.Test.YtabpfadbioalgaaDoorWtFirst
import Derived.Test.YtabpfadbioalgaaDoorWtSame
namespace Go.Proofs.YtabpfadbioalgaaDoor.Wt
open Go Go.RowKit Bin
set_option linter.unusedVariables false
set_option linter.unusedSimpArgs false
theorem and7 (z : Int) : bits .and .i64 z 7 = (((z % 8).toNat : Nat) : Int) := by
  show IntKind.i64.wrap ((BitVec.ofInt 64 z &&& BitVec.ofInt 64 7).toNat : Int) = _
  rw [BitVec.toNat_and, show (BitVec.ofInt 64 7).toNat = 2 ^ 3 - 1 by decide, Nat.and_two_pow_sub_one_eq_mod, BitVec.toNat_ofInt]
  rw [show (((z % ((2 ^ 64 : Nat) : Int)).toNat % 2 ^ 3 : Nat) : Int) = ((z % 8).toNat : Int) by omega]
  exact IntWalk.i64_in _ (by omega)
theorem wrap8_some (x : Int) : ∃ y : BitVec 8, IntKind.u8.wrap x = Bits32.b y := by
  refine ⟨BitVec.ofInt 8 x, ?_⟩
  rw [IntKind.wrap_u8']
  unfold Bits32.b
  rw [BitVec.toNat_ofInt]
  omega
theorem row_zI {w : World} {a : Option Addr} {len cap : Nat} {zs : List Int} (h : IsRow .i64 w a len cap zs) : ∀ i, i < len → ∃ bb off, a = some ⟨bb, off, none⟩ ∧ w.cell? ⟨bb, off + i, none⟩ = some (.int .i64 (zs.getD i 0)) ∧ bb < w.heap.size := by
  intro i hi
  rcases h with ⟨rfl, rfl, rfl, rfl⟩ | ⟨x, rfl, hl, hm, hz, hc, hw⟩
  · omega
  · obtain ⟨bb, off, spot⟩ := x
    have c0 := hc i (by omega)
    obtain rfl : spot = none := by simpa [Addr.add] using World.cell?_spot (hc 0 (by omega))
    have hadd : (⟨bb, off, none⟩ : Addr).add i = ⟨bb, off + i, none⟩ := by simp [Addr.add]
    rw [hadd] at c0
    exact ⟨bb, off, rfl, c0, World.block_lt_of_cell? w _ c0⟩
/-- what waits in BufferOwn: the keys once each, below 8, the data x, 7. -/
def OwnL (x : BitVec 8) (L : List Ent) : Prop := KeyOK 8 L ∧ ∀ e ∈ L, e.trim = false ∧ e.n = 2 ∧ e.l = [x, 7#8]
theorem OwnL.nil (x : BitVec 8) : OwnL x [] := ⟨keyOK_nil 8, fun e h => by cases h⟩
theorem OwnL.last {x : BitVec 8} {L : List Ent} (h : OwnL x L) {e : Ent} (h0 : 0 ≤ e.key) (h1 : e.key < 8) (ht : e.trim = false) (hn : e.n = 2) (hl : e.l = [x, 7#8]) : OwnL x (lastL L e) := by
  refine ⟨h.1.last h0 (by omega), fun d hd => ?_⟩
  rcases (lastL_mem h.1.once).1 hd with rfl | hd
  · exact ⟨ht, hn, hl⟩
  · exact h.2 d hd.1
/-- the buffer and what is its own. -/
structure OwnB (W : World) (bb mb : Nat) (x : BitVec 8) (v : Value) (L : List Ent) : Prop where
  buf : BufAt W bb bb 2 8 8 v L
  own : OwnL x L
  mine : bb < mb
  apart : mb ∉ blks bb v ∧ ∀ e ∈ L, ∀ q, e.a = some q → q.block ≠ mb
theorem OwnB.below {W W' : World} {bb mb : Nat} {x : BitVec 8} {v : Value} {L : List Ent} (h : OwnB W bb mb x v L) (b : Below W.heap.size W W') : OwnB W' bb mb x v L := ⟨h.buf.below b, h.own, h.mine, h.apart⟩
theorem OwnB.set {W : World} {bb mb : Nat} {x : BitVec 8} {v : Value} {L : List Ent} (h : OwnB W bb mb x v L) (i : Nat) (u : Value) : OwnB (W.setCell ⟨mb, i, none⟩ u) bb mb x v L := by
  have hk : ∀ k, k ≠ mb → (W.setCell ⟨mb, i, none⟩ u).heap[k]? = W.heap[k]? := fun k hk => Below.heap_setCell _ _ _ _ hk
  have hs : W.heap.size ≤ (W.setCell ⟨mb, i, none⟩ u).heap.size := by simp [World.setCell]
  refine ⟨⟨h.buf.bb0, (hk _ (by have := h.mine; omega)).trans h.buf.blk, row_keep h.buf.row fun k hk' => hk k ?_, h.buf.apart, fun e he => ?_⟩, h.own, h.mine, h.apart⟩
  · rintro rfl
    exact h.apart.1 (List.mem_cons_of_mem _ (Option.mem_toList.2 hk'))
  · obtain ⟨h1, h2⟩ := h.buf.ents e he
    exact ⟨pol_same h1 hs fun q hq => hk _ (h.apart.2 e he q hq), fun q hq => ⟨(h2 q hq).1, Nat.lt_of_lt_of_le (h2 q hq).2.1 hs, (h2 q hq).2.2⟩⟩
theorem OwnB.put {W W' : World} {bb mb : Nat} {x : BitVec 8} {v : Value} {L : List Ent} (h : OwnB W bb mb x v L) (hm : mb < W.heap.size) {e : Ent} {y : Addr} {en : Ending} (h0 : 0 ≤ e.key) (h1 : e.key < 8) (ht : e.trim = false) (hn : e.n = 2) (hl : e.l = [x, 7#8]) (hq : ∀ q, e.a = some q → W.heap.size ≤ q.block) (hp : LastPost bb bb 2 8 8 v L e y W en W') :
    en = .returned .nilIface ∧ ∃ v' L', OwnB W' bb mb x v' L' ∧ Below bb W W' ∧ W'.heap[mb]? = W.heap[mb]? := by
  have hroom : at? L e.key ≠ none ∨ (L.length : Int) < 8 := by
    by_cases ha : at? L e.key = none
    · have := h.own.1.room h0 (by omega) ha
      exact .inr (by omega)
    · exact .inl ha
  obtain ⟨rfl, v', B', T⟩ := hp.ok hroom
  refine ⟨rfl, v', _, ⟨B', h.own.last h0 h1 ht hn hl, h.mine, ?_, fun d hd q hdq => ?_⟩, tn_below T (Nat.le_of_lt h.buf.lt) (fun k hk => (blks_lt h.buf k hk).1), T.same mb hm h.apart.1⟩
  · intro hmem
    rcases T.new mb hmem with hmem | hmem
    · exact h.apart.1 hmem
    · omega
  · rcases (lastL_mem h.own.1.once).1 hd with rfl | hd
    · have := hq q hdq; omega
    · exact h.apart.2 d hd.1 q hdq
theorem OwnL.len {x : BitVec 8} {L : List Ent} (h : OwnL x L) : L.length ≤ 8 := h.1.len
theorem buf_pol2 {W : World} {g : Nat} {x y : BitVec 8} (h : Buf8 W g [x, y]) : Pol W (some ⟨g, 0, none⟩) 2 2 [x, y] :=
  ⟨rfl, Nat.le_refl _, by decide, (fun h => by cases h), Or.inr ⟨g, 0, rfl, h.row, h.lt⟩⟩
/-- the state between the steps: the buffer, the byte, the answer's box, the bytes handed in. -/
def OwnS (w : World) (base bb pb rb mb : Nat) (x : BitVec 8) (W : World) : Prop := ∃ v L, OwnB W bb mb x v L ∧ W.heap[pb]? = some (.cells #[.int .u8 (Bits32.b x)] 5 (0, 0)) ∧ W.heap[rb]? = some (.cells #[.bool false] 4 (0, 0)) ∧ Below base w W ∧ ∃ y, Buf8 W mb [y, 7#8]
theorem OwnS.below {w W W' : World} {base bb pb rb mb : Nat} {x : BitVec 8} (h : OwnS w base bb pb rb mb x W) (hb : base = w.heap.size) (b : Below W.heap.size W W') : OwnS w base bb pb rb mb x W' := by
  obtain ⟨v, L, h1, h2, h3, h4, y, h5⟩ := h
  exact ⟨v, L, h1.below b, (b.block _ (lt_of_block h2)).trans h2, (b.block _ (lt_of_block h3)).trans h3, belB hb h4 b, y, h5.below b h5.lt⟩
theorem OwnS.set {w W : World} {base bb pb rb mb : Nat} {x : BitVec 8} (h : OwnS w base bb pb rb mb x W) (hb : base ≤ mb ∧ pb ≠ mb ∧ rb ≠ mb) (y : BitVec 8) : OwnS w base bb pb rb mb x (W.setCell ⟨mb, 0, none⟩ (.int .u8 (Bits32.b y))) := by
  obtain ⟨v, L, h1, h2, h3, h4, y0, h5⟩ := h
  refine ⟨v, L, h1.set 0 _, (Below.heap_setCell _ _ _ _ hb.2.1).trans h2, (Below.heap_setCell _ _ _ _ hb.2.2).trans h3, h4.setCell hb.1 _, y, ?_⟩
  exact h5.set 0 (by show 0 < 2; omega) y
theorem frozen_heap {W X : World} {g i : Nat} (h : W.heap[g]? = X.heap[g]?) : W.frozen? ⟨g, i, none⟩ = X.frozen? ⟨g, i, none⟩ := by
  unfold World.frozen?
  simp only
  rw [h]
/-- the entries' row from place i on: as it was answered. -/
def RowE (W : World) (g : Nat) (ys : List Yd) (x : BitVec 8) (i : Nat) : Prop := ∀ k y, i ≤ k → ys[k]? = some y → ∃ ga, y.e.a = some ⟨ga, 0, none⟩ ∧ y.e.n = 2 ∧ 2 ≤ y.e.c ∧ W.cell? ⟨g, k * 3, none⟩ = some (.int .i64 y.e.key) ∧ W.cell? ⟨g, k * 3 + 1, none⟩ = some (.bool false) ∧ W.cell? ⟨g, k * 3 + 2, none⟩ = some (.slice (some ⟨ga, 0, none⟩) 2 y.e.c) ∧ Buf8 W ga [x, 7#8] ∧ ga ≠ g ∧ y.e.c ≤ maxLen ∧ ga ∈ gift y ∧ ∀ j, W.frozen? ⟨g, j, none⟩ = false
theorem RowE.same {W W' : World} {g : Nat} {ys : List Yd} {x : BitVec 8} {i : Nat} (h : RowE W g ys x i) (o : ∀ k, k = g ∨ (∃ y ∈ ys, k ∈ gift y) → W'.heap[k]? = W.heap[k]?) : RowE W' g ys x i := by
  intro k y hk hy
  obtain ⟨ga, h1, h2, h3, h4, h5, h6, ⟨cur, t, h7, h7'⟩, h8, h9, h10, h11⟩ := h k y hk hy
  have hg := o g (.inl rfl)
  exact ⟨ga, h1, h2, h3, (cell_heap hg).trans h4, (cell_heap hg).trans h5, (cell_heap hg).trans h6, ⟨cur, t, (o ga (.inr ⟨y, List.mem_of_getElem? hy, h10⟩)).trans h7, h7'⟩, h8, h9, h10, fun j => (frozen_heap hg).trans (h11 j)⟩
theorem RowE.old {W W' : World} {g : Nat} {ys : List Yd} {x : BitVec 8} {i : Nat} (h : RowE W g ys x i) (o : ∀ k, k < W.heap.size → W'.heap[k]? = W.heap[k]?) : RowE W' g ys x i := by
  intro k y hk hy
  obtain ⟨ga, h1, h2, h3, h4, h5, h6, ⟨cur, t, h7, h7'⟩, h8, h9, h10, h11⟩ := h k y hk hy
  have hg := o g (World.block_lt_of_cell? W _ h4)
  exact ⟨ga, h1, h2, h3, (cell_heap hg).trans h4, (cell_heap hg).trans h5, (cell_heap hg).trans h6, ⟨cur, t, (o ga (lt_of_block h7)).trans h7, h7'⟩, h8, h9, h10, fun j => (frozen_heap hg).trans (h11 j)⟩
theorem RowE.below {W W' : World} {g : Nat} {ys : List Yd} {x : BitVec 8} {i : Nat} (h : RowE W g ys x i) (b : Below W.heap.size W W') : RowE W' g ys x i := h.old fun k hk => b.block k hk
/-- a store elsewhere. -/
theorem RowE.far {W : World} {g : Nat} {ys : List Yd} {x : BitVec 8} {i : Nat} (h : RowE W g ys x i) {B : Nat} (hB : ∀ k y, i ≤ k → ys[k]? = some y → g < B ∧ ∀ q ∈ gift y, q < B) {g5 : Nat} (h5 : B ≤ g5) (j : Nat) (u : Value) : RowE (W.setCell ⟨g5, j, none⟩ u) g ys x i := by
  intro k y hk hy
  obtain ⟨ga, h1, h2, h3, h4, h5', h6, ⟨cur, t, h7, h7'⟩, h8, h9, h10, h11⟩ := h k y hk hy
  obtain ⟨b1, b2⟩ := hB k y hk hy
  have := b2 ga h10
  have hg : (W.setCell ⟨g5, j, none⟩ u).heap[g]? = W.heap[g]? := Below.heap_setCell _ _ _ _ (by show g ≠ g5; omega)
  exact ⟨ga, h1, h2, h3, (cell_heap hg).trans h4, (cell_heap hg).trans h5', (cell_heap hg).trans h6, ⟨cur, t, (Below.heap_setCell _ _ _ _ (by show ga ≠ g5; omega)).trans h7, h7'⟩, h8, h9, h10, fun j => (frozen_heap hg).trans (h11 j)⟩
theorem RowE.lts {W : World} {g : Nat} {ys : List Yd} {x : BitVec 8} {i : Nat} (h : RowE W g ys x i) : ∀ k y, i ≤ k → ys[k]? = some y → g < W.heap.size ∧ ∀ q ∈ gift y, q < W.heap.size := by
  intro k y hk hy
  obtain ⟨ga, h1, h2, h3, h4, h5', h6, ⟨cur, t, h7, h7'⟩, h8, h9, h10, h11⟩ := h k y hk hy
  refine ⟨World.block_lt_of_cell? W _ h4, fun q hq => ?_⟩
  obtain ⟨p, hp, rfl⟩ := mem_gift hq
  rw [h1] at hp
  cases hp
  exact lt_of_block h7
theorem RowE.data {W : World} {g : Nat} {ys : List Yd} {x : BitVec 8} {i ga : Nat} {y : Yd} (h : RowE W g ys x i) (hp : ys.Pairwise (fun x y => ∀ k ∈ gift x, k ∉ gift y)) (hy : ys[i]? = some y) (hga : ga ∈ gift y) (hg : ga ≠ g) (j : Nat) (u : Value) : RowE (W.setCell ⟨ga, j, none⟩ u) g ys x (i + 1) := by
  intro k y' hk hy'
  obtain ⟨gb, h1, h2, h3, h4, h5, h6, ⟨cur, t, h7, h7'⟩, h8, h9, h10, h11⟩ := h k y' (by omega) hy'
  have hne : gb ≠ ga := by
    rintro rfl
    obtain ⟨hi, e1⟩ := List.getElem?_eq_some_iff.1 hy
    obtain ⟨hk', e2⟩ := List.getElem?_eq_some_iff.1 hy'
    have := List.pairwise_iff_getElem.1 hp i k hi hk' (by omega)
    rw [e1, e2] at this
    exact this gb hga h10
  have o : ∀ b, b ≠ ga → (W.setCell ⟨ga, j, none⟩ u).heap[b]? = W.heap[b]? := fun b hb => Below.heap_setCell _ _ _ _ hb
  exact ⟨gb, h1, h2, h3, (cell_heap (o g (Ne.symm hg))).trans h4, (cell_heap (o g (Ne.symm hg))).trans h5, (cell_heap (o g (Ne.symm hg))).trans h6, ⟨cur, t, (o gb hne).trans h7, h7'⟩, h8, h9, h10, fun j => by simpa using h11 j⟩
theorem RowE.key {W : World} {g : Nat} {ys : List Yd} {x : BitVec 8} {i i0 : Nat} (h : RowE W g ys x i) (hi : i0 < i) (u : Value) : RowE (W.setCell ⟨g, i0 * 3, none⟩ u) g ys x i := by
  intro k y' hk hy'
  obtain ⟨gb, h1, h2, h3, h4, h5, h6, ⟨cur, t, h7, h7'⟩, h8, h9, h10, h11⟩ := h k y' hk hy'
  have c : ∀ j, j ≠ i0 * 3 → (W.setCell ⟨g, i0 * 3, none⟩ u).cell? ⟨g, j, none⟩ = W.cell? ⟨g, j, none⟩ := fun j hj =>
    World.cell?_setCell_other _ _ _ _ (fun e => by cases e; exact hj rfl)
  exact ⟨gb, h1, h2, h3, (c _ (by omega)).trans h4, (c _ (by omega)).trans h5, (c _ (by omega)).trans h6, ⟨cur, t, (Below.heap_setCell _ _ _ _ h8).trans h7, h7'⟩, h8, h9, h10, fun j => by simpa using h11 j⟩
/-- what Entries answers in BufferOwn. -/
theorem rowE_of {W : World} {base g : Nat} {a : Option Addr} {c len : Nat} {ys : List Yd} {L : List Ent} {x : BitVec 8} (hown : OwnL x L) (pre : PreY L ys) (hrow : Row W base (.slice a len c) (ys.map Yd.e)) (hf : ∀ y ∈ ys, FreD W y.e ∧ ∀ k ∈ gift y, base ≤ k ∧ some k ≠ (Value.slice a len c).ownBlock) (ha : a = some ⟨g, 0, none⟩) : RowE W g ys x 0 := by
  intro k y _ hy
  obtain ⟨_, d, hd, k1, k2, k3, k4⟩ := pre k y hy
  obtain ⟨t1, t2, t3⟩ := hown.2 d (List.mem_of_getElem? hd)
  obtain ⟨⟨f1, f2, f3, f4⟩, f5⟩ := hf y (List.mem_of_getElem? hy)
  obtain ⟨g', e, _, c0, c1, c2⟩ := row_cells hrow (i := k) (e := y.e) (by rw [List.getElem?_map, hy]; rfl)
  rw [ha] at e
  cases e
  rw [k3, t2] at f2
  rcases f4 with ⟨f4, f6, _⟩ | ⟨ga, f4, f6⟩
  · rw [k3, t2] at f6; cases f6
  · refine ⟨ga, f4, by rw [k3, t2], f2, c0, by rw [c1, k2, t1], by rw [c2, f4, k3, t2], by rw [k4, t3] at f6; exact f6, ?_, f3, ?_⟩
    · have hm : ga ∈ gift y := gift_mem f4
      intro e
      exact (f5 ga hm).2 (by rw [ha, e]; rfl)
    · refine ⟨gift_mem f4, fun j => ?_⟩
      rcases hrow.2 with ⟨h1, _⟩ | ⟨g', cap, cur, hv, _, hh, _⟩
      · rw [ha] at h1; cases h1
      · rw [ha] at hv
        cases hv
        unfold World.frozen?
        simp only
        rw [hh]
        simp
theorem at_key {N k : Nat} {L : List Ent} {d : Ent} (h : KeyOK N L) (hd : L[k]? = some d) : at? L d.key = some k := at_here hd rfl (fun j hj d' hd' e => by
  obtain ⟨i1, e1⟩ := List.getElem?_eq_some_iff.1 hd
  obtain ⟨i2, e2⟩ := List.getElem?_eq_some_iff.1 hd'
  have : j = k := nodup_inj h.once (hi := by simpa using i2) (hj := by simpa using i1) (by rw [List.getElem_map, List.getElem_map, e1, e2, e])
  omega)
/-- what Each yields in BufferOwn. -/
theorem yieldO {W : World} {x : BitVec 8} {L : List Ent} {q : Yd} {Bs : Nat} {pre : List Yd} {ol : List Nat} (hown : OwnL x L) (h : VY L Bs pre q ol W) : ∃ ga, q.e.a = some ⟨ga, 0, none⟩ ∧ q.e.n = 2 ∧ q.e.trim = false ∧ Buf8 W ga [x, 7#8] ∧ ga ∈ gift q ∧ Bs ≤ ga := by
  obtain ⟨_, ⟨d, hd, k1, k2, k3, k4⟩, ⟨f1, f2, f3, f4⟩, _, hb⟩ := h
  obtain ⟨t1, t2, t3⟩ := hown.2 d (List.mem_of_getElem? hd)
  rcases f4 with ⟨f4, f6, _⟩ | ⟨ga, f4, f6⟩
  · rw [k3, t2] at f6; cases f6
  · exact ⟨ga, f4, by rw [k3, t2], by rw [k2, t1], by rw [k4, t3] at f6; exact f6, gift_mem f4, hb ga (gift_mem f4)⟩
/-- Get at a key that waits. -/
theorem getO {W : World} {bb mb : Nat} {x : BitVec 8} {v : Value} {L : List Ent} {ys : List Yd} {k : Nat} {y : Yd} (h : OwnB W bb mb x v L) (pre : PreY L ys) (hy : ys[k]? = some y) :
    Calls Tryd.prog 13 #[.pointer (some ⟨bb, 0, none⟩), .int .i64 y.e.key] W fun en w' => ∃ g5 c, en = .returned (.tuple #[.agg #[.int .i64 y.e.key, .bool false, .slice (some ⟨g5, 0, none⟩) 2 c], .bool true]) ∧ W.heap.size ≤ g5 ∧ Buf8 w' g5 [x, 7#8] ∧ Below W.heap.size W w' := by
  obtain ⟨hyi, d, hd, k1, k2, k3, k4⟩ := pre k y hy
  rw [hyi] at hd
  obtain ⟨t1, t2, t3⟩ := h.own.2 d (List.mem_of_getElem? hd)
  have hg := get_some h.buf d.key (at_key h.own.1 hd) hd (by omega) (by have := h.own.len; omega)
  rw [t1, t2, t3] at hg
  rw [k1]
  refine hg.mono ?_
  rintro en w' ⟨a, c, rfl, N, b⟩
  rcases N.own with ⟨_, h0, _⟩ | ⟨g5, ha, hg5, hb⟩
  · cases h0
  · exact ⟨g5, c, by rw [ha], hg5, hb, b⟩
end Go.Proofs.YtabpfadbioalgaaDoor.Wt
