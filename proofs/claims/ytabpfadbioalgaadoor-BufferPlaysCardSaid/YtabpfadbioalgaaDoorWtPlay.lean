/- What BufferPlays holds: the program's buffer and the document's say the same. By the verifier of shale. -/
import Derived.Test.YtabpfadbioalgaaDoorWtRefPut
import Derived.Test.YtabpfadbioalgaaDoorWtSames
import Derived.Test.YtabpfadbioalgaaDoorWtKeep
import Derived.Test.YtabpfadbioalgaaDoorSee
namespace Go.Proofs.YtabpfadbioalgaaDoor.Wt
open Go Go.RowKit Bin
set_option linter.unusedVariables false
set_option linter.unusedSimpArgs false
set_option maxHeartbeats 1000000 in
theorem clear_any {w : World} {base bb : Nat} {sz mo sc : Int} {v : Value} {L : List Ent} (B : BufAt w base bb sz mo sc v L) : Calls Tryd.prog 8 #[.pointer (some ⟨bb, 0, none⟩)] w fun e w' => e = .returned (.tuple #[]) ∧ w' = w.setCell ⟨bb, 3, none⟩ (.slice none 0 0) := by
  obtain ⟨k0, k1, k2, k3, kf⟩ := B.cells
  have k4 := kf 3
  clear B kf
  go_enter Tryd.func8, Tryd.ntmps8
  go_wp2_with fail
  go_end0
  exact ⟨rfl, rfl⟩
structure PlayB (W : World) (bb xb : Nat) (sz mo sc : Int) (v u : Value) (L M : List Ent) : Prop where
  mineL : bb < xb
  buf : BufAt W bb bb sz mo sc v L
  ref : RefAt W xb xb sz mo sc u M
  alike : cores L = cores M
  keys : KeyOK sc.toNat L
  most : (L.length : Int) ≤ mo
  ap1 : ∀ k ∈ allb bb v L, k ∉ blks xb u
  ap2 : ∀ k ∈ allb xb u M, k ∉ blks bb v
  small : ∀ e ∈ L, e.n ≤ 1024
theorem PlayB.below {W W' : World} {bb xb : Nat} {sz mo sc : Int} {v u : Value} {L M : List Ent} (h : PlayB W bb xb sz mo sc v u L M) (b : Below W.heap.size W W') : PlayB W' bb xb sz mo sc v u L M :=
  ⟨h.mineL, h.buf.below b, h.ref.below b, h.alike, h.keys, h.most, h.ap1, h.ap2, h.small⟩
theorem PlayB.far {W W' : World} {bb xb : Nat} {sz mo sc : Int} {v u : Value} {L M : List Ent} (h : PlayB W bb xb sz mo sc v u L M) (hs : W.heap.size ≤ W'.heap.size) (o1 : ∀ k ∈ allb bb v L, W'.heap[k]? = W.heap[k]?) (o2 : ∀ k ∈ allb xb u M, W'.heap[k]? = W.heap[k]?) : PlayB W' bb xb sz mo sc v u L M :=
  ⟨h.mineL, h.buf.far hs o1, h.ref.far hs o2, h.alike, h.keys, h.most, h.ap1, h.ap2, h.small⟩
/-- a store into a block that is none of theirs. -/
theorem PlayB.set {W : World} {bb xb g i : Nat} {sz mo sc : Int} {v u x : Value} {L M : List Ent} (h : PlayB W bb xb sz mo sc v u L M) (h1 : g ∉ allb bb v L) (h2 : g ∉ allb xb u M) : PlayB (W.setCell ⟨g, i, none⟩ x) bb xb sz mo sc v u L M :=
  h.far (by simp [World.setCell]) (fun k hk => Below.heap_setCell _ _ _ _ (by rintro rfl; exact h1 hk)) (fun k hk => Below.heap_setCell _ _ _ _ (by rintro rfl; exact h2 hk))
theorem PlayB.size {W : World} {bb xb : Nat} {sz mo sc : Int} {v u : Value} {L M : List Ent} (h : PlayB W bb xb sz mo sc v u L M) : L.length = M.length := cores_len h.alike
/-- a turn of the program's buffer leaves the document's. -/
theorem PlayB.ref1 {W W1 : World} {bb xb : Nat} {sz mo sc : Int} {v u v' : Value} {L M : List Ent} (h : PlayB W bb xb sz mo sc v u L M) (t : Tn (blks bb v) W W1 (blks bb v')) : RefAt W1 xb xb sz mo sc u M :=
  h.ref.far t.size fun k hk => t.same k (h.ref.allb_lt k hk).2 (h.ap2 k hk)
/-- the program's Put or Drop leaves the document's buffer. -/
theorem LastPost.ref {W W1 : World} {bb xb : Nat} {sz mo sc : Int} {v u : Value} {L M : List Ent} {e : Ent} {y : Addr} {en : Ending} (h : PlayB W bb xb sz mo sc v u L M) (hp : LastPost bb bb sz mo sc v L e y W en W1) : RefAt W1 xb xb sz mo sc u M := by
  rcases hp with ⟨_, _, _, b⟩ | ⟨_, _, v', _, t⟩
  · exact h.ref.below b
  · exact h.ref1 t
theorem PlayB.both {W W1 W2 : World} {bb xb : Nat} {sz mo sc : Int} {v u : Value} {L M : List Ent} {e : Ent} {y : Addr} {en en2 : Ending} {trim : Bool} {n : Nat} {l : List (BitVec 8)} {key : Int}
    (h : PlayB W bb xb sz mo sc v u L M) (hp : LastPost bb bb sz mo sc v L e y W en W1) (hr : RPutPost xb xb sz mo sc u M key trim n l W1 en2 W2) (ek : e.key = key) (et : e.trim = trim) (el : e.l = l) (hn : e.n ≤ 1024) (h0 : 0 ≤ key) (h1 : key < sc) (hq : ∀ q, e.a = some q → W.heap.size ≤ q.block) :
    (∃ v' u' L' M', PlayB W2 bb xb sz mo sc v' u' L' M' ∧ (∀ k ∈ allb bb v' L', k ∈ allb bb v L ∨ W.heap.size ≤ k) ∧ (∀ k ∈ allb xb u' M', k ∈ allb xb u M ∨ W.heap.size ≤ k)) ∧
    Below bb W W2 ∧ (∀ k, k < W.heap.size → k ∉ blks bb v → k ∉ blks xb u → W2.heap[k]? = W.heap[k]?) ∧
    ((en = .returned (errOf y) ∧ en2 = .returned (.int .i64 114)) ∨ (en = .returned .nilIface ∧ en2 = .returned (.int .i64 0))) := by
  subst ek et el
  have hat : at? L e.key = at? M e.key := at_keys _ (cores_keys h.alike)
  have hlen := h.size
  have hbx : ∀ k ∈ blks bb v, bb ≤ k := fun k hk => (blks_lt h.buf k hk).1
  rcases hp with ⟨p1, p2, rfl, b1⟩ | ⟨p1, rfl, v', B1, t1⟩
  · rcases hr with ⟨r1, r2, rfl, b2⟩ | ⟨r1, _⟩
    · have b := b1.trans (b2.mono b1.size)
      exact ⟨⟨v, u, L, M, h.below b, fun k hk => .inl hk, fun k hk => .inl hk⟩, b.mono (Nat.le_of_lt h.buf.lt), fun k hk _ _ => b.block k hk, .inl ⟨rfl, rfl⟩⟩
    · rw [← hat, ← hlen] at r1
      rcases r1 with r1 | r1
      · exact absurd p1 r1
      · omega
  · rcases hr with ⟨r1, r2, _⟩ | ⟨_, rfl, u', e', k1, k2, k3, k4, k5, R2, t2⟩
    · rw [← hat] at r1
      rw [← hlen] at r2
      rcases p1 with p1 | p1
      · exact absurd r1 p1
      · omega
    · have hR1 := h.ref1 t1
      have hs1 := t1.size
      have hs2 := t2.size
      have hul : ∀ k ∈ blks xb u, k < W.heap.size := fun k hk => (rblks_lt h.ref k hk).2
      have hvl : ∀ k ∈ blks bb v', k ∈ blks bb v ∨ W.heap.size ≤ k := t1.new
      have hul' : ∀ k ∈ blks xb u', k ∈ blks xb u ∨ W1.heap.size ≤ k := t2.new
      have hcore : core e = core e' := by simp [core, k1, k2, k4]
      have hA1 : ∀ k ∈ allb bb v' (lastL L e), k ∈ allb bb v L ∨ W.heap.size ≤ k := by
        intro k hk
        rcases mem_allb.1 hk with hk | ⟨d, hd, q, hdq, rfl⟩
        · rcases hvl k hk with hk | hk
          · exact .inl (mem_allb.2 (.inl hk))
          · exact .inr hk
        · rcases (lastL_mem h.keys.once).1 hd with rfl | hd
          · exact .inr (hq q hdq)
          · exact .inl (mem_allb.2 (.inr ⟨d, hd.1, q, hdq, rfl⟩))
      have hA2' : ∀ k ∈ allb xb u' (restL M e.key ++ [e']), k ∈ allb xb u M ∨ W1.heap.size ≤ k := by
        intro k hk
        rcases mem_allb.1 hk with hk | ⟨d, hd, q, hdq, rfl⟩
        · rcases hul' k hk with hk | hk
          · exact .inl (mem_allb.2 (.inl hk))
          · exact .inr hk
        · rcases List.mem_append.1 hd with hd | hd
          · exact .inl (mem_allb.2 (.inr ⟨d, mem_rest hd, q, hdq, rfl⟩))
          · rw [List.mem_singleton.1 hd] at hdq
            exact .inr (k5 q hdq)
      have hA2 : ∀ k ∈ allb xb u' (restL M e.key ++ [e']), k ∈ allb xb u M ∨ W.heap.size ≤ k := fun k hk => (hA2' k hk).imp id (fun h => by omega)
      have hB2 : BufAt W2 bb bb sz mo sc v' (lastL L e) := B1.far hs2 fun k hk => t2.same k (B1.allb_lt k hk).2 fun hm => by
        rcases hA1 k hk with h3 | h3
        · exact h.ap1 k h3 hm
        · have := hul k hm; omega
      refine ⟨⟨v', u', lastL L e, restL M e.key ++ [e'], ⟨h.mineL, hB2, R2, cores_last h.alike h.keys.once hcore, h.keys.last h0 (by omega), ?_, fun k hk hm => ?_, fun k hk hm => ?_, fun d hd => ?_⟩, hA1, hA2⟩, ?_, ?_, .inr ⟨rfl, rfl⟩⟩
      · by_cases ha : at? L e.key = none
        · rw [lastL_len.1 ha]
          rcases p1 with p1 | p1
          · exact absurd ha p1
          · omega
        · rw [lastL_len.2 ha]; exact h.most
      · have hk1 := (B1.allb_lt k hk).2
        rcases hul' k hm with hm | hm
        · rcases hA1 k hk with h3 | h3
          · exact h.ap1 k h3 hm
          · have := hul k hm; omega
        · omega
      · have hm1 := (blks_lt B1 k hm).2
        rcases hA2' k hk with h3 | h3
        · rcases hvl k hm with hm | hm
          · exact h.ap2 k h3 hm
          · have := (h.ref.allb_lt k h3).2; omega
        · omega
      · rcases (lastL_mem h.keys.once).1 hd with rfl | hd
        · exact hn
        · exact h.small d hd.1
      · have hbl := h.buf.lt
        refine ⟨t2.os.trans t1.os, t2.tape.trans t1.tape, t2.output.trans t1.output, by omega, fun k hk => ?_⟩
        refine (t2.same k (by omega) fun hm => ?_).trans (t1.same k (by omega) fun hm => ?_)
        · have h5 := (rblks_lt h.ref k hm).1; have h7 := h.mineL; omega
        · have := hbx k hm; omega
      · intro k hk n1 n2
        exact (t2.same k (by omega) n2).trans (t1.same k hk n1)
/-- bytes that came in are a polynomial. -/
theorem row_polP {w : World} {a : Option Addr} {len cap : Nat} {zs : List Int} (h : IsRow .u8 w a len cap zs) : ∃ l, Pol w a len cap l := by
  have hn := h.nil_cap
  have hc : cap ≤ maxLen := by
    rcases h with ⟨_, _, rfl, _⟩ | ⟨x, _, _, hm, _⟩
    · exact Nat.zero_le _
    · exact hm
  have hlc : len ≤ cap := h.at.2.1
  obtain ⟨hm, h0 | ⟨bb, off, l, ha, hl, hcc, hr, hb⟩⟩ := h.bytes
  · exact ⟨[], h0, hlc, hc, hn, Or.inl h0⟩
  · exact ⟨l, hl.symm, hlc, hc, hn, Or.inr ⟨bb, off, ha, hr, hb⟩⟩
/-- all that BufferPlays holds. -/
structure PlayC (w : World) (base bb xb sb rb pb : Nat) (sz mo sc stop : Int) (v u : Value) (L M : List Ent) (W : World) : Prop where
  b : PlayB W bb xb sz mo sc v u L M
  p1 : pb ∉ allb bb v L
  p2 : pb ∉ allb xb u M
  sB : W.heap[sb]? = some (.cells #[.int .i64 stop] 3 (0, 0))
  rB : W.heap[rb]? = some (.cells #[.bool false] 4 (0, 0))
  pB : W.heap[pb]? = some (.cells #[.pointer (some ⟨xb, 0, none⟩)] 29 (0, 0))
  low : base ≤ sb ∧ base ≤ rb ∧ sb < bb ∧ rb < bb ∧ sb ≠ rb ∧ bb < pb
  w : Below base w W
section
variable {w : World} {base bb xb sb rb pb : Nat} {sz mo sc stop : Int} {v u : Value} {L M : List Ent}
theorem PlayC.below {W W' : World} (hb : base = w.heap.size) (h : PlayC w base bb xb sb rb pb sz mo sc stop v u L M W) (b : Below W.heap.size W W') : PlayC w base bb xb sb rb pb sz mo sc stop v u L M W' :=
  ⟨h.b.below b, h.p1, h.p2, (b.block _ (lt_of_block h.sB)).trans h.sB, (b.block _ (lt_of_block h.rB)).trans h.rB, (b.block _ (lt_of_block h.pB)).trans h.pB, h.low, belB hb h.w b⟩
/-- a store into a block of none of these. -/
theorem PlayC.set {W : World} (h : PlayC w base bb xb sb rb pb sz mo sc stop v u L M W) {g i : Nat} {x : Value} (h1 : g ∉ allb bb v L) (h2 : g ∉ allb xb u M) (h3 : bb < g) (h4 : g ≠ pb) : PlayC w base bb xb sb rb pb sz mo sc stop v u L M (W.setCell ⟨g, i, none⟩ x) := by
  obtain ⟨l1, l2, l3, l4, l5, l6⟩ := h.low
  have o := Only.setCell W ⟨g, i, none⟩ x
  exact ⟨h.b.set h1 h2, h.p1, h.p2, (o.block sb (by show sb ≠ g; omega)).trans h.sB, (o.block rb (by show rb ≠ g; omega)).trans h.rB, (o.block pb (by show pb ≠ g; omega)).trans h.pB, h.low, h.w.setCell (by show base ≤ g; omega) _⟩
/-- both buffers are told. -/
theorem PlayC.both {W W1 W2 : World} {e : Ent} {y : Addr} {en en2 : Ending} {trim : Bool} {n : Nat} {l : List (BitVec 8)} {key : Int} (hb : base = w.heap.size)
    (h : PlayC w base bb xb sb rb pb sz mo sc stop v u L M W) (hp : LastPost bb bb sz mo sc v L e y W en W1) (hr : RPutPost xb xb sz mo sc u M key trim n l W1 en2 W2) (ek : e.key = key) (et : e.trim = trim) (el : e.l = l) (hn : e.n ≤ 1024) (h0 : 0 ≤ key) (h1 : key < sc) (hq : ∀ q, e.a = some q → W.heap.size ≤ q.block) :
    (∃ v' u' L' M', PlayC w base bb xb sb rb pb sz mo sc stop v' u' L' M' W2 ∧ (∀ k ∈ allb bb v' L', k ∈ allb bb v L ∨ W.heap.size ≤ k) ∧ (∀ k ∈ allb xb u' M', k ∈ allb xb u M ∨ W.heap.size ≤ k)) ∧
    (∀ k, k < W.heap.size → k ∉ blks bb v → k ∉ blks xb u → W2.heap[k]? = W.heap[k]?) ∧ W.heap.size ≤ W2.heap.size ∧
    ((en = .returned (errOf y) ∧ en2 = .returned (.int .i64 114)) ∨ (en = .returned .nilIface ∧ en2 = .returned (.int .i64 0))) := by
  obtain ⟨⟨v', u', L', M', hB, hA1, hA2⟩, hbel, hfar, hen⟩ := h.b.both hp hr ek et el hn h0 h1 hq
  obtain ⟨l1, l2, l3, l4, l5, l6⟩ := h.low
  have hpl := lt_of_block h.pB
  have e1 : W2.heap[pb]? = W.heap[pb]? := hfar pb hpl (fun hm => h.p1 (mem_allb.2 (.inl hm))) (fun hm => h.p2 (mem_allb.2 (.inl hm)))
  refine ⟨⟨v', u', L', M', ⟨hB, fun hm => ?_, fun hm => ?_, (hbel.block sb l3).trans h.sB, (hbel.block rb l4).trans h.rB, e1.trans h.pB, h.low, h.w.trans (hbel.mono (by omega))⟩, hA1, hA2⟩, hfar, ?_, hen⟩
  · rcases hA1 pb hm with h3 | h3
    · exact h.p1 h3
    · omega
  · rcases hA2 pb hm with h3 | h3
    · exact h.p2 h3
    · omega
  · have := hbel.size
    rcases hp with ⟨_, _, _, b⟩ | ⟨_, _, _, _, t⟩
    · rcases hr with ⟨_, _, _, b'⟩ | ⟨_, _, _, _, _, _, _, _, _, _, t'⟩
      · have := b.size; have := b'.size; omega
      · have := b.size; have := t'.size; omega
    · rcases hr with ⟨_, _, _, b'⟩ | ⟨_, _, _, _, _, _, _, _, _, _, t'⟩
      · have := t.size; have := b'.size; omega
      · have := t.size; have := t'.size; omega
/-- both are emptied. -/
theorem PlayC.clear {W : World} (h : PlayC w base bb xb sb rb pb sz mo sc stop v u L M W) (hm : 0 ≤ mo) : PlayC w base bb xb sb rb pb sz mo sc stop (.slice none 0 0) (.slice none 0 0) [] [] ((W.setCell ⟨bb, 3, none⟩ (.slice none 0 0)).setCell ⟨xb, 3, none⟩ (.slice none 0 0)) := by
  obtain ⟨l1, l2, l3, l4, l5, l6⟩ := h.low
  have hx := h.b.mineL
  have o1 := Only.setCell W ⟨bb, 3, none⟩ (.slice none 0 0)
  have o2 := Only.setCell (W.setCell ⟨bb, 3, none⟩ (.slice none 0 0)) ⟨xb, 3, none⟩ (.slice none 0 0)
  have hbx : bb ≠ xb := by omega
  have hpx : pb ≠ xb := fun e => h.p2 (mem_allb.2 (.inl (by rw [e]; exact List.mem_cons_self ..)))
  have hpb : pb ≠ bb := by omega
  have k : ∀ z, z ≠ bb → z ≠ xb → ((W.setCell ⟨bb, 3, none⟩ (.slice none 0 0)).setCell ⟨xb, 3, none⟩ (.slice none 0 0)).heap[z]? = W.heap[z]? := fun z z1 z2 => (o2.block z z2).trans (o1.block z z1)
  have hal : ∀ z, allb z (.slice none 0 0) [] = [z] := fun z => rfl
  have hbk : ∀ z, blks z (.slice none 0 0) = [z] := fun z => rfl
  refine ⟨⟨hx, ⟨Nat.le_refl _, ?_, World.ownsRow_nil _ _ _ _, by simp [Value.ownBlock], fun e he => by cases he⟩, ⟨Nat.le_refl _, ?_, World.ownsRow_nil _ _ _ _, by simp [Value.ownBlock], fun e he => by cases he⟩, rfl, keyOK_nil _, by simpa using hm, fun z hz => ?_, fun z hz => ?_, fun e he => by cases he⟩, ?_, ?_, ?_, ?_, ?_, h.low, ?_⟩
  · rw [o2.block bb hbx]
    exact heap_setCell_same _ _ 3 _ _ _ h.b.buf.blk
  · exact heap_setCell_same _ _ 3 _ _ _ ((o1.block xb (Ne.symm hbx)).trans h.b.ref.blk)
  · rw [hal] at hz; rw [hbk, List.mem_singleton.1 hz]; simp [hbx]
  · rw [hal] at hz; rw [hbk, List.mem_singleton.1 hz]; simp [Ne.symm hbx]
  · rw [hal]; simpa using hpb
  · rw [hal]; simpa using hpx
  · exact (k sb (by omega) (by omega)).trans h.sB
  · exact (k rb (by omega) (by omega)).trans h.rB
  · exact (k pb hpb hpx).trans h.pB
  · exact (h.w.setCell (by show base ≤ bb; omega) _).setCell (by show base ≤ xb; omega) _
end
theorem frozen_heapP {W X : World} {g i : Nat} (h : W.heap[g]? = X.heap[g]?) : W.frozen? ⟨g, i, none⟩ = X.frozen? ⟨g, i, none⟩ := by
  unfold World.frozen?
  simp only
  rw [h]
theorem LastPost.bel {W W1 : World} {bb : Nat} {sz mo sc : Int} {v : Value} {L : List Ent} {e : Ent} {y : Addr} {en : Ending} (hB : BufAt W bb bb sz mo sc v L) (hp : LastPost bb bb sz mo sc v L e y W en W1) : Below bb W W1 := by
  rcases hp with ⟨_, _, _, b⟩ | ⟨_, _, v', _, t⟩
  · exact b.mono (Nat.le_of_lt hB.lt)
  · exact tn_below t (Nat.le_of_lt hB.lt) (fun k hk => (blks_lt hB k hk).1)
theorem LastPost.far {W W1 : World} {bb : Nat} {sz mo sc : Int} {v : Value} {L : List Ent} {e : Ent} {y : Addr} {en : Ending} (hp : LastPost bb bb sz mo sc v L e y W en W1) : (∀ k, k < W.heap.size → k ∉ blks bb v → W1.heap[k]? = W.heap[k]?) ∧ W.heap.size ≤ W1.heap.size ∧ (en = .returned (errOf y) ∨ en = .returned .nilIface) := by
  rcases hp with ⟨_, _, rfl, b⟩ | ⟨_, rfl, v', _, t⟩
  · exact ⟨fun k hk _ => b.block k hk, b.size, .inl rfl⟩
  · exact ⟨t.same, t.size, .inr rfl⟩
/-- where the key stands among the first k. -/
def atK (o : Option Nat) (k : Nat) : Int := match o with
  | none => -1
  | some i => if i < k then (i : Int) else -1
theorem atK_zero (o : Option Nat) : atK o 0 = -1 := by cases o <;> rfl
theorem atK_hit {o : Option Nat} {k : Nat} (h : o = some k) : atK o (k + 1) = (k : Int) := by subst h; unfold atK; simp
theorem atK_not {o : Option Nat} {k : Nat} (h : o ≠ some k) : atK o (k + 1) = atK o k := by
  cases o with
  | none => rfl
  | some i =>
    have : i ≠ k := fun e => h (by rw [e])
    unfold atK
    by_cases hi : i < k
    · simp [hi]; omega
    · simp only [if_neg hi]; rw [if_neg (by omega)]
theorem at_uniq {L : List Ent} {key : Int} {k : Nat} {d : Ent} (hn : (L.map Ent.key).Nodup) (hd : L[k]? = some d) : d.key = key ↔ at? L key = some k := by
  constructor
  · rintro rfl
    exact at_here hd rfl (fun j hj d' hd' e => by
      have h1 := List.getElem?_eq_some_iff.1 hd
      have h2 := List.getElem?_eq_some_iff.1 hd'
      have h3 : (L.map Ent.key)[j]'(by rw [List.length_map]; exact h2.1) = (L.map Ent.key)[k]'(by rw [List.length_map]; exact h1.1) := by
        rw [List.getElem_map, List.getElem_map, h1.2, h2.2, e]
      have := nodup_inj hn h3
      omega)
  · intro h
    obtain ⟨d', hd', hk⟩ := at_some h
    rw [hd] at hd'
    cases hd'
    exact hk
/-- an error is seen as its number. -/
def IsOK (w : World) (base : Nat) (F : Value) (G : Int) : Prop := ∀ W, Below base w W → Calls Tryd.prog 14 #[F, .int .i64 G] W fun e w' => e = .returned (.bool true) ∧ Below W.heap.size W w'
theorem preY_cores {L : List Ent} {ys : List Yd} (h : PreY L ys) (hl : ys.length = L.length) : cores (ys.map Yd.e) = cores L := by
  unfold cores
  rw [List.map_map]
  apply List.ext_getElem?
  intro i
  rw [List.getElem?_map, List.getElem?_map]
  by_cases hi : i < ys.length
  · obtain ⟨y, hy⟩ : ∃ y, ys[i]? = some y := ⟨ys[i], List.getElem?_eq_getElem hi⟩
    obtain ⟨h1, d, h2, h3, h4, _, h6⟩ := h i y hy
    rw [h1] at h2
    rw [hy, h2]
    simp [core, h3, h4, h6]
  · rw [List.getElem?_eq_none (by omega), List.getElem?_eq_none (by omega)]
    rfl
/-- what Entries answered, as the document's list. -/
def OutE (M : List Ent) (N : Nat) (W : World) (a : Option Addr) (n c : Nat) : Prop := ∃ K : List Ent, n = K.length ∧ n = N ∧ n ≤ c ∧ EntsAt W a K ∧ cores K = cores M
def PlayS (w : World) (base bb xb sb rb pb : Nat) (sz mo sc stop : Int) (W : World) : Prop := ∃ v u L M, PlayC w base bb xb sb rb pb sz mo sc stop v u L M W
end Go.Proofs.YtabpfadbioalgaaDoor.Wt
