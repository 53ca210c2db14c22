/- A queue's own Push and Pop. By the verifier of shale. -/
import Derived.Test.YtaaegkjbmomjbaaDoorPoUp
import Derived.Deep.AppendLies
import Derived.Deep.RegionLaw
namespace Go.Proofs.YtaaegkjbmomjbaaDoor.Po
open Go Go.RowKit Hp
set_option linter.unusedVariables false
set_option linter.unusedSimpArgs false
theorem infoI : ∃ i, Tryd.prog.info? 64 = some i ∧ i.zero = some (.agg #[.int .i64 0, .int .i64 0]) ∧ i.size = 2 ∧ i.bytes = 16 :=
  info_parts (show (Tryd.prog.info? 64).map (fun i => (i.zero, i.size, i.bytes)) = some (some (.agg #[.int .i64 0, .int .i64 0]), 2, 16) by kernel_rfl)
theorem it_one (x : It) : ∀ u ∈ itC x, u.oneCell' = true := by
  intro u hu
  simp only [List.mem_cons, List.not_mem_nil, or_false] at hu
  rcases hu with rfl | rfl <;> rfl
theorem newIt (w w1 : World) (x : It) (h : w.alloc (.cells #[.int .i64 x.b, .int .i64 x.w] 64 (0, 0)) = w1) : w1.heap[w.heap.size]? = some (.cells #[.int .i64 x.b, .int .i64 x.w] 64 (0, 0)) ∧ Below w.heap.size w w1 ∧ w1.heap.size = w.heap.size + 1 := by
  subst h
  exact ⟨heap_alloc_new w _, (Below.refl _ _).alloc (Nat.le_refl _) _, by simp⟩
set_option maxRecDepth 100000 in
theorem assertIt (x : It) (W : World) : (Instr.typeAssert (.iface 64 (itV x)) 20 64 false).run Tryd.prog W = .ok (itV x) W := by kernel_rfl
def PushPost (w : World) (base qb : Nat) (ty : TypeId) (v : Value) (L : List It) (x : It) (e : Ending) (w' : World) : Prop := ∃ g c, e = .returned (.tuple #[]) ∧ QAt w' base qb ty (.slice (some ⟨g, 0, none⟩) (L.length + 1) c) (L ++ [x]) ∧ Tn (qbl qb v) w w' (qbl qb (.slice (some ⟨g, 0, none⟩) (L.length + 1) c))
theorem push_at {w W w9 : World} {base qb g cap : Nat} {ty : TypeId} {v : Value} {L : List It} {x : It} (Q : QAt w base qb ty v L) (b : Below w.heap.size w W)
    (hr : w9.ownsRow base 64 2 (.slice (some ⟨g, 0, none⟩) (L.length + 1) cap) (L.length + 1) (icells L ++ itC x)) (hg : W.grownBy w9 v.ownBlock) (ho : v.ownBlock = some g ∨ g = W.heap.size) :
    QAt (w9.setCell ⟨qb, 0, none⟩ (.slice (some ⟨g, 0, none⟩) (L.length + 1) cap)) base qb ty (.slice (some ⟨g, 0, none⟩) (L.length + 1) cap) (L ++ [x]) ∧ Tn (qbl qb v) w (w9.setCell ⟨qb, 0, none⟩ (.slice (some ⟨g, 0, none⟩) (L.length + 1) cap)) (qbl qb (.slice (some ⟨g, 0, none⟩) (L.length + 1) cap)) := by
  have hbl := Q.lt
  have hgb : g ≠ qb := fun e => by
    rcases ho with h | h
    · exact Q.apart (by rw [h, e])
    · have := b.size; omega
  have o2 := Only.setCell w9 ⟨qb, 0, none⟩ (.slice (some ⟨g, 0, none⟩) (L.length + 1) cap)
  have hold : ∀ k, k < w.heap.size → some k ≠ v.ownBlock → w9.heap[k]? = w.heap[k]? := fun k hk hn => (hg.block k (Nat.lt_of_lt_of_le hk b.size) hn).trans (b.block k hk)
  have hb1 : w9.heap[qb]? = _ := (hold qb hbl (Ne.symm Q.apart)).trans Q.blk
  have hs : w.heap.size ≤ w9.heap.size := Nat.le_trans b.size hg.size
  refine ⟨⟨Q.q0, heap_setCell_same _ _ 0 _ _ _ hb1, ?_, fun e => hgb (by cases e; rfl)⟩, ⟨o2.os.trans (hg.os.trans b.os), o2.tape.trans (hg.tape.trans b.tape), o2.output.trans (hg.output.trans b.output), by rw [o2.size]; exact hs, fun k hk hn => ?_, fun k hk => ?_⟩⟩
  · rw [icells_snoc, List.length_append]
    exact row_keepP hr fun k hk => by cases hk; exact o2.block g hgb
  · unfold qbl at hn
    simp only [List.mem_cons, not_or, Option.mem_toList] at hn
    exact (o2.block k hn.1).trans (hold k hk (fun e => hn.2 e.symm))
  · unfold qbl at hk ⊢
    rcases List.mem_cons.1 hk with rfl | hk
    · exact .inl (List.mem_cons_self ..)
    · have : k = g := by simpa [Value.ownBlock] using hk
      subst this
      rcases ho with h | h
      · exact .inl (List.mem_cons_of_mem _ (by rw [h]; simp))
      · right; have := b.size; omega
set_option maxHeartbeats 1000000 in
theorem qpush_any {w : World} {base qb : Nat} {ty : TypeId} {v : Value} {L : List It} (Q : QAt w base qb ty v L) (hL : L.length ≤ 1000) (hb : base ≤ w.heap.size) (x : It) :
    Calls Tryd.prog 32 #[.pointer (some ⟨qb, 0, none⟩), .iface 64 (itV x)] w (PushPost w base qb ty v L x) := by
  obtain ⟨i0, hi0, hz0, hz1, hz2⟩ := infoI
  obtain ⟨a, c, rfl, hnc, hm, _⟩ := row_sliceP Q.row
  obtain ⟨n, hn⟩ : ∃ n, n = L.length := ⟨_, rfl⟩
  have HN := Lib.hid hn
  have HQ := Lib.hid (And.intro Q hb)
  have hc := Q.cell.1
  have hf := Q.cell.2 0
  rw [← hn] at hc hL hnc
  have hc2 : ((w.alloc (.cells #[.int .i64 x.b, .int .i64 x.w] 64 (0, 0))).drew).cell? ⟨qb, 0, none⟩ = some (.slice a n c) := ((World.cell?_of_block (a := ⟨qb, 0, none⟩) (Below.heap_alloc w _ qb Q.lt)).trans hc : (w.alloc _).cell? ⟨qb, 0, none⟩ = _)
  have HO : Hid (((w.alloc (.cells #[.int .i64 x.b, .int .i64 x.w] 64 (0, 0))).drew).ownsRow base 64 2 (.slice a n c) n (icells L)) := by
    have h : (w.alloc (.cells #[.int .i64 x.b, .int .i64 x.w] 64 (0, 0))).ownsRow base _ _ _ _ _ := Q.row.alloc (.cells #[.int .i64 x.b, .int .i64 x.w] 64 (0, 0))
    rw [← hn] at h
    exact h
  have HB : Hid (Below w.heap.size w ((w.alloc (.cells #[.int .i64 x.b, .int .i64 x.w] 64 (0, 0))).drew)) := ((Below.refl w.heap.size w).alloc (Nat.le_refl _) _).drew
  have HNW : Hid (∀ j u, (itC x)[j]? = some u → ((w.alloc (.cells #[.int .i64 x.b, .int .i64 x.w] 64 (0, 0))).drew).cell? ((⟨w.heap.size, 0, none⟩ : Addr).add j) = some u) := World.news_of_block (cs := #[.int .i64 x.b, .int .i64 x.w]) (fr := (0, 0)) (t := 64) (heap_alloc_new w _)
  have HON := Lib.hid (it_one x)
  have HQ9 : Hid (∀ w9, ((w.alloc (.cells #[.int .i64 x.b, .int .i64 x.w] 64 (0, 0))).drew).grownBy w9 (Value.slice a n c).ownBlock → (∃ u, w9.cell? ⟨qb, 0, none⟩ = some u) ∧ w9.frozen? ⟨qb, 0, none⟩ = false) := fun w9 h9 => by
    have hap := HQ.out.1.apart
    rw [← HN.out] at hap
    have hlt := HQ.out.1.lt
    have hbk : w9.heap[qb]? = w.heap[qb]? := (h9.block qb (by have := HB.out.size; omega) (Ne.symm hap)).trans (HB.out.block qb hlt)
    exact ⟨⟨_, (World.cell?_of_block (a := ⟨qb, 0, none⟩) hbk).trans HQ.out.1.cell.1⟩, (World.frozen?_of_block (a := ⟨qb, 0, none⟩) hbk).trans (HQ.out.1.cell.2 0)⟩
  have hbase : base ≤ ((w.alloc (.cells #[.int .i64 x.b, .int .i64 x.w] 64 (0, 0))).drew).heap.size := Nat.le_trans hb HB.out.size
  have HBS := Lib.hid hbase
  have hta := assertIt x
  clear Q hn hb hbase
  go_enter Tryd.func32, Tryd.ntmps32
  go_region_law (refine step_append_lies _ (by rfl) _ _ _ (by rfl) base 64 i0 (.agg #[.int .i64 0, .int .i64 0]) 2 16 Tryd.underlying54 hi0 hz0 hz1 hz2 rfl (by decide) (.slice a n c) n (icells L) (by rfl) HO.out ⟨w.heap.size, 0, none⟩ 1 1 (itC x) (by rfl) rfl HNW.out HON.out (by decide) (by unfold maxLen; omega) (by omega) HBS.out (w.heap.size + 1) (by simp) ?_; intro g1 cap1 w9 hown9 hg9 hor9 hlt9; obtain ⟨⟨q2, q3⟩, q4⟩ := HQ9.out w9 hg9)
  all_goals
    have HAp : Hid (QAt (w9.setCell ⟨qb, 0, none⟩ (.slice (some ⟨g1, 0, none⟩) (n + 1) cap1)) base qb ty (.slice (some ⟨g1, 0, none⟩) (n + 1) cap1) (L ++ [x]) ∧ Tn (qbl qb (.slice a n c)) w (w9.setCell ⟨qb, 0, none⟩ (.slice (some ⟨g1, 0, none⟩) (n + 1) cap1)) (qbl qb (.slice (some ⟨g1, 0, none⟩) (n + 1) cap1))) := by
      have hh := HN.out
      subst hh
      exact push_at HQ.out.1 HB.out hown9 hg9 (by simpa using hor9)
    clear hown9 hg9 hor9 hlt9 q2 q3 q4 HO HB HNW HON HQ9 HBS hc hc2 hf hta
    go_wp2_with fail
    go_end0
    rw [← HN.out]
    exact ⟨g1, cap1, rfl, by rw [← HN.out]; exact HAp.out.1, by rw [← HN.out]; exact HAp.out.2⟩
def PopPost (w : World) (base qb : Nat) (ty : TypeId) (g c n : Nat) (L : List It) (e : Ending) (w' : World) : Prop := e = .returned (.iface 64 (itV (L[n]!))) ∧ QAt w' base qb ty (.slice (some ⟨g, 0, none⟩) n c) (L.take n) ∧ Tn [qb, g] w w' [qb, g]
set_option maxHeartbeats 1000000 in
theorem qpop_any {w : World} {base qb : Nat} {ty : TypeId} {g N c n : Nat} {L : List It} (H : HpAt w base qb ty g N c L) (hn : N = n + 1) (hN : N ≤ 1000) :
    Calls Tryd.prog 66 #[.pointer (some ⟨qb, 0, none⟩)] w (PopPost w base qb ty g c n L) := by
  have HH := Lib.hid (And.intro H (And.intro hn hN))
  obtain ⟨c0, c1⟩ := H.item (i := n) (by omega)
  obtain ⟨x, hx⟩ : ∃ x, x = L[n]! := ⟨_, rfl⟩
  rw [← hx] at c0 c1
  have HXX := Lib.hid hx
  clear hx
  have k0 := H.q.cell.1
  have k1 := H.q.cell.2 0
  have t1 : (N : Int) - 1 = (n : Int) := by omega
  have t2 : n < N := by omega
  have t3 : (0 : Int) ≤ (n : Int) := by omega
  have t4 : (n : Int) ≤ 1000 := by omega
  have t5 : (n : Int) < (N : Int) := by omega
  have t6 : n ≤ N := by omega
  have hcN : N ≤ c := by
    obtain ⟨a, c', e, h1, _⟩ := row_sliceP H.q.row
    cases e
    rw [H.len] at h1; exact h1
  clear H hn hN
  go_enter Tryd.func66, Tryd.ntmps66
  have t7 : n ≤ c := by omega
  go_upto_region 3 with (fail)
  generalize hw : w.alloc (.cells #[.int .i64 x.b, .int .i64 x.w] 64 (0, 0)) = w1
  obtain ⟨J1, b1, s1⟩ := newIt w w1 x hw
  clear hw s1
  obtain ⟨zb, hzb⟩ : ∃ zb, zb = w.heap.size := ⟨_, rfl⟩
  rw [← hzb] at J1 ⊢
  have H1 := HH.out.1.below b1
  have k0' := H1.q.cell.1
  have k1' := H1.q.cell.2 0
  have hqz : qb ≠ zb := by have := HH.out.1.q.lt; omega
  have hQ2 : QAt (w1.setCell ⟨qb, 0, none⟩ (.slice (some ⟨g, 0, none⟩) n c)) base qb ty (.slice (some ⟨g, 0, none⟩) n c) (L.take n) := by
    have hl := H1.len
    have hN := HH.out.2.1
    have hr := H1.q.row
    refine ⟨H1.q.q0, heap_setCell_same _ _ 0 _ _ _ H1.q.blk, ?_, fun e => H1.ne (by cases e; rfl)⟩
    have hlt : (L.take n).length = n := by simp; omega
    rw [hlt]
    refine row_keepP (w := w1) ?_ fun k hk => by cases hk; exact (Only.setCell w1 ⟨qb, 0, none⟩ _).block g H1.ne
    refine ⟨by rw [icells_len, hlt], ?_⟩
    rcases hr.2 with ⟨h0, _⟩ | ⟨g', cap', cur, hv, hbg, hh, hnc, hm, hs, ht⟩
    · cases h0
    · cases hv
      refine .inr ⟨g, c, cur, rfl, hbg, hh, by omega, hm, hs, ?_⟩
      rw [icells_take, ← ht, List.take_take, Nat.min_eq_left (by omega)]
  have hT : Tn [qb, g] w (w1.setCell ⟨qb, 0, none⟩ (.slice (some ⟨g, 0, none⟩) n c)) [qb, g] := (Tn.below b1).trans (Tn.setCell w1 _ _ (by simp))
  have J2 : (w1.setCell ⟨qb, 0, none⟩ (.slice (some ⟨g, 0, none⟩) n c)).heap[zb]? = _ := ((Only.setCell w1 ⟨qb, 0, none⟩ (.slice (some ⟨g, 0, none⟩) n c)).block zb (Ne.symm hqz)).trans J1
  have HF : Hid (PopPost w base qb ty g c n L (.returned (.iface 64 (itV x))) (w1.setCell ⟨qb, 0, none⟩ (.slice (some ⟨g, 0, none⟩) n c))) := ⟨by rw [HXX.out], hQ2, hT⟩
  have c3 : (w1.setCell ⟨qb, 0, none⟩ (.slice (some ⟨g, 0, none⟩) n c)).cell? ⟨zb, 0, none⟩ = some (.int .i64 x.b) := by unfold World.cell?; simp only; rw [J2]; rfl
  have c4 : (w1.setCell ⟨qb, 0, none⟩ (.slice (some ⟨g, 0, none⟩) n c)).cell? ⟨zb, 1, none⟩ = some (.int .i64 x.w) := by unfold World.cell?; simp only; rw [J2]; rfl
  clear hQ2 hT J2 H1 J1 b1 k0 k1 c0 c1 hzb
  go_upto_region 4 with (fail)
  generalize w1.setCell ⟨qb, 0, none⟩ (.slice (some ⟨g, 0, none⟩) n c) = w2 at HF c3 c4 ⊢
  go_wp2_with fail
  go_ret
  exact HF.out
end Go.Proofs.YtaaegkjbmomjbaaDoor.Po
