/- A table's Set. By the verifier of shale. -/
import Derived.Test.YtpbckjagiebmjaaDoorTbDrop
namespace Go.Proofs.YtpbckjagiebmjaaDoor.Tb
open Go Go.RowKit
set_option linter.unusedVariables false
set_option linter.unusedSimpArgs false
theorem newMe (w W : World) (m0 m1 m2 m3 m4 m5 : Int) (h : w.alloc (.cells #[.int .i64 m0, .int .i64 m1, .int .i64 m2, .int .i64 m3, .int .i64 m4, .int .i64 m5] 36 (0, 0)) = W) : W.heap[w.heap.size]? = some (.cells #[.int .i64 m0, .int .i64 m1, .int .i64 m2, .int .i64 m3, .int .i64 m4, .int .i64 m5] 36 (0, 0)) ∧ Below w.heap.size w W := by
  subst h
  exact ⟨heap_alloc_new w _, (Below.refl _ _).alloc (Nat.le_refl _) _⟩
theorem me_cells {w : World} {g : Nat} {m0 m1 m2 m3 m4 m5 : Int} (e : w.heap[g]? = some (.cells #[.int .i64 m0, .int .i64 m1, .int .i64 m2, .int .i64 m3, .int .i64 m4, .int .i64 m5] 36 (0, 0))) : w.cell? ⟨g, 0, none⟩ = some (.int .i64 m0) ∧ w.cell? ⟨g, 1, none⟩ = some (.int .i64 m1) ∧ w.cell? ⟨g, 2, none⟩ = some (.int .i64 m2) ∧ w.cell? ⟨g, 3, none⟩ = some (.int .i64 m3) ∧ w.cell? ⟨g, 4, none⟩ = some (.int .i64 m4) ∧ w.cell? ⟨g, 5, none⟩ = some (.int .i64 m5) := by
  refine ⟨?_, ?_, ?_, ?_, ?_, ?_⟩
  all_goals (unfold World.cell?; simp only; rw [e]; rfl)
theorem wf_key {k : Int} (h0 : 0 ≤ k) (h1 : k ≤ 1073741824) : (Lit.int .i64 k).wf = true := by
  simp [Lit.wf, IntKind.min, IntKind.max, IntKind.signed, IntKind.bits]
  omega
/-- what Set works on: the table, and three boxes of its own. -/
def SetI (w : World) (base tb mb ob B P cO : Nat) (kb : Nat → Nat) (kf : Nat → Nat → Int) (m : Int → Option Sl) (cnt nb xb yb rb : Nat) (b p m0 m1 m2 m3 m4 m5 : Int) (W : World) : Prop :=
  TabAt W base tb mb ob B P cO kb kf m cnt nb ∧ W.heap[xb]? = some (.cells #[.int .i64 b, .int .i64 p] 24 (0, 0)) ∧ W.heap[yb]? = some (.cells #[.int .i64 m0, .int .i64 m1, .int .i64 m2, .int .i64 m3, .int .i64 m4, .int .i64 m5] 36 (0, 0)) ∧ W.heap[rb]? = some (.cells #[.int .i64 0, .int .i64 0] 24 (0, 0)) ∧ Tn (mb :: (List.range B).map kb) w W (mb :: (List.range B).map kb)
theorem SetI.below {w W W' : World} {base tb mb ob B P cO : Nat} {kb : Nat → Nat} {kf : Nat → Nat → Int} {m : Int → Option Sl} {cnt nb xb yb rb : Nat} {b p m0 m1 m2 m3 m4 m5 : Int} (h : SetI w base tb mb ob B P cO kb kf m cnt nb xb yb rb b p m0 m1 m2 m3 m4 m5 W) (q : Below W.heap.size W W') : SetI w base tb mb ob B P cO kb kf m cnt nb xb yb rb b p m0 m1 m2 m3 m4 m5 W' :=
  ⟨h.1.below q, (q.block _ (lt_of_block h.2.1)).trans h.2.1, (q.block _ (lt_of_block h.2.2.1)).trans h.2.2.1, (q.block _ (lt_of_block h.2.2.2.1)).trans h.2.2.2.1, h.2.2.2.2.trans (Tn.below q)⟩
/-- a turn of the table's own blocks. -/
theorem SetI.turn {w W W' : World} {base tb mb ob B P cO : Nat} {kb : Nat → Nat} {kf kf' : Nat → Nat → Int} {m m' : Int → Option Sl} {cnt nb cnt' nb' xb yb rb : Nat} {b p m0 m1 m2 m3 m4 m5 : Int} (h : SetI w base tb mb ob B P cO kb kf m cnt nb xb yb rb b p m0 m1 m2 m3 m4 m5 W) (hn : ∀ z, w.heap.size ≤ z → z ∉ mb :: (List.range B).map kb) (hx : w.heap.size ≤ xb ∧ w.heap.size ≤ yb ∧ w.heap.size ≤ rb)
    (T : TabAt W' base tb mb ob B P cO kb kf' m' cnt' nb') (t : Tn (mb :: (List.range B).map kb) W W' (mb :: (List.range B).map kb)) : SetI w base tb mb ob B P cO kb kf' m' cnt' nb' xb yb rb b p m0 m1 m2 m3 m4 m5 W' :=
  ⟨T, (t.same xb (lt_of_block h.2.1) (hn xb hx.1)).trans h.2.1, (t.same yb (lt_of_block h.2.2.1) (hn yb hx.2.1)).trans h.2.2.1, (t.same rb (lt_of_block h.2.2.2.1) (hn rb hx.2.2)).trans h.2.2.2.1, h.2.2.2.2.trans t⟩
theorem tab_blocks {w : World} {base tb mb ob B P cO : Nat} {kb : Nat → Nat} {kf : Nat → Nat → Int} {m : Int → Option Sl} {cnt nb : Nat} (T : TabAt w base tb mb ob B P cO kb kf m cnt nb) : ∀ z, w.heap.size ≤ z → z ∉ mb :: (List.range B).map kb := by
  intro z hz hm
  rcases List.mem_cons.1 hm with rfl | hm
  · have := T.map.lt; omega
  · obtain ⟨c, hc, rfl⟩ := List.mem_map.1 hm
    have := lt_of_block (T.rows c (List.mem_range.1 hc))
    omega
section
variable {w : World} {base tb mb ob B P cO : Nat} {kb : Nat → Nat} {kf : Nat → Nat → Int} {m : Int → Option Sl} {cnt nb : Nat}
/-- what Set leaves. -/
def SetAt (w : World) (base tb mb ob B P cO : Nat) (kb : Nat → Nat) (kf : Nat → Nat → Int) (m : Int → Option Sl) (cnt nb : Nat) (w' : World) : Prop := TabAt w' base tb mb ob B P cO kb kf m cnt nb ∧ Tn (mb :: (List.range B).map kb) w w' (mb :: (List.range B).map kb)
theorem setAt_of {w w1 w2 : World} {base tb mb ob B P cO rb : Nat} {kb : Nat → Nat} {kf : Nat → Nat → Int} {m : Int → Option Sl} {cnt nb : Nat} (T : TabAt w1 base tb mb ob B P cO kb kf m cnt nb) (t : Tn (mb :: (List.range B).map kb) w w1 (mb :: (List.range B).map kb)) (o : Only rb w1 w2) (hr : w.heap.size ≤ rb) (hold : tb < w.heap.size ∧ ob < w.heap.size ∧ mb < w.heap.size ∧ ∀ b, b < B → kb b < w.heap.size) : SetAt w base tb mb ob B P cO kb kf m cnt nb w2 := by
  obtain ⟨h1, h2, h3, h4⟩ := hold
  refine ⟨⟨(o.block tb (by omega)).trans T.blk, T.map.keep (o.block mb (by omega)), fun b hb => (cell_heapT (o.block ob (by omega))).trans (T.outer b hb), fun b hb => (o.block (kb b) (by have := h4 b hb; omega)).trans (T.rows b hb), T.inj, T.apart, T.pos, T.here, T.there⟩, ⟨o.os.trans t.os, o.tape.trans t.tape, o.output.trans t.output, by rw [o.size]; exact t.size, fun k hk hn => (o.block k (by omega)).trans (t.same k hk hn), fun _ h => .inl h⟩⟩
theorem tab_old {w : World} {base tb mb ob B P cO : Nat} {kb : Nat → Nat} {kf : Nat → Nat → Int} {m : Int → Option Sl} {cnt nb : Nat} (T : TabAt w base tb mb ob B P cO kb kf m cnt nb) : tb < w.heap.size ∧ ob < w.heap.size ∧ mb < w.heap.size ∧ ∀ b, b < B → kb b < w.heap.size :=
  ⟨T.lt, World.block_lt_of_cell? w _ (T.outer 0 T.pos.1), T.map.lt, fun b hb => lt_of_block (T.rows b hb)⟩
set_option maxRecDepth 100000 in
set_option maxHeartbeats 2000000 in
theorem set_new (T : TabAt w base tb mb ob B P cO kb kf m cnt nb) {key : Int} (h0 : 0 ≤ key) (h1 : key ≤ 1073741824) (hnb : nb < maxLen) {b p : Nat} (hbB : b < B) (hpP : p < P) (m0 m1 m2 m3 m4 m5 : Int) (hg : m key = none) (hk : kf b p = -1) :
    Calls Tryd.prog 10 #[.pointer (some ⟨tb, 0, none⟩), .int .i64 key, .agg #[.int .i64 (b : Int), .int .i64 (p : Int)], .agg #[.int .i64 m0, .int .i64 m1, .int .i64 m2, .int .i64 m3, .int .i64 m4, .int .i64 m5]] w fun e w' => e = .returned (.tuple #[.agg #[.int .i64 zSl.b, .int .i64 zSl.p], .bool false, .nilIface]) ∧ SetAt w base tb mb ob B P cO kb (kfS kf b p key) (mS m key ⟨key, b, p, m0, m1, m2, m3, m4, m5⟩) (cnt + 1) (nb + 1) w' := by
  have HT := Lib.hid (And.intro T (And.intro hbB (And.intro hpP (And.intro (And.intro h0 h1) (And.intro hnb (And.intro hg hk))))))
  have hP := T.pos
  obtain ⟨q1, q2, q3, q4, q5, q6⟩ := hP
  unfold maxLen at q6
  have y0 : (0 : Int) ≤ (b : Int) := by omega
  have y1 : (b : Int) < (B : Int) := by omega
  have y2 : (0 : Int) ≤ (p : Int) := by omega
  have y3 : (p : Int) < (P : Int) := by omega
  
  have HNB := Lib.hid (tab_blocks T)
  clear T hbB hpP hnb
  clear hg hk
  go_enter Tryd.func10, Tryd.ntmps10
  go_upto_region 1 with (fail)
  generalize hw : w.alloc (.cells #[.int .i64 (b : Int), .int .i64 (p : Int)] 24 (0, 0)) = w1
  obtain ⟨J1, b1⟩ := newPl w w1 (b : Int) (p : Int) hw
  have hs1 : w1.heap.size = w.heap.size + 1 := by rw [← hw]; simp
  clear hw
  rw [← hs1]
  generalize hw : w1.alloc (.cells #[.int .i64 m0, .int .i64 m1, .int .i64 m2, .int .i64 m3, .int .i64 m4, .int .i64 m5] 36 (0, 0)) = w2
  obtain ⟨J2, b2⟩ := newMe w1 w2 m0 m1 m2 m3 m4 m5 hw
  have hs2 : w2.heap.size = w1.heap.size + 1 := by rw [← hw]; simp
  clear hw
  rw [← hs2]
  generalize hw : w2.alloc (.cells #[.int .i64 0, .int .i64 0] 24 (0, 0)) = w3
  obtain ⟨J3, b3⟩ := newPl w2 w3 0 0 hw
  clear hw
  have b13 := b2.trans (b3.mono b2.size)
  have b03 := b1.trans (b13.mono b1.size)
  obtain ⟨xb, hxb⟩ : ∃ xb, xb = w.heap.size := ⟨_, rfl⟩
  obtain ⟨yb, hyb⟩ : ∃ yb, yb = w1.heap.size := ⟨_, rfl⟩
  obtain ⟨rb, hrb⟩ : ∃ rb, rb = w2.heap.size := ⟨_, rfl⟩
  have HI : Hid (SetI w base tb mb ob B P cO kb kf m cnt nb xb yb rb (b : Int) (p : Int) m0 m1 m2 m3 m4 m5 w3) := by
    refine ⟨HT.out.1.below b03, ?_, ?_, ?_, Tn.below b03⟩
    · rw [hxb]; exact (b13.block _ (lt_of_block J1)).trans J1
    · rw [hyb]; exact (b3.block _ (lt_of_block J2)).trans J2
    · rw [hrb]; exact J3
  have HXY : Hid (w.heap.size ≤ xb ∧ w.heap.size ≤ yb ∧ w.heap.size ≤ rb) := ⟨by omega, by omega, by omega⟩
  rw [← hxb, ← hyb, ← hrb]
  clear J1 J2 J3 b1 b2 b3 b13 b03 hs1 hs2 hxb hyb hrb
  have z0 : decide (key < 0) = false := decide_eq_false (by omega)
  have z1 : decide ((1073741824 : Int) < key) = false := decide_eq_false (by omega)
  obtain ⟨x0, x1, _⟩ := pl_cells HI.out.2.1
  go_wp2_with fail
  refine (is_yes HI.out.1 HT.out.2.1 HT.out.2.2.1).mono ?_
  rintro e w4 ⟨rfl, b4⟩
  replace HI := Lib.hid (HI.out.below b4)
  clear b4 x0 x1 z0 z1
  obtain ⟨x0, x1, _⟩ := pl_cells HI.out.2.1
  obtain ⟨k0, k1, _⟩ := HI.out.1.cells
  have k2 := HI.out.1.outer b HT.out.2.1
  have k3 := (HI.out.1.page HT.out.2.1 HT.out.2.2.1).1
  rw [HT.out.2.2.2.2.2.2] at k3
  go_upto_region 3 with (fail)
  go_quiet (fail)
  have bq := (Drawn.mk w4 nq).below w4.heap.size
  replace HI := Lib.hid (HI.out.below bq)
  generalize w4.drewN nq = w5 at HI ⊢
  clear bq x0 x1 k0 k1 k2 k3
  have hl := HI.out.1.map.look (wf_key HT.out.2.2.2.1.1 HT.out.2.2.2.1.2)
  obtain ⟨k0, _, _⟩ := HI.out.1.cells
  rw [HT.out.2.2.2.2.2.1] at hl
  have hl' : (Instr.lookup 69 (.map (some mb)) (.int .i64 key) true).run Tryd.prog w5 = .ok (.tuple #[.agg #[.int .i64 zSl.k, .int .i64 zSl.b, .int .i64 zSl.p, .int .i64 zSl.m0, .int .i64 zSl.m1, .int .i64 zSl.m2, .int .i64 zSl.m3, .int .i64 zSl.m4, .int .i64 zSl.m5], .bool false]) w5 := hl
  clear hl
  go_upto_region 7 with (fail)
  generalize hw : w5.alloc (.cells #[.int .i64 zSl.k, .int .i64 zSl.b, .int .i64 zSl.p, .int .i64 zSl.m0, .int .i64 zSl.m1, .int .i64 zSl.m2, .int .i64 zSl.m3, .int .i64 zSl.m4, .int .i64 zSl.m5] 47 (0, 0)) = w6
  obtain ⟨KZ, b6⟩ := newSl w5 w6 zSl hw
  clear hw k0
  obtain ⟨zb, hzb⟩ : ∃ zb, zb = w5.heap.size := ⟨_, rfl⟩
  have HN : Hid (w.heap.size ≤ zb ∧ ∀ z, w.heap.size ≤ z → z ∉ mb :: (List.range B).map kb) := ⟨by rw [hzb]; exact HI.out.2.2.2.2.size, HNB.out⟩
  rw [← hzb] at KZ ⊢
  clear hzb
  replace HI := Lib.hid (HI.out.below b6)
  clear b6
  go_wp2_with fail
  refine (drop_no HI.out.1 (wf_key HT.out.2.2.2.1.1 HT.out.2.2.2.1.2) HT.out.2.2.2.2.2.1).mono ?_
  rintro e w7 ⟨rfl, b7⟩
  replace KZ := (b7.block _ (lt_of_block KZ)).trans KZ
  replace HI := Lib.hid (HI.out.below b7)
  have HG : Hid (m key = none ∧ kf b p = -1) := HT.out.2.2.2.2.2
  clear b7
  go_upto_region 8 with (fail)
  refine wp_region_still_tail 9 (by kernel_rfl) (by kernel_rfl) ?_
  simp only [List.take_succ_cons, List.take_zero, List.drop_succ_cons, List.drop_zero]
  change wpStill _ _ w7.drew (fun a' => wpList _ _ _ _ a' w7.drew) _ _
  have bd : Below w7.heap.size w7 w7.drew := (Drawn.mk w7 1).below w7.heap.size
  replace HI := Lib.hid (HI.out.below bd)
  have KZ8 := (bd.block _ (lt_of_block KZ)).trans KZ
  generalize w7.drew = w8 at HI KZ8 ⊢
  clear bd KZ
  obtain ⟨x0, x1, _⟩ := pl_cells HI.out.2.1
  obtain ⟨v0, v1, v2, v3, v4, v5⟩ := me_cells HI.out.2.2.1
  obtain ⟨k0, k1, _⟩ := HI.out.1.cells
  iterate 9 still_step
  refine wpStill_nil ?_
  obtain ⟨w9, hput, hm9, ht9⟩ := HI.out.1.map.put HT.out.2.2.2.2.1 (wf_key HT.out.2.2.2.1.1 HT.out.2.2.2.1.2) HG.out.1 ⟨key, b, p, m0, m1, m2, m3, m4, m5⟩
  have hput' : (Instr.mapUpdate 69 (.map (some mb)) (.int .i64 key) (.agg #[.int .i64 key, .int .i64 (b : Int), .int .i64 (p : Int), .int .i64 m0, .int .i64 m1, .int .i64 m2, .int .i64 m3, .int .i64 m4, .int .i64 m5])).run Tryd.prog w8 = .ok () w9 := hput
  have KZ9 : w9.heap[zb]? = some (.cells #[.int .i64 zSl.k, .int .i64 zSl.b, .int .i64 zSl.p, .int .i64 zSl.m0, .int .i64 zSl.m1, .int .i64 zSl.m2, .int .i64 zSl.m3, .int .i64 zSl.m4, .int .i64 zSl.m5] 47 (0, 0)) := (ht9.2.2.2.2 zb (fun e => HN.out.2 zb HN.out.1 (by rw [e]; exact List.mem_cons_self ..))).trans KZ8
  have H9 := Lib.hid (And.intro hm9 (And.intro ht9 KZ9))
  clear hput hm9 ht9 KZ8 KZ9
  go_upto_region 9 with (fail)
  clear hput' x0 x1 v0 v1 v2 v3 v4 v5 k0 k1
  refine wp_region_still_tail 12 (by kernel_rfl) (by kernel_rfl) ?_
  simp only [List.take_succ_cons, List.take_zero, List.drop_succ_cons, List.drop_zero]
  change wpStill _ _ w9.drew (fun a' => wpList _ _ _ _ a' w9.drew) _ _
  have hz9 : ∀ z, z ≠ mb → w9.drew.heap[z]? = w8.heap[z]? := fun z hz => H9.out.2.1.2.2.2.2 z hz
  have ht10 : Turned w8 w9.drew mb := H9.out.2.1
  have hm10 : MapAt w9.drew mb (mS m key ⟨key, b, p, m0, m1, m2, m3, m4, m5⟩) (cnt + 1) (nb + 1) := H9.out.1
  have KZ10 : w9.drew.heap[zb]? = some (.cells #[.int .i64 zSl.k, .int .i64 zSl.b, .int .i64 zSl.p, .int .i64 zSl.m0, .int .i64 zSl.m1, .int .i64 zSl.m2, .int .i64 zSl.m3, .int .i64 zSl.m4, .int .i64 zSl.m5] 47 (0, 0)) := H9.out.2.2
  generalize w9.drew = w10 at hz9 ht10 hm10 KZ10 ⊢
  have ap := HI.out.1.apart
  obtain ⟨x0, x1, _⟩ := pl_cells ((hz9 xb (fun e => HN.out.2 xb HXY.out.1 (by rw [e]; exact List.mem_cons_self ..))).trans HI.out.2.1)
  obtain ⟨_, k1, _⟩ := HI.out.1.cells
  have k1' := (cell_heapT (hz9 tb (Ne.symm ap.2.2.2.1))).trans k1
  have k2' := (cell_heapT (hz9 ob ap.2.2.2.2.2.1)).trans (HI.out.1.outer b HT.out.2.1)
  have hkb := (ap.2.2.2.2.2.2 b HT.out.2.1).2.2.1
  have hr : Blk64 w10 (kb b) ((List.range P).map (kf b)) := (hz9 (kb b) hkb).trans (HI.out.1.rows b HT.out.2.1)
  have k3 := hr.cell (i := p) (by simp; exact HT.out.2.2.1)
  have k4 := hr.free p
  have hS := HI.out.1.stored HG.out.1 rfl HT.out.2.2.2.1.1 HT.out.2.2.2.1.2 rfl rfl HT.out.2.1 HT.out.2.2.1 HG.out.2 hm10 ht10
  have H10 := Lib.hid (And.intro (HI.out.turn HN.out.2 HXY.out hS.1 hS.2) ((Only.setCell w10 ⟨kb b, p, none⟩ (.int .i64 key)).block zb (fun e => HN.out.2 zb HN.out.1 (by show zb ∈ _; rw [e]; exact List.mem_cons_of_mem _ (List.mem_map.2 ⟨b, List.mem_range.2 HT.out.2.1, rfl⟩)))))
  have HZ10 := Lib.hid KZ10
  clear hz9 ht10 hm10 KZ10 ap k1 hkb hr hS H9 HI
  iterate 12 still_step
  refine wpStill_nil ?_
  go_upto_region 10 with (fail)
  generalize w10.setCell ⟨kb b, p, none⟩ (.int .i64 key) = w11 at H10 ⊢
  clear x0 x1 k1' k2' k3 k4
  obtain ⟨_, _, _, r3, t3⟩ := H10.out.1
  have z3 : w11.heap[zb]? = some (.cells #[.int .i64 zSl.k, .int .i64 zSl.b, .int .i64 zSl.p, .int .i64 zSl.m0, .int .i64 zSl.m1, .int .i64 zSl.m2, .int .i64 zSl.m3, .int .i64 zSl.m4, .int .i64 zSl.m5] 47 (0, 0)) := H10.out.2.trans HZ10.out
  obtain ⟨c1, c2⟩ := sl_cells (s := zSl) z3
  obtain ⟨r0, r1, rf⟩ := pl_cells r3
  have f0 := rf 0
  have f1 := rf 1
  have hR : ((w11.setCell ⟨rb, 0, none⟩ (.int .i64 zSl.b)).setCell ⟨rb, 1, none⟩ (.int .i64 zSl.p)).heap[rb]? = some (.cells #[.int .i64 zSl.b, .int .i64 zSl.p] 24 (0, 0)) := heap_setCell_same _ _ 1 _ _ _ (heap_setCell_same _ _ 0 _ _ _ r3)
  have oR : Only rb w11 ((w11.setCell ⟨rb, 0, none⟩ (.int .i64 zSl.b)).setCell ⟨rb, 1, none⟩ (.int .i64 zSl.p)) := (Only.setCell w11 ⟨rb, 0, none⟩ _).trans (Only.setCell _ ⟨rb, 1, none⟩ _)
  have HF : Hid (SetAt w base tb mb ob B P cO kb (kfS kf b p key) (mS m key ⟨key, b, p, m0, m1, m2, m3, m4, m5⟩) (cnt + 1) (nb + 1) ((w11.setCell ⟨rb, 0, none⟩ (.int .i64 zSl.b)).setCell ⟨rb, 1, none⟩ (.int .i64 zSl.p))) := setAt_of H10.out.1.1 t3 oR HXY.out.2.2 (tab_old HT.out.1)
  have HR := Lib.hid hR
  clear r3 z3 rf hR oR t3 H10 HZ10
  go_wp2_with fail
  obtain ⟨s0, s1, _⟩ := pl_cells HR.out
  have hF := HF.out
  generalize ((w11.setCell ⟨rb, 0, none⟩ (.int .i64 zSl.b)).setCell ⟨rb, 1, none⟩ (.int .i64 zSl.p)) = w12 at s0 s1 hF ⊢
  exact bodyPost_ret (v := .tuple #[.agg #[.int .i64 zSl.b, .int .i64 zSl.p], .bool false, .nilIface]) (by simp [results, Tryd.results10, go_sem, s0, s1]) rfl ⟨rfl, hF⟩
set_option maxRecDepth 100000 in
set_option maxHeartbeats 2000000 in
theorem set_hadF (T : TabAt w base tb mb ob B P cO kb kf m cnt nb) {key : Int} (h0 : 0 ≤ key) (h1 : key ≤ 1073741824) (hnb : nb < maxLen) {b p : Nat} (hbB : b < B) (hpP : p < P) (m0 m1 m2 m3 m4 m5 : Int) {s : Sl} (hg : m key = some s) (hk : kf b p = -1) :
    Calls Tryd.prog 10 #[.pointer (some ⟨tb, 0, none⟩), .int .i64 key, .agg #[.int .i64 (b : Int), .int .i64 (p : Int)], .agg #[.int .i64 m0, .int .i64 m1, .int .i64 m2, .int .i64 m3, .int .i64 m4, .int .i64 m5]] w fun e w' => e = .returned (.tuple #[.agg #[.int .i64 s.b, .int .i64 s.p], .bool true, .nilIface]) ∧ SetAt w base tb mb ob B P cO kb (kfS (kfD kf s.b.toNat s.p.toNat) b p key) (mS (mD m key) key ⟨key, b, p, m0, m1, m2, m3, m4, m5⟩) ((cnt - 1) + 1) (nb + 1) w' := by
  have HT := Lib.hid (And.intro T (And.intro hbB (And.intro hpP (And.intro (And.intro h0 h1) (And.intro hnb (And.intro hg hk))))))
  have hP := T.pos
  obtain ⟨q1, q2, q3, q4, q5, q6⟩ := hP
  unfold maxLen at q6
  have y0 : (0 : Int) ≤ (b : Int) := by omega
  have y1 : (b : Int) < (B : Int) := by omega
  have y2 : (0 : Int) ≤ (p : Int) := by omega
  have y3 : (p : Int) < (P : Int) := by omega
  
  have HNB := Lib.hid (tab_blocks T)
  clear T hbB hpP hnb
  clear hg hk
  go_enter Tryd.func10, Tryd.ntmps10
  go_upto_region 1 with (fail)
  generalize hw : w.alloc (.cells #[.int .i64 (b : Int), .int .i64 (p : Int)] 24 (0, 0)) = w1
  obtain ⟨J1, b1⟩ := newPl w w1 (b : Int) (p : Int) hw
  have hs1 : w1.heap.size = w.heap.size + 1 := by rw [← hw]; simp
  clear hw
  rw [← hs1]
  generalize hw : w1.alloc (.cells #[.int .i64 m0, .int .i64 m1, .int .i64 m2, .int .i64 m3, .int .i64 m4, .int .i64 m5] 36 (0, 0)) = w2
  obtain ⟨J2, b2⟩ := newMe w1 w2 m0 m1 m2 m3 m4 m5 hw
  have hs2 : w2.heap.size = w1.heap.size + 1 := by rw [← hw]; simp
  clear hw
  rw [← hs2]
  generalize hw : w2.alloc (.cells #[.int .i64 0, .int .i64 0] 24 (0, 0)) = w3
  obtain ⟨J3, b3⟩ := newPl w2 w3 0 0 hw
  clear hw
  have b13 := b2.trans (b3.mono b2.size)
  have b03 := b1.trans (b13.mono b1.size)
  obtain ⟨xb, hxb⟩ : ∃ xb, xb = w.heap.size := ⟨_, rfl⟩
  obtain ⟨yb, hyb⟩ : ∃ yb, yb = w1.heap.size := ⟨_, rfl⟩
  obtain ⟨rb, hrb⟩ : ∃ rb, rb = w2.heap.size := ⟨_, rfl⟩
  have HI : Hid (SetI w base tb mb ob B P cO kb kf m cnt nb xb yb rb (b : Int) (p : Int) m0 m1 m2 m3 m4 m5 w3) := by
    refine ⟨HT.out.1.below b03, ?_, ?_, ?_, Tn.below b03⟩
    · rw [hxb]; exact (b13.block _ (lt_of_block J1)).trans J1
    · rw [hyb]; exact (b3.block _ (lt_of_block J2)).trans J2
    · rw [hrb]; exact J3
  have HXY : Hid (w.heap.size ≤ xb ∧ w.heap.size ≤ yb ∧ w.heap.size ≤ rb) := ⟨by omega, by omega, by omega⟩
  rw [← hxb, ← hyb, ← hrb]
  clear J1 J2 J3 b1 b2 b3 b13 b03 hs1 hs2 hxb hyb hrb
  have z0 : decide (key < 0) = false := decide_eq_false (by omega)
  have z1 : decide ((1073741824 : Int) < key) = false := decide_eq_false (by omega)
  obtain ⟨x0, x1, _⟩ := pl_cells HI.out.2.1
  go_wp2_with fail
  refine (is_yes HI.out.1 HT.out.2.1 HT.out.2.2.1).mono ?_
  rintro e w4 ⟨rfl, b4⟩
  replace HI := Lib.hid (HI.out.below b4)
  clear b4 x0 x1 z0 z1
  obtain ⟨x0, x1, _⟩ := pl_cells HI.out.2.1
  obtain ⟨k0, k1, _⟩ := HI.out.1.cells
  have k2 := HI.out.1.outer b HT.out.2.1
  have k3 := (HI.out.1.page HT.out.2.1 HT.out.2.2.1).1
  rw [HT.out.2.2.2.2.2.2] at k3
  go_upto_region 3 with (fail)
  go_quiet (fail)
  have bq := (Drawn.mk w4 nq).below w4.heap.size
  replace HI := Lib.hid (HI.out.below bq)
  generalize w4.drewN nq = w5 at HI ⊢
  clear bq x0 x1 k0 k1 k2 k3
  have hl := HI.out.1.map.look (wf_key HT.out.2.2.2.1.1 HT.out.2.2.2.1.2)
  obtain ⟨k0, _, _⟩ := HI.out.1.cells
  rw [HT.out.2.2.2.2.2.1] at hl
  have hl' : (Instr.lookup 69 (.map (some mb)) (.int .i64 key) true).run Tryd.prog w5 = .ok (.tuple #[.agg #[.int .i64 s.k, .int .i64 s.b, .int .i64 s.p, .int .i64 s.m0, .int .i64 s.m1, .int .i64 s.m2, .int .i64 s.m3, .int .i64 s.m4, .int .i64 s.m5], .bool true]) w5 := hl
  clear hl
  go_upto_region 7 with (fail)
  generalize hw : w5.alloc (.cells #[.int .i64 s.k, .int .i64 s.b, .int .i64 s.p, .int .i64 s.m0, .int .i64 s.m1, .int .i64 s.m2, .int .i64 s.m3, .int .i64 s.m4, .int .i64 s.m5] 47 (0, 0)) = w6
  obtain ⟨KZ, b6⟩ := newSl w5 w6 s hw
  clear hw k0
  obtain ⟨zb, hzb⟩ : ∃ zb, zb = w5.heap.size := ⟨_, rfl⟩
  have HN : Hid (w.heap.size ≤ zb ∧ ∀ z, w.heap.size ≤ z → z ∉ mb :: (List.range B).map kb) := ⟨by rw [hzb]; exact HI.out.2.2.2.2.size, HNB.out⟩
  rw [← hzb] at KZ ⊢
  clear hzb
  replace HI := Lib.hid (HI.out.below b6)
  clear b6
  go_wp2_with fail
  obtain ⟨hsk, _, _, c, q, hc, hq, hcB, hqP, hkc⟩ := HI.out.1.here key s HT.out.2.2.2.2.2.1
  refine (drop_yes HI.out.1 (wf_key HT.out.2.2.2.1.1 HT.out.2.2.2.1.2) HT.out.2.2.2.2.2.1 hc hq hcB hqP hkc).mono ?_
  rintro e w7 ⟨rfl, T7, t7⟩
  replace KZ := (t7.same zb (lt_of_block KZ) (HN.out.2 zb HN.out.1)).trans KZ
  replace HI := Lib.hid (HI.out.turn HN.out.2 HXY.out T7 t7)
  have HG : Hid (mD m key key = none ∧ kfD kf c q b p = -1) := ⟨by unfold mD; simp, by
    unfold kfD
    by_cases e : b = c ∧ p = q
    · rw [if_pos e]
    · rw [if_neg e]
      exact HT.out.2.2.2.2.2.2⟩
  have hc' : c = s.b.toNat := by omega
  have hq' : q = s.p.toNat := by omega
  have HCQ := Lib.hid (And.intro hc' hq')
  rw [hc', hq'] at HG HI
  clear T7 t7 hsk hc hq hcB hqP hkc hc' hq'
  go_upto_region 8 with (fail)
  refine wp_region_still_tail 9 (by kernel_rfl) (by kernel_rfl) ?_
  simp only [List.take_succ_cons, List.take_zero, List.drop_succ_cons, List.drop_zero]
  change wpStill _ _ w7.drew (fun a' => wpList _ _ _ _ a' w7.drew) _ _
  have bd : Below w7.heap.size w7 w7.drew := (Drawn.mk w7 1).below w7.heap.size
  replace HI := Lib.hid (HI.out.below bd)
  have KZ8 := (bd.block _ (lt_of_block KZ)).trans KZ
  generalize w7.drew = w8 at HI KZ8 ⊢
  clear bd KZ
  obtain ⟨x0, x1, _⟩ := pl_cells HI.out.2.1
  obtain ⟨v0, v1, v2, v3, v4, v5⟩ := me_cells HI.out.2.2.1
  obtain ⟨k0, k1, _⟩ := HI.out.1.cells
  iterate 9 still_step
  refine wpStill_nil ?_
  obtain ⟨w9, hput, hm9, ht9⟩ := HI.out.1.map.put HT.out.2.2.2.2.1 (wf_key HT.out.2.2.2.1.1 HT.out.2.2.2.1.2) HG.out.1 ⟨key, b, p, m0, m1, m2, m3, m4, m5⟩
  have hput' : (Instr.mapUpdate 69 (.map (some mb)) (.int .i64 key) (.agg #[.int .i64 key, .int .i64 (b : Int), .int .i64 (p : Int), .int .i64 m0, .int .i64 m1, .int .i64 m2, .int .i64 m3, .int .i64 m4, .int .i64 m5])).run Tryd.prog w8 = .ok () w9 := hput
  have KZ9 : w9.heap[zb]? = some (.cells #[.int .i64 s.k, .int .i64 s.b, .int .i64 s.p, .int .i64 s.m0, .int .i64 s.m1, .int .i64 s.m2, .int .i64 s.m3, .int .i64 s.m4, .int .i64 s.m5] 47 (0, 0)) := (ht9.2.2.2.2 zb (fun e => HN.out.2 zb HN.out.1 (by rw [e]; exact List.mem_cons_self ..))).trans KZ8
  have H9 := Lib.hid (And.intro hm9 (And.intro ht9 KZ9))
  clear hput hm9 ht9 KZ8 KZ9
  go_upto_region 9 with (fail)
  clear hput' x0 x1 v0 v1 v2 v3 v4 v5 k0 k1
  refine wp_region_still_tail 12 (by kernel_rfl) (by kernel_rfl) ?_
  simp only [List.take_succ_cons, List.take_zero, List.drop_succ_cons, List.drop_zero]
  change wpStill _ _ w9.drew (fun a' => wpList _ _ _ _ a' w9.drew) _ _
  have hz9 : ∀ z, z ≠ mb → w9.drew.heap[z]? = w8.heap[z]? := fun z hz => H9.out.2.1.2.2.2.2 z hz
  have ht10 : Turned w8 w9.drew mb := H9.out.2.1
  have hm10 : MapAt w9.drew mb (mS (mD m key) key ⟨key, b, p, m0, m1, m2, m3, m4, m5⟩) ((cnt - 1) + 1) (nb + 1) := H9.out.1
  have KZ10 : w9.drew.heap[zb]? = some (.cells #[.int .i64 s.k, .int .i64 s.b, .int .i64 s.p, .int .i64 s.m0, .int .i64 s.m1, .int .i64 s.m2, .int .i64 s.m3, .int .i64 s.m4, .int .i64 s.m5] 47 (0, 0)) := H9.out.2.2
  generalize w9.drew = w10 at hz9 ht10 hm10 KZ10 ⊢
  have ap := HI.out.1.apart
  obtain ⟨x0, x1, _⟩ := pl_cells ((hz9 xb (fun e => HN.out.2 xb HXY.out.1 (by rw [e]; exact List.mem_cons_self ..))).trans HI.out.2.1)
  obtain ⟨_, k1, _⟩ := HI.out.1.cells
  have k1' := (cell_heapT (hz9 tb (Ne.symm ap.2.2.2.1))).trans k1
  have k2' := (cell_heapT (hz9 ob ap.2.2.2.2.2.1)).trans (HI.out.1.outer b HT.out.2.1)
  have hkb := (ap.2.2.2.2.2.2 b HT.out.2.1).2.2.1
  have hr : Blk64 w10 (kb b) ((List.range P).map ((kfD kf s.b.toNat s.p.toNat) b)) := (hz9 (kb b) hkb).trans (HI.out.1.rows b HT.out.2.1)
  have k3 := hr.cell (i := p) (by simp; exact HT.out.2.2.1)
  have k4 := hr.free p
  have hS := HI.out.1.stored HG.out.1 rfl HT.out.2.2.2.1.1 HT.out.2.2.2.1.2 rfl rfl HT.out.2.1 HT.out.2.2.1 HG.out.2 hm10 ht10
  have H10 := Lib.hid (And.intro (HI.out.turn HN.out.2 HXY.out hS.1 hS.2) ((Only.setCell w10 ⟨kb b, p, none⟩ (.int .i64 key)).block zb (fun e => HN.out.2 zb HN.out.1 (by show zb ∈ _; rw [e]; exact List.mem_cons_of_mem _ (List.mem_map.2 ⟨b, List.mem_range.2 HT.out.2.1, rfl⟩)))))
  have HZ10 := Lib.hid KZ10
  clear hz9 ht10 hm10 KZ10 ap k1 hkb hr hS H9 HI
  iterate 12 still_step
  refine wpStill_nil ?_
  go_upto_region 10 with (fail)
  generalize w10.setCell ⟨kb b, p, none⟩ (.int .i64 key) = w11 at H10 ⊢
  clear x0 x1 k1' k2' k3 k4
  obtain ⟨_, _, _, r3, t3⟩ := H10.out.1
  have z3 : w11.heap[zb]? = some (.cells #[.int .i64 s.k, .int .i64 s.b, .int .i64 s.p, .int .i64 s.m0, .int .i64 s.m1, .int .i64 s.m2, .int .i64 s.m3, .int .i64 s.m4, .int .i64 s.m5] 47 (0, 0)) := H10.out.2.trans HZ10.out
  obtain ⟨c1, c2⟩ := sl_cells (s := s) z3
  obtain ⟨r0, r1, rf⟩ := pl_cells r3
  have f0 := rf 0
  have f1 := rf 1
  have hR : ((w11.setCell ⟨rb, 0, none⟩ (.int .i64 s.b)).setCell ⟨rb, 1, none⟩ (.int .i64 s.p)).heap[rb]? = some (.cells #[.int .i64 s.b, .int .i64 s.p] 24 (0, 0)) := heap_setCell_same _ _ 1 _ _ _ (heap_setCell_same _ _ 0 _ _ _ r3)
  have oR : Only rb w11 ((w11.setCell ⟨rb, 0, none⟩ (.int .i64 s.b)).setCell ⟨rb, 1, none⟩ (.int .i64 s.p)) := (Only.setCell w11 ⟨rb, 0, none⟩ _).trans (Only.setCell _ ⟨rb, 1, none⟩ _)
  have HF : Hid (SetAt w base tb mb ob B P cO kb (kfS (kfD kf s.b.toNat s.p.toNat) b p key) (mS (mD m key) key ⟨key, b, p, m0, m1, m2, m3, m4, m5⟩) ((cnt - 1) + 1) (nb + 1) ((w11.setCell ⟨rb, 0, none⟩ (.int .i64 s.b)).setCell ⟨rb, 1, none⟩ (.int .i64 s.p))) := setAt_of H10.out.1.1 t3 oR HXY.out.2.2 (tab_old HT.out.1)
  have HR := Lib.hid hR
  clear r3 z3 rf hR oR t3 H10 HZ10
  go_wp2_with fail
  obtain ⟨s0, s1, _⟩ := pl_cells HR.out
  have hF := HF.out
  generalize ((w11.setCell ⟨rb, 0, none⟩ (.int .i64 s.b)).setCell ⟨rb, 1, none⟩ (.int .i64 s.p)) = w12 at s0 s1 hF ⊢
  exact bodyPost_ret (v := .tuple #[.agg #[.int .i64 s.b, .int .i64 s.p], .bool true, .nilIface]) (by simp [results, Tryd.results10, go_sem, s0, s1]) rfl ⟨rfl, hF⟩
set_option maxRecDepth 100000 in
set_option maxHeartbeats 2000000 in
theorem set_hadO (T : TabAt w base tb mb ob B P cO kb kf m cnt nb) {key : Int} (h0 : 0 ≤ key) (h1 : key ≤ 1073741824) (hnb : nb < maxLen) {b p : Nat} (hbB : b < B) (hpP : p < P) (m0 m1 m2 m3 m4 m5 : Int) {s : Sl} (hg : m key = some s) (hk : kf b p = key) :
    Calls Tryd.prog 10 #[.pointer (some ⟨tb, 0, none⟩), .int .i64 key, .agg #[.int .i64 (b : Int), .int .i64 (p : Int)], .agg #[.int .i64 m0, .int .i64 m1, .int .i64 m2, .int .i64 m3, .int .i64 m4, .int .i64 m5]] w fun e w' => e = .returned (.tuple #[.agg #[.int .i64 s.b, .int .i64 s.p], .bool true, .nilIface]) ∧ SetAt w base tb mb ob B P cO kb (kfS (kfD kf s.b.toNat s.p.toNat) b p key) (mS (mD m key) key ⟨key, b, p, m0, m1, m2, m3, m4, m5⟩) ((cnt - 1) + 1) (nb + 1) w' := by
  have HT := Lib.hid (And.intro T (And.intro hbB (And.intro hpP (And.intro (And.intro h0 h1) (And.intro hnb (And.intro hg hk))))))
  have hP := T.pos
  obtain ⟨q1, q2, q3, q4, q5, q6⟩ := hP
  unfold maxLen at q6
  have y0 : (0 : Int) ≤ (b : Int) := by omega
  have y1 : (b : Int) < (B : Int) := by omega
  have y2 : (0 : Int) ≤ (p : Int) := by omega
  have y3 : (p : Int) < (P : Int) := by omega
  
  have HNB := Lib.hid (tab_blocks T)
  clear T hbB hpP hnb
  clear hg hk
  go_enter Tryd.func10, Tryd.ntmps10
  go_upto_region 1 with (fail)
  generalize hw : w.alloc (.cells #[.int .i64 (b : Int), .int .i64 (p : Int)] 24 (0, 0)) = w1
  obtain ⟨J1, b1⟩ := newPl w w1 (b : Int) (p : Int) hw
  have hs1 : w1.heap.size = w.heap.size + 1 := by rw [← hw]; simp
  clear hw
  rw [← hs1]
  generalize hw : w1.alloc (.cells #[.int .i64 m0, .int .i64 m1, .int .i64 m2, .int .i64 m3, .int .i64 m4, .int .i64 m5] 36 (0, 0)) = w2
  obtain ⟨J2, b2⟩ := newMe w1 w2 m0 m1 m2 m3 m4 m5 hw
  have hs2 : w2.heap.size = w1.heap.size + 1 := by rw [← hw]; simp
  clear hw
  rw [← hs2]
  generalize hw : w2.alloc (.cells #[.int .i64 0, .int .i64 0] 24 (0, 0)) = w3
  obtain ⟨J3, b3⟩ := newPl w2 w3 0 0 hw
  clear hw
  have b13 := b2.trans (b3.mono b2.size)
  have b03 := b1.trans (b13.mono b1.size)
  obtain ⟨xb, hxb⟩ : ∃ xb, xb = w.heap.size := ⟨_, rfl⟩
  obtain ⟨yb, hyb⟩ : ∃ yb, yb = w1.heap.size := ⟨_, rfl⟩
  obtain ⟨rb, hrb⟩ : ∃ rb, rb = w2.heap.size := ⟨_, rfl⟩
  have HI : Hid (SetI w base tb mb ob B P cO kb kf m cnt nb xb yb rb (b : Int) (p : Int) m0 m1 m2 m3 m4 m5 w3) := by
    refine ⟨HT.out.1.below b03, ?_, ?_, ?_, Tn.below b03⟩
    · rw [hxb]; exact (b13.block _ (lt_of_block J1)).trans J1
    · rw [hyb]; exact (b3.block _ (lt_of_block J2)).trans J2
    · rw [hrb]; exact J3
  have HXY : Hid (w.heap.size ≤ xb ∧ w.heap.size ≤ yb ∧ w.heap.size ≤ rb) := ⟨by omega, by omega, by omega⟩
  rw [← hxb, ← hyb, ← hrb]
  clear J1 J2 J3 b1 b2 b3 b13 b03 hs1 hs2 hxb hyb hrb
  have z0 : decide (key < 0) = false := decide_eq_false (by omega)
  have z1 : decide ((1073741824 : Int) < key) = false := decide_eq_false (by omega)
  obtain ⟨x0, x1, _⟩ := pl_cells HI.out.2.1
  go_wp2_with fail
  refine (is_yes HI.out.1 HT.out.2.1 HT.out.2.2.1).mono ?_
  rintro e w4 ⟨rfl, b4⟩
  replace HI := Lib.hid (HI.out.below b4)
  clear b4 x0 x1 z0 z1
  obtain ⟨x0, x1, _⟩ := pl_cells HI.out.2.1
  obtain ⟨k0, k1, _⟩ := HI.out.1.cells
  have k2 := HI.out.1.outer b HT.out.2.1
  have k3 := (HI.out.1.page HT.out.2.1 HT.out.2.2.1).1
  rw [HT.out.2.2.2.2.2.2] at k3
  have u1 : (key == -1) = false := by rw [beq_eq_false_iff_ne]; omega
  have u2 : (key != -1) = true := by rw [bne, u1]; rfl
  have u3 : (key == key) = true := by simp
  go_upto_region 3 with (fail)
  go_quiet (fail)
  have bq := (Drawn.mk w4 nq).below w4.heap.size
  replace HI := Lib.hid (HI.out.below bq)
  generalize w4.drewN nq = w5 at HI ⊢
  clear bq x0 x1 k0 k1 k2 k3
  have hl := HI.out.1.map.look (wf_key HT.out.2.2.2.1.1 HT.out.2.2.2.1.2)
  obtain ⟨k0, _, _⟩ := HI.out.1.cells
  rw [HT.out.2.2.2.2.2.1] at hl
  have hl' : (Instr.lookup 69 (.map (some mb)) (.int .i64 key) true).run Tryd.prog w5 = .ok (.tuple #[.agg #[.int .i64 s.k, .int .i64 s.b, .int .i64 s.p, .int .i64 s.m0, .int .i64 s.m1, .int .i64 s.m2, .int .i64 s.m3, .int .i64 s.m4, .int .i64 s.m5], .bool true]) w5 := hl
  clear hl
  go_upto_region 7 with (fail)
  generalize hw : w5.alloc (.cells #[.int .i64 s.k, .int .i64 s.b, .int .i64 s.p, .int .i64 s.m0, .int .i64 s.m1, .int .i64 s.m2, .int .i64 s.m3, .int .i64 s.m4, .int .i64 s.m5] 47 (0, 0)) = w6
  obtain ⟨KZ, b6⟩ := newSl w5 w6 s hw
  clear hw k0
  obtain ⟨zb, hzb⟩ : ∃ zb, zb = w5.heap.size := ⟨_, rfl⟩
  have HN : Hid (w.heap.size ≤ zb ∧ ∀ z, w.heap.size ≤ z → z ∉ mb :: (List.range B).map kb) := ⟨by rw [hzb]; exact HI.out.2.2.2.2.size, HNB.out⟩
  rw [← hzb] at KZ ⊢
  clear hzb
  replace HI := Lib.hid (HI.out.below b6)
  clear b6
  go_wp2_with fail
  obtain ⟨hsk, _, _, c, q, hc, hq, hcB, hqP, hkc⟩ := HI.out.1.here key s HT.out.2.2.2.2.2.1
  refine (drop_yes HI.out.1 (wf_key HT.out.2.2.2.1.1 HT.out.2.2.2.1.2) HT.out.2.2.2.2.2.1 hc hq hcB hqP hkc).mono ?_
  rintro e w7 ⟨rfl, T7, t7⟩
  replace KZ := (t7.same zb (lt_of_block KZ) (HN.out.2 zb HN.out.1)).trans KZ
  replace HI := Lib.hid (HI.out.turn HN.out.2 HXY.out T7 t7)
  have HG : Hid (mD m key key = none ∧ kfD kf c q b p = -1) := ⟨by unfold mD; simp, by
    unfold kfD
    by_cases e : b = c ∧ p = q
    · rw [if_pos e]
    · rw [if_neg e]
      exact absurd (uniq_page HT.out.1 HT.out.2.1 HT.out.2.2.1 hcB hqP (by rw [HT.out.2.2.2.2.2.2, hkc]) (by rw [HT.out.2.2.2.2.2.2]; have := HT.out.2.2.2.1.1; omega)) e⟩
  have hc' : c = s.b.toNat := by omega
  have hq' : q = s.p.toNat := by omega
  have HCQ := Lib.hid (And.intro hc' hq')
  rw [hc', hq'] at HG HI
  clear T7 t7 hsk hc hq hcB hqP hkc hc' hq'
  go_upto_region 8 with (fail)
  refine wp_region_still_tail 9 (by kernel_rfl) (by kernel_rfl) ?_
  simp only [List.take_succ_cons, List.take_zero, List.drop_succ_cons, List.drop_zero]
  change wpStill _ _ w7.drew (fun a' => wpList _ _ _ _ a' w7.drew) _ _
  have bd : Below w7.heap.size w7 w7.drew := (Drawn.mk w7 1).below w7.heap.size
  replace HI := Lib.hid (HI.out.below bd)
  have KZ8 := (bd.block _ (lt_of_block KZ)).trans KZ
  generalize w7.drew = w8 at HI KZ8 ⊢
  clear bd KZ
  obtain ⟨x0, x1, _⟩ := pl_cells HI.out.2.1
  obtain ⟨v0, v1, v2, v3, v4, v5⟩ := me_cells HI.out.2.2.1
  obtain ⟨k0, k1, _⟩ := HI.out.1.cells
  iterate 9 still_step
  refine wpStill_nil ?_
  obtain ⟨w9, hput, hm9, ht9⟩ := HI.out.1.map.put HT.out.2.2.2.2.1 (wf_key HT.out.2.2.2.1.1 HT.out.2.2.2.1.2) HG.out.1 ⟨key, b, p, m0, m1, m2, m3, m4, m5⟩
  have hput' : (Instr.mapUpdate 69 (.map (some mb)) (.int .i64 key) (.agg #[.int .i64 key, .int .i64 (b : Int), .int .i64 (p : Int), .int .i64 m0, .int .i64 m1, .int .i64 m2, .int .i64 m3, .int .i64 m4, .int .i64 m5])).run Tryd.prog w8 = .ok () w9 := hput
  have KZ9 : w9.heap[zb]? = some (.cells #[.int .i64 s.k, .int .i64 s.b, .int .i64 s.p, .int .i64 s.m0, .int .i64 s.m1, .int .i64 s.m2, .int .i64 s.m3, .int .i64 s.m4, .int .i64 s.m5] 47 (0, 0)) := (ht9.2.2.2.2 zb (fun e => HN.out.2 zb HN.out.1 (by rw [e]; exact List.mem_cons_self ..))).trans KZ8
  have H9 := Lib.hid (And.intro hm9 (And.intro ht9 KZ9))
  clear hput hm9 ht9 KZ8 KZ9
  go_upto_region 9 with (fail)
  clear hput' x0 x1 v0 v1 v2 v3 v4 v5 k0 k1
  refine wp_region_still_tail 12 (by kernel_rfl) (by kernel_rfl) ?_
  simp only [List.take_succ_cons, List.take_zero, List.drop_succ_cons, List.drop_zero]
  change wpStill _ _ w9.drew (fun a' => wpList _ _ _ _ a' w9.drew) _ _
  have hz9 : ∀ z, z ≠ mb → w9.drew.heap[z]? = w8.heap[z]? := fun z hz => H9.out.2.1.2.2.2.2 z hz
  have ht10 : Turned w8 w9.drew mb := H9.out.2.1
  have hm10 : MapAt w9.drew mb (mS (mD m key) key ⟨key, b, p, m0, m1, m2, m3, m4, m5⟩) ((cnt - 1) + 1) (nb + 1) := H9.out.1
  have KZ10 : w9.drew.heap[zb]? = some (.cells #[.int .i64 s.k, .int .i64 s.b, .int .i64 s.p, .int .i64 s.m0, .int .i64 s.m1, .int .i64 s.m2, .int .i64 s.m3, .int .i64 s.m4, .int .i64 s.m5] 47 (0, 0)) := H9.out.2.2
  generalize w9.drew = w10 at hz9 ht10 hm10 KZ10 ⊢
  have ap := HI.out.1.apart
  obtain ⟨x0, x1, _⟩ := pl_cells ((hz9 xb (fun e => HN.out.2 xb HXY.out.1 (by rw [e]; exact List.mem_cons_self ..))).trans HI.out.2.1)
  obtain ⟨_, k1, _⟩ := HI.out.1.cells
  have k1' := (cell_heapT (hz9 tb (Ne.symm ap.2.2.2.1))).trans k1
  have k2' := (cell_heapT (hz9 ob ap.2.2.2.2.2.1)).trans (HI.out.1.outer b HT.out.2.1)
  have hkb := (ap.2.2.2.2.2.2 b HT.out.2.1).2.2.1
  have hr : Blk64 w10 (kb b) ((List.range P).map ((kfD kf s.b.toNat s.p.toNat) b)) := (hz9 (kb b) hkb).trans (HI.out.1.rows b HT.out.2.1)
  have k3 := hr.cell (i := p) (by simp; exact HT.out.2.2.1)
  have k4 := hr.free p
  have hS := HI.out.1.stored HG.out.1 rfl HT.out.2.2.2.1.1 HT.out.2.2.2.1.2 rfl rfl HT.out.2.1 HT.out.2.2.1 HG.out.2 hm10 ht10
  have H10 := Lib.hid (And.intro (HI.out.turn HN.out.2 HXY.out hS.1 hS.2) ((Only.setCell w10 ⟨kb b, p, none⟩ (.int .i64 key)).block zb (fun e => HN.out.2 zb HN.out.1 (by show zb ∈ _; rw [e]; exact List.mem_cons_of_mem _ (List.mem_map.2 ⟨b, List.mem_range.2 HT.out.2.1, rfl⟩)))))
  have HZ10 := Lib.hid KZ10
  clear hz9 ht10 hm10 KZ10 ap k1 hkb hr hS H9 HI
  iterate 12 still_step
  refine wpStill_nil ?_
  go_upto_region 10 with (fail)
  generalize w10.setCell ⟨kb b, p, none⟩ (.int .i64 key) = w11 at H10 ⊢
  clear x0 x1 k1' k2' k3 k4
  obtain ⟨_, _, _, r3, t3⟩ := H10.out.1
  have z3 : w11.heap[zb]? = some (.cells #[.int .i64 s.k, .int .i64 s.b, .int .i64 s.p, .int .i64 s.m0, .int .i64 s.m1, .int .i64 s.m2, .int .i64 s.m3, .int .i64 s.m4, .int .i64 s.m5] 47 (0, 0)) := H10.out.2.trans HZ10.out
  obtain ⟨c1, c2⟩ := sl_cells (s := s) z3
  obtain ⟨r0, r1, rf⟩ := pl_cells r3
  have f0 := rf 0
  have f1 := rf 1
  have hR : ((w11.setCell ⟨rb, 0, none⟩ (.int .i64 s.b)).setCell ⟨rb, 1, none⟩ (.int .i64 s.p)).heap[rb]? = some (.cells #[.int .i64 s.b, .int .i64 s.p] 24 (0, 0)) := heap_setCell_same _ _ 1 _ _ _ (heap_setCell_same _ _ 0 _ _ _ r3)
  have oR : Only rb w11 ((w11.setCell ⟨rb, 0, none⟩ (.int .i64 s.b)).setCell ⟨rb, 1, none⟩ (.int .i64 s.p)) := (Only.setCell w11 ⟨rb, 0, none⟩ _).trans (Only.setCell _ ⟨rb, 1, none⟩ _)
  have HF : Hid (SetAt w base tb mb ob B P cO kb (kfS (kfD kf s.b.toNat s.p.toNat) b p key) (mS (mD m key) key ⟨key, b, p, m0, m1, m2, m3, m4, m5⟩) ((cnt - 1) + 1) (nb + 1) ((w11.setCell ⟨rb, 0, none⟩ (.int .i64 s.b)).setCell ⟨rb, 1, none⟩ (.int .i64 s.p))) := setAt_of H10.out.1.1 t3 oR HXY.out.2.2 (tab_old HT.out.1)
  have HR := Lib.hid hR
  clear r3 z3 rf hR oR t3 H10 HZ10
  go_wp2_with fail
  obtain ⟨s0, s1, _⟩ := pl_cells HR.out
  have hF := HF.out
  generalize ((w11.setCell ⟨rb, 0, none⟩ (.int .i64 s.b)).setCell ⟨rb, 1, none⟩ (.int .i64 s.p)) = w12 at s0 s1 hF ⊢
  exact bodyPost_ret (v := .tuple #[.agg #[.int .i64 s.b, .int .i64 s.p], .bool true, .nilIface]) (by simp [results, Tryd.results10, go_sem, s0, s1]) rfl ⟨rfl, hF⟩
end
end Go.Proofs.YtpbckjagiebmjaaDoor.Tb
