/- A buffer's Get. By the verifier of shale. -/
import Derived.Test.YtabpfadbioalgaaDoorWtPut
namespace Go.Proofs.YtabpfadbioalgaaDoor.Wt
open Go Go.RowKit Bin
set_option linter.unusedVariables false
set_option linter.unusedSimpArgs false
theorem ent3 {w : World} {b : Nat} {k : Int} {t : Bool} {s : Value} (h : w.heap[b]? = some (.cells #[.int .i64 k, .bool t, s] 35 (0, 0))) : w.cell? ⟨b, 0, none⟩ = some (.int .i64 k) ∧ w.cell? ⟨b, 1, none⟩ = some (.bool t) ∧ w.cell? ⟨b, 2, none⟩ = some s ∧ ∀ i, w.frozen? ⟨b, i, none⟩ = false := by
  refine ⟨?_, ?_, ?_, fun i => ?_⟩
  · unfold World.cell?; simp only; rw [h]; rfl
  · unfold World.cell?; simp only; rw [h]; rfl
  · unfold World.cell?; simp only; rw [h]; rfl
  · unfold World.frozen?; simp only; rw [h]; rfl
theorem ent_set2 {w : World} {b : Nat} {e : Ent} (h : w.heap[b]? = some (.cells #[.int .i64 e.key, .bool e.trim, .slice e.a e.n e.c] 35 (0, 0))) (a : Option Addr) (n c : Nat) : (w.setCell ⟨b, 2, none⟩ (.slice a n c)).heap[b]? = some (.cells #[.int .i64 e.key, .bool e.trim, .slice a n c] 35 (0, 0)) := heap_setCell_same _ _ 2 _ _ _ h
set_option maxRecDepth 100000 in
set_option maxHeartbeats 1000000 in
theorem own_any (w : World) (e : Ent) (he : Pol w e.a e.n e.c e.l) (hn : e.n ≤ 100000) :
    Calls Tryd.prog 26 #[.agg #[.int .i64 e.key, .bool e.trim, .slice e.a e.n e.c]] w fun en w' => ∃ a c, en = .returned (.agg #[.int .i64 e.key, .bool e.trim, .slice a e.n c]) ∧ NewP w w' a e.n c e.l ∧ Below w.heap.size w w' := by
  go_enter Tryd.func26, Tryd.ntmps26
  go_upto_region 1 with (fail)
  generalize hw : w.alloc (.cells #[.int .i64 e.key, .bool e.trim, .slice e.a e.n e.c] 35 (0, 0)) = w1
  obtain ⟨K, b1⟩ := newE w w1 e hw
  obtain ⟨eb, heb⟩ : ∃ eb, eb = w.heap.size := ⟨_, rfl⟩
  have hs1 : w1.heap.size = eb + 1 := by rw [heb, ← hw]; simp
  have HEB := Lib.hid heb
  rw [← heb] at K ⊢
  clear hw heb
  generalize hw : w1.alloc (.cells #[.int .i64 0, .bool false, .slice none 0 0] 35 (0, 0)) = w2
  obtain ⟨R, b2⟩ := newE w1 w2 ⟨0, false, none, 0, 0, []⟩ hw
  rw [hs1] at R
  clear hw hs1
  obtain ⟨rb, hrb⟩ : ∃ rb, rb = eb + 1 := ⟨_, rfl⟩
  rw [← hrb] at R ⊢
  replace K := (b2.block eb (lt_of_block K)).trans K
  have b02 := b1.trans (b2.mono b1.size)
  have HC := Lib.hid (clone_any e.a e.n e.c e.l w2 (he.below b02) hn)
  have HKR := Lib.hid (And.intro K (And.intro R (And.intro b02 hrb)))
  obtain ⟨c0, c1, c2, cf⟩ := ent_cells K
  clear K R b1 b2 b02 he cf hrb
  go_wp2_with fail
  refine HC.out.mono ?_
  rintro en w3 ⟨a1, k1, rfl, N1, b3⟩
  clear HC c0 c1 c2
  obtain ⟨K, R, b02, hrb⟩ := HKR.out
  replace K := (b3.block eb (lt_of_block K)).trans K
  replace R := (b3.block rb (lt_of_block R)).trans R
  have b03 := b02.trans (b3.mono b02.size)
  have hebw : w.heap.size ≤ eb := by rw [HEB.out]; exact Nat.le_refl _
  have hne : rb ≠ eb := by omega
  have hne2 : ¬ eb = rb := by omega
  have K4 := ent_set2 K a1 e.n k1
  have o4 := Only.setCell w3 ⟨eb, 2, none⟩ (.slice a1 e.n k1)
  have R4 := (o4.block rb hne).trans R
  have b04 := b03.trans (o4.below hebw)
  have hN1 : NewP w w3 a1 e.n k1 e.l := by
    refine ⟨N1.hlen, N1.hcap, N1.hmost, ?_⟩
    rcases N1.own with h | ⟨g, h1, h2, h3⟩
    · exact .inl h
    · exact .inr ⟨g, h1, Nat.le_trans b02.size h2, h3⟩
  have hgeb : ∀ g, a1 = some ⟨g, 0, none⟩ → g ≠ eb ∧ g ≠ rb := fun g hg => by
    rcases N1.own with ⟨h, _⟩ | ⟨g', h1, h2, h3⟩
    · rw [h] at hg; cases hg
    · rw [h1] at hg
      cases hg
      have q1 := lt_of_block HKR.out.1
      have q2 := lt_of_block HKR.out.2.1
      omega
  obtain ⟨_, _, d2, df⟩ := ent_cells K
  have df2 := df 2
  have HH := Lib.hid (And.intro K4 (And.intro R4 (And.intro b04 (And.intro hN1 (And.intro hgeb (And.intro o4 (And.intro hebw (show w.heap.size ≤ rb by omega))))))))
  clear K R K4 R4 b02 b03 b04 hN1 hgeb o4 N1 b3 HKR hne df hrb hebw
  go_upto_region 2 with (fail)
  generalize w3.setCell ⟨eb, 2, none⟩ (.slice a1 e.n k1) = w4 at HH ⊢
  clear d2 df2
  obtain ⟨K4, R4, b04, hN1, hgeb, o4, hebw, hrw⟩ := HH.out
  obtain ⟨c0, c1, c2, _⟩ := ent3 K4
  obtain ⟨r0, r1, r2, rf⟩ := ent3 R4
  have f0 := rf 0
  have f1 := rf 1
  have f2 := rf 2
  have hF : (((w4.setCell ⟨rb, 0, none⟩ (.int .i64 e.key)).setCell ⟨rb, 1, none⟩ (.bool e.trim)).setCell ⟨rb, 2, none⟩ (.slice a1 e.n k1)).heap[rb]? = some (.cells #[.int .i64 e.key, .bool e.trim, .slice a1 e.n k1] 35 (0, 0)) := heap_setCell_same _ _ 2 _ _ _ (heap_setCell_same _ _ 1 _ _ _ (heap_setCell_same _ _ 0 _ _ _ R4))
  have oF : Only rb w4 (((w4.setCell ⟨rb, 0, none⟩ (.int .i64 e.key)).setCell ⟨rb, 1, none⟩ (.bool e.trim)).setCell ⟨rb, 2, none⟩ (.slice a1 e.n k1)) := ((Only.setCell _ ⟨rb, 0, none⟩ _).trans (Only.setCell _ ⟨rb, 1, none⟩ _)).trans (Only.setCell _ ⟨rb, 2, none⟩ _)
  have HF := Lib.hid (And.intro hF oF)
  clear K4 R4 b04 hN1 hgeb o4 hebw rf hF oF hrw
  go_wp2_with fail
  obtain ⟨K4, R4, b04, hN1, hgeb, o4, hebw, hrw⟩ := HH.out
  obtain ⟨hF, oF⟩ := HF.out
  generalize (((w4.setCell ⟨rb, 0, none⟩ (.int .i64 e.key)).setCell ⟨rb, 1, none⟩ (.bool e.trim)).setCell ⟨rb, 2, none⟩ (.slice a1 e.n k1)) = w5 at hF oF ⊢
  obtain ⟨z0, z1, z2, _⟩ := ent3 hF
  refine bodyPost_ret (v := .agg #[.int .i64 e.key, .bool e.trim, .slice a1 e.n k1]) (by simp [results, Tryd.results26, go_sem, z0, z1, z2]) rfl ⟨a1, k1, rfl, ?_, b04.trans (oF.below hrw)⟩
  refine ⟨hN1.hlen, hN1.hcap, hN1.hmost, ?_⟩
  rcases hN1.own with h | ⟨g, h1, h2, h3⟩
  · exact .inl h
  · refine .inr ⟨g, h1, h2, ?_⟩
    obtain ⟨cur, ty, h4, h5⟩ := h3
    exact ⟨cur, ty, (oF.block g (hgeb g h1).2).trans ((o4.block g (hgeb g h1).1).trans h4), h5⟩
section
variable {w : World} {base bb : Nat} {sz mo sc : Int} {v : Value} {L : List Ent}
/-- what Get's first walk has: the block of what it answers. -/
theorem newZ (w W : World) (h : w.alloc (.cells #[.int .i64 0, .bool false, .slice none 0 0] 35 (0, 0)) = W) : W.heap[w.heap.size]? = some (.cells #[.int .i64 0, .bool false, .slice none 0 0] 35 (0, 0)) ∧ Below w.heap.size w W := by
  subst h
  exact ⟨heap_alloc_new w _, (Below.refl _ _).alloc (Nat.le_refl _) _⟩
set_option maxRecDepth 100000 in
set_option maxHeartbeats 1000000 in
theorem get_none (B : BufAt w base bb sz mo sc v L) (key : Int) (h : at? L key = none) :
    Calls Tryd.prog 13 #[.pointer (some ⟨bb, 0, none⟩), .int .i64 key] w fun en w' => en = .returned (.tuple #[.agg #[.int .i64 0, .bool false, .slice none 0 0], .bool false]) ∧ Below w.heap.size w w' := by
  have hix : idx L key = -1 := by unfold idx; rw [h]
  have HB0 := Lib.hid B
  clear B h
  go_enter Tryd.func13, Tryd.ntmps13
  go_upto_region 1 with (fail)
  generalize hw : w.alloc (.cells #[.int .i64 0, .bool false, .slice none 0 0] 35 (0, 0)) = w1
  obtain ⟨R, b1⟩ := newZ w w1 hw
  obtain ⟨rb, hrb⟩ : ∃ rb, rb = w.heap.size := ⟨_, rfl⟩
  have HRB := Lib.hid hrb
  rw [← hrb] at R ⊢
  clear hw hrb
  have HF := Lib.hid (find_any (HB0.out.below b1) key)
  rw [hix] at HF
  have HR := Lib.hid (And.intro R b1)
  clear R b1 hix
  go_wp2_with fail
  refine HF.out.mono ?_
  rintro en w2 ⟨rfl, b2⟩
  clear HF
  obtain ⟨R, b1⟩ := HR.out
  replace R := (b2.block rb (lt_of_block R)).trans R
  have b02 := b1.trans (b2.mono b1.size)
  have hrw : w.heap.size ≤ rb := by rw [HRB.out]; exact Nat.le_refl _
  obtain ⟨r0, r1, r2, rf⟩ := ent3 R
  have f0 := rf 0
  have f1 := rf 1
  have f2 := rf 2
  have hF : (((w2.setCell ⟨rb, 0, none⟩ (.int .i64 0)).setCell ⟨rb, 1, none⟩ (.bool false)).setCell ⟨rb, 2, none⟩ (.slice none 0 0)).heap[rb]? = some (.cells #[.int .i64 0, .bool false, .slice none 0 0] 35 (0, 0)) := heap_setCell_same _ _ 2 _ _ _ (heap_setCell_same _ _ 1 _ _ _ (heap_setCell_same _ _ 0 _ _ _ R))
  have oF : Only rb w2 (((w2.setCell ⟨rb, 0, none⟩ (.int .i64 0)).setCell ⟨rb, 1, none⟩ (.bool false)).setCell ⟨rb, 2, none⟩ (.slice none 0 0)) := ((Only.setCell _ ⟨rb, 0, none⟩ _).trans (Only.setCell _ ⟨rb, 1, none⟩ _)).trans (Only.setCell _ ⟨rb, 2, none⟩ _)
  have HF := Lib.hid (And.intro hF (b02.trans (oF.below hrw)))
  clear R b1 b2 b02 rf hF oF hrw HR
  go_wp2_with fail
  obtain ⟨hF, hB⟩ := HF.out
  generalize (((w2.setCell ⟨rb, 0, none⟩ (.int .i64 0)).setCell ⟨rb, 1, none⟩ (.bool false)).setCell ⟨rb, 2, none⟩ (.slice none 0 0)) = w5 at hF hB ⊢
  obtain ⟨z0, z1, z2, _⟩ := ent3 hF
  exact bodyPost_ret (v := .tuple #[.agg #[.int .i64 0, .bool false, .slice none 0 0], .bool false]) (by simp [results, Tryd.results13, go_sem, z0, z1, z2]) rfl ⟨rfl, hB⟩
set_option maxRecDepth 100000 in
set_option maxHeartbeats 1000000 in
theorem get_some (B : BufAt w base bb sz mo sc v L) (key : Int) {i : Nat} {d : Ent} (h : at? L key = some i) (hd : L[i]? = some d) (hn : d.n ≤ 100000) (hL : L.length ≤ 1000) :
    Calls Tryd.prog 13 #[.pointer (some ⟨bb, 0, none⟩), .int .i64 key] w fun en w' => ∃ a c, en = .returned (.tuple #[.agg #[.int .i64 d.key, .bool d.trim, .slice a d.n c], .bool true]) ∧ NewP w w' a d.n c d.l ∧ Below w.heap.size w w' := by
  have hix : idx L key = (i : Int) := by unfold idx; rw [h]
  have hil := (List.getElem?_eq_some_iff.1 hd).1
  obtain ⟨av, cv, rfl, hvc, hvm, _⟩ := row_slice B.row
  obtain ⟨g, rfl, hgb, _⟩ := row_cells B.row hd
  unfold maxLen at hvm
  have HB0 := Lib.hid (And.intro B (And.intro hd hn))
  obtain ⟨n, hnE⟩ : ∃ n, n = L.length := ⟨_, rfl⟩
  have HNE := Lib.hid hnE
  rw [← hnE] at hil hvc hL
  have y0 : (0 : Int) ≤ (i : Int) := by omega
  have y1 : ¬ (i : Int) < 0 := by omega
  have y2 : (i : Int) < (n : Int) := by omega
  clear B h hd hn hnE
  go_enter Tryd.func13, Tryd.ntmps13
  go_upto_region 1 with (fail)
  generalize hw : w.alloc (.cells #[.int .i64 0, .bool false, .slice none 0 0] 35 (0, 0)) = w1
  obtain ⟨R, b1⟩ := newZ w w1 hw
  obtain ⟨rb, hrb⟩ : ∃ rb, rb = w.heap.size := ⟨_, rfl⟩
  have HRB := Lib.hid hrb
  rw [← hrb] at R ⊢
  clear hw hrb
  have HF := Lib.hid (find_any (HB0.out.1.below b1) key)
  rw [hix] at HF
  have HR := Lib.hid (And.intro R b1)
  clear R b1 hix
  go_wp2_with fail
  refine HF.out.mono ?_
  rintro en w2 ⟨rfl, b2⟩
  clear HF
  obtain ⟨R, b1⟩ := HR.out
  replace R := (b2.block rb (lt_of_block R)).trans R
  have b02 := b1.trans (b2.mono b1.size)
  have B2 := HB0.out.1.below b02
  obtain ⟨k0, k1, k2, k3, _⟩ := B2.cells
  rw [← HNE.out] at k3
  obtain ⟨_, eg, _, c0, c1, c2⟩ := row_cells B2.row HB0.out.2.1
  cases eg
  have HO := Lib.hid (own_any w2 d (B2.ents d (List.mem_of_getElem? HB0.out.2.1)).1 HB0.out.2.2)
  have HR2 := Lib.hid (And.intro R b02)
  clear R b1 b2 b02 B2 HR
  go_wp2_with fail
  refine HO.out.mono ?_
  rintro en w3 ⟨a1, j1, rfl, N1, b3⟩
  clear HO k0 k1 k2 k3 c0 c1 c2
  obtain ⟨R, b02⟩ := HR2.out
  replace R := (b3.block rb (lt_of_block R)).trans R
  have b03 := b02.trans (b3.mono b02.size)
  have hrw : w.heap.size ≤ rb := by rw [HRB.out]; exact Nat.le_refl _
  obtain ⟨r0, r1, r2, rf⟩ := ent3 R
  have f0 := rf 0
  have f1 := rf 1
  have f2 := rf 2
  have hF : (((w3.setCell ⟨rb, 0, none⟩ (.int .i64 d.key)).setCell ⟨rb, 1, none⟩ (.bool d.trim)).setCell ⟨rb, 2, none⟩ (.slice a1 d.n j1)).heap[rb]? = some (.cells #[.int .i64 d.key, .bool d.trim, .slice a1 d.n j1] 35 (0, 0)) := heap_setCell_same _ _ 2 _ _ _ (heap_setCell_same _ _ 1 _ _ _ (heap_setCell_same _ _ 0 _ _ _ R))
  have oF : Only rb w3 (((w3.setCell ⟨rb, 0, none⟩ (.int .i64 d.key)).setCell ⟨rb, 1, none⟩ (.bool d.trim)).setCell ⟨rb, 2, none⟩ (.slice a1 d.n j1)) := ((Only.setCell _ ⟨rb, 0, none⟩ _).trans (Only.setCell _ ⟨rb, 1, none⟩ _)).trans (Only.setCell _ ⟨rb, 2, none⟩ _)
  have hN : NewP w (((w3.setCell ⟨rb, 0, none⟩ (.int .i64 d.key)).setCell ⟨rb, 1, none⟩ (.bool d.trim)).setCell ⟨rb, 2, none⟩ (.slice a1 d.n j1)) a1 d.n j1 d.l := by
    refine ⟨N1.hlen, N1.hcap, N1.hmost, ?_⟩
    rcases N1.own with h | ⟨g, h1, h2, h3⟩
    · exact .inl h
    · have hgr : g ≠ rb := by have := lt_of_block HR2.out.1; omega
      obtain ⟨cur, ty, h4, h5⟩ := h3
      exact .inr ⟨g, h1, Nat.le_trans b02.size h2, cur, ty, (oF.block g hgr).trans h4, h5⟩
  have HF := Lib.hid (And.intro hF (And.intro (b03.trans (oF.below hrw)) hN))
  clear R b02 b03 rf hF oF hrw HR2 hN N1 b3
  go_wp2_with fail
  obtain ⟨hF, hB, hN⟩ := HF.out
  generalize (((w3.setCell ⟨rb, 0, none⟩ (.int .i64 d.key)).setCell ⟨rb, 1, none⟩ (.bool d.trim)).setCell ⟨rb, 2, none⟩ (.slice a1 d.n j1)) = w5 at hF hB hN ⊢
  obtain ⟨z0, z1, z2, _⟩ := ent3 hF
  exact bodyPost_ret (v := .tuple #[.agg #[.int .i64 d.key, .bool d.trim, .slice a1 d.n j1], .bool true]) (by simp [results, Tryd.results13, go_sem, z0, z1, z2]) rfl ⟨a1, j1, rfl, hN, hB⟩
end
end Go.Proofs.YtabpfadbioalgaaDoor.Wt
