/- The walk over a buffer's last. By the verifier of shale. -/
import Derived.Test.YtabpfadbioalgaaDoorWtLast
namespace Go.Proofs.YtabpfadbioalgaaDoor.Wt
open Go Go.RowKit Bin
set_option linter.unusedVariables false
set_option linter.unusedSimpArgs false
/-- what waits behind an entry that waits anew. -/
def lastL (L : List Ent) (e : Ent) : List Ent := match at? L e.key with
  | none => L ++ [e]
  | some i => L.eraseIdx i ++ [e]
theorem newE (w W : World) (e : Ent) (h : w.alloc (.cells #[.int .i64 e.key, .bool e.trim, .slice e.a e.n e.c] 35 (0, 0)) = W) : W.heap[w.heap.size]? = some (.cells #[.int .i64 e.key, .bool e.trim, .slice e.a e.n e.c] 35 (0, 0)) ∧ Below w.heap.size w W := by
  subst h
  exact ⟨heap_alloc_new w _, (Below.refl _ _).alloc (Nat.le_refl _) _⟩
theorem ent_cells {w : World} {b : Nat} {e : Ent} (h : w.heap[b]? = some (.cells #[.int .i64 e.key, .bool e.trim, .slice e.a e.n e.c] 35 (0, 0))) : w.cell? ⟨b, 0, none⟩ = some (.int .i64 e.key) ∧ w.cell? ⟨b, 1, none⟩ = some (.bool e.trim) ∧ w.cell? ⟨b, 2, none⟩ = some (.slice e.a e.n e.c) ∧ ∀ i, w.frozen? ⟨b, i, none⟩ = false := by
  refine ⟨?_, ?_, ?_, fun i => ?_⟩
  · unfold World.cell?; simp only; rw [h]; rfl
  · unfold World.cell?; simp only; rw [h]; rfl
  · unfold World.cell?; simp only; rw [h]; rfl
  · unfold World.frozen?; simp only; rw [h]; rfl
/-- the end of last: the entry is appended. -/
def AppPost (base bb : Nat) (sz mo sc : Int) (v : Value) (L' : List Ent) (w : World) (e : Ending) (w' : World) : Prop :=
  e = .returned .nilIface ∧ ∃ v', BufAt w' base bb sz mo sc v' L' ∧ Tn (blks bb v) w w' (blks bb v')
/-- what the region that appends wants to know. -/
structure AppIn (w : World) (base bb : Nat) (v : Value) (L : List Ent) (e : Ent) : Prop where
  own : Row ((w.alloc (.cells #[.int .i64 e.key, .bool e.trim, .slice e.a e.n e.c] 35 (0, 0))).drew) base v L
  news : ∀ j u, e.cells[j]? = some u → ((w.alloc (.cells #[.int .i64 e.key, .bool e.trim, .slice e.a e.n e.c] 35 (0, 0))).drew).cell? ((⟨w.heap.size, 0, none⟩ : Addr).add j) = some u
  one : ∀ u ∈ e.cells, u.oneCell' = true
  base0 : base ≤ ((w.alloc (.cells #[.int .i64 e.key, .bool e.trim, .slice e.a e.n e.c] 35 (0, 0))).drew).heap.size
  q3 : ∀ w9, ((w.alloc (.cells #[.int .i64 e.key, .bool e.trim, .slice e.a e.n e.c] 35 (0, 0))).drew).grownBy w9 v.ownBlock → w9.cell? ⟨bb, 3, none⟩ = some v ∧ w9.frozen? ⟨bb, 3, none⟩ = false
theorem app_in {w : World} {base bb : Nat} {sz mo sc : Int} {v : Value} {L : List Ent} (B : BufAt w base bb sz mo sc v L) (e : Ent) : AppIn w base bb v L e := by
  have b : Below w.heap.size w (w.alloc (.cells #[.int .i64 e.key, .bool e.trim, .slice e.a e.n e.c] 35 (0, 0))).drew := ((Below.refl _ _).alloc (Nat.le_refl _) _).drew
  have B1 := B.below b
  refine ⟨B1.row, ?_, ?_, Nat.le_trans (Nat.le_trans B.bb0 (Nat.le_of_lt B.lt)) b.size, fun w9 hg => ?_⟩
  · exact World.news_of_block (cs := #[.int .i64 e.key, .bool e.trim, .slice e.a e.n e.c]) (fr := (0, 0)) (t := 35) (heap_alloc_new w _)
  · intro u hu
    unfold Ent.cells at hu
    simp only [List.mem_cons, List.not_mem_nil, or_false] at hu
    rcases hu with rfl | rfl | rfl <;> rfl
  · have h9 : w9.heap[bb]? = _ := (hg.block bb B1.lt (Ne.symm B.apart)).trans B1.blk
    refine ⟨?_, ?_⟩
    · unfold World.cell?; simp only; rw [h9]; rfl
    · unfold World.frozen?; simp only; rw [h9]; rfl
theorem cell?_alloc_some3 {W : World} {a : Addr} {v : Value} {o : Obj} (h : W.cell? a = some v) : ((W.alloc o).drew).cell? a = some v := Lib.cell?_alloc_some o h
set_option maxRecDepth 100000 in
set_option maxHeartbeats 2000000 in
theorem last_any {w : World} {base bb : Nat} {sz mo sc : Int} {v : Value} {L : List Ent} {e : Ent} (B : BufAt w base bb sz mo sc v L) (E : EntOK w base bb v e) (hL : L.length ≤ 1000) {y : Addr} (EF : ErrAt w 1 y) :
    Calls Tryd.prog 23 #[.pointer (some ⟨bb, 0, none⟩), .agg #[.int .i64 e.key, .bool e.trim, .slice e.a e.n e.c]] w fun en w' =>
      (at? L e.key = none ∧ mo ≤ (L.length : Int) ∧ en = .returned (errOf y) ∧ Below w.heap.size w w') ∨
      ((at? L e.key ≠ none ∨ (L.length : Int) < mo) ∧ AppPost base bb sz mo sc v (lastL L e) w en w') := by
  obtain ⟨i0, hi0, hz0, hz1, hz2⟩ := infoE
  obtain ⟨a, c, rfl, hnc, hcm, hnil⟩ := row_slice B.row
  unfold maxLen at hcm
  go_enter Tryd.func23, Tryd.ntmps23
  go_upto_region 1 with (fail)
  generalize hw : w.alloc (.cells #[.int .i64 e.key, .bool e.trim, .slice e.a e.n e.c] 35 (0, 0)) = w1
  obtain ⟨K, b1⟩ := newE w w1 e hw
  obtain ⟨eb, heb⟩ : ∃ eb, eb = w.heap.size := ⟨_, rfl⟩
  have HEB := Lib.hid heb
  rw [← heb] at K ⊢
  clear hw heb
  have B1 := B.below b1
  have HB := Lib.hid (And.intro B (And.intro E (And.intro b1 EF)))
  obtain ⟨c0, c1, c2, cf⟩ := ent_cells K
  have HK := Lib.hid K
  have HF := Lib.hid (find_any B1 e.key)
  obtain ⟨n, hn⟩ : ∃ n, n = L.length := ⟨_, rfl⟩
  have HN := Lib.hid hn
  clear B E EF K b1 cf
  rw [← hn] at hL hnc
  clear hn
  go_wp2_with fail
  refine HF.out.mono ?_
  rintro en w2 ⟨rfl, b2⟩
  clear HF
  have B2 := B1.below b2
  have K2 := (b2.block eb (lt_of_block HK.out)).trans HK.out
  have HW2 := Lib.hid (And.intro B2 (And.intro K2 (HB.out.2.2.1.trans (b2.mono HB.out.2.2.1.size))))
  clear c0 c1 c2 B1 b2 K2
  cases hat : at? L e.key with
  | none =>
    have hix : idx L e.key = -1 := by unfold idx; rw [hat]
    have HLL : Hid (lastL L e = L ++ [e]) := by show _ = _; unfold lastL; rw [hat]
    rw [hix]
    have HFu := Lib.hid (full_any B2)
    have HAt := Lib.hid hat
    clear B2 hix hat
    go_wp2_with fail
    refine HFu.out.mono ?_
    rintro en w3 ⟨rfl, d3⟩
    clear HFu
    by_cases hm : mo ≤ (L.length : Int)
    · rw [decide_eq_true hm]
      have HM := Lib.hid hm
      have hEF3 := (HB.out.2.2.2.below (HW2.out.2.2.trans ((d3.below w2.heap.size).mono HW2.out.2.2.size))).1
      have hEF3' : w3.cell? ⟨1, 0, none⟩ = some (errOf y) := hEF3
      have HE := Lib.hid (HW2.out.2.2.trans ((d3.below w2.heap.size).mono HW2.out.2.2.size))
      clear hm d3 hEF3
      go_wp2_with fail
      go_ret
      exact .inl ⟨HAt.out, HM.out, rfl, HE.out⟩
    · rw [decide_eq_false hm]
      have HM := Lib.hid (show (L.length : Int) < mo by omega)
      have b := d3.below w2.heap.size
      have B3 := HW2.out.1.below b
      have K3 := (b.block eb (lt_of_block HW2.out.2.1)).trans HW2.out.2.1
      have b03 := HW2.out.2.2.trans (b.mono HW2.out.2.2.size)
      clear hm d3 b HW2
      obtain ⟨k0, k1, k2, k3, _⟩ := B3.cells
      obtain ⟨c0, c1, c2, _⟩ := ent_cells K3
      have HI := Lib.hid (app_in B3 e)
      have k4 : ((w3.alloc (.cells #[.int .i64 e.key, .bool e.trim, .slice e.a e.n e.c] 35 (0, 0))).drew).cell? ⟨bb, 3, none⟩ = some (.slice a n c) := by rw [HN.out]; exact (cell?_alloc_some3 k3)
      have HBK := Lib.hid (And.intro B3 (And.intro K3 b03))
      have HO : Hid (((w3.alloc (.cells #[.int .i64 e.key, .bool e.trim, .slice e.a e.n e.c] 35 (0, 0))).drew).ownsRow base 35 3 (.slice a n c) n (ecells L)) := by
        have h := HI.out.own
        unfold Row at h
        rw [← HN.out] at h
        exact h
      have HQ : Hid (∀ w9, ((w3.alloc (.cells #[.int .i64 e.key, .bool e.trim, .slice e.a e.n e.c] 35 (0, 0))).drew).grownBy w9 (Value.slice a n c).ownBlock → w9.cell? ⟨bb, 3, none⟩ = some (.slice a n c) ∧ w9.frozen? ⟨bb, 3, none⟩ = false) := by
        have h := HI.out.q3
        rw [← HN.out] at h
        exact h
      rw [← HN.out] at k3
      clear B3 K3 b03
      go_upto_region 6 with (fail)
      go_region_law (refine step_append_lies _ (by rfl) _ _ _ (by rfl) base 35 i0 (.agg #[.int .i64 0, .bool false, .slice none 0 0]) 3 40 Tryd.underlying30 hi0 hz0 hz1 hz2 rfl (by decide) (.slice a n c) n (ecells (L)) (by rfl) HO.out ⟨w3.heap.size, 0, none⟩ 1 1 e.cells (by rfl) rfl HI.out.news HI.out.one (by decide) (by unfold maxLen; omega) (by omega) HI.out.base0 (w3.heap.size + 1) (by simp) ?_; intro g1 cap1 w9 hown9 hg9 hor9 hlt9; have q3 := (HQ.out w9 hg9).1; have q4 := (HQ.out w9 hg9).2)
      all_goals
        have HAp : Hid (BufAt (w9.setCell ⟨bb, 3, none⟩ (.slice (some ⟨g1, 0, none⟩) (n + 1) cap1)) base bb sz mo sc (.slice (some ⟨g1, 0, none⟩) (n + 1) cap1) (L ++ [e]) ∧ Tn (blks bb (.slice a L.length c)) w (w9.setCell ⟨bb, 3, none⟩ (.slice (some ⟨g1, 0, none⟩) (n + 1) cap1)) (blks bb (.slice (some ⟨g1, 0, none⟩) (n + 1) cap1))) := by
          have hh := HN.out
          subst hh
          exact app_at HB.out.1 HB.out.2.1 (HBK.out.2.2.trans ((((Below.refl w3.heap.size w3).alloc (Nat.le_refl _) _).drew).mono HBK.out.2.2.size)) hown9 hg9 (by simpa using hor9)
        clear hown9 hg9 hor9 hlt9 q3 q4 HI HO HQ k0 k1 k2 k3 k4 c0 c1 c2
        go_wp2_with fail
        go_ret
        rw [HLL.out]
        exact .inr ⟨.inr HM.out, rfl, _, HAp.out⟩
  | some i =>
    obtain ⟨d, hd, hdk⟩ := at_some hat
    have hil := (List.getElem?_eq_some_iff.1 hd).1
    obtain ⟨g, rfl, hgb, _⟩ := row_cells B2.row hd
    have hix : idx L e.key = (i : Int) := by unfold idx; rw [hat]
    have HLL : Hid (lastL L e = L.eraseIdx i ++ [e]) := by show _ = _; unfold lastL; rw [hat]
    rw [hix]
    obtain ⟨j, hj⟩ : ∃ j, j = i + 1 := ⟨_, rfl⟩
    have HDe := delete_any B2.row hil j hj
    obtain ⟨n1, hn1⟩ : ∃ n1, n1 = L.length - 1 := ⟨_, rfl⟩
    rw [← HN.out] at HDe
    have hn1' : n1 = n - 1 := by rw [HN.out]; exact hn1
    rw [← hn1'] at HDe
    replace HDe := Lib.hid HDe
    have HAt := Lib.hid (show at? L e.key ≠ none by rw [hat]; simp)
    have eJ : (i : Int) + 1 = (j : Int) := by omega
    have HIL := Lib.hid (And.intro hil hn1)
    have i0' : (0 : Int) ≤ (i : Int) := by omega
    have i1' : decide ((0 : Int) ≤ (i : Int)) = true := decide_eq_true i0'
    have hi2 : i ≤ 1000 := by rw [← HN.out] at hil; omega
    have hn9 : n1 ≤ 1000 := by omega
    have hnc1 : n1 ≤ c := by omega
    obtain ⟨k0, k1, k2, k3, _⟩ := B2.cells
    rw [← HN.out] at k3
    clear B2 hix hat hd hdk hil hj hn1 hn1'
    go_wp2_with fail
    refine HDe.out.mono ?_
    rintro en w4 ⟨rfl, hr4, o4⟩
    clear HDe k0 k1 k2 k3
    obtain ⟨B2, K2, b02⟩ := HW2.out
    have hgb2 : g ≠ bb := fun e => B2.apart (by rw [e]; rfl)
    have hb4 : w4.heap[bb]? = _ := (o4.block bb (Ne.symm hgb2)).trans B2.blk
    have k3 : w4.cell? ⟨bb, 3, none⟩ = some (.slice (some ⟨g, 0, none⟩) L.length c) := by unfold World.cell?; simp only; rw [hb4]; rfl
    have kf : w4.frozen? ⟨bb, 3, none⟩ = false := by unfold World.frozen?; simp only; rw [hb4]; rfl
    have HD4 : Hid (BufAt (w4.setCell ⟨bb, 3, none⟩ (.slice (some ⟨g, 0, none⟩) n1 c)) base bb sz mo sc (.slice (some ⟨g, 0, none⟩) n1 c) (L.eraseIdx i) ∧ Tn (blks bb (.slice (some ⟨g, 0, none⟩) L.length c)) w2 (w4.setCell ⟨bb, 3, none⟩ (.slice (some ⟨g, 0, none⟩) n1 c)) (blks bb (.slice (some ⟨g, 0, none⟩) n1 c))) := by
      have hh := HIL.out.2
      subst hh
      exact del_at B2 HIL.out.1 hr4 o4
    clear hr4 o4 B2 K2 b02 hb4
    go_upto_region 6 with (fail)
    generalize hw5 : w4.setCell ⟨bb, 3, none⟩ (.slice (some ⟨g, 0, none⟩) n1 c) = w5 at HD4 ⊢
    clear hw5 k3 kf
    obtain ⟨B5, T5⟩ := HD4.out
    have HE1 : (L.eraseIdx i).length = n1 := by rw [List.length_eraseIdx_of_lt HIL.out.1]; exact HIL.out.2.symm
    have K5 : w5.heap[eb]? = some (.cells #[.int .i64 e.key, .bool e.trim, .slice e.a e.n e.c] 35 (0, 0)) := (T5.same eb (lt_of_block HW2.out.2.1) (by
      rw [blks_slice]
      have h1 := HB.out.1.lt
      have h2 := (HB.out.1.row.lt g rfl).2
      have h3 := HEB.out
      simp only [List.mem_cons, List.not_mem_nil, or_false, not_or]
      omega)).trans HW2.out.2.1
    have hEK := EntOK.tn (HB.out.2.1.below HW2.out.2.2) T5
    have T05 := (Tn.below HW2.out.2.2 : Tn (blks bb (.slice (some ⟨g, 0, none⟩) L.length c)) w w2 _).trans T5
    have b03 := And.intro hEK (And.intro T05 HE1)
    have HN5 := Lib.hid HE1
    clear T5 hEK T05 HE1 HD4 HW2
    obtain ⟨k0, k1, k2, k3, _⟩ := B5.cells
    obtain ⟨c0, c1, c2, _⟩ := ent_cells K5
    have HI := Lib.hid (app_in B5 e)
    have k4 : ((w5.alloc (.cells #[.int .i64 e.key, .bool e.trim, .slice e.a e.n e.c] 35 (0, 0))).drew).cell? ⟨bb, 3, none⟩ = some (.slice (some ⟨g, 0, none⟩) n1 c) := cell?_alloc_some3 k3
    have HBK := Lib.hid (And.intro B5 (And.intro K5 b03))
    have HO : Hid (((w5.alloc (.cells #[.int .i64 e.key, .bool e.trim, .slice e.a e.n e.c] 35 (0, 0))).drew).ownsRow base 35 3 (.slice (some ⟨g, 0, none⟩) n1 c) n1 (ecells (L.eraseIdx i))) := by
      have h := HI.out.own
      unfold Row at h
      rw [HN5.out] at h
      exact h
    have HQ : Hid (∀ w9, ((w5.alloc (.cells #[.int .i64 e.key, .bool e.trim, .slice e.a e.n e.c] 35 (0, 0))).drew).grownBy w9 (Value.slice (some ⟨g, 0, none⟩) n1 c).ownBlock → w9.cell? ⟨bb, 3, none⟩ = some (.slice (some ⟨g, 0, none⟩) n1 c) ∧ w9.frozen? ⟨bb, 3, none⟩ = false) := HI.out.q3
    clear B5 K5 b03
    go_upto_region 6 with (fail)
    go_region_law (refine step_append_lies _ (by rfl) _ _ _ (by rfl) base 35 i0 (.agg #[.int .i64 0, .bool false, .slice none 0 0]) 3 40 Tryd.underlying30 hi0 hz0 hz1 hz2 rfl (by decide) (.slice (some ⟨g, 0, none⟩) n1 c) n1 (ecells (L.eraseIdx i)) (by rfl) HO.out ⟨w5.heap.size, 0, none⟩ 1 1 e.cells (by rfl) rfl HI.out.news HI.out.one (by decide) (by unfold maxLen; omega) (by omega) HI.out.base0 (w5.heap.size + 1) (by simp) ?_; intro g1 cap1 w9 hown9 hg9 hor9 hlt9; have q3 := (HQ.out w9 hg9).1; have q4 := (HQ.out w9 hg9).2)
    all_goals
      have HAp : Hid (BufAt (w9.setCell ⟨bb, 3, none⟩ (.slice (some ⟨g1, 0, none⟩) (n1 + 1) cap1)) base bb sz mo sc (.slice (some ⟨g1, 0, none⟩) (n1 + 1) cap1) (L.eraseIdx i ++ [e]) ∧ Tn (blks bb (.slice (some ⟨g, 0, none⟩) L.length c)) w (w9.setCell ⟨bb, 3, none⟩ (.slice (some ⟨g1, 0, none⟩) (n1 + 1) cap1)) (blks bb (.slice (some ⟨g1, 0, none⟩) (n1 + 1) cap1))) := by
        have hh := HN5.out
        subst hh
        obtain ⟨B5, K5, hEK, T05, _⟩ := HBK.out
        have h := app_at B5 hEK (((Below.refl w5.heap.size w5).alloc (Nat.le_refl _) _).drew) hown9 hg9 (by simpa using hor9)
        exact ⟨h.1, T05.trans h.2⟩
      clear hown9 hg9 hor9 hlt9 q3 q4 HI HO HQ k0 k1 k2 k3 k4 c0 c1 c2
      go_wp2_with fail
      go_ret
      rw [HLL.out]
      exact .inr ⟨.inl HAt.out, rfl, _, HAp.out⟩
end Go.Proofs.YtabpfadbioalgaaDoor.Wt
