/- The walk over LocateMakes. By the verifier of shale. -/
import Derived.Test.YtjpaihnnljpaeaaDoorGreat1
import Derived.Test.YtjpaihnnljpaeaaDoorGreat2
import Derived.Test.YtjpaihnnljpaeaaDoorLaidLocateMakes
namespace Go.Proofs.YtjpaihnnljpaeaaDoor.walkLocateMakes
open Go Go.RowKit Fld Bits16 Pl Loc
set_option linter.unusedVariables false
set_option maxRecDepth 100000 in
set_option maxHeartbeats 1000000 in
theorem long (x0 : Int) (a1 : Option Addr) (n1 c1 : Nat) (a2 : Option Addr) (n2 c2 : Nat) (x3 : Int) (w : World) (h : 40 < n1 ∨ 40 < n2) :
    Calls Tryd.prog 5 #[.int .i64 x0, .slice a1 n1 c1, .slice a2 n2 c2, .int .i64 x3] w fun e w' => e = .returned (.bool true) ∧ Below w.heap.size w w' := by
  have t : decide ((40 : Int) < (n1 : Int)) = true ∨ (decide ((40 : Int) < (n1 : Int)) = false ∧ decide ((40 : Int) < (n2 : Int)) = true) := by
    by_cases h1 : 40 < n1
    · exact Or.inl (decide_eq_true (by omega))
    · exact Or.inr ⟨decide_eq_false (by omega), decide_eq_true (by omega)⟩
  clear h
  rcases t with t0 | ⟨t0, t1⟩
  all_goals
    go_enter Tryd.func5, Tryd.ntmps5
    go_wp2_with fail
    refine (first_any w).mono ?_
    rintro e w1 ⟨rfl, B⟩
    go_wp2_with fail
    refine (made_any x0 w1).mono ?_
    rintro e w2 ⟨s, be, ce, bl, rfl, F, b⟩
    replace B := B.trans (b.mono B.size)
    clear b
    go_wp2_with fail
    go_ret
    exact ⟨rfl, B⟩
set_option maxRecDepth 100000 in
set_option maxHeartbeats 4000000 in
theorem core (x0 : Int) (a : Option Addr) (n c : Nat) (l : List Int) (a2 : Option Addr) (n2 c2 : Nat) (l2 : List Int) (x3 : Int) (w : World) (r : RowZ w a n c l) (r2 : RowZ w a2 n2 c2 l2) (hn : n ≤ 40) (hn2 : n2 ≤ 40) :
    Calls Tryd.prog 5 #[.int .i64 x0, .slice a n c, .slice a2 n2 c2, .int .i64 x3] w fun e w' => e = .returned (.bool true) ∧ Below w.heap.size w w' := by
  have t1 : decide ((40 : Int) < (n : Int)) = false := decide_eq_false (by omega)
  have t2 : decide ((40 : Int) < (n2 : Int)) = false := decide_eq_false (by omega)
  go_enter Tryd.func5, Tryd.ntmps5
  go_wp2_with fail
  refine (first_any w).mono ?_
  rintro e w1 ⟨rfl, B⟩
  replace r := r.below B
  replace r2 := r2.below B
  go_wp2_with fail
  refine (made_any x0 w1).mono ?_
  rintro e w2 ⟨s, be, ce, bl, rfl, F, b⟩
  replace r := r.below b
  replace r2 := r2.below b
  replace B := B.trans (b.mono B.size)
  clear b
  obtain ⟨m, hm⟩ : ∃ m, m = mk8 x0 := ⟨_, rfl⟩
  haveI M : Mid m := by rw [hm]; infer_instance
  rw [← hm] at F
  clear hm
  go_wp2_with fail
  clear t1 t2
  have HI := bm_inv (sr m l) n
  refine (locate_any a n c l w2 F r (sr m l) n (by omega) fun i _ => rfl).mono ?_
  rintro e w3 ⟨a3, n3, c3, rfl, P, b⟩
  replace r := r.below b
  replace r2 := r2.below b
  replace F := F.below M.lo b
  replace B := B.trans (b.mono B.size)
  clear b
  generalize bm (sr m l) n = t at HI P ⊢
  have hL : t.L ≤ n := HI.le
  obtain ⟨k, hk, hDg⟩ := nv_pos P (fun e => Fl.one_ne (K := El m) (HI.one ▸ congrFun e 0))
  have hn3 : n3 ≤ t.L + 1 := (NV.tight P HI.bd).le
  have HM : Hid (makesB t.c (sr m l) t.L n = true) := by
    show _ = _
    unfold makesB
    refine @decide_eq_true _ (Classical.propDecidable _) fun i h1 h2 => ?_
    rw [part_cv _ _ _ HI.bd (Nat.le_refl _)]
    exact HI.gn i h1 h2
  have hmk := makes_any (m := m) a3 n3 c3 (nums t.c n3) a n c l t.L w3 F P.row r (by omega) (by rw [sr_nums P.bd, HI.one]; exact Fl.one_ne) hL (by omega)
  rw [sr_nums P.bd, HM.out] at hmk
  clear HM
  have hcell := P.row.row 0 (by omega)
  rw [nums_at _ _ _ (by omega), HI.one] at hcell
  obtain ⟨bb, off, rfl, cc, _⟩ := hcell
  rw [Nat.add_zero] at cc
  replace cc : w3.cell? ⟨bb, off, none⟩ = some (.int .i64 1) := cc
  have H3 := Lib.hid (And.intro r (And.intro r2 (And.intro F B)))
  have HII := Lib.hid HI
  have hn1 : 0 < n3 := by omega
  clear hk hDg P r r2 F B HI
  go_wp2_with fail
  refine hmk.mono ?_
  rintro e w4 ⟨rfl, d⟩
  have b := d.below w3.heap.size
  replace cc := (b.cell (p := ⟨bb, off, none⟩) (World.block_lt_of_cell? w3 _ cc)).trans cc
  clear hmk
  have u1 : decide ((n : Int) < (t.L : Int)) = false := decide_eq_false (by omega)
  have u1' : decide (n < t.L) = false := decide_eq_false (by omega)
  have u2 : decide ((t.L : Int) + 1 < (n3 : Int)) = false := decide_eq_false (by omega)
  have u2' : decide (t.L + 1 < n3) = false := decide_eq_false (by omega)
  have u3 : decide ((n3 : Int) < 1) = false := decide_eq_false (by omega)
  have u4 : (0 : Int) < (n3 : Int) := by omega
  have H4 : Hid (RowZ w4 a n c l ∧ RowZ w4 a2 n2 c2 l2 ∧ FldAt m w4 s be ce bl ∧ Below w.heap.size w w4) := ⟨H3.out.1.below b, H3.out.2.1.below b, H3.out.2.2.1.below M.lo b, H3.out.2.2.2.trans (b.mono H3.out.2.2.2.size)⟩
  clear b d H3
  go_wp2_with fail
  refine (ints_any a2 n2 c2 l2 w4 H4.out.2.1 (by omega)).mono ?_
  rintro e w5 ⟨a5, c5, rfl, ho, b⟩
  have hs4 := b.size
  have H5 : Hid (RowZ w5 a n c l ∧ FldAt m w5 s be ce bl ∧ Below w.heap.size w w5 ∧ w.heap.size ≤ w4.heap.size) := ⟨H4.out.1.below b, H4.out.2.2.1.below M.lo b, H4.out.2.2.2.trans (b.mono H4.out.2.2.2.size), H4.out.2.2.2.size⟩
  have HB5 := Lib.hid b
  clear b u1 u1' u2 u2' u3 u4 cc
  by_cases hz : n2 = 0 ∨ t.L = 0
  · have v : ((n2 : Int) == 0) = true ∨ (((n2 : Int) == 0) = false ∧ ((t.L : Int) == 0) = true) := by
      by_cases h1 : n2 = 0
      · exact Or.inl (by rw [beq_iff_eq]; omega)
      · exact Or.inr ⟨by rw [beq_eq_false_iff_ne]; omega, by rw [beq_iff_eq]; omega⟩
    clear hz ho
    rcases v with v1 | ⟨v1, v2⟩
    all_goals
      go_wp2_with fail
      go_ret
      exact ⟨rfl, H5.out.2.2.1⟩
  · have v1 : ((n2 : Int) == 0) = false := by rw [beq_eq_false_iff_ne]; omega
    have v2 : ((t.L : Int) == 0) = false := by rw [beq_eq_false_iff_ne]; omega
    obtain ⟨g, cap, e, hbg, hlt, hnc, hcell⟩ := ho.cells (by omega)
    simp only [Value.slice.injEq] at e
    obtain ⟨rfl, _, rfl⟩ := e
    have c0 := hcell 0 (by omega)
    have f0 := own_free ho 0
    have rq := own_row ho rfl hnc (own_room ho).2
    have rq2 := rowz_put rq 0 (by omega) 1
    rw [Nat.zero_add] at rq2
    generalize nth64 l2 0 = z0 at c0
    obtain ⟨q, hq⟩ : ∃ q, q = l2.set 0 1 := ⟨_, rfl⟩
    rw [← hq] at rq2
    have hq0 : q.getD 0 0 = 1 := by
      rw [hq, List.getD_eq_getElem?_getD, List.getElem?_set_self (by have := rq.hlen; omega)]; rfl
    have b6 : Below w4.heap.size w4 (w5.setCell ⟨g, 0, none⟩ (.int .i64 1)) := HB5.out.setCell hbg _
    have H6 : Hid (RowZ (w5.setCell ⟨g, 0, none⟩ (.int .i64 1)) (some ⟨g, 0, none⟩) n2 c5 q ∧ RowZ (w5.setCell ⟨g, 0, none⟩ (.int .i64 1)) a n c l ∧ FldAt m (w5.setCell ⟨g, 0, none⟩ (.int .i64 1)) s be ce bl ∧ Below w.heap.size w (w5.setCell ⟨g, 0, none⟩ (.int .i64 1))) :=
      ⟨rq2, H4.out.1.below b6, H4.out.2.2.1.below M.lo b6, H4.out.2.2.2.trans (b6.mono H4.out.2.2.2.size)⟩
    have hm5 : n2 ≤ c5 := hnc
    have HQ0 := Lib.hid hq0
    obtain ⟨k, hk, ek⟩ := rem_in x3 t.L (by omega)
    obtain ⟨g1, g2⟩ := rem_lo x3 t.L (by omega)
    have g3 : ¬ ((t.L : Int) = 0) := by omega
    have u4 : (0 : Int) < (n2 : Int) := by omega
    have hL40 : t.L ≤ 40 := by omega
    clear b6 H4 H5 HB5 hq hq0 rq rq2 ho hcell hz hbg hlt hnc hs4
    generalize HW : w5.setCell ⟨g, 0, none⟩ (.int .i64 1) = w6 at H6
    obtain ⟨k5, hk5, hk6, hk7⟩ : ∃ k5, (k5 = k + 1 ∧ k + 1 < n2 ∨ k5 = n2 ∧ n2 ≤ k + 1) ∧ 0 < k5 ∧ k5 ≤ k + 1 := by
      by_cases h : k + 1 < n2
      · exact ⟨k + 1, Or.inl ⟨rfl, h⟩, by omega, Nat.le_refl _⟩
      · exact ⟨n2, Or.inr ⟨rfl, by omega⟩, by omega, by omega⟩
    have HC : Hid (Calls Tryd.prog 19 #[.pointer (some ⟨s, 0, none⟩), .slice (some ⟨g, 0, none⟩) k5 c5, .int .i64 (k : Int), .slice a n c] w6 fun e w' => e = .returned (.bool false) ∧ Drawn w6 w') := by
      have rt := H6.out.1.take k5 (by omega)
      have e0 : (q.take k5).getD 0 0 = 1 := by
        rw [List.getD_eq_getElem?_getD, List.getElem?_take_of_lt hk6, ← List.getD_eq_getElem?_getD]; exact HQ0.out
      have e1 : sr m (q.take k5) 0 = 1 := by
        show elm m ((q.take k5).getD 0 0) = 1
        rw [e0]; exact elm_zn (1 : El m)
      have h1 := makes_any (m := m) (some ⟨g, 0, none⟩) k5 c5 (q.take k5) a n c l k w6 H6.out.2.2.1 rt H6.out.2.1 hk6 (by rw [e1]; exact Fl.one_ne) (by omega) (by omega)
      rw [makes_less HII.out hk ((sr_bd _).mono (by rw [← rt.hlen]; exact hk7)) (by rw [e1]; exact Fl.one_ne)] at h1
      exact h1
    have HB6 : Hid (Below w.heap.size w w6) := H6.out.2.2.2
    clear H6 HQ0 HII hk6 hk7
    rcases hk5 with ⟨rfl, hk5⟩ | ⟨rfl, hk5⟩
    · have i1 : (k : Int) + 1 < (n2 : Int) := by omega
      have i2 : (k : Int) + 1 ≤ (c5 : Int) := by omega
      go_wp2_with fail
      refine HC.out.mono ?_
      rintro e w7 ⟨rfl, d⟩
      have B7 := HB6.out.trans (d.below _)
      clear d HC
      go_wp2_with fail
      go_ret
      exact ⟨rfl, B7⟩
    · have i1 : ¬ ((k : Int) + 1 < (k5 : Int)) := by omega
      go_wp2_with fail
      refine HC.out.mono ?_
      rintro e w7 ⟨rfl, d⟩
      have B7 := HB6.out.trans (d.below _)
      clear d HC
      go_wp2_with fail
      go_ret
      exact ⟨rfl, B7⟩
theorem walk (x0 : Int) (a1 : Option Addr) (len1 cap1 : Nat) (z1 : List Int) (a2 : Option Addr) (len2 cap2 : Nat) (z2 : List Int) (x3 : Int) (W : World) (w0 : (Lit.int .i64 x0).wf = true) (w1 : IsRow .i64 W a1 len1 cap1 z1) (w2 : IsRow .i64 W a2 len2 cap2 z2) (w3 : (Lit.int .i64 x3).wf = true) (h : LaidLocateMakes.Holds W) :
    Calls Tryd.prog 5 #[.int .i64 x0, .slice a1 len1 cap1, .slice a2 len2 cap2, .int .i64 x3] W fun e w' => e = .returned (.bool true) ∧ Below W.heap.size W w' := by
  by_cases k1 : len1 ≤ 40
  · by_cases k2 : len2 ≤ 40
    · exact core x0 a1 len1 cap1 _ a2 len2 cap2 _ x3 W (row_rowz w1) (row_rowz w2) k1 k2
    · exact long x0 a1 len1 cap1 a2 len2 cap2 x3 W (by omega)
  · exact long x0 a1 len1 cap1 a2 len2 cap2 x3 W (by omega)
end Go.Proofs.YtjpaihnnljpaeaaDoor.walkLocateMakes
