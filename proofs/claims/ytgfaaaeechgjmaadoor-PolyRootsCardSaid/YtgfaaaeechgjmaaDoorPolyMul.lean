/- The walk over package fieldpoly's Mul. By the verifier of shale. -/
import Derived.Test.YtgfaaaeechgjmaaDoorPolyAdd
namespace Go.Proofs.YtgfaaaeechgjmaaDoor.Pl
open Go Go.RowKit Fld Bits16
set_option linter.unusedVariables false
section
variable {m : Nat} [M : Mid m]
theorem top_none {p : Ser (El m)} {n : Nat} (hb : Bd p n) (h0 : top p n = 0) : p = pz := by
  have := top_bd hb
  rw [h0] at this
  exact this.zero
theorem top_dg {p : Ser (El m)} {d : Nat} (h : Dg p d) : top p (d + 1) = d + 1 := top_some h.1
theorem dg_top {p : Ser (El m)} {n N : Nat} (hb : Bd p n) (hN : N + 1 = top p n) : Dg p N := by
  have := (top_ne (p := p) (n := n) (by omega)).resolve_right fun x => x hb
  rwa [← hN, Nat.add_sub_cancel] at this
theorem cutS_add (p : Ser (El m)) (k : Nat) : cutS p (k + 1) = padd (cutS p k) (mono k (p k)) := by
  funext i
  show (if i < k + 1 then p i else 0) = (if i < k then p i else 0) + (if i = k then p k else 0)
  by_cases h : i < k
  · rw [if_pos h, if_pos (by omega), if_neg (by omega), Fl.add_zero]
  · by_cases e : i = k
    · subst e; rw [if_neg h, if_pos (by omega), if_pos rfl, zero_add]
    · rw [if_neg h, if_neg (by omega), if_neg e, Fl.add_zero]
theorem mul_step (p q : Ser (El m)) (k : Nat) : padd (cv (cutS p k) q) (cv (mono k (p k)) q) = cv (cutS p (k + 1)) q := by rw [cutS_add, cv_add]
theorem out_nil (w w' : World) : Out m w w' none 0 0 pz := Or.inl ⟨rfl, rfl, rfl, rfl⟩
set_option maxRecDepth 100000 in
set_option maxHeartbeats 2000000 in
theorem pmul_any {g s be ce bl : Nat} (a1 : Option Addr) (n1 c1 : Nat) (l1 : List Int) (a2 : Option Addr) (n2 c2 : Nat) (l2 : List Int) (w : World) (R : RingAt m w g s be ce bl) (h1 : RowZ w a1 n1 c1 l1) (h2 : RowZ w a2 n2 c2 l2) (k1 : n1 ≤ 100000) (k2 : n2 ≤ 100000) (hlong : top (sr m l1) n1 + top (sr m l2) n2 ≤ 2048) :
    Calls Tryd.prog 11 #[.pointer (some ⟨g, 0, none⟩), .slice a1 n1 c1, .slice a2 n2 c2] w
      fun e w' => ∃ a' n' cap', e = .returned (.tuple #[.slice a' n' cap', .nilIface]) ∧ Out m w w' a' n' cap' (cv (sr m l1) (sr m l2)) ∧ Below w.heap.size w w' := by
  have HR := Lib.hid R
  have HP1 := Lib.hid h1
  have HP2 := Lib.hid h2
  have hb1 : Bd (sr m l1) n1 := by have := sr_bd (m := m) l1; rwa [← h1.hlen] at this
  have hb2 : Bd (sr m l2) n2 := by have := sr_bd (m := m) l2; rwa [← h2.hlen] at this
  have HB1 : Hid (Bd (sr m l1) (top (sr m l1) n1)) := top_bd hb1
  have HB2 : Hid (Bd (sr m l2) (top (sr m l2) n2)) := top_bd hb2
  obtain ⟨N1, hN1⟩ : ∃ N, N = top (sr m l1) n1 := ⟨_, rfl⟩
  obtain ⟨N2, hN2⟩ : ∃ N, N = top (sr m l2) n2 := ⟨_, rfl⟩
  rw [← hN1] at HB1 hlong
  rw [← hN2] at HB2 hlong
  have HN1 := Lib.hid hN1
  have HN2 := Lib.hid hN2
  have t1 : decide ((2048 : Int) < (N1 : Int) + (N2 : Int)) = false := decide_eq_false (by omega)
  have hz : (N1 = 0 ∨ N2 = 0) ∨ (N1 ≠ 0 ∧ N2 ≠ 0) := by omega
  have H0 : Hid ((N1 = 0 ∨ N2 = 0) → cv (sr m l1) (sr m l2) = pz) := fun h => by
    rcases h with h | h
    · rw [top_none hb1 (hN1.symm.trans h), cv_zero]
    · rw [top_none hb2 (hN2.symm.trans h), zero_cv]
  have HT : Hid (N1 ≠ 0 ∧ N2 ≠ 0 → Dg (cv (sr m l1) (sr m l2)) (N1 + N2 - 2)) := fun h => by
    have d1 := dg_top (N := N1 - 1) hb1 (by omega)
    have d2 := dg_top (N := N2 - 1) hb2 (by omega)
    have := d1.mul d2
    rwa [show N1 - 1 + (N2 - 1) = N1 + N2 - 2 by omega] at this
  clear R h1 h2 hb1 hb2 hN1 hN2
  go_enter Tryd.func11, Tryd.ntmps11
  go_wp2_with fail
  refine (trim_any a1 n1 c1 l1 w HR.out HP1.out (by omega)).mono ?_
  rintro e w1 ⟨rfl, hk1, b1⟩
  rw [← HN1.out] at hk1 ⊢
  go_wp2_with fail
  refine (trim_any a2 n2 c2 l2 w1 (HR.out.below b1) (HP2.out.below b1) (by omega)).mono ?_
  rintro e w2 ⟨rfl, hk2, b2⟩
  rw [← HN2.out] at hk2 ⊢
  have hg2 : w.heap.size < w1.heap.size := hk1.lt
  replace hk1 : Blk64 w2 w.heap.size (nums (sr m l1) N1) := (b2.block _ hk1.lt).trans hk1
  have B2 := b1.trans (b2.mono b1.size)
  have R2 := (HR.out.below b1).below b2
  obtain ⟨q1, q2, q3⟩ := HR.out.2.lt M.lo
  have hw2 := hk2.lt
  clear b1 b2 HP1 HP2
  rcases hz with hz | ⟨z1, z2⟩
  · have HZ := Lib.hid (H0.out hz)
    have tz : ((N1 : Int) == 0) = true ∨ (((N1 : Int) == 0) = false ∧ ((N2 : Int) == 0) = true) := by
      by_cases h : N1 = 0
      · exact Or.inl (by rw [h]; rfl)
      · exact Or.inr ⟨by rw [beq_eq_false_iff_ne]; omega, by rw [show N2 = 0 by omega]; rfl⟩
    clear hz hk1 hk2 R2
    rcases tz with t2 | ⟨t2, t3⟩
    all_goals
      go_wp2_with fail
      go_ret2
      exact ⟨none, 0, 0, rfl, by rw [HZ.out]; exact out_nil (m := m) w w2, B2⟩
  · have HTD := Lib.hid (HT.out ⟨z1, z2⟩)
    have t2 : ((N1 : Int) == 0) = false := by rw [beq_eq_false_iff_ne]; omega
    have t3 : ((N2 : Int) == 0) = false := by rw [beq_eq_false_iff_ne]; omega
    obtain ⟨N, hN⟩ : ∃ N, N = N1 + N2 - 1 := ⟨_, rfl⟩
    have eN : (N1 : Int) + (N2 : Int) - 1 = (N : Int) := by omega
    have hmk := made64 w2 N (by omega)
    rw [nums_pz (m := m)] at hmk
    have bl : Below w2.heap.size w2 (w2.alloc (obj64 (nums (pz : Ser (El m)) N))) := (Below.refl _ _).alloc (Nat.le_refl _) _
    have HK0 : Hid (Blk64 (w2.alloc (obj64 (nums (pz : Ser (El m)) N))) w2.heap.size (nums (pz : Ser (El m)) N)) := Blk64.new w2 _
    have HK1 : Hid (Blk64 (w2.alloc (obj64 (nums (pz : Ser (El m)) N))) w.heap.size (nums (sr m l1) N1)) := (bl.block _ hk1.lt).trans hk1
    have HK2 : Hid (Blk64 (w2.alloc (obj64 (nums (pz : Ser (El m)) N))) w1.heap.size (nums (sr m l2) N2)) := (bl.block _ hk2.lt).trans hk2
    have HR2 := Lib.hid (R2.below bl)
    have HBB := Lib.hid (B2.trans (bl.mono B2.size))
    have HNN := Lib.hid hN
    have hbs := B2.size
    have hN1 : N1 ≤ N := by omega
    have hN2 : N2 ≤ N := by omega
    have hNs : N1 + N2 = N + 1 := by omega
    clear hk1 hk2 R2 bl B2 hN H0 HT
    go_wp2_with fail
    clear hmk eN t1 t2 t3
    generalize w2.alloc (obj64 (nums (pz : Ser (El m)) N)) = w3 at HK0 HK1 HK2 HR2 HBB ⊢
    generalize hg3 : w2.heap.size = g3 at HK0 hw2 hbs ⊢
    have HG3 := Lib.hid hg3
    clear hg3
    generalize w1.heap.size = g2 at HK2 hw2 hg2 ⊢
    go_loopg [41] N1 (fun gh s41 wx => ∃ (i : Nat), gh = N1 - i ∧ i ≤ N1 ∧ s41 = .int .i64 (i : Int) ∧ Blk64 wx g3 (nums (cv (cutS (sr m l1) i) (sr m l2)) N) ∧ Upd g3 w3 wx)
    case atStart => exact ⟨0, rfl, by omega, rfl, by rw [cutS_zero, cv_zero]; exact HK0.out, Upd.refl _ _⟩
    case round =>
      clear HK0
      obtain ⟨i, hg, hin, rfl, hk, hU⟩ := hrel
      have HG := Lib.hid hg
      clear hg
      have hU : Upd g3 w3 wr := hU
      by_cases hlt : i < N1
      · have x1 : (i : Int) < (N1 : Int) := by omega
        have x0 : (0 : Int) ≤ (i : Int) := by omega
        have x2 : (i : Int) ≤ (N : Int) := by omega
        have x3 : ¬ N = i := by omega
        have c1 := (hU.cell (p := ⟨w.heap.size, i, none⟩) (by have := HK1.out.lt; exact this) (by show w.heap.size ≠ g3; omega)).trans (HK1.out.cell (i := i) (by rw [nums_length]; exact hlt))
        have e1 : nth64 (nums (sr m l1) N1) i = zn (sr m l1 i) := nums_at _ _ _ hlt
        rw [e1] at c1
        go_wp2_with fail
        have hk : Blk64 wr.drew g3 (nums (cv (cutS (sr m l1) i) (sr m l2)) N) := hk
        have hU : Upd g3 w3 wr.drew := hU.drew
        have c2 : wr.drew.cell? ⟨g, 0, none⟩ = some (.pointer (some ⟨s, 0, none⟩)) := (hU.cell (p := ⟨g, 0, none⟩) (World.block_lt_of_cell? _ _ HR2.out.cell) (by
          have h5 := World.block_lt_of_cell? _ _ HR.out.cell
          show g ≠ g3
          have h6 : g < w.heap.size := h5
          omega)).trans HR2.out.cell
        refine wp_region_still_tail 10 (by kernel_rfl) (by kernel_rfl) ?_
        simp only [List.take_succ_cons, List.take_zero, List.drop_succ_cons, List.drop_zero]
        change wpStill _ _ wr.drew (fun a' => wpList _ _ _ _ a' wr.drew) _ _
        clear c1 e1
        generalize wr.drew = w4 at hk hU c2 ⊢
        have HK := Lib.hid hk
        have HU := Lib.hid hU
        clear hk hU
        repeat still_step
        refine wpStill_nil ?_
        go_wp2_with fail
        have F4 := fld_upd HR2.out.2 HU.out (by omega) (by omega) (by omega)
        have row4 : RowZ w4 (some ⟨g2, 0, none⟩) N2 N2 (nums (sr m l2) N2) := by
          have h := Blk64.row HK2.out N2 (by rw [nums_length]; exact Nat.le_refl _) (by rw [nums_length]; omega)
          rw [nums_length, nums_take _ (Nat.le_refl _)] at h
          exact h.upd HU.out (fun bb o e _ => by simp only [Option.some.injEq, Addr.mk.injEq] at e; omega)
        refine (times_any g3 i (N - i) (N - i) N (cv (cutS (sr m l1) i) (sr m l2)) (some ⟨g2, 0, none⟩) N2 N2 (nums (sr m l2) N2) (zn (sr m l1 i)) w4 F4 HK.out (by omega) row4 (by omega) (by omega) (by omega) (by omega) (by omega) (fun bb o e _ => by simp only [Option.some.injEq, Addr.mk.injEq] at e; omega)).mono ?_
        rintro e w5 ⟨rfl, hk, hU⟩
        rw [elm_zn, sr_nums HB2.out, mul_step] at hk
        have hU5 : Upd g3 w3 w5 := HU.out.trans hU
        clear F4 row4 hU c2 HK HU
        go_wp2_with fail
        go_roundg (N1 - (i + 1))
        case measure => have := HG.out; omega
        case rel => exact ⟨i + 1, rfl, by omega, by go_num, hk, hU5⟩
      · obtain rfl : i = N1 := by omega
        rw [cutS_all HB1.out] at hk
        have HO : Hid (Out m w wr (some ⟨g3, 0, none⟩) N N (cv (sr m l1) (sr m l2))) := by
          have hd := HTD.out
          have e : i + N2 - 2 + 1 = N := by omega
          have h1 := top_dg hd
          have h2 := hd.2
          rw [e] at h1 h2
          exact Or.inr ⟨g3, N, rfl, by omega, by omega, rfl, hk, h1.symm, h2⟩
        have hB := HBB.out.trans (hU.toBelow (by omega) HBB.out.size)
        clear hk hU
        go_wp2_with fail
        go_ret2
        exact ⟨_, _, _, rfl, HO.out, hB⟩
end
end Go.Proofs.YtgfaaaeechgjmaaDoor.Pl
