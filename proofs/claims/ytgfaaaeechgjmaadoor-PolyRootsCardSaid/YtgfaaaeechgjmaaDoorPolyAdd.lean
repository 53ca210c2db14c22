/- The walk over package fieldpoly's Add. By the verifier of shale. -/
import Derived.Test.YtgfaaaeechgjmaaDoorPolyTrim
namespace Go.Proofs.YtgfaaaeechgjmaaDoor.Pl
open Go Go.RowKit Fld Bits16
set_option linter.unusedVariables false
section
variable {m : Nat} [M : Mid m]
theorem add_step (P q : Ser (El m)) (n k : Nat) : (nums (padd P (cutS q k)) n).set k (zn (padd P (cutS q (k + 1)) k)) = nums (padd P (cutS q (k + 1))) n :=
  nums_set (padd P (cutS q k)) (padd P (cutS q (k + 1))) n k (fun j hj => by
    show P j + cutS q (k + 1) j = P j + cutS q k j
    unfold cutS
    by_cases h2 : j < k
    · rw [if_pos h2, if_pos (by omega)]
    · rw [if_neg h2, if_neg (by omega)])
theorem add_new (P : Ser (El m)) (l : List Int) (k : Nat) : h (el m (zn (padd P (cutS (sr m l) k) k)) ^^^ el m (l.getD k 0)) = zn (padd P (cutS (sr m l) (k + 1)) k) := by
  have e1 : el m (zn (padd P (cutS (sr m l) k) k)) = (padd P (cutS (sr m l) k) k).val := congrArg Subtype.val (elm_zn (padd P (cutS (sr m l) k) k))
  have e2 : padd P (cutS (sr m l) k) k = P k := by
    show P k + cutS (sr m l) k k = P k
    rw [show cutS (sr m l) k k = 0 from if_neg (by omega), Fl.add_zero]
  have e3 : padd P (cutS (sr m l) (k + 1)) k = P k + sr m l k := by
    show P k + cutS (sr m l) (k + 1) k = _
    rw [show cutS (sr m l) (k + 1) k = sr m l k from if_pos (by omega)]
  rw [e1, e2, e3]; rfl
set_option maxRecDepth 100000 in
set_option maxHeartbeats 2000000 in
theorem padd_any {g s be ce bl : Nat} (a1 : Option Addr) (n1 c1 : Nat) (l1 : List Int) (a2 : Option Addr) (n2 c2 : Nat) (l2 : List Int) (w : World) (R : RingAt m w g s be ce bl) (h1 : RowZ w a1 n1 c1 l1) (h2 : RowZ w a2 n2 c2 l2) (k1 : n1 ≤ 1000000) (k2 : n2 ≤ 1000000) :
    Calls Tryd.prog 16 #[.pointer (some ⟨g, 0, none⟩), .slice a1 n1 c1, .slice a2 n2 c2] w
      fun e w' => ∃ a' n' cap', e = .returned (.slice a' n' cap') ∧ Out m w w' a' n' cap' (padd (sr m l1) (sr m l2)) ∧ Below w.heap.size w w' := by
  have HR := Lib.hid R
  have HP1 := Lib.hid h1
  have HP2 := Lib.hid h2
  clear R h1 h2
  by_cases hc : n1 < n2
  · rw [padd_comm]
    have t : decide ((n1 : Int) < (n2 : Int)) = true := decide_eq_true (by omega)
    have hmk := made64 w n2 (by omega)
    rw [nums_pz (m := m)] at hmk
    have HB0 : Hid (Below w.heap.size w (w.alloc (obj64 (nums (pz : Ser (El m)) n2)))) := (Below.refl _ _).alloc (Nat.le_refl _) _
    have HK0 : Hid (Blk64 (w.alloc (obj64 (nums (pz : Ser (El m)) n2))) w.heap.size (nums (pz : Ser (El m)) n2)) := Blk64.new w _
    have HBP : Hid (Bd (sr m l2) n2) := by have := sr_bd (m := m) l2; rwa [← HP2.out.hlen] at this
    have HBQ : Hid (Bd (sr m l1) n1) := by have := sr_bd (m := m) l1; rwa [← HP1.out.hlen] at this
    go_enter Tryd.func16, Tryd.ntmps16
    go_wp2_with fail
    clear hmk
    go_loopg [24] n2 (fun gh s24 wx => ∃ (i : Nat), gh = n2 - i ∧ i ≤ n2 ∧ s24 = .int .i64 (i : Int) ∧ Blk64 wx w.heap.size (nums (cutS (sr m l2) i) n2) ∧ Below w.heap.size w wx)
    case atStart => exact ⟨0, rfl, by omega, rfl, by rw [cutS_zero]; exact HK0.out, HB0.out⟩
    case round =>
      clear HK0 HB0
      obtain ⟨i, hg, hin, rfl, hk, hB⟩ := hrel
      have HG := Lib.hid hg
      clear hg
      by_cases hlt : i < n2
      · have x1 : (i : Int) < (n2 : Int) := by omega
        have x0 : (0 : Int) ≤ (i : Int) := by omega
        obtain ⟨bb, off, rfl, c1, hb⟩ := (HP2.out.below hB).row i (by omega)
        have c3 := hk.cell (i := i) (by rw [nums_length]; exact hlt)
        have c4 := hk.free i
        have HS := Lib.hid (Blk64.lay hk (cutS_step (sr m l2) n2 i))
        have HSB : Hid (Below w.heap.size w (wr.setCell ⟨w.heap.size, i, none⟩ (.int .i64 (zn (sr m l2 i))))) := hB.setCell (p := ⟨w.heap.size, i, none⟩) (Nat.le_refl _) _
        have HRw := Lib.hid (HR.out.below hB)
        clear hk hB hb
        go_wp2_with fail
        refine (elem_any (l2.getD i 0) wr HRw.out).mono ?_
        rintro e w1 ⟨rfl, rfl⟩
        rw [sr_at]
        go_wp2_with fail
        go_roundg (n2 - (i + 1))
        case measure => have := HG.out; omega
        case rel => exact ⟨i + 1, rfl, by omega, by go_num, HS.out, HSB.out⟩
      · obtain rfl : i = n2 := by omega
        rw [cutS_all HBP.out] at hk
        go_wp2_with fail
        go_loopg [38] n1 (fun gh s38 wx => ∃ (j : Nat), gh = n1 - j ∧ j ≤ n1 ∧ s38 = .int .i64 (j : Int) ∧ Blk64 wx w.heap.size (nums (padd (sr m l2) (cutS (sr m l1) j)) i) ∧ Below w.heap.size w wx)
        case atStart => exact ⟨0, rfl, by omega, rfl, by rw [cutS_zero, padd_zero]; exact hk, hB⟩
        case round =>
          clear hk hB
          obtain ⟨j, hg, hjn, rfl, hk, hB⟩ := hrel
          have HG2 := Lib.hid hg
          clear hg
          by_cases hlt2 : j < n1
          · have y1 : (j : Int) < (n1 : Int) := by omega
            have y0 : (0 : Int) ≤ (j : Int) := by omega
            have y2 : (j : Int) < (i : Int) := by omega
            have hji : j < i := by omega
            obtain ⟨bb, off, rfl, c1, hb⟩ := (HP1.out.below hB).row j hlt2
            go_wp2_with fail
            have hk : Blk64 wr.drew w.heap.size (nums (padd (sr m l2) (cutS (sr m l1) j)) i) := hk
            have hB : Below w.heap.size w wr.drew := Below.drew hB
            refine wp_region_still_tail 13 (by kernel_rfl) (by kernel_rfl) ?_
            simp only [List.take_succ_cons, List.take_zero, List.drop_succ_cons, List.drop_zero]
            change wpStill _ _ wr.drew (fun a' => wpList _ _ _ _ a' wr.drew) _ _
            clear c1
            generalize wr.drew = w2 at hk hB ⊢
            have HRw := Lib.hid (HR.out.below hB).2
            have c0 := (HR.out.below hB).cell
            have c3 := hk.cell (i := j) (by rw [nums_length]; exact hji)
            have e3 : nth64 (nums (padd (sr m l2) (cutS (sr m l1) j)) i) j = zn (padd (sr m l2) (cutS (sr m l1) j) j) := nums_at _ _ _ hji
            rw [e3] at c3
            have c4 := hk.free j
            have HZ : Hid (h (el m (zn (padd (sr m l2) (cutS (sr m l1) j) j)) ^^^ el m (l1.getD j 0)) = zn (padd (sr m l2) (cutS (sr m l1) (j + 1)) j)) := add_new (sr m l2) l1 j
            have HS := Lib.hid (Blk64.lay hk (add_step (sr m l2) (sr m l1) i j))
            generalize zn (padd (sr m l2) (cutS (sr m l1) j) j) = z1 at c3 HZ
            generalize zn (padd (sr m l2) (cutS (sr m l1) (j + 1)) j) = z3 at HZ HS
            have HSB : Hid (Below w.heap.size w (w2.setCell ⟨w.heap.size, j, none⟩ (.int .i64 z3))) := hB.setCell (p := ⟨w.heap.size, j, none⟩) (Nat.le_refl _) _
            clear hk hB hb e3
            repeat still_step
            still_call ((add_any M.lo M.hi z1 (l1.getD j 0) w2 HRw.out).mono fun _ _ h => ⟨h.1, h.2.symm⟩)
            rw [HZ.out]
            repeat still_step
            refine wpStill_nil ?_
            go_wp2_with fail
            go_roundg (n1 - (j + 1))
            case measure => have := HG2.out; omega
            case rel => exact ⟨j + 1, rfl, by omega, by go_num, HS.out, HSB.out⟩
          · obtain rfl : j = n1 := by omega
            rw [cutS_all HBQ.out] at hk
            have hrow := Blk64.row hk i (by rw [nums_length]; exact Nat.le_refl _) (by rw [nums_length]; omega)
            rw [nums_length, nums_take _ (Nat.le_refl _)] at hrow
            have HK := Lib.hid hk
            have HRow := Lib.hid hrow
            clear hk hrow
            go_wp2_with fail
            refine (cut_any _ i i _ wr HRow.out).mono ?_
            rintro e w3 ⟨rfl, rfl⟩
            go_wp2_with fail
            go_ret
            exact ⟨_, _, _, rfl, Or.inr ⟨_, i, rfl, Nat.le_refl _, by omega, rfl, HK.out, rfl, (HBP.out.add (HBQ.out.mono (by omega)))⟩, hB⟩
  · have t : decide ((n1 : Int) < (n2 : Int)) = false := decide_eq_false (by omega)
    have hmk := made64 w n1 (by omega)
    rw [nums_pz (m := m)] at hmk
    have HB0 : Hid (Below w.heap.size w (w.alloc (obj64 (nums (pz : Ser (El m)) n1)))) := (Below.refl _ _).alloc (Nat.le_refl _) _
    have HK0 : Hid (Blk64 (w.alloc (obj64 (nums (pz : Ser (El m)) n1))) w.heap.size (nums (pz : Ser (El m)) n1)) := Blk64.new w _
    have HBP : Hid (Bd (sr m l1) n1) := by have := sr_bd (m := m) l1; rwa [← HP1.out.hlen] at this
    have HBQ : Hid (Bd (sr m l2) n2) := by have := sr_bd (m := m) l2; rwa [← HP2.out.hlen] at this
    go_enter Tryd.func16, Tryd.ntmps16
    go_wp2_with fail
    clear hmk
    go_loopg [24] n1 (fun gh s24 wx => ∃ (i : Nat), gh = n1 - i ∧ i ≤ n1 ∧ s24 = .int .i64 (i : Int) ∧ Blk64 wx w.heap.size (nums (cutS (sr m l1) i) n1) ∧ Below w.heap.size w wx)
    case atStart => exact ⟨0, rfl, by omega, rfl, by rw [cutS_zero]; exact HK0.out, HB0.out⟩
    case round =>
      clear HK0 HB0
      obtain ⟨i, hg, hin, rfl, hk, hB⟩ := hrel
      have HG := Lib.hid hg
      clear hg
      by_cases hlt : i < n1
      · have x1 : (i : Int) < (n1 : Int) := by omega
        have x0 : (0 : Int) ≤ (i : Int) := by omega
        obtain ⟨bb, off, rfl, c1, hb⟩ := (HP1.out.below hB).row i (by omega)
        have c3 := hk.cell (i := i) (by rw [nums_length]; exact hlt)
        have c4 := hk.free i
        have HS := Lib.hid (Blk64.lay hk (cutS_step (sr m l1) n1 i))
        have HSB : Hid (Below w.heap.size w (wr.setCell ⟨w.heap.size, i, none⟩ (.int .i64 (zn (sr m l1 i))))) := hB.setCell (p := ⟨w.heap.size, i, none⟩) (Nat.le_refl _) _
        have HRw := Lib.hid (HR.out.below hB)
        clear hk hB hb
        go_wp2_with fail
        refine (elem_any (l1.getD i 0) wr HRw.out).mono ?_
        rintro e w1 ⟨rfl, rfl⟩
        rw [sr_at]
        go_wp2_with fail
        go_roundg (n1 - (i + 1))
        case measure => have := HG.out; omega
        case rel => exact ⟨i + 1, rfl, by omega, by go_num, HS.out, HSB.out⟩
      · obtain rfl : i = n1 := by omega
        rw [cutS_all HBP.out] at hk
        go_wp2_with fail
        go_loopg [38] n2 (fun gh s38 wx => ∃ (j : Nat), gh = n2 - j ∧ j ≤ n2 ∧ s38 = .int .i64 (j : Int) ∧ Blk64 wx w.heap.size (nums (padd (sr m l1) (cutS (sr m l2) j)) i) ∧ Below w.heap.size w wx)
        case atStart => exact ⟨0, rfl, by omega, rfl, by rw [cutS_zero, padd_zero]; exact hk, hB⟩
        case round =>
          clear hk hB
          obtain ⟨j, hg, hjn, rfl, hk, hB⟩ := hrel
          have HG2 := Lib.hid hg
          clear hg
          by_cases hlt2 : j < n2
          · have y1 : (j : Int) < (n2 : Int) := by omega
            have y0 : (0 : Int) ≤ (j : Int) := by omega
            have y2 : (j : Int) < (i : Int) := by omega
            have hji : j < i := by omega
            obtain ⟨bb, off, rfl, c1, hb⟩ := (HP2.out.below hB).row j hlt2
            go_wp2_with fail
            have hk : Blk64 wr.drew w.heap.size (nums (padd (sr m l1) (cutS (sr m l2) j)) i) := hk
            have hB : Below w.heap.size w wr.drew := Below.drew hB
            refine wp_region_still_tail 13 (by kernel_rfl) (by kernel_rfl) ?_
            simp only [List.take_succ_cons, List.take_zero, List.drop_succ_cons, List.drop_zero]
            change wpStill _ _ wr.drew (fun a' => wpList _ _ _ _ a' wr.drew) _ _
            clear c1
            generalize wr.drew = w2 at hk hB ⊢
            have HRw := Lib.hid (HR.out.below hB).2
            have c0 := (HR.out.below hB).cell
            have c3 := hk.cell (i := j) (by rw [nums_length]; exact hji)
            have e3 : nth64 (nums (padd (sr m l1) (cutS (sr m l2) j)) i) j = zn (padd (sr m l1) (cutS (sr m l2) j) j) := nums_at _ _ _ hji
            rw [e3] at c3
            have c4 := hk.free j
            have HZ : Hid (h (el m (zn (padd (sr m l1) (cutS (sr m l2) j) j)) ^^^ el m (l2.getD j 0)) = zn (padd (sr m l1) (cutS (sr m l2) (j + 1)) j)) := add_new (sr m l1) l2 j
            have HS := Lib.hid (Blk64.lay hk (add_step (sr m l1) (sr m l2) i j))
            generalize zn (padd (sr m l1) (cutS (sr m l2) j) j) = z1 at c3 HZ
            generalize zn (padd (sr m l1) (cutS (sr m l2) (j + 1)) j) = z3 at HZ HS
            have HSB : Hid (Below w.heap.size w (w2.setCell ⟨w.heap.size, j, none⟩ (.int .i64 z3))) := hB.setCell (p := ⟨w.heap.size, j, none⟩) (Nat.le_refl _) _
            clear hk hB hb e3
            repeat still_step
            still_call ((add_any M.lo M.hi z1 (l2.getD j 0) w2 HRw.out).mono fun _ _ h => ⟨h.1, h.2.symm⟩)
            rw [HZ.out]
            repeat still_step
            refine wpStill_nil ?_
            go_wp2_with fail
            go_roundg (n2 - (j + 1))
            case measure => have := HG2.out; omega
            case rel => exact ⟨j + 1, rfl, by omega, by go_num, HS.out, HSB.out⟩
          · obtain rfl : j = n2 := by omega
            rw [cutS_all HBQ.out] at hk
            have hrow := Blk64.row hk i (by rw [nums_length]; exact Nat.le_refl _) (by rw [nums_length]; omega)
            rw [nums_length, nums_take _ (Nat.le_refl _)] at hrow
            have HK := Lib.hid hk
            have HRow := Lib.hid hrow
            clear hk hrow
            go_wp2_with fail
            refine (cut_any _ i i _ wr HRow.out).mono ?_
            rintro e w3 ⟨rfl, rfl⟩
            go_wp2_with fail
            go_ret
            exact ⟨_, _, _, rfl, Or.inr ⟨_, i, rfl, Nat.le_refl _, by omega, rfl, HK.out, rfl, (HBP.out.add (HBQ.out.mono (by omega)))⟩, hB⟩
end
end Go.Proofs.YtgfaaaeechgjmaaDoor.Pl
