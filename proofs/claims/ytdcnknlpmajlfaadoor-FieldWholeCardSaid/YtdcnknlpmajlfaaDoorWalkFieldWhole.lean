/- The walk over FieldWhole. By the verifier of shale. -/
import Derived.Test.YtdcnknlpmajlfaaDoorFldWhole
import Derived.Test.YtdcnknlpmajlfaaDoorLaidFieldWhole
namespace Go.Proofs.YtdcnknlpmajlfaaDoor.walkFieldWhole
open Go Go.RowKit Bits16 Fld Whole
set_option linter.unusedVariables false
/-- the m that the statement makes of any number. -/
def mOf (z : Int) : Nat := (z % 6).toNat + 3
theorem el_nat16 (m k : Nat) (h2 : m ≤ 14) (hk : k < els m) : el m (k : Int) = BitVec.ofNat 16 k := by
  have := els_hi m h2
  apply BitVec.eq_of_toNat_eq
  rw [el_nat m h2, BitVec.toNat_ofNat, BitVec.toNat_ofInt]
  have hk' : k < 2 ^ m := hk
  rw [show ((k : Int) % (2 ^ 64 : Nat)).toNat = k by omega, Nat.mod_eq_of_lt hk', Nat.mod_eq_of_lt (by omega)]
set_option maxRecDepth 1000000 in
set_option maxHeartbeats 20000000 in
theorem walk (z : Int) (w : World) (_w0 : (Lit.int .i64 z).wf = true) (hL : LaidFieldWhole.Holds w) :
    Calls Tryd.prog 6 #[.int .i64 z] w fun e w' => e = .returned (.bool true) ∧ Below w.heap.size w w' := by
  obtain ⟨ad, hE⟩ := hL
  have HE : AllErrs w ad := hE
  clear hE
  have l1 : 3 ≤ mOf z := by unfold mOf; omega
  have l2 : mOf z ≤ 8 := by unfold mOf; omega
  have l3 : mOf z ≤ 14 := by omega
  have a1 := Int.tmod_lt_of_pos z (b := 6) (by omega)
  have a2 : -6 < z.tmod 6 := by
    have := Int.tmod_lt_of_pos (-z) (b := 6) (by omega)
    rw [Int.neg_tmod] at this
    omega
  have HQ : Hid (z.tmod 6 % 6 + 3 = (mOf z : Int)) := by
    show _ = _
    unfold mOf
    have : z.tmod 6 % 6 = z % 6 := by rw [Int.tmod_eq_emod]; split <;> omega
    omega
  have HQ2 : Hid ((z.tmod 6 + 6) % 6 + 3 = (mOf z : Int)) := by
    show _ = _
    rw [Int.add_emod_right]; exact HQ.out
  generalize mOf z = m at l1 l2 l3 HQ HQ2
  go_enter Tryd.func6, Tryd.ntmps6
  go_wp2_with fail
  refine (first_any w _ _ HE.1.1 HE.1.2.2.1).mono ?_
  rintro e w1 ⟨rfl, B⟩
  replace HE := HE.below B
  go_wp2_with fail
  rw [HQ.out]
  refine (new_any m l1 l3 _).mono ?_
  rintro e w2 ⟨s, be, ce, bl, rfl, f, d⟩
  replace HE := HE.below d
  replace B := B.trans (d.mono B.size)
  clear d
  go_wp2_with fail
  refine (size_any _ f).mono ?_
  rintro e w3 ⟨rfl, rfl⟩
  have e1 := els_lo m l1
  have e2 := els_hi m l3
  have hmk := fun w => madeB w (els m) (by omega)
  have hb0 : BlkB (w2.alloc (objB (List.replicate (els m) false))) w2.heap.size (List.replicate (els m) false) := heap_alloc_new w2 _
  have c0 := hb0.cell (i := 0) (b := false) (by rw [List.getElem?_replicate, if_pos (by omega)])
  have c0f := hb0.free 0
  go_wp2_with fail
  have hb1 : BlkB ((w2.alloc (objB (List.replicate (els m) false))).setCell ⟨w2.heap.size, 0, none⟩ (.bool true)) w2.heap.size (seenL m 0) := by rw [← seenL_zero]; exact hb0.set 0 true
  have d0 : Below w2.heap.size w2 ((w2.alloc (objB (List.replicate (els m) false))).setCell ⟨w2.heap.size, 0, none⟩ (.bool true)) := ((Below.refl _ _).alloc (Nat.le_refl _) _).setCell (Nat.le_refl _) _
  clear hb0 c0 c0f hmk
  generalize (w2.alloc (objB (List.replicate (els m) false))).setCell ⟨w2.heap.size, 0, none⟩ (.bool true) = w3 at hb1 d0 ⊢
  have he1 := els_eq m
  have z1 := size_lo m l1
  have z2 : size m + 1 ≤ els m := by omega
  have z3 : els m ≤ size m + 1 := by omega
  clear he1
  go_loopg [8] (size m) (fun g s8 wx => ∃ k : Nat, g = size m - k ∧ k ≤ size m ∧ s8 = .int .i64 (k : Int) ∧ BlkB wx w2.heap.size (seenL m k) ∧ Below w2.heap.size w2 wx)
  case atStart => exact ⟨0, rfl, Nat.zero_le _, rfl, hb1, d0⟩
  case round =>
    obtain ⟨k, hg, hk, rfl, hbk, dk⟩ := hrel
    have HG := Lib.hid hg
    clear hg hb1 d0
    have fk := f.below l1 dk
    have y0 : (0 : Int) ≤ (k : Int) := by omega
    go_wp2_with fail
    refine (size_any _ fk).mono ?_
    rintro e w4 ⟨rfl, rfl⟩
    by_cases hlt : k < size m
    · have y1 : (k : Int) < (els m : Int) - 1 := by omega
      have HP := Lib.hid (pwZ_nat m l1 l3 k)
      have hp := (pw_ne m l1 l3 k).2
      have x1 := h_lo (pw m k)
      have x2 := el_h_lt m l3 _ hp
      have HI : isB m (h (pw m k)) = true := by unfold isB; rw [decide_eq_true_iff]; exact ⟨x1, x2⟩
      have c1 := hbk.cell (seenL_at m l1 l3 k hlt)
      have c1f := hbk.free (h (pw m k)).toNat
      go_wp2_with fail
      refine (fexp_any l1 l3 _ _ fk).mono ?_
      rintro e w4 ⟨rfl, rfl⟩
      rw [HP.out]
      go_wp2_with fail
      refine (is_any _ _ fk).mono ?_
      rintro e w4 ⟨rfl, dr⟩
      obtain ⟨nd, rfl⟩ := dr
      have HS := Lib.hid (seenL_set m l1 l3 k hlt)
      clear fk
      go_wp2_with fail
      go_roundg (size m - (k + 1))
      case measure => have := HG.out; omega
      case rel =>
        refine ⟨k + 1, rfl, by omega, by go_num, ?_, ?_⟩
        · rw [← HS.out]; exact BlkB.set (w := wr.drewN nd) hbk _ true
        · exact (below_drewN dk nd).setCell (p := ⟨w2.heap.size, _, none⟩) (Nat.le_refl _) _
    · have y1 : ¬ ((k : Int) < (els m : Int) - 1) := by omega
      replace HE := HE.below dk
      replace B := B.trans (dk.mono B.size)
      clear dk hbk hlt HG f
      go_wp2_with fail
      go_loopg [7, 10] (els m) (fun g s7 s10 wx => ∃ k : Nat, g = els m - k ∧ k ≤ els m ∧ s7 = .int .i64 (trSum m k : Int) ∧ s10 = .int .i64 (k : Int) ∧ FldAt m wx s be ce bl ∧ AllErrs wx ad ∧ Below w.heap.size w wx)
      case atStart => exact ⟨0, rfl, Nat.zero_le _, rfl, rfl, fk, HE, B⟩
      case round =>
        obtain ⟨k, hg, hk, rfl, rfl, f2, HE2, B2⟩ := hrel
        have HG := Lib.hid hg
        clear hg HE B fk
        have y0 : (0 : Int) ≤ (k : Int) := by omega
        have y2 := trSum_le m l1 l3 k hk
        go_wp2_with fail
        refine (size_any _ f2).mono ?_
        rintro e w4 ⟨rfl, rfl⟩
        by_cases hlt : k < els m
        · have hl : (BitVec.ofNat 16 k).toNat < 2 ^ m := by rw [BitVec.toNat_ofNat, Nat.mod_eq_of_lt (by omega)]; exact hlt
          have HN := Lib.hid (el_nat16 m k l3 hlt)
          go_wp2_with fail
          refine (trace_any l1 l3 _ _ f2).mono ?_
          rintro e w4 ⟨rfl, d⟩
          rw [HN.out]
          have f4 := f2.below l1 d
          have HE4 := HE2.below d
          have B4 := B2.trans (d.mono B2.size)
          clear d f2 HE2 B2
          rcases tr_01 m l1 l3 _ hl with e0 | e1
          · have HS : Hid (trSum m (k + 1) = trSum m k) := by show _ = _; simp only [trSum]; rw [e0]; rfl
            rw [show h (tr m (BitVec.ofNat 16 k)) = 0 by rw [e0]; rfl]
            clear e0
            go_wp2_with fail
            go_roundg (els m - (k + 1))
            case measure => have := HG.out; omega
            case rel => exact ⟨k + 1, rfl, by omega, by rw [HS.out], by go_num, f4, HE4, B4⟩
          · have HS : Hid (trSum m (k + 1) = trSum m k + 1) := by show _ = _; simp only [trSum]; rw [e1]; rfl
            rw [show h (tr m (BitVec.ofNat 16 k)) = 1 by rw [e1]; rfl]
            clear e1
            go_wp2_with fail
            go_roundg (els m - (k + 1))
            case measure => have := HG.out; omega
            case rel => exact ⟨k + 1, rfl, by omega, by rw [HS.out]; go_num, by go_num, f4, HE4, B4⟩
        · have HK : Hid (k = els m) := by show _ = _; omega
          have y1 : ¬ ((k : Int) < (els m : Int)) := by omega
          have HT := Lib.hid (half_traces m l1 l2)
          rw [show trSum m k = trSum m (els m) by rw [HK.out]]
          have y3 : (2 * (trSum m (els m) : Int) == (els m : Int)) = true := by rw [beq_iff_eq]; have := HT.out; omega
          have y4 : trSum m (els m) ≤ 16384 := by have := HT.out; omega
          clear hlt HG
          go_wp2_with fail
          refine (new_out (2 - (m : Int)) (Or.inl (by omega)) _ _ HE2.1.1.1 HE2.1.1.2.1).mono ?_
          rintro e w4 ⟨rfl, d⟩
          have f4 := f2.below l1 d
          have HE4 := HE2.below d
          have B4 := B2.trans (d.mono B2.size)
          clear d f2 HE2 B2
          go_wp2_with fail
          refine (size_any _ f4).mono ?_
          rintro e w5 ⟨rfl, rfl⟩
          go_wp2_with fail
          refine (see_err _ ad HE4 0 (by decide) 101 rfl).mono ?_
          rintro e w5 ⟨rfl, d⟩
          have B5 := B4.trans (d.mono B4.size)
          clear d f4 HE4
          go_wp2_with fail
          go_ret
          exact ⟨rfl, B5⟩
end Go.Proofs.YtdcnknlpmajlfaaDoor.walkFieldWhole
