/- The walk over FieldOrders. By the verifier of shale. -/
import Derived.Test.YtdcnknlpmajlfaaDoorFldFirst
import Derived.Test.YtdcnknlpmajlfaaDoorLaidFieldOrders
namespace Go.Proofs.YtdcnknlpmajlfaaDoor.walkFieldOrders
open Go Go.RowKit Bits16 Fld
set_option linter.unusedVariables false
set_option maxRecDepth 100000 in
set_option maxHeartbeats 2000000 in
theorem walk (z x : Int) (w : World) (_w0 : (Lit.int .i64 z).wf = true) (_w1 : (Lit.int .i64 x).wf = true) (hL : LaidFieldOrders.Holds w) :
    Calls Tryd.prog 7 #[.int .i64 z, .int .i64 x] w fun e w' => e = .returned (.bool true) ∧ Below w.heap.size w w' := by
  obtain ⟨g, ⟨E0, E1⟩, _⟩ := hL
  generalize g 0 = p at E0
  generalize g 1 = q at E1
  have l1 := made_lo z
  have l2 := made_hi z
  have HM := Lib.hid (made_any z)
  generalize made z = m at l1 l2 HM ⊢
  have ho := shl_one m l2
  have he : ((els m : Int) - 1) = (size m : Int) := by rw [els_eq]; omega
  have z1 := size_lo m l1
  have z2 := size_hi m l2
  have e1 := els_lo m l1
  have e2 := els_hi m l2
  obtain ⟨k, hk, hke, hkz⟩ := exp_norm m l1 l2 x
  have q1 := Int.tmod_lt_of_pos x (b := (size m : Int)) (by omega)
  have q2 : -(size m : Int) < x.tmod (size m : Int) := by
    have := Int.tmod_lt_of_pos (-x) (b := (size m : Int)) (by omega)
    rw [Int.neg_tmod] at this
    omega
  have HK := Lib.hid ((Int.add_emod_right _ _).trans hke)
  have HO : Hid (ord m (pwZ m (k : Int)) = size m / Nat.gcd k (size m)) := by
    show _ = _
    unfold ord
    rw [pwZ_nat m l1 l2, lg_pw m l1 l2 k hk, Nat.gcd_comm]
  have HE := Lib.hid (el_of m l2 _ (pwZ_lt m l1 l2 (k : Int)))
  have HN := pwZ_ne m l1 l2 (k : Int)
  clear hke hkz
  go_enter Tryd.func7, Tryd.ntmps7
  go_wp2_with fail
  refine (first_any w p q E0 E1).mono ?_
  rintro e w1 ⟨rfl, b1⟩
  go_wp2_with fail
  refine (HM.out w1).mono ?_
  rintro e w2 ⟨s, be, ce, bl, rfl, f, b2⟩
  have b2 := b1.trans (b2.mono b1.size)
  clear E0 E1 b1
  go_wp2_with fail
  rw [HK.out]
  have hgs : Nat.gcd k (size m) ≤ size m := Nat.le_of_dvd (by omega) (Nat.gcd_dvd_right _ _)
  have hgp : 0 < Nat.gcd k (size m) := Nat.gcd_pos_of_pos_right _ (by omega)
  go_loopg [9, 10] (size m) (fun g s9 s10 wx => ∃ i j : Nat, g = j ∧ i ≤ 16383 ∧ j ≤ 16383 ∧ s9 = .int .i64 (i : Int) ∧ s10 = .int .i64 (j : Int) ∧ Nat.gcd i j = Nat.gcd k (size m) ∧ FldAt m wx s be ce bl ∧ Below w.heap.size w wx)
  case atStart => exact ⟨k, size m, rfl, by omega, by omega, rfl, rfl, rfl, f, b2⟩
  case round =>
    obtain ⟨i, j, hg, hi, hj, rfl, rfl, hgcd, hf, hb⟩ := hrel
    have HG := Lib.hid hg
    have HC := Lib.hid hgcd
    clear hg hgcd
    by_cases h0 : j = 0
    · subst h0
      have HI : Hid (i = Nat.gcd k (size m)) := by show _ = _; rw [← HC.out, Nat.gcd_zero_right]
      have i0 : 0 < i := by rw [HI.out]; exact hgp
      have i1 : (0 : Int) < (i : Int) := by omega
      have t0 : ((i : Int) == 0) = false := by rw [beq_eq_false_iff_ne]; omega
      clear hgs hgp
      go_wp2_with fail
      refine (fexp_any l1 l2 _ _ hf).mono ?_
      rintro e w3 ⟨rfl, rfl⟩
      go_wp2_with fail
      refine (order_some l1 l2 _ _ hf (by rw [HE.out]; exact HN)).mono ?_
      rintro e w4 ⟨rfl, d⟩
      rw [HE.out, HO.out, ← HI.out]
      have b5 := hb.trans (d.below _)
      have hq : Hid (((size m / i : Nat) : Int) = (size m : Int) / (i : Int)) := by show _ = _; exact Int.natCast_ediv _ _
      rw [hq.out]
      have n1 : (size m : Int) / (i : Int) ≤ 16383 := by rw [← Int.natCast_ediv]; have := Nat.div_le_self (size m) i; omega
      have n2 : 0 ≤ (size m : Int) / (i : Int) := Int.ediv_nonneg (by omega) (by omega)
      have uw := IntWalk.wrap64_in ((size m : Int) / (i : Int)) (by omega)
      clear hf f d HN
      go_wp2_with fail
      go_ret
      exact ⟨rfl, b5⟩
    · have t : ((j : Int) != 0) = true := by rw [bne_iff_ne]; omega
      have t2 : ((j : Int) == 0) = false := by rw [beq_eq_false_iff_ne]; omega
      have y0 : 0 < (j : Int) := by omega
      have HMo : Hid ((i : Int) % (j : Int) = ((i % j : Nat) : Int)) := Int.natCast_emod i j ▸ rfl
      have hl := Nat.mod_lt i (Nat.pos_of_ne_zero h0)
      have u1 : (i : Int).tmod (j : Int) = (i : Int) % (j : Int) := Int.tmod_eq_emod_of_nonneg (by omega)
      clear h0
      go_wp2_with fail
      go_quiet (fail)
      go_wp2_with fail
      go_roundg (i % j)
      case measure => have := HG.out; omega
      case rel => exact ⟨j, i % j, rfl, hj, by omega, rfl, by rw [HMo.out], by rw [← HC.out, Nat.gcd_comm i j, Nat.gcd_rec j i]; exact Nat.gcd_comm _ _, hf.drawn l1 (Drawn.mk _ _), hb.trans ((Drawn.mk _ _).below _)⟩
end Go.Proofs.YtdcnknlpmajlfaaDoor.walkFieldOrders
