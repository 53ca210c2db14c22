/- The statements' own fields (shaleref2): what each function answers. By the verifier of shale. -/
import Derived.Test.YtgfaaaeechgjmaaDoorFldOps
namespace Go.Proofs.YtgfaaaeechgjmaaDoor.Fld
open Go Go.RowKit Bits16
set_option linter.unusedVariables false
set_option maxHeartbeats 400000 in
theorem low_any (m : Nat) (h1 : 3 ≤ m) (h2 : m ≤ 14) (a : Int) : Gives 31 #[.int .i64 (m : Int), .int .i64 a] (.int .i64 (h (el m a))) := by
  intro w
  have ho := shl_one m h2
  have ha := and_els m h2 a
  have e1 := els_lo m h1
  have e2 := els_hi m h2
  go_enter Tryd.func31, Tryd.ntmps31
  go_wp2
  go_ret
  exact ⟨rfl, rfl⟩
set_option maxRecDepth 100000 in
set_option maxHeartbeats 1000000 in
theorem rpoly_in (m : Nat) (h1 : 3 ≤ m) (h2 : m ≤ 14) (w : World) :
    Calls Tryd.prog 45 #[.int .i64 (m : Int)] w fun e w' => e = .returned (.int .i64 (h (poly m))) ∧ Below w.heap.size w w' := by
  have hc := poly_nth m h1 h2
  have a1 : (3 : Int) ≤ (m : Int) := by omega
  have a2 : (m : Int) ≤ 14 := by omega
  go_enter Tryd.func45, Tryd.ntmps45
  go_wp2
  go_ret
  exact ⟨rfl, (Below.refl _ _).alloc (Nat.le_refl _) _⟩
set_option maxHeartbeats 400000 in
theorem rpoly_out (m : Int) (hm : m < 3 ∨ 14 < m) : Gives 45 #[.int .i64 m] (.int .i64 0) := by
  intro w
  rcases hm with hm | hm
  · go_enter Tryd.func45, Tryd.ntmps45
    go_wp2
    go_ret
    exact ⟨rfl, rfl⟩
  · have hm' : ¬ m < 3 := by omega
    have hm2 : 3 ≤ m := by omega
    go_enter Tryd.func45, Tryd.ntmps45
    go_wp2
    go_ret
    exact ⟨rfl, rfl⟩
/-- the loop of the product, its state behind k rounds: a doubled k times, the rest of b, the sum so far. -/
theorem mulN_more (m : Nat) (h1 : 3 ≤ m) (h2 : m ≤ 14) : ∀ (n : Nat) (a b : BitVec 16), b.toNat < 2 ^ n → mulN m (n + 1) a b = mulN m n a b
  | 0, a, b, hb => by
    have : b = 0 := BitVec.eq_of_toNat_eq (by show _ = 0; omega)
    subst this
    rw [mulN_zero, mulN_zero]
  | n + 1, a, b, hb => by
    have e1 : (b >>> 1).toNat = b.toNat / 2 := by rw [BitVec.toNat_ushiftRight, Nat.shiftRight_eq_div_pow]
    have e2 : 2 ^ (n + 1) = 2 * 2 ^ n := by rw [Nat.pow_succ, Nat.mul_comm]
    rw [mulN, mulN_more m h1 h2 n _ _ (by omega)]; rfl
theorem low_bit (b : BitVec 16) : (bits .and .i64 (h b) 1 == 1) = b.getLsbD 0 := by
  rw [show bits .and .i64 (h b) 1 = h (b &&& 1#16) by
    show IntKind.i64.wrap ((BitVec.ofInt 64 (h b) &&& BitVec.ofInt 64 1).toNat : Int) = _
    rw [BitVec.toNat_and, e64, show (BitVec.ofInt 64 1).toNat = (1#16 : BitVec 16).toNat by decide, ← BitVec.toNat_and]; exact w64 _]
  have e : (b &&& 1#16).toNat = b.toNat % 2 := by rw [BitVec.toNat_and]; exact Nat.and_one_is_mod _
  unfold h
  rw [e, BitVec.getLsbD, Nat.testBit_zero, Bool.eq_iff_iff, beq_iff_eq, decide_eq_true_iff]
  omega
theorem half (b : BitVec 16) : h b / 2 = h (b >>> 1) := by
  unfold h
  rw [BitVec.toNat_ushiftRight, Nat.shiftRight_eq_div_pow]; omega
/-- one round of the product's loop. -/
theorem mul_step (m : Nat) (h1 : 3 ≤ m) (h2 : m ≤ 14) (A B : BitVec 16) : mulN m 16 A B = (if B.getLsbD 0 then A else 0) ^^^ mulN m 16 (dbl m A) (B >>> 1) := by
  have e1 : (B >>> 1).toNat = B.toNat / 2 := by rw [BitVec.toNat_ushiftRight, Nat.shiftRight_eq_div_pow]
  rw [mulN_more m h1 h2 15 (dbl m A) (B >>> 1) (by have := B.isLt; omega)]; rfl
theorem top_bit (m : Nat) (h1 : 3 ≤ m) (h2 : m ≤ 14) (A : BitVec 16) (hA : A.toNat < 2 ^ m) :
    (((A <<< 1) >>> m).getLsbD 0 = true ∧ dbl m A = (A <<< 1) ^^^ poly m) ∨ (((A <<< 1) >>> m).getLsbD 0 = false ∧ dbl m A = A <<< 1) := by
  have hm := pow14 m h2
  have e1 : (A <<< 1).toNat = A.toNat * 2 := by
    rw [BitVec.toNat_shiftLeft, Nat.shiftLeft_eq, Nat.pow_one]; omega
  have e2 : ((A <<< 1) >>> m).toNat = A.toNat * 2 / 2 ^ m := by
    rw [BitVec.toNat_ushiftRight, e1, Nat.shiftRight_eq_div_pow]
  have h3 : A.toNat * 2 / 2 ^ m < 2 := Nat.div_lt_of_lt_mul (by omega)
  have hb : ((A <<< 1) >>> m).getLsbD 0 = decide (((A <<< 1) >>> m).toNat % 2 = 1) := by
    rw [BitVec.getLsbD, Nat.testBit_zero]
  by_cases h : (A <<< 1) >>> m = 0
  · refine Or.inr ⟨by rw [h]; rfl, if_pos h⟩
  · refine Or.inl ⟨?_, if_neg h⟩
    rw [hb, e2, decide_eq_true_iff]
    have : A.toNat * 2 / 2 ^ m ≠ 0 := fun h4 => h (BitVec.eq_of_toNat_eq (by rw [e2]; exact h4))
    generalize A.toNat * 2 / 2 ^ m = q at this h3
    omega
section
attribute [local go_sem] rxor
set_option maxRecDepth 100000 in
set_option maxHeartbeats 2000000 in
theorem rmul_any (m : Nat) (h1 : 3 ≤ m) (h2 : m ≤ 14) (a b : Int) (w : World) :
    Calls Tryd.prog 32 #[.int .i64 (m : Int), .int .i64 a, .int .i64 b] w fun e w' => e = .returned (.int .i64 (h (fmul m (el m a) (el m b)))) ∧ Below w.heap.size w w' := by
  have hla := el_lt m h2 a
  have hlb := el_lt m h2 b
  have hpl := low_any m h1 h2
  have hp14 := pow14 m h2
  have a1 : (3 : Int) ≤ (m : Int) := by omega
  have a2 : (m : Int) ≤ 14 := by omega
  go_enter Tryd.func32, Tryd.ntmps32
  go_wp2_with fail
  refine (hpl a w).mono ?_
  rintro e w1 ⟨rfl, rfl⟩
  go_wp2_with fail
  refine (hpl b w).mono ?_
  rintro e w1 ⟨rfl, rfl⟩
  go_wp2_with fail
  refine (rpoly_in m h1 h2 w).mono ?_
  rintro e w1 ⟨rfl, b1⟩
  clear hpl
  go_wp2_with fail
  go_loopg [1, 2, 8] (el m b).toNat (fun g s1 s2 s8 wx => ∃ A B X : BitVec 16, g = B.toNat ∧ A.toNat < 2 ^ m ∧ B.toNat < 2 ^ m ∧ s1 = .int .i64 (h A) ∧ s2 = .int .i64 (h B) ∧ s8 = .int .i64 (h X) ∧ X ^^^ mulN m 16 A B = fmul m (el m a) (el m b) ∧ w1 = wx)
  case atStart => exact ⟨el m a, el m b, 0, rfl, hla, hlb, rfl, rfl, rfl, BitVec.zero_xor, rfl⟩
  case round =>
    obtain ⟨A, B, X, hg, hA, hB, rfl, rfl, rfl, hinv, rfl⟩ := hrel
    have HG := Lib.hid hg
    have HI := Lib.hid hinv
    clear hg hinv hla hlb
    by_cases h0 : B = 0
    · have t : ¬ (0 < h B) := by subst h0; decide
      have HR : Hid (X = fmul m (el m a) (el m b)) := by
        show _ = _
        rw [← HI.out, h0, mulN_zero]; simp
      clear h0
      go_wp2_with fail
      go_ret
      exact ⟨ret_i64 (by rw [HR.out]), b1⟩
    · have hB0 := nat_pos B h0
      have t : 0 < h B := by unfold h; omega
      have s1 := fun yk => twice yk A (by omega)
      have s2 := half B
      have s3 := low_bit B
      have s4 := down (A <<< 1) m
      have s5 := low_bit ((A <<< 1) >>> m)
      have hh : (B >>> 1).toNat = B.toNat / 2 := by rw [BitVec.toNat_ushiftRight, Nat.shiftRight_eq_div_pow]
      have hd := dbl_lt m h1 h2 A hA
      have HS := Lib.hid (mul_step m h1 h2 A B)
      rw [← s4] at s5
      clear s4 h0
      rcases top_bit m h1 h2 A hA with ⟨q1, q2⟩ | ⟨q1, q2⟩
      all_goals
        rw [q1] at s5
        have HQ := Lib.hid q2
        clear q1 q2
        rcases hbit : B.getLsbD 0 with _ | _
        all_goals
          have HBt := Lib.hid hbit
          rw [hbit] at s3
          clear hbit
          go_wp2_with fail
          go_roundg (B >>> 1).toNat
          case measure => have := HG.out; omega
          case rel =>
            first
              | exact ⟨dbl m A, B >>> 1, X ^^^ A, rfl, hd, by omega, by rw [HQ.out], rfl, rfl, by rw [← HI.out, HS.out, HBt.out, if_pos rfl, BitVec.xor_assoc], rfl⟩
              | exact ⟨dbl m A, B >>> 1, X, rfl, hd, by omega, by rw [HQ.out], rfl, rfl, by rw [← HI.out, HS.out, HBt.out, if_neg (by decide), show ∀ y : BitVec 16, 0 ^^^ y = y from fun y => BitVec.zero_xor], rfl⟩
theorem rmul_at (m : Nat) (h1 : 3 ≤ m) (h2 : m ≤ 14) (x y : BitVec 16) (hx : x.toNat < 2 ^ m) (hy : y.toNat < 2 ^ m) (w : World) :
    Calls Tryd.prog 32 #[.int .i64 (m : Int), .int .i64 (h x), .int .i64 (h y)] w fun e w' => e = .returned (.int .i64 (h (fmul m x y))) ∧ Below w.heap.size w w' := by
  have := rmul_any m h1 h2 (h x) (h y) w
  rwa [el_of m h2 x hx, el_of m h2 y hy] at this
end
/-- the power's loop: what is left to do. -/
theorem pow_step (m : Nat) (h1 : 3 ≤ m) (h2 : m ≤ 14) (a x : BitVec 16) (ha : a.toNat < 2 ^ m) (hx : x.toNat < 2 ^ m) (n : Nat) :
    fmul m x (fpow m a n) = fmul m (if n % 2 = 1 then fmul m x a else x) (fpow m (fmul m a a) (n / 2)) := by
  rw [fpow_sq m h1 h2 a ha]
  by_cases hn : n % 2 = 1
  · rw [if_pos hn]
    obtain ⟨k, rfl⟩ : ∃ k, n = 2 * k + 1 := ⟨n / 2, by omega⟩
    rw [show (2 * k + 1) / 2 = k by omega, fpow, fmul_comm m h1 h2 (fpow m a (2 * k)) a (fpow_lt m h1 h2 a ha _) ha, fmul_assoc m h1 h2 x a _ hx ha (fpow_lt m h1 h2 a ha _)]
  · rw [if_neg hn, show 2 * (n / 2) = n by omega]
theorem odd_test (n : Nat) (hn : n < 1000000) : (bits .and .i64 (n : Int) 1 == 1) = decide (n % 2 = 1) := by
  have e : bits .and .i64 (n : Int) 1 = ((n % 2 : Nat) : Int) := by
    show IntKind.i64.wrap ((BitVec.ofInt 64 (n : Int) &&& BitVec.ofInt 64 1).toNat : Int) = _
    rw [BitVec.toNat_and, show (BitVec.ofInt 64 (n : Int)).toNat = n by rw [BitVec.toNat_ofInt]; omega, show (BitVec.ofInt 64 1).toNat = 1 by decide, Nat.and_one_is_mod]
    exact IntWalk.i64_in _ (by omega)
  rw [e, Bool.eq_iff_iff, beq_iff_eq, decide_eq_true_iff]
  omega
end Go.Proofs.YtgfaaaeechgjmaaDoor.Fld
