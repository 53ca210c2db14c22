/- The statements' own fields (shaleref2): powers, inverses, logarithms, orders, traces. By the verifier of shale. -/
import Derived.Test.YtgfaaaeechgjmaaDoorFldRef
namespace Go.Proofs.YtgfaaaeechgjmaaDoor.Fld
open Go Go.RowKit Bits16
set_option linter.unusedVariables false
set_option maxRecDepth 100000 in
set_option maxHeartbeats 2000000 in
theorem rpower_any (m : Nat) (h1 : 3 ≤ m) (h2 : m ≤ 14) (a : Int) (n : Nat) (hn : n ≤ 16384) (w : World) :
    Calls Tryd.prog 46 #[.int .i64 (m : Int), .int .i64 a, .int .i64 (n : Int)] w fun e w' => e = .returned (.int .i64 (h (fpow m (el m a) n))) ∧ Below w.heap.size w w' := by
  have hla := el_lt m h2 a
  have hpl := low_any m h1 h2
  go_enter Tryd.func46, Tryd.ntmps46
  go_wp2_with fail
  refine (hpl a w).mono ?_
  rintro e w1 ⟨rfl, rfl⟩
  clear hpl
  go_wp2_with fail
  go_loopg [1, 2, 7] n (fun g s1 s2 s7 wx => ∃ (A X : BitVec 16) (k : Nat), g = k ∧ k ≤ 16384 ∧ A.toNat < 2 ^ m ∧ X.toNat < 2 ^ m ∧ s1 = .int .i64 (h A) ∧ s2 = .int .i64 (k : Int) ∧ s7 = .int .i64 (h X) ∧ fmul m X (fpow m A k) = fpow m (el m a) n ∧ Below w.heap.size w wx)
  case atStart => exact ⟨el m a, 1, n, rfl, hn, hla, one_lt m h1, rfl, rfl, rfl, one_fmul m h1 h2 _ (fpow_lt m h1 h2 _ hla n), Below.refl _ _⟩
  case round =>
    obtain ⟨A, X, k, hg, hk, hA, hX, rfl, rfl, rfl, hinv, hb⟩ := hrel
    have HG := Lib.hid hg
    have HI := Lib.hid hinv
    clear hg hinv hla
    by_cases h0 : k = 0
    · subst h0
      have HR : Hid (X = fpow m (el m a) n) := by
        show _ = _
        rw [← HI.out]; exact (fmul_one m h1 h2 X hX).symm
      go_wp2_with fail
      go_ret
      exact ⟨ret_i64 (by rw [HR.out]), hb⟩
    · have t : 0 < (k : Int) := by omega
      have t0 : 0 < k := by omega
      have s3 := odd_test k (by omega)
      have hh : Hid ((k : Int) / 2 = ((k / 2 : Nat) : Int)) := by show _ = _; omega
      have HS := Lib.hid (pow_step m h1 h2 A X hA hX k)
      clear h0
      by_cases ho : k % 2 = 1
      · have hmx := fmul_lt m h1 h2 X A hX
        have hma := fmul_lt m h1 h2 A A hA
        rw [show decide (k % 2 = 1) = true from decide_eq_true ho] at s3
        have HO := Lib.hid ho
        clear ho
        go_wp2_with fail
        refine (rmul_at m h1 h2 X A hX hA _).mono ?_
        rintro e w2 ⟨rfl, b2⟩
        have b2 := hb.trans (b2.mono hb.size)
        go_wp2_with fail
        refine (rmul_at m h1 h2 A A hA hA _).mono ?_
        rintro e w3 ⟨rfl, b3⟩
        have b3 := b2.trans (b3.mono b2.size)
        go_wp2_with fail
        go_roundg (k / 2)
        case measure => have := HG.out; omega
        case rel => exact ⟨fmul m A A, fmul m X A, k / 2, rfl, by omega, hma, hmx, rfl, by rw [hh.out], rfl, by rw [← HI.out, HS.out, if_pos HO.out], b3⟩
      · have hma := fmul_lt m h1 h2 A A hA
        rw [show decide (k % 2 = 1) = false from decide_eq_false ho] at s3
        have HO := Lib.hid ho
        clear ho
        go_wp2_with fail
        refine (rmul_at m h1 h2 A A hA hA _).mono ?_
        rintro e w3 ⟨rfl, b3⟩
        have b3 := hb.trans (b3.mono hb.size)
        go_wp2_with fail
        go_roundg (k / 2)
        case measure => have := HG.out; omega
        case rel => exact ⟨fmul m A A, X, k / 2, rfl, by omega, hma, hX, rfl, by rw [hh.out], rfl, by rw [← HI.out, HS.out, if_neg HO.out], b3⟩
theorem rpower_at (m : Nat) (h1 : 3 ≤ m) (h2 : m ≤ 14) (a x : Int) (n : Nat) (hx : x = (n : Int)) (hn : n ≤ 16384) (w : World) :
    Calls Tryd.prog 46 #[.int .i64 (m : Int), .int .i64 a, .int .i64 x] w fun e w' => e = .returned (.int .i64 (h (fpow m (el m a) n))) ∧ Below w.heap.size w w' := by
  subst hx; exact rpower_any m h1 h2 a n hn w
/-- an exponent brought into 0 .. size - 1 as the statements do. -/
theorem exp_norm (m : Nat) (h1 : 3 ≤ m) (h2 : m ≤ 14) (z : Int) : ∃ k : Nat, k < size m ∧ z.tmod (size m : Int) % (size m : Int) = (k : Int) ∧ z % (size m : Int) = (k : Int) := by
  have z1 := size_lo m h1
  have z2 := size_hi m h2
  have q1 := Int.tmod_lt_of_pos z (b := (size m : Int)) (by omega)
  have q2 : -(size m : Int) < z.tmod (size m : Int) := by
    have := Int.tmod_lt_of_pos (-z) (b := (size m : Int)) (by omega)
    rw [Int.neg_tmod] at this
    omega
  have hd : z % (size m : Int) = (z.tmod (size m : Int)) % (size m : Int) := by
    rw [Int.tmod_eq_emod]
    split
    · simp
    · rw [Int.natAbs_natCast, Int.sub_emod, Int.emod_self, Int.emod_emod, Int.sub_zero, Int.emod_emod]
  have n1 := Int.emod_nonneg z (b := (size m : Int)) (by omega)
  have n2 := Int.emod_lt_of_pos z (b := (size m : Int)) (by omega)
  refine ⟨(z % (size m : Int)).toNat, by omega, ?_, by omega⟩
  rw [← hd]
  omega
theorem el_two (m : Nat) (h1 : 3 ≤ m) (h2 : m ≤ 14) : el m 2 = pw m 1 := by
  have h8 := two_le m h1
  have e1 : pw m 1 = dbl m 1 := rfl
  have e2 : dbl m 1 = 2 := by
    rw [dbl_bit m h1 h2 1 (one_lt m h1)]
    have : (1 : BitVec 16).getLsbD (m - 1) = false := by
      rw [BitVec.getLsbD]
      exact Nat.testBit_lt_two_pow (show 1 < 2 ^ (m - 1) from Nat.one_lt_two_pow (by omega))
    rw [this, if_neg Bool.false_ne_true]; decide
  rw [e1, e2]
  exact el_of m h2 2 (by show 2 < _; omega)
set_option maxHeartbeats 400000 in
theorem rinv_any (m : Nat) (h1 : 3 ≤ m) (h2 : m ≤ 14) (a : Int) (h0 : el m a ≠ 0) (w : World) :
    Calls Tryd.prog 33 #[.int .i64 (m : Int), .int .i64 a] w fun e w' => e = .returned (.int .i64 (h (pwZ m (-(lg m (el m a) : Int))))) ∧ Below w.heap.size w w' := by
  have HR : Hid (fpow m (el m a) (els m - 2) = pwZ m (-(lg m (el m a) : Int))) := by
    show _ = _
    obtain ⟨l1, l2⟩ := lg_spec m h1 h2 _ (el_lt m h2 a) h0
    have z1 := size_lo m h1
    rw [← powZ_nat m h1 h2 _ (el_lt m h2 a)]
    unfold powZ
    rw [if_neg h0]
    apply pwZ_congr
    rw [els_eq, show size m + 1 - 2 = size m - 1 by omega, show ((size m - 1 : Nat) : Int) = (size m : Int) - 1 by omega, Int.mul_sub, Int.mul_one, Int.sub_emod, Int.mul_emod_left, ← Int.zero_emod (size m : Int), ← Int.sub_emod]
    simp
  have ho := shl_one m h2
  have e1 := els_lo m h1
  have e2 := els_hi m h2
  clear h0
  go_enter Tryd.func33, Tryd.ntmps33
  go_wp2_with fail
  refine (rpower_at m h1 h2 a _ (els m - 2) (by omega) (by omega) _).mono ?_
  rintro e w1 ⟨rfl, b1⟩
  rw [HR.out]
  go_wp2_with fail
  go_ret
  exact ⟨rfl, b1⟩
theorem rmul_two (m : Nat) (h1 : 3 ≤ m) (h2 : m ≤ 14) (k : Nat) (w : World) :
    Calls Tryd.prog 32 #[.int .i64 (m : Int), .int .i64 (h (pw m k)), .int .i64 2] w fun e w' => e = .returned (.int .i64 (h (pw m (k + 1)))) ∧ Below w.heap.size w w' := by
  have := rmul_any m h1 h2 (h (pw m k)) 2 w
  rwa [el_of m h2 _ (pw_ne m h1 h2 k).2, el_two m h1 h2, fmul_pw m h1 h2] at this
theorem h_ne {x y : BitVec 16} (e : x ≠ y) : (h x != h y) = true := by
  rw [bne_iff_ne]; exact fun e2 => e (h_inj _ _ e2)
theorem h_same {x y : BitVec 16} (e : x = y) : (h x != h y) = false := by subst e; simp
section
attribute [local go_sem] rxor
end
end Go.Proofs.YtgfaaaeechgjmaaDoor.Fld
