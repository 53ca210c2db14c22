/- The walk over FieldLaws. By the verifier of shale. -/
import Derived.Test.YtdcnknlpmajlfaaDoorFldAt
import Derived.Test.YtdcnknlpmajlfaaDoorLaidFieldLaws
import Derived.Outline
namespace Go.Proofs.YtdcnknlpmajlfaaDoor.walkFieldLaws
open Go Go.RowKit Bits16 Fld
set_option linter.unusedVariables false
theorem sentOf {w : World} {g : Nat} {a : Addr} (e : ErrAt w g a) : Sent w g a := e.1
theorem same {x y : BitVec 16} (e : x = y) : (h x == h y) = true := by rw [e]; exact beq_self_eq_true _
theorem pow_neg (m : Nat) (a : BitVec 16) (h0 : a ≠ 0) : powZ m a (-1) = pwZ m (-(lg m a : Int)) := by
  unfold powZ
  rw [if_neg h0]
  congr 1
  omega
section
variable (m : Nat) (h1 : 3 ≤ m) (h2 : m ≤ 14)
include h1 h2
theorem pow_back (a : BitVec 16) (ha : a.toNat < 2 ^ m) : powZ m a ((size m : Int) + 1) = a := by
  have z1 := size_lo m h1
  rcases el_cases m h1 h2 a ha with rfl | ⟨i, _, rfl⟩
  · unfold powZ; rw [if_pos rfl, if_neg (by omega)]
  · rw [powZ_pw m h1 h2, ← pwZ_nat m h1 h2 i]
    apply pwZ_congr
    rw [Int.mul_add, Int.mul_one, Int.add_comm, Int.add_mul_emod_self_right]
theorem exp_size : pwZ m (size m : Int) = 1 := by rw [pwZ_nat m h1 h2, pw_end m h1 h2]
theorem mul_inv (a : BitVec 16) (ha : a.toNat < 2 ^ m) (h0 : a ≠ 0) : fmul m a (pwZ m (-(lg m a : Int))) = 1 := by
  obtain ⟨l1, l2⟩ := lg_spec m h1 h2 a ha h0
  have e : a = pwZ m (lg m a : Int) := by rw [pwZ_nat m h1 h2, l2]
  have : fmul m (pwZ m (lg m a : Int)) (pwZ m (-(lg m a : Int))) = 1 := by
    rw [pwZ_mul m h1 h2, Int.add_right_neg]
    exact pwZ_nat m h1 h2 0
  rwa [← e] at this
theorem div_back (a b : BitVec 16) (ha : a.toNat < 2 ^ m) (hb : b.toNat < 2 ^ m) (h0 : a ≠ 0) : fmul m (fmul m a b) (pwZ m (-(lg m a : Int))) = b := by
  have hi := pwZ_lt m h1 h2 (-(lg m a : Int))
  rw [fmul_comm m h1 h2 a b ha hb, fmul_assoc m h1 h2 b a _ hb ha hi, mul_inv m h1 h2 a ha h0, fmul_one m h1 h2 b hb]
theorem exp_log (a : BitVec 16) (ha : a.toNat < 2 ^ m) (h0 : a ≠ 0) : pwZ m (lg m a : Int) = a := by
  rw [pwZ_nat m h1 h2, (lg_spec m h1 h2 a ha h0).2]
theorem pow_ord (a : BitVec 16) (ha : a.toNat < 2 ^ m) (h0 : a ≠ 0) : powZ m a (ord m a : Int) = 1 := by
  rw [powZ_nat m h1 h2 a ha]; exact (fpow_ord m h1 h2 a ha h0 _).2 (Nat.dvd_refl _)
end
set_option maxRecDepth 1000000 in
set_option maxHeartbeats 20000000 in
theorem walk (z a0 b0 c0 n0 o0 : Int) (w : World) (_w0 : (Lit.int .i64 z).wf = true) (_w1 : (Lit.int .i64 a0).wf = true) (_w2 : (Lit.int .i64 b0).wf = true) (_w3 : (Lit.int .i64 c0).wf = true) (_w4 : (Lit.int .i64 n0).wf = true) (_w5 : (Lit.int .i64 o0).wf = true) (hL : LaidFieldLaws.Holds w) :
    Calls Tryd.prog 5 #[.int .i64 z, .int .i64 a0, .int .i64 b0, .int .i64 c0, .int .i64 n0, .int .i64 o0] w fun e w' => e = .returned (.bool true) ∧ Below w.heap.size w w' := by
  obtain ⟨g, ⟨E0, E1⟩, _⟩ := hL
  generalize g 0 = p at E0
  generalize g 1 = q at E1
  have l1 := made_lo z
  have l2 := made_hi z
  have HM := Lib.hid (made_any z)
  generalize made z = m at l1 l2 HM ⊢
  have ho := shl_one m l2
  have he : ((els m : Int) - 1) = (size m : Int) := by rw [els_eq]; omega
  have z1 := size_lo m l1
  have z2 := size_hi m l2
  have e1 := els_lo m l1
  have e2 := els_hi m l2
  have HA := Lib.hid (low_any m l1 l2 a0)
  have HB := Lib.hid (low_any m l1 l2 b0)
  have HC := Lib.hid (low_any m l1 l2 c0)
  have ha := el_lt m l2 a0
  have hb := el_lt m l2 b0
  have hc := el_lt m l2 c0
  generalize el m a0 = a at HA ha
  generalize el m b0 = b at HB hb
  generalize el m c0 = c at HC hc
  obtain ⟨n, hn, hne⟩ : ∃ q : Nat, q ≤ 65535 ∧ bits .and .i64 n0 65535 = (q : Int) := Bits32.andMask n0 65535 (by decide)
  obtain ⟨o, hq, hoe⟩ : ∃ q : Nat, q ≤ 65535 ∧ bits .and .i64 o0 65535 = (q : Int) := Bits32.andMask o0 65535 (by decide)
  go_enter Tryd.func5, Tryd.ntmps5
  go_wp2_with fail
  refine (first_any w p q E0 E1).mono ?_
  rintro e w1 ⟨rfl, b1⟩
  have E1 := E1.below b1
  go_wp2_with fail
  refine (HM.out w1).mono ?_
  rintro e w2 ⟨s, be, ce, bl, rfl, f, b2⟩
  have E1 := E1.below b2
  have B := b1.trans (b2.mono b1.size)
  clear E0 b1 b2
  go_wp2_with fail
  refine (HA.out w2).mono ?_
  rintro e w3 ⟨rfl, rfl⟩
  go_wp2_with fail
  refine (HB.out w2).mono ?_
  rintro e w3 ⟨rfl, rfl⟩
  go_wp2_with fail
  refine (HC.out w2).mono ?_
  rintro e w3 ⟨rfl, rfl⟩
  clear HA HB HC HM
  have t1 := same (fmul_assoc m l1 l2 a b c ha hb hc).symm
  have t2 := same (fmul_comm m l1 l2 a b ha hb)
  have t3 := same (fmul_xor m a b c)
  have t4 := same (BitVec.xor_assoc a b c).symm
  have t5 : h 0#16 = 0 := rfl
  have t6 := same (square_xor m l1 l2 a b ha hb)
  have t7 := same (pow_back m l1 l2 a ha)
  have t8 := same (pwZ_mul m l1 l2 (n : Int) (o : Int)).symm
  have t9 : (h (pwZ m (size m : Int)) == 1) = true := same (exp_size m l1 l2)
  have t10 := same (powZ_pwZ m l1 l2 (n : Int) (o : Int))
  have t11 : (h (tr m (a ^^^ b)) == bits .xor .i64 (h (tr m a)) (h (tr m b))) = true := by rw [rxor]; exact same (tr_xor m l1 l2 a b ha hb)
  have t12 := same (tr_sq m l1 l2 a ha)
  have y1 : wrap64 ((n : Int) * (o : Int)) = (n : Int) * (o : Int) := by
    apply IntWalk.wrap64_in
    have : n * o ≤ 65535 * 65535 := Nat.mul_le_mul hn hq
    rw [← Int.natCast_mul]
    omega
  go_wp2_with (first
      | (go_at_call 20; (with_reducible refine (mul_one_at l1 l2 _ (by repeat' (first | assumption | refine fmul_lt m l1 l2 _ _ ?_ | refine xor_lt m _ _ ?_ ?_ | exact pwZ_lt m l1 l2 _ | exact powZ_lt m l1 l2 _ _)) _ f).mono ?_); rintro e w' ⟨rfl, d⟩; replace f := f.drawn l1 d; replace E1 := E1.drawn d; replace B := B.trans (d.below _); clear d)
      | (go_at_call 20; (with_reducible refine (mul_nil_at l1 l2 _ (by repeat' (first | assumption | refine fmul_lt m l1 l2 _ _ ?_ | refine xor_lt m _ _ ?_ ?_ | exact pwZ_lt m l1 l2 _ | exact powZ_lt m l1 l2 _ _)) _ f).mono ?_); rintro e w' ⟨rfl, d⟩; replace f := f.drawn l1 d; replace E1 := E1.drawn d; replace B := B.trans (d.below _); clear d)
      | (go_at_call 20; (with_reducible refine (mul_at l1 l2 _ _ (by repeat' (first | assumption | refine fmul_lt m l1 l2 _ _ ?_ | refine xor_lt m _ _ ?_ ?_ | exact pwZ_lt m l1 l2 _ | exact powZ_lt m l1 l2 _ _)) (by repeat' (first | assumption | refine fmul_lt m l1 l2 _ _ ?_ | refine xor_lt m _ _ ?_ ?_ | exact pwZ_lt m l1 l2 _ | exact powZ_lt m l1 l2 _ _)) _ f).mono ?_); rintro e w' ⟨rfl, d⟩; replace f := f.drawn l1 d; replace E1 := E1.drawn d; replace B := B.trans (d.below _); clear d)
      | (go_at_call 19; (with_reducible refine (add_at l1 l2 _ _ (by repeat' (first | assumption | refine fmul_lt m l1 l2 _ _ ?_ | refine xor_lt m _ _ ?_ ?_ | exact pwZ_lt m l1 l2 _ | exact powZ_lt m l1 l2 _ _)) (by repeat' (first | assumption | refine fmul_lt m l1 l2 _ _ ?_ | refine xor_lt m _ _ ?_ ?_ | exact pwZ_lt m l1 l2 _ | exact powZ_lt m l1 l2 _ _)) _ f).mono ?_); rintro e w' ⟨rfl, d⟩; replace f := f.drawn l1 d; replace E1 := E1.drawn d; replace B := B.trans (d.below _); clear d)
      | (go_at_call 24; (with_reducible refine (exp_at l1 l2 _ _ f).mono ?_); rintro e w' ⟨rfl, d⟩; replace f := f.drawn l1 d; replace E1 := E1.drawn d; replace B := B.trans (d.below _); clear d)
      | (go_at_call 22; (with_reducible refine (pow_at l1 l2 _ _ (by repeat' (first | assumption | refine fmul_lt m l1 l2 _ _ ?_ | refine xor_lt m _ _ ?_ ?_ | exact pwZ_lt m l1 l2 _ | exact powZ_lt m l1 l2 _ _)) _ f q (sentOf E1)).mono ?_); rintro e w' ⟨rfl, d⟩; replace f := f.drawn l1 d; replace E1 := E1.drawn d; replace B := B.trans (d.below _); clear d)
      | (go_at_call 26; (with_reducible refine (trace_at l1 l2 _ (by repeat' (first | assumption | refine fmul_lt m l1 l2 _ _ ?_ | refine xor_lt m _ _ ?_ ?_ | exact pwZ_lt m l1 l2 _ | exact powZ_lt m l1 l2 _ _)) _ f).mono ?_); rintro e w' ⟨rfl, d⟩; replace f := f.below l1 d; replace E1 := E1.below d; replace B := B.trans (d.mono B.size); clear d))
  · go_ret
    exact ⟨rfl, B⟩
  · have hz : (h a == 0) = false := by assumption
    have ha0 : a ≠ 0 := by
      intro e
      rw [e] at hz
      cases hz
    clear t1 t2 t3 t4 t5 t6 t7 t8 t9 t10 t11 t12 y1 hne hoe
    have s1 : (h (fmul m a (pwZ m (-(lg m a : Int)))) == 1) = true := same (mul_inv m l1 l2 a ha ha0)
    have s2 := same (exp_log m l1 l2 a ha ha0)
    have s4 : (h (powZ m a (ord m a : Int)) == 1) = true := same (pow_ord m l1 l2 a ha ha0)
    have s5 := same (div_back m l1 l2 a b ha hb ha0)
    have s6 := same (pow_neg m a ha0)
    have s7 := (lg_spec m l1 l2 a ha ha0).1
    obtain ⟨o1, o2, o3⟩ := ord_pos m l1 a
    have s8 : ((size m : Int) % (ord m a : Int) == 0) = true := by
      rw [beq_iff_eq, ← Int.natCast_emod, Nat.mod_eq_zero_of_dvd o3]; rfl
    have s9 : ((ord m a : Int) == 0) = false := by rw [beq_eq_false_iff_ne]; omega
    have s10 : (0 : Int) < (ord m a : Int) := by omega
    have s11 : (size m : Int).tmod (ord m a : Int) = (size m : Int) % (ord m a : Int) := Int.tmod_eq_emod_of_nonneg (by omega)
    clear o3
    have hbb : ((h b == 0) = true) ∨ ((h b == 0) = false ∧ (h (fmul m a b) != 0) = true) := by
      by_cases e : b = 0
      · exact Or.inl (h_zero e)
      · exact Or.inr ⟨h_not e, h_ne (y := 0) (fmul_ne m l1 l2 a b ha hb ha0 e)⟩
    rcases hbb with r1 | ⟨r1, r2⟩
    all_goals
      go_wp2_with (first
        | (go_at_call 20; (with_reducible refine (mul_at l1 l2 _ _ (by repeat' (first | assumption | refine fmul_lt m l1 l2 _ _ ?_ | refine xor_lt m _ _ ?_ ?_ | exact pwZ_lt m l1 l2 _ | exact powZ_lt m l1 l2 _ _)) (by repeat' (first | assumption | refine fmul_lt m l1 l2 _ _ ?_ | refine xor_lt m _ _ ?_ ?_ | exact pwZ_lt m l1 l2 _ | exact powZ_lt m l1 l2 _ _)) _ f).mono ?_); rintro e w' ⟨rfl, d⟩; replace f := f.drawn l1 d; replace E1 := E1.drawn d; replace B := B.trans (d.below _); clear d)
        | (go_at_call 24; (with_reducible refine (exp_at l1 l2 _ _ f).mono ?_); rintro e w' ⟨rfl, d⟩; replace f := f.drawn l1 d; replace E1 := E1.drawn d; replace B := B.trans (d.below _); clear d)
        | (go_at_call 22; (with_reducible refine (pow_at l1 l2 _ _ (by repeat' (first | assumption | refine fmul_lt m l1 l2 _ _ ?_ | refine xor_lt m _ _ ?_ ?_ | exact pwZ_lt m l1 l2 _ | exact powZ_lt m l1 l2 _ _)) _ f q (sentOf E1)).mono ?_); rintro e w' ⟨rfl, d⟩; replace f := f.drawn l1 d; replace E1 := E1.drawn d; replace B := B.trans (d.below _); clear d)
        | (go_at_call 16; (with_reducible refine (inv_at l1 l2 _ (by repeat' (first | assumption | refine fmul_lt m l1 l2 _ _ ?_ | refine xor_lt m _ _ ?_ ?_ | exact pwZ_lt m l1 l2 _ | exact powZ_lt m l1 l2 _ _)) ha0 _ f).mono ?_); rintro e w' ⟨rfl, d⟩; replace f := f.drawn l1 d; replace E1 := E1.drawn d; replace B := B.trans (d.below _); clear d)
        | (go_at_call 30; (with_reducible refine (log_at l1 l2 _ (by repeat' (first | assumption | refine fmul_lt m l1 l2 _ _ ?_ | refine xor_lt m _ _ ?_ ?_ | exact pwZ_lt m l1 l2 _ | exact powZ_lt m l1 l2 _ _)) ha0 _ f).mono ?_); rintro e w' ⟨rfl, d⟩; replace f := f.drawn l1 d; replace E1 := E1.drawn d; replace B := B.trans (d.below _); clear d)
        | (go_at_call 31; (with_reducible refine (order_at l1 l2 _ (by repeat' (first | assumption | refine fmul_lt m l1 l2 _ _ ?_ | refine xor_lt m _ _ ?_ ?_ | exact pwZ_lt m l1 l2 _ | exact powZ_lt m l1 l2 _ _)) ha0 _ f).mono ?_); rintro e w' ⟨rfl, d⟩; replace f := f.drawn l1 d; replace E1 := E1.drawn d; replace B := B.trans (d.below _); clear d)
        | (go_at_call 17; (with_reducible refine (div_at l1 l2 _ _ (by repeat' (first | assumption | refine fmul_lt m l1 l2 _ _ ?_ | refine xor_lt m _ _ ?_ ?_ | exact pwZ_lt m l1 l2 _ | exact powZ_lt m l1 l2 _ _)) (by repeat' (first | assumption | refine fmul_lt m l1 l2 _ _ ?_ | refine xor_lt m _ _ ?_ ?_ | exact pwZ_lt m l1 l2 _ | exact powZ_lt m l1 l2 _ _)) ha0 _ f).mono ?_); rintro e w' ⟨rfl, d⟩; replace f := f.drawn l1 d; replace E1 := E1.drawn d; replace B := B.trans (d.below _); clear d))
      go_ret
      exact ⟨rfl, B⟩
end Go.Proofs.YtdcnknlpmajlfaaDoor.walkFieldLaws
