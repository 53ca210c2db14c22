/- The examples of chapter 2, as the statements ask them first of all; the field that a statement makes. By the verifier of shale. -/
import Derived.Test.YtdcnknlpmajlfaaDoorFldTrace
namespace Go.Proofs.YtdcnknlpmajlfaaDoor.Fld
open Go Go.RowKit Bits16
set_option linter.unusedVariables false
theorem v1 : h (pwZ 4 (-(lg 4 (el 4 2) : Int))) = 9 := by decide +kernel
theorem v2 : (lg 4 (el 4 3) : Int) = 4 := by decide +kernel
theorem v3 : (ord 4 (el 4 8) : Int) = 5 := by decide +kernel
theorem v4 : h (fmul 4 (el 4 8) (el 4 2)) = 3 := by decide +kernel
theorem v5 : h (fmul 4 (el 4 9) (el 4 9)) = 13 := by decide +kernel
theorem v6 : h (pwZ 4 4) = 3 := by decide +kernel
theorem v7 : h (powZ 4 (el 4 2) (-1)) = 9 := by decide +kernel
theorem v8 : h (powZ 4 (el 4 0) 0) = 1 := by decide +kernel
theorem v9 : h (tr 4 (el 4 8)) = 1 := by decide +kernel
theorem n2 : el 4 2 ≠ 0 := by decide +kernel
theorem n3 : el 4 3 ≠ 0 := by decide +kernel
theorem n8 : el 4 8 ≠ 0 := by decide +kernel
theorem z16 : el 4 16 = 0 := by decide +kernel
set_option maxRecDepth 100000 in
set_option maxHeartbeats 4000000 in
theorem first_any (w : World) (p q : Addr) (E0 : ErrAt w 0 p) (E1 : ErrAt w 1 q) :
    Calls Tryd.prog 9 #[] w fun e w' => e = .returned (.bool true) ∧ Below w.heap.size w w' := by
  have l3 : 3 ≤ 4 := by decide
  have l14 : 4 ≤ 14 := by decide
  have q1 := eql_err p
  have q2 := eql_err q
  go_enter Tryd.func9, Tryd.ntmps9
  go_wp2_with fail
  refine (new_any 4 l3 l14 w).mono ?_
  rintro e w1 ⟨s, be, ce, bl, rfl, f, b1⟩
  have E0 := E0.below b1
  have E1 := E1.below b1
  go_wp2_with fail
  refine (inv_any l3 l14 2 _ f n2).mono ?_
  rintro e w2 ⟨rfl, d⟩
  rw [v1]
  have f2 := f.drawn l3 d
  have E0 := E0.drawn d
  have E1 := E1.drawn d
  have b2 := b1.trans (d.below _)
  clear f b1 d
  go_wp2_with fail
  refine (log_any l3 l14 3 _ f2 n3).mono ?_
  rintro e w3 ⟨rfl, rfl⟩
  rw [v2]
  go_wp2_with fail
  refine (order_some l3 l14 8 _ f2 n8).mono ?_
  rintro e w3 ⟨rfl, d⟩
  rw [v3]
  have f3 := f2.drawn l3 d
  have E0 := E0.drawn d
  have E1 := E1.drawn d
  have b3 := b2.trans (d.below _)
  clear f2 b2 d
  go_wp2_with fail
  refine (inv_zero l3 l14 16 _ f3 z16 q E1.1).mono ?_
  rintro e w4 ⟨rfl, d⟩
  have f4 := f3.drawn l3 d
  have E0 := E0.drawn d
  have E1 := E1.drawn d
  have b4 := b3.trans (d.below _)
  clear f3 b3 d
  go_wp2_with fail
  refine (new_out 2 (Or.inl (by decide)) w4 p E0.1 E0.2.1).mono ?_
  rintro e w5 ⟨rfl, b⟩
  have f5 := f4.below l3 b
  have E0 := E0.below b
  have E1 := E1.below b
  have b5 := b4.trans (b.mono b4.size)
  clear f4 b4 b
  go_wp2_with fail
  refine (mul_any l3 l14 8 2 _ f5).mono ?_
  rintro e w6 ⟨rfl, d⟩
  rw [v4]
  have f6 := f5.drawn l3 d
  have E0 := E0.drawn d
  have E1 := E1.drawn d
  have b6 := b5.trans (d.below _)
  clear f5 b5 d
  go_wp2_with fail
  refine (mul_any l3 l14 9 9 _ f6).mono ?_
  rintro e w7 ⟨rfl, d⟩
  rw [v5]
  have f7 := f6.drawn l3 d
  have E0 := E0.drawn d
  have E1 := E1.drawn d
  have b7 := b6.trans (d.below _)
  clear f6 b6 d
  go_wp2_with fail
  refine (fexp_any l3 l14 4 _ f7).mono ?_
  rintro e w8 ⟨rfl, rfl⟩
  rw [v6]
  go_wp2_with fail
  refine (pow_any l3 l14 2 (-1) _ f7 q E1.1).mono ?_
  rintro e w8 ⟨rfl, d⟩
  rw [v7]
  have f8 := f7.drawn l3 d
  have E0 := E0.drawn d
  have E1 := E1.drawn d
  have b8 := b7.trans (d.below _)
  clear f7 b7 d
  go_wp2_with fail
  refine (pow_any l3 l14 0 0 _ f8 q E1.1).mono ?_
  rintro e w9 ⟨rfl, d⟩
  rw [v8]
  have f9 := f8.drawn l3 d
  have E0 := E0.drawn d
  have E1 := E1.drawn d
  have b9 := b8.trans (d.below _)
  clear f8 b8 d
  go_wp2_with fail
  refine (trace_any l3 l14 8 _ f9).mono ?_
  rintro e w10 ⟨rfl, b⟩
  rw [v9]
  have E0 := E0.below b
  have E1 := E1.below b
  have b10 := b9.trans (b.mono b9.size)
  have c0 := E0.1
  have c1 := E1.1
  unfold Sent at c0 c1
  clear f9 b9 b
  go_wp2_with fail
  go_ret
  exact ⟨rfl, b10⟩
/-- the field that a statement makes of any number. -/
def made (z : Int) : Nat := (z % 10).toNat + 3
theorem made_lo (z : Int) : 3 ≤ made z := by unfold made; omega
theorem made_hi (z : Int) : made z ≤ 14 := by unfold made; omega
/-- the maker's answer: a field, and its m. -/
def MadeAt (m : Nat) (w : World) (e : Ending) (w' : World) : Prop := ∃ s be ce bl, e = .returned (.tuple #[.pointer (some ⟨s, 0, none⟩), .int .i64 (m : Int)]) ∧ FldAt m w' s be ce bl ∧ Below w.heap.size w w'
set_option maxHeartbeats 400000 in
theorem made_any (z : Int) (w : World) : Calls Tryd.prog 13 #[.int .i64 z] w (MadeAt (made z) w) := by
  have a1 := Int.tmod_lt_of_pos z (b := 10) (by omega)
  have a2 : -10 < z.tmod 10 := by
    have := Int.tmod_lt_of_pos (-z) (b := 10) (by omega)
    rw [Int.neg_tmod] at this
    omega
  have HQ : Hid (z.tmod 10 % 10 + 3 = (made z : Int)) := by
    show _ = _
    unfold made
    have : z.tmod 10 % 10 = z % 10 := by rw [Int.tmod_eq_emod]; split <;> omega
    omega
  have l1 := made_lo z
  have l2 := made_hi z
  go_enter Tryd.func13, Tryd.ntmps13
  go_wp2_with fail
  rw [HQ.out]
  refine (new_any (made z) l1 l2 w).mono ?_
  rintro e w1 ⟨s, be, ce, bl, rfl, f, b1⟩
  go_wp2_with fail
  go_ret2
  exact ⟨s, be, ce, bl, rfl, f, b1⟩
end Go.Proofs.YtdcnknlpmajlfaaDoor.Fld
