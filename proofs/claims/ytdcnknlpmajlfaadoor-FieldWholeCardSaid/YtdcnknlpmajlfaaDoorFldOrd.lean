/- The last methods of a field: orders, what is an element; the maker's error. By the verifier of shale. -/
import Derived.Test.YtdcnknlpmajlfaaDoorFldRef2
namespace Go.Proofs.YtdcnknlpmajlfaaDoor.Fld
open Go Go.RowKit Bits16
set_option linter.unusedVariables false
/-- is that a field's element? -/
def isB (m : Nat) (a : Int) : Bool := decide (0 ≤ a ∧ a < (els m : Int))
theorem divisor_at (a b x y : Int) (i j : Nat) (hx : x = (i : Int)) (hy : y = (j : Int)) (ha : i ≤ 1000000) (hb : j ≤ 1000000) (w : World) :
    Calls Tryd.prog 39 #[.int .i64 x, .int .i64 y] w fun e w' => e = .returned (.int .i64 (Nat.gcd i j : Int)) ∧ Drawn w w' := by
  subst hx hy; exact divisor_any i j ha hb w
theorem ret2_i64 {a b : Int} {v : Value} (e : a = b) : Ending.returned (.tuple #[.int .i64 a, v]) = Ending.returned (.tuple #[.int .i64 b, v]) := by rw [e]
section
variable {m s be ce bl : Nat}
set_option maxHeartbeats 400000 in
theorem is_any (a : Int) (w : World) (f : FldAt m w s be ce bl) :
    Calls Tryd.prog 28 #[.pointer (some ⟨s, 0, none⟩), .int .i64 a] w fun e w' => e = .returned (.bool (isB m a)) ∧ Drawn w w' := by
  obtain ⟨c0, c1, c2⟩ := f.cells
  have hc : (a < 0 ∧ isB m a = false) ∨ (0 ≤ a ∧ a < (els m : Int) ∧ isB m a = true) ∨ (0 ≤ a ∧ (els m : Int) ≤ a ∧ isB m a = false) := by
    unfold isB
    by_cases p : a < 0
    · exact Or.inl ⟨p, by simp; omega⟩
    · by_cases q : a < (els m : Int)
      · exact Or.inr (Or.inl ⟨by omega, q, by simp; omega⟩)
      · exact Or.inr (Or.inr ⟨by omega, by omega, by simp; omega⟩)
  clear f
  rcases hc with ⟨p, r⟩ | ⟨p, q, r⟩ | ⟨p, q, r⟩
  · rw [r]
    have t : decide (0 ≤ a) = false := by simp; omega
    clear r
    go_enter Tryd.func28, Tryd.ntmps28
    go_wp2
    go_ret
    exact ⟨rfl, Drawn.refl _⟩
  · rw [r]
    clear r
    go_enter Tryd.func28, Tryd.ntmps28
    go_wp2
    go_ret
    exact ⟨rfl, Drawn.refl _⟩
  · rw [r]
    have t : decide (a < (els m : Int)) = false := by simp; omega
    clear r
    go_enter Tryd.func28, Tryd.ntmps28
    go_wp2
    go_ret
    exact ⟨rfl, Drawn.refl _⟩
variable (h1 : 3 ≤ m) (h2 : m ≤ 14)
include h1 h2
set_option maxHeartbeats 400000 in
theorem order_zero (a : Int) (w : World) (f : FldAt m w s be ce bl) (h0 : el m a = 0) (p : Addr) (hs : Sent w 1 p) :
    Calls Tryd.prog 31 #[.pointer (some ⟨s, 0, none⟩), .int .i64 a] w fun e w' => e = .returned (.tuple #[.int .i64 0, errOf p]) ∧ Drawn w w' := by
  go_enter Tryd.func31, Tryd.ntmps31
  go_wp2_with fail
  refine (log_zero h1 h2 a _ f h0 p hs).mono ?_
  rintro e w1 ⟨rfl, d1⟩
  clear f h0 hs
  go_wp2_with fail
  go_ret2
  exact ⟨rfl, d1⟩
set_option maxHeartbeats 400000 in
theorem order_some (a : Int) (w : World) (f : FldAt m w s be ce bl) (h0 : el m a ≠ 0) :
    Calls Tryd.prog 31 #[.pointer (some ⟨s, 0, none⟩), .int .i64 a] w fun e w' => e = .returned (.tuple #[.int .i64 (ord m (el m a) : Int), .nilIface]) ∧ Drawn w w' := by
  obtain ⟨l1, l2⟩ := lg_spec m h1 h2 _ (el_lt m h2 a) h0
  have HL := Lib.hid (log_any h1 h2 a w f h0)
  obtain ⟨c0, c1, c2⟩ := f.cells
  have z1 := size_lo m h1
  have z2 := size_hi m h2
  have HD : Hid (∀ w, Calls Tryd.prog 39 #[.int .i64 (size m : Int), .int .i64 (lg m (el m a) : Int)] w fun e w' => e = .returned (.int .i64 (Nat.gcd (size m) (lg m (el m a)) : Int)) ∧ Drawn w w') :=
    fun w => divisor_any _ _ (by omega) (by omega) w
  have g0 : 0 < Nat.gcd (size m) (lg m (el m a)) := Nat.gcd_pos_of_pos_left _ (by omega)
  have HO : Hid (((size m / Nat.gcd (size m) (lg m (el m a)) : Nat) : Int) = (ord m (el m a) : Int)) := rfl
  clear l2 h0 f
  generalize ord m (el m a) = o at HO ⊢
  generalize Nat.gcd (size m) (lg m (el m a)) = g at g0 HD HO ⊢
  generalize lg m (el m a) = q at l1 HL HD ⊢
  generalize size m = n at *
  have HQ : Hid ((n : Int) / (g : Int) = ((n / g : Nat) : Int)) := by show _ = _; exact (Int.natCast_ediv _ _).symm
  have t0 : ((g : Int) == 0) = false := by rw [beq_eq_false_iff_ne]; omega
  have g1 : (0 : Int) < (g : Int) := by omega
  have n1 : (n : Int) / (g : Int) ≤ 16383 := by rw [← Int.natCast_ediv]; have := Nat.div_le_self n g; omega
  have n2 : 0 ≤ (n : Int) / (g : Int) := Int.ediv_nonneg (by omega) (by omega)
  have u1 : (n : Int).tdiv (g : Int) = (n : Int) / (g : Int) := Int.tdiv_eq_ediv_of_nonneg (by omega)
  have u2 : IntKind.i64.wrap ((n : Int) / (g : Int)) = (n : Int) / (g : Int) := IntWalk.i64_in _ (by omega)
  go_enter Tryd.func31, Tryd.ntmps31
  go_wp2_with fail
  refine HL.out.mono ?_
  rintro e w1 ⟨rfl, rfl⟩
  go_wp2_with fail
  go_quiet ((go_at_call 39; exact quiet_drawn (HD.out _)))
  go_wp2_with fail
  go_ret2
  exact ⟨ret2_i64 (by rw [HQ.out, HO.out]), Drawn.mk _ _⟩
end
set_option maxHeartbeats 400000 in
theorem new_out (m : Int) (hm : m < 3 ∨ 14 < m) (w : World) (p : Addr) (hs : Sent w 0 p) (hg : 0 < w.heap.size) :
    Calls Tryd.prog 12 #[.int .i64 m] w fun e w' => e = .returned (.tuple #[.pointer none, errOf p]) ∧ Below w.heap.size w w' := by
  have hp := fun w => poly_out m hm w
  have HP := Lib.hid hp
  have hs' : w.cell? ⟨0, 0, none⟩ = some (errOf p) := hs
  clear hp hs hm
  go_enter Tryd.func12, Tryd.ntmps12
  go_wp2_with fail
  refine (HP.out w).mono ?_
  rintro e w1 ⟨rfl, b1⟩
  have hs1 := (b1.cell (p := ⟨0, 0, none⟩) hg).trans hs'
  go_wp2_with fail
  go_quiet (fail)
  go_wp2_with fail
  go_ret2
  exact ⟨rfl, b1.trans ((Drawn.mk _ _).below _)⟩
end Go.Proofs.YtdcnknlpmajlfaaDoor.Fld
