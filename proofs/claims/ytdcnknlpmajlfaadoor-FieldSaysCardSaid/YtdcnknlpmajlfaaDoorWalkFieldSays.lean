/- The walk over FieldSays. By the verifier of shale. -/
import Derived.Test.YtdcnknlpmajlfaaDoorFldAt
import Derived.Test.YtdcnknlpmajlfaaDoorLaidFieldSays
namespace Go.Proofs.YtdcnknlpmajlfaaDoor.walkFieldSays
open Go Go.RowKit Bits16 Fld
set_option linter.unusedVariables false
theorem sentOf {w : World} {g : Nat} {a : Addr} (e : ErrAt w g a) : Sent w g a := e.1
theorem neq_err (a : Addr) (w : World) : (binOp .neq 26 (errOf a) (errOf a)).run Tryd.prog w = .ok (.bool false) w := by
  obtain ⟨i, hi, hc⟩ := Option.map_eq_some_iff.1 compErr
  obtain ⟨j, hj, _⟩ := Option.map_eq_some_iff.1 sizeErr
  simp only [binOp]
  simp [Op.equal, Op.maxDepth, run_equalIn_iface_ptr_same w 9998 a Tryd.underlying26 Tryd.underlying67 hi hc hj]
/-- an error where there is one, none where there is none. -/
def errIf (b : Bool) (p : Addr) : Value := if b then errOf p else .nilIface
/-- a number where there is one, 0 where there is none. -/
def numIf (b : Bool) (x : Int) : Int := if b then 0 else x
theorem is_both {m s be ce bl : Nat} (a : Int) (w : World) (f : FldAt m w s be ce bl) :
    Calls Tryd.prog 28 #[.pointer (some ⟨s, 0, none⟩), .int .i64 a] w fun e w' => e = .returned (.bool (decide (0 ≤ a) && decide (a < (els m : Int)))) ∧ Drawn w w' := by
  refine (is_any a w f).mono fun e w' ⟨x, y⟩ => ⟨?_, y⟩
  rw [x]; unfold isB; rw [Bool.decide_and]
/-- the maker's answer, whatever was asked: some field or none, and this error. -/
def NewIs (ev : Value) (w : World) (e : Ending) (w' : World) : Prop := ∃ v, e = .returned (.tuple #[v, ev]) ∧ Below w.heap.size w w'
/-- the polynomial of any number. -/
def polyZ (z : Int) : Int := if 3 ≤ z ∧ z ≤ 14 then h (poly z.toNat) else 0
theorem poly_both (z : Int) (w : World) : Calls Tryd.prog 10 #[.int .i64 z] w fun e w' => e = .returned (.int .i64 (polyZ z)) ∧ Below w.heap.size w w' := by
  unfold polyZ
  by_cases hz : 3 ≤ z ∧ z ≤ 14
  · rw [if_pos hz]
    have := poly_in z.toNat (by omega) (by omega) w
    rwa [show ((z.toNat : Nat) : Int) = z by omega] at this
  · rw [if_neg hz]; exact poly_out z (by omega) w
theorem rpoly_both (z : Int) (w : World) : Calls Tryd.prog 11 #[.int .i64 z] w fun e w' => e = .returned (.int .i64 (polyZ z)) ∧ Below w.heap.size w w' := by
  unfold polyZ
  by_cases hz : 3 ≤ z ∧ z ≤ 14
  · rw [if_pos hz]
    have := rpoly_in z.toNat (by omega) (by omega) w
    rwa [show ((z.toNat : Nat) : Int) = z by omega] at this
  · rw [if_neg hz]; exact (rpoly_out z (by omega) w).mono fun e w' ⟨x, y⟩ => ⟨x, y ▸ Below.refl _ _⟩
section
variable {m s be ce bl : Nat} (h1 : 3 ≤ m) (h2 : m ≤ 14)
include h1 h2
theorem inv_both (a : Int) (w : World) (f : FldAt m w s be ce bl) (p : Addr) (hs : Sent w 1 p) :
    Calls Tryd.prog 16 #[.pointer (some ⟨s, 0, none⟩), .int .i64 a] w fun e w' => e = .returned (.tuple #[.int .i64 (numIf (h (el m a) == 0) (h (pwZ m (-(lg m (el m a) : Int))))), errIf (h (el m a) == 0) p]) ∧ Drawn w w' := by
  by_cases h0 : el m a = 0
  · rw [h_zero h0]; exact inv_zero h1 h2 a w f h0 p hs
  · rw [h_not h0]; exact inv_any h1 h2 a w f h0
theorem div_both (a b : Int) (w : World) (f : FldAt m w s be ce bl) (p : Addr) (hs : Sent w 1 p) :
    Calls Tryd.prog 17 #[.pointer (some ⟨s, 0, none⟩), .int .i64 a, .int .i64 b] w fun e w' => e = .returned (.tuple #[.int .i64 (numIf (h (el m b) == 0) (h (fmul m (el m a) (pwZ m (-(lg m (el m b) : Int)))))), errIf (h (el m b) == 0) p]) ∧ Drawn w w' := by
  by_cases h0 : el m b = 0
  · rw [h_zero h0]; exact div_zero h1 h2 a b w f h0 p hs
  · rw [h_not h0]; exact div_any h1 h2 a b w f h0
theorem add_drawn (a b : Int) (w : World) (f : FldAt m w s be ce bl) :
    Calls Tryd.prog 19 #[.pointer (some ⟨s, 0, none⟩), .int .i64 a, .int .i64 b] w fun e w' => e = .returned (.int .i64 (h (el m a ^^^ el m b))) ∧ Drawn w w' :=
  (add_any h1 h2 a b w f).mono fun e w' ⟨x, y⟩ => ⟨x, y ▸ Drawn.refl _⟩
end
set_option maxRecDepth 1000000 in
set_option maxHeartbeats 20000000 in
theorem walk (z a b n : Int) (w : World) (_w0 : (Lit.int .i64 z).wf = true) (_w1 : (Lit.int .i64 a).wf = true) (_w2 : (Lit.int .i64 b).wf = true) (_w3 : (Lit.int .i64 n).wf = true) (hL : LaidFieldSays.Holds w) :
    Calls Tryd.prog 3 #[.int .i64 z, .int .i64 a, .int .i64 b, .int .i64 n] w fun e w' => e = .returned (.bool true) ∧ Below w.heap.size w w' := by
  obtain ⟨g, ⟨E0, E1⟩, _⟩ := hL
  generalize g 0 = p at E0
  generalize g 1 = q at E1
  have l1 := made_lo z
  have l2 := made_hi z
  have HM := Lib.hid (made_any z)
  generalize made z = m at l1 l2 HM ⊢
  have ho := shl_one m l2
  have z1 := size_lo m l1
  have z2 := size_hi m l2
  have e1 := els_lo m l1
  have e2 := els_hi m l2
  have HX : Hid (∀ w, Calls Tryd.prog 18 #[.int .i64 (m : Int), .int .i64 (bits .xor .i64 a b)] w fun e w' => e = .returned (.int .i64 (h (el m a ^^^ el m b))) ∧ w = w') := by
    intro w
    have := low_any m l1 l2 (bits .xor .i64 a b) w
    rwa [el_xor m l2] at this
  have HA := Lib.hid (low_any m l1 l2 a)
  have HB := Lib.hid (low_any m l1 l2 b)
  have ha := el_lt m l2 a
  have hb := el_lt m l2 b
  have q1 := eql_err q
  have qnp := neq_err p
  have hcase : ∃ ev : Value, (∀ w, ErrAt w 0 p → Calls Tryd.prog 12 #[.int .i64 z] w (NewIs ev w)) ∧
      ((ev = .nilIface ∧ 3 ≤ z ∧ z ≤ 14) ∨ (ev = errOf p ∧ z < 3) ∨ (ev = errOf p ∧ ¬ z < 3 ∧ ¬ z ≤ 14)) := by
    by_cases hz : 3 ≤ z ∧ z ≤ 14
    · refine ⟨.nilIface, fun w _ => ?_, Or.inl ⟨rfl, hz⟩⟩
      have := new_any z.toNat (by omega) (by omega) w
      rw [show ((z.toNat : Nat) : Int) = z by omega] at this
      exact this.mono fun e w' ⟨s, be, ce, bl, x, _, y⟩ => ⟨_, x, y⟩
    · refine ⟨errOf p, fun w E => ?_, ?_⟩
      · exact (new_out z (by omega) w p E.1 E.2.1).mono fun e w' ⟨x, y⟩ => ⟨_, x, y⟩
      · by_cases h3 : z < 3
        · exact Or.inr (Or.inl ⟨rfl, h3⟩)
        · exact Or.inr (Or.inr ⟨rfl, h3, by omega⟩)
  obtain ⟨ev, hNew, hcs⟩ := hcase
  have HN := Lib.hid hNew
  have g1 : ∀ a, errIf true a = errOf a := fun _ => rfl
  have g2 : ∀ a, errIf false a = .nilIface := fun _ => rfl
  have g3 : ∀ x, numIf true x = 0 := fun _ => rfl
  have g4 : ∀ x, numIf false x = x := fun _ => rfl
  have hel := el_of m l2 _ (pwZ_lt m l1 l2 (-(lg m (el m b) : Int)))
  clear hNew
  have hza : ((h (el m a) == 0) = true) ∨ ((h (el m a) == 0) = false ∧ el m a ≠ 0) := by
    by_cases e : el m a = 0
    · exact Or.inl (h_zero e)
    · exact Or.inr ⟨h_not e, e⟩
  have hzb : ((h (el m b) == 0) = true) ∨ ((h (el m b) == 0) = false ∧ el m b ≠ 0) := by
    by_cases e : el m b = 0
    · exact Or.inl (h_zero e)
    · exact Or.inr ⟨h_not e, e⟩
  rcases hcs with ⟨rfl, c1, c2⟩ | ⟨rfl, c1⟩ | ⟨rfl, c1, c2⟩
  all_goals
    go_enter Tryd.func3, Tryd.ntmps3
    go_wp2_with fail
    refine (first_any w p q E0 E1).mono ?_
    rintro e w1 ⟨rfl, B⟩
    replace E0 := E0.below B
    replace E1 := E1.below B
    go_wp2_with fail
    refine (poly_both z _).mono ?_
    rintro e w2 ⟨rfl, d⟩
    replace E0 := E0.below d
    replace E1 := E1.below d
    replace B := B.trans (d.mono B.size)
    go_wp2_with fail
    refine (rpoly_both z _).mono ?_
    rintro e w3 ⟨rfl, d⟩
    replace E0 := E0.below d
    replace E1 := E1.below d
    replace B := B.trans (d.mono B.size)
    go_wp2_with fail
    refine (HN.out _ E0).mono ?_
    rintro e w4 ⟨v, rfl, d⟩
    replace E0 := E0.below d
    replace E1 := E1.below d
    replace B := B.trans (d.mono B.size)
    have hE0 := E0.1
    unfold Sent at hE0
    go_wp2_with fail
    refine (HM.out _).mono ?_
    rintro e w5 ⟨s, be, ce, bl, rfl, f, d⟩
    replace E0 := E0.below d
    replace E1 := E1.below d
    replace B := B.trans (d.mono B.size)
    clear d hE0
    go_wp2_with fail
    refine (fm_any _ f).mono ?_
    rintro e w6 ⟨rfl, rfl⟩
    go_wp2_with fail
    refine (size_any _ f).mono ?_
    rintro e w6 ⟨rfl, rfl⟩
    go_wp2_with fail
    refine (inv_both l1 l2 a _ f q (sentOf E1)).mono ?_
    rintro e w6 ⟨rfl, d⟩
    replace f := f.drawn l1 d; replace E0 := E0.drawn d; replace E1 := E1.drawn d; replace B := B.trans (d.below _); clear d
    go_wp2_with fail
    refine (div_both l1 l2 a b _ f q (sentOf E1)).mono ?_
    rintro e w6 ⟨rfl, d⟩
    replace f := f.drawn l1 d; replace E0 := E0.drawn d; replace E1 := E1.drawn d; replace B := B.trans (d.below _); clear d
    go_wp2_with fail
    refine (HA.out _).mono ?_
    rintro e w6 ⟨rfl, rfl⟩
    go_wp2_with fail
    refine (HB.out _).mono ?_
    rintro e w6 ⟨rfl, rfl⟩
    go_upto_region 15 with (first
      | (go_at_call 19; (with_reducible refine (add_drawn l1 l2 a b _ f).mono ?_); rintro e w' ⟨rfl, d⟩; replace f := f.drawn l1 d; replace E0 := E0.drawn d; replace E1 := E1.drawn d; replace B := B.trans (d.below _); clear d)
      | (go_at_call 18; refine (HX.out _).mono ?_; rintro e w' ⟨rfl, rfl⟩)
      | (go_at_call 20; (with_reducible refine (mul_any l1 l2 a b _ f).mono ?_); rintro e w' ⟨rfl, d⟩; replace f := f.drawn l1 d; replace E0 := E0.drawn d; replace E1 := E1.drawn d; replace B := B.trans (d.below _); clear d)
      | (go_at_call 21; (with_reducible refine (rmul_any m l1 l2 a b _).mono ?_); rintro e w' ⟨rfl, d⟩; replace f := f.below l1 d; replace E0 := E0.below d; replace E1 := E1.below d; replace B := B.trans (d.mono B.size); clear d)
      | (go_at_call 22; (with_reducible refine (pow_any l1 l2 a n _ f q (sentOf E1)).mono ?_); rintro e w' ⟨rfl, d⟩; replace f := f.drawn l1 d; replace E0 := E0.drawn d; replace E1 := E1.drawn d; replace B := B.trans (d.below _); clear d)
      | (go_at_call 23; (with_reducible refine (rpow_any m l1 l2 a n _).mono ?_); rintro e w' ⟨rfl, d⟩; replace f := f.below l1 d; replace E0 := E0.below d; replace E1 := E1.below d; replace B := B.trans (d.mono B.size); clear d)
      | (go_at_call 24; (with_reducible refine (exp_at l1 l2 n _ f).mono ?_); rintro e w' ⟨rfl, d⟩; replace f := f.drawn l1 d; replace E0 := E0.drawn d; replace E1 := E1.drawn d; replace B := B.trans (d.below _); clear d)
      | (go_at_call 25; (with_reducible refine (rexp_any m l1 l2 n _).mono ?_); rintro e w' ⟨rfl, d⟩; replace f := f.below l1 d; replace E0 := E0.below d; replace E1 := E1.below d; replace B := B.trans (d.mono B.size); clear d)
      | (go_at_call 26; (with_reducible refine (trace_any l1 l2 a _ f).mono ?_); rintro e w' ⟨rfl, d⟩; replace f := f.below l1 d; replace E0 := E0.below d; replace E1 := E1.below d; replace B := B.trans (d.mono B.size); clear d)
      | (go_at_call 27; (with_reducible refine (rtrace_any m l1 l2 a _).mono ?_); rintro e w' ⟨rfl, d⟩; replace f := f.below l1 d; replace E0 := E0.below d; replace E1 := E1.below d; replace B := B.trans (d.mono B.size); clear d)
      | (go_at_call 28; (with_reducible refine (is_both a _ f).mono ?_); rintro e w' ⟨rfl, d⟩; replace f := f.drawn l1 d; replace E0 := E0.drawn d; replace E1 := E1.drawn d; replace B := B.trans (d.below _); clear d))
  all_goals
    have hE1 := E1.1
    unfold Sent at hE1
    rcases hza with ta | ⟨ta, na⟩
    all_goals
      rcases hzb with tb | ⟨tb, nb⟩
      all_goals
        go_wp2_with (first
        | (go_at_call 29; (with_reducible refine (rinv_any m l1 l2 a na _).mono ?_); rintro e w' ⟨rfl, d⟩; replace f := f.below l1 d; replace E0 := E0.below d; replace E1 := E1.below d; replace B := B.trans (d.mono B.size); clear d; have hE1' := E1.1; unfold Sent at hE1')
        | (go_at_call 29; (with_reducible refine (rinv_any m l1 l2 b nb _).mono ?_); rintro e w' ⟨rfl, d⟩; replace f := f.below l1 d; replace E0 := E0.below d; replace E1 := E1.below d; replace B := B.trans (d.mono B.size); clear d; have hE1' := E1.1; unfold Sent at hE1')
        | (go_at_call 21; (with_reducible refine (rmul_any m l1 l2 a _ _).mono ?_); rintro e w' ⟨rfl, d⟩; replace f := f.below l1 d; replace E0 := E0.below d; replace E1 := E1.below d; replace B := B.trans (d.mono B.size); clear d; have hE1' := E1.1; unfold Sent at hE1'))
        go_ret
        exact ⟨rfl, B⟩
end Go.Proofs.YtdcnknlpmajlfaaDoor.walkFieldSays
