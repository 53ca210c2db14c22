/- The methods of a field but its traces: what each answers. By the verifier of shale. -/
import Derived.Test.YtgfaaaeechgjmaaDoorFldMake
import Derived.Test.YtgfaaaeechgjmaaDoorErrs
import Derived.Deep.QuietTactic
import Derived.BigQuiet
namespace Go.Proofs.YtgfaaaeechgjmaaDoor.Fld
open Go Go.RowKit Bits16
set_option linter.unusedVariables false
theorem h_zero {x : BitVec 16} (e : x = 0) : (h x == 0) = true := by subst e; rfl
theorem h_not {x : BitVec 16} (e : x ≠ 0) : (h x == 0) = false := by
  rw [beq_eq_false_iff_ne]
  intro e2
  exact e (h_inj x 0 e2)
section
variable {m s be ce bl : Nat}
set_option maxHeartbeats 400000 in
theorem size_any (w : World) (f : FldAt m w s be ce bl) :
    Calls Tryd.prog 44 #[.pointer (some ⟨s, 0, none⟩)] w fun e w' => e = .returned (.int .i64 (els m : Int)) ∧ w = w' := by
  obtain ⟨c0, c1, c2⟩ := f.cells
  clear f
  go_enter Tryd.func44, Tryd.ntmps44
  go_wp2
  go_ret
  exact ⟨rfl, rfl⟩
theorem rem_cases (h1 : 3 ≤ m) (z : Int) : (0 ≤ z.tmod (size m : Int) ∧ z.tmod (size m : Int) < (size m : Int) ∧ h (pw m (z.tmod (size m : Int)).toNat) = h (pwZ m z)) ∨
    (z.tmod (size m : Int) < 0 ∧ 0 ≤ z.tmod (size m : Int) + (size m : Int) ∧ z.tmod (size m : Int) + (size m : Int) < (size m : Int) ∧ h (pw m (z.tmod (size m : Int) + (size m : Int)).toNat) = h (pwZ m z)) := by
  have z1 := size_lo m h1
  have q1 := Int.tmod_lt_of_pos z (b := (size m : Int)) (by omega)
  have q2 : -(size m : Int) < z.tmod (size m : Int) := by
    have := Int.tmod_lt_of_pos (-z) (b := (size m : Int)) (by omega)
    rw [Int.neg_tmod] at this
    omega
  have hd : z % (size m : Int) = (z.tmod (size m : Int)) % (size m : Int) := by
    rw [Int.tmod_eq_emod]
    split
    · simp
    · rw [Int.natAbs_natCast, Int.sub_emod, Int.emod_self, Int.emod_emod, Int.sub_zero, Int.emod_emod]
  by_cases hn : z.tmod (size m : Int) < 0
  · refine Or.inr ⟨hn, by omega, by omega, ?_⟩
    unfold pwZ
    rw [hd]
    have : (z.tmod (size m : Int)) % (size m : Int) = z.tmod (size m : Int) + (size m : Int) := by
      rw [← Int.add_emod_right]
      exact Int.emod_eq_of_lt (by omega) (by omega)
    rw [this]
  · refine Or.inl ⟨by omega, q1, ?_⟩
    unfold pwZ
    rw [hd, Int.emod_eq_of_lt (by omega) q1]
variable (h1 : 3 ≤ m) (h2 : m ≤ 14)
include h1 h2
set_option maxHeartbeats 400000 in
theorem element_any (z : Int) (w : World) (f : FldAt m w s be ce bl) :
    Calls Tryd.prog 49 #[.pointer (some ⟨s, 0, none⟩), .int .i64 z] w fun e w' => e = .returned (.int .i64 (h (el m z))) ∧ w = w' := by
  obtain ⟨c0, c1, c2⟩ := f.cells
  have ha := and_els m h2 z
  have e1 := els_lo m h1
  have e2 := els_hi m h2
  clear f
  go_enter Tryd.func49, Tryd.ntmps49
  go_wp2
  go_ret
  exact ⟨rfl, rfl⟩
set_option maxHeartbeats 400000 in
theorem add_any (a b : Int) (w : World) (f : FldAt m w s be ce bl) :
    Calls Tryd.prog 40 #[.pointer (some ⟨s, 0, none⟩), .int .i64 a, .int .i64 b] w fun e w' => e = .returned (.int .i64 (h (el m a ^^^ el m b))) ∧ w = w' := by
  have HX := Lib.hid (el_xor m h2 a b)
  go_enter Tryd.func40, Tryd.ntmps40
  go_wp2_with fail
  refine (element_any h1 h2 _ _ f).mono ?_
  rintro e w1 ⟨rfl, rfl⟩
  rw [HX.out]
  go_wp2
  go_ret
  exact ⟨rfl, rfl⟩
set_option maxHeartbeats 400000 in
theorem fexp_any (z : Int) (w : World) (f : FldAt m w s be ce bl) :
    Calls Tryd.prog 51 #[.pointer (some ⟨s, 0, none⟩), .int .i64 z] w fun e w' => e = .returned (.int .i64 (h (pwZ m z))) ∧ w = w' := by
  obtain ⟨c0, c1, c2⟩ := f.cells
  have z1 := size_lo m h1
  have z2 := size_hi m h2
  have HC := f.2.2.1
  have hce := f.2.1
  clear f
  rcases rem_cases h1 z with ⟨r1, r2, r3⟩ | ⟨r1, r0, r2, r3⟩
  · have c3 := HC (z.tmod (size m : Int)).toNat (by omega)
    have HR := Lib.hid r3
    clear HC r3
    go_enter Tryd.func51, Tryd.ntmps51
    go_wp2
    go_ret
    exact ⟨ret_i64 HR.out, rfl⟩
  · have c3 := HC (z.tmod (size m : Int) + (size m : Int)).toNat (by omega)
    have HR := Lib.hid r3
    clear HC r3
    go_enter Tryd.func51, Tryd.ntmps51
    go_wp2
    go_ret
    exact ⟨ret_i64 HR.out, rfl⟩
set_option maxHeartbeats 400000 in
theorem log_zero (a : Int) (w : World) (f : FldAt m w s be ce bl) (h0 : el m a = 0) (p : Addr) (hs : Sent w 0 p) :
    Calls Tryd.prog 50 #[.pointer (some ⟨s, 0, none⟩), .int .i64 a] w fun e w' => e = .returned (.tuple #[.int .i64 0, errOf p]) ∧ Drawn w w' := by
  have t := h_zero h0
  have hs' : w.cell? ⟨0, 0, none⟩ = some (errOf p) := hs
  clear h0 hs
  go_enter Tryd.func50, Tryd.ntmps50
  go_wp2_with fail
  refine (element_any h1 h2 _ _ f).mono ?_
  rintro e w1 ⟨rfl, rfl⟩
  clear f
  go_wp2_with fail
  go_quiet (fail)
  go_wp2
  go_ret2
  exact ⟨rfl, Drawn.mk _ _⟩
set_option maxHeartbeats 400000 in
theorem log_any (a : Int) (w : World) (f : FldAt m w s be ce bl) (h0 : el m a ≠ 0) :
    Calls Tryd.prog 50 #[.pointer (some ⟨s, 0, none⟩), .int .i64 a] w fun e w' => e = .returned (.tuple #[.int .i64 (lg m (el m a) : Int), .nilIface]) ∧ w = w' := by
  have t := h_not h0
  obtain ⟨c0, c1, c2⟩ := f.cells
  have c3 := f.2.2.2 (el m a) (el_lt m h2 a)
  have y1 := h_lo (el m a)
  have y2 := el_h_lt m h2 _ (el_lt m h2 a)
  have e2 := els_hi m h2
  go_enter Tryd.func50, Tryd.ntmps50
  go_wp2_with fail
  refine (element_any h1 h2 _ _ f).mono ?_
  rintro e w1 ⟨rfl, rfl⟩
  clear f
  go_wp2_with fail
  go_ret2
  exact ⟨rfl, rfl⟩
set_option maxHeartbeats 400000 in
theorem mul_zero (a b : Int) (w : World) (f : FldAt m w s be ce bl) (h0 : el m a = 0 ∨ el m b = 0) :
    Calls Tryd.prog 38 #[.pointer (some ⟨s, 0, none⟩), .int .i64 a, .int .i64 b] w fun e w' => e = .returned (.int .i64 (h (fmul m (el m a) (el m b)))) ∧ Drawn w w' := by
  have e : h (fmul m (el m a) (el m b)) = 0 := by
    rcases h0 with h0 | h0
    · rw [h0, zero_fmul m h1 h2]; rfl
    · rw [h0, fmul_zero]; rfl
  rw [e]
  clear e
  have ht : (h (el m a) == 0) = true ∨ ((h (el m a) == 0) = false ∧ (h (el m b) == 0) = true) := by
    by_cases ha : el m a = 0
    · exact Or.inl (h_zero ha)
    · rcases h0 with h0 | h0
      · exact absurd h0 ha
      · exact Or.inr ⟨h_not ha, h_zero h0⟩
  clear h0
  rcases ht with t | ⟨t, t2⟩
  all_goals
    go_enter Tryd.func38, Tryd.ntmps38
    go_wp2_with fail
    refine (element_any h1 h2 _ _ f).mono ?_
    rintro e w1 ⟨rfl, rfl⟩
    go_wp2_with fail
    refine (element_any h1 h2 _ _ f).mono ?_
    rintro e w1 ⟨rfl, rfl⟩
    clear f
    go_wp2_with fail
    go_ret
    exact ⟨rfl, Drawn.refl _⟩
set_option maxHeartbeats 1000000 in
theorem mul_some (a b : Int) (w : World) (f : FldAt m w s be ce bl) (ha : el m a ≠ 0) (hb : el m b ≠ 0) :
    Calls Tryd.prog 38 #[.pointer (some ⟨s, 0, none⟩), .int .i64 a, .int .i64 b] w fun e w' => e = .returned (.int .i64 (h (fmul m (el m a) (el m b)))) ∧ Drawn w w' := by
  obtain ⟨la, pa⟩ := lg_spec m h1 h2 _ (el_lt m h2 a) ha
  obtain ⟨lb, pb⟩ := lg_spec m h1 h2 _ (el_lt m h2 b) hb
  have t := h_not ha
  have t2 := h_not hb
  obtain ⟨c0, c1, c2⟩ := f.cells
  have c3 := f.2.2.2 (el m a) (el_lt m h2 a)
  have c4 := f.2.2.2 (el m b) (el_lt m h2 b)
  have y1 := h_lo (el m a)
  have y2 := el_h_lt m h2 _ (el_lt m h2 a)
  have y3 := h_lo (el m b)
  have y4 := el_h_lt m h2 _ (el_lt m h2 b)
  have e2 := els_hi m h2
  have z1 := size_lo m h1
  have z2 := size_hi m h2
  have hce := f.2.1
  have HC := f.2.2.1
  have hfm : h (fmul m (el m a) (el m b)) = h (pw m (lg m (el m a) + lg m (el m b))) := by
    rw [← fmul_pw m h1 h2, pa, pb]
  rw [hfm]
  clear hfm pa pb ha hb
  have hcs : (lg m (el m a) + lg m (el m b) < size m ∧ w.cell? ⟨be, lg m (el m a) + lg m (el m b), none⟩ = some (.int .i64 (h (pw m (lg m (el m a) + lg m (el m b)))))) ∨
      (size m ≤ lg m (el m a) + lg m (el m b) ∧ w.cell? ⟨be, lg m (el m a) + lg m (el m b) - size m, none⟩ = some (.int .i64 (h (pw m (lg m (el m a) + lg m (el m b)))))) := by
    by_cases hlt : lg m (el m a) + lg m (el m b) < size m
    · exact Or.inl ⟨hlt, HC _ hlt⟩
    · refine Or.inr ⟨by omega, ?_⟩
      have := HC (lg m (el m a) + lg m (el m b) - size m) (by omega)
      rw [this]
      have := pw_size_mul m h1 h2 1 (lg m (el m a) + lg m (el m b) - size m)
      rw [Nat.mul_one, show size m + (lg m (el m a) + lg m (el m b) - size m) = lg m (el m a) + lg m (el m b) by omega] at this
      rw [this]
  clear HC
  generalize h (pw m (lg m (el m a) + lg m (el m b))) = r at hcs ⊢
  generalize lg m (el m a) = i at c3 hcs la ⊢
  generalize lg m (el m b) = j at c4 hcs lb ⊢
  rcases hcs with ⟨q1, c5⟩ | ⟨q1, c5⟩
  all_goals
    go_enter Tryd.func38, Tryd.ntmps38
    go_wp2_with fail
    refine (element_any h1 h2 _ _ f).mono ?_
    rintro e w1 ⟨rfl, rfl⟩
    go_wp2_with fail
    refine (element_any h1 h2 _ _ f).mono ?_
    rintro e w1 ⟨rfl, rfl⟩
    clear f
    go_wp2_with fail
    go_quiet (fail)
    go_wp2_with fail
    go_ret
    exact ⟨rfl, Drawn.mk _ _⟩
theorem mul_any (a b : Int) (w : World) (f : FldAt m w s be ce bl) :
    Calls Tryd.prog 38 #[.pointer (some ⟨s, 0, none⟩), .int .i64 a, .int .i64 b] w fun e w' => e = .returned (.int .i64 (h (fmul m (el m a) (el m b)))) ∧ Drawn w w' := by
  by_cases ha : el m a = 0
  · exact mul_zero h1 h2 a b w f (Or.inl ha)
  · by_cases hb : el m b = 0
    · exact mul_zero h1 h2 a b w f (Or.inr hb)
    · exact mul_some h1 h2 a b w f ha hb
set_option maxHeartbeats 400000 in
theorem inv_zero (a : Int) (w : World) (f : FldAt m w s be ce bl) (h0 : el m a = 0) (p : Addr) (hs : Sent w 0 p) :
    Calls Tryd.prog 43 #[.pointer (some ⟨s, 0, none⟩), .int .i64 a] w fun e w' => e = .returned (.tuple #[.int .i64 0, errOf p]) ∧ Drawn w w' := by
  go_enter Tryd.func43, Tryd.ntmps43
  go_wp2_with fail
  refine (log_zero h1 h2 a _ f h0 p hs).mono ?_
  rintro e w1 ⟨rfl, d1⟩
  clear f h0 hs
  go_wp2_with fail
  go_ret2
  exact ⟨rfl, d1⟩
set_option maxHeartbeats 400000 in
theorem inv_any (a : Int) (w : World) (f : FldAt m w s be ce bl) (h0 : el m a ≠ 0) :
    Calls Tryd.prog 43 #[.pointer (some ⟨s, 0, none⟩), .int .i64 a] w fun e w' => e = .returned (.tuple #[.int .i64 (h (pwZ m (-(lg m (el m a) : Int)))), .nilIface]) ∧ Drawn w w' := by
  obtain ⟨l1, l2⟩ := lg_spec m h1 h2 _ (el_lt m h2 a) h0
  have HL := log_any h1 h2 a w f h0
  clear l2 h0
  have z2 := size_hi m h2
  generalize lg m (el m a) = k at l1 HL ⊢
  have HL := Lib.hid HL
  go_enter Tryd.func43, Tryd.ntmps43
  go_wp2_with fail
  refine HL.out.mono ?_
  rintro e w1 ⟨rfl, rfl⟩
  go_wp2_with fail
  refine (fexp_any h1 h2 _ _ f).mono ?_
  rintro e w1 ⟨rfl, rfl⟩
  clear f
  go_wp2_with fail
  go_ret2
  exact ⟨rfl, Drawn.refl _⟩
end
end Go.Proofs.YtgfaaaeechgjmaaDoor.Fld
