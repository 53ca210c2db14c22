/- Polynomials over two elements as numbers: bit i is the coefficient of x^i. No program is named here. By the verifier of shale. -/
namespace Go.Proofs.YtbngkmlipmhgdaaDoor.Bin
set_option linter.unusedVariables false
/-- the product. -/
def pm (a b : Nat) : Nat := if h : b = 0 then 0 else (if b % 2 = 1 then a else 0) ^^^ (2 * pm a (b / 2))
termination_by b
decreasing_by omega
theorem dbl_xor (a b : Nat) : 2 * (a ^^^ b) = 2 * a ^^^ 2 * b := by
  apply Nat.eq_of_testBit_eq
  intro i
  rw [Nat.testBit_xor]
  cases i with
  | zero => simp [Nat.testBit_zero]
  | succ i => simp [Nat.testBit_succ]
theorem half_xor (a b : Nat) : (a ^^^ b) / 2 = a / 2 ^^^ b / 2 := by
  apply Nat.eq_of_testBit_eq
  intro i
  rw [Nat.testBit_xor, Nat.testBit_div_two, Nat.testBit_div_two, Nat.testBit_div_two, Nat.testBit_xor]
theorem mod_xor (a b : Nat) : (a ^^^ b) % 2 = (a % 2 + b % 2) % 2 := by
  have h := Nat.testBit_xor (x := a) (y := b) (i := 0)
  rw [Nat.testBit_zero, Nat.testBit_zero, Nat.testBit_zero] at h
  rcases Nat.mod_two_eq_zero_or_one a with h1 | h1 <;> rcases Nat.mod_two_eq_zero_or_one b with h2 | h2 <;> rcases Nat.mod_two_eq_zero_or_one (a ^^^ b) with h3 | h3 <;> simp [h1, h2, h3] at h ⊢
theorem pm_zero (a : Nat) : pm a 0 = 0 := by rw [pm]; simp
theorem pm_step (a b : Nat) : pm a b = (if b % 2 = 1 then a else 0) ^^^ (2 * pm a (b / 2)) := by
  by_cases h : b = 0
  · subst h; rw [Nat.zero_div, pm_zero]; simp
  · rw [pm, dif_neg h]
theorem xx (a b c d : Nat) : (a ^^^ b) ^^^ (c ^^^ d) = (a ^^^ c) ^^^ (b ^^^ d) := by
  rw [Nat.xor_assoc, ← Nat.xor_assoc b, Nat.xor_comm b c, Nat.xor_assoc c, ← Nat.xor_assoc a]
theorem zero_pm : ∀ b, pm 0 b = 0 := by
  intro b
  induction b using Nat.strongRecOn with
  | ind b ih =>
    by_cases h : b = 0
    · subst h; exact pm_zero 0
    · rw [pm_step, ih (b / 2) (by omega)]; simp
theorem pm_one (a : Nat) : pm a 1 = a := by
  rw [pm_step, show 1 / 2 = 0 by decide, pm_zero]; simp
theorem pm_xor_left (a c : Nat) : ∀ b, pm (a ^^^ c) b = pm a b ^^^ pm c b := by
  intro b
  induction b using Nat.strongRecOn with
  | ind b ih =>
    by_cases h : b = 0
    · subst h; rw [pm_zero, pm_zero, pm_zero]; rfl
    · rw [pm_step (a ^^^ c), pm_step a, pm_step c, ih (b / 2) (by omega), dbl_xor, xx]
      congr 1
      split <;> simp
theorem pm_dbl_left (a : Nat) : ∀ b, pm (2 * a) b = 2 * pm a b := by
  intro b
  induction b using Nat.strongRecOn with
  | ind b ih =>
    by_cases h : b = 0
    · subst h; rw [pm_zero, pm_zero]
    · rw [pm_step (2 * a), pm_step a, ih (b / 2) (by omega), dbl_xor]
      congr 1
      split <;> simp
theorem pm_xor_right (a : Nat) : ∀ b c, pm a (b ^^^ c) = pm a b ^^^ pm a c := by
  intro b
  induction b using Nat.strongRecOn with
  | ind b ih =>
    intro c
    by_cases h : b = 0
    · subst h; rw [Nat.zero_xor, pm_zero, Nat.zero_xor]
    · rw [pm_step a (b ^^^ c), pm_step a b, pm_step a c, half_xor, ih (b / 2) (by omega), dbl_xor, xx, mod_xor]
      congr 1
      rcases Nat.mod_two_eq_zero_or_one b with h1 | h1 <;> rcases Nat.mod_two_eq_zero_or_one c with h2 | h2 <;> simp [h1, h2]
theorem pm_dbl_right (a b : Nat) : pm a (2 * b) = 2 * pm a b := by
  rw [pm_step, show 2 * b / 2 = b by omega, if_neg (by omega)]; simp
theorem one_pm : ∀ b, pm 1 b = b := by
  intro b
  induction b using Nat.strongRecOn with
  | ind b ih =>
    by_cases h : b = 0
    · subst h; exact pm_zero 1
    · rw [pm_step, ih (b / 2) (by omega)]
      apply Nat.eq_of_testBit_eq
      intro i
      rw [Nat.testBit_xor]
      cases i with
      | zero => split <;> simp [Nat.testBit_zero] <;> omega
      | succ i =>
        rw [Nat.testBit_succ (2 * (b / 2)), show 2 * (b / 2) / 2 = b / 2 by omega, Nat.testBit_succ b]
        split <;> simp [Nat.testBit_succ]
theorem split2 (b : Nat) : b = (if b % 2 = 1 then 1 else 0) ^^^ (2 * (b / 2)) := by
  have := pm_step 1 b
  rwa [one_pm, one_pm] at this
theorem pm_comm : ∀ b a, pm a b = pm b a := by
  intro b
  induction b using Nat.strongRecOn with
  | ind b ih =>
    intro a
    by_cases h : b = 0
    · subst h; rw [pm_zero, zero_pm]
    · have e := split2 b
      have h1 := pm_step a b
      have h2 : pm b a = pm (if b % 2 = 1 then 1 else 0) a ^^^ pm (2 * (b / 2)) a := by rw [← pm_xor_left, ← e]
      rw [h1, h2, pm_dbl_left, ih (b / 2) (by omega) a]
      congr 1
      split
      · rw [one_pm]
      · rw [zero_pm]
theorem pm_assoc (a b : Nat) : ∀ c, pm (pm a b) c = pm a (pm b c) := by
  intro c
  induction c using Nat.strongRecOn with
  | ind c ih =>
    by_cases h : c = 0
    · subst h; rw [pm_zero, pm_zero, pm_zero]
    · rw [pm_step (pm a b) c, pm_step b c, pm_xor_right, pm_dbl_right, ih (c / 2) (by omega)]
      congr 1
      split
      · rfl
      · rw [pm_zero]
theorem top_xor (n x z : Nat) (hx : x < 2 ^ n) (h1 : 2 ^ n ≤ z) (h2 : z < 2 ^ (n + 1)) : 2 ^ n ≤ x ^^^ z ∧ x ^^^ z < 2 ^ (n + 1) := by
  refine ⟨?_, Nat.xor_lt_two_pow (Nat.lt_of_lt_of_le hx (Nat.pow_le_pow_right (by decide) (by omega))) h2⟩
  apply Nat.ge_two_pow_of_testBit
  rw [Nat.testBit_xor, Nat.testBit_lt_two_pow hx]
  have : z.testBit n = true := by
    rw [Nat.testBit_eq_decide_div_mod_eq, decide_eq_true_eq]
    rw [Nat.pow_succ] at h2
    have h3 : z / 2 ^ n = 1 := by
      apply Nat.div_eq_of_lt_le <;> omega
    rw [h3]
  rw [this]; rfl
/-- a has degree i. -/
def Deg (a i : Nat) : Prop := 2 ^ i ≤ a ∧ a < 2 ^ (i + 1)
theorem Deg.pos {a i : Nat} (h : Deg a i) : 0 < a := Nat.lt_of_lt_of_le (Nat.two_pow_pos i) h.1
theorem deg_of {a : Nat} (h : a ≠ 0) : Deg a a.log2 := ⟨Nat.log2_self_le h, Nat.lt_log2_self⟩
theorem Deg.eq {a i j : Nat} (h : Deg a i) (k : Deg a j) : i = j := by
  have h1 : i < j + 1 := (Nat.pow_lt_pow_iff_right (a := 2) (by decide)).1 (Nat.lt_of_le_of_lt h.1 k.2)
  have h2 : j < i + 1 := (Nat.pow_lt_pow_iff_right (a := 2) (by decide)).1 (Nat.lt_of_le_of_lt k.1 h.2)
  omega
theorem Deg.log2 {a i : Nat} (h : Deg a i) : a.log2 = i := (deg_of (by have := h.pos; omega)).eq h
theorem deg_pm {a i : Nat} (ha : Deg a i) : ∀ j b, Deg b j → Deg (pm a b) (i + j) := by
  intro j
  induction j with
  | zero =>
    intro b hb
    obtain rfl : b = 1 := by have := hb.1; have := hb.2; simp at *; omega
    rw [pm_one]; exact ha
  | succ j ih =>
    intro b hb
    have e1 := hb.1; have e2 := hb.2
    rw [Nat.pow_succ] at e1 e2
    have h := ih (b / 2) ⟨by omega, by omega⟩
    rw [pm_step]
    have g1 := h.1; have g2 := h.2
    have key := top_xor (i + j + 1) (if b % 2 = 1 then a else 0) (2 * pm a (b / 2)) (by
      have : a < 2 ^ (i + j + 1) := Nat.lt_of_lt_of_le ha.2 (Nat.pow_le_pow_right (by decide) (by omega))
      split <;> omega) (by rw [Nat.pow_succ]; omega) (by rw [Nat.pow_succ]; omega)
    exact key
theorem pm_ne {a b : Nat} (ha : a ≠ 0) (hb : b ≠ 0) : pm a b ≠ 0 := by
  have := (deg_pm (deg_of ha) _ b (deg_of hb)).pos
  omega
theorem xor_eq_zero {a b : Nat} (h : a ^^^ b = 0) : a = b := by
  have e := congrArg (· ^^^ b) h
  simp only [Nat.xor_assoc, Nat.xor_self, Nat.xor_zero, Nat.zero_xor] at e
  exact e
theorem pm_cancel {a b c : Nat} (hc : c ≠ 0) (h : pm a c = pm b c) : a = b := by
  apply xor_eq_zero
  have e : pm (a ^^^ b) c = 0 := by rw [pm_xor_left, h, Nat.xor_self]
  by_cases h0 : a ^^^ b = 0
  · exact h0
  · exact absurd e (pm_ne h0 hc)
theorem xor_move {A B r s : Nat} (h : A ^^^ r = B ^^^ s) : A ^^^ B = r ^^^ s := by
  apply Nat.eq_of_testBit_eq
  intro i
  have := congrArg (fun z => z.testBit i) h
  simp only [Nat.testBit_xor] at this ⊢
  revert this
  cases A.testBit i <;> cases B.testBit i <;> cases r.testBit i <;> cases s.testBit i <;> simp
/-- a is quotient q times b, and the rest r. -/
def IsDiv (a b q r : Nat) : Prop := a = pm q b ^^^ r ∧ (r = 0 ∨ ∃ i j, Deg r i ∧ Deg b j ∧ i < j)
theorem lt_of_deg {x i j : Nat} (h : Deg x i) (hj : i < j) : x < 2 ^ j := Nat.lt_of_lt_of_le h.2 (Nat.pow_le_pow_right (by decide) (by omega))
theorem IsDiv.unique {a b q r q' r' : Nat} (hb : b ≠ 0) (h : IsDiv a b q r) (k : IsDiv a b q' r') : q = q' ∧ r = r' := by
  obtain ⟨h1, h2⟩ := h
  obtain ⟨k1, k2⟩ := k
  have e : pm (q ^^^ q') b = r ^^^ r' := by
    rw [pm_xor_left]
    have : pm q b ^^^ r = pm q' b ^^^ r' := h1.symm.trans k1
    exact xor_move this
  have db := deg_of hb
  have small : ∀ x, (x = 0 ∨ ∃ i j, Deg x i ∧ Deg b j ∧ i < j) → x < 2 ^ b.log2 := by
    intro x hx
    rcases hx with rfl | ⟨i, j, hi, hj, hij⟩
    · exact Nat.two_pow_pos _
    · rw [hj.eq db] at hij
      exact lt_of_deg hi hij
  have hr : r ^^^ r' < 2 ^ b.log2 := Nat.xor_lt_two_pow (small r h2) (small r' k2)
  have hq : q ^^^ q' = 0 := by
    apply Classical.byContradiction
    intro h0
    have := (deg_pm (deg_of h0) _ b db).1
    rw [e] at this
    have := Nat.pow_le_pow_right (n := 2) (by decide) (show b.log2 ≤ (q ^^^ q').log2 + b.log2 by omega)
    omega
  refine ⟨xor_eq_zero hq, ?_⟩
  rw [hq, zero_pm] at e
  exact xor_eq_zero e.symm
/-- c divides a. -/
def Dvd (c a : Nat) : Prop := ∃ q, a = pm q c
theorem Dvd.zero (c : Nat) : Dvd c 0 := ⟨0, (zero_pm c).symm⟩
theorem Dvd.refl (c : Nat) : Dvd c c := ⟨1, (one_pm c).symm⟩
theorem Dvd.xor {c a b : Nat} (h : Dvd c a) (k : Dvd c b) : Dvd c (a ^^^ b) := by
  obtain ⟨x, rfl⟩ := h
  obtain ⟨y, rfl⟩ := k
  exact ⟨x ^^^ y, (pm_xor_left x y c).symm⟩
theorem Dvd.mul {c a : Nat} (h : Dvd c a) (b : Nat) : Dvd c (pm b a) := by
  obtain ⟨x, rfl⟩ := h
  exact ⟨pm b x, (pm_assoc b x c).symm⟩
theorem Dvd.trans {a b c : Nat} (h : Dvd a b) (k : Dvd b c) : Dvd a c := by
  obtain ⟨y, rfl⟩ := k
  exact h.mul y
theorem Dvd.rest {c a b q r : Nat} (hd : IsDiv a b q r) (ha : Dvd c a) (hb : Dvd c b) : Dvd c r := by
  have : r = a ^^^ pm q b := by
    rw [hd.1, Nat.xor_comm, ← Nat.xor_assoc, Nat.xor_self, Nat.zero_xor]
  rw [this]
  exact ha.xor (hb.mul q)
theorem Dvd.whole {c a b q r : Nat} (hd : IsDiv a b q r) (hb : Dvd c b) (hr : Dvd c r) : Dvd c a := by
  rw [hd.1]
  exact (hb.mul q).xor hr
theorem Dvd.antisymm {a b : Nat} (h : Dvd a b) (k : Dvd b a) : a = b := by
  obtain ⟨x, rfl⟩ := h
  obtain ⟨y, hy⟩ := k
  by_cases ha : a = 0
  · subst ha; rw [pm_zero]
  · have e : pm (pm y x) a = pm 1 a := by rw [pm_assoc, one_pm]; exact hy.symm
    have e2 := pm_cancel ha e
    have hx : x ≠ 0 := by intro h; rw [h, pm_zero] at e2; omega
    have hy0 : y ≠ 0 := by intro h; rw [h, zero_pm] at e2; omega
    have d := deg_pm (deg_of hy0) _ x (deg_of hx)
    rw [e2] at d
    have z : y.log2 + x.log2 = 0 := d.eq ⟨by decide, by decide⟩
    have dx := deg_of hx
    have : x = 1 := by
      have h1 := dx.1; have h2 := dx.2
      rw [show x.log2 = 0 by omega] at h1 h2
      simp at h1 h2; omega
    rw [this, one_pm]
/-- a rest of 0: it divides. -/
theorem IsDiv.zero_iff {a b q r : Nat} (hb : b ≠ 0) (h : IsDiv a b q r) : r = 0 ↔ Dvd b a := by
  constructor
  · intro h0
    rw [h0] at h
    exact ⟨q, by rw [h.1, Nat.xor_zero]⟩
  · rintro ⟨x, hx⟩
    exact (h.unique hb ⟨by rw [Nat.xor_zero]; exact hx, Or.inl rfl⟩).2
/-- g is the greatest common divisor. -/
def IsGcd (a b g : Nat) : Prop := Dvd g a ∧ Dvd g b ∧ ∀ c, Dvd c a → Dvd c b → Dvd c g
theorem IsGcd.unique {a b g k : Nat} (h : IsGcd a b g) (h' : IsGcd a b k) : g = k := (h'.2.2 g h.1 h.2.1).antisymm (h.2.2 k h'.1 h'.2.1)
theorem IsGcd.right_zero (a : Nat) : IsGcd a 0 a := ⟨Dvd.refl a, Dvd.zero a, fun c h _ => h⟩
theorem IsGcd.step {a b q r g : Nat} (hd : IsDiv a b q r) (h : IsGcd b r g) : IsGcd a b g :=
  ⟨Dvd.whole hd h.1 h.2.1, h.1, fun c ha hb => h.2.2 c hb (Dvd.rest hd ha hb)⟩
/-- the quotient and the rest are there. -/
theorem div_exists (b : Nat) (hb : b ≠ 0) : ∀ a, ∃ q r, IsDiv a b q r := by
  intro a
  induction a using Nat.strongRecOn with
  | ind a ih =>
    by_cases h0 : a = 0
    · exact ⟨0, 0, by rw [zero_pm, h0]; rfl, Or.inl rfl⟩
    · have da := deg_of h0
      have db := deg_of hb
      by_cases hlt : a.log2 < b.log2
      · exact ⟨0, a, by rw [zero_pm, Nat.zero_xor], Or.inr ⟨_, _, da, db, hlt⟩⟩
      · have ds : Deg (pm (2 ^ (a.log2 - b.log2)) b) a.log2 := by
          have d2 : Deg (2 ^ (a.log2 - b.log2)) (a.log2 - b.log2) := ⟨Nat.le_refl _, by rw [Nat.pow_succ]; have := Nat.two_pow_pos (a.log2 - b.log2); omega⟩
          have := deg_pm d2 _ b db
          rwa [show a.log2 - b.log2 + b.log2 = a.log2 by omega] at this
        have hl : a ^^^ pm (2 ^ (a.log2 - b.log2)) b < a := by
          have t1 : a.testBit a.log2 = true := by
            have := top_xor a.log2 0 a (Nat.two_pow_pos _) da.1 da.2
            rw [Nat.testBit_eq_decide_div_mod_eq, decide_eq_true_eq]
            have h3 : a / 2 ^ a.log2 = 1 := by
              have h1 := da.1; have h2 := da.2
              rw [Nat.pow_succ] at h2
              apply Nat.div_eq_of_lt_le <;> omega
            rw [h3]
          have t2 : (pm (2 ^ (a.log2 - b.log2)) b).testBit a.log2 = true := by
            rw [Nat.testBit_eq_decide_div_mod_eq, decide_eq_true_eq]
            have h3 : pm (2 ^ (a.log2 - b.log2)) b / 2 ^ a.log2 = 1 := by
              have h1 := ds.1; have h2 := ds.2
              rw [Nat.pow_succ] at h2
              apply Nat.div_eq_of_lt_le <;> omega
            rw [h3]
          have h4 : a ^^^ pm (2 ^ (a.log2 - b.log2)) b < 2 ^ a.log2 := by
            apply Nat.lt_pow_two_of_testBit
            intro i hi
            rw [Nat.testBit_xor]
            by_cases e : i = a.log2
            · subst e; rw [t1, t2]; rfl
            · have l1 : a < 2 ^ i := lt_of_deg da (by omega)
              have l2 := lt_of_deg ds (show a.log2 < i by omega)
              rw [Nat.testBit_lt_two_pow l1, Nat.testBit_lt_two_pow l2]; rfl
          exact Nat.lt_of_lt_of_le h4 da.1
        obtain ⟨q, r, h1, h2⟩ := ih _ hl
        refine ⟨q ^^^ 2 ^ (a.log2 - b.log2), r, ?_, h2⟩
        rw [pm_xor_left, Nat.xor_assoc, Nat.xor_comm (pm (2 ^ (a.log2 - b.log2)) b), ← Nat.xor_assoc, ← h1, Nat.xor_assoc, Nat.xor_self, Nat.xor_zero]
end Go.Proofs.YtbngkmlipmhgdaaDoor.Bin
