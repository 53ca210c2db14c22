/- The algebra of the fields of 2^m elements: products by bits, by logarithms; their laws. No program is named here. By the verifier of shale. -/
import Derived.Test.YtgfaaaeechgjmaaDoorFldMath
namespace Go.Proofs.YtgfaaaeechgjmaaDoor.Fld
set_option linter.unusedVariables false
theorem poly_in_range (m : Nat) (h1 : 3 ≤ m) (h2 : m ≤ 14) : 2 ^ m ≤ (poly m).toNat ∧ (poly m).toNat < 2 ^ (m + 1) := by
  rcases (by omega : m = 3 ∨ m = 4 ∨ m = 5 ∨ m = 6 ∨ m = 7 ∨ m = 8 ∨ m = 9 ∨ m = 10 ∨ m = 11 ∨ m = 12 ∨ m = 13 ∨ m = 14) with rfl | rfl | rfl | rfl | rfl | rfl | rfl | rfl | rfl | rfl | rfl | rfl
  all_goals decide
theorem pow14 (m : Nat) (h2 : m ≤ 14) : 2 ^ m ≤ 16384 := (Nat.pow_le_pow_right (n := 2) (by decide) h2 : 2 ^ m ≤ 2 ^ 14)
theorem xor_top (m x y : Nat) (h : x / 2 ^ m = y / 2 ^ m) : x ^^^ y < 2 ^ m := by
  have e : (x ^^^ y) / 2 ^ m = 0 := by
    rw [← Nat.shiftRight_eq_div_pow, Nat.shiftRight_xor_distrib, Nat.shiftRight_eq_div_pow, Nat.shiftRight_eq_div_pow, h, Nat.xor_self]
  have := Nat.two_pow_pos m
  exact (Nat.div_eq_zero_iff_lt this).1 e
theorem xor_lt (m : Nat) (a b : BitVec 16) (ha : a.toNat < 2 ^ m) (hb : b.toNat < 2 ^ m) : (a ^^^ b).toNat < 2 ^ m := by
  rw [BitVec.toNat_xor]; exact Nat.xor_lt_two_pow ha hb
theorem dbl_lt (m : Nat) (h1 : 3 ≤ m) (h2 : m ≤ 14) (a : BitVec 16) (ha : a.toNat < 2 ^ m) : (dbl m a).toNat < 2 ^ m := by
  rw [dbl_toNat m h1 h2 a ha]
  have hp := poly_in_range m h1 h2
  have e2 : 2 ^ (m + 1) = 2 * 2 ^ m := by rw [Nat.pow_succ, Nat.mul_comm]
  have h3 : a.toNat * 2 / 2 ^ m < 2 := Nat.div_lt_of_lt_mul (by omega)
  unfold dblN
  by_cases h : a.toNat * 2 / 2 ^ m % 2 = 0
  · rw [if_pos h]
    have : a.toNat * 2 / 2 ^ m = 0 := by
      generalize a.toNat * 2 / 2 ^ m = q at h h3
      omega
    exact (Nat.div_eq_zero_iff_lt (Nat.two_pow_pos m)).1 this
  · rw [if_neg h]
    apply xor_top
    have l : a.toNat * 2 / 2 ^ m = 1 := by
      generalize a.toNat * 2 / 2 ^ m = q at h h3
      omega
    have r : polyN m / 2 ^ m = 1 := by
      unfold polyN
      have a1 : (poly m).toNat / 2 ^ m < 2 := Nat.div_lt_of_lt_mul (by omega)
      have a2 : 1 ≤ (poly m).toNat / 2 ^ m := (Nat.le_div_iff_mul_le (Nat.two_pow_pos m)).2 (by omega)
      omega
    rw [l, r]
theorem dbls_lt (m : Nat) (h1 : 3 ≤ m) (h2 : m ≤ 14) : ∀ (n : Nat) (a : BitVec 16), a.toNat < 2 ^ m → (dbls m n a).toNat < 2 ^ m
  | 0, a, ha => ha
  | n + 1, a, ha => by simp only [dbls]; exact dbls_lt m h1 h2 n _ (dbl_lt m h1 h2 a ha)
/-- doubling, its test being one bit. -/
theorem dbl_bit (m : Nat) (h1 : 3 ≤ m) (h2 : m ≤ 14) (a : BitVec 16) (ha : a.toNat < 2 ^ m) : dbl m a = (a <<< 1) ^^^ (if a.getLsbD (m - 1) then poly m else 0) := by
  have hm := pow14 m h2
  have e1 : (a <<< 1).toNat = a.toNat * 2 := by
    rw [BitVec.toNat_shiftLeft, Nat.shiftLeft_eq, Nat.pow_one]; omega
  have e2 : ((a <<< 1) >>> m).toNat = a.toNat * 2 / 2 ^ m := by
    rw [BitVec.toNat_ushiftRight, e1, Nat.shiftRight_eq_div_pow]
  have e3 : 2 ^ m = 2 * 2 ^ (m - 1) := by
    obtain ⟨k, rfl⟩ : ∃ k, m = k + 1 := ⟨m - 1, by omega⟩
    rw [Nat.pow_succ, Nat.mul_comm]; rfl
  have e4 : a.toNat * 2 / 2 ^ m = a.toNat / 2 ^ (m - 1) := by
    rw [e3, Nat.mul_comm a.toNat 2, Nat.mul_div_mul_left _ _ (by decide)]
  have h3 : a.toNat / 2 ^ (m - 1) < 2 := Nat.div_lt_of_lt_mul (by omega)
  have hb : a.getLsbD (m - 1) = decide (a.toNat / 2 ^ (m - 1) % 2 = 1) := by
    rw [BitVec.getLsbD, Nat.testBit_eq_decide_div_mod_eq]
  unfold dbl
  by_cases h : (a <<< 1) >>> m = 0
  · have h0 : a.toNat / 2 ^ (m - 1) = 0 := by rw [← e4, ← e2, h]; rfl
    rw [if_pos h, hb, h0]
    simp
  · have h0 : a.toNat / 2 ^ (m - 1) = 1 := by
      have : a.toNat / 2 ^ (m - 1) ≠ 0 := by
        intro h4
        apply h
        apply BitVec.eq_of_toNat_eq
        rw [e2, e4]
        exact h4
      omega
    rw [if_neg h, hb, h0]
    simp
theorem dbl_xor (m : Nat) (h1 : 3 ≤ m) (h2 : m ≤ 14) (a b : BitVec 16) (ha : a.toNat < 2 ^ m) (hb : b.toNat < 2 ^ m) : dbl m (a ^^^ b) = dbl m a ^^^ dbl m b := by
  rw [dbl_bit m h1 h2 _ (xor_lt m a b ha hb), dbl_bit m h1 h2 a ha, dbl_bit m h1 h2 b hb, BitVec.shiftLeft_xor_distrib, BitVec.getLsbD_xor]
  generalize a <<< 1 = x
  generalize b <<< 1 = y
  cases a.getLsbD (m - 1) <;> cases b.getLsbD (m - 1)
  · simp
  · simp [BitVec.xor_assoc]
  · simp [BitVec.xor_assoc]; rw [BitVec.xor_comm (poly m) y]
  · simp only [Bool.bne_true, Bool.not_true, Bool.false_eq_true, if_false, if_true]
    rw [show x ^^^ poly m ^^^ (y ^^^ poly m) = x ^^^ y ^^^ (poly m ^^^ poly m) by
      rw [BitVec.xor_assoc, BitVec.xor_assoc, ← BitVec.xor_assoc (poly m) y, BitVec.xor_comm (poly m) y, BitVec.xor_assoc y]]
    rw [BitVec.xor_self]; rfl
theorem dbl_zero (m : Nat) (h1 : 3 ≤ m) (h2 : m ≤ 14) : dbl m 0 = 0 := by
  rw [dbl_bit m h1 h2 0 (by show 0 < _; exact Nat.two_pow_pos m)]
  simp
theorem dbls_xor (m : Nat) (h1 : 3 ≤ m) (h2 : m ≤ 14) : ∀ (n : Nat) (a b : BitVec 16), a.toNat < 2 ^ m → b.toNat < 2 ^ m → dbls m n (a ^^^ b) = dbls m n a ^^^ dbls m n b
  | 0, a, b, _, _ => rfl
  | n + 1, a, b, ha, hb => by
    simp only [dbls]
    rw [dbl_xor m h1 h2 a b ha hb]
    exact dbls_xor m h1 h2 n _ _ (dbl_lt m h1 h2 a ha) (dbl_lt m h1 h2 b hb)
theorem dbls_zero (m : Nat) (h1 : 3 ≤ m) (h2 : m ≤ 14) : ∀ n, dbls m n 0 = 0
  | 0 => rfl
  | n + 1 => by simp only [dbls]; rw [dbl_zero m h1 h2]; exact dbls_zero m h1 h2 n

/-- the product by bits: n bits of b are looked at. -/
def mulN (m : Nat) : Nat → BitVec 16 → BitVec 16 → BitVec 16
  | 0, _, _ => 0
  | n + 1, a, b => (if b.getLsbD 0 then a else 0) ^^^ mulN m n (dbl m a) (b >>> 1)
/-- the product. -/
def fmul (m : Nat) (a b : BitVec 16) : BitVec 16 := mulN m 16 a b
theorem mulN_lt (m : Nat) (h1 : 3 ≤ m) (h2 : m ≤ 14) : ∀ (n : Nat) (a b : BitVec 16), a.toNat < 2 ^ m → (mulN m n a b).toNat < 2 ^ m
  | 0, a, b, _ => by show 0 < _; exact Nat.two_pow_pos m
  | n + 1, a, b, ha => by
    simp only [mulN]
    apply xor_lt
    · split
      · exact ha
      · show 0 < _; exact Nat.two_pow_pos m
    · exact mulN_lt m h1 h2 n _ _ (dbl_lt m h1 h2 a ha)
theorem fmul_lt (m : Nat) (h1 : 3 ≤ m) (h2 : m ≤ 14) (a b : BitVec 16) (ha : a.toNat < 2 ^ m) : (fmul m a b).toNat < 2 ^ m := mulN_lt m h1 h2 16 a b ha
theorem mulN_xor (m : Nat) : ∀ (n : Nat) (a b c : BitVec 16), mulN m n a (b ^^^ c) = mulN m n a b ^^^ mulN m n a c
  | 0, a, b, c => by simp [mulN]
  | n + 1, a, b, c => by
    simp only [mulN]
    rw [BitVec.ushiftRight_xor_distrib, mulN_xor m n, BitVec.getLsbD_xor]
    generalize mulN m n (dbl m a) (b >>> 1) = x
    generalize mulN m n (dbl m a) (c >>> 1) = y
    cases b.getLsbD 0 <;> cases c.getLsbD 0
    · simp
    · simp
      rw [← BitVec.xor_assoc, BitVec.xor_comm a x, BitVec.xor_assoc]
    · simp [BitVec.xor_assoc]
    · simp
      rw [BitVec.xor_comm a x, BitVec.xor_assoc, ← BitVec.xor_assoc a a, BitVec.xor_self, BitVec.zero_xor]
theorem fmul_xor (m : Nat) (a b c : BitVec 16) : fmul m a (b ^^^ c) = fmul m a b ^^^ fmul m a c := mulN_xor m 16 a b c
theorem mulN_zero (m : Nat) : ∀ (n : Nat) (a : BitVec 16), mulN m n a 0 = 0
  | 0, a => rfl
  | n + 1, a => by simp only [mulN]; rw [show (0 : BitVec 16) >>> 1 = 0 by decide, mulN_zero m n]; simp
theorem fmul_zero (m : Nat) (a : BitVec 16) : fmul m a 0 = 0 := mulN_zero m 16 a
theorem zero_mulN (m : Nat) (h1 : 3 ≤ m) (h2 : m ≤ 14) : ∀ (n : Nat) (b : BitVec 16), mulN m n 0 b = 0
  | 0, b => rfl
  | n + 1, b => by simp only [mulN]; rw [dbl_zero m h1 h2, zero_mulN m h1 h2 n]; simp
theorem zero_fmul (m : Nat) (h1 : 3 ≤ m) (h2 : m ≤ 14) (b : BitVec 16) : fmul m 0 b = 0 := zero_mulN m h1 h2 16 b
/-- a power of 2 times b is b so often doubled. -/
theorem mulN_pw (m : Nat) (h1 : 3 ≤ m) (h2 : m ≤ 14) : ∀ (n : Nat) (i : Nat) (b : BitVec 16), b.toNat < 2 ^ m → b.toNat < 2 ^ n → mulN m n (pw m i) b = dbls m i b
  | 0, i, b, _, hb => by
    have : b = 0 := BitVec.eq_of_toNat_eq (by show _ = 0; omega)
    subst this
    rw [dbls_zero m h1 h2]; rfl
  | n + 1, i, b, hm, hb => by
    have hm14 := pow14 m h2
    have e1 : (b >>> 1).toNat = b.toNat / 2 := by rw [BitVec.toNat_ushiftRight, Nat.shiftRight_eq_div_pow]
    have e2 : 2 ^ (n + 1) = 2 * 2 ^ n := by rw [Nat.pow_succ, Nat.mul_comm]
    have e3 : 2 ^ m = 2 * 2 ^ (m - 1) := by
      obtain ⟨k, rfl⟩ : ∃ k, m = k + 1 := ⟨m - 1, by omega⟩
      rw [Nat.pow_succ, Nat.mul_comm]; rfl
    have hlt : (b >>> 1).toNat < 2 ^ m := by omega
    have h8 := two_le m h1
    simp only [mulN]
    rw [← pw_succ, mulN_pw m h1 h2 n (i + 1) (b >>> 1) hlt (by omega)]
    simp only [dbls]
    have hd : dbl m (b >>> 1) = (b >>> 1) <<< 1 := by
      rw [dbl_bit m h1 h2 _ hlt]
      have : (b >>> 1).getLsbD (m - 1) = false := by
        rw [BitVec.getLsbD]
        exact Nat.testBit_lt_two_pow (by omega)
      rw [this]; simp
    rw [hd]
    have hd2 : ((b >>> 1) <<< 1).toNat < 2 ^ m := by rw [← hd]; exact dbl_lt m h1 h2 _ hlt
    have hsplit : b = (if b.getLsbD 0 then 1 else 0 : BitVec 16) ^^^ ((b >>> 1) <<< 1) := by
      apply BitVec.eq_of_getLsbD_eq
      intro j hj
      rw [BitVec.getLsbD_xor]
      by_cases h0 : j = 0
      · subst h0
        cases h : b.getLsbD 0 <;> simp
      · have : ((if b.getLsbD 0 then 1 else 0 : BitVec 16)).getLsbD j = false := by
          split
          · rw [BitVec.getLsbD]
            exact Nat.testBit_lt_two_pow (show 1 < 2 ^ j from Nat.one_lt_two_pow h0)
          · simp
        rw [this]
        obtain ⟨k, rfl⟩ : ∃ k, j = k + 1 := ⟨j - 1, by omega⟩
        rw [BitVec.getLsbD_shiftLeft, BitVec.getLsbD_ushiftRight]
        simp [hj, Nat.add_comm 1 k]
    have h01 : ∀ c : Bool, (if c then pw m i else 0) = dbls m i (if c then 1 else 0) := by
      intro c
      cases c
      · simp only [Bool.false_eq_true, if_false]; rw [dbls_zero m h1 h2]
      · rfl
    have h02 : ∀ c : Bool, ((if c then 1 else 0 : BitVec 16)).toNat < 2 ^ m := by
      intro c
      cases c
      · show 0 < _; omega
      · show 1 < _; omega
    rw [h01, ← dbls_xor m h1 h2 i _ _ (h02 _) hd2, ← hsplit]
theorem fmul_by (m : Nat) (h1 : 3 ≤ m) (h2 : m ≤ 14) (i : Nat) (b : BitVec 16) (hb : b.toNat < 2 ^ m) : fmul m (pw m i) b = dbls m i b := mulN_pw m h1 h2 16 i b hb b.isLt
theorem fmul_pw (m : Nat) (h1 : 3 ≤ m) (h2 : m ≤ 14) (i j : Nat) : fmul m (pw m i) (pw m j) = pw m (i + j) := by
  rw [fmul_by m h1 h2 i _ (pw_ne m h1 h2 j).2, Nat.add_comm, pw_add]
/-- numbers below n that no two of n numbers share are all taken. -/
theorem onto : ∀ (n : Nat) (f : Nat → Nat), (∀ i, i < n → f i < n) → (∀ i j, i < n → j < n → f i = f j → i = j) → ∀ y, y < n → ∃ x, x < n ∧ f x = y
  | 0, _, _, _, y, hy => by omega
  | n + 1, f, hf, hi, y, hy => by
    have hg : ∀ i, i < n → (if f i = n then f n else f i) < n := by
      intro i h
      by_cases h1 : f i = n
      · rw [if_pos h1]
        have := hf n (by omega)
        have h2 : f n ≠ n := fun e => by have := hi i n (by omega) (by omega) (h1.trans e.symm); omega
        omega
      · rw [if_neg h1]; have := hf i (by omega); omega
    have hj : ∀ i j, i < n → j < n → (if f i = n then f n else f i) = (if f j = n then f n else f j) → i = j := by
      intro i j h1 h2 e
      by_cases a : f i = n <;> by_cases b : f j = n
      · exact hi i j (by omega) (by omega) (a.trans b.symm)
      · rw [if_pos a, if_neg b] at e; have := hi n j (by omega) (by omega) e; omega
      · rw [if_neg a, if_pos b] at e; have := hi i n (by omega) (by omega) e; omega
      · rw [if_neg a, if_neg b] at e; exact hi i j (by omega) (by omega) e
    have ih := onto n (fun i => if f i = n then f n else f i) hg hj
    by_cases hyn : y = f n
    · exact ⟨n, by omega, hyn.symm⟩
    · by_cases hy2 : y = n
      · subst hy2
        by_cases hex : ∃ i, i < y ∧ f i = y
        · obtain ⟨i, h1, h2⟩ := hex; exact ⟨i, by omega, h2⟩
        · have hfn : f y < y := by have := hf y (by omega); omega
          obtain ⟨x, h1, h2⟩ := ih (f y) hfn
          by_cases hx : f x = y
          · exact ⟨x, by omega, hx⟩
          · rw [if_neg hx] at h2
            have := hi x y (by omega) (by omega) h2
            omega
      · obtain ⟨x, h1, h2⟩ := ih y (by omega)
        by_cases hx : f x = n
        · rw [if_pos hx] at h2; exact absurd h2.symm hyn
        · rw [if_neg hx] at h2; exact ⟨x, by omega, h2⟩
theorem nat_pos (x : BitVec 16) (h : x ≠ 0) : 0 < x.toNat := by
  rcases Nat.eq_zero_or_pos x.toNat with e | e
  · exact absurd (BitVec.eq_of_toNat_eq e) h
  · exact e
/-- every element but 0 is a power of 2. -/
theorem reach (m : Nat) (h1 : 3 ≤ m) (h2 : m ≤ 14) (x : BitVec 16) (hx : x.toNat < 2 ^ m) (h : x ≠ 0) : ∃ k, k < size m ∧ pw m k = x := by
  have hp : ∀ i, 0 < (pw m i).toNat := fun i => nat_pos _ (pw_ne m h1 h2 i).1
  have hl : ∀ i, (pw m i).toNat < 2 ^ m := fun i => (pw_ne m h1 h2 i).2
  have hx0 := nat_pos x h
  have h8 := two_le m h1
  obtain ⟨k, k1, k2⟩ := onto (size m) (fun i => (pw m i).toNat - 1) (fun i _ => by have := hl i; have := hp i; show (pw m i).toNat - 1 < _; unfold size; omega)
    (fun i j hi hj e => pw_inj m h1 h2 i j hi hj (BitVec.eq_of_toNat_eq (by have := hp i; have := hp j; have e : (pw m i).toNat - 1 = (pw m j).toNat - 1 := e; omega))) (x.toNat - 1) (by unfold size; omega)
  refine ⟨k, k1, BitVec.eq_of_toNat_eq ?_⟩
  have := hp k
  have k2 : (pw m k).toNat - 1 = x.toNat - 1 := k2
  omega
/-- the logarithm: the first n whose power is x, looked for below n. -/
def lgTo (m : Nat) (x : BitVec 16) : Nat → Nat
  | 0 => 0
  | n + 1 => if pw m n = x then n else lgTo m x n
def lg (m : Nat) (x : BitVec 16) : Nat := lgTo m x (size m)
theorem lgTo_spec (m : Nat) (h1 : 3 ≤ m) (h2 : m ≤ 14) (x : BitVec 16) (k : Nat) (hk : pw m k = x) : ∀ n, k < n → n ≤ size m → lgTo m x n = k
  | 0, h, _ => by omega
  | n + 1, h, hn => by
    simp only [lgTo]
    by_cases e : pw m n = x
    · rw [if_pos e]; exact pw_inj m h1 h2 n k (by omega) (by omega) (e.trans hk.symm)
    · rw [if_neg e]
      have : k ≠ n := fun e2 => e (e2 ▸ hk)
      exact lgTo_spec m h1 h2 x k hk n (by omega) (by omega)
theorem lg_pw (m : Nat) (h1 : 3 ≤ m) (h2 : m ≤ 14) (k : Nat) (hk : k < size m) : lg m (pw m k) = k := lgTo_spec m h1 h2 _ k rfl _ hk (Nat.le_refl _)
theorem lg_spec (m : Nat) (h1 : 3 ≤ m) (h2 : m ≤ 14) (x : BitVec 16) (hx : x.toNat < 2 ^ m) (h : x ≠ 0) : lg m x < size m ∧ pw m (lg m x) = x := by
  obtain ⟨k, hk, rfl⟩ := reach m h1 h2 x hx h
  rw [lg_pw m h1 h2 k hk]; exact ⟨hk, rfl⟩
theorem lgTo_zero (m : Nat) (h1 : 3 ≤ m) (h2 : m ≤ 14) : ∀ n, lgTo m 0 n = 0
  | 0 => rfl
  | n + 1 => by simp only [lgTo]; rw [if_neg (pw_ne m h1 h2 n).1]; exact lgTo_zero m h1 h2 n
theorem lg_zero (m : Nat) (h1 : 3 ≤ m) (h2 : m ≤ 14) : lg m 0 = 0 := lgTo_zero m h1 h2 _
theorem pw_size_mul (m : Nat) (h1 : 3 ≤ m) (h2 : m ≤ 14) (q r : Nat) : pw m (size m * q + r) = pw m r := by
  rw [pw_mod m h1 h2, Nat.mul_add_mod, ← pw_mod m h1 h2]
/-! the laws -/
theorem el_cases (m : Nat) (h1 : 3 ≤ m) (h2 : m ≤ 14) (x : BitVec 16) (hx : x.toNat < 2 ^ m) : x = 0 ∨ ∃ k, k < size m ∧ x = pw m k := by
  by_cases h : x = 0
  · exact Or.inl h
  · obtain ⟨k, a, b⟩ := reach m h1 h2 x hx h
    exact Or.inr ⟨k, a, b.symm⟩
theorem fmul_comm (m : Nat) (h1 : 3 ≤ m) (h2 : m ≤ 14) (a b : BitVec 16) (ha : a.toNat < 2 ^ m) (hb : b.toNat < 2 ^ m) : fmul m a b = fmul m b a := by
  rcases el_cases m h1 h2 a ha with rfl | ⟨i, _, rfl⟩
  · rw [zero_fmul m h1 h2, fmul_zero]
  · rcases el_cases m h1 h2 b hb with rfl | ⟨j, _, rfl⟩
    · rw [zero_fmul m h1 h2, fmul_zero]
    · rw [fmul_pw m h1 h2, fmul_pw m h1 h2, Nat.add_comm]
theorem fmul_assoc (m : Nat) (h1 : 3 ≤ m) (h2 : m ≤ 14) (a b c : BitVec 16) (ha : a.toNat < 2 ^ m) (hb : b.toNat < 2 ^ m) (hc : c.toNat < 2 ^ m) : fmul m (fmul m a b) c = fmul m a (fmul m b c) := by
  rcases el_cases m h1 h2 a ha with rfl | ⟨i, _, rfl⟩
  · rw [zero_fmul m h1 h2, zero_fmul m h1 h2, zero_fmul m h1 h2]
  · rcases el_cases m h1 h2 b hb with rfl | ⟨j, _, rfl⟩
    · rw [fmul_zero, zero_fmul m h1 h2, fmul_zero]
    · rcases el_cases m h1 h2 c hc with rfl | ⟨k, _, rfl⟩
      · rw [fmul_zero, fmul_zero, fmul_zero]
      · rw [fmul_pw m h1 h2, fmul_pw m h1 h2, fmul_pw m h1 h2, fmul_pw m h1 h2, Nat.add_assoc]
theorem xor_fmul (m : Nat) (h1 : 3 ≤ m) (h2 : m ≤ 14) (a b c : BitVec 16) (ha : a.toNat < 2 ^ m) (hb : b.toNat < 2 ^ m) (hc : c.toNat < 2 ^ m) : fmul m (a ^^^ b) c = fmul m a c ^^^ fmul m b c := by
  rw [fmul_comm m h1 h2 _ c (xor_lt m a b ha hb) hc, fmul_xor, fmul_comm m h1 h2 c a hc ha, fmul_comm m h1 h2 c b hc hb]
theorem one_lt (m : Nat) (h1 : 3 ≤ m) : (1 : BitVec 16).toNat < 2 ^ m := by have := two_le m h1; show 1 < _; omega
theorem fmul_one (m : Nat) (h1 : 3 ≤ m) (h2 : m ≤ 14) (a : BitVec 16) (ha : a.toNat < 2 ^ m) : fmul m a 1 = a := by
  rcases el_cases m h1 h2 a ha with rfl | ⟨i, _, rfl⟩
  · exact zero_fmul m h1 h2 1
  · exact fmul_pw m h1 h2 i 0
theorem one_fmul (m : Nat) (h1 : 3 ≤ m) (h2 : m ≤ 14) (a : BitVec 16) (ha : a.toNat < 2 ^ m) : fmul m 1 a = a := by
  rw [fmul_comm m h1 h2 1 a (one_lt m h1) ha, fmul_one m h1 h2 a ha]
theorem fmul_ne (m : Nat) (h1 : 3 ≤ m) (h2 : m ≤ 14) (a b : BitVec 16) (ha : a.toNat < 2 ^ m) (hb : b.toNat < 2 ^ m) (h3 : a ≠ 0) (h4 : b ≠ 0) : fmul m a b ≠ 0 := by
  obtain ⟨i, _, rfl⟩ := reach m h1 h2 a ha h3
  obtain ⟨j, _, rfl⟩ := reach m h1 h2 b hb h4
  rw [fmul_pw m h1 h2]; exact (pw_ne m h1 h2 _).1
/-- the inverse. -/
def finv (m : Nat) (a : BitVec 16) : BitVec 16 := pw m (size m - lg m a)
theorem fmul_inv (m : Nat) (h1 : 3 ≤ m) (h2 : m ≤ 14) (a : BitVec 16) (ha : a.toNat < 2 ^ m) (h : a ≠ 0) : fmul m a (finv m a) = 1 := by
  obtain ⟨l1, l2⟩ := lg_spec m h1 h2 a ha h
  unfold finv
  rw [← l2, fmul_pw m h1 h2, l2, show lg m a + (size m - lg m a) = size m by omega, pw_end m h1 h2]
theorem finv_lt (m : Nat) (h1 : 3 ≤ m) (h2 : m ≤ 14) (a : BitVec 16) : (finv m a).toNat < 2 ^ m := (pw_ne m h1 h2 _).2
/-- a to the n-th. -/
def fpow (m : Nat) (a : BitVec 16) : Nat → BitVec 16
  | 0 => 1
  | n + 1 => fmul m (fpow m a n) a
theorem fpow_pw (m : Nat) (h1 : 3 ≤ m) (h2 : m ≤ 14) (i : Nat) : ∀ n, fpow m (pw m i) n = pw m (i * n)
  | 0 => rfl
  | n + 1 => by simp only [fpow]; rw [fpow_pw m h1 h2 i n, fmul_pw m h1 h2, Nat.mul_succ]
theorem fpow_zero (m : Nat) (n : Nat) : fpow m 0 (n + 1) = 0 := by simp only [fpow]; exact fmul_zero m _
theorem fpow_lt (m : Nat) (h1 : 3 ≤ m) (h2 : m ≤ 14) (a : BitVec 16) (ha : a.toNat < 2 ^ m) : ∀ n, (fpow m a n).toNat < 2 ^ m
  | 0 => one_lt m h1
  | n + 1 => by simp only [fpow]; exact fmul_lt m h1 h2 _ _ (fpow_lt m h1 h2 a ha n)
theorem fpow_add (m : Nat) (h1 : 3 ≤ m) (h2 : m ≤ 14) (a : BitVec 16) (ha : a.toNat < 2 ^ m) (i : Nat) : ∀ j, fpow m a (i + j) = fmul m (fpow m a i) (fpow m a j)
  | 0 => (fmul_one m h1 h2 _ (fpow_lt m h1 h2 a ha i)).symm
  | j + 1 => by
    rw [← Nat.add_assoc]
    simp only [fpow]
    rw [fpow_add m h1 h2 a ha i j, fmul_assoc m h1 h2 _ _ _ (fpow_lt m h1 h2 a ha i) (fpow_lt m h1 h2 a ha j) ha]
/-- squares of sums. -/
theorem square_xor (m : Nat) (h1 : 3 ≤ m) (h2 : m ≤ 14) (a b : BitVec 16) (ha : a.toNat < 2 ^ m) (hb : b.toNat < 2 ^ m) : fmul m (a ^^^ b) (a ^^^ b) = fmul m a a ^^^ fmul m b b := by
  rw [fmul_xor, xor_fmul m h1 h2 a b a ha hb ha, xor_fmul m h1 h2 a b b ha hb hb, fmul_comm m h1 h2 b a hb ha]
  generalize fmul m a b = x
  generalize fmul m a a = y
  generalize fmul m b b = z
  rw [BitVec.xor_assoc, ← BitVec.xor_assoc x x, BitVec.xor_self, BitVec.zero_xor]
/-- squared n times. -/
def sqs (m : Nat) : Nat → BitVec 16 → BitVec 16
  | 0, a => a
  | n + 1, a => sqs m n (fmul m a a)
theorem sqs_lt (m : Nat) (h1 : 3 ≤ m) (h2 : m ≤ 14) : ∀ (n : Nat) (a : BitVec 16), a.toNat < 2 ^ m → (sqs m n a).toNat < 2 ^ m
  | 0, a, ha => ha
  | n + 1, a, ha => by simp only [sqs]; exact sqs_lt m h1 h2 n _ (fmul_lt m h1 h2 a a ha)
theorem sqs_succ (m : Nat) : ∀ (n : Nat) (a : BitVec 16), sqs m (n + 1) a = fmul m (sqs m n a) (sqs m n a)
  | 0, a => rfl
  | n + 1, a => by
    show sqs m (n + 1) (fmul m a a) = _
    rw [sqs_succ m n]; rfl
theorem sqs_xor (m : Nat) (h1 : 3 ≤ m) (h2 : m ≤ 14) : ∀ (n : Nat) (a b : BitVec 16), a.toNat < 2 ^ m → b.toNat < 2 ^ m → sqs m n (a ^^^ b) = sqs m n a ^^^ sqs m n b
  | 0, a, b, _, _ => rfl
  | n + 1, a, b, ha, hb => by
    simp only [sqs]
    rw [square_xor m h1 h2 a b ha hb]
    exact sqs_xor m h1 h2 n _ _ (fmul_lt m h1 h2 a a ha) (fmul_lt m h1 h2 b b hb)
theorem sqs_pw (m : Nat) (h1 : 3 ≤ m) (h2 : m ≤ 14) : ∀ (n i : Nat), sqs m n (pw m i) = pw m (i * 2 ^ n)
  | 0, i => by simp [sqs]
  | n + 1, i => by
    simp only [sqs]
    rw [fmul_pw m h1 h2, sqs_pw m h1 h2 n, Nat.pow_succ, ← Nat.mul_two, Nat.mul_assoc, Nat.mul_comm 2]
theorem sqs_zero (m : Nat) : ∀ n, sqs m n 0 = 0
  | 0 => rfl
  | n + 1 => by simp only [sqs]; rw [fmul_zero]; exact sqs_zero m n
theorem sqs_back (m : Nat) (h1 : 3 ≤ m) (h2 : m ≤ 14) (a : BitVec 16) (ha : a.toNat < 2 ^ m) : sqs m m a = a := by
  rcases el_cases m h1 h2 a ha with rfl | ⟨i, _, rfl⟩
  · exact sqs_zero m m
  · rw [sqs_pw m h1 h2]
    have h8 := two_le m h1
    have : i * 2 ^ m = size m * i + i := by
      unfold size
      rw [Nat.sub_mul, Nat.one_mul, Nat.mul_comm i]
      have : i ≤ 2 ^ m * i := Nat.le_mul_of_pos_left _ (by omega)
      omega
    rw [this, pw_size_mul m h1 h2]
/-- the sum of the first n of a, its square, the square of that, and so on. -/
def trTo (m : Nat) (a : BitVec 16) : Nat → BitVec 16
  | 0 => 0
  | n + 1 => trTo m a n ^^^ sqs m n a
def tr (m : Nat) (a : BitVec 16) : BitVec 16 := trTo m a m
theorem trTo_lt (m : Nat) (h1 : 3 ≤ m) (h2 : m ≤ 14) (a : BitVec 16) (ha : a.toNat < 2 ^ m) : ∀ n, (trTo m a n).toNat < 2 ^ m
  | 0 => by show 0 < _; exact Nat.two_pow_pos m
  | n + 1 => by simp only [trTo]; exact xor_lt m _ _ (trTo_lt m h1 h2 a ha n) (sqs_lt m h1 h2 n a ha)
theorem trTo_xor (m : Nat) (h1 : 3 ≤ m) (h2 : m ≤ 14) (a b : BitVec 16) (ha : a.toNat < 2 ^ m) (hb : b.toNat < 2 ^ m) : ∀ n, trTo m (a ^^^ b) n = trTo m a n ^^^ trTo m b n
  | 0 => by simp [trTo]
  | n + 1 => by
    simp only [trTo]
    rw [trTo_xor m h1 h2 a b ha hb n, sqs_xor m h1 h2 n a b ha hb]
    generalize trTo m a n = x
    generalize trTo m b n = y
    generalize sqs m n a = z
    generalize sqs m n b = t
    rw [BitVec.xor_assoc, ← BitVec.xor_assoc y z, BitVec.xor_comm y z, BitVec.xor_assoc z, ← BitVec.xor_assoc]
theorem tr_xor (m : Nat) (h1 : 3 ≤ m) (h2 : m ≤ 14) (a b : BitVec 16) (ha : a.toNat < 2 ^ m) (hb : b.toNat < 2 ^ m) : tr m (a ^^^ b) = tr m a ^^^ tr m b := trTo_xor m h1 h2 a b ha hb m
theorem trTo_sq (m : Nat) (a : BitVec 16) : ∀ n, a ^^^ trTo m (fmul m a a) n = trTo m a n ^^^ sqs m n a
  | 0 => by simp [trTo, sqs]
  | n + 1 => by
    simp only [trTo]
    rw [← BitVec.xor_assoc, trTo_sq m a n]; rfl
theorem tr_sq (m : Nat) (h1 : 3 ≤ m) (h2 : m ≤ 14) (a : BitVec 16) (ha : a.toNat < 2 ^ m) : tr m (fmul m a a) = tr m a := by
  have := trTo_sq m a m
  rw [sqs_back m h1 h2 a ha, BitVec.xor_comm a, BitVec.xor_left_inj] at this
  exact this
theorem trTo_sq2 (m : Nat) (h1 : 3 ≤ m) (h2 : m ≤ 14) (a : BitVec 16) (ha : a.toNat < 2 ^ m) : ∀ n, fmul m (trTo m a n) (trTo m a n) = trTo m (fmul m a a) n
  | 0 => fmul_zero m 0
  | n + 1 => by
    simp only [trTo]
    rw [square_xor m h1 h2 _ _ (trTo_lt m h1 h2 a ha n) (sqs_lt m h1 h2 n a ha), trTo_sq2 m h1 h2 a ha n, ← sqs_succ]; rfl
/-- a trace is 0 or 1. -/
theorem tr_01 (m : Nat) (h1 : 3 ≤ m) (h2 : m ≤ 14) (a : BitVec 16) (ha : a.toNat < 2 ^ m) : tr m a = 0 ∨ tr m a = 1 := by
  have e : fmul m (tr m a) (tr m a) = tr m a := (trTo_sq2 m h1 h2 a ha m).trans (tr_sq m h1 h2 a ha)
  have hl : (tr m a).toNat < 2 ^ m := trTo_lt m h1 h2 a ha m
  rcases el_cases m h1 h2 _ hl with h | ⟨i, hi, h⟩
  · exact Or.inl h
  · rw [h, fmul_pw m h1 h2] at e
    refine Or.inr ?_
    by_cases h0 : i = 0
    · subst h0; exact h
    · exfalso
      by_cases hlt : i + i < size m
      · have := pw_inj m h1 h2 (i + i) i hlt hi e; omega
      · have e2 : pw m (i + i) = pw m (i + i - size m) := by
          have := pw_size_mul m h1 h2 1 (i + i - size m)
          rw [Nat.mul_one, show size m + (i + i - size m) = i + i by omega] at this
          exact this
        rw [e2] at e
        have := pw_inj m h1 h2 (i + i - size m) i (by omega) hi e; omega
end Go.Proofs.YtgfaaaeechgjmaaDoor.Fld
