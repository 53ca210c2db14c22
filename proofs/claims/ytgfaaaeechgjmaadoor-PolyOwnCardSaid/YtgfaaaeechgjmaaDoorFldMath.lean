/- The mathematics of the fields of 2^m elements, m from 3 to 14, by doubling. No program is named here. By the verifier of shale. -/
import Derived.KernelRfl
namespace Go.Proofs.YtgfaaaeechgjmaaDoor.Fld
set_option linter.unusedVariables false
/-- the polynomials. -/
def poly : Nat → BitVec 16
  | 3 => 0xB | 4 => 0x13 | 5 => 0x25 | 6 => 0x43 | 7 => 0x89 | 8 => 0x11D | 9 => 0x211 | 10 => 0x409 | 11 => 0x805 | 12 => 0x1053 | 13 => 0x201B | 14 => 0x4443 | _ => 0
/-- two times a. -/
def dbl (m : Nat) (a : BitVec 16) : BitVec 16 := if (a <<< 1) >>> m = 0 then a <<< 1 else (a <<< 1) ^^^ poly m
/-- that n times. -/
def dbls (m : Nat) : Nat → BitVec 16 → BitVec 16
  | 0, a => a
  | n + 1, a => dbls m n (dbl m a)
theorem dbls_add (m i n : Nat) : ∀ a, dbls m i (dbls m n a) = dbls m (n + i) a := by
  induction n with
  | zero => intro a; simp [dbls]
  | succ n ih => intro a; rw [show n + 1 + i = (n + i) + 1 by omega]; simp only [dbls]; exact ih _
theorem dbls_succ (m n : Nat) (a : BitVec 16) : dbls m (n + 1) a = dbl m (dbls m n a) := by
  have := dbls_add m 1 n a
  rw [← this]; rfl
/-- the powers of 2. -/
def pw (m n : Nat) : BitVec 16 := dbls m n 1
theorem pw_succ (m n : Nat) : pw m (n + 1) = dbl m (pw m n) := dbls_succ m n 1
theorem pw_add (m n k : Nat) : pw m (n + k) = dbls m k (pw m n) := (dbls_add m k n 1).symm
/-- how many elements there are but 0. -/
def size (m : Nat) : Nat := 2 ^ m - 1
/-! the same on naturals, for the kernel -/
def polyN (m : Nat) : Nat := (poly m).toNat
def dblN (m a : Nat) : Nat := if a * 2 / 2 ^ m % 2 = 0 then a * 2 else (a * 2) ^^^ polyN m
/-- runs n doublings from a on, so long as they stay off 1 and below 2^m; 0 else. -/
noncomputable def run (m : Nat) (n : Nat) : Nat → Nat := Nat.rec (fun a => a) (fun _ ih a => if dblN m a = 1 then 0 else if 2 ^ m ≤ dblN m a then 0 else if dblN m a = 0 then 0 else ih (dblN m a)) n
theorem dbl_toNat (m : Nat) (hm : 3 ≤ m) (hm2 : m ≤ 14) (a : BitVec 16) (ha : a.toNat < 2 ^ m) : (dbl m a).toNat = dblN m a.toNat := by
  have h2 : 2 ^ m ≤ 2 ^ 14 := Nat.pow_le_pow_right (by decide) hm2
  have e1 : (a <<< 1).toNat = a.toNat * 2 := by
    rw [BitVec.toNat_shiftLeft, Nat.shiftLeft_eq, Nat.pow_one]; omega
  have h3 : a.toNat * 2 / 2 ^ m < 2 := Nat.div_lt_of_lt_mul (by omega)
  have e2 : ((a <<< 1) >>> m).toNat = a.toNat * 2 / 2 ^ m := by
    rw [BitVec.toNat_ushiftRight, e1, Nat.shiftRight_eq_div_pow]
  unfold dbl dblN
  by_cases h : (a <<< 1) >>> m = 0
  · rw [if_pos h, if_pos (by rw [← e2, h]; rfl), e1]
  · rw [if_neg h, if_neg]
    · rw [BitVec.toNat_xor, e1]; rfl
    · intro h4
      apply h
      apply BitVec.eq_of_toNat_eq
      rw [e2]
      show _ = 0
      omega
theorem run_spec (m : Nat) (hm : 3 ≤ m) (hm2 : m ≤ 14) : ∀ (n : Nat) (x : BitVec 16), x.toNat < 2 ^ m → run m n x.toNat ≠ 0 →
    run m n x.toNat = (dbls m n x).toNat ∧ ∀ d, 0 < d → d ≤ n → dbls m d x ≠ 1 ∧ dbls m d x ≠ 0 ∧ (dbls m d x).toNat < 2 ^ m
  | 0, x, _, _ => ⟨rfl, fun d h1 h2 => by omega⟩
  | n + 1, x, hx, h => by
    have e : run m (n + 1) x.toNat = if dblN m x.toNat = 1 then 0 else if 2 ^ m ≤ dblN m x.toNat then 0 else if dblN m x.toNat = 0 then 0 else run m n (dblN m x.toNat) := rfl
    rw [e] at h ⊢
    by_cases hc : dblN m x.toNat = 1
    · rw [if_pos hc] at h; exact absurd rfl h
    · rw [if_neg hc] at h ⊢
      by_cases hc2 : 2 ^ m ≤ dblN m x.toNat
      · rw [if_pos hc2] at h; exact absurd rfl h
      · rw [if_neg hc2] at h ⊢
        by_cases hc3 : dblN m x.toNat = 0
        · rw [if_pos hc3] at h; exact absurd rfl h
        · rw [if_neg hc3] at h ⊢
          rw [← dbl_toNat m hm hm2 x hx] at h hc hc2 hc3 ⊢
          obtain ⟨r1, r2⟩ := run_spec m hm hm2 n (dbl m x) (by omega) h
          refine ⟨r1, fun d h1 h2 => ?_⟩
          obtain ⟨d, rfl⟩ : ∃ k, d = k + 1 := ⟨d - 1, by omega⟩
          by_cases h0 : d = 0
          · subst h0
            refine ⟨fun hv => hc ?_, fun hv => hc3 ?_, by simp only [dbls]; omega⟩
            · simp only [dbls] at hv; rw [hv]; rfl
            · simp only [dbls] at hv; rw [hv]; rfl
          · exact r2 d (by omega) (by omega)
/-- For each m: the powers of 2 stay off 1 and 0 for 2^m - 2 steps, and are 1 behind one more. -/
def good (m : Nat) : Prop := run m (2 ^ m - 2) 1 ≠ 0 ∧ dblN m (run m (2 ^ m - 2) 1) = 1
theorem good_all : ∀ m, 3 ≤ m → m ≤ 14 → good m := by
  have key : ∀ m, (run m (2 ^ m - 2) 1 != 0 && dblN m (run m (2 ^ m - 2) 1) == 1) = true → good m := by
    intro m h
    unfold good
    simpa using h
  intro m h1 h2
  apply key
  rcases (by omega : m = 3 ∨ m = 4 ∨ m = 5 ∨ m = 6 ∨ m = 7 ∨ m = 8 ∨ m = 9 ∨ m = 10 ∨ m = 11 ∨ m = 12 ∨ m = 13 ∨ m = 14) with rfl | rfl | rfl | rfl | rfl | rfl | rfl | rfl | rfl | rfl | rfl | rfl
  all_goals kernel_rfl
theorem two_le (m : Nat) (h : 3 ≤ m) : 8 ≤ 2 ^ m := Nat.pow_le_pow_right (n := 2) (by decide) h
theorem pw_off (m : Nat) (h1 : 3 ≤ m) (h2 : m ≤ 14) (d : Nat) (h0 : 0 < d) (hd : d < size m) : pw m d ≠ 1 ∧ pw m d ≠ 0 ∧ (pw m d).toNat < 2 ^ m := by
  have := two_le m h1
  exact (run_spec m h1 h2 (2 ^ m - 2) 1 (by show 1 < _; omega) (good_all m h1 h2).1).2 d h0 (by unfold size at hd; omega)
theorem pw_end (m : Nat) (h1 : 3 ≤ m) (h2 : m ≤ 14) : pw m (size m) = 1 := by
  have h8 := two_le m h1
  have hg := good_all m h1 h2
  have hs := (run_spec m h1 h2 (2 ^ m - 2) 1 (by show 1 < _; omega) hg.1)
  have hlt := (hs.2 (2 ^ m - 2) (by omega) (Nat.le_refl _)).2.2
  have e : size m = (2 ^ m - 2) + 1 := by unfold size; omega
  rw [e, pw_succ]
  apply BitVec.eq_of_toNat_eq
  show (dbl m (dbls m (2 ^ m - 2) 1)).toNat = 1
  rw [dbl_toNat m h1 h2 _ hlt]
  show dblN m (dbls m (2 ^ m - 2) 1).toNat = 1
  rw [← hs.1]
  exact hg.2
theorem size_pos (m : Nat) (h1 : 3 ≤ m) : 7 ≤ size m := by have := two_le m h1; unfold size; omega
/-- doubling behind a whole round. -/
theorem pw_mod (m : Nat) (h1 : 3 ≤ m) (h2 : m ≤ 14) (n : Nat) : pw m n = pw m (n % size m) := by
  have hs := size_pos m h1
  have key : ∀ k r, pw m (size m * k + r) = pw m r := by
    intro k
    induction k with
    | zero => intro r; simp
    | succ k ih =>
      intro r
      rw [show size m * (k + 1) + r = size m + (size m * k + r) by rw [Nat.mul_succ]; omega, pw_add, pw_end m h1 h2]
      exact ih r
  rw [← Nat.div_add_mod n (size m), key]
  simp
theorem pw_ne (m : Nat) (h1 : 3 ≤ m) (h2 : m ≤ 14) (n : Nat) : pw m n ≠ 0 ∧ (pw m n).toNat < 2 ^ m := by
  have hs := size_pos m h1
  have h8 := two_le m h1
  rw [pw_mod m h1 h2 n]
  by_cases h0 : n % size m = 0
  · rw [h0]; exact ⟨by show (1 : BitVec 16) ≠ 0; decide, by show 1 < _; omega⟩
  · exact (pw_off m h1 h2 _ (by omega) (Nat.mod_lt _ (by omega))).2
theorem pw_apart (m : Nat) (h1 : 3 ≤ m) (h2 : m ≤ 14) (i j : Nat) (hij : i < j) (hj : j < size m) : pw m i ≠ pw m j := by
  intro e
  have hs := size_pos m h1
  have := congrArg (dbls m (size m - j)) e
  rw [← pw_add, ← pw_add, show j + (size m - j) = size m by omega, pw_end m h1 h2] at this
  exact (pw_off m h1 h2 (i + (size m - j)) (by omega) (by omega)).1 this
theorem pw_inj (m : Nat) (h1 : 3 ≤ m) (h2 : m ≤ 14) (i j : Nat) (hi : i < size m) (hj : j < size m) (e : pw m i = pw m j) : i = j := by
  rcases Nat.lt_trichotomy i j with h | h | h
  · exact absurd e (pw_apart m h1 h2 i j h hj)
  · exact h
  · exact absurd e.symm (pw_apart m h1 h2 j i h hi)
end Go.Proofs.YtgfaaaeechgjmaaDoor.Fld
