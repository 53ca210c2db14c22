/- An int seen as an element of a field: its lowest m bits; powers with any int as exponent; orders. No program is named here. By the verifier of shale. -/
import Derived.Test.YtgfaaaeechgjmaaDoorFldAlg
import Derived.Test.YtgfaaaeechgjmaaDoorBits16
namespace Go.Proofs.YtgfaaaeechgjmaaDoor.Fld
open Go Bits16
set_option linter.unusedVariables false
/-- how many elements there are. -/
def els (m : Nat) : Nat := 2 ^ m
theorem els_eq (m : Nat) : els m = size m + 1 := by have := Nat.two_pow_pos m; unfold els size; omega
theorem els_lo (m : Nat) (h1 : 3 ≤ m) : 8 ≤ els m := two_le m h1
theorem els_hi (m : Nat) (h2 : m ≤ 14) : els m ≤ 16384 := pow14 m h2
theorem size_lo (m : Nat) (h1 : 3 ≤ m) : 7 ≤ size m := size_pos m h1
theorem size_hi (m : Nat) (h2 : m ≤ 14) : size m ≤ 16383 := by have := els_hi m h2; rw [els_eq] at this; omega
/-- the element of a number. -/
def el (m : Nat) (z : Int) : BitVec 16 := BitVec.ofNat 16 ((BitVec.ofInt 64 z).toNat % 2 ^ m)
theorem el_nat (m : Nat) (h2 : m ≤ 14) (z : Int) : (el m z).toNat = (BitVec.ofInt 64 z).toNat % 2 ^ m := by
  have := Nat.mod_lt (BitVec.ofInt 64 z).toNat (Nat.two_pow_pos m)
  have := pow14 m h2
  unfold el
  rw [BitVec.toNat_ofNat]
  exact Nat.mod_eq_of_lt (by omega)
theorem el_lt (m : Nat) (h2 : m ≤ 14) (z : Int) : (el m z).toNat < 2 ^ m := by
  rw [el_nat m h2]; exact Nat.mod_lt _ (Nat.two_pow_pos m)
theorem el_of (m : Nat) (h2 : m ≤ 14) (x : BitVec 16) (hx : x.toNat < 2 ^ m) : el m (h x) = x := by
  apply BitVec.eq_of_toNat_eq
  rw [el_nat m h2]
  have e : (BitVec.ofInt 64 (h x)).toNat = x.toNat := by
    rw [BitVec.toNat_ofInt]; unfold h; have := x.isLt; omega
  rw [e]; exact Nat.mod_eq_of_lt hx
theorem and_size (m : Nat) (h2 : m ≤ 14) (z : Int) : bits .and .i64 z (size m : Int) = h (el m z) := by
  have hs := size_hi m h2
  show IntKind.i64.wrap ((BitVec.ofInt 64 z &&& BitVec.ofInt 64 (size m : Int)).toNat : Int) = _
  have e : (BitVec.ofInt 64 (size m : Int)).toNat = 2 ^ m - 1 := by
    rw [BitVec.toNat_ofInt]; unfold size at hs ⊢; omega
  rw [BitVec.toNat_and, e, Nat.and_two_pow_sub_one_eq_mod, ← el_nat m h2]
  exact IntWalk.i64_in _ (by have := (el m z).isLt; omega)
theorem and_els (m : Nat) (h2 : m ≤ 14) (z : Int) : bits .and .i64 z ((els m : Int) - 1) = h (el m z) := by
  rw [show ((els m : Int) - 1) = (size m : Int) by rw [els_eq]; omega]
  exact and_size m h2 z
theorem ofInt_wrap64 (x : Int) : BitVec.ofInt 64 (IntKind.i64.wrap x) = BitVec.ofInt 64 x := by
  apply BitVec.eq_of_toInt_eq
  rw [BitVec.toInt_ofInt, BitVec.toInt_ofInt]
  have : IntKind.i64.wrap x = x.bmod (2 ^ 64) := by
    rw [IntKind.wrap_i64, Int.bmod_def]; omega
  rw [this]
  exact Int.bmod_bmod
theorem el_xor (m : Nat) (h2 : m ≤ 14) (x y : Int) : el m (bits .xor .i64 x y) = el m x ^^^ el m y := by
  apply BitVec.eq_of_toNat_eq
  rw [BitVec.toNat_xor, el_nat m h2, el_nat m h2, el_nat m h2]
  show (BitVec.ofInt 64 (IntKind.i64.wrap ((BitVec.ofInt 64 x ^^^ BitVec.ofInt 64 y).toNat : Int))).toNat % 2 ^ m = _
  rw [ofInt_wrap64, ← Nat.xor_mod_two_pow, ← BitVec.toNat_xor]
  congr 1
  rw [BitVec.toNat_ofInt]
  have := (BitVec.ofInt 64 x ^^^ BitVec.ofInt 64 y).isLt
  omega
theorem el_h_lt (m : Nat) (h2 : m ≤ 14) (x : BitVec 16) (hx : x.toNat < 2 ^ m) : h x < (els m : Int) := by
  unfold h els; omega
/-- 2 to the z-th. -/
def pwZ (m : Nat) (z : Int) : BitVec 16 := pw m (z % (size m : Int)).toNat
theorem pwZ_nat (m : Nat) (h1 : 3 ≤ m) (h2 : m ≤ 14) (n : Nat) : pwZ m (n : Int) = pw m n := by
  unfold pwZ
  rw [← Int.natCast_emod, Int.toNat_natCast, ← pw_mod m h1 h2]
theorem pwZ_congr (m : Nat) (x y : Int) (e : x % (size m : Int) = y % (size m : Int)) : pwZ m x = pwZ m y := by unfold pwZ; rw [e]
theorem pwZ_lt (m : Nat) (h1 : 3 ≤ m) (h2 : m ≤ 14) (z : Int) : (pwZ m z).toNat < 2 ^ m := (pw_ne m h1 h2 _).2
theorem pwZ_ne (m : Nat) (h1 : 3 ≤ m) (h2 : m ≤ 14) (z : Int) : pwZ m z ≠ 0 := (pw_ne m h1 h2 _).1
theorem pwZ_rep (m : Nat) (h1 : 3 ≤ m) (z : Int) : ∃ k : Nat, k < size m ∧ z % (size m : Int) = (k : Int) ∧ pwZ m z = pw m k := by
  have hs := size_pos m h1
  have a := Int.emod_nonneg z (b := (size m : Int)) (by omega)
  have b := Int.emod_lt_of_pos z (b := (size m : Int)) (by omega)
  exact ⟨(z % (size m : Int)).toNat, by omega, by omega, rfl⟩
theorem pwZ_mul (m : Nat) (h1 : 3 ≤ m) (h2 : m ≤ 14) (x y : Int) : fmul m (pwZ m x) (pwZ m y) = pwZ m (x + y) := by
  obtain ⟨i, _, e1, r1⟩ := pwZ_rep m h1 x
  obtain ⟨j, _, e2, r2⟩ := pwZ_rep m h1 y
  rw [r1, r2, fmul_pw m h1 h2, ← pwZ_nat m h1 h2]
  apply pwZ_congr
  rw [Int.natCast_add, ← e1, ← e2, ← Int.add_emod]
/-- a to the z-th, 0 to the 0th being 1. -/
def powZ (m : Nat) (a : BitVec 16) (z : Int) : BitVec 16 := if a = 0 then (if z = 0 then 1 else 0) else pwZ m ((lg m a : Int) * z)
theorem powZ_pw (m : Nat) (h1 : 3 ≤ m) (h2 : m ≤ 14) (k : Nat) (z : Int) : powZ m (pw m k) z = pwZ m ((k : Int) * z) := by
  unfold powZ
  rw [if_neg (pw_ne m h1 h2 k).1]
  have hs := size_pos m h1
  have e : lg m (pw m k) = k % size m := by
    rw [pw_mod m h1 h2]; exact lg_pw m h1 h2 _ (Nat.mod_lt _ (by omega))
  apply pwZ_congr
  rw [e, Int.natCast_emod, Int.mul_emod, Int.emod_emod, ← Int.mul_emod]
theorem powZ_lt (m : Nat) (h1 : 3 ≤ m) (h2 : m ≤ 14) (a : BitVec 16) (z : Int) : (powZ m a z).toNat < 2 ^ m := by
  unfold powZ
  split
  · split
    · exact one_lt m h1
    · show 0 < _; exact Nat.two_pow_pos m
  · exact pwZ_lt m h1 h2 _
theorem powZ_pwZ (m : Nat) (h1 : 3 ≤ m) (h2 : m ≤ 14) (x z : Int) : powZ m (pwZ m x) z = pwZ m (x * z) := by
  obtain ⟨i, _, e1, r1⟩ := pwZ_rep m h1 x
  rw [r1, powZ_pw m h1 h2]
  apply pwZ_congr
  rw [← e1, Int.mul_emod, Int.emod_emod, ← Int.mul_emod]
theorem powZ_nat (m : Nat) (h1 : 3 ≤ m) (h2 : m ≤ 14) (a : BitVec 16) (ha : a.toNat < 2 ^ m) (n : Nat) : powZ m a (n : Int) = fpow m a n := by
  rcases el_cases m h1 h2 a ha with rfl | ⟨i, _, rfl⟩
  · unfold powZ
    rw [if_pos rfl]
    cases n with
    | zero => rfl
    | succ n => rw [if_neg (by omega), fpow_zero]
  · rw [powZ_pw m h1 h2, fpow_pw m h1 h2, ← Int.natCast_mul, pwZ_nat m h1 h2]
theorem fpow_sq (m : Nat) (h1 : 3 ≤ m) (h2 : m ≤ 14) (a : BitVec 16) (ha : a.toNat < 2 ^ m) (n : Nat) : fpow m (fmul m a a) n = fpow m a (2 * n) := by
  rcases el_cases m h1 h2 a ha with rfl | ⟨i, _, rfl⟩
  · rw [fmul_zero]
    cases n with
    | zero => rfl
    | succ n => rw [fpow_zero, show 2 * (n + 1) = (2 * n + 1) + 1 by omega, fpow_zero]
  · rw [fmul_pw m h1 h2, fpow_pw m h1 h2, fpow_pw m h1 h2, ← Nat.two_mul, Nat.mul_assoc, Nat.mul_left_comm, Nat.mul_comm i]
/-- the order. -/
def ord (m : Nat) (a : BitVec 16) : Nat := size m / Nat.gcd (size m) (lg m a)
theorem pw_one (m : Nat) (h1 : 3 ≤ m) (h2 : m ≤ 14) (n : Nat) : pw m n = 1 ↔ size m ∣ n := by
  have hs := size_pos m h1
  rw [pw_mod m h1 h2]
  constructor
  · intro e
    have := pw_inj m h1 h2 (n % size m) 0 (Nat.mod_lt _ (by omega)) (by omega) e
    exact Nat.dvd_of_mod_eq_zero this
  · intro e
    rw [Nat.mod_eq_zero_of_dvd e]; rfl
theorem fpow_ord (m : Nat) (h1 : 3 ≤ m) (h2 : m ≤ 14) (a : BitVec 16) (ha : a.toNat < 2 ^ m) (h0 : a ≠ 0) (n : Nat) : fpow m a n = 1 ↔ ord m a ∣ n := by
  have hs := size_pos m h1
  obtain ⟨k, hk, rfl⟩ := reach m h1 h2 a ha h0
  rw [fpow_pw m h1 h2, pw_one m h1 h2]
  unfold ord
  rw [lg_pw m h1 h2 k hk]
  have g0 : 0 < Nat.gcd (size m) k := Nat.gcd_pos_of_pos_left _ (by omega)
  have gs : Nat.gcd (size m) k ∣ size m := Nat.gcd_dvd_left _ _
  have gk : Nat.gcd (size m) k ∣ k := Nat.gcd_dvd_right _ _
  have e1 : size m = Nat.gcd (size m) k * (size m / Nat.gcd (size m) k) := (Nat.mul_div_cancel' gs).symm
  have e2 : k = Nat.gcd (size m) k * (k / Nat.gcd (size m) k) := (Nat.mul_div_cancel' gk).symm
  constructor
  · intro hd
    have hd2 : Nat.gcd (size m) k * (size m / Nat.gcd (size m) k) ∣ Nat.gcd (size m) k * (k / Nat.gcd (size m) k * n) := by
      rw [← e1, ← Nat.mul_assoc, ← e2]; exact hd
    have hd3 := Nat.dvd_of_mul_dvd_mul_left g0 hd2
    have hc : Nat.Coprime (size m / Nat.gcd (size m) k) (k / Nat.gcd (size m) k) := Nat.coprime_div_gcd_div_gcd g0
    exact Nat.Coprime.dvd_of_dvd_mul_left hc hd3
  · intro ⟨c, hc⟩
    rw [hc]
    refine ⟨k / Nat.gcd (size m) k * c, ?_⟩
    generalize hq : Nat.gcd (size m) k = g at *
    calc k * (size m / g * c) = (g * (k / g)) * (size m / g * c) := by rw [← e2]
      _ = (g * (size m / g)) * (k / g * c) := by
        rw [Nat.mul_assoc, Nat.mul_assoc]
        congr 1
        rw [← Nat.mul_assoc, ← Nat.mul_assoc, Nat.mul_comm (k / g)]
      _ = size m * (k / g * c) := by rw [← e1]
theorem ord_pos (m : Nat) (h1 : 3 ≤ m) (a : BitVec 16) : 0 < ord m a ∧ ord m a ≤ size m ∧ ord m a ∣ size m := by
  have hs := size_pos m h1
  have g0 : 0 < Nat.gcd (size m) (lg m a) := Nat.gcd_pos_of_pos_left _ (by omega)
  have gs : Nat.gcd (size m) (lg m a) ∣ size m := Nat.gcd_dvd_left _ _
  refine ⟨Nat.div_pos (Nat.le_of_dvd (by omega) gs) g0, Nat.div_le_self _ _, ?_⟩
  exact ⟨Nat.gcd (size m) (lg m a), (Nat.div_mul_cancel gs).symm⟩
end Go.Proofs.YtgfaaaeechgjmaaDoor.Fld
