/- The walk over package binpoly's addShifted. By the verifier of shale. -/
import Derived.Test.YtbngkmlipmhgdaaDoorBinTrim
import Derived.Test.YtbngkmlipmhgdaaDoorBuf
namespace Go.Proofs.YtbngkmlipmhgdaaDoor.Bin
open Go Go.RowKit
set_option linter.unusedVariables false
theorem pm_pow (a : Nat) : ∀ n, pm a (2 ^ n) = a <<< n
  | 0 => by rw [Nat.pow_zero, pm_one, Nat.shiftLeft_zero]
  | n + 1 => by rw [Nat.pow_succ, Nat.mul_comm, pm_dbl_right, pm_pow a n, Nat.shiftLeft_succ]
theorem shl_xor (a b n : Nat) : (a ^^^ b) <<< n = a <<< n ^^^ b <<< n := by
  rw [← pm_pow, ← pm_pow, ← pm_pow, pm_xor_left]
theorem val_set (X : List (BitVec 8)) (j : Nat) (c : BitVec 8) (hj : j < X.length) : val (X.set j (nth8 X j ^^^ c)) = val X ^^^ (c.toNat <<< (8 * j)) := by
  apply Nat.eq_of_testBit_eq
  intro i
  rw [Nat.testBit_xor, val_bit, val_bit, Nat.testBit_shiftLeft]
  by_cases e : i / 8 = j
  · subst e
    have h1 : nth8 (X.set (i / 8) (nth8 X (i / 8) ^^^ c)) (i / 8) = nth8 X (i / 8) ^^^ c := by
      rw [nth8, List.getD_eq_getElem?_getD, List.getElem?_set_self hj]; rfl
    rw [h1, BitVec.getLsbD_xor]
    have : 8 * (i / 8) ≤ i := by omega
    rw [decide_eq_true this, show i - 8 * (i / 8) = i % 8 by omega]
    rfl
  · have h1 : nth8 (X.set j (nth8 X j ^^^ c)) (i / 8) = nth8 X (i / 8) := by
      unfold nth8
      rw [List.getD_eq_getElem?_getD, List.getElem?_set_ne (by omega), ← List.getD_eq_getElem?_getD]
    rw [h1]
    by_cases h : 8 * j ≤ i
    · rw [decide_eq_true h, Nat.testBit_lt_two_pow (Nat.lt_of_lt_of_le c.isLt (Nat.pow_le_pow_right (by decide) (show 8 ≤ i - 8 * j by omega)))]
      simp
    · rw [decide_eq_false h]; simp
theorem split_byte (x : Nat) : x = (x % 256) ^^^ ((x / 256) <<< 8) := by
  apply Nat.eq_of_testBit_eq
  intro i
  rw [Nat.testBit_xor, Nat.testBit_shiftLeft, show (256 : Nat) = 2 ^ 8 by decide, Nat.testBit_mod_two_pow, Nat.testBit_div_two_pow]
  by_cases h : 8 ≤ i
  · rw [decide_eq_true h, decide_eq_false (by omega : ¬ i < 8), show i - 8 + 8 = i by omega]; simp
  · rw [decide_eq_false h, decide_eq_true (by omega : i < 8)]; simp
theorem val_take_succ (M : List (BitVec 8)) (k : Nat) (h : k < M.length) : val (M.take (k + 1)) = val (M.take k) ^^^ ((nth8 M k).toNat <<< (8 * k)) := by
  apply Nat.eq_of_testBit_eq
  intro i
  rw [Nat.testBit_xor, val_bit, val_bit, Nat.testBit_shiftLeft, nth8_take, nth8_take]
  by_cases e : i / 8 = k
  · subst e
    rw [if_pos (by omega), if_neg (by omega), decide_eq_true (by omega : 8 * (i / 8) ≤ i), show i - 8 * (i / 8) = i % 8 by omega]
    simp; rfl
  · by_cases h1 : i / 8 < k
    · rw [if_pos (by omega), if_pos h1, decide_eq_false (by omega : ¬ 8 * k ≤ i)]; simp
    · rw [if_neg (by omega), if_neg h1, decide_eq_true (by omega : 8 * k ≤ i), Nat.testBit_lt_two_pow (Nat.lt_of_lt_of_le (nth8 M k).isLt (Nat.pow_le_pow_right (by decide) (show 8 ≤ i - 8 * k by omega)))]; simp
theorem byte_le (M : List (BitVec 8)) (k : Nat) : (nth8 M k).toNat <<< (8 * k) ≤ val M := by
  rw [Nat.shiftLeft_eq]
  have : (nth8 M k).toNat = val M / 2 ^ (8 * k) % 2 ^ 8 := by
    apply Nat.eq_of_testBit_eq
    intro i
    rw [Nat.testBit_mod_two_pow, Nat.testBit_div_two_pow, val_bit]
    by_cases h : i < 8
    · rw [decide_eq_true h, show (i + 8 * k) / 8 = k by omega, show (i + 8 * k) % 8 = i by omega]; simp; rfl
    · rw [decide_eq_false h, Nat.testBit_lt_two_pow (Nat.lt_of_lt_of_le (nth8 M k).isLt (Nat.pow_le_pow_right (by decide) (show 8 ≤ i by omega)))]; simp
  rw [this]
  exact Nat.le_trans (Nat.mul_le_mul_right _ (Nat.mod_le _ _)) (Nat.div_mul_le_self _ _)
theorem shl_shl (a i j : Nat) : (a <<< i) <<< j = a <<< (i + j) := (Nat.shiftLeft_add a i j).symm
/-- what one byte adds: a low byte and a high one. -/
theorem byte_adds (b n k : Nat) : (b <<< (8 * k)) <<< n = ((b * 2 ^ (n % 8)) % 256) <<< (8 * (n / 8 + k)) ^^^ ((b * 2 ^ (n % 8)) / 256) <<< (8 * (n / 8 + k + 1)) := by
  rw [shl_shl, show 8 * (n / 8 + k + 1) = 8 + 8 * (n / 8 + k) by omega, ← shl_shl _ 8, ← shl_xor, ← split_byte, ← Nat.shiftLeft_eq, shl_shl]
  congr 1
  omega
theorem val_set0 (X : List (BitVec 8)) (j lo : Nat) (h : lo < 256) (hj : j < X.length) : val (X.set j (nth8 X j ^^^ BitVec.ofNat 8 lo)) = val X ^^^ (lo <<< (8 * j)) := by
  rw [val_set X j _ hj, BitVec.toNat_ofNat, Nat.mod_eq_of_lt (by simpa using h)]
theorem xor_byte (c : BitVec 8) (lo : Nat) (h : lo < 256) : bits .xor .u8 (Bits32.b c) (lo : Int) = Bits32.b (c ^^^ BitVec.ofNat 8 lo) := by
  have : (lo : Int) = Bits32.b (BitVec.ofNat 8 lo) := by unfold Bits32.b; rw [BitVec.toNat_ofNat, Nat.mod_eq_of_lt (by simpa using h)]
  rw [this, Bits32.bxor]
theorem and255 (x : Nat) (h : x < 65536) : bits .and .u16 (x : Int) 255 = ((x % 256 : Nat) : Int) := by
  show IntKind.u16.wrap ((BitVec.ofInt 16 (x : Int) &&& BitVec.ofInt 16 255).toNat : Int) = _
  rw [BitVec.toNat_and, show (BitVec.ofInt 16 255).toNat = 2 ^ 8 - 1 by decide, Nat.and_two_pow_sub_one_eq_mod, BitVec.toNat_ofInt]
  show ((((x : Int) % ((2 ^ 16 : Nat) : Int)).toNat % 2 ^ 8 : Nat) : Int) % 65536 = _
  omega
end Go.Proofs.YtbngkmlipmhgdaaDoor.Bin
