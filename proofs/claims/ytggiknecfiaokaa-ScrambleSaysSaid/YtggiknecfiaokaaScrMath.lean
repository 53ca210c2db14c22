/- The mathematics of the stream of scramble: a register of 16 bits. No program is named here. By the verifier of shale. -/
import Derived.KernelRfl
namespace Go.Proofs.Ytggiknecfiaokaa.Scr
/-- one step of the register. -/
def lf (x : BitVec 16) : BitVec 16 := (x >>> 1) ||| ((x ^^^ (x >>> 2) ^^^ (x >>> 3) ^^^ (x >>> 5)) <<< 15)
def lfs : Nat → BitVec 16 → BitVec 16
  | 0, x => x
  | n + 1, x => lfs n (lf x)
theorem lfs_add (m n : Nat) : ∀ x, lfs m (lfs n x) = lfs (n + m) x := by
  induction n with
  | zero => intro x; simp [lfs]
  | succ n ih => intro x; rw [show n + 1 + m = (n + m) + 1 by omega]; simp only [lfs]; exact ih _
theorem lfs_succ (n : Nat) (x : BitVec 16) : lfs (n + 1) x = lf (lfs n x) := by
  have := lfs_add 1 n x
  rw [← this]; rfl
/-- a step is a xor of shifts. -/
theorem lf_eq (x : BitVec 16) : lf x = (x >>> 1) ^^^ ((x ^^^ (x >>> 2) ^^^ (x >>> 3) ^^^ (x >>> 5)) <<< 15) := by
  unfold lf
  generalize (x ^^^ (x >>> 2) ^^^ (x >>> 3) ^^^ (x >>> 5)) = y
  apply BitVec.eq_of_getLsbD_eq
  intro i hi
  rw [BitVec.getLsbD_or, BitVec.getLsbD_xor, BitVec.getLsbD_ushiftRight, BitVec.getLsbD_shiftLeft]
  by_cases h : i < 15
  · simp [h]
  · rw [BitVec.getLsbD_of_ge x (1 + i) (by omega)]; simp
theorem lf_xor (x y : BitVec 16) : lf (x ^^^ y) = lf x ^^^ lf y := by
  rw [lf_eq, lf_eq, lf_eq]
  rw [BitVec.ushiftRight_xor_distrib, BitVec.ushiftRight_xor_distrib, BitVec.ushiftRight_xor_distrib, BitVec.ushiftRight_xor_distrib]
  have e : ∀ a b c d a' b' c' d' : BitVec 16, (a ^^^ a') ^^^ (b ^^^ b') ^^^ (c ^^^ c') ^^^ (d ^^^ d') = (a ^^^ b ^^^ c ^^^ d) ^^^ (a' ^^^ b' ^^^ c' ^^^ d') := by
    intro a b c d a' b' c' d'
    ac_rfl
  rw [e, BitVec.shiftLeft_xor_distrib]
  generalize (x ^^^ x >>> 2 ^^^ x >>> 3 ^^^ x >>> 5) <<< 15 = p
  generalize (y ^^^ y >>> 2 ^^^ y >>> 3 ^^^ y >>> 5) <<< 15 = q
  generalize x >>> 1 = r
  generalize y >>> 1 = s
  ac_rfl
theorem lfs_xor (n : Nat) : ∀ x y, lfs n (x ^^^ y) = lfs n x ^^^ lfs n y := by
  induction n with
  | zero => intro x y; rfl
  | succ n ih => intro x y; simp only [lfs, lf_xor]; exact ih _ _
theorem lf_zero : lf 0 = 0 := by decide
theorem lfs_zero (n : Nat) : lfs n 0 = 0 := by
  induction n with
  | zero => rfl
  | succ n ih => simp only [lfs, lf_zero]; exact ih
theorem lf_bit (x : BitVec 16) (i : Nat) (hi : i < 15) : (lf x).getLsbD i = x.getLsbD (i + 1) := by
  rw [lf_eq, BitVec.getLsbD_xor, BitVec.getLsbD_ushiftRight, BitVec.getLsbD_shiftLeft]
  simp [hi, Nat.add_comm]
theorem lf_inj0 (x : BitVec 16) (h : lf x = 0) : x = 0 := by
  have hi : ∀ i, i < 16 → 0 < i → x.getLsbD i = false := by
    intro i h1 h2
    have := lf_bit x (i - 1) (by omega)
    rw [h, show i - 1 + 1 = i by omega] at this
    simpa using this.symm
  have h15 : (lf x).getLsbD 15 = false := by rw [h]; simp
  rw [lf_eq] at h15
  simp only [BitVec.getLsbD_xor, BitVec.getLsbD_ushiftRight, BitVec.getLsbD_shiftLeft] at h15
  have a2 := hi 2 (by omega) (by omega)
  have a3 := hi 3 (by omega) (by omega)
  have a5 := hi 5 (by omega) (by omega)
  apply BitVec.eq_of_getLsbD_eq
  intro i h1
  by_cases h0 : i = 0
  · subst h0
    simp at a2 a3 a5 h15 ⊢
    simpa [a2, a3, a5] using h15
  · rw [hi i h1 (by omega)]; simp
theorem lfs_bit : ∀ (n i : Nat) (x : BitVec 16), i + n < 16 → (lfs n x).getLsbD i = x.getLsbD (i + n)
  | 0, i, x, _ => rfl
  | n + 1, i, x, h => by
    simp only [lfs]
    rw [lfs_bit n i (lf x) (by omega), lf_bit x (i + n) (by omega)]
    rfl
/-- the lowest k bits, as a number. -/
def lowN (x : BitVec 16) (k : Nat) : Nat := x.toNat % 2 ^ k
theorem lowN_succ (x : BitVec 16) (k : Nat) (hk : k < 16) : lowN x (k + 1) = lowN x k + 2 ^ k * (lfs k x &&& 1#16).toNat := by
  have h1 : (lfs k x &&& 1#16).toNat = (lfs k x).toNat % 2 := by rw [BitVec.toNat_and]; exact Nat.and_one_is_mod _
  have h2 : (lfs k x).toNat % 2 = x.toNat / 2 ^ k % 2 := by
    have e := lfs_bit k 0 x (by omega)
    rw [Nat.zero_add, BitVec.getLsbD, BitVec.getLsbD, Nat.testBit_zero, Nat.testBit_eq_decide_div_mod_eq] at e
    have := decide_eq_decide.1 e
    omega
  rw [h1, h2]
  unfold lowN
  rw [Nat.pow_succ, Nat.mod_mul]
/-- the byte that a stream tells. -/
def out (x : BitVec 16) : BitVec 8 := x.setWidth 8
theorem lowN_out (x : BitVec 16) : lowN x 8 = (out x).toNat := by
  unfold lowN out; rw [BitVec.toNat_setWidth]
/-- the state that a seed begins with. -/
def start (x : BitVec 16) : BitVec 16 := if x = 0 then 0xACE1#16 else x
theorem start_ne (x : BitVec 16) : start x ≠ 0 := by
  unfold start
  split
  · decide
  · assumption
theorem start_of (x : BitVec 16) (h : x ≠ 0) : start x = x := if_neg h
theorem lfs_ne (n : Nat) : ∀ x, x ≠ 0 → lfs n x ≠ 0 := by
  induction n with
  | zero => intro x h; exact h
  | succ n ih => intro x h; simp only [lfs]; exact ih _ (fun e => h (lf_inj0 x e))
/-- bytes xor what a stream tells. -/
def mixL : BitVec 16 → List (BitVec 8) → List (BitVec 8)
  | _, [] => []
  | x, c :: l => (c ^^^ out x) :: mixL (lfs 8 x) l
theorem mixL_length : ∀ (l : List (BitVec 8)) (x : BitVec 16), (mixL x l).length = l.length
  | [], _ => rfl
  | _ :: l, x => by simp only [mixL, List.length_cons, mixL_length l]
theorem mixL_getD : ∀ (l : List (BitVec 8)) (x : BitVec 16) (k : Nat), k < l.length → (mixL x l).getD k 0 = l.getD k 0 ^^^ out (lfs (8 * k) x)
  | [], _, _, h => by simp at h
  | c :: l, x, 0, _ => rfl
  | c :: l, x, k + 1, h => by
    have := mixL_getD l (lfs 8 x) k (by simpa using h)
    simp only [mixL, List.getD_cons_succ, this, lfs_add]
    rw [show 8 + 8 * k = 8 * (k + 1) by omega]
theorem mixL_append : ∀ (l m : List (BitVec 8)) (x : BitVec 16), mixL x (l ++ m) = mixL x l ++ mixL (lfs (8 * l.length) x) m
  | [], m, x => rfl
  | c :: l, m, x => by
    simp only [List.cons_append, mixL, mixL_append l m, lfs_add, List.length_cons]
    rw [show 8 + 8 * l.length = 8 * (l.length + 1) by omega]
theorem mixL_twice : ∀ (l : List (BitVec 8)) (x : BitVec 16), mixL x (mixL x l) = l
  | [], _ => rfl
  | c :: l, x => by simp only [mixL, mixL_twice l, BitVec.xor_assoc, BitVec.xor_self, BitVec.xor_zero]
/-- the first k of it, and 0 behind. -/
def part (x : BitVec 16) (l : List (BitVec 8)) (k : Nat) : List (BitVec 8) := (mixL x l).take k ++ List.replicate (l.length - k) 0
theorem part_length (x : BitVec 16) (l : List (BitVec 8)) (k : Nat) (h : k ≤ l.length) : (part x l k).length = l.length := by
  simp [part, mixL_length]; omega
theorem part_zero (x : BitVec 16) (l : List (BitVec 8)) : part x l 0 = List.replicate l.length 0 := by simp [part]
theorem part_all (x : BitVec 16) (l : List (BitVec 8)) : part x l l.length = mixL x l := by
  simp only [part, Nat.sub_self, List.replicate_zero, List.append_nil]
  rw [List.take_of_length_le (by rw [mixL_length]; exact Nat.le_refl _)]
theorem part_set (x : BitVec 16) (l : List (BitVec 8)) (k : Nat) (h : k < l.length) : (part x l k).set k (l.getD k 0 ^^^ out (lfs (8 * k) x)) = part x l (k + 1) := by
  unfold part
  obtain ⟨r, hr⟩ : ∃ r, l.length - k = r + 1 := ⟨l.length - k - 1, by omega⟩
  have ht : ((mixL x l).take k).length = k := by rw [List.length_take, mixL_length]; omega
  rw [hr, List.replicate_succ, List.set_append_right _ _ (by omega), ht, Nat.sub_self, List.set_cons_zero]
  rw [List.take_succ_eq_append_getElem (by rw [mixL_length]; exact h), ← mixL_getD l x k h, List.getD_eq_getElem?_getD, List.getElem?_eq_getElem (by rw [mixL_length]; exact h)]
  rw [show l.length - (k + 1) = r by omega, List.append_assoc]
  rfl
end Go.Proofs.Ytggiknecfiaokaa.Scr
