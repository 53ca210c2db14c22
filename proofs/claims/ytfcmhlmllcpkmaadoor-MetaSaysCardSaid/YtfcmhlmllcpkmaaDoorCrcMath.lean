/- The mathematics of a CRC-32 as bits that are shifted: no program is named here. By the verifier of shale. -/
import Derived.KernelRfl
namespace Go.Proofs.YtfcmhlmllcpkmaaDoor.Crc

/-- x times a, reduced. -/
def up (a : BitVec 32) : BitVec 32 := if a.getLsbD 0 then (a >>> 1) ^^^ 0xEDB88320#32 else a >>> 1
/-- x to the n times a, reduced. -/
def ups : Nat → BitVec 32 → BitVec 32
  | 0, a => a
  | n + 1, a => ups n (up a)

def one : BitVec 32 := 0x80000000#32
def ones : BitVec 32 := 0xFFFFFFFF#32

theorem up_zero : up 0 = 0 := by decide
theorem xxxx (a b c : BitVec 32) : a ^^^ c ^^^ (b ^^^ c) = a ^^^ b := by
  rw [BitVec.xor_assoc, BitVec.xor_comm b c, ← BitVec.xor_assoc c c b, BitVec.xor_self, BitVec.zero_xor]
theorem up_xor (a b : BitVec 32) : up (a ^^^ b) = up a ^^^ up b := by
  unfold up
  rw [BitVec.getLsbD_xor, BitVec.ushiftRight_xor_distrib]
  generalize a >>> 1 = x
  generalize b >>> 1 = y
  generalize 0xEDB88320#32 = q
  cases a.getLsbD 0 <;> cases b.getLsbD 0 <;> simp
  · rw [BitVec.xor_assoc]
  · rw [BitVec.xor_assoc, BitVec.xor_comm y, BitVec.xor_assoc]
  · exact (xxxx x y q).symm

theorem ups_zero (n : Nat) : ups n 0 = 0 := by
  induction n with
  | zero => rfl
  | succ n ih => simp only [ups, up_zero]; exact ih
theorem ups_xor (n : Nat) : ∀ a b : BitVec 32, ups n (a ^^^ b) = ups n a ^^^ ups n b := by
  induction n with
  | zero => intro a b; rfl
  | succ n ih => intro a b; simp only [ups, up_xor]; exact ih _ _
theorem ups_up (n : Nat) : ∀ a : BitVec 32, ups n (up a) = up (ups n a) := by
  induction n with
  | zero => intro a; rfl
  | succ n ih => intro a; simp only [ups]; exact ih _
theorem ups_ups (m n : Nat) : ∀ a : BitVec 32, ups m (ups n a) = ups (n + m) a := by
  induction n with
  | zero => intro a; simp [ups]
  | succ n ih => intro a; rw [show n + 1 + m = (n + m) + 1 by omega]; simp only [ups]; exact ih _
theorem ups_ups_comm (m n : Nat) (a : BitVec 32) : ups m (ups n a) = ups n (ups m a) := by
  rw [ups_ups, ups_ups, Nat.add_comm]

/-- nothing but 0 goes to 0. -/
theorem up_inj0 (a : BitVec 32) (h : up a = 0) : a = 0 := by
  unfold up at h
  by_cases h0 : a.getLsbD 0
  · rw [if_pos h0] at h
    have := congrArg (·.getLsbD 31) h
    simp at this
  · rw [if_neg h0] at h
    apply BitVec.eq_of_getLsbD_eq
    intro i hi
    cases i with
    | zero => simpa using h0
    | succ i =>
      have := congrArg (·.getLsbD i) h
      simpa [BitVec.getLsbD_ushiftRight, Nat.add_comm] using this
theorem ups_inj0 (n : Nat) : ∀ a : BitVec 32, ups n a = 0 → a = 0 := by
  induction n with
  | zero => intro a h; exact h
  | succ n ih => intro a h; exact up_inj0 a (ih _ h)
theorem ups_inj (n : Nat) (a b : BitVec 32) (h : ups n a = ups n b) : a = b := by
  have : ups n (a ^^^ b) = 0 := by rw [ups_xor, h, BitVec.xor_self]; rfl
  have := ups_inj0 n _ this
  exact BitVec.xor_eq_zero_iff.1 this

/-- four steps at once, by a table of the lowest four bits. -/
theorem up_even (a : BitVec 32) (h : a.getLsbD 0 = false) : up a = a >>> 1 := by unfold up; rw [h]; rfl
theorem nib_high (y : BitVec 32) (h0 : y.getLsbD 0 = false) (h1 : y.getLsbD 1 = false) (h2 : y.getLsbD 2 = false) (h3 : y.getLsbD 3 = false) : ups 4 y = y >>> 4 := by
  simp only [ups]
  have e1 : up y = y >>> 1 := up_even y h0
  have e2 : up (y >>> 1) = y >>> 1 >>> 1 := up_even _ (by rw [BitVec.getLsbD_ushiftRight]; exact h1)
  have e3 : up (y >>> 1 >>> 1) = y >>> 1 >>> 1 >>> 1 := up_even _ (by rw [BitVec.getLsbD_ushiftRight, BitVec.getLsbD_ushiftRight]; exact h2)
  have e4 : up (y >>> 1 >>> 1 >>> 1) = y >>> 1 >>> 1 >>> 1 >>> 1 := up_even _ (by rw [BitVec.getLsbD_ushiftRight, BitVec.getLsbD_ushiftRight, BitVec.getLsbD_ushiftRight]; exact h3)
  rw [e1, e2, e3, e4]
  simp [← BitVec.shiftRight_add]
theorem nib (a : BitVec 32) : (a >>> 4) ^^^ ups 4 (a &&& 15#32) = ups 4 a := by
  have e : a = (a &&& 0xFFFFFFF0#32) ^^^ (a &&& 15#32) := by
    apply BitVec.eq_of_getLsbD_eq
    intro i hi
    rw [BitVec.getLsbD_xor, BitVec.getLsbD_and, BitVec.getLsbD_and]
    have : (0xFFFFFFF0#32).getLsbD i = !(15#32).getLsbD i := by
      have : ∀ i : Fin 32, (0xFFFFFFF0#32).getLsbD i = !(15#32).getLsbD i := by decide
      exact this ⟨i, hi⟩
    rw [this]
    cases a.getLsbD i <;> cases (15#32).getLsbD i <;> rfl
  have h : ups 4 (a &&& 0xFFFFFFF0#32) = a >>> 4 := by
    rw [nib_high _ (by simp) (by simp) (by simp) (by simp)]
    apply BitVec.eq_of_getLsbD_eq
    intro i hi
    rw [BitVec.getLsbD_ushiftRight, BitVec.getLsbD_ushiftRight, BitVec.getLsbD_and]
    by_cases hj : 4 + i < 32
    · have : (0xFFFFFFF0#32).getLsbD (4 + i) = true := by
        have : ∀ i : Fin 28, (0xFFFFFFF0#32).getLsbD (4 + i) = true := by decide
        exact this ⟨i, by omega⟩
      rw [this, Bool.and_true]
    · rw [BitVec.getLsbD_of_ge _ _ (by omega)]; rfl
  conv => rhs; rw [e]
  rw [ups_xor, h]

/-- one byte more. -/
def step (s : BitVec 32) (c : BitVec 8) : BitVec 32 := ups 8 (s ^^^ c.setWidth 32)
def st (s : BitVec 32) (l : List (BitVec 8)) : BitVec 32 := l.foldl step s
/-- the sum of bytes. -/
def crc (l : List (BitVec 8)) : BitVec 32 := st ones l ^^^ ones

theorem step_of (s : BitVec 32) (c : BitVec 8) :
    (((s ^^^ c.setWidth 32) >>> 4) ^^^ ups 4 ((s ^^^ c.setWidth 32) &&& 15#32)) >>> 4 ^^^ ups 4 ((((s ^^^ c.setWidth 32) >>> 4) ^^^ ups 4 ((s ^^^ c.setWidth 32) &&& 15#32)) &&& 15#32) = step s c := by
  rw [nib, nib, ups_ups]; rfl

theorem st_nil (s : BitVec 32) : st s [] = s := rfl
theorem st_cons (s : BitVec 32) (c : BitVec 8) (l : List (BitVec 8)) : st s (c :: l) = st (step s c) l := rfl
theorem st_append (s : BitVec 32) (l m : List (BitVec 8)) : st s (l ++ m) = st (st s l) m := by simp [st]
theorem st_snoc (s : BitVec 32) (l : List (BitVec 8)) (c : BitVec 8) : st s (l ++ [c]) = step (st s l) c := by simp [st]

theorem step_xor (s t : BitVec 32) (c d : BitVec 8) : step (s ^^^ t) (c ^^^ d) = step s c ^^^ step t d := by
  unfold step
  rw [← ups_xor, BitVec.setWidth_xor]
  congr 1
  rw [BitVec.xor_assoc, BitVec.xor_assoc]
  congr 1
  rw [← BitVec.xor_assoc, ← BitVec.xor_assoc, BitVec.xor_comm t]

theorem st_xor : ∀ (l m : List (BitVec 8)) (s t : BitVec 32), l.length = m.length → st (s ^^^ t) (List.zipWith (· ^^^ ·) l m) = st s l ^^^ st t m
  | [], [], s, t, _ => rfl
  | c :: l, d :: m, s, t, h => by
    simp only [List.zipWith_cons_cons, st_cons, step_xor]
    exact st_xor l m _ _ (by simpa using h)
  | [], _ :: _, _, _, h => by simp at h
  | _ :: _, [], _, _, h => by simp at h

theorem step_state (s t : BitVec 32) (c : BitVec 8) : step (s ^^^ t) c = ups 8 s ^^^ step t c := by
  unfold step
  rw [← ups_xor, BitVec.xor_assoc]
theorem st_state : ∀ (l : List (BitVec 8)) (s t : BitVec 32), st (s ^^^ t) l = ups (8 * l.length) s ^^^ st t l
  | [], s, t => rfl
  | c :: l, s, t => by
    simp only [st_cons, step_state]
    rw [st_state l, ups_ups]
    rw [show 8 + 8 * l.length = 8 * (c :: l).length by simp [List.length_cons]; omega]

/-- the product of two polynomials, in n rounds at most. -/
def mulN : Nat → BitVec 32 → BitVec 32 → BitVec 32
  | 0, _, _ => 0
  | n + 1, a, b => (if a.msb then b else 0) ^^^ mulN n (a <<< 1) (up b)
def mul (a b : BitVec 32) : BitVec 32 := mulN 32 a b
theorem mulN_zero (n : Nat) : ∀ b, mulN n 0 b = 0 := by
  induction n with
  | zero => intro b; rfl
  | succ n ih => intro b; simp only [mulN]; rw [show (0 : BitVec 32) <<< 1 = 0 by decide, ih]; simp
theorem mulN_up (n : Nat) : ∀ a b, mulN n a (up b) = up (mulN n a b) := by
  induction n with
  | zero => intro a b; exact up_zero.symm
  | succ n ih =>
    intro a b
    simp only [mulN]
    rw [up_xor, ih]
    congr 1
    cases a.msb
    · exact up_zero.symm
    · rfl
theorem mul_ups (n : Nat) : ∀ a b, mul a (ups n b) = ups n (mul a b) := by
  induction n with
  | zero => intro a b; rfl
  | succ n ih => intro a b; simp only [ups]; rw [ih]; unfold mul; rw [mulN_up]

theorem mulN_split (n : Nat) : ∀ a b c, mulN n (a ^^^ b) c = mulN n a c ^^^ mulN n b c := by
  induction n with
  | zero => intro a b c; simp [mulN]
  | succ n ih =>
    intro a b c
    simp only [mulN]
    rw [BitVec.shiftLeft_xor_distrib, ih, BitVec.msb_xor]
    cases a.msb <;> cases b.msb <;> simp [BitVec.xor_assoc]
    · rw [← BitVec.xor_assoc, ← BitVec.xor_assoc, BitVec.xor_comm c]
    · rw [BitVec.xor_comm _ (c ^^^ _), BitVec.xor_assoc, ← BitVec.xor_assoc c c, BitVec.xor_self, BitVec.zero_xor, BitVec.xor_comm]
/-- a number is the xor of its bits. -/
def low (a : BitVec 32) : Nat → BitVec 32
  | 0 => 0
  | n + 1 => low a n ^^^ (if a.getLsbD n then BitVec.twoPow 32 n else 0)
theorem low_bit (a : BitVec 32) (n i : Nat) (hn : n ≤ 32) : (low a n).getLsbD i = (decide (i < n) && a.getLsbD i) := by
  induction n with
  | zero => simp [low]
  | succ n ih =>
    simp only [low, BitVec.getLsbD_xor]
    rw [ih (by omega)]
    by_cases hi : i = n
    · subst hi
      cases h : a.getLsbD i <;> simp
      omega
    · have e : decide (i < n + 1) = decide (i < n) := by rw [decide_eq_decide]; omega
      rw [e]
      have hf : (if a.getLsbD n = true then BitVec.twoPow 32 n else 0).getLsbD i = false := by
        split
        · rw [BitVec.getLsbD_twoPow]; simp [show ¬ n = i from fun e => hi e.symm]
        · simp
      rw [hf, Bool.xor_false]
theorem low_all (a : BitVec 32) : low a 32 = a := by
  apply BitVec.eq_of_getLsbD_eq
  intro i hi
  rw [low_bit a 32 i (Nat.le_refl _)]
  simp [hi]
theorem mul_one_low (a : BitVec 32) : ∀ n, n ≤ 32 → mul (low a n) one = low a n := by
  intro n
  induction n with
  | zero => intro _; exact mulN_zero 32 _
  | succ n ih =>
    intro hn
    simp only [low]
    unfold mul at *
    rw [mulN_split, ih (by omega)]
    congr 1
    split
    · have : ∀ i : Fin 32, mulN 32 (BitVec.twoPow 32 i) one = BitVec.twoPow 32 i := by decide +kernel
      exact this ⟨n, by omega⟩
    · exact mulN_zero 32 _
theorem mul_one (a : BitVec 32) : mul a one = a := by
  have := mul_one_low a 32 (Nat.le_refl _)
  rwa [low_all] at this
theorem mul_pow (a : BitVec 32) (n : Nat) : mul a (ups n one) = ups n a := by rw [mul_ups, mul_one]

/-- x to the n. -/
def pow (n : Nat) : BitVec 32 := ups n one

/-- WHAT Join SAYS. -/
theorem crc_append (l m : List (BitVec 8)) : mul (crc l) (pow (8 * m.length)) ^^^ crc m = crc (l ++ m) := by
  unfold pow
  rw [mul_pow]
  unfold crc
  rw [st_append]
  have e1 : st (st ones l) m = ups (8 * m.length) (st ones l) ^^^ st 0 m := by
    have := st_state m (st ones l) 0
    rwa [show st ones l ^^^ 0 = st ones l by simp] at this
  have e2 : st ones m = ups (8 * m.length) ones ^^^ st 0 m := by
    have := st_state m ones 0
    rwa [show ones ^^^ 0 = ones by simp] at this
  rw [e1, e2, ups_xor]
  generalize ups (8 * m.length) (st ones l) = a
  generalize ups (8 * m.length) ones = b
  generalize st 0 m = c
  rw [BitVec.xor_assoc a b, ← BitVec.xor_assoc b (b ^^^ c), ← BitVec.xor_assoc b b, BitVec.xor_self, BitVec.zero_xor, BitVec.xor_assoc]
theorem crc_none (m : List (BitVec 8)) : mul 0 (pow (8 * m.length)) ^^^ crc m = crc m := by
  unfold mul; rw [mulN_zero]; simp
/-- three lists of one length. -/
theorem crc_three (a b c : List (BitVec 8)) (h1 : a.length = b.length) (h2 : b.length = c.length) :
    crc (List.zipWith (· ^^^ ·) (List.zipWith (· ^^^ ·) a b) c) = crc a ^^^ crc b ^^^ crc c := by
  unfold crc
  have e := st_xor (List.zipWith (· ^^^ ·) a b) c (ones ^^^ ones) ones (by simp; omega)
  rw [st_xor a b _ _ h1] at e
  rw [show ones ^^^ ones ^^^ ones = ones by decide] at e
  rw [e]
  generalize st ones a = x
  generalize st ones b = y
  generalize st ones c = z
  rw [xxxx, BitVec.xor_assoc (x ^^^ y) z]

/-- WHAT Flipped SAYS: bit number k of the bytes l is turned. -/
def turn (l : List (BitVec 8)) (k : Nat) : List (BitVec 8) := l.set (k / 8) (l.getD (k / 8) 0 ^^^ BitVec.twoPow 8 (k % 8))
theorem twoPow_pow : ∀ i : Fin 8, (BitVec.twoPow 8 i).setWidth 32 = pow (31 - i) := by decide +kernel
theorem st_turn : ∀ (l : List (BitVec 8)) (s : BitVec 32) (k : Nat), k < 8 * l.length → st s (turn l k) = st s l ^^^ pow (8 * l.length + 31 - k)
  | [], s, k, h => by simp at h
  | c :: l, s, k, h => by
    by_cases hk : k < 8
    · have e : turn (c :: l) k = (c ^^^ BitVec.twoPow 8 (k % 8)) :: l := by
        unfold turn
        rw [show k / 8 = 0 by omega]
        rfl
      rw [e, st_cons, st_cons]
      have e2 : step s (c ^^^ BitVec.twoPow 8 (k % 8)) = ups 8 (pow (31 - k)) ^^^ step s c := by
        unfold step
        rw [← ups_xor, BitVec.setWidth_xor]
        have := twoPow_pow ⟨k % 8, by omega⟩
        simp only at this
        rw [this, show k % 8 = k by omega]
        congr 1
        rw [← BitVec.xor_assoc, BitVec.xor_comm]
      rw [e2, st_state]
      unfold pow
      rw [ups_ups, ups_ups, BitVec.xor_comm]
      congr 2
      simp only [List.length_cons]
      omega
    · have e : turn (c :: l) k = c :: turn l (k - 8) := by
        unfold turn
        rw [show k / 8 = (k - 8) / 8 + 1 by omega, show k % 8 = (k - 8) % 8 by omega]
        rfl
      simp only [List.length_cons] at h ⊢
      rw [e, st_cons, st_cons, st_turn l _ _ (by omega)]
      congr 2
      omega
theorem turn_length (l : List (BitVec 8)) (k : Nat) : (turn l k).length = l.length := by simp [turn]
theorem crc_turn (l : List (BitVec 8)) (k : Nat) (h : k < 8 * l.length) : crc (turn l k) = crc l ^^^ pow (8 * l.length + 31 - k) := by
  unfold crc
  rw [st_turn l _ k h, BitVec.xor_assoc, BitVec.xor_assoc, BitVec.xor_comm ones]

end Go.Proofs.YtfcmhlmllcpkmaaDoor.Crc
