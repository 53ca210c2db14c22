/- Bytes as polynomials: bit i of byte k is the coefficient of x^(8k + i). By the verifier of shale. -/
import Derived.Test.YtbngkmlipmhgdaaDoorBinMath
import Derived.Test.YtbngkmlipmhgdaaDoorMem
import Derived.Lib.BitFns
namespace Go.Proofs.YtbngkmlipmhgdaaDoor.Bin
open Go Go.RowKit
set_option linter.unusedVariables false
def val : List (BitVec 8) → Nat
  | [] => 0
  | c :: l => c.toNat + 256 * val l
theorem nth8_nil (i : Nat) : nth8 [] i = 0 := by unfold nth8; simp
theorem nth8_zero (c : BitVec 8) (l : List (BitVec 8)) : nth8 (c :: l) 0 = c := rfl
theorem nth8_succ (c : BitVec 8) (l : List (BitVec 8)) (i : Nat) : nth8 (c :: l) (i + 1) = nth8 l i := by unfold nth8; simp
theorem nth8_far (l : List (BitVec 8)) (i : Nat) (h : l.length ≤ i) : nth8 l i = 0 := by
  unfold nth8
  rw [List.getD_eq_getElem?_getD, List.getElem?_eq_none h]; rfl
theorem val_bit : ∀ (l : List (BitVec 8)) (i : Nat), (val l).testBit i = (nth8 l (i / 8)).getLsbD (i % 8)
  | [], i => by rw [nth8_nil]; simp [val]
  | c :: l, i => by
    have h : val (c :: l) = 2 ^ 8 * val l + c.toNat := by simp only [val]; omega
    rw [h, Nat.testBit_two_pow_mul_add _ c.isLt]
    by_cases hi : i < 8
    · rw [if_pos hi, show i / 8 = 0 by omega, nth8_zero, show i % 8 = i by omega]; rfl
    · rw [if_neg hi, val_bit l (i - 8), show i / 8 = (i - 8) / 8 + 1 by omega, nth8_succ, show (i - 8) % 8 = i % 8 by omega]
theorem val_ext {l m : List (BitVec 8)} (h : ∀ i, nth8 l i = nth8 m i) : val l = val m := by
  apply Nat.eq_of_testBit_eq
  intro i
  rw [val_bit, val_bit, h]
theorem nth8_of_val {l m : List (BitVec 8)} (h : val l = val m) (k : Nat) : nth8 l k = nth8 m k := by
  apply BitVec.eq_of_getLsbD_eq
  intro i hi
  have e1 := val_bit l (8 * k + i)
  have e2 := val_bit m (8 * k + i)
  rw [show (8 * k + i) / 8 = k by omega, show (8 * k + i) % 8 = i by omega] at e1 e2
  rw [← e1, ← e2, h]
/-- the length without the zeros at the end, of the first n. -/
def tl (l : List (BitVec 8)) : Nat → Nat
  | 0 => 0
  | n + 1 => if nth8 l n = 0 then tl l n else n + 1
theorem tl_le (l : List (BitVec 8)) : ∀ n, tl l n ≤ n
  | 0 => Nat.le_refl _
  | n + 1 => by have := tl_le l n; simp only [tl]; split <;> omega
theorem tl_zero (l : List (BitVec 8)) : ∀ n i, tl l n ≤ i → i < n → nth8 l i = 0
  | 0, i, _, h => by omega
  | n + 1, i, h, h' => by
    simp only [tl] at h
    split at h
    · rename_i h0
      by_cases e : i = n
      · rw [e]; exact h0
      · exact tl_zero l n i h (by omega)
    · omega
theorem tl_ne (l : List (BitVec 8)) : ∀ n, tl l n ≠ 0 → nth8 l (tl l n - 1) ≠ 0
  | 0, h => absurd rfl h
  | n + 1, h => by
    simp only [tl] at h ⊢
    split
    · rename_i h0
      rw [if_pos h0] at h
      exact tl_ne l n h
    · rename_i h0
      exact h0
def trimL (l : List (BitVec 8)) : List (BitVec 8) := l.take (tl l l.length)
theorem trimL_length (l : List (BitVec 8)) : (trimL l).length = tl l l.length := by
  unfold trimL; rw [List.length_take]; have := tl_le l l.length; omega
theorem nth8_take (l : List (BitVec 8)) (k i : Nat) : nth8 (l.take k) i = if i < k then nth8 l i else 0 := by
  by_cases h : i < k
  · rw [if_pos h]
    unfold nth8
    rw [List.getD_eq_getElem?_getD, List.getElem?_take_of_lt h, ← List.getD_eq_getElem?_getD]
  · rw [if_neg h, nth8_far _ _ (by rw [List.length_take]; omega)]
theorem nth8_trim (l : List (BitVec 8)) (i : Nat) : nth8 (trimL l) i = nth8 l i := by
  unfold trimL
  rw [nth8_take]
  split
  · rfl
  · rename_i h
    by_cases h2 : i < l.length
    · exact (tl_zero l _ i (by omega) h2).symm
    · exact (nth8_far l i (by omega)).symm
theorem val_trim (l : List (BitVec 8)) : val (trimL l) = val l := val_ext (nth8_trim l)
/-- no zero at its end. -/
def Bare (l : List (BitVec 8)) : Prop := l.length ≠ 0 → nth8 l (l.length - 1) ≠ 0
theorem bare_trim (l : List (BitVec 8)) : Bare (trimL l) := by
  intro h
  rw [trimL_length] at h ⊢
  rw [nth8_trim]
  exact tl_ne l _ h
theorem bare_nil : Bare [] := fun h => absurd rfl h
theorem nth8_ext {l m : List (BitVec 8)} (hl : l.length = m.length) (h : ∀ i, i < l.length → nth8 l i = nth8 m i) : l = m := by
  apply List.ext_getElem hl
  intro i h1 h2
  have := h i h1
  unfold nth8 at this
  rw [List.getD_eq_getElem?_getD, List.getD_eq_getElem?_getD, List.getElem?_eq_getElem h1, List.getElem?_eq_getElem h2] at this
  exact this
theorem bare_inj {l m : List (BitVec 8)} (hl : Bare l) (hm : Bare m) (h : val l = val m) : l = m := by
  have hn := nth8_of_val h
  have hlen : l.length = m.length := by
    rcases Nat.lt_trichotomy l.length m.length with h1 | h1 | h1
    · exact absurd ((hn _).symm.trans (nth8_far l (m.length - 1) (by omega))) (hm (by omega))
    · exact h1
    · exact absurd ((hn _).trans (nth8_far m (l.length - 1) (by omega))) (hl (by omega))
  exact nth8_ext hlen fun i _ => hn i
theorem trim_of_bare {l : List (BitVec 8)} (h : Bare l) : trimL l = l := bare_inj (bare_trim l) h (val_trim l)
theorem trim_eq {l m : List (BitVec 8)} (h : val l = val m) : trimL l = trimL m := bare_inj (bare_trim l) (bare_trim m) (by rw [val_trim, val_trim, h])
/-- the degree, -1 of 0. -/
def degZ (n : Nat) : Int := if n = 0 then -1 else (n.log2 : Int)
theorem bitLen_byte : ∀ n : Fin 256, n.val ≠ 0 → Lib.bitLen n.val = n.val.log2 + 1 := by decide +kernel
theorem deg_bare {l : List (BitVec 8)} (h : Bare l) (h0 : l.length ≠ 0) : Deg (val l) (8 * (l.length - 1) + (nth8 l (l.length - 1)).toNat.log2) := by
  have hb := h h0
  have hc : (nth8 l (l.length - 1)).toNat ≠ 0 := fun e => hb (BitVec.eq_of_toNat_eq (by rw [e]; rfl))
  have hd := deg_of hc
  have hlt : (nth8 l (l.length - 1)).toNat.log2 < 8 := (Nat.log2_lt hc).2 (nth8 l (l.length - 1)).isLt
  generalize hk : (nth8 l (l.length - 1)).toNat.log2 = k at hd hlt
  constructor
  · apply Nat.ge_two_pow_of_testBit
    rw [val_bit, show (8 * (l.length - 1) + k) / 8 = l.length - 1 by omega, show (8 * (l.length - 1) + k) % 8 = k by omega]
    show (nth8 l (l.length - 1)).toNat.testBit k = true
    rw [Nat.testBit_eq_decide_div_mod_eq, decide_eq_true_eq]
    have h3 : (nth8 l (l.length - 1)).toNat / 2 ^ k = 1 := by
      have h1 := hd.1; have h2 := hd.2
      rw [Nat.pow_succ] at h2
      apply Nat.div_eq_of_lt_le <;> omega
    rw [h3]
  · apply Nat.lt_pow_two_of_testBit
    intro i hi
    rw [val_bit]
    by_cases e : i / 8 = l.length - 1
    · rw [e]
      show (nth8 l (l.length - 1)).toNat.testBit (i % 8) = false
      exact Nat.testBit_lt_two_pow (lt_of_deg hd (by omega))
    · rw [nth8_far l (i / 8) (by omega)]; simp
theorem degZ_bare {l : List (BitVec 8)} (h : Bare l) (h0 : l.length ≠ 0) : degZ (val l) = 8 * (l.length : Int) - 9 + (Lib.bitLen (nth8 l (l.length - 1)).toNat : Int) := by
  have hd := deg_bare h h0
  have hb := h h0
  have hc : (nth8 l (l.length - 1)).toNat ≠ 0 := fun e => hb (BitVec.eq_of_toNat_eq (by rw [e]; rfl))
  have e := bitLen_byte ⟨_, (nth8 l (l.length - 1)).isLt⟩ hc
  simp only at e
  rw [e]
  unfold degZ
  rw [if_neg (by have := hd.pos; omega), hd.log2]
  omega
theorem val_nil_iff {l : List (BitVec 8)} (h : Bare l) : val l = 0 ↔ l.length = 0 := by
  constructor
  · intro h1
    apply Classical.byContradiction
    intro h2
    have := (deg_bare h h2).pos
    omega
  · intro h1
    rw [List.eq_nil_of_length_eq_zero h1]; rfl
/-- the sum. -/
def addL (l m : List (BitVec 8)) : List (BitVec 8) := (List.range (max l.length m.length)).map fun i => nth8 l i ^^^ nth8 m i
theorem addL_length (l m : List (BitVec 8)) : (addL l m).length = max l.length m.length := by simp [addL]
theorem nth8_map (n : Nat) (f : Nat → BitVec 8) (i : Nat) (h : i < n) : nth8 ((List.range n).map f) i = f i := by
  unfold nth8; simp [h]
theorem nth8_addL (l m : List (BitVec 8)) (i : Nat) : nth8 (addL l m) i = nth8 l i ^^^ nth8 m i := by
  by_cases h : i < max l.length m.length
  · exact nth8_map _ _ _ h
  · rw [nth8_far _ _ (by rw [addL_length]; omega), nth8_far l i (by omega), nth8_far m i (by omega)]; rfl
theorem val_addL (l m : List (BitVec 8)) : val (addL l m) = val l ^^^ val m := by
  apply Nat.eq_of_testBit_eq
  intro i
  rw [Nat.testBit_xor, val_bit, val_bit, val_bit, nth8_addL, BitVec.getLsbD_xor]
end Go.Proofs.YtbngkmlipmhgdaaDoor.Bin
