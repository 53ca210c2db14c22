/- The walks over package binpoly: trim, Degree, Bit. By the verifier of shale. -/
import Derived.Test.YtbngkmlipmhgdaaDoorBinVal
import Derived.WalkKit
import Derived.WalkSpells
import Derived.WalkLawsBesides
import Derived.Deep.LoopGhost
import Derived.Deep.Cut
import Derived.BigQuiet
import Derived.Outline
import Derived.Lib.Small
import Derived.Lib.Walk
namespace Go.Proofs.YtbngkmlipmhgdaaDoor.Bin
open Go Go.RowKit
set_option linter.unusedVariables false
/-- a polynomial that a call is handed: bytes, with room behind them or none. -/
structure Pol (w : World) (a : Option Addr) (n cap : Nat) (l : List (BitVec 8)) : Prop where
  hlen : n = l.length
  hcap : n ≤ cap
  hmost : cap ≤ maxLen
  hnil : a = none → cap = 0
  hrow : n = 0 ∨ ∃ bb off, a = some ⟨bb, off, none⟩ ∧ Row8 w bb off l ∧ bb < w.heap.size
theorem Pol.below {w w' : World} {a : Option Addr} {n cap : Nat} {l : List (BitVec 8)} (h : Pol w a n cap l) (b : Below w.heap.size w w') : Pol w' a n cap l :=
  ⟨h.hlen, h.hcap, h.hmost, h.hnil, by
    rcases h.hrow with h0 | ⟨bb, off, e, hr, hb⟩
    · exact Or.inl h0
    · exact Or.inr ⟨bb, off, e, hr.below b hb, Nat.lt_of_lt_of_le hb b.size⟩⟩
theorem Pol.take {w : World} {a : Option Addr} {n cap : Nat} {l : List (BitVec 8)} (h : Pol w a n cap l) (k : Nat) (hk : k ≤ n) : Pol w a k cap (l.take k) :=
  ⟨by rw [List.length_take]; have := h.hlen; omega, Nat.le_trans hk h.hcap, h.hmost, h.hnil, by
    rcases h.hrow with h0 | ⟨bb, off, e, hr, hb⟩
    · exact Or.inl (by omega)
    · exact Or.inr ⟨bb, off, e, hr.take k, hb⟩⟩
theorem Pol.arg {w : World} {a : Option Addr} {n cap : Nat} {l : List (BitVec 8)} (h : Pol w a n cap l) : Arg8 w (.slice a n cap) l := by
  have hm : l.length ≤ maxLen := by have := h.hlen; have := h.hcap; have := h.hmost; omega
  rcases h.hrow with h0 | ⟨bb, off, rfl, hr, hb⟩
  · have hl : l = [] := List.eq_nil_of_length_eq_zero (by rw [← h.hlen]; exact h0)
    subst hl; subst h0
    exact Arg8.nil _ _ _
  · exact Arg8.whole hr hb h.hlen (by have := h.hlen; omega)
theorem b_eq0 (c : BitVec 8) : (Bits32.b c == 0) = decide (c = 0) := by
  rw [Bool.eq_iff_iff, beq_iff_eq, decide_eq_true_iff]
  unfold Bits32.b
  constructor
  · intro h; apply BitVec.eq_of_toNat_eq; simp; omega
  · intro h; rw [h]; rfl
theorem wrap64_small (n : Nat) (h : n < 9223372036854775808) : wrap64 (n : Int) = (n : Int) := IntWalk.wrap64_in _ (by omega)
theorem len8_all : ∀ n : Fin 256, (Lib.len8tab[n.val]'(by rw [Lib.len8tab_size]; exact n.isLt)).toNat = Lib.bitLen n.val ∧ Lib.bitLen n.val ≤ 8 := by decide +kernel
theorem pop8_all : ∀ n : Fin 256, (Lib.pop8tab[n.val]'(by rw [Lib.pop8tab_size]; exact n.isLt)).toNat = Lib.onesCount n.val ∧ Lib.onesCount n.val ≤ 8 := by decide +kernel
theorem len8_val (i : Nat) (hi : i < Lib.len8tab.size) : wrap64 ((Lib.len8tab[i]'hi).toNat : Int) = (Lib.bitLen i : Int) := by
  have hi' : i < 256 := by rw [← Lib.len8tab_size]; exact hi
  have := len8_all ⟨i, hi'⟩
  simp only at this
  rw [this.1]
  exact wrap64_small _ (by omega)
theorem pop8_val (i : Nat) (hi : i < Lib.pop8tab.size) : wrap64 ((Lib.pop8tab[i]'hi).toNat : Int) = (Lib.onesCount i : Int) := by
  have hi' : i < 256 := by rw [← Lib.pop8tab_size]; exact hi
  have := pop8_all ⟨i, hi'⟩
  simp only at this
  rw [this.1]
  exact wrap64_small _ (by omega)
theorem b_nat (c : BitVec 8) : (Bits32.b c).toNat = c.toNat := by unfold Bits32.b; omega
/-- the coefficient of x^i. -/
def bitZ (l : List (BitVec 8)) (i : Int) : Int := if i < 0 then 0 else if (val l).testBit i.toNat then 1 else 0
theorem bit_one8 (c : BitVec 8) (j : Nat) (hj : j < 8) : bits .and .u8 (Bits32.b c / 2 ^ j) 1 = (if c.getLsbD j then 1 else 0) := by
  have e : Bits32.b c / 2 ^ j = Bits32.b (c >>> j) := by
    unfold Bits32.b
    rw [BitVec.toNat_ushiftRight, Nat.shiftRight_eq_div_pow, Int.natCast_ediv, Int.natCast_pow]
    rfl
  have e2 : bits .and .u8 (Bits32.b (c >>> j)) 1 = Bits32.b ((c >>> j) &&& 1#8) := by
    show IntKind.u8.wrap (Bits32.b (BitVec.ofInt 8 (Bits32.b (c >>> j)) &&& BitVec.ofInt 8 (Bits32.b 1#8))) = _
    rw [Bits32.ofInt8, Bits32.ofInt8, Bits32.wrap8]
  rw [e, e2]
  have h2 : (c >>> j).getLsbD 0 = c.getLsbD j := by simp
  have h : ((c >>> j) &&& 1#8).toNat = (c >>> j).toNat % 2 := by rw [BitVec.toNat_and]; exact Nat.and_one_is_mod _
  rw [← h2]
  unfold Bits32.b
  rw [h, BitVec.getLsbD, Nat.testBit_zero]
  rcases (by omega : (c >>> j).toNat % 2 = 0 ∨ (c >>> j).toNat % 2 = 1) with h3 | h3 <;> rw [h3] <;> rfl
end Go.Proofs.YtbngkmlipmhgdaaDoor.Bin
