/- The walk over package binpoly's DivMod. By the verifier of shale. -/
import Derived.Test.YtbngkmlipmhgdaaDoorBinTurn
import Derived.Test.YtbngkmlipmhgdaaDoorErrs
namespace Go.Proofs.YtbngkmlipmhgdaaDoor.Bin
open Go Go.RowKit
set_option linter.unusedVariables false
theorem lt_of_bit {x i : Nat} (h : x < 2 ^ (i + 1)) (hb : x.testBit i = false) : x < 2 ^ i := by
  apply Nat.lt_pow_two_of_testBit
  intro k hk
  by_cases e : k = i
  · rw [e]; exact hb
  · exact Nat.testBit_lt_two_pow (Nat.lt_of_lt_of_le h (Nat.pow_le_pow_right (by decide) (by omega)))
theorem deg_bit {y i : Nat} (h : Deg y i) : y.testBit i = true := by
  rw [Nat.testBit_eq_decide_div_mod_eq, decide_eq_true_eq]
  have h3 : y / 2 ^ i = 1 := by
    have h1 := h.1; have h2 := h.2
    rw [Nat.pow_succ] at h2
    apply Nat.div_eq_of_lt_le <;> omega
  rw [h3]
theorem clear_top {x y i : Nat} (h : x < 2 ^ (i + 1)) (hb : x.testBit i = true) (hy : Deg y i) : x ^^^ y < 2 ^ i := by
  apply lt_of_bit (Nat.xor_lt_two_pow h hy.2)
  rw [Nat.testBit_xor, hb, deg_bit hy]; rfl
theorem shl_deg {m d : Nat} (h : Deg m d) (k : Nat) : Deg (m <<< k) (d + k) := by
  rw [Nat.shiftLeft_eq]
  constructor
  · rw [Nat.pow_add]; exact Nat.mul_le_mul_right _ h.1
  · rw [show d + k + 1 = (d + 1) + k by omega, Nat.pow_add]; exact Nat.mul_lt_mul_of_pos_right h.2 (Nat.two_pow_pos _)
theorem pow_pm (k m : Nat) : pm (2 ^ k) m = m <<< k := by rw [pm_comm, pm_pow]
theorem isDiv_of_lt {a b q r j : Nat} (hb : Deg b j) (h : a = pm q b ^^^ r) (hr : r < 2 ^ j) : IsDiv a b q r := by
  refine ⟨h, ?_⟩
  by_cases h0 : r = 0
  · exact Or.inl h0
  · exact Or.inr ⟨_, _, deg_of h0, hb, (Nat.log2_lt h0).2 hr⟩
theorem quot_deg {a b q r i j : Nat} (ha : Deg a i) (hb : Deg b j) (hij : j ≤ i) (h : a = pm q b ^^^ r) (hr : r < 2 ^ j) : Deg q (i - j) := by
  have hq : q ≠ 0 := by
    intro h0
    rw [h0, zero_pm, Nat.zero_xor] at h
    have := ha.1
    have := Nat.pow_le_pow_right (n := 2) (by decide) hij
    omega
  have hd := deg_pm (deg_of hq) _ b hb
  have h2 : Deg a (q.log2 + j) := by
    rw [h, Nat.xor_comm]
    have := top_xor (q.log2 + j) r (pm q b) (Nat.lt_of_lt_of_le hr (Nat.pow_le_pow_right (by decide) (by omega))) hd.1 hd.2
    exact this
  have := ha.eq h2
  rw [show i - j = q.log2 by omega]
  exact deg_of hq
/-- quotient and rest, in new memory. -/
abbrev GivesDiv (A B : Nat) (w : World) (e : Ending) (w' : World) : Prop := ∃ a n cap X a' n' cap' Y, e = .returned (.tuple #[.slice a n cap, .slice a' n' cap', .nilIface]) ∧ NewP w w' a n cap X ∧ NewP w w' a' n' cap' Y ∧ Bare X ∧ Bare Y ∧ IsDiv A B (val X) (val Y) ∧ Below w.heap.size w w'
end Go.Proofs.YtbngkmlipmhgdaaDoor.Bin
