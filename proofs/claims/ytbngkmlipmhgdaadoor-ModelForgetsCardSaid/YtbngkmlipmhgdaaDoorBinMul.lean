/- The walk over package binpoly's Mul. By the verifier of shale. -/
import Derived.Test.YtbngkmlipmhgdaaDoorBinAdd
namespace Go.Proofs.YtbngkmlipmhgdaaDoor.Bin
open Go Go.RowKit
set_option linter.unusedVariables false
theorem val_zeros (n : Nat) : val (List.replicate n 0) = 0 := by
  have : val (List.replicate n (0 : BitVec 8)) = val [] := val_ext fun i => by
    rw [nth8_nil]
    by_cases h : i < n
    · unfold nth8; simp [h]
    · exact nth8_far _ _ (by simp; omega)
  rw [this]; rfl
theorem mod_succ (n k : Nat) : n % 2 ^ (k + 1) = n % 2 ^ k ^^^ (if n.testBit k then 2 ^ k else 0) := by
  apply Nat.eq_of_testBit_eq
  intro i
  rw [Nat.testBit_xor, Nat.testBit_mod_two_pow, Nat.testBit_mod_two_pow]
  by_cases e : i = k
  · subst e
    rw [decide_eq_true (by omega : i < i + 1), decide_eq_false (by omega : ¬ i < i)]
    cases h : n.testBit i <;> simp
  · by_cases h : i < k
    · rw [decide_eq_true (by omega : i < k + 1), decide_eq_true h]
      split
      · rw [Nat.testBit_two_pow_of_ne (by omega)]; simp
      · simp
    · rw [decide_eq_false (by omega : ¬ i < k + 1), decide_eq_false h]
      split
      · rw [Nat.testBit_two_pow_of_ne (by omega)]; simp
      · simp
theorem deg_len {l : List (BitVec 8)} (h : val l ≠ 0) : (val l).log2 < 8 * l.length := by
  have h1 := deg_bare (bare_trim l) (by
    intro h0
    apply h
    rw [← val_trim, List.eq_nil_of_length_eq_zero h0]; rfl)
  rw [val_trim] at h1
  have h2 := h1.log2
  have hc : (nth8 (trimL l) ((trimL l).length - 1)).toNat < 2 ^ 8 := (nth8 (trimL l) ((trimL l).length - 1)).isLt
  have hl : (trimL l).length ≤ l.length := by rw [trimL_length]; exact tl_le _ _
  have h0 : (trimL l).length ≠ 0 := by
    intro h0
    apply h
    rw [← val_trim, List.eq_nil_of_length_eq_zero h0]; rfl
  have : (nth8 (trimL l) ((trimL l).length - 1)).toNat.log2 < 8 := by
    by_cases hz : (nth8 (trimL l) ((trimL l).length - 1)).toNat = 0
    · rw [hz]; decide
    · exact (Nat.log2_lt hz).2 hc
  omega
theorem bare_of_deg {X : List (BitVec 8)} {d : Nat} (h : Deg (val X) d) (hl : X.length = d / 8 + 1) : Bare X := by
  intro _ h0
  have t : (val X).testBit d = true := by
    rw [Nat.testBit_eq_decide_div_mod_eq, decide_eq_true_eq]
    have h3 : val X / 2 ^ d = 1 := by
      have h1 := h.1; have h2 := h.2
      rw [Nat.pow_succ] at h2
      apply Nat.div_eq_of_lt_le <;> omega
    rw [h3]
  rw [val_bit, show d / 8 = X.length - 1 by omega, h0] at t
  simp at t
abbrev GivesPE (v : Nat) (w : World) (e : Ending) (w' : World) : Prop := ∃ a n cap X, e = .returned (.tuple #[.slice a n cap, .nilIface]) ∧ NewP w w' a n cap X ∧ Bare X ∧ val X = v ∧ Below w.heap.size w w'
end Go.Proofs.YtbngkmlipmhgdaaDoor.Bin
