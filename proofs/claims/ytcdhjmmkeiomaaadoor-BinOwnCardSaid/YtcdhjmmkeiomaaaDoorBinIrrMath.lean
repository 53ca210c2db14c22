/- Rests, divisors and the test of irreducible polynomials as functions that compute. By the verifier of shale. -/
import Derived.Test.YtcdhjmmkeiomaaaDoorBinDiv
namespace Go.Proofs.YtcdhjmmkeiomaaaDoor.Bin
open Go Go.RowKit
set_option linter.unusedVariables false
def pmodF : Nat → Nat → Nat → Nat
  | 0, a, _ => a
  | f + 1, a, b => if a < 2 ^ b.log2 then a else pmodF f (a ^^^ (b <<< (a.log2 - b.log2))) b
theorem xor_back (a b : Nat) : (a ^^^ b) ^^^ b = a := by rw [Nat.xor_assoc, Nat.xor_self, Nat.xor_zero]
theorem pmodF_div {b j : Nat} (hb : Deg b j) : ∀ f a, a < 2 ^ f → (∃ q, a = pm q b ^^^ pmodF f a b) ∧ pmodF f a b < 2 ^ j
  | 0, a, h => by
    have : a = 0 := by simpa using h
    subst this
    exact ⟨⟨0, by rw [zero_pm, Nat.zero_xor]; rfl⟩, Nat.two_pow_pos _⟩
  | f + 1, a, h => by
    rw [pmodF, hb.log2]
    by_cases hlt : a < 2 ^ j
    · rw [if_pos hlt]; exact ⟨⟨0, by rw [zero_pm, Nat.zero_xor]⟩, hlt⟩
    · rw [if_neg hlt]
      have h0 : a ≠ 0 := by intro h0; rw [h0] at hlt; exact hlt (Nat.two_pow_pos _)
      have da := deg_of h0
      have hj : j ≤ a.log2 := (Nat.le_log2 h0).2 (Nat.le_of_not_lt hlt)
      have hf : a.log2 < f + 1 := (Nat.log2_lt h0).2 h
      have hds := shl_deg hb (a.log2 - j)
      rw [show j + (a.log2 - j) = a.log2 by omega] at hds
      have hc := clear_top da.2 (deg_bit da) hds
      obtain ⟨⟨q, hq⟩, hr⟩ := pmodF_div hb f _ (Nat.lt_of_lt_of_le hc (Nat.pow_le_pow_right (by decide) (by omega)))
      refine ⟨⟨q ^^^ 2 ^ (a.log2 - j), ?_⟩, hr⟩
      rw [pm_xor_left, pow_pm, Nat.xor_assoc, Nat.xor_comm (b <<< _), ← Nat.xor_assoc, ← hq, xor_back]
def pmod (a b : Nat) : Nat := pmodF (a.log2 + 1) a b
theorem pmod_eq (a : Nat) {b j : Nat} (hb : Deg b j) : (∃ q, a = pm q b ^^^ pmod a b) ∧ pmod a b < 2 ^ j := pmodF_div hb _ a Nat.lt_log2_self
theorem pmod_div (a : Nat) {b : Nat} (hb : b ≠ 0) : ∃ q, IsDiv a b q (pmod a b) := by
  obtain ⟨⟨q, hq⟩, hr⟩ := pmod_eq a (deg_of hb)
  exact ⟨q, isDiv_of_lt (deg_of hb) hq hr⟩
theorem pmod_of {a b j q r : Nat} (hb : Deg b j) (h : a = pm q b ^^^ r) (hr : r < 2 ^ j) : r = pmod a b := by
  have h0 : b ≠ 0 := by have := hb.pos; omega
  obtain ⟨q', h'⟩ := pmod_div a h0
  exact (IsDiv.unique h0 (isDiv_of_lt hb h hr) h').2
def pgcdF : Nat → Nat → Nat → Nat
  | 0, a, _ => a
  | f + 1, a, b => if b = 0 then a else pgcdF f b (pmod a b)
theorem pgcdF_is : ∀ f a b, b < 2 ^ f → IsGcd a b (pgcdF f a b)
  | 0, a, b, h => by
    have : b = 0 := by simpa using h
    subst this
    exact IsGcd.right_zero a
  | f + 1, a, b, h => by
    rw [pgcdF]
    by_cases hb : b = 0
    · rw [if_pos hb, hb]; exact IsGcd.right_zero a
    · rw [if_neg hb]
      obtain ⟨q, hd⟩ := pmod_div a hb
      refine IsGcd.step hd (pgcdF_is f b _ ?_)
      refine Nat.lt_of_lt_of_le (pmod_eq a (deg_of hb)).2 (Nat.pow_le_pow_right (by decide) ?_)
      have := (Nat.log2_lt hb).2 h
      omega
def pgcd (a b : Nat) : Nat := pgcdF (b.log2 + 1) a b
theorem pgcd_is (a b : Nat) : IsGcd a b (pgcd a b) := pgcdF_is _ a b Nat.lt_log2_self
theorem IsGcd.comm {a b g : Nat} (h : IsGcd a b g) : IsGcd b a g := ⟨h.2.1, h.1, fun c h1 h2 => h.2.2 c h2 h1⟩
theorem pgcd_of {a b g : Nat} (h : IsGcd a b g) : g = pgcd a b := h.unique (pgcd_is a b)
def pmF : Nat → Nat → Nat → Nat
  | 0, _, _ => 0
  | f + 1, a, b => (if b % 2 = 1 then a else 0) ^^^ (2 * pmF f a (b / 2))
theorem pmF_pm : ∀ f a b, b < 2 ^ f → pmF f a b = pm a b
  | 0, a, b, h => by
    have : b = 0 := by simpa using h
    subst this
    rw [pm_zero]; rfl
  | f + 1, a, b, h => by
    rw [pmF, pm_step, pmF_pm f a (b / 2) (by rw [Nat.pow_succ] at h; omega)]
def pmul (a b : Nat) : Nat := pmF (b.log2 + 1) a b
theorem pmul_pm (a b : Nat) : pmul a b = pm a b := pmF_pm _ a b Nat.lt_log2_self
/-- the test, from step i on, where y is x to the 2 to the i - 1. -/
def irrF : Nat → Nat → Nat → Nat → Bool
  | 0, _, _, _ => true
  | f + 1, i, y, v => if 2 * i ≤ v.log2 then (if pgcd v (pmod (pmul y y) v ^^^ 2) = 1 then irrF f (i + 1) (pmod (pmul y y) v) v else false) else true
def irrC (v : Nat) : Bool := if v < 2 ∨ 32 < v.log2 then false else irrF 17 1 2 v
theorem irrC_small : irrC 0x13 = true := by decide +kernel
end Go.Proofs.YtcdhjmmkeiomaaaDoor.Bin
