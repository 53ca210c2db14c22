/- The elements of a field of m bits, as a type, and its polynomials. By the verifier of shale. -/
import Derived.Test.YtgfaaaeechgjmaaDoorPoly
import Derived.Test.YtgfaaaeechgjmaaDoorFldEl
namespace Go.Proofs.YtgfaaaeechgjmaaDoor.Pl
open Go Go.RowKit Fld Bits16
set_option linter.unusedVariables false
/-- an m that may be. -/
class Mid (m : Nat) : Prop where
  lo : 3 ≤ m
  hi : m ≤ 14
/-- an element. -/
def El (m : Nat) : Type := {x : BitVec 16 // x.toNat < 2 ^ m}
theorem El.ext {m : Nat} {a b : El m} (e : a.val = b.val) : a = b := Subtype.ext e
instance {m : Nat} [M : Mid m] : Fl (El m) where
  zero := ⟨0, by have := two_le m M.lo; show 0 < 2 ^ m; omega⟩
  one := ⟨1, one_lt m M.lo⟩
  add a b := ⟨a.val ^^^ b.val, xor_lt m _ _ a.2 b.2⟩
  mul a b := ⟨fmul m a.val b.val, fmul_lt m M.lo M.hi _ _ a.2⟩
  inv a := ⟨finv m a.val, finv_lt m M.lo M.hi _⟩
  add_assoc a b c := El.ext (BitVec.xor_assoc _ _ _)
  add_comm a b := El.ext (BitVec.xor_comm _ _)
  add_zero a := El.ext (BitVec.xor_zero)
  add_self a := El.ext (BitVec.xor_self)
  mul_assoc a b c := El.ext (fmul_assoc m M.lo M.hi _ _ _ a.2 b.2 c.2)
  mul_comm a b := El.ext (fmul_comm m M.lo M.hi _ _ a.2 b.2)
  mul_one a := El.ext (fmul_one m M.lo M.hi _ a.2)
  mul_add a b c := El.ext (fmul_xor m _ _ _)
  one_ne := fun e => by
    have := congrArg Subtype.val e
    exact absurd this (by show ¬ ((1 : BitVec 16) = 0); decide)
  mul_inv a h := El.ext (fmul_inv m M.lo M.hi _ a.2 fun e => h (El.ext e))
instance {m : Nat} : DecidableEq (El m) := fun a b => decidable_of_iff (a.val = b.val) ⟨El.ext, fun e => by rw [e]⟩
/-- the number of an element. -/
def zn {m : Nat} (a : El m) : Int := h a.val
theorem zn_inj {m : Nat} {a b : El m} (e : zn a = zn b) : a = b := El.ext (h_inj _ _ e)
theorem zn_lo {m : Nat} (a : El m) : 0 ≤ zn a := h_lo _
theorem zn_hi {m : Nat} (a : El m) : zn a < 65536 := h_hi _
/-- a polynomial's first n coefficients as numbers. -/
def nums {m : Nat} (p : Ser (El m)) (n : Nat) : List Int := (List.range n).map fun i => zn (p i)
theorem nums_length {m : Nat} (p : Ser (El m)) (n : Nat) : (nums p n).length = n := by simp [nums]
theorem nums_at {m : Nat} (p : Ser (El m)) (n i : Nat) (hi : i < n) : (nums p n).getD i 0 = zn (p i) := by simp [nums, hi]
/-- as many coefficients as it has up to the last that is not 0, of the first n. -/
def top {m : Nat} (p : Ser (El m)) : Nat → Nat
  | 0 => 0
  | n + 1 => if (p n).val = 0 then top p n else n + 1
theorem top_le {m : Nat} (p : Ser (El m)) : ∀ n, top p n ≤ n
  | 0 => Nat.le_refl _
  | n + 1 => by have := top_le p n; simp only [top]; split <;> omega
/-- a polynomial's coefficients up to its last. -/
def bareN {m : Nat} (p : Ser (El m)) (n : Nat) : List Int := nums p (top p n)
section
variable {m : Nat} [M : Mid m]
theorem val_zero : (0 : El m).val = 0 := rfl
theorem val_one : (1 : El m).val = 1 := rfl
theorem val_add (a b : El m) : (a + b).val = a.val ^^^ b.val := rfl
theorem val_mul (a b : El m) : (a * b).val = fmul m a.val b.val := rfl
theorem val_inv (a : El m) : (a⁻¹).val = finv m a.val := rfl
/-- the element of a number. -/
def elm (m : Nat) [M : Mid m] (z : Int) : El m := ⟨el m z, el_lt m M.hi z⟩
theorem elm_zn (a : El m) : elm m (zn a) = a := El.ext (el_of m M.hi a.val a.2)
theorem zn_zero : zn (0 : El m) = 0 := rfl
theorem elm_zero : elm m 0 = 0 := El.ext (el_of m M.hi 0 (by have := two_le m M.lo; show 0 < 2 ^ m; omega))
theorem zn_eq0 (a : El m) : (zn a == 0) = decide (a = 0) := by
  rw [Bool.eq_iff_iff, beq_iff_eq, decide_eq_true_iff]
  constructor
  · intro e; exact zn_inj (e.trans zn_zero.symm)
  · intro e; rw [e]; rfl
/-- a list of numbers as a polynomial. -/
def sr (m : Nat) [M : Mid m] (l : List Int) : Ser (El m) := fun i => elm m (l.getD i 0)
theorem sr_bd (l : List Int) : Bd (sr m l) l.length := fun i hi => by
  show elm m (l.getD i 0) = 0
  rw [List.getD_eq_getElem?_getD, List.getElem?_eq_none hi]; exact elm_zero
theorem sr_nums {p : Ser (El m)} {n : Nat} (hb : Bd p n) : sr m (nums p n) = p := by
  funext i
  show elm m ((nums p n).getD i 0) = p i
  by_cases hi : i < n
  · rw [nums_at p n i hi, elm_zn]
  · rw [hb i (by omega), List.getD_eq_getElem?_getD, List.getElem?_eq_none (by rw [nums_length]; omega)]; exact elm_zero
theorem top_zero {p : Ser (El m)} {n : Nat} (h0 : p n = 0) : top p (n + 1) = top p n := by
  simp only [top]; rw [if_pos (by rw [h0]; rfl)]
theorem top_some {p : Ser (El m)} {n : Nat} (h0 : p n ≠ 0) : top p (n + 1) = n + 1 := by
  simp only [top]; rw [if_neg (fun e : (p n).val = 0 => h0 (El.ext e))]
theorem top_bd {p : Ser (El m)} : ∀ {n : Nat}, Bd p n → Bd p (top p n)
  | 0, hb => hb
  | n + 1, hb => by
    simp only [top]
    split
    · rename_i h0
      refine top_bd (n := n) fun i hi => ?_
      by_cases e : i = n
      · rw [e]; exact El.ext h0
      · exact hb i (by omega)
    · exact hb
theorem top_ne {p : Ser (El m)} : ∀ {n : Nat}, top p n ≠ 0 → Dg p (top p n - 1) ∨ ¬ Bd p n
  | 0, h0 => absurd rfl h0
  | n + 1, h0 => by
    by_cases hb : Bd p (n + 1)
    · left
      simp only [top] at h0 ⊢
      split
      · rename_i h1
        rw [if_pos h1] at h0
        have hb' : Bd p n := fun i hi => by
          by_cases e : i = n
          · rw [e]; exact El.ext h1
          · exact hb i (by omega)
        exact (top_ne (n := n) h0).resolve_right fun h2 => h2 hb'
      · rename_i h1
        exact ⟨fun e => h1 (by show (p n).val = 0; rw [show p n = 0 from e]; rfl), hb⟩
    · exact Or.inr hb
theorem top_same {p : Ser (El m)} {n k : Nat} (hn : Bd p n) (hk : Bd p k) : top p n = top p k := by
  have h1 := top_bd hn
  have h2 := top_bd hk
  by_cases a : top p n = 0
  · by_cases b : top p k = 0
    · rw [a, b]
    · have hd := (top_ne b).resolve_right fun x => x hk
      have := hd.lt h1; omega
  · have hd := (top_ne a).resolve_right fun x => x hn
    by_cases b : top p k = 0
    · have := hd.lt h2; omega
    · have he := (top_ne b).resolve_right fun x => x hk
      have := hd.eq he; omega
theorem bareN_same {p : Ser (El m)} {n k : Nat} (hn : Bd p n) (hk : Bd p k) : bareN p n = bareN p k := by unfold bareN; rw [top_same hn hk]
end
end Go.Proofs.YtgfaaaeechgjmaaDoor.Pl
