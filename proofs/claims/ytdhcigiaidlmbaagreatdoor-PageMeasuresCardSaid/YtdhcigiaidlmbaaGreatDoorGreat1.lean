/- Texts of the verifier of shale, laid into one: BinMath, Bits, Base, Mem, Own8, Buf, Errs, Poly, FldMath, FldAlg, Bits16, FldEl, PolyEl, Own64, FldWalks, FldPoly, FldNew, FldMake, FldOps, Row, PolyOps, PolyTimes, PolyTrim, PolyMul, PolyDer, PolyDiv, PolyRoots, QuietTail, PolyFrom, FldRef, FldRef2, RefTrim, RefZ, PolyV, CosMath, BoolMem, RefTimes, RefPAdd, RefCopy, RefPMul, LocMath, RefPDiv, PolyFirst, LocOf, SeaMath. -/
import Derived.WalkKit
import Derived.IntWalk
import Derived.Test.YtdhcigiaidlmbaaGreatDoorRows
import Derived.OneCell
import Derived.Deep.QuietTactic
import Derived.WalkSmall
import Derived.Lib.Hide
import Derived.Deep.AppendLies
import Derived.LaidLaws
import Derived.LaidEql
import Derived.Stop.LaidErr
import Derived.KernelRfl
import Derived.WalkSpells
import Derived.WalkLawsBesides
import Derived.Deep.LoopGhost
import Derived.Deep.RegionHeld3
import Derived.Deep.Cut
import Derived.Below
import Derived.RangeFuncBox
import Derived.BigQuiet
import Derived.OpenShut
import Derived.Outline
import Derived.Laws.OwnMore
import Derived.Deep.RegionLaw
import Derived.StillTailTactics
import Derived.Lib.QuietBelow
/- Polynomials over two elements as numbers: bit i is the coefficient of x^i. No program is named here. By the verifier of shale. -/
namespace Go.Proofs.YtdhcigiaidlmbaaGreatDoor.Bin
set_option linter.unusedVariables false
/-- the product. -/
def pm (a b : Nat) : Nat := if h : b = 0 then 0 else (if b % 2 = 1 then a else 0) ^^^ (2 * pm a (b / 2))
termination_by b
decreasing_by omega
theorem dbl_xor (a b : Nat) : 2 * (a ^^^ b) = 2 * a ^^^ 2 * b := by
  apply Nat.eq_of_testBit_eq
  intro i
  rw [Nat.testBit_xor]
  cases i with
  | zero => simp [Nat.testBit_zero]
  | succ i => simp [Nat.testBit_succ]
theorem half_xor (a b : Nat) : (a ^^^ b) / 2 = a / 2 ^^^ b / 2 := by
  apply Nat.eq_of_testBit_eq
  intro i
  rw [Nat.testBit_xor, Nat.testBit_div_two, Nat.testBit_div_two, Nat.testBit_div_two, Nat.testBit_xor]
theorem mod_xor (a b : Nat) : (a ^^^ b) % 2 = (a % 2 + b % 2) % 2 := by
  have h := Nat.testBit_xor (x := a) (y := b) (i := 0)
  rw [Nat.testBit_zero, Nat.testBit_zero, Nat.testBit_zero] at h
  rcases Nat.mod_two_eq_zero_or_one a with h1 | h1 <;> rcases Nat.mod_two_eq_zero_or_one b with h2 | h2 <;> rcases Nat.mod_two_eq_zero_or_one (a ^^^ b) with h3 | h3 <;> simp [h1, h2, h3] at h ⊢
theorem pm_zero (a : Nat) : pm a 0 = 0 := by rw [pm]; simp
theorem pm_step (a b : Nat) : pm a b = (if b % 2 = 1 then a else 0) ^^^ (2 * pm a (b / 2)) := by
  by_cases h : b = 0
  · subst h; rw [Nat.zero_div, pm_zero]; simp
  · rw [pm, dif_neg h]
theorem xx (a b c d : Nat) : (a ^^^ b) ^^^ (c ^^^ d) = (a ^^^ c) ^^^ (b ^^^ d) := by
  rw [Nat.xor_assoc, ← Nat.xor_assoc b, Nat.xor_comm b c, Nat.xor_assoc c, ← Nat.xor_assoc a]
theorem zero_pm : ∀ b, pm 0 b = 0 := by
  intro b
  induction b using Nat.strongRecOn with
  | ind b ih =>
    by_cases h : b = 0
    · subst h; exact pm_zero 0
    · rw [pm_step, ih (b / 2) (by omega)]; simp
theorem pm_one (a : Nat) : pm a 1 = a := by
  rw [pm_step, show 1 / 2 = 0 by decide, pm_zero]; simp
theorem pm_xor_left (a c : Nat) : ∀ b, pm (a ^^^ c) b = pm a b ^^^ pm c b := by
  intro b
  induction b using Nat.strongRecOn with
  | ind b ih =>
    by_cases h : b = 0
    · subst h; rw [pm_zero, pm_zero, pm_zero]; rfl
    · rw [pm_step (a ^^^ c), pm_step a, pm_step c, ih (b / 2) (by omega), dbl_xor, xx]
      congr 1
      split <;> simp
theorem pm_dbl_left (a : Nat) : ∀ b, pm (2 * a) b = 2 * pm a b := by
  intro b
  induction b using Nat.strongRecOn with
  | ind b ih =>
    by_cases h : b = 0
    · subst h; rw [pm_zero, pm_zero]
    · rw [pm_step (2 * a), pm_step a, ih (b / 2) (by omega), dbl_xor]
      congr 1
      split <;> simp
theorem pm_xor_right (a : Nat) : ∀ b c, pm a (b ^^^ c) = pm a b ^^^ pm a c := by
  intro b
  induction b using Nat.strongRecOn with
  | ind b ih =>
    intro c
    by_cases h : b = 0
    · subst h; rw [Nat.zero_xor, pm_zero, Nat.zero_xor]
    · rw [pm_step a (b ^^^ c), pm_step a b, pm_step a c, half_xor, ih (b / 2) (by omega), dbl_xor, xx, mod_xor]
      congr 1
      rcases Nat.mod_two_eq_zero_or_one b with h1 | h1 <;> rcases Nat.mod_two_eq_zero_or_one c with h2 | h2 <;> simp [h1, h2]
theorem pm_dbl_right (a b : Nat) : pm a (2 * b) = 2 * pm a b := by
  rw [pm_step, show 2 * b / 2 = b by omega, if_neg (by omega)]; simp
theorem one_pm : ∀ b, pm 1 b = b := by
  intro b
  induction b using Nat.strongRecOn with
  | ind b ih =>
    by_cases h : b = 0
    · subst h; exact pm_zero 1
    · rw [pm_step, ih (b / 2) (by omega)]
      apply Nat.eq_of_testBit_eq
      intro i
      rw [Nat.testBit_xor]
      cases i with
      | zero => split <;> simp [Nat.testBit_zero] <;> omega
      | succ i =>
        rw [Nat.testBit_succ (2 * (b / 2)), show 2 * (b / 2) / 2 = b / 2 by omega, Nat.testBit_succ b]
        split <;> simp [Nat.testBit_succ]
theorem split2 (b : Nat) : b = (if b % 2 = 1 then 1 else 0) ^^^ (2 * (b / 2)) := by
  have := pm_step 1 b
  rwa [one_pm, one_pm] at this
theorem pm_comm : ∀ b a, pm a b = pm b a := by
  intro b
  induction b using Nat.strongRecOn with
  | ind b ih =>
    intro a
    by_cases h : b = 0
    · subst h; rw [pm_zero, zero_pm]
    · have e := split2 b
      have h1 := pm_step a b
      have h2 : pm b a = pm (if b % 2 = 1 then 1 else 0) a ^^^ pm (2 * (b / 2)) a := by rw [← pm_xor_left, ← e]
      rw [h1, h2, pm_dbl_left, ih (b / 2) (by omega) a]
      congr 1
      split
      · rw [one_pm]
      · rw [zero_pm]
theorem pm_assoc (a b : Nat) : ∀ c, pm (pm a b) c = pm a (pm b c) := by
  intro c
  induction c using Nat.strongRecOn with
  | ind c ih =>
    by_cases h : c = 0
    · subst h; rw [pm_zero, pm_zero, pm_zero]
    · rw [pm_step (pm a b) c, pm_step b c, pm_xor_right, pm_dbl_right, ih (c / 2) (by omega)]
      congr 1
      split
      · rfl
      · rw [pm_zero]
theorem top_xor (n x z : Nat) (hx : x < 2 ^ n) (h1 : 2 ^ n ≤ z) (h2 : z < 2 ^ (n + 1)) : 2 ^ n ≤ x ^^^ z ∧ x ^^^ z < 2 ^ (n + 1) := by
  refine ⟨?_, Nat.xor_lt_two_pow (Nat.lt_of_lt_of_le hx (Nat.pow_le_pow_right (by decide) (by omega))) h2⟩
  apply Nat.ge_two_pow_of_testBit
  rw [Nat.testBit_xor, Nat.testBit_lt_two_pow hx]
  have : z.testBit n = true := by
    rw [Nat.testBit_eq_decide_div_mod_eq, decide_eq_true_eq]
    rw [Nat.pow_succ] at h2
    have h3 : z / 2 ^ n = 1 := by
      apply Nat.div_eq_of_lt_le <;> omega
    rw [h3]
  rw [this]; rfl
/-- a has degree i. -/
def Deg (a i : Nat) : Prop := 2 ^ i ≤ a ∧ a < 2 ^ (i + 1)
theorem Deg.pos {a i : Nat} (h : Deg a i) : 0 < a := Nat.lt_of_lt_of_le (Nat.two_pow_pos i) h.1
theorem deg_of {a : Nat} (h : a ≠ 0) : Deg a a.log2 := ⟨Nat.log2_self_le h, Nat.lt_log2_self⟩
theorem Deg.eq {a i j : Nat} (h : Deg a i) (k : Deg a j) : i = j := by
  have h1 : i < j + 1 := (Nat.pow_lt_pow_iff_right (a := 2) (by decide)).1 (Nat.lt_of_le_of_lt h.1 k.2)
  have h2 : j < i + 1 := (Nat.pow_lt_pow_iff_right (a := 2) (by decide)).1 (Nat.lt_of_le_of_lt k.1 h.2)
  omega
theorem Deg.log2 {a i : Nat} (h : Deg a i) : a.log2 = i := (deg_of (by have := h.pos; omega)).eq h
theorem deg_pm {a i : Nat} (ha : Deg a i) : ∀ j b, Deg b j → Deg (pm a b) (i + j) := by
  intro j
  induction j with
  | zero =>
    intro b hb
    obtain rfl : b = 1 := by have := hb.1; have := hb.2; simp at *; omega
    rw [pm_one]; exact ha
  | succ j ih =>
    intro b hb
    have e1 := hb.1; have e2 := hb.2
    rw [Nat.pow_succ] at e1 e2
    have h := ih (b / 2) ⟨by omega, by omega⟩
    rw [pm_step]
    have g1 := h.1; have g2 := h.2
    have key := top_xor (i + j + 1) (if b % 2 = 1 then a else 0) (2 * pm a (b / 2)) (by
      have : a < 2 ^ (i + j + 1) := Nat.lt_of_lt_of_le ha.2 (Nat.pow_le_pow_right (by decide) (by omega))
      split <;> omega) (by rw [Nat.pow_succ]; omega) (by rw [Nat.pow_succ]; omega)
    exact key
theorem pm_ne {a b : Nat} (ha : a ≠ 0) (hb : b ≠ 0) : pm a b ≠ 0 := by
  have := (deg_pm (deg_of ha) _ b (deg_of hb)).pos
  omega
theorem xor_eq_zero {a b : Nat} (h : a ^^^ b = 0) : a = b := by
  have e := congrArg (· ^^^ b) h
  simp only [Nat.xor_assoc, Nat.xor_self, Nat.xor_zero, Nat.zero_xor] at e
  exact e
theorem pm_cancel {a b c : Nat} (hc : c ≠ 0) (h : pm a c = pm b c) : a = b := by
  apply xor_eq_zero
  have e : pm (a ^^^ b) c = 0 := by rw [pm_xor_left, h, Nat.xor_self]
  by_cases h0 : a ^^^ b = 0
  · exact h0
  · exact absurd e (pm_ne h0 hc)
theorem xor_move {A B r s : Nat} (h : A ^^^ r = B ^^^ s) : A ^^^ B = r ^^^ s := by
  apply Nat.eq_of_testBit_eq
  intro i
  have := congrArg (fun z => z.testBit i) h
  simp only [Nat.testBit_xor] at this ⊢
  revert this
  cases A.testBit i <;> cases B.testBit i <;> cases r.testBit i <;> cases s.testBit i <;> simp
/-- a is quotient q times b, and the rest r. -/
def IsDiv (a b q r : Nat) : Prop := a = pm q b ^^^ r ∧ (r = 0 ∨ ∃ i j, Deg r i ∧ Deg b j ∧ i < j)
theorem lt_of_deg {x i j : Nat} (h : Deg x i) (hj : i < j) : x < 2 ^ j := Nat.lt_of_lt_of_le h.2 (Nat.pow_le_pow_right (by decide) (by omega))
theorem IsDiv.unique {a b q r q' r' : Nat} (hb : b ≠ 0) (h : IsDiv a b q r) (k : IsDiv a b q' r') : q = q' ∧ r = r' := by
  obtain ⟨h1, h2⟩ := h
  obtain ⟨k1, k2⟩ := k
  have e : pm (q ^^^ q') b = r ^^^ r' := by
    rw [pm_xor_left]
    have : pm q b ^^^ r = pm q' b ^^^ r' := h1.symm.trans k1
    exact xor_move this
  have db := deg_of hb
  have small : ∀ x, (x = 0 ∨ ∃ i j, Deg x i ∧ Deg b j ∧ i < j) → x < 2 ^ b.log2 := by
    intro x hx
    rcases hx with rfl | ⟨i, j, hi, hj, hij⟩
    · exact Nat.two_pow_pos _
    · rw [hj.eq db] at hij
      exact lt_of_deg hi hij
  have hr : r ^^^ r' < 2 ^ b.log2 := Nat.xor_lt_two_pow (small r h2) (small r' k2)
  have hq : q ^^^ q' = 0 := by
    apply Classical.byContradiction
    intro h0
    have := (deg_pm (deg_of h0) _ b db).1
    rw [e] at this
    have := Nat.pow_le_pow_right (n := 2) (by decide) (show b.log2 ≤ (q ^^^ q').log2 + b.log2 by omega)
    omega
  refine ⟨xor_eq_zero hq, ?_⟩
  rw [hq, zero_pm] at e
  exact xor_eq_zero e.symm
/-- c divides a. -/
def Dvd (c a : Nat) : Prop := ∃ q, a = pm q c
theorem Dvd.zero (c : Nat) : Dvd c 0 := ⟨0, (zero_pm c).symm⟩
theorem Dvd.refl (c : Nat) : Dvd c c := ⟨1, (one_pm c).symm⟩
theorem Dvd.xor {c a b : Nat} (h : Dvd c a) (k : Dvd c b) : Dvd c (a ^^^ b) := by
  obtain ⟨x, rfl⟩ := h
  obtain ⟨y, rfl⟩ := k
  exact ⟨x ^^^ y, (pm_xor_left x y c).symm⟩
theorem Dvd.mul {c a : Nat} (h : Dvd c a) (b : Nat) : Dvd c (pm b a) := by
  obtain ⟨x, rfl⟩ := h
  exact ⟨pm b x, (pm_assoc b x c).symm⟩
theorem Dvd.trans {a b c : Nat} (h : Dvd a b) (k : Dvd b c) : Dvd a c := by
  obtain ⟨y, rfl⟩ := k
  exact h.mul y
theorem Dvd.rest {c a b q r : Nat} (hd : IsDiv a b q r) (ha : Dvd c a) (hb : Dvd c b) : Dvd c r := by
  have : r = a ^^^ pm q b := by
    rw [hd.1, Nat.xor_comm, ← Nat.xor_assoc, Nat.xor_self, Nat.zero_xor]
  rw [this]
  exact ha.xor (hb.mul q)
theorem Dvd.whole {c a b q r : Nat} (hd : IsDiv a b q r) (hb : Dvd c b) (hr : Dvd c r) : Dvd c a := by
  rw [hd.1]
  exact (hb.mul q).xor hr
theorem Dvd.antisymm {a b : Nat} (h : Dvd a b) (k : Dvd b a) : a = b := by
  obtain ⟨x, rfl⟩ := h
  obtain ⟨y, hy⟩ := k
  by_cases ha : a = 0
  · subst ha; rw [pm_zero]
  · have e : pm (pm y x) a = pm 1 a := by rw [pm_assoc, one_pm]; exact hy.symm
    have e2 := pm_cancel ha e
    have hx : x ≠ 0 := by intro h; rw [h, pm_zero] at e2; omega
    have hy0 : y ≠ 0 := by intro h; rw [h, zero_pm] at e2; omega
    have d := deg_pm (deg_of hy0) _ x (deg_of hx)
    rw [e2] at d
    have z : y.log2 + x.log2 = 0 := d.eq ⟨by decide, by decide⟩
    have dx := deg_of hx
    have : x = 1 := by
      have h1 := dx.1; have h2 := dx.2
      rw [show x.log2 = 0 by omega] at h1 h2
      simp at h1 h2; omega
    rw [this, one_pm]
/-- g is the greatest common divisor. -/
def IsGcd (a b g : Nat) : Prop := Dvd g a ∧ Dvd g b ∧ ∀ c, Dvd c a → Dvd c b → Dvd c g
theorem IsGcd.unique {a b g k : Nat} (h : IsGcd a b g) (h' : IsGcd a b k) : g = k := (h'.2.2 g h.1 h.2.1).antisymm (h.2.2 k h'.1 h'.2.1)
theorem IsGcd.step {a b q r g : Nat} (hd : IsDiv a b q r) (h : IsGcd b r g) : IsGcd a b g :=
  ⟨Dvd.whole hd h.1 h.2.1, h.1, fun c ha hb => h.2.2 c hb (Dvd.rest hd ha hb)⟩
end Go.Proofs.YtdhcigiaidlmbaaGreatDoor.Bin
/- How the model's integers of 32 and 8 bits are BitVecs: small laws on 'bits', '/' and 'wrap'. By the verifier of shale. -/
namespace Go.Proofs.YtdhcigiaidlmbaaGreatDoor.Bits32
open Go

/-- the number of 32 bits, behind a name that no tactic opens. -/
def u (a : BitVec 32) : Int := (a.toNat : Int)
/-- the number of 8 bits, likewise. -/
def b (c : BitVec 8) : Int := (c.toNat : Int)
theorem u_lo (a : BitVec 32) : 0 ≤ u a := by unfold u; omega
theorem u_hi (a : BitVec 32) : u a < 4294967296 := by unfold u; have := a.isLt; omega
theorem b_lo (c : BitVec 8) : 0 ≤ b c := by unfold b; omega
theorem b_hi (c : BitVec 8) : b c < 256 := by unfold b; have := c.isLt; omega
theorem ofInt32 (a : BitVec 32) : BitVec.ofInt 32 (u a) = a := by
  apply BitVec.eq_of_toNat_eq
  rw [BitVec.toNat_ofInt]
  unfold u
  have := a.isLt
  omega
theorem wrap32 (a : BitVec 32) : IntKind.u32.wrap (u a) = u a := by
  rw [IntKind.wrap_u32']
  have := u_lo a
  have := u_hi a
  omega
theorem xor (a c : BitVec 32) : bits .xor .u32 (u a) (u c) = u (a ^^^ c) := by
  show IntKind.u32.wrap (u (BitVec.ofInt 32 (u a) ^^^ BitVec.ofInt 32 (u c))) = _
  rw [ofInt32, ofInt32, wrap32]
theorem and (a c : BitVec 32) : bits .and .u32 (u a) (u c) = u (a &&& c) := by
  show IntKind.u32.wrap (u (BitVec.ofInt 32 (u a) &&& BitVec.ofInt 32 (u c))) = _
  rw [ofInt32, ofInt32, wrap32]
theorem ofInt8 (a : BitVec 8) : BitVec.ofInt 8 (b a) = a := by
  apply BitVec.eq_of_toNat_eq
  rw [BitVec.toNat_ofInt]
  unfold b
  have := a.isLt
  omega
theorem wrap8 (a : BitVec 8) : IntKind.u8.wrap (b a) = b a := by
  rw [IntKind.wrap_u8']
  have := b_lo a
  have := b_hi a
  omega
theorem bxor (a c : BitVec 8) : bits .xor .u8 (b a) (b c) = b (a ^^^ c) := by
  show IntKind.u8.wrap (b (BitVec.ofInt 8 (b a) ^^^ BitVec.ofInt 8 (b c))) = _
  rw [ofInt8, ofInt8, wrap8]
theorem or (a c : BitVec 32) : bits .or .u32 (u a) (u c) = u (a ||| c) := by
  show IntKind.u32.wrap (u (BitVec.ofInt 32 (u a) ||| BitVec.ofInt 32 (u c))) = _
  rw [ofInt32, ofInt32, wrap32]
theorem b_u (c : BitVec 8) : b c = u (c.setWidth 32) := by
  unfold u b
  rw [BitVec.toNat_setWidth]
  have := c.isLt
  omega
theorem xor8 (a : BitVec 32) (c : BitVec 8) : bits .xor .u32 (u a) (b c) = u (a ^^^ c.setWidth 32) := by rw [b_u, xor]
theorem and15 (a : BitVec 32) : bits .and .u32 (u a) 15 = u (a &&& 15#32) := and a 15#32
theorem and1 (a : BitVec 32) : bits .and .u32 (u a) 1 = u (a &&& 1#32) := and a 1#32
theorem andMsb (a : BitVec 32) : bits .and .u32 (u a) 2147483648 = u (a &&& 2147483648#32) := and a 2147483648#32
theorem xorPoly (a : BitVec 32) : bits .xor .u32 (u a) 3988292384 = u (a ^^^ 3988292384#32) := xor a 3988292384#32
theorem xorOnes (a : BitVec 32) : bits .xor .u32 (u a) 4294967295 = u (a ^^^ 4294967295#32) := xor a 4294967295#32
theorem div16 (a : BitVec 32) : u a / 16 = u (a >>> 4) := by
  unfold u; rw [BitVec.toNat_ushiftRight, Nat.shiftRight_eq_div_pow]; omega
theorem div2 (a : BitVec 32) : u a / 2 = u (a >>> 1) := by
  unfold u; rw [BitVec.toNat_ushiftRight, Nat.shiftRight_eq_div_pow]; omega
theorem dbl (a : BitVec 32) : IntKind.u32.wrap (u a * 2) = u (a <<< 1) := by
  rw [IntKind.wrap_u32']; unfold u; rw [BitVec.toNat_shiftLeft, Nat.shiftLeft_eq]; omega
theorem shr1 (yk : IntKind) (a : BitVec 32) : Op.shift .shr .u32 (u a) yk 1 = pure (.int .u32 (u (a >>> 1))) := by
  rw [shift_shr .u32 yk (u a) 1 (by decide) (by decide)]
  exact congrArg (fun n => pure (Value.int .u32 n)) (div2 a)
theorem shr4 (yk : IntKind) (a : BitVec 32) : Op.shift .shr .u32 (u a) yk 4 = pure (.int .u32 (u (a >>> 4))) := by
  rw [shift_shr .u32 yk (u a) 4 (by decide) (by decide)]
  exact congrArg (fun n => pure (Value.int .u32 n)) (div16 a)
theorem shl1 (yk : IntKind) (a : BitVec 32) : Op.shift .shl .u32 (u a) yk 1 = pure (.int .u32 (u (a <<< 1))) := by
  rw [shift_shl .u32 yk (u a) 1 (by decide) (by decide)]
  exact congrArg (fun n => pure (Value.int .u32 n)) (dbl a)
theorem bit8 (k : Nat) : (2 : Int) ^ (k % 8) % 256 = b (BitVec.twoPow 8 (k % 8)) := by
  have : ∀ i : Fin 8, (2 : Int) ^ (i.val) % 256 = b (BitVec.twoPow 8 i) := by decide
  exact this ⟨k % 8, by omega⟩
theorem bxor_bit (c : BitVec 8) (k : Nat) : bits .xor .u8 (b c) ((2 : Int) ^ (k % 8) % 256) = b (c ^^^ BitVec.twoPow 8 (k % 8)) := by rw [bit8, bxor]
theorem and15_lt (a : BitVec 32) : u (a &&& 15#32) < 16 := by
  have h : (a &&& 15#32).toNat = a.toNat % 16 := by rw [BitVec.toNat_and]; exact Nat.and_two_pow_sub_one_eq_mod a.toNat 4
  unfold u
  omega
end Go.Proofs.YtdhcigiaidlmbaaGreatDoor.Bits32
/- Small words on memory: a world in which one block alone may have changed; calls that only compute. By the verifier of shale. -/
namespace Go.Proofs.YtdhcigiaidlmbaaGreatDoor
open Go Go.RowKit

/-- of all blocks that were there s alone may have changed; none is new. -/
structure Only (s : Nat) (w w' : World) : Prop where
  os : w'.os = w.os
  tape : w'.tape = w.tape
  output : w'.output = w.output
  size : w'.heap.size = w.heap.size
  block : ∀ k, k ≠ s → w'.heap[k]? = w.heap[k]?
theorem Only.refl (s : Nat) (w : World) : Only s w w := ⟨rfl, rfl, rfl, rfl, fun _ _ => rfl⟩
theorem Only.trans {s : Nat} {a b c : World} (h : Only s a b) (k : Only s b c) : Only s a c :=
  ⟨k.os.trans h.os, k.tape.trans h.tape, k.output.trans h.output, k.size.trans h.size, fun i hi => (k.block i hi).trans (h.block i hi)⟩
theorem Only.setCell (w : World) (p : Addr) (u : Value) : Only p.block w (w.setCell p u) :=
  ⟨rfl, rfl, rfl, by simp [World.setCell], fun k hk => Below.heap_setCell _ _ _ _ hk⟩
theorem Only.drew {s : Nat} {a w : World} (h : Only s a w) : Only s a w.drew := ⟨h.os, h.tape, h.output, h.size, h.block⟩
theorem Only.cell {s : Nat} {w w' : World} (h : Only s w w') {p : Addr} (hp : p.block ≠ s) : w'.cell? p = w.cell? p := World.cell?_of_block (w := w) (h.block p.block hp)
theorem Only.below {s : Nat} {w w' : World} (h : Only s w w') {B : Nat} (hs : B ≤ s) : Below B w w' :=
  ⟨h.os, h.tape, h.output, by rw [h.size]; exact Nat.le_refl _, fun k hk => h.block k (by omega)⟩

/-- A call that only computes: whatever the world, it answers v and leaves the world as it is. -/
def Gives (f : Nat) (args : Array Value) (v : Value) : Prop := ∀ w, Calls Tryz.prog f args w fun e w' => e = .returned v ∧ w = w'
/-- of the blocks that were there s alone may have changed; others may be new. -/
structure Upd (s : Nat) (w w' : World) : Prop where
  os : w'.os = w.os
  tape : w'.tape = w.tape
  output : w'.output = w.output
  size : w.heap.size ≤ w'.heap.size
  block : ∀ k, k < w.heap.size → k ≠ s → w'.heap[k]? = w.heap[k]?
theorem Upd.refl (s : Nat) (w : World) : Upd s w w := ⟨rfl, rfl, rfl, Nat.le_refl _, fun _ _ _ => rfl⟩
theorem Upd.trans {s : Nat} {a b c : World} (h : Upd s a b) (k : Upd s b c) : Upd s a c :=
  ⟨k.os.trans h.os, k.tape.trans h.tape, k.output.trans h.output, Nat.le_trans h.size k.size, fun i hi hs => (k.block i (Nat.lt_of_lt_of_le hi h.size) hs).trans (h.block i hi hs)⟩
theorem Upd.only {s : Nat} {a b c : World} (h : Upd s a b) (k : Only s b c) : Upd s a c :=
  h.trans ⟨k.os, k.tape, k.output, by rw [k.size]; exact Nat.le_refl _, fun i _ hs => k.block i hs⟩
theorem Upd.below {s : Nat} {a b c : World} (h : Upd s a b) (k : Below b.heap.size b c) : Upd s a c :=
  h.trans ⟨k.os, k.tape, k.output, k.size, fun i hi _ => k.block i hi⟩
theorem Upd.drew {s : Nat} {a w : World} (h : Upd s a w) : Upd s a w.drew := ⟨h.os, h.tape, h.output, h.size, h.block⟩
theorem Upd.cell {s : Nat} {w w' : World} (h : Upd s w w') {p : Addr} (hb : p.block < w.heap.size) (hp : p.block ≠ s) : w'.cell? p = w.cell? p := World.cell?_of_block (w := w) (h.block p.block hb hp)
theorem Upd.toBelow {s : Nat} {w w' : World} (h : Upd s w w') {B : Nat} (hs : B ≤ s) (hB : B ≤ w.heap.size) : Below B w w' :=
  ⟨h.os, h.tape, h.output, h.size, fun k hk => h.block k (by omega) (by omega)⟩
/-- the world but for draws. -/
def Drawn (w w' : World) : Prop := ∃ n, w' = w.drewN n
theorem Drawn.refl (w : World) : Drawn w w := ⟨0, rfl⟩
theorem Drawn.mk (w : World) (n : Nat) : Drawn w (w.drewN n) := ⟨n, rfl⟩
theorem Drawn.trans {a b c : World} (h : Drawn a b) (k : Drawn b c) : Drawn a c := by
  obtain ⟨n, rfl⟩ := h
  obtain ⟨m, rfl⟩ := k
  exact ⟨n + m, World.drewN_drewN _ _ _⟩
theorem Drawn.below {a b : World} (h : Drawn a b) (B : Nat) : Below B a b := by
  obtain ⟨n, rfl⟩ := h
  exact below_drewN (Below.refl _ _) n
theorem quiet_drawn {P : Program} {f : FuncId} {args : Array Value} {w : World} {n : Nat} {v : Value} (h : Calls P f args (w.drewN n) fun e w' => e = .returned v ∧ Drawn (w.drewN n) w') :
    Calls P f args (w.drewN n) fun e w'' => e = .returned v ∧ ∃ m, w'' = w.drewN m :=
  h.mono fun _ _ ⟨he, m, hm⟩ => ⟨he, n + m, by rw [hm, World.drewN_drewN]⟩
theorem ret_i64 {a b : Int} (e : a = b) : Ending.returned (.int .i64 a) = Ending.returned (.int .i64 b) := by rw [e]
end Go.Proofs.YtdhcigiaidlmbaaGreatDoor
/- Small words on memory: a world in which one block alone may have changed; bytes that stand in a row. By the verifier of shale. -/
namespace Go.Proofs.YtdhcigiaidlmbaaGreatDoor
open Go Go.RowKit

/-- number i of a list of bytes, behind a name that no tactic opens. -/
def nth8 (l : List (BitVec 8)) (i : Nat) : BitVec 8 := l.getD i 0
/-- the bytes l stand from address p on. -/
def Row8 (w : World) (bb off : Nat) (l : List (BitVec 8)) : Prop := ∀ i, i < l.length → w.cell? ⟨bb, off + i, none⟩ = some (.int .u8 (Bits32.b (nth8 l i)))
theorem Row8.only {s : Nat} {w w' : World} {bb off : Nat} {l : List (BitVec 8)} (h : Row8 w bb off l) (o : Only s w w') (hb : bb ≠ s) : Row8 w' bb off l :=
  fun i hi => (o.cell (p := ⟨bb, off + i, none⟩) hb).trans (h i hi)
theorem Row8.below {B : Nat} {w w' : World} {bb off : Nat} {l : List (BitVec 8)} (h : Row8 w bb off l) (o : Below B w w') (hb : bb < B) : Row8 w' bb off l :=
  fun i hi => (o.cell (p := ⟨bb, off + i, none⟩) hb).trans (h i hi)
theorem Row8.take {w : World} {bb off : Nat} {l : List (BitVec 8)} (h : Row8 w bb off l) (k : Nat) : Row8 w bb off (l.take k) := by
  intro i hi
  have h1 : i < l.length := by simp at hi; omega
  have h2 : i < k := by simp at hi; omega
  have := h i h1
  unfold nth8 at this ⊢
  rwa [List.getD_eq_getElem?_getD, List.getElem?_take_of_lt h2, ← List.getD_eq_getElem?_getD]
theorem Row8.drop {w : World} {bb off : Nat} {l : List (BitVec 8)} (h : Row8 w bb off l) (k : Nat) : Row8 w bb (off + k) (l.drop k) := by
  intro i hi
  have h1 : k + i < l.length := by simp at hi; omega
  have := h (k + i) h1
  unfold nth8 at this ⊢
  rw [Nat.add_assoc]
  rwa [List.getD_eq_getElem?_getD, List.getElem?_drop, ← List.getD_eq_getElem?_getD]

/-- a slice value that holds the bytes l; nothing beyond its length is said. -/
def IsBytes (w : World) (v : Value) (l : List (BitVec 8)) : Prop :=
  (l = [] ∧ ∃ a cap, v = .slice a 0 cap) ∨ ∃ bb off cap, v = .slice (some ⟨bb, off, none⟩) l.length cap ∧ Row8 w bb off l ∧ bb < w.heap.size
theorem IsBytes.block {w : World} {v : Value} {l : List (BitVec 8)} (h : IsBytes w v l) : ∀ bb off cap, v = .slice (some ⟨bb, off, none⟩) l.length cap → l ≠ [] → bb < w.heap.size := by
  intro bb off cap hv hn
  rcases h with ⟨h, _⟩ | ⟨b2, o2, c2, h, _, hb⟩
  · exact absurd h hn
  · rw [hv] at h
    simp only [Value.slice.injEq, Option.some.injEq, Addr.mk.injEq] at h
    omega
theorem IsBytes.below {B : Nat} {w w' : World} {v : Value} {l : List (BitVec 8)} (h : IsBytes w v l) (o : Below B w w') (hB : ∀ bb off cap, v = .slice (some ⟨bb, off, none⟩) l.length cap → l ≠ [] → bb < B) : IsBytes w' v l := by
  rcases h with h | ⟨bb, off, cap, rfl, hr, hb⟩
  · exact Or.inl h
  · by_cases hn : l = []
    · subst hn; exact Or.inl ⟨rfl, _, _, rfl⟩
    · exact Or.inr ⟨bb, off, cap, rfl, hr.below o (hB bb off cap rfl hn), Nat.lt_of_lt_of_le hb o.size⟩

theorem IsBytes.mk {w : World} {l : List (BitVec 8)} {n bb off cap : Nat} (hn : n = l.length) (hr : Row8 w bb off l) (hb : bb < w.heap.size) : IsBytes w (.slice (some ⟨bb, off, none⟩) n cap) l := by
  subst hn; exact Or.inr ⟨bb, off, cap, rfl, hr, hb⟩
/-- bytes that a call is handed. -/
def Arg8 (W : World) (v : Value) (l : List (BitVec 8)) : Prop := IsBytes W v l ∧ l.length ≤ maxLen
theorem Arg8.nil (W : World) (p : Option Addr) (cap : Nat) : Arg8 W (.slice p 0 cap) [] := ⟨Or.inl ⟨rfl, _, _, rfl⟩, Nat.zero_le _⟩
theorem Arg8.whole {W : World} {l : List (BitVec 8)} {n bb off cap : Nat} (hr : Row8 W bb off l) (hb : bb < W.heap.size) (hn : n = l.length) (hl : n ≤ maxLen) : Arg8 W (.slice (some ⟨bb, off, none⟩) n cap) l := ⟨.mk hn hr hb, by omega⟩
theorem Arg8.take {W : World} {l : List (BitVec 8)} {n bb off cap : Nat} (hr : Row8 W bb off l) (hb : bb < W.heap.size) (hl : l.length ≤ maxLen) (hn : n ≤ l.length) : Arg8 W (.slice (some ⟨bb, off, none⟩) n cap) (l.take n) :=
  ⟨.mk (by simp; omega) (hr.take n) hb, by simp; omega⟩
theorem Arg8.drop {W : World} {l : List (BitVec 8)} {n bb off cap m : Nat} (hr : Row8 W bb off l) (hb : bb < W.heap.size) (hl : l.length ≤ maxLen) (hm : m = l.length - n) : Arg8 W (.slice (some ⟨bb, off + n, none⟩) m cap) (l.drop n) :=
  ⟨.mk (by simp; omega) (hr.drop n) hb, by simp; omega⟩

/-- a block of bytes that a call has made. -/
def obj8 (l : List (BitVec 8)) : Obj := .cells (l.map fun c => Value.int .u8 (Bits32.b c)).toArray 5 (0, 0)
/-- block g holds the bytes l. -/
def Blk8 (w : World) (g : Nat) (l : List (BitVec 8)) : Prop := w.heap[g]? = some (obj8 l)
theorem Blk8.cell {w : World} {g : Nat} {l : List (BitVec 8)} (h : Blk8 w g l) {i : Nat} (hi : i < l.length) : w.cell? ⟨g, i, none⟩ = some (.int .u8 (Bits32.b (nth8 l i))) := by
  unfold World.cell?
  simp only
  rw [show w.heap[g]? = _ from h]
  unfold obj8 nth8
  simp [hi]
theorem Blk8.free {w : World} {g : Nat} {l : List (BitVec 8)} (h : Blk8 w g l) (i : Nat) : w.frozen? ⟨g, i, none⟩ = false := by
  unfold World.frozen?
  simp only
  rw [show w.heap[g]? = _ from h]
  unfold obj8
  simp
theorem Blk8.row {w : World} {g : Nat} {l : List (BitVec 8)} (h : Blk8 w g l) : Row8 w g 0 l := by
  intro i hi
  rw [Nat.zero_add]
  exact h.cell hi
theorem Blk8.lt {w : World} {g : Nat} {l : List (BitVec 8)} (h : Blk8 w g l) : g < w.heap.size := lt_of_block h
theorem Blk8.set {w : World} {g : Nat} {l : List (BitVec 8)} (h : Blk8 w g l) (i : Nat) (c : BitVec 8) : Blk8 (w.setCell ⟨g, i, none⟩ (.int .u8 (Bits32.b c))) g (l.set i c) := by
  have hlt := lt_of_block h
  have h' : w.heap[g] = obj8 l := by simpa [Blk8, Array.getElem?_eq_getElem hlt] using h
  show (w.heap.modify g _)[g]? = _
  rw [Array.getElem?_eq_getElem (by simpa using hlt), Array.getElem_modify_self, h']
  simp [obj8, List.map_set]
theorem Blk8.new (w : World) (l : List (BitVec 8)) : Blk8 (w.alloc (obj8 l)) w.heap.size l := heap_alloc_new w _
theorem Blk8.drew {w : World} {g : Nat} {l : List (BitVec 8)} (h : Blk8 w g l) : Blk8 w.drew g l := h
theorem Arg8.since {B : Nat} {W w : World} {v : Value} {l : List (BitVec 8)} (h : Arg8 W v l) (hB : W.heap.size ≤ B) (o : Below B W w) : Arg8 w v l :=
  ⟨h.1.below o (fun bb off cap hv hn => Nat.lt_of_lt_of_le (h.1.block bb off cap hv hn) hB), h.2⟩
set_option maxRecDepth 100000 in
theorem made8 (w : World) (n : Nat) (hn : n ≤ 1000000) :
    (Instr.makeSlice 25 (.int .i64 (n : Int)) (.int .i64 (n : Int))).run Tryz.prog w = .ok (.slice (some ⟨w.heap.size, 0, none⟩) n n) (w.alloc (obj8 (List.replicate n 0))) := by
  obtain ⟨i0, hi, hz0, hz1, hz2⟩ := info_parts (show (Tryz.prog.info? 5).map (fun i => (i.zero, i.size, i.bytes)) = some (some (.int .u8 0), 1, 1) by kernel_rfl)
  rw [run_make (P := Tryz.prog) w 25 5 i0 (.int .u8 0) Tryz.underlying25 hi hz0 .i64 .i64 (n : Int) (n : Int) (by omega) (by omega) (by rw [hz2]; omega) (by omega)]
  congr 2
  unfold obj8 madeCells
  rw [hz1]
  congr 1
  apply Array.ext
  · simp
  · intro i h1 h2
    simp [Value.cells, Bits32.b, Nat.mod_one]
theorem Row8.upd {s : Nat} {w w' : World} {bb off : Nat} {l : List (BitVec 8)} (h : Row8 w bb off l) (o : Upd s w w') (hl : bb < w.heap.size) (hb : bb ≠ s) : Row8 w' bb off l :=
  fun i hi => (o.cell (p := ⟨bb, off + i, none⟩) hl hb).trans (h i hi)
end Go.Proofs.YtdhcigiaidlmbaaGreatDoor
/- Slices of bytes that the call itself appends to; a piece of a slice whatever its address. By the verifier of shale. -/
namespace Go.Proofs.YtdhcigiaidlmbaaGreatDoor
open Go Go.RowKit
set_option linter.unusedVariables false
def cells8 (l : List (BitVec 8)) : List Value := l.map fun c => Value.int .u8 (Bits32.b c)
theorem cells8_length (l : List (BitVec 8)) : (cells8 l).length = l.length := by simp [cells8]
/-- v is a slice of the call's own (in a block from base on, or nil) that holds the bytes l. -/
def Own8 (w : World) (base : Nat) (v : Value) (n : Nat) (l : List (BitVec 8)) : Prop := w.ownsRow base 5 1 v n (cells8 l)
theorem Own8.nil (w : World) (base : Nat) : Own8 w base (.slice none 0 0) 0 [] := ⟨rfl, Or.inl ⟨rfl, rfl⟩⟩
theorem Own8.len {w : World} {base n : Nat} {v : Value} {l : List (BitVec 8)} (h : Own8 w base v n l) : l.length = n := by
  have := h.1
  rw [cells8_length] at this
  omega
theorem Own8.block {w : World} {base n : Nat} {v : Value} {l : List (BitVec 8)} (h : Own8 w base v n l) : ∀ g, v.ownBlock = some g → base ≤ g ∧ g < w.heap.size := by
  intro g hg
  rcases h.2 with ⟨h0, _⟩ | ⟨g', cap', cur, hv, hbg, hh, _⟩
  · rw [h0] at hg; cases hg
  · rw [hv] at hg
    simp only [Value.ownBlock, Option.some.injEq] at hg
    subst hg
    exact ⟨hbg, lt_of_block hh⟩
theorem Own8.keep {w w' : World} {base n : Nat} {v : Value} {l : List (BitVec 8)} (h : Own8 w base v n l) (o : ∀ g, v.ownBlock = some g → w'.heap[g]? = w.heap[g]?) : Own8 w' base v n l := by
  refine ⟨h.1, ?_⟩
  rcases h.2 with h0 | ⟨g', cap', cur, hv, hbg, hh, r⟩
  · exact Or.inl h0
  · exact Or.inr ⟨g', cap', cur, hv, hbg, by rw [o g' (by rw [hv]; rfl)]; exact hh, r⟩
theorem Own8.bytes {w : World} {base n : Nat} {v : Value} {l : List (BitVec 8)} (h : Own8 w base v n l) : IsBytes w v l := by
  rcases h.2 with ⟨h0, h1⟩ | ⟨g', cap', cur, hv, hbg, hh, hn, hm, hs, ht⟩
  · exact Or.inl ⟨List.eq_nil_of_length_eq_zero (h.len.trans h1), _, _, h0⟩
  · have hl := h.len
    refine Or.inr ⟨g', 0, cap', by rw [hl]; exact hv, ?_, lt_of_block hh⟩
    intro i hi
    rw [Nat.zero_add]
    unfold World.cell?
    simp only
    rw [hh]
    have e : cur.toList[i]? = (cells8 l)[i]? := by
      rw [← ht, List.getElem?_take_of_lt (by omega)]
    simp only [Array.getElem?_toList] at e
    simp only
    rw [e]
    unfold cells8 nth8
    simp [hi]
theorem info8 : ∃ i, Tryz.prog.info? 5 = some i ∧ i.zero = some (.int .u8 0) ∧ i.size = 1 ∧ i.bytes = 1 :=
  info_parts (show (Tryz.prog.info? 5).map (fun i => (i.zero, i.size, i.bytes)) = some (some (.int .u8 0), 1, 1) by kernel_rfl)
/-- n bytes from p on, wherever that is; no bytes may be anywhere. -/
def Arr8 (w : World) (p : Option Addr) (n : Nat) (l : List (BitVec 8)) : Prop := n = 0 ∨ ∃ bb off, p = some ⟨bb, off, none⟩ ∧ Row8 w bb off l ∧ bb < w.heap.size
theorem Arr8.below {w w' : World} {p : Option Addr} {n : Nat} {l : List (BitVec 8)} (h : Arr8 w p n l) (o : Below w.heap.size w w') : Arr8 w' p n l := by
  rcases h with h | ⟨bb, off, hp, hr, hb⟩
  · exact Or.inl h
  · exact Or.inr ⟨bb, off, hp, hr.below o hb, Nat.lt_of_lt_of_le hb o.size⟩
theorem Upd.grown {s : Nat} {a b c : World} {row : Option Nat} (h : Upd s a b) (g : b.grownBy c row) (hr : ∀ k, row = some k → a.heap.size ≤ k) : Upd s a c :=
  ⟨g.os.trans h.os, g.tape.trans h.tape, g.output.trans h.output, Nat.le_trans h.size g.size, fun k hk hs => (g.block k (Nat.lt_of_lt_of_le hk h.size) (fun e => by have := hr k e.symm; omega)).trans (h.block k hk hs)⟩
end Go.Proofs.YtdhcigiaidlmbaaGreatDoor
/- A block that holds bytes, and maybe more behind them. By the verifier of shale. -/
namespace Go.Proofs.YtdhcigiaidlmbaaGreatDoor
open Go Go.RowKit
set_option linter.unusedVariables false
/-- block g holds the bytes l, and maybe more behind them. -/
def Buf8 (w : World) (g : Nat) (l : List (BitVec 8)) : Prop := ∃ cur t, w.heap[g]? = some (.cells cur t (0, 0)) ∧ ∀ i, i < l.length → cur[i]? = some (.int .u8 (Bits32.b (nth8 l i)))
theorem Buf8.lt {w : World} {g : Nat} {l : List (BitVec 8)} (h : Buf8 w g l) : g < w.heap.size := by obtain ⟨_, _, h, _⟩ := h; exact lt_of_block h
theorem Buf8.cell {w : World} {g : Nat} {l : List (BitVec 8)} (h : Buf8 w g l) (i : Nat) (hi : i < l.length) : w.cell? ⟨g, i, none⟩ = some (.int .u8 (Bits32.b (nth8 l i))) := by
  obtain ⟨cur, t, hh, hc⟩ := h
  unfold World.cell?
  simp only
  rw [hh]
  exact hc i hi
theorem Buf8.row {w : World} {g : Nat} {l : List (BitVec 8)} (h : Buf8 w g l) : Row8 w g 0 l := by
  intro i hi; rw [Nat.zero_add]; exact h.cell i hi
theorem Buf8.free {w : World} {g : Nat} {l : List (BitVec 8)} (h : Buf8 w g l) (i : Nat) : w.frozen? ⟨g, i, none⟩ = false := by
  obtain ⟨cur, t, hh, hc⟩ := h
  unfold World.frozen?
  simp only
  rw [hh]
  simp
theorem Buf8.below {B : Nat} {w w' : World} {g : Nat} {l : List (BitVec 8)} (h : Buf8 w g l) (b : Below B w w') (hg : g < B) : Buf8 w' g l := by
  obtain ⟨cur, t, hh, hc⟩ := h
  exact ⟨cur, t, (b.block _ hg).trans hh, hc⟩
theorem Buf8.set {w : World} {g : Nat} {l : List (BitVec 8)} (h : Buf8 w g l) (i : Nat) (hi : i < l.length) (c : BitVec 8) : Buf8 (w.setCell ⟨g, i, none⟩ (.int .u8 (Bits32.b c))) g (l.set i c) := by
  obtain ⟨cur, t, hh, hc⟩ := h
  have hlt := lt_of_block hh
  have h' : w.heap[g] = .cells cur t (0, 0) := by rw [Array.getElem?_eq_getElem hlt] at hh; exact Option.some.inj hh
  refine ⟨cur.setIfInBounds i (.int .u8 (Bits32.b c)), t, ?_, ?_⟩
  · show (w.heap.modify g _)[g]? = _
    rw [Array.getElem?_eq_getElem (by simpa using hlt), Array.getElem_modify_self, h']
    rfl
  · intro j hj
    rw [List.length_set] at hj
    have hcj := hc j hj
    have hjs : j < cur.size := (Array.getElem?_eq_some_iff.1 hcj).1
    by_cases e : i = j
    · subst e
      rw [Array.getElem?_setIfInBounds_self, if_pos hjs]
      unfold nth8
      simp [hi]
    · rw [Array.getElem?_setIfInBounds_ne e, hcj]
      unfold nth8
      rw [List.getD_eq_getElem?_getD, List.getD_eq_getElem?_getD, List.getElem?_set_ne e]
theorem Own8.buf {w : World} {base g n cap : Nat} {l : List (BitVec 8)} (h : Own8 w base (.slice (some ⟨g, 0, none⟩) n cap) n l) : Buf8 w g l ∧ n = l.length ∧ n ≤ cap := by
  have hl := h.len
  rcases h.2 with ⟨h0, h1⟩ | ⟨g', cap', cur, hv, hbg, hh, hn, hm, hs, ht⟩
  · cases h0
  · simp only [Value.slice.injEq, Option.some.injEq, Addr.mk.injEq] at hv
    obtain ⟨⟨rfl, _⟩, _, rfl⟩ := hv
    refine ⟨⟨cur, _, hh, ?_⟩, hl.symm, hn⟩
    intro i hi
    have e : cur.toList[i]? = (cells8 l)[i]? := by rw [← ht, List.getElem?_take_of_lt (by omega)]
    simp only [Array.getElem?_toList] at e
    rw [e]
    unfold cells8 nth8
    simp [hi]
end Go.Proofs.YtdhcigiaidlmbaaGreatDoor
/- What the listed error variables give the walks: each holds an error of its own. By the verifier of shale. -/
namespace Go.Proofs.YtdhcigiaidlmbaaGreatDoor
open Go Go.RowKit Go.ChangeShapes
set_option linter.unusedVariables false
/-- an error as errors.New makes it, read through. -/
def errD {H : Type} (text : List UInt8) : DataW H := .iface "*errors.errorString" (.ptr (.agg [.lit (.string text)]))
theorem nameStar : "*" ++ "errors.errorString" = "*errors.errorString" := by decide
theorem rowErr (u : TypeId) (h : Tryz.prog.typeName? 3 u = some "*errors.errorString") : u = 272 :=
  typeName_ptr_named (nm := "errors.errorString") (by rw [nameStar]; kernel_rfl) (by kernel_rfl) (by decide) u (by rw [nameStar]; exact h)
theorem cellsErr : Tryz.prog.cellsOf 289 = 1 := by kernel_rfl
theorem cellsStr : Tryz.prog.cellsOf 9 = 1 := by kernel_rfl
/-- an error variable's cell: the error itself, at address a. -/
def Sent (w : World) (g : Nat) (a : Addr) : Prop := w.cell? ⟨g, 0, none⟩ = some (.iface 272 (.pointer (some a)))
abbrev errOf (a : Addr) : Value := .iface 272 (.pointer (some a))
/-- .. and it leads to a row that nothing marks. -/
def ErrAt (w : World) (g : Nat) (a : Addr) : Prop := Sent w g a ∧ g < w.heap.size ∧ a.block < w.heap.size ∧ ∃ c t, w.heap[a.block]? = some (.cells c t (0, 0))
theorem Sent.below {B : Nat} {w w' : World} {g : Nat} {a : Addr} (h : Sent w g a) (b : Below B w w') (hg : g < B) : Sent w' g a := (b.cell (p := ⟨g, 0, none⟩) hg).trans h
theorem ErrAt.below {w w' : World} {g : Nat} {a : Addr} (h : ErrAt w g a) (b : Below w.heap.size w w') : ErrAt w' g a := by
  obtain ⟨h1, h2, h3, c, t, h4⟩ := h
  exact ⟨h1.below b h2, Nat.lt_of_lt_of_le h2 b.size, Nat.lt_of_lt_of_le h3 b.size, c, t, (b.block _ h3).trans h4⟩
theorem ErrAt.since {w w' : World} {g : Nat} {a : Addr} {B : Nat} (h : ErrAt w g a) (hB : w.heap.size ≤ B) (b : Below B w w') : ErrAt w' g a := h.below (b.mono hB)
theorem ErrAt.drawn {w w' : World} {g : Nat} {a : Addr} (h : ErrAt w g a) (d : Drawn w w') : ErrAt w' g a := h.below (d.below _)
/-- which entries of a list are errors. -/
def IsErr (L : List (String × DataW Unit)) (i g : Nat) : Prop := ∃ n text, L[i]? = some (n, errD text) ∧ Tryz.prog.globalNamed n = some g ∧ (Tryz.prog.globals[g]?).map (·.type) = some 32
set_option maxRecDepth 100000 in
theorem laid_errs {W : World} : ∀ (L : List (String × DataW Unit)) (ps : List MemPlace), DataW.LaidVars Tryz.prog W L ps →
    (∀ b off, MemPlace.cell b off ∈ ps → (∃ c t, W.heap[b]? = some (.cells c t (0, 0))) ∧ ∀ u v, W.cell? ⟨b, off, none⟩ = some (.iface u v) → Value.okWide Tryz.prog W .any 0 u v) → ps.Nodup →
    ∃ f : Nat → Addr, (∀ i g, IsErr L i g → ErrAt W g (f i) ∧ MemPlace.cell (f i).block (f i).off ∈ ps) ∧ (∀ i j g k, IsErr L i g → IsErr L j k → i ≠ j → f i ≠ f j)
  | [], ps, h, _, _ => ⟨fun _ => ⟨0, 0, none⟩, fun i g ⟨n, t, e, _⟩ => by simp at e, fun i j g k ⟨n, t, e, _⟩ => by simp at e⟩
  | (n, d) :: r, ps, h, hrows, hnd => by
    obtain ⟨g, t, cs, fuel, p, q, hg, ht, hv, hd, hq, rfl⟩ := h
    have hndq : q.Nodup := List.Nodup.sublist (List.sublist_append_right _ _) hnd
    obtain ⟨f, f1, f2⟩ := laid_errs r q hq (fun b off hm => hrows b off (List.mem_append_right _ hm)) hndq
    by_cases hc : ∃ k, IsErr ((n, d) :: r) 0 k
    · obtain ⟨k, n', text, he, hk, hkt⟩ := hc
      simp only [List.getElem?_cons_zero, Option.some.injEq, Prod.mk.injEq] at he
      obtain ⟨rfl, rfl⟩ := he
      obtain rfl := Option.some.inj (hk.symm.trans hg)
      obtain rfl := Option.some.inj (hkt.symm.trans ht)
      obtain ⟨l0⟩ := cs
      have ok0 : ∀ u v, l0 = [.iface u v] → Value.okWide Tryz.prog W .any 0 u v := fun u v e => by
        subst e
        exact (hrows k 0 (by simp [MemPlace.row])).2 u v (by simpa using World.var?_cell hg hv 0)
      obtain ⟨a0, s0, rfl, hc0, hs0, hz0, rfl⟩ := errorString_of_trod Tryz.underlying32 rowErr Tryz.underlying272 Tryz.underlying289 rfl rfl Tryz.underlying9 cellsErr cellsStr hd ok0
      have hcell : W.cell? ⟨k, 0, none⟩ = some (.iface 272 (.pointer (some a0))) := by simpa using World.var?_cell hg hv 0
      have hmem : MemPlace.cell a0.block a0.off ∈ MemPlace.row a0 1 := by simp [MemPlace.row]
      obtain ⟨c, t0, hrow⟩ := (hrows a0.block a0.off (List.mem_append_left _ (List.mem_append_right _ hmem))).1
      have hE : ErrAt W k a0 := ⟨hcell, World.block_lt_of_cell? W _ hcell, lt_of_block hrow, c, t0, hrow⟩
      have hdis : ∀ x, x ∈ MemPlace.row a0 1 → x ∉ q := fun x hx hxq => (List.nodup_append.1 hnd).2.2 x (List.mem_append_right _ hx) x hxq rfl
      refine ⟨fun i => if i = 0 then a0 else f (i - 1), ?_, ?_⟩
      · intro i g' hi
        cases i with
        | zero =>
          obtain ⟨n2, text2, he2, hk2, _⟩ := hi
          simp only [List.getElem?_cons_zero, Option.some.injEq, Prod.mk.injEq] at he2
          obtain ⟨rfl, _⟩ := he2
          obtain rfl := Option.some.inj (hk.symm.trans hk2)
          exact ⟨hE, List.mem_append_left _ (List.mem_append_right _ hmem)⟩
        | succ i =>
          have := f1 i g' hi
          exact ⟨this.1, List.mem_append_right _ this.2⟩
      · intro i j g' k' hi hj hij
        cases i with
        | zero =>
          cases j with
          | zero => exact absurd rfl hij
          | succ j =>
            have := (f1 j k' hj).2
            intro e
            have e : a0 = f j := by simpa using e
            rw [← e] at this
            exact hdis _ hmem this
        | succ i =>
          cases j with
          | zero =>
            have := (f1 i g' hi).2
            intro e
            have e : f i = a0 := by simpa using e
            rw [e] at this
            exact hdis _ hmem this
          | succ j => exact f2 i j g' k' hi hj (by omega)
    · refine ⟨fun i => f (i - 1), ?_, ?_⟩
      · intro i g' hi
        cases i with
        | zero => exact absurd ⟨g', hi⟩ hc
        | succ i =>
          have := f1 i g' hi
          exact ⟨this.1, List.mem_append_right _ this.2⟩
      · intro i j g' k' hi hj hij
        cases i with
        | zero => exact absurd ⟨g', hi⟩ hc
        | succ i =>
          cases j with
          | zero => exact absurd ⟨k', hj⟩ hc
          | succ j => exact f2 i j g' k' hi hj (by omega)
theorem laid_errs' {W : World} (L : List (String × DataW Unit)) (h : laidMet Tryz.prog L W) : ∃ f : Nat → Addr, (∀ i g, IsErr L i g → ErrAt W g (f i)) ∧ (∀ i j g k, IsErr L i g → IsErr L j k → i ≠ j → f i ≠ f j) := by
  obtain ⟨ps, h1, h2, h3⟩ := h
  obtain ⟨f, f1, f2⟩ := laid_errs L ps h1 h3 h2
  exact ⟨f, fun i g hi => (f1 i g hi).1, f2⟩
/-- an error is itself. -/
theorem compErr : (Tryz.prog.info? 272).map (·.comparable) = some true := by kernel_rfl
theorem sizeErr : (Tryz.prog.info? 289).map (·.size) = some 1 := by kernel_rfl
set_option maxRecDepth 100000 in
theorem eql_err (a : Addr) (w : World) : (binOp .eql 32 (errOf a) (errOf a)).run Tryz.prog w = .ok (.bool true) w := by
  obtain ⟨i, hi, hc⟩ := Option.map_eq_some_iff.1 compErr
  obtain ⟨j, hj, _⟩ := Option.map_eq_some_iff.1 sizeErr
  exact run_eql_iface_ptr_same w a Tryz.underlying32 Tryz.underlying272 hi hc hj
set_option maxRecDepth 100000 in
theorem eql_other {w : World} {g k : Nat} {a b : Addr} (ha : ErrAt w g a) (hb : ErrAt w k b) (hne : a ≠ b) : (binOp .eql 32 (errOf a) (errOf b)).run Tryz.prog w = .ok (.bool false) w := by
  obtain ⟨i, hi, hc⟩ := Option.map_eq_some_iff.1 compErr
  obtain ⟨j, hj, hz⟩ := Option.map_eq_some_iff.1 sizeErr
  obtain ⟨_, _, _, c, t, h4⟩ := ha
  obtain ⟨_, _, _, c', t', h5⟩ := hb
  exact run_eql_iface_ptr_other w Tryz.underlying32 Tryz.underlying272 hi hc hj (by rw [hz]; decide) hne h4 h5
end Go.Proofs.YtdhcigiaidlmbaaGreatDoor
/- Polynomials over a field of two: series with a last coefficient; sums, products, quotients, divisors, values, roots. No program is named here. By the verifier of shale. -/
namespace Go.Proofs.YtdhcigiaidlmbaaGreatDoor.Pl
set_option linter.unusedVariables false
/-- a field of two's kind: a + a = 0. -/
class Fl (K : Type) extends Zero K, One K, Add K, Mul K, Inv K where
  add_assoc : ∀ a b c : K, a + b + c = a + (b + c)
  add_comm : ∀ a b : K, a + b = b + a
  add_zero : ∀ a : K, a + 0 = a
  add_self : ∀ a : K, a + a = 0
  mul_assoc : ∀ a b c : K, a * b * c = a * (b * c)
  mul_comm : ∀ a b : K, a * b = b * a
  mul_one : ∀ a : K, a * 1 = a
  mul_add : ∀ a b c : K, a * (b + c) = a * b + a * c
  one_ne : (1 : K) ≠ 0
  mul_inv : ∀ a : K, a ≠ 0 → a * a⁻¹ = 1
section
variable {K : Type} [Fl K]
instance : Std.Associative (α := K) (· + ·) := ⟨Fl.add_assoc⟩
instance : Std.Commutative (α := K) (· + ·) := ⟨Fl.add_comm⟩
instance : Std.Associative (α := K) (· * ·) := ⟨Fl.mul_assoc⟩
instance : Std.Commutative (α := K) (· * ·) := ⟨Fl.mul_comm⟩
theorem zero_add (a : K) : 0 + a = a := by rw [Fl.add_comm, Fl.add_zero]
theorem add_mul (a b c : K) : (a + b) * c = a * c + b * c := by rw [Fl.mul_comm, Fl.mul_add, Fl.mul_comm c, Fl.mul_comm c]
theorem mul_zero (a : K) : a * 0 = 0 := by
  have h : a * 0 + a * 0 = a * 0 := by rw [← Fl.mul_add, Fl.add_zero]
  rw [Fl.add_self] at h
  exact h.symm
theorem zero_mul (a : K) : 0 * a = 0 := by rw [Fl.mul_comm, mul_zero]
theorem one_mul (a : K) : 1 * a = a := by rw [Fl.mul_comm, Fl.mul_one]
theorem add_cancel {a b : K} (h : a + b = 0) : a = b := by
  have : a + b + b = 0 + b := by rw [h]
  rw [Fl.add_assoc, Fl.add_self, Fl.add_zero, zero_add] at this
  exact this
theorem mul_ne {a b : K} (ha : a ≠ 0) (hb : b ≠ 0) : a * b ≠ 0 := by
  intro h
  have : a⁻¹ * (a * b) = b := by rw [← Fl.mul_assoc, Fl.mul_comm a⁻¹, Fl.mul_inv a ha, one_mul]
  rw [h, mul_zero] at this
  exact hb this.symm
theorem mul_eq_zero {a b : K} (h : a * b = 0) : a = 0 ∨ b = 0 := by
  apply Classical.byContradiction
  intro h0
  exact mul_ne (fun h1 => h0 (Or.inl h1)) (fun h1 => h0 (Or.inr h1)) h
theorem add_xx (a b c d : K) : (a + b) + (c + d) = (a + c) + (b + d) := by ac_rfl
/-- a series: the coefficient of x^i is p i. -/
abbrev Ser (K : Type) := Nat → K
def padd (p q : Ser K) : Ser K := fun i => p i + q i
def pz : Ser K := fun _ => 0
def psm (a : K) (p : Ser K) : Ser K := fun i => a * p i
def tl (p : Ser K) : Ser K := fun i => p (i + 1)
/-- the product. -/
def cv : Ser K → Ser K → Nat → K
  | p, q, 0 => p 0 * q 0
  | p, q, n + 1 => p 0 * q (n + 1) + cv (tl p) q n
theorem padd_comm (p q : Ser K) : padd p q = padd q p := funext fun i => Fl.add_comm _ _
theorem padd_assoc (p q r : Ser K) : padd (padd p q) r = padd p (padd q r) := funext fun i => Fl.add_assoc _ _ _
theorem padd_self (p : Ser K) : padd p p = pz := funext fun i => Fl.add_self _
theorem padd_zero (p : Ser K) : padd p pz = p := funext fun i => Fl.add_zero _
theorem padd_cancel {p q : Ser K} (h : padd p q = pz) : p = q := funext fun i => add_cancel (congrFun h i)
theorem padd_back (p q : Ser K) : padd (padd p q) q = p := by rw [padd_assoc, padd_self, padd_zero]
theorem cv_add_left (p q r : Ser K) : ∀ n, cv (padd p q) r n = cv p r n + cv q r n := by
  intro n
  induction n generalizing p q with
  | zero => exact add_mul _ _ _
  | succ n ih =>
    show (p 0 + q 0) * r (n + 1) + cv (padd (tl p) (tl q)) r n = _
    rw [ih, add_mul, add_xx]; rfl
theorem cv_sm_left (a : K) (p q : Ser K) : ∀ n, cv (psm a p) q n = a * cv p q n := by
  intro n
  induction n generalizing p with
  | zero => exact Fl.mul_assoc _ _ _
  | succ n ih =>
    show a * p 0 * q (n + 1) + cv (psm a (tl p)) q n = a * (p 0 * q (n + 1) + cv (tl p) q n)
    rw [ih, Fl.mul_add, Fl.mul_assoc]
theorem cv_zero_left (q : Ser K) : ∀ n, cv pz q n = 0 := by
  intro n
  induction n with
  | zero => exact zero_mul _
  | succ n ih =>
    show 0 * q (n + 1) + cv pz q n = 0
    rw [ih, zero_mul, Fl.add_zero]
theorem cv_right (p q : Ser K) : ∀ n, cv p q (n + 1) = cv p (tl q) n + p (n + 1) * q 0 := by
  intro n
  induction n generalizing p with
  | zero => rfl
  | succ n ih =>
    show p 0 * q (n + 1 + 1) + cv (tl p) q (n + 1) = (p 0 * q (n + 1 + 1) + cv (tl p) (tl q) n) + p (n + 1 + 1) * q 0
    rw [ih, Fl.add_assoc]; rfl
theorem cv_comm (p q : Ser K) : cv p q = cv q p := by
  funext n
  induction n generalizing p q with
  | zero => exact Fl.mul_comm _ _
  | succ n ih =>
    rw [cv_right q p n, ← ih (tl p) q]
    show p 0 * q (n + 1) + cv (tl p) q n = _
    rw [Fl.add_comm, Fl.mul_comm (p 0)]
theorem cv_assoc (p q r : Ser K) : cv (cv p q) r = cv p (cv q r) := by
  funext n
  induction n generalizing p q r with
  | zero => exact Fl.mul_assoc _ _ _
  | succ n ih =>
    have ht : tl (cv p q) = padd (psm (p 0) (tl q)) (cv (tl p) q) := rfl
    show p 0 * q 0 * r (n + 1) + cv (tl (cv p q)) r n = p 0 * (q 0 * r (n + 1) + cv (tl q) r n) + cv (tl p) (cv q r) n
    rw [ht, cv_add_left, cv_sm_left, ih, Fl.mul_add, Fl.mul_assoc, Fl.add_assoc]
theorem cv_add (p q r : Ser K) : cv (padd p q) r = padd (cv p r) (cv q r) := funext fun n => cv_add_left p q r n
theorem cv_zero (q : Ser K) : cv pz q = pz := funext fun n => cv_zero_left q n
theorem zero_cv (q : Ser K) : cv q pz = pz := by rw [cv_comm, cv_zero]
def pone : Ser K := fun i => if i = 0 then 1 else 0
theorem tl_pone : tl (pone : Ser K) = pz := funext fun i => by show (if i + 1 = 0 then (1 : K) else 0) = 0; rw [if_neg (by omega)]
theorem one_cv (q : Ser K) : cv pone q = q := by
  funext n
  cases n with
  | zero => exact one_mul _
  | succ n =>
    show (1 : K) * q (n + 1) + cv (tl pone) q n = _
    rw [tl_pone, cv_zero_left, one_mul, Fl.add_zero]
/-- from n on nothing. -/
def Bd (p : Ser K) (n : Nat) : Prop := ∀ i, n ≤ i → p i = 0
theorem Bd.mono {p : Ser K} {n m : Nat} (h : Bd p n) (hm : n ≤ m) : Bd p m := fun i hi => h i (by omega)
theorem Bd.add {p q : Ser K} {n : Nat} (h : Bd p n) (k : Bd q n) : Bd (padd p q) n := fun i hi => by show p i + q i = 0; rw [h i hi, k i hi, Fl.add_zero]
theorem Bd.tl {p : Ser K} {n : Nat} (h : Bd p (n + 1)) : Bd (tl p) n := fun i hi => h (i + 1) (by omega)
theorem Bd.zero {p : Ser K} (h : Bd p 0) : p = pz := funext fun i => h i (Nat.zero_le _)
theorem bd_pz (n : Nat) : Bd (pz : Ser K) n := fun _ _ => rfl
/-- the highest one. -/
theorem cv_top (p q : Ser K) (d e : Nat) (hp : Bd p (d + 1)) (hq : Bd q (e + 1)) : cv p q (d + e) = p d * q e ∧ Bd (cv p q) (d + e + 1) := by
  induction d generalizing p with
  | zero =>
    have ht : tl p = pz := Bd.zero hp.tl
    constructor
    · rw [Nat.zero_add]
      cases e with
      | zero => rfl
      | succ e =>
        show p 0 * q (e + 1) + cv (tl p) q e = _
        rw [ht, cv_zero_left, Fl.add_zero]
    · intro i hi
      cases i with
      | zero => omega
      | succ i =>
        show p 0 * q (i + 1) + cv (tl p) q i = 0
        rw [ht, cv_zero_left, hq (i + 1) (by omega), mul_zero, Fl.add_zero]
  | succ d ih =>
    obtain ⟨h1, h2⟩ := ih (tl p) hp.tl
    constructor
    · rw [show d + 1 + e = d + e + 1 by omega]
      show p 0 * q (d + e + 1) + cv (tl p) q (d + e) = _
      rw [h1, hq (d + e + 1) (by omega), mul_zero, zero_add]; rfl
    · intro i hi
      cases i with
      | zero => omega
      | succ i =>
        show p 0 * q (i + 1) + cv (tl p) q i = 0
        rw [h2 i (by omega), hq (i + 1) (by omega), mul_zero, Fl.add_zero]
/-- of degree d. -/
def Dg (p : Ser K) (d : Nat) : Prop := p d ≠ 0 ∧ Bd p (d + 1)
theorem Dg.mul {p q : Ser K} {d e : Nat} (h : Dg p d) (k : Dg q e) : Dg (cv p q) (d + e) := by
  obtain ⟨h1, h2⟩ := cv_top p q d e h.2 k.2
  exact ⟨by rw [h1]; exact mul_ne h.1 k.1, h2⟩
theorem Dg.eq {p : Ser K} {d e : Nat} (h : Dg p d) (k : Dg p e) : d = e := by
  rcases Nat.lt_trichotomy d e with h1 | h1 | h1
  · exact absurd (h.2 e h1) k.1
  · exact h1
  · exact absurd (k.2 d h1) h.1
theorem dg_or {p : Ser K} : ∀ {n : Nat}, Bd p n → p = pz ∨ ∃ d, d < n ∧ Dg p d
  | 0, h => Or.inl h.zero
  | n + 1, h => by
    by_cases h0 : p n = 0
    · have hb : Bd p n := fun i hi => by
        by_cases e : i = n
        · rw [e]; exact h0
        · exact h i (by omega)
      rcases dg_or hb with h1 | ⟨d, h1, h2⟩
      · exact Or.inl h1
      · exact Or.inr ⟨d, by omega, h2⟩
    · exact Or.inr ⟨n, by omega, h0, h⟩
theorem Dg.ne {p : Ser K} {d : Nat} (h : Dg p d) : p ≠ pz := fun e => h.1 (by rw [e]; rfl)
theorem Dg.lt {p : Ser K} {d n : Nat} (h : Dg p d) (hb : Bd p n) : d < n := Classical.byContradiction fun h0 => h.1 (hb d (by omega))
theorem bd_cv {p q : Ser K} {m n : Nat} (hp : Bd p m) (hq : Bd q n) : Bd (cv p q) (m + n - 1) := by
  cases m with
  | zero => rw [hp.zero, cv_zero]; exact bd_pz _
  | succ d =>
    cases n with
    | zero => rw [hq.zero, zero_cv]; exact bd_pz _
    | succ e => exact (cv_top p q d e hp hq).2.mono (by omega)
/-- c x^s. -/
def mono (s : Nat) (c : K) : Ser K := fun i => if i = s then c else 0
theorem cv_mono (s : Nat) (c : K) (q : Ser K) : ∀ n, cv (mono s c) q n = if n < s then 0 else c * q (n - s) := by
  intro n
  induction s generalizing n with
  | zero =>
    rw [if_neg (by omega)]
    have ht : tl (mono 0 c) = pz := funext fun i => by show (if i + 1 = 0 then c else 0) = 0; rw [if_neg (by omega)]
    cases n with
    | zero => rfl
    | succ n =>
      show c * q (n + 1) + cv (tl (mono 0 c)) q n = _
      rw [ht, cv_zero_left, Fl.add_zero]; rfl
  | succ s ih =>
    have ht : tl (mono (s + 1) c) = mono s c := funext fun i => by show (if i + 1 = s + 1 then c else 0) = if i = s then c else 0; simp
    cases n with
    | zero => rw [if_pos (by omega)]; exact zero_mul _
    | succ n =>
      show (0 : K) * q (n + 1) + cv (tl (mono (s + 1) c)) q n = _
      rw [ht, ih, zero_mul, zero_add]
      by_cases h : n < s
      · rw [if_pos h, if_pos (by omega)]
      · rw [if_neg h, if_neg (by omega), show n + 1 - (s + 1) = n - s by omega]
/-- quotient and rest. -/
structure Dv2 (p q a r : Ser K) (e : Nat) : Prop where
  sum : p = padd (cv a q) r
  fin : ∃ n, Bd a n
  low : Bd r e
/-- c divides p. -/
def PD (c p : Ser K) : Prop := ∃ a n, Bd a n ∧ p = cv a c
theorem PD.zero (c : Ser K) : PD c pz := ⟨pz, 0, bd_pz 0, (cv_zero c).symm⟩
theorem bd_one : Bd (pone : Ser K) 1 := fun i hi => if_neg (by omega)
theorem PD.refl (c : Ser K) : PD c c := ⟨pone, 1, bd_one, (one_cv c).symm⟩
theorem PD.add {c p q : Ser K} (h : PD c p) (k : PD c q) : PD c (padd p q) := by
  obtain ⟨a, n, ha, rfl⟩ := h
  obtain ⟨b, m, hb, rfl⟩ := k
  exact ⟨padd a b, max n m, (ha.mono (by omega)).add (hb.mono (by omega)), (cv_add a b c).symm⟩
theorem PD.mul {c p : Ser K} (h : PD c p) {a : Ser K} {n : Nat} (ha : Bd a n) : PD c (cv a p) := by
  obtain ⟨b, m, hb, rfl⟩ := h
  exact ⟨cv a b, n + m - 1, bd_cv ha hb, (cv_assoc a b c).symm⟩
theorem PD.trans {a b c : Ser K} (h : PD a b) (k : PD b c) : PD a c := by
  obtain ⟨x, n, hx, rfl⟩ := k
  exact h.mul hx
theorem PD.rest {c p q a r : Ser K} {e : Nat} (hd : Dv2 p q a r e) (hp : PD c p) (hq : PD c q) : PD c r := by
  obtain ⟨n, hn⟩ := hd.fin
  have : r = padd p (cv a q) := by rw [hd.sum, padd_comm (cv a q), padd_back]
  rw [this]
  exact hp.add (hq.mul hn)
theorem PD.whole {c p q a r : Ser K} {e : Nat} (hd : Dv2 p q a r e) (hq : PD c q) (hr : PD c r) : PD c p := by
  obtain ⟨n, hn⟩ := hd.fin
  rw [hd.sum]
  exact (hq.mul hn).add hr
/-- two that divide each other, both with the highest coefficient 1. -/
theorem PD.antisymm {p q : Ser K} {d e : Nat} (hp : Dg p d) (hq : Dg q e) (h : PD p q) (k : PD q p) (h1 : p d = 1) (h2 : q e = 1) : p = q := by
  obtain ⟨a, n, ha, hqa⟩ := h
  obtain ⟨b, m, hb, hpb⟩ := k
  have a0 : a ≠ pz := by intro h0; rw [h0, cv_zero] at hqa; exact hq.ne hqa
  have b0 : b ≠ pz := by intro h0; rw [h0, cv_zero] at hpb; exact hp.ne hpb
  obtain ⟨x, _, hx⟩ := (dg_or ha).resolve_left a0
  obtain ⟨y, _, hy⟩ := (dg_or hb).resolve_left b0
  have e1 := (hx.mul hp)
  rw [← hqa] at e1
  have e2 := (hy.mul hq)
  rw [← hpb] at e2
  have f1 := e1.eq hq
  have f2 := e2.eq hp
  obtain rfl : x = 0 := by omega
  obtain rfl : d = e := by omega
  have h3 := (cv_top a p 0 d hx.2 hp.2).1
  rw [Nat.zero_add, ← hqa, h1, h2, Fl.mul_one] at h3
  have : a = pone := by
    funext i
    cases i with
    | zero => exact h3.symm
    | succ i => rw [hx.2 (i + 1) (by omega)]; exact (if_neg (by omega)).symm
  rw [hqa, this, one_cv]
/-- g is a greatest common divisor. -/
def PG (p q g : Ser K) : Prop := PD g p ∧ PD g q ∧ ∀ c, PD c p → PD c q → PD c g
theorem PG.step {p q a r g : Ser K} {e : Nat} (hd : Dv2 p q a r e) (h : PG q r g) : PG p q g :=
  ⟨PD.whole hd h.1 h.2.1, h.1, fun c hp hq => h.2.2 c hq (PD.rest hd hp hq)⟩
theorem PG.unique {p q g k : Ser K} {d e : Nat} (hg : Dg g d) (hk : Dg k e) (h : PG p q g) (h' : PG p q k) (h1 : g d = 1) (h2 : k e = 1) : g = k :=
  PD.antisymm hg hk (h'.2.2 g h.1 h.2.1) (h.2.2 k h'.1 h'.2.1) h1 h2
/-- the value at x of the first n. -/
def ev : Nat → Ser K → K → K
  | 0, _, _ => 0
  | n + 1, p, x => p 0 + x * ev n (tl p) x
theorem ev_zero (x : K) : ∀ n, ev n (pz : Ser K) x = 0
  | 0 => rfl
  | n + 1 => by
    show (0 : K) + x * ev n pz x = 0
    rw [ev_zero x n, mul_zero, Fl.add_zero]
theorem ev_more (x : K) : ∀ (n m : Nat) (p : Ser K), Bd p n → n ≤ m → ev m p x = ev n p x
  | 0, m, p, h, _ => by rw [h.zero, ev_zero]; rfl
  | n + 1, 0, p, h, hm => by omega
  | n + 1, m + 1, p, h, hm => by
    show p 0 + x * ev m (tl p) x = p 0 + x * ev n (tl p) x
    rw [ev_more x n m (tl p) h.tl (by omega)]
theorem ev_add (x : K) : ∀ (n : Nat) (p q : Ser K), ev n (padd p q) x = ev n p x + ev n q x
  | 0, p, q => (Fl.add_zero _).symm
  | n + 1, p, q => by
    show (p 0 + q 0) + x * ev n (padd (tl p) (tl q)) x = (p 0 + x * ev n (tl p) x) + (q 0 + x * ev n (tl q) x)
    rw [ev_add x n, Fl.mul_add, add_xx]
theorem ev_sm (x a : K) : ∀ (n : Nat) (p : Ser K), ev n (psm a p) x = a * ev n p x
  | 0, p => (mul_zero a).symm
  | n + 1, p => by
    show a * p 0 + x * ev n (psm a (tl p)) x = a * (p 0 + x * ev n (tl p) x)
    rw [ev_sm x a n, Fl.mul_add, ← Fl.mul_assoc, ← Fl.mul_assoc, Fl.mul_comm a x]
theorem ev_cv (x : K) : ∀ (m n N : Nat) (p q : Ser K), Bd p m → Bd q n → m + n ≤ N → ev N (cv p q) x = ev m p x * ev n q x
  | 0, n, N, p, q, hp, hq, _ => by rw [hp.zero, cv_zero, ev_zero]; exact (zero_mul _).symm
  | m + 1, n, 0, p, q, hp, hq, h => by omega
  | m + 1, n, N + 1, p, q, hp, hq, h => by
    have ht : tl (cv p q) = padd (psm (p 0) (tl q)) (cv (tl p) q) := rfl
    show p 0 * q 0 + x * ev N (tl (cv p q)) x = (p 0 + x * ev m (tl p) x) * ev n q x
    rw [ht, ev_add, ev_sm, ev_cv x m n N (tl p) q hp.tl hq (by omega), add_mul]
    have e : ev n q x = q 0 + x * ev N (tl q) x := by
      rw [← ev_more x n (N + 1) q hq (by omega)]; rfl
    have : p 0 * q 0 + x * (p 0 * ev N (tl q) x) = p 0 * ev n q x := by
      rw [e, Fl.mul_add]
      congr 1
      ac_rfl
    rw [Fl.mul_assoc, Fl.mul_add, ← Fl.add_assoc, this]
/-- x + a divides what is 0 at a. -/
def lin (a : K) : Ser K := fun i => if i = 0 then a else if i = 1 then 1 else 0
theorem lin_dg (a : K) : Dg (lin a) 1 := ⟨by show (if (1 : Nat) = 0 then a else if (1 : Nat) = 1 then (1 : K) else 0) ≠ 0; simp; exact Fl.one_ne, fun i hi => by show (if i = 0 then a else if i = 1 then (1 : K) else 0) = 0; rw [if_neg (by omega), if_neg (by omega)]⟩
theorem ev_lin (a x : K) : ev 2 (lin a) x = a + x := by
  show lin a 0 + x * (lin a 1 + x * 0) = a + x
  rw [mul_zero, Fl.add_zero]
  show a + x * 1 = a + x
  rw [Fl.mul_one]
end
end Go.Proofs.YtdhcigiaidlmbaaGreatDoor.Pl
/- The mathematics of the fields of 2^m elements, m from 3 to 14, by doubling. No program is named here. By the verifier of shale. -/
namespace Go.Proofs.YtdhcigiaidlmbaaGreatDoor.Fld
set_option linter.unusedVariables false
/-- the polynomials. -/
def poly : Nat → BitVec 16
  | 3 => 0xB | 4 => 0x13 | 5 => 0x25 | 6 => 0x43 | 7 => 0x89 | 8 => 0x11D | 9 => 0x211 | 10 => 0x409 | 11 => 0x805 | 12 => 0x1053 | 13 => 0x201B | 14 => 0x4443 | _ => 0
/-- two times a. -/
def dbl (m : Nat) (a : BitVec 16) : BitVec 16 := if (a <<< 1) >>> m = 0 then a <<< 1 else (a <<< 1) ^^^ poly m
/-- that n times. -/
def dbls (m : Nat) : Nat → BitVec 16 → BitVec 16
  | 0, a => a
  | n + 1, a => dbls m n (dbl m a)
theorem dbls_add (m i n : Nat) : ∀ a, dbls m i (dbls m n a) = dbls m (n + i) a := by
  induction n with
  | zero => intro a; simp [dbls]
  | succ n ih => intro a; rw [show n + 1 + i = (n + i) + 1 by omega]; simp only [dbls]; exact ih _
theorem dbls_succ (m n : Nat) (a : BitVec 16) : dbls m (n + 1) a = dbl m (dbls m n a) := by
  have := dbls_add m 1 n a
  rw [← this]; rfl
/-- the powers of 2. -/
def pw (m n : Nat) : BitVec 16 := dbls m n 1
theorem pw_succ (m n : Nat) : pw m (n + 1) = dbl m (pw m n) := dbls_succ m n 1
theorem pw_add (m n k : Nat) : pw m (n + k) = dbls m k (pw m n) := (dbls_add m k n 1).symm
/-- how many elements there are but 0. -/
def size (m : Nat) : Nat := 2 ^ m - 1
/-! the same on naturals, for the kernel -/
def polyN (m : Nat) : Nat := (poly m).toNat
def dblN (m a : Nat) : Nat := if a * 2 / 2 ^ m % 2 = 0 then a * 2 else (a * 2) ^^^ polyN m
/-- runs n doublings from a on, so long as they stay off 1 and below 2^m; 0 else. -/
noncomputable def run (m : Nat) (n : Nat) : Nat → Nat := Nat.rec (fun a => a) (fun _ ih a => if dblN m a = 1 then 0 else if 2 ^ m ≤ dblN m a then 0 else if dblN m a = 0 then 0 else ih (dblN m a)) n
theorem dbl_toNat (m : Nat) (hm : 3 ≤ m) (hm2 : m ≤ 14) (a : BitVec 16) (ha : a.toNat < 2 ^ m) : (dbl m a).toNat = dblN m a.toNat := by
  have h2 : 2 ^ m ≤ 2 ^ 14 := Nat.pow_le_pow_right (by decide) hm2
  have e1 : (a <<< 1).toNat = a.toNat * 2 := by
    rw [BitVec.toNat_shiftLeft, Nat.shiftLeft_eq, Nat.pow_one]; omega
  have h3 : a.toNat * 2 / 2 ^ m < 2 := Nat.div_lt_of_lt_mul (by omega)
  have e2 : ((a <<< 1) >>> m).toNat = a.toNat * 2 / 2 ^ m := by
    rw [BitVec.toNat_ushiftRight, e1, Nat.shiftRight_eq_div_pow]
  unfold dbl dblN
  by_cases h : (a <<< 1) >>> m = 0
  · rw [if_pos h, if_pos (by rw [← e2, h]; rfl), e1]
  · rw [if_neg h, if_neg]
    · rw [BitVec.toNat_xor, e1]; rfl
    · intro h4
      apply h
      apply BitVec.eq_of_toNat_eq
      rw [e2]
      show _ = 0
      omega
theorem run_spec (m : Nat) (hm : 3 ≤ m) (hm2 : m ≤ 14) : ∀ (n : Nat) (x : BitVec 16), x.toNat < 2 ^ m → run m n x.toNat ≠ 0 →
    run m n x.toNat = (dbls m n x).toNat ∧ ∀ d, 0 < d → d ≤ n → dbls m d x ≠ 1 ∧ dbls m d x ≠ 0 ∧ (dbls m d x).toNat < 2 ^ m
  | 0, x, _, _ => ⟨rfl, fun d h1 h2 => by omega⟩
  | n + 1, x, hx, h => by
    have e : run m (n + 1) x.toNat = if dblN m x.toNat = 1 then 0 else if 2 ^ m ≤ dblN m x.toNat then 0 else if dblN m x.toNat = 0 then 0 else run m n (dblN m x.toNat) := rfl
    rw [e] at h ⊢
    by_cases hc : dblN m x.toNat = 1
    · rw [if_pos hc] at h; exact absurd rfl h
    · rw [if_neg hc] at h ⊢
      by_cases hc2 : 2 ^ m ≤ dblN m x.toNat
      · rw [if_pos hc2] at h; exact absurd rfl h
      · rw [if_neg hc2] at h ⊢
        by_cases hc3 : dblN m x.toNat = 0
        · rw [if_pos hc3] at h; exact absurd rfl h
        · rw [if_neg hc3] at h ⊢
          rw [← dbl_toNat m hm hm2 x hx] at h hc hc2 hc3 ⊢
          obtain ⟨r1, r2⟩ := run_spec m hm hm2 n (dbl m x) (by omega) h
          refine ⟨r1, fun d h1 h2 => ?_⟩
          obtain ⟨d, rfl⟩ : ∃ k, d = k + 1 := ⟨d - 1, by omega⟩
          by_cases h0 : d = 0
          · subst h0
            refine ⟨fun hv => hc ?_, fun hv => hc3 ?_, by simp only [dbls]; omega⟩
            · simp only [dbls] at hv; rw [hv]; rfl
            · simp only [dbls] at hv; rw [hv]; rfl
          · exact r2 d (by omega) (by omega)
/-- For each m: the powers of 2 stay off 1 and 0 for 2^m - 2 steps, and are 1 behind one more. -/
def good (m : Nat) : Prop := run m (2 ^ m - 2) 1 ≠ 0 ∧ dblN m (run m (2 ^ m - 2) 1) = 1
theorem good_all : ∀ m, 3 ≤ m → m ≤ 14 → good m := by
  have key : ∀ m, (run m (2 ^ m - 2) 1 != 0 && dblN m (run m (2 ^ m - 2) 1) == 1) = true → good m := by
    intro m h
    unfold good
    simpa using h
  intro m h1 h2
  apply key
  rcases (by omega : m = 3 ∨ m = 4 ∨ m = 5 ∨ m = 6 ∨ m = 7 ∨ m = 8 ∨ m = 9 ∨ m = 10 ∨ m = 11 ∨ m = 12 ∨ m = 13 ∨ m = 14) with rfl | rfl | rfl | rfl | rfl | rfl | rfl | rfl | rfl | rfl | rfl | rfl
  all_goals kernel_rfl
theorem two_le (m : Nat) (h : 3 ≤ m) : 8 ≤ 2 ^ m := Nat.pow_le_pow_right (n := 2) (by decide) h
theorem pw_off (m : Nat) (h1 : 3 ≤ m) (h2 : m ≤ 14) (d : Nat) (h0 : 0 < d) (hd : d < size m) : pw m d ≠ 1 ∧ pw m d ≠ 0 ∧ (pw m d).toNat < 2 ^ m := by
  have := two_le m h1
  exact (run_spec m h1 h2 (2 ^ m - 2) 1 (by show 1 < _; omega) (good_all m h1 h2).1).2 d h0 (by unfold size at hd; omega)
theorem pw_end (m : Nat) (h1 : 3 ≤ m) (h2 : m ≤ 14) : pw m (size m) = 1 := by
  have h8 := two_le m h1
  have hg := good_all m h1 h2
  have hs := (run_spec m h1 h2 (2 ^ m - 2) 1 (by show 1 < _; omega) hg.1)
  have hlt := (hs.2 (2 ^ m - 2) (by omega) (Nat.le_refl _)).2.2
  have e : size m = (2 ^ m - 2) + 1 := by unfold size; omega
  rw [e, pw_succ]
  apply BitVec.eq_of_toNat_eq
  show (dbl m (dbls m (2 ^ m - 2) 1)).toNat = 1
  rw [dbl_toNat m h1 h2 _ hlt]
  show dblN m (dbls m (2 ^ m - 2) 1).toNat = 1
  rw [← hs.1]
  exact hg.2
theorem size_pos (m : Nat) (h1 : 3 ≤ m) : 7 ≤ size m := by have := two_le m h1; unfold size; omega
/-- doubling behind a whole round. -/
theorem pw_mod (m : Nat) (h1 : 3 ≤ m) (h2 : m ≤ 14) (n : Nat) : pw m n = pw m (n % size m) := by
  have hs := size_pos m h1
  have key : ∀ k r, pw m (size m * k + r) = pw m r := by
    intro k
    induction k with
    | zero => intro r; simp
    | succ k ih =>
      intro r
      rw [show size m * (k + 1) + r = size m + (size m * k + r) by rw [Nat.mul_succ]; omega, pw_add, pw_end m h1 h2]
      exact ih r
  rw [← Nat.div_add_mod n (size m), key]
  simp
theorem pw_ne (m : Nat) (h1 : 3 ≤ m) (h2 : m ≤ 14) (n : Nat) : pw m n ≠ 0 ∧ (pw m n).toNat < 2 ^ m := by
  have hs := size_pos m h1
  have h8 := two_le m h1
  rw [pw_mod m h1 h2 n]
  by_cases h0 : n % size m = 0
  · rw [h0]; exact ⟨by show (1 : BitVec 16) ≠ 0; decide, by show 1 < _; omega⟩
  · exact (pw_off m h1 h2 _ (by omega) (Nat.mod_lt _ (by omega))).2
theorem pw_apart (m : Nat) (h1 : 3 ≤ m) (h2 : m ≤ 14) (i j : Nat) (hij : i < j) (hj : j < size m) : pw m i ≠ pw m j := by
  intro e
  have hs := size_pos m h1
  have := congrArg (dbls m (size m - j)) e
  rw [← pw_add, ← pw_add, show j + (size m - j) = size m by omega, pw_end m h1 h2] at this
  exact (pw_off m h1 h2 (i + (size m - j)) (by omega) (by omega)).1 this
theorem pw_inj (m : Nat) (h1 : 3 ≤ m) (h2 : m ≤ 14) (i j : Nat) (hi : i < size m) (hj : j < size m) (e : pw m i = pw m j) : i = j := by
  rcases Nat.lt_trichotomy i j with h | h | h
  · exact absurd e (pw_apart m h1 h2 i j h hj)
  · exact h
  · exact absurd e.symm (pw_apart m h1 h2 j i h hi)
end Go.Proofs.YtdhcigiaidlmbaaGreatDoor.Fld
/- The algebra of the fields of 2^m elements: products by bits, by logarithms; their laws. No program is named here. By the verifier of shale. -/
namespace Go.Proofs.YtdhcigiaidlmbaaGreatDoor.Fld
set_option linter.unusedVariables false
theorem poly_in_range (m : Nat) (h1 : 3 ≤ m) (h2 : m ≤ 14) : 2 ^ m ≤ (poly m).toNat ∧ (poly m).toNat < 2 ^ (m + 1) := by
  rcases (by omega : m = 3 ∨ m = 4 ∨ m = 5 ∨ m = 6 ∨ m = 7 ∨ m = 8 ∨ m = 9 ∨ m = 10 ∨ m = 11 ∨ m = 12 ∨ m = 13 ∨ m = 14) with rfl | rfl | rfl | rfl | rfl | rfl | rfl | rfl | rfl | rfl | rfl | rfl
  all_goals decide
theorem pow14 (m : Nat) (h2 : m ≤ 14) : 2 ^ m ≤ 16384 := (Nat.pow_le_pow_right (n := 2) (by decide) h2 : 2 ^ m ≤ 2 ^ 14)
theorem xor_top (m x y : Nat) (h : x / 2 ^ m = y / 2 ^ m) : x ^^^ y < 2 ^ m := by
  have e : (x ^^^ y) / 2 ^ m = 0 := by
    rw [← Nat.shiftRight_eq_div_pow, Nat.shiftRight_xor_distrib, Nat.shiftRight_eq_div_pow, Nat.shiftRight_eq_div_pow, h, Nat.xor_self]
  have := Nat.two_pow_pos m
  exact (Nat.div_eq_zero_iff_lt this).1 e
theorem xor_lt (m : Nat) (a b : BitVec 16) (ha : a.toNat < 2 ^ m) (hb : b.toNat < 2 ^ m) : (a ^^^ b).toNat < 2 ^ m := by
  rw [BitVec.toNat_xor]; exact Nat.xor_lt_two_pow ha hb
theorem dbl_lt (m : Nat) (h1 : 3 ≤ m) (h2 : m ≤ 14) (a : BitVec 16) (ha : a.toNat < 2 ^ m) : (dbl m a).toNat < 2 ^ m := by
  rw [dbl_toNat m h1 h2 a ha]
  have hp := poly_in_range m h1 h2
  have e2 : 2 ^ (m + 1) = 2 * 2 ^ m := by rw [Nat.pow_succ, Nat.mul_comm]
  have h3 : a.toNat * 2 / 2 ^ m < 2 := Nat.div_lt_of_lt_mul (by omega)
  unfold dblN
  by_cases h : a.toNat * 2 / 2 ^ m % 2 = 0
  · rw [if_pos h]
    have : a.toNat * 2 / 2 ^ m = 0 := by
      generalize a.toNat * 2 / 2 ^ m = q at h h3
      omega
    exact (Nat.div_eq_zero_iff_lt (Nat.two_pow_pos m)).1 this
  · rw [if_neg h]
    apply xor_top
    have l : a.toNat * 2 / 2 ^ m = 1 := by
      generalize a.toNat * 2 / 2 ^ m = q at h h3
      omega
    have r : polyN m / 2 ^ m = 1 := by
      unfold polyN
      have a1 : (poly m).toNat / 2 ^ m < 2 := Nat.div_lt_of_lt_mul (by omega)
      have a2 : 1 ≤ (poly m).toNat / 2 ^ m := (Nat.le_div_iff_mul_le (Nat.two_pow_pos m)).2 (by omega)
      omega
    rw [l, r]
/-- doubling, its test being one bit. -/
theorem dbl_bit (m : Nat) (h1 : 3 ≤ m) (h2 : m ≤ 14) (a : BitVec 16) (ha : a.toNat < 2 ^ m) : dbl m a = (a <<< 1) ^^^ (if a.getLsbD (m - 1) then poly m else 0) := by
  have hm := pow14 m h2
  have e1 : (a <<< 1).toNat = a.toNat * 2 := by
    rw [BitVec.toNat_shiftLeft, Nat.shiftLeft_eq, Nat.pow_one]; omega
  have e2 : ((a <<< 1) >>> m).toNat = a.toNat * 2 / 2 ^ m := by
    rw [BitVec.toNat_ushiftRight, e1, Nat.shiftRight_eq_div_pow]
  have e3 : 2 ^ m = 2 * 2 ^ (m - 1) := by
    obtain ⟨k, rfl⟩ : ∃ k, m = k + 1 := ⟨m - 1, by omega⟩
    rw [Nat.pow_succ, Nat.mul_comm]; rfl
  have e4 : a.toNat * 2 / 2 ^ m = a.toNat / 2 ^ (m - 1) := by
    rw [e3, Nat.mul_comm a.toNat 2, Nat.mul_div_mul_left _ _ (by decide)]
  have h3 : a.toNat / 2 ^ (m - 1) < 2 := Nat.div_lt_of_lt_mul (by omega)
  have hb : a.getLsbD (m - 1) = decide (a.toNat / 2 ^ (m - 1) % 2 = 1) := by
    rw [BitVec.getLsbD, Nat.testBit_eq_decide_div_mod_eq]
  unfold dbl
  by_cases h : (a <<< 1) >>> m = 0
  · have h0 : a.toNat / 2 ^ (m - 1) = 0 := by rw [← e4, ← e2, h]; rfl
    rw [if_pos h, hb, h0]
    simp
  · have h0 : a.toNat / 2 ^ (m - 1) = 1 := by
      have : a.toNat / 2 ^ (m - 1) ≠ 0 := by
        intro h4
        apply h
        apply BitVec.eq_of_toNat_eq
        rw [e2, e4]
        exact h4
      omega
    rw [if_neg h, hb, h0]
    simp
theorem dbl_xor (m : Nat) (h1 : 3 ≤ m) (h2 : m ≤ 14) (a b : BitVec 16) (ha : a.toNat < 2 ^ m) (hb : b.toNat < 2 ^ m) : dbl m (a ^^^ b) = dbl m a ^^^ dbl m b := by
  rw [dbl_bit m h1 h2 _ (xor_lt m a b ha hb), dbl_bit m h1 h2 a ha, dbl_bit m h1 h2 b hb, BitVec.shiftLeft_xor_distrib, BitVec.getLsbD_xor]
  generalize a <<< 1 = x
  generalize b <<< 1 = y
  cases a.getLsbD (m - 1) <;> cases b.getLsbD (m - 1)
  · simp
  · simp [BitVec.xor_assoc]
  · simp [BitVec.xor_assoc]; rw [BitVec.xor_comm (poly m) y]
  · simp only [Bool.bne_true, Bool.not_true, Bool.false_eq_true, if_false, if_true]
    rw [show x ^^^ poly m ^^^ (y ^^^ poly m) = x ^^^ y ^^^ (poly m ^^^ poly m) by
      rw [BitVec.xor_assoc, BitVec.xor_assoc, ← BitVec.xor_assoc (poly m) y, BitVec.xor_comm (poly m) y, BitVec.xor_assoc y]]
    rw [BitVec.xor_self]; rfl
theorem dbl_zero (m : Nat) (h1 : 3 ≤ m) (h2 : m ≤ 14) : dbl m 0 = 0 := by
  rw [dbl_bit m h1 h2 0 (by show 0 < _; exact Nat.two_pow_pos m)]
  simp
theorem dbls_xor (m : Nat) (h1 : 3 ≤ m) (h2 : m ≤ 14) : ∀ (n : Nat) (a b : BitVec 16), a.toNat < 2 ^ m → b.toNat < 2 ^ m → dbls m n (a ^^^ b) = dbls m n a ^^^ dbls m n b
  | 0, a, b, _, _ => rfl
  | n + 1, a, b, ha, hb => by
    simp only [dbls]
    rw [dbl_xor m h1 h2 a b ha hb]
    exact dbls_xor m h1 h2 n _ _ (dbl_lt m h1 h2 a ha) (dbl_lt m h1 h2 b hb)
theorem dbls_zero (m : Nat) (h1 : 3 ≤ m) (h2 : m ≤ 14) : ∀ n, dbls m n 0 = 0
  | 0 => rfl
  | n + 1 => by simp only [dbls]; rw [dbl_zero m h1 h2]; exact dbls_zero m h1 h2 n

/-- the product by bits: n bits of b are looked at. -/
def mulN (m : Nat) : Nat → BitVec 16 → BitVec 16 → BitVec 16
  | 0, _, _ => 0
  | n + 1, a, b => (if b.getLsbD 0 then a else 0) ^^^ mulN m n (dbl m a) (b >>> 1)
/-- the product. -/
def fmul (m : Nat) (a b : BitVec 16) : BitVec 16 := mulN m 16 a b
theorem mulN_lt (m : Nat) (h1 : 3 ≤ m) (h2 : m ≤ 14) : ∀ (n : Nat) (a b : BitVec 16), a.toNat < 2 ^ m → (mulN m n a b).toNat < 2 ^ m
  | 0, a, b, _ => by show 0 < _; exact Nat.two_pow_pos m
  | n + 1, a, b, ha => by
    simp only [mulN]
    apply xor_lt
    · split
      · exact ha
      · show 0 < _; exact Nat.two_pow_pos m
    · exact mulN_lt m h1 h2 n _ _ (dbl_lt m h1 h2 a ha)
theorem fmul_lt (m : Nat) (h1 : 3 ≤ m) (h2 : m ≤ 14) (a b : BitVec 16) (ha : a.toNat < 2 ^ m) : (fmul m a b).toNat < 2 ^ m := mulN_lt m h1 h2 16 a b ha
theorem mulN_xor (m : Nat) : ∀ (n : Nat) (a b c : BitVec 16), mulN m n a (b ^^^ c) = mulN m n a b ^^^ mulN m n a c
  | 0, a, b, c => by simp [mulN]
  | n + 1, a, b, c => by
    simp only [mulN]
    rw [BitVec.ushiftRight_xor_distrib, mulN_xor m n, BitVec.getLsbD_xor]
    generalize mulN m n (dbl m a) (b >>> 1) = x
    generalize mulN m n (dbl m a) (c >>> 1) = y
    cases b.getLsbD 0 <;> cases c.getLsbD 0
    · simp
    · simp
      rw [← BitVec.xor_assoc, BitVec.xor_comm a x, BitVec.xor_assoc]
    · simp [BitVec.xor_assoc]
    · simp
      rw [BitVec.xor_comm a x, BitVec.xor_assoc, ← BitVec.xor_assoc a a, BitVec.xor_self, BitVec.zero_xor]
theorem fmul_xor (m : Nat) (a b c : BitVec 16) : fmul m a (b ^^^ c) = fmul m a b ^^^ fmul m a c := mulN_xor m 16 a b c
theorem mulN_zero (m : Nat) : ∀ (n : Nat) (a : BitVec 16), mulN m n a 0 = 0
  | 0, a => rfl
  | n + 1, a => by simp only [mulN]; rw [show (0 : BitVec 16) >>> 1 = 0 by decide, mulN_zero m n]; simp
theorem fmul_zero (m : Nat) (a : BitVec 16) : fmul m a 0 = 0 := mulN_zero m 16 a
theorem zero_mulN (m : Nat) (h1 : 3 ≤ m) (h2 : m ≤ 14) : ∀ (n : Nat) (b : BitVec 16), mulN m n 0 b = 0
  | 0, b => rfl
  | n + 1, b => by simp only [mulN]; rw [dbl_zero m h1 h2, zero_mulN m h1 h2 n]; simp
theorem zero_fmul (m : Nat) (h1 : 3 ≤ m) (h2 : m ≤ 14) (b : BitVec 16) : fmul m 0 b = 0 := zero_mulN m h1 h2 16 b
/-- a power of 2 times b is b so often doubled. -/
theorem mulN_pw (m : Nat) (h1 : 3 ≤ m) (h2 : m ≤ 14) : ∀ (n : Nat) (i : Nat) (b : BitVec 16), b.toNat < 2 ^ m → b.toNat < 2 ^ n → mulN m n (pw m i) b = dbls m i b
  | 0, i, b, _, hb => by
    have : b = 0 := BitVec.eq_of_toNat_eq (by show _ = 0; omega)
    subst this
    rw [dbls_zero m h1 h2]; rfl
  | n + 1, i, b, hm, hb => by
    have hm14 := pow14 m h2
    have e1 : (b >>> 1).toNat = b.toNat / 2 := by rw [BitVec.toNat_ushiftRight, Nat.shiftRight_eq_div_pow]
    have e2 : 2 ^ (n + 1) = 2 * 2 ^ n := by rw [Nat.pow_succ, Nat.mul_comm]
    have e3 : 2 ^ m = 2 * 2 ^ (m - 1) := by
      obtain ⟨k, rfl⟩ : ∃ k, m = k + 1 := ⟨m - 1, by omega⟩
      rw [Nat.pow_succ, Nat.mul_comm]; rfl
    have hlt : (b >>> 1).toNat < 2 ^ m := by omega
    have h8 := two_le m h1
    simp only [mulN]
    rw [← pw_succ, mulN_pw m h1 h2 n (i + 1) (b >>> 1) hlt (by omega)]
    simp only [dbls]
    have hd : dbl m (b >>> 1) = (b >>> 1) <<< 1 := by
      rw [dbl_bit m h1 h2 _ hlt]
      have : (b >>> 1).getLsbD (m - 1) = false := by
        rw [BitVec.getLsbD]
        exact Nat.testBit_lt_two_pow (by omega)
      rw [this]; simp
    rw [hd]
    have hd2 : ((b >>> 1) <<< 1).toNat < 2 ^ m := by rw [← hd]; exact dbl_lt m h1 h2 _ hlt
    have hsplit : b = (if b.getLsbD 0 then 1 else 0 : BitVec 16) ^^^ ((b >>> 1) <<< 1) := by
      apply BitVec.eq_of_getLsbD_eq
      intro j hj
      rw [BitVec.getLsbD_xor]
      by_cases h0 : j = 0
      · subst h0
        cases h : b.getLsbD 0 <;> simp
      · have : ((if b.getLsbD 0 then 1 else 0 : BitVec 16)).getLsbD j = false := by
          split
          · rw [BitVec.getLsbD]
            exact Nat.testBit_lt_two_pow (show 1 < 2 ^ j from Nat.one_lt_two_pow h0)
          · simp
        rw [this]
        obtain ⟨k, rfl⟩ : ∃ k, j = k + 1 := ⟨j - 1, by omega⟩
        rw [BitVec.getLsbD_shiftLeft, BitVec.getLsbD_ushiftRight]
        simp [hj, Nat.add_comm 1 k]
    have h01 : ∀ c : Bool, (if c then pw m i else 0) = dbls m i (if c then 1 else 0) := by
      intro c
      cases c
      · simp only [Bool.false_eq_true, if_false]; rw [dbls_zero m h1 h2]
      · rfl
    have h02 : ∀ c : Bool, ((if c then 1 else 0 : BitVec 16)).toNat < 2 ^ m := by
      intro c
      cases c
      · show 0 < _; omega
      · show 1 < _; omega
    rw [h01, ← dbls_xor m h1 h2 i _ _ (h02 _) hd2, ← hsplit]
theorem fmul_by (m : Nat) (h1 : 3 ≤ m) (h2 : m ≤ 14) (i : Nat) (b : BitVec 16) (hb : b.toNat < 2 ^ m) : fmul m (pw m i) b = dbls m i b := mulN_pw m h1 h2 16 i b hb b.isLt
theorem fmul_pw (m : Nat) (h1 : 3 ≤ m) (h2 : m ≤ 14) (i j : Nat) : fmul m (pw m i) (pw m j) = pw m (i + j) := by
  rw [fmul_by m h1 h2 i _ (pw_ne m h1 h2 j).2, Nat.add_comm, pw_add]
/-- numbers below n that no two of n numbers share are all taken. -/
theorem onto : ∀ (n : Nat) (f : Nat → Nat), (∀ i, i < n → f i < n) → (∀ i j, i < n → j < n → f i = f j → i = j) → ∀ y, y < n → ∃ x, x < n ∧ f x = y
  | 0, _, _, _, y, hy => by omega
  | n + 1, f, hf, hi, y, hy => by
    have hg : ∀ i, i < n → (if f i = n then f n else f i) < n := by
      intro i h
      by_cases h1 : f i = n
      · rw [if_pos h1]
        have := hf n (by omega)
        have h2 : f n ≠ n := fun e => by have := hi i n (by omega) (by omega) (h1.trans e.symm); omega
        omega
      · rw [if_neg h1]; have := hf i (by omega); omega
    have hj : ∀ i j, i < n → j < n → (if f i = n then f n else f i) = (if f j = n then f n else f j) → i = j := by
      intro i j h1 h2 e
      by_cases a : f i = n <;> by_cases b : f j = n
      · exact hi i j (by omega) (by omega) (a.trans b.symm)
      · rw [if_pos a, if_neg b] at e; have := hi n j (by omega) (by omega) e; omega
      · rw [if_neg a, if_pos b] at e; have := hi i n (by omega) (by omega) e; omega
      · rw [if_neg a, if_neg b] at e; exact hi i j (by omega) (by omega) e
    have ih := onto n (fun i => if f i = n then f n else f i) hg hj
    by_cases hyn : y = f n
    · exact ⟨n, by omega, hyn.symm⟩
    · by_cases hy2 : y = n
      · subst hy2
        by_cases hex : ∃ i, i < y ∧ f i = y
        · obtain ⟨i, h1, h2⟩ := hex; exact ⟨i, by omega, h2⟩
        · have hfn : f y < y := by have := hf y (by omega); omega
          obtain ⟨x, h1, h2⟩ := ih (f y) hfn
          by_cases hx : f x = y
          · exact ⟨x, by omega, hx⟩
          · rw [if_neg hx] at h2
            have := hi x y (by omega) (by omega) h2
            omega
      · obtain ⟨x, h1, h2⟩ := ih y (by omega)
        by_cases hx : f x = n
        · rw [if_pos hx] at h2; exact absurd h2.symm hyn
        · rw [if_neg hx] at h2; exact ⟨x, by omega, h2⟩
theorem nat_pos (x : BitVec 16) (h : x ≠ 0) : 0 < x.toNat := by
  rcases Nat.eq_zero_or_pos x.toNat with e | e
  · exact absurd (BitVec.eq_of_toNat_eq e) h
  · exact e
/-- every element but 0 is a power of 2. -/
theorem reach (m : Nat) (h1 : 3 ≤ m) (h2 : m ≤ 14) (x : BitVec 16) (hx : x.toNat < 2 ^ m) (h : x ≠ 0) : ∃ k, k < size m ∧ pw m k = x := by
  have hp : ∀ i, 0 < (pw m i).toNat := fun i => nat_pos _ (pw_ne m h1 h2 i).1
  have hl : ∀ i, (pw m i).toNat < 2 ^ m := fun i => (pw_ne m h1 h2 i).2
  have hx0 := nat_pos x h
  have h8 := two_le m h1
  obtain ⟨k, k1, k2⟩ := onto (size m) (fun i => (pw m i).toNat - 1) (fun i _ => by have := hl i; have := hp i; show (pw m i).toNat - 1 < _; unfold size; omega)
    (fun i j hi hj e => pw_inj m h1 h2 i j hi hj (BitVec.eq_of_toNat_eq (by have := hp i; have := hp j; have e : (pw m i).toNat - 1 = (pw m j).toNat - 1 := e; omega))) (x.toNat - 1) (by unfold size; omega)
  refine ⟨k, k1, BitVec.eq_of_toNat_eq ?_⟩
  have := hp k
  have k2 : (pw m k).toNat - 1 = x.toNat - 1 := k2
  omega
/-- the logarithm: the first n whose power is x, looked for below n. -/
def lgTo (m : Nat) (x : BitVec 16) : Nat → Nat
  | 0 => 0
  | n + 1 => if pw m n = x then n else lgTo m x n
def lg (m : Nat) (x : BitVec 16) : Nat := lgTo m x (size m)
theorem lgTo_spec (m : Nat) (h1 : 3 ≤ m) (h2 : m ≤ 14) (x : BitVec 16) (k : Nat) (hk : pw m k = x) : ∀ n, k < n → n ≤ size m → lgTo m x n = k
  | 0, h, _ => by omega
  | n + 1, h, hn => by
    simp only [lgTo]
    by_cases e : pw m n = x
    · rw [if_pos e]; exact pw_inj m h1 h2 n k (by omega) (by omega) (e.trans hk.symm)
    · rw [if_neg e]
      have : k ≠ n := fun e2 => e (e2 ▸ hk)
      exact lgTo_spec m h1 h2 x k hk n (by omega) (by omega)
theorem lg_pw (m : Nat) (h1 : 3 ≤ m) (h2 : m ≤ 14) (k : Nat) (hk : k < size m) : lg m (pw m k) = k := lgTo_spec m h1 h2 _ k rfl _ hk (Nat.le_refl _)
theorem lg_spec (m : Nat) (h1 : 3 ≤ m) (h2 : m ≤ 14) (x : BitVec 16) (hx : x.toNat < 2 ^ m) (h : x ≠ 0) : lg m x < size m ∧ pw m (lg m x) = x := by
  obtain ⟨k, hk, rfl⟩ := reach m h1 h2 x hx h
  rw [lg_pw m h1 h2 k hk]; exact ⟨hk, rfl⟩
theorem lgTo_zero (m : Nat) (h1 : 3 ≤ m) (h2 : m ≤ 14) : ∀ n, lgTo m 0 n = 0
  | 0 => rfl
  | n + 1 => by simp only [lgTo]; rw [if_neg (pw_ne m h1 h2 n).1]; exact lgTo_zero m h1 h2 n
theorem lg_zero (m : Nat) (h1 : 3 ≤ m) (h2 : m ≤ 14) : lg m 0 = 0 := lgTo_zero m h1 h2 _
theorem pw_size_mul (m : Nat) (h1 : 3 ≤ m) (h2 : m ≤ 14) (q r : Nat) : pw m (size m * q + r) = pw m r := by
  rw [pw_mod m h1 h2, Nat.mul_add_mod, ← pw_mod m h1 h2]
/-! the laws -/
theorem el_cases (m : Nat) (h1 : 3 ≤ m) (h2 : m ≤ 14) (x : BitVec 16) (hx : x.toNat < 2 ^ m) : x = 0 ∨ ∃ k, k < size m ∧ x = pw m k := by
  by_cases h : x = 0
  · exact Or.inl h
  · obtain ⟨k, a, b⟩ := reach m h1 h2 x hx h
    exact Or.inr ⟨k, a, b.symm⟩
theorem fmul_comm (m : Nat) (h1 : 3 ≤ m) (h2 : m ≤ 14) (a b : BitVec 16) (ha : a.toNat < 2 ^ m) (hb : b.toNat < 2 ^ m) : fmul m a b = fmul m b a := by
  rcases el_cases m h1 h2 a ha with rfl | ⟨i, _, rfl⟩
  · rw [zero_fmul m h1 h2, fmul_zero]
  · rcases el_cases m h1 h2 b hb with rfl | ⟨j, _, rfl⟩
    · rw [zero_fmul m h1 h2, fmul_zero]
    · rw [fmul_pw m h1 h2, fmul_pw m h1 h2, Nat.add_comm]
theorem fmul_assoc (m : Nat) (h1 : 3 ≤ m) (h2 : m ≤ 14) (a b c : BitVec 16) (ha : a.toNat < 2 ^ m) (hb : b.toNat < 2 ^ m) (hc : c.toNat < 2 ^ m) : fmul m (fmul m a b) c = fmul m a (fmul m b c) := by
  rcases el_cases m h1 h2 a ha with rfl | ⟨i, _, rfl⟩
  · rw [zero_fmul m h1 h2, zero_fmul m h1 h2, zero_fmul m h1 h2]
  · rcases el_cases m h1 h2 b hb with rfl | ⟨j, _, rfl⟩
    · rw [fmul_zero, zero_fmul m h1 h2, fmul_zero]
    · rcases el_cases m h1 h2 c hc with rfl | ⟨k, _, rfl⟩
      · rw [fmul_zero, fmul_zero, fmul_zero]
      · rw [fmul_pw m h1 h2, fmul_pw m h1 h2, fmul_pw m h1 h2, fmul_pw m h1 h2, Nat.add_assoc]
theorem one_lt (m : Nat) (h1 : 3 ≤ m) : (1 : BitVec 16).toNat < 2 ^ m := by have := two_le m h1; show 1 < _; omega
theorem fmul_one (m : Nat) (h1 : 3 ≤ m) (h2 : m ≤ 14) (a : BitVec 16) (ha : a.toNat < 2 ^ m) : fmul m a 1 = a := by
  rcases el_cases m h1 h2 a ha with rfl | ⟨i, _, rfl⟩
  · exact zero_fmul m h1 h2 1
  · exact fmul_pw m h1 h2 i 0
theorem one_fmul (m : Nat) (h1 : 3 ≤ m) (h2 : m ≤ 14) (a : BitVec 16) (ha : a.toNat < 2 ^ m) : fmul m 1 a = a := by
  rw [fmul_comm m h1 h2 1 a (one_lt m h1) ha, fmul_one m h1 h2 a ha]
/-- the inverse. -/
def finv (m : Nat) (a : BitVec 16) : BitVec 16 := pw m (size m - lg m a)
theorem fmul_inv (m : Nat) (h1 : 3 ≤ m) (h2 : m ≤ 14) (a : BitVec 16) (ha : a.toNat < 2 ^ m) (h : a ≠ 0) : fmul m a (finv m a) = 1 := by
  obtain ⟨l1, l2⟩ := lg_spec m h1 h2 a ha h
  unfold finv
  rw [← l2, fmul_pw m h1 h2, l2, show lg m a + (size m - lg m a) = size m by omega, pw_end m h1 h2]
theorem finv_lt (m : Nat) (h1 : 3 ≤ m) (h2 : m ≤ 14) (a : BitVec 16) : (finv m a).toNat < 2 ^ m := (pw_ne m h1 h2 _).2
/-- a to the n-th. -/
def fpow (m : Nat) (a : BitVec 16) : Nat → BitVec 16
  | 0 => 1
  | n + 1 => fmul m (fpow m a n) a
theorem fpow_pw (m : Nat) (h1 : 3 ≤ m) (h2 : m ≤ 14) (i : Nat) : ∀ n, fpow m (pw m i) n = pw m (i * n)
  | 0 => rfl
  | n + 1 => by simp only [fpow]; rw [fpow_pw m h1 h2 i n, fmul_pw m h1 h2, Nat.mul_succ]
theorem fpow_zero (m : Nat) (n : Nat) : fpow m 0 (n + 1) = 0 := by simp only [fpow]; exact fmul_zero m _
theorem fpow_lt (m : Nat) (h1 : 3 ≤ m) (h2 : m ≤ 14) (a : BitVec 16) (ha : a.toNat < 2 ^ m) : ∀ n, (fpow m a n).toNat < 2 ^ m
  | 0 => one_lt m h1
  | n + 1 => by simp only [fpow]; exact fmul_lt m h1 h2 _ _ (fpow_lt m h1 h2 a ha n)
end Go.Proofs.YtdhcigiaidlmbaaGreatDoor.Fld
/- How the model's integers of 16 bits are BitVecs. By the verifier of shale. -/
namespace Go.Proofs.YtdhcigiaidlmbaaGreatDoor.Bits16
open Go
/-- the number of 16 bits, behind a name that no tactic opens. -/
def h (a : BitVec 16) : Int := (a.toNat : Int)
theorem h_lo (a : BitVec 16) : 0 ≤ h a := by unfold h; omega
theorem h_hi (a : BitVec 16) : h a < 65536 := by unfold h; have := a.isLt; omega
theorem h_inj (a c : BitVec 16) (e : h a = h c) : a = c := by
  unfold h at e; apply BitVec.eq_of_toNat_eq; omega
theorem ofInt16 (a : BitVec 16) : BitVec.ofInt 16 (h a) = a := by
  apply BitVec.eq_of_toNat_eq
  rw [BitVec.toNat_ofInt]
  unfold h
  have := a.isLt
  omega
theorem wrap16 (a : BitVec 16) : IntKind.u16.wrap (h a) = h a := by
  rw [IntKind.wrap_u16]
  have := h_lo a
  have := h_hi a
  omega
theorem hxor (a c : BitVec 16) : bits .xor .u16 (h a) (h c) = h (a ^^^ c) := by
  show IntKind.u16.wrap (h (BitVec.ofInt 16 (h a) ^^^ BitVec.ofInt 16 (h c))) = _
  rw [ofInt16, ofInt16, wrap16]
theorem hor (a c : BitVec 16) : bits .or .u16 (h a) (h c) = h (a ||| c) := by
  show IntKind.u16.wrap (h (BitVec.ofInt 16 (h a) ||| BitVec.ofInt 16 (h c))) = _
  rw [ofInt16, ofInt16, wrap16]
theorem hand (a c : BitVec 16) : bits .and .u16 (h a) (h c) = h (a &&& c) := by
  show IntKind.u16.wrap (h (BitVec.ofInt 16 (h a) &&& BitVec.ofInt 16 (h c))) = _
  rw [ofInt16, ofInt16, wrap16]
theorem hand1 (a : BitVec 16) : bits .and .u16 (h a) 1 = h (a &&& 1#16) := hand a 1#16
theorem shr (yk : IntKind) (a : BitVec 16) (n : Nat) (hn : n ≤ 16) (y : Int) (hy : y = (n : Int)) : Op.shift .shr .u16 (h a) yk y = pure (.int .u16 (h (a >>> n))) := by
  subst hy
  rw [shift_shr .u16 yk (h a) _ (by omega) (by show _ ≤ (16 : Int); omega)]
  refine congrArg (fun n => pure (Value.int .u16 n)) ?_
  unfold h
  rw [BitVec.toNat_ushiftRight, Nat.shiftRight_eq_div_pow, Int.toNat_natCast, Int.natCast_ediv, Int.natCast_pow]; rfl
theorem shr1 (yk : IntKind) (a : BitVec 16) : Op.shift .shr .u16 (h a) yk 1 = pure (.int .u16 (h (a >>> 1))) := shr yk a 1 (by decide) _ rfl
theorem shr2 (yk : IntKind) (a : BitVec 16) : Op.shift .shr .u16 (h a) yk 2 = pure (.int .u16 (h (a >>> 2))) := shr yk a 2 (by decide) _ rfl
theorem shr3 (yk : IntKind) (a : BitVec 16) : Op.shift .shr .u16 (h a) yk 3 = pure (.int .u16 (h (a >>> 3))) := shr yk a 3 (by decide) _ rfl
theorem shr5 (yk : IntKind) (a : BitVec 16) : Op.shift .shr .u16 (h a) yk 5 = pure (.int .u16 (h (a >>> 5))) := shr yk a 5 (by decide) _ rfl
theorem shl15 (yk : IntKind) (a : BitVec 16) : Op.shift .shl .u16 (h a) yk 15 = pure (.int .u16 (h (a <<< 15))) := by
  rw [shift_shl .u16 yk (h a) 15 (by decide) (by decide)]
  refine congrArg (fun n => pure (Value.int .u16 n)) ?_
  rw [IntKind.wrap_u16]
  unfold h
  rw [BitVec.toNat_shiftLeft, Nat.shiftLeft_eq]
  rw [show ((2 : Int) ^ (15 : Int).toNat) = 32768 by decide, show (2 : Nat) ^ 15 = 32768 by decide]
  omega
theorem h_u16 (x : Int) : IntKind.u16.wrap x = h (BitVec.ofInt 16 x) := by
  rw [IntKind.wrap_u16]
  unfold h
  rw [BitVec.toNat_ofInt]
  omega
end Go.Proofs.YtdhcigiaidlmbaaGreatDoor.Bits16
/- An int seen as an element of a field: its lowest m bits; powers with any int as exponent; orders. No program is named here. By the verifier of shale. -/
namespace Go.Proofs.YtdhcigiaidlmbaaGreatDoor.Fld
open Go Bits16
set_option linter.unusedVariables false
/-- how many elements there are. -/
def els (m : Nat) : Nat := 2 ^ m
theorem els_eq (m : Nat) : els m = size m + 1 := by have := Nat.two_pow_pos m; unfold els size; omega
theorem els_lo (m : Nat) (h1 : 3 ≤ m) : 8 ≤ els m := two_le m h1
theorem els_hi (m : Nat) (h2 : m ≤ 14) : els m ≤ 16384 := pow14 m h2
theorem size_lo (m : Nat) (h1 : 3 ≤ m) : 7 ≤ size m := size_pos m h1
theorem size_hi (m : Nat) (h2 : m ≤ 14) : size m ≤ 16383 := by have := els_hi m h2; rw [els_eq] at this; omega
/-- the element of a number. -/
def el (m : Nat) (z : Int) : BitVec 16 := BitVec.ofNat 16 ((BitVec.ofInt 64 z).toNat % 2 ^ m)
theorem el_nat (m : Nat) (h2 : m ≤ 14) (z : Int) : (el m z).toNat = (BitVec.ofInt 64 z).toNat % 2 ^ m := by
  have := Nat.mod_lt (BitVec.ofInt 64 z).toNat (Nat.two_pow_pos m)
  have := pow14 m h2
  unfold el
  rw [BitVec.toNat_ofNat]
  exact Nat.mod_eq_of_lt (by omega)
theorem el_lt (m : Nat) (h2 : m ≤ 14) (z : Int) : (el m z).toNat < 2 ^ m := by
  rw [el_nat m h2]; exact Nat.mod_lt _ (Nat.two_pow_pos m)
theorem el_of (m : Nat) (h2 : m ≤ 14) (x : BitVec 16) (hx : x.toNat < 2 ^ m) : el m (h x) = x := by
  apply BitVec.eq_of_toNat_eq
  rw [el_nat m h2]
  have e : (BitVec.ofInt 64 (h x)).toNat = x.toNat := by
    rw [BitVec.toNat_ofInt]; unfold h; have := x.isLt; omega
  rw [e]; exact Nat.mod_eq_of_lt hx
theorem and_size (m : Nat) (h2 : m ≤ 14) (z : Int) : bits .and .i64 z (size m : Int) = h (el m z) := by
  have hs := size_hi m h2
  show IntKind.i64.wrap ((BitVec.ofInt 64 z &&& BitVec.ofInt 64 (size m : Int)).toNat : Int) = _
  have e : (BitVec.ofInt 64 (size m : Int)).toNat = 2 ^ m - 1 := by
    rw [BitVec.toNat_ofInt]; unfold size at hs ⊢; omega
  rw [BitVec.toNat_and, e, Nat.and_two_pow_sub_one_eq_mod, ← el_nat m h2]
  exact IntWalk.i64_in _ (by have := (el m z).isLt; omega)
theorem and_els (m : Nat) (h2 : m ≤ 14) (z : Int) : bits .and .i64 z ((els m : Int) - 1) = h (el m z) := by
  rw [show ((els m : Int) - 1) = (size m : Int) by rw [els_eq]; omega]
  exact and_size m h2 z
theorem ofInt_wrap64 (x : Int) : BitVec.ofInt 64 (IntKind.i64.wrap x) = BitVec.ofInt 64 x := by
  apply BitVec.eq_of_toInt_eq
  rw [BitVec.toInt_ofInt, BitVec.toInt_ofInt]
  have : IntKind.i64.wrap x = x.bmod (2 ^ 64) := by
    rw [IntKind.wrap_i64, Int.bmod_def]; omega
  rw [this]
  exact Int.bmod_bmod
theorem el_xor (m : Nat) (h2 : m ≤ 14) (x y : Int) : el m (bits .xor .i64 x y) = el m x ^^^ el m y := by
  apply BitVec.eq_of_toNat_eq
  rw [BitVec.toNat_xor, el_nat m h2, el_nat m h2, el_nat m h2]
  show (BitVec.ofInt 64 (IntKind.i64.wrap ((BitVec.ofInt 64 x ^^^ BitVec.ofInt 64 y).toNat : Int))).toNat % 2 ^ m = _
  rw [ofInt_wrap64, ← Nat.xor_mod_two_pow, ← BitVec.toNat_xor]
  congr 1
  rw [BitVec.toNat_ofInt]
  have := (BitVec.ofInt 64 x ^^^ BitVec.ofInt 64 y).isLt
  omega
theorem el_h_lt (m : Nat) (h2 : m ≤ 14) (x : BitVec 16) (hx : x.toNat < 2 ^ m) : h x < (els m : Int) := by
  unfold h els; omega
/-- 2 to the z-th. -/
def pwZ (m : Nat) (z : Int) : BitVec 16 := pw m (z % (size m : Int)).toNat
theorem pwZ_nat (m : Nat) (h1 : 3 ≤ m) (h2 : m ≤ 14) (n : Nat) : pwZ m (n : Int) = pw m n := by
  unfold pwZ
  rw [← Int.natCast_emod, Int.toNat_natCast, ← pw_mod m h1 h2]
theorem pwZ_congr (m : Nat) (x y : Int) (e : x % (size m : Int) = y % (size m : Int)) : pwZ m x = pwZ m y := by unfold pwZ; rw [e]
theorem pwZ_lt (m : Nat) (h1 : 3 ≤ m) (h2 : m ≤ 14) (z : Int) : (pwZ m z).toNat < 2 ^ m := (pw_ne m h1 h2 _).2
theorem pwZ_ne (m : Nat) (h1 : 3 ≤ m) (h2 : m ≤ 14) (z : Int) : pwZ m z ≠ 0 := (pw_ne m h1 h2 _).1
theorem pwZ_rep (m : Nat) (h1 : 3 ≤ m) (z : Int) : ∃ k : Nat, k < size m ∧ z % (size m : Int) = (k : Int) ∧ pwZ m z = pw m k := by
  have hs := size_pos m h1
  have a := Int.emod_nonneg z (b := (size m : Int)) (by omega)
  have b := Int.emod_lt_of_pos z (b := (size m : Int)) (by omega)
  exact ⟨(z % (size m : Int)).toNat, by omega, by omega, rfl⟩
theorem pwZ_mul (m : Nat) (h1 : 3 ≤ m) (h2 : m ≤ 14) (x y : Int) : fmul m (pwZ m x) (pwZ m y) = pwZ m (x + y) := by
  obtain ⟨i, _, e1, r1⟩ := pwZ_rep m h1 x
  obtain ⟨j, _, e2, r2⟩ := pwZ_rep m h1 y
  rw [r1, r2, fmul_pw m h1 h2, ← pwZ_nat m h1 h2]
  apply pwZ_congr
  rw [Int.natCast_add, ← e1, ← e2, ← Int.add_emod]
/-- a to the z-th, 0 to the 0th being 1. -/
def powZ (m : Nat) (a : BitVec 16) (z : Int) : BitVec 16 := if a = 0 then (if z = 0 then 1 else 0) else pwZ m ((lg m a : Int) * z)
theorem powZ_pw (m : Nat) (h1 : 3 ≤ m) (h2 : m ≤ 14) (k : Nat) (z : Int) : powZ m (pw m k) z = pwZ m ((k : Int) * z) := by
  unfold powZ
  rw [if_neg (pw_ne m h1 h2 k).1]
  have hs := size_pos m h1
  have e : lg m (pw m k) = k % size m := by
    rw [pw_mod m h1 h2]; exact lg_pw m h1 h2 _ (Nat.mod_lt _ (by omega))
  apply pwZ_congr
  rw [e, Int.natCast_emod, Int.mul_emod, Int.emod_emod, ← Int.mul_emod]
theorem powZ_nat (m : Nat) (h1 : 3 ≤ m) (h2 : m ≤ 14) (a : BitVec 16) (ha : a.toNat < 2 ^ m) (n : Nat) : powZ m a (n : Int) = fpow m a n := by
  rcases el_cases m h1 h2 a ha with rfl | ⟨i, _, rfl⟩
  · unfold powZ
    rw [if_pos rfl]
    cases n with
    | zero => rfl
    | succ n => rw [if_neg (by omega), fpow_zero]
  · rw [powZ_pw m h1 h2, fpow_pw m h1 h2, ← Int.natCast_mul, pwZ_nat m h1 h2]
theorem fpow_sq (m : Nat) (h1 : 3 ≤ m) (h2 : m ≤ 14) (a : BitVec 16) (ha : a.toNat < 2 ^ m) (n : Nat) : fpow m (fmul m a a) n = fpow m a (2 * n) := by
  rcases el_cases m h1 h2 a ha with rfl | ⟨i, _, rfl⟩
  · rw [fmul_zero]
    cases n with
    | zero => rfl
    | succ n => rw [fpow_zero, show 2 * (n + 1) = (2 * n + 1) + 1 by omega, fpow_zero]
  · rw [fmul_pw m h1 h2, fpow_pw m h1 h2, fpow_pw m h1 h2, ← Nat.two_mul, Nat.mul_assoc, Nat.mul_left_comm, Nat.mul_comm i]
end Go.Proofs.YtdhcigiaidlmbaaGreatDoor.Fld
/- The elements of a field of m bits, as a type, and its polynomials. By the verifier of shale. -/
namespace Go.Proofs.YtdhcigiaidlmbaaGreatDoor.Pl
open Go Go.RowKit Fld Bits16
set_option linter.unusedVariables false
/-- an m that may be. -/
class Mid (m : Nat) : Prop where
  lo : 3 ≤ m
  hi : m ≤ 14
/-- an element. -/
def El (m : Nat) : Type := {x : BitVec 16 // x.toNat < 2 ^ m}
theorem El.ext {m : Nat} {a b : El m} (e : a.val = b.val) : a = b := Subtype.ext e
instance {m : Nat} [M : Mid m] : Fl (El m) where
  zero := ⟨0, by have := two_le m M.lo; show 0 < 2 ^ m; omega⟩
  one := ⟨1, one_lt m M.lo⟩
  add a b := ⟨a.val ^^^ b.val, xor_lt m _ _ a.2 b.2⟩
  mul a b := ⟨fmul m a.val b.val, fmul_lt m M.lo M.hi _ _ a.2⟩
  inv a := ⟨finv m a.val, finv_lt m M.lo M.hi _⟩
  add_assoc a b c := El.ext (BitVec.xor_assoc _ _ _)
  add_comm a b := El.ext (BitVec.xor_comm _ _)
  add_zero a := El.ext (BitVec.xor_zero)
  add_self a := El.ext (BitVec.xor_self)
  mul_assoc a b c := El.ext (fmul_assoc m M.lo M.hi _ _ _ a.2 b.2 c.2)
  mul_comm a b := El.ext (fmul_comm m M.lo M.hi _ _ a.2 b.2)
  mul_one a := El.ext (fmul_one m M.lo M.hi _ a.2)
  mul_add a b c := El.ext (fmul_xor m _ _ _)
  one_ne := fun e => by
    have := congrArg Subtype.val e
    exact absurd this (by show ¬ ((1 : BitVec 16) = 0); decide)
  mul_inv a h := El.ext (fmul_inv m M.lo M.hi _ a.2 fun e => h (El.ext e))
instance {m : Nat} : DecidableEq (El m) := fun a b => decidable_of_iff (a.val = b.val) ⟨El.ext, fun e => by rw [e]⟩
/-- the number of an element. -/
def zn {m : Nat} (a : El m) : Int := h a.val
theorem zn_inj {m : Nat} {a b : El m} (e : zn a = zn b) : a = b := El.ext (h_inj _ _ e)
/-- a polynomial's first n coefficients as numbers. -/
def nums {m : Nat} (p : Ser (El m)) (n : Nat) : List Int := (List.range n).map fun i => zn (p i)
theorem nums_length {m : Nat} (p : Ser (El m)) (n : Nat) : (nums p n).length = n := by simp [nums]
theorem nums_at {m : Nat} (p : Ser (El m)) (n i : Nat) (hi : i < n) : (nums p n).getD i 0 = zn (p i) := by simp [nums, hi]
/-- as many coefficients as it has up to the last that is not 0, of the first n. -/
def top {m : Nat} (p : Ser (El m)) : Nat → Nat
  | 0 => 0
  | n + 1 => if (p n).val = 0 then top p n else n + 1
theorem top_le {m : Nat} (p : Ser (El m)) : ∀ n, top p n ≤ n
  | 0 => Nat.le_refl _
  | n + 1 => by have := top_le p n; simp only [top]; split <;> omega
section
variable {m : Nat} [M : Mid m]
/-- the element of a number. -/
def elm (m : Nat) [M : Mid m] (z : Int) : El m := ⟨el m z, el_lt m M.hi z⟩
theorem elm_zn (a : El m) : elm m (zn a) = a := El.ext (el_of m M.hi a.val a.2)
theorem zn_zero : zn (0 : El m) = 0 := rfl
theorem elm_zero : elm m 0 = 0 := El.ext (el_of m M.hi 0 (by have := two_le m M.lo; show 0 < 2 ^ m; omega))
theorem zn_eq0 (a : El m) : (zn a == 0) = decide (a = 0) := by
  rw [Bool.eq_iff_iff, beq_iff_eq, decide_eq_true_iff]
  constructor
  · intro e; exact zn_inj (e.trans zn_zero.symm)
  · intro e; rw [e]; rfl
/-- a list of numbers as a polynomial. -/
def sr (m : Nat) [M : Mid m] (l : List Int) : Ser (El m) := fun i => elm m (l.getD i 0)
theorem sr_bd (l : List Int) : Bd (sr m l) l.length := fun i hi => by
  show elm m (l.getD i 0) = 0
  rw [List.getD_eq_getElem?_getD, List.getElem?_eq_none hi]; exact elm_zero
theorem sr_nums {p : Ser (El m)} {n : Nat} (hb : Bd p n) : sr m (nums p n) = p := by
  funext i
  show elm m ((nums p n).getD i 0) = p i
  by_cases hi : i < n
  · rw [nums_at p n i hi, elm_zn]
  · rw [hb i (by omega), List.getD_eq_getElem?_getD, List.getElem?_eq_none (by rw [nums_length]; omega)]; exact elm_zero
theorem top_zero {p : Ser (El m)} {n : Nat} (h0 : p n = 0) : top p (n + 1) = top p n := by
  simp only [top]; rw [if_pos (by rw [h0]; rfl)]
theorem top_some {p : Ser (El m)} {n : Nat} (h0 : p n ≠ 0) : top p (n + 1) = n + 1 := by
  simp only [top]; rw [if_neg (fun e : (p n).val = 0 => h0 (El.ext e))]
theorem top_bd {p : Ser (El m)} : ∀ {n : Nat}, Bd p n → Bd p (top p n)
  | 0, hb => hb
  | n + 1, hb => by
    simp only [top]
    split
    · rename_i h0
      refine top_bd (n := n) fun i hi => ?_
      by_cases e : i = n
      · rw [e]; exact El.ext h0
      · exact hb i (by omega)
    · exact hb
theorem top_ne {p : Ser (El m)} : ∀ {n : Nat}, top p n ≠ 0 → Dg p (top p n - 1) ∨ ¬ Bd p n
  | 0, h0 => absurd rfl h0
  | n + 1, h0 => by
    by_cases hb : Bd p (n + 1)
    · left
      simp only [top] at h0 ⊢
      split
      · rename_i h1
        rw [if_pos h1] at h0
        have hb' : Bd p n := fun i hi => by
          by_cases e : i = n
          · rw [e]; exact El.ext h1
          · exact hb i (by omega)
        exact (top_ne (n := n) h0).resolve_right fun h2 => h2 hb'
      · rename_i h1
        exact ⟨fun e => h1 (by show (p n).val = 0; rw [show p n = 0 from e]; rfl), hb⟩
    · exact Or.inr hb
theorem top_same {p : Ser (El m)} {n k : Nat} (hn : Bd p n) (hk : Bd p k) : top p n = top p k := by
  have h1 := top_bd hn
  have h2 := top_bd hk
  by_cases a : top p n = 0
  · by_cases b : top p k = 0
    · rw [a, b]
    · have hd := (top_ne b).resolve_right fun x => x hk
      have := hd.lt h1; omega
  · have hd := (top_ne a).resolve_right fun x => x hn
    by_cases b : top p k = 0
    · have := hd.lt h2; omega
    · have he := (top_ne b).resolve_right fun x => x hk
      have := hd.eq he; omega
end
end Go.Proofs.YtdhcigiaidlmbaaGreatDoor.Pl
/- Blocks and slices of ints that the call itself makes. By the verifier of shale. -/
namespace Go.Proofs.YtdhcigiaidlmbaaGreatDoor
open Go Go.RowKit
set_option linter.unusedVariables false
def cells64 (l : List Int) : List Value := l.map (Value.int .i64)
theorem cells64_length (l : List Int) : (cells64 l).length = l.length := by simp [cells64]
theorem cells64_append (l m : List Int) : cells64 l ++ cells64 m = cells64 (l ++ m) := by simp [cells64]
/-- number i of a list of ints, behind a name that no tactic opens. -/
def nth64 (l : List Int) (i : Nat) : Int := l.getD i 0
def obj64 (l : List Int) : Obj := .cells (cells64 l).toArray 3 (0, 0)
/-- block g is just these ints. -/
def Blk64 (w : World) (g : Nat) (l : List Int) : Prop := w.heap[g]? = some (obj64 l)
theorem Blk64.cell {w : World} {g : Nat} {l : List Int} (e : Blk64 w g l) {i : Nat} (hi : i < l.length) : w.cell? ⟨g, i, none⟩ = some (.int .i64 (nth64 l i)) := by
  unfold World.cell?
  simp only
  rw [show w.heap[g]? = some (obj64 l) from e]
  simp [obj64, cells64, nth64, hi]
theorem Blk64.free {w : World} {g : Nat} {l : List Int} (e : Blk64 w g l) (i : Nat) : w.frozen? ⟨g, i, none⟩ = false := by
  unfold World.frozen?
  simp only
  rw [show w.heap[g]? = some (obj64 l) from e]
  rfl
theorem Blk64.lt {w : World} {g : Nat} {l : List Int} (e : Blk64 w g l) : g < w.heap.size := lt_of_block e
theorem Blk64.new (w : World) (l : List Int) : Blk64 (w.alloc (obj64 l)) w.heap.size l := heap_alloc_new w _
theorem info64 : ∃ i, Tryz.prog.info? 3 = some i ∧ i.zero = some (.int .i64 0) ∧ i.size = 1 ∧ i.bytes = 8 :=
  info_parts (show (Tryz.prog.info? 3).map (fun i => (i.zero, i.size, i.bytes)) = some (some (.int .i64 0), 1, 8) by kernel_rfl)
set_option maxRecDepth 100000 in
theorem made64 (w : World) (n : Nat) (hn : n ≤ 1000000) :
    (Instr.makeSlice 65 (.int .i64 (n : Int)) (.int .i64 (n : Int))).run Tryz.prog w = .ok (.slice (some ⟨w.heap.size, 0, none⟩) n n) (w.alloc (obj64 (List.replicate n 0))) := by
  obtain ⟨i0, hi, hz0, hz1, hz2⟩ := info64
  rw [run_make (P := Tryz.prog) w 65 3 i0 (.int .i64 0) Tryz.underlying65 hi hz0 .i64 .i64 (n : Int) (n : Int) (by omega) (by omega) (by rw [hz2]; omega) (by omega)]
  congr 2
  unfold obj64 madeCells
  rw [hz1]
  congr 1
  apply Array.ext
  · simp [cells64]
  · intro i h1 h2
    simp [Value.cells, Nat.mod_one, cells64]
/-- v is a slice of the call's own (in a block from base on, or nil) that holds these ints. -/
def Own64 (w : World) (base : Nat) (v : Value) (n : Nat) (l : List Int) : Prop := w.ownsRow base 3 1 v n (cells64 l)
theorem Own64.nil (w : World) (base : Nat) : Own64 w base (.slice none 0 0) 0 [] := ⟨rfl, Or.inl ⟨rfl, rfl⟩⟩
theorem Own64.len {w : World} {base n : Nat} {v : Value} {l : List Int} (e : Own64 w base v n l) : l.length = n := by
  have := e.1
  rw [cells64_length] at this
  omega
theorem Own64.block {w : World} {base n : Nat} {v : Value} {l : List Int} (e : Own64 w base v n l) : ∀ g, v.ownBlock = some g → base ≤ g ∧ g < w.heap.size := by
  intro g hg
  rcases e.2 with ⟨h0, _⟩ | ⟨g', cap', cur, hv, hbg, hh, _⟩
  · rw [h0] at hg; cases hg
  · rw [hv] at hg
    simp only [Value.ownBlock, Option.some.injEq] at hg
    subst hg
    exact ⟨hbg, lt_of_block hh⟩
theorem Own64.keep {w w' : World} {base n : Nat} {v : Value} {l : List Int} (e : Own64 w base v n l) (o : ∀ g, v.ownBlock = some g → w'.heap[g]? = w.heap[g]?) : Own64 w' base v n l := by
  refine ⟨e.1, ?_⟩
  rcases e.2 with h0 | ⟨g', cap', cur, hv, hbg, hh, r⟩
  · exact Or.inl h0
  · exact Or.inr ⟨g', cap', cur, hv, hbg, by rw [o g' (by rw [hv]; rfl)]; exact hh, r⟩
/-- its cells, where it is not empty. -/
theorem Own64.cells {w : World} {base n : Nat} {v : Value} {l : List Int} (e : Own64 w base v n l) (hn : 0 < n) :
    ∃ g cap, v = .slice (some ⟨g, 0, none⟩) n cap ∧ base ≤ g ∧ g < w.heap.size ∧ n ≤ cap ∧ ∀ i, i < n → w.cell? ⟨g, i, none⟩ = some (.int .i64 (nth64 l i)) := by
  rcases e.2 with ⟨h0, h1⟩ | ⟨g', cap', cur, hv, hbg, hh, hnc, hm, hs, ht⟩
  · omega
  · have hl := e.len
    refine ⟨g', cap', hv, hbg, lt_of_block hh, hnc, ?_⟩
    intro i hi
    unfold World.cell?
    simp only
    rw [hh]
    have e2 : cur.toList[i]? = (cells64 l)[i]? := by
      rw [← ht, List.getElem?_take_of_lt (by omega)]
    simp only [Array.getElem?_toList] at e2
    simp only
    rw [e2]
    unfold cells64 nth64
    simp [show i < l.length by omega]
theorem three_cells {w : World} {s : Nat} {a b c : Value} {t : TypeId} (e : w.heap[s]? = some (.cells #[a, b, c] t (0, 0))) :
    w.cell? ⟨s, 0, none⟩ = some a ∧ w.cell? ⟨s, 1, none⟩ = some b ∧ w.cell? ⟨s, 2, none⟩ = some c ∧ (∀ i, w.frozen? ⟨s, i, none⟩ = false) := by
  refine ⟨?_, ?_, ?_, fun i => ?_⟩
  · unfold World.cell?; simp only; rw [e]; rfl
  · unfold World.cell?; simp only; rw [e]; rfl
  · unfold World.cell?; simp only; rw [e]; rfl
  · unfold World.frozen?; simp only; rw [e]; rfl
theorem set1 {w : World} {s : Nat} {a b c : Value} {t : TypeId} (e : w.heap[s]? = some (.cells #[a, b, c] t (0, 0))) (b' : Value) : (w.setCell ⟨s, 1, none⟩ b').heap[s]? = some (.cells #[a, b', c] t (0, 0)) := by
  have hlt := lt_of_block e
  have e' : w.heap[s] = .cells #[a, b, c] t (0, 0) := by simpa [Array.getElem?_eq_getElem hlt] using e
  show (w.heap.modify s _)[s]? = _
  rw [Array.getElem?_eq_getElem (by simpa using hlt), Array.getElem_modify_self, e']
  rfl
theorem Blk64.set {w : World} {g : Nat} {l : List Int} (e : Blk64 w g l) (i : Nat) (c : Int) : Blk64 (w.setCell ⟨g, i, none⟩ (.int .i64 c)) g (l.set i c) := by
  have hlt := lt_of_block e
  have e' : w.heap[g] = obj64 l := by simpa [Blk64, Array.getElem?_eq_getElem hlt] using e
  show (w.heap.modify g _)[g]? = _
  rw [Array.getElem?_eq_getElem (by simpa using hlt), Array.getElem_modify_self, e']
  simp [obj64, cells64, List.map_set]
theorem Own64.set {w : World} {base n : Nat} {v : Value} {l : List Int} (e : Own64 w base v n l) (p : Addr) (u : Value) (hp : p.block < base) : Own64 (w.setCell p u) base v n l :=
  e.keep fun g hg => Below.heap_setCell _ _ _ _ (by have := (e.block g hg).1; omega)
end Go.Proofs.YtdhcigiaidlmbaaGreatDoor
/- The walks over package field. By the verifier of shale. -/
namespace Go.Proofs.YtdhcigiaidlmbaaGreatDoor.Fld
open Go Go.RowKit Bits16
set_option linter.unusedVariables false
theorem e64 (a : BitVec 16) : (BitVec.ofInt 64 (h a)).toNat = a.toNat := by
  rw [BitVec.toNat_ofInt]; unfold h; have := a.isLt; omega
theorem w64 (a : BitVec 16) : IntKind.i64.wrap (h a) = h a := IntWalk.i64_in _ (by have := h_lo a; have := h_hi a; omega)
theorem rxor (a c : BitVec 16) : bits .xor .i64 (h a) (h c) = h (a ^^^ c) := by
  show IntKind.i64.wrap ((BitVec.ofInt 64 (h a) ^^^ BitVec.ofInt 64 (h c)).toNat : Int) = _
  rw [BitVec.toNat_xor, e64, e64, ← BitVec.toNat_xor]; exact w64 _
/-- twice a number of at most 15 bits. -/
theorem twice (yk : IntKind) (a : BitVec 16) (ha : a.toNat < 32768) : Op.shift .shl .i64 (h a) yk 1 = pure (.int .i64 (h (a <<< 1))) := by
  rw [shift_shl .i64 yk (h a) 1 (by decide) (by decide)]
  refine congrArg (fun n => pure (Value.int .i64 n)) ?_
  unfold h
  rw [BitVec.toNat_shiftLeft, Nat.shiftLeft_eq]
  rw [show ((2 : Int) ^ (1 : Int).toNat) = 2 by decide, show (2 : Nat) ^ 1 = 2 by decide]
  rw [show ((a.toNat : Int)) * 2 = ((a.toNat * 2 % 2 ^ 16 : Nat) : Int) by omega]
  exact IntWalk.i64_in _ (by omega)
theorem down (a : BitVec 16) (n : Nat) : h a / 2 ^ n = h (a >>> n) := by
  unfold h
  rw [BitVec.toNat_ushiftRight, Nat.shiftRight_eq_div_pow, Int.natCast_ediv, Int.natCast_pow]; rfl
section
attribute [local go_sem] rxor
set_option maxHeartbeats 400000 in
theorem double_any (m : Nat) (h1 : 3 ≤ m) (h2 : m ≤ 14) (a : BitVec 16) (ha : a.toNat < 32768) :
    Gives 142 #[.int .i64 (h a), .int .i64 (m : Int), .int .i64 (h (poly m))] (.int .i64 (h (dbl m a))) := by
  intro w
  have s1 := fun yk => twice yk a ha
  have s2 := down (a <<< 1) m
  by_cases hc : (a <<< 1) >>> m = 0
  · have t : (h (a <<< 1) / 2 ^ m != 0) = false := by rw [s2, hc]; rfl
    clear s2
    have e : dbl m a = a <<< 1 := if_pos hc
    rw [e]
    clear e hc
    go_enter Tryz.func142, Tryz.ntmps142
    go_wp2
    go_ret
    exact ⟨rfl, rfl⟩
  · have t : (h (a <<< 1) / 2 ^ m != 0) = true := by
      rw [s2, bne_iff_ne]
      intro e
      exact hc (h_inj _ 0 e)
    clear s2
    have e : dbl m a = (a <<< 1) ^^^ poly m := if_neg hc
    rw [e]
    clear e hc
    go_enter Tryz.func142, Tryz.ntmps142
    go_wp2
    go_ret
    exact ⟨rfl, rfl⟩
end
end Go.Proofs.YtdhcigiaidlmbaaGreatDoor.Fld
/- The table of the fields' polynomials. By the verifier of shale. -/
namespace Go.Proofs.YtdhcigiaidlmbaaGreatDoor.Fld
open Go Go.RowKit Bits16
set_option linter.unusedVariables false
theorem poly_nth (m : Nat) (h1 : 3 ≤ m) (h2 : m ≤ 14) : ([Value.int .i64 11, .int .i64 19, .int .i64 37, .int .i64 67, .int .i64 137, .int .i64 285, .int .i64 529, .int .i64 1033, .int .i64 2053, .int .i64 4179, .int .i64 8219, .int .i64 17475] : List Value)[m - 3]? = some (.int .i64 (h (poly m))) := by
  rcases (by omega : m = 3 ∨ m = 4 ∨ m = 5 ∨ m = 6 ∨ m = 7 ∨ m = 8 ∨ m = 9 ∨ m = 10 ∨ m = 11 ∨ m = 12 ∨ m = 13 ∨ m = 14) with rfl | rfl | rfl | rfl | rfl | rfl | rfl | rfl | rfl | rfl | rfl | rfl <;> rfl
set_option maxRecDepth 100000 in
set_option maxHeartbeats 1000000 in
theorem poly_in (m : Nat) (h1 : 3 ≤ m) (h2 : m ≤ 14) (w : World) :
    Calls Tryz.prog 141 #[.int .i64 (m : Int)] w fun e w' => e = .returned (.int .i64 (h (poly m))) ∧ Below w.heap.size w w' := by
  have hc := poly_nth m h1 h2
  have a1 : (3 : Int) ≤ (m : Int) := by omega
  have a2 : (m : Int) ≤ 14 := by omega
  go_enter Tryz.func141, Tryz.ntmps141
  go_wp2
  go_ret
  exact ⟨rfl, (Below.refl _ _).alloc (Nat.le_refl _) _⟩
end Go.Proofs.YtdhcigiaidlmbaaGreatDoor.Fld
/- The maker of a field: what it lays. By the verifier of shale. -/
namespace Go.Proofs.YtdhcigiaidlmbaaGreatDoor.Fld
open Go Go.RowKit Bits16
set_option linter.unusedVariables false
/-- the first k powers of 2. -/
def exL (m k : Nat) : List Int := (List.range k).map fun i => h (pw m i)
theorem exL_succ (m k : Nat) : exL m (k + 1) = exL m k ++ [h (pw m k)] := by simp [exL, List.range_succ]
theorem exL_at (m k i : Nat) (hi : i < k) : nth64 (exL m k) i = h (pw m i) := by simp [nth64, exL, hi]
/-- the logarithms below k, 0 elsewhere. -/
def lgL (m k : Nat) : List Int := (List.range (els m)).map fun a => if a ≠ 0 ∧ lg m (BitVec.ofNat 16 a) < k then (lg m (BitVec.ofNat 16 a) : Int) else 0
theorem lgL_length (m k : Nat) : (lgL m k).length = els m := by simp [lgL]
theorem lgL_zero (m : Nat) : lgL m 0 = List.replicate (els m) 0 := by
  apply List.ext_getElem
  · simp [lgL]
  · intro i h1 h2
    simp [lgL]
theorem lgL_set (m : Nat) (h1 : 3 ≤ m) (h2 : m ≤ 14) (k : Nat) (hk : k < size m) : (lgL m k).set (h (pw m k)).toNat (k : Int) = lgL m (k + 1) := by
  have e : (h (pw m k)).toNat = (pw m k).toNat := by unfold h; omega
  rw [e]
  obtain ⟨p1, p2⟩ := pw_ne m h1 h2 k
  have hp := nat_pos _ p1
  have hm := pow14 m h2
  apply List.ext_getElem
  · simp [lgL]
  · intro i a b
    have hi : i < els m := by simpa [lgL] using b
    have hi2 : i < 2 ^ m := hi
    by_cases hc : (pw m k).toNat = i
    · have e2 : BitVec.ofNat 16 i = pw m k := by rw [← hc]; simp
      rw [List.getElem_set, if_pos hc]
      simp only [lgL, List.getElem_map, List.getElem_range, e2, lg_pw m h1 h2 k hk]
      rw [if_pos ⟨by omega, by omega⟩]
    · rw [List.getElem_set, if_neg hc]
      simp only [lgL, List.getElem_map, List.getElem_range]
      by_cases h0 : i = 0
      · subst h0; simp
      · have hn : (BitVec.ofNat 16 i).toNat = i := by rw [BitVec.toNat_ofNat]; exact Nat.mod_eq_of_lt (by omega)
        have hne : BitVec.ofNat 16 i ≠ 0 := by
          intro e3
          rw [e3] at hn
          exact h0 hn.symm
        obtain ⟨l1, l2⟩ := lg_spec m h1 h2 (BitVec.ofNat 16 i) (by omega) hne
        have hlk : lg m (BitVec.ofNat 16 i) ≠ k := by
          intro e3
          rw [e3] at l2
          apply hc
          rw [l2, hn]
        by_cases hlt : lg m (BitVec.ofNat 16 i) < k
        · rw [if_pos ⟨h0, hlt⟩, if_pos ⟨h0, by omega⟩]
        · rw [if_neg (fun e => hlt e.2), if_neg (fun e => by have := e.2; omega)]
theorem lgL_at (m : Nat) (h1 : 3 ≤ m) (h2 : m ≤ 14) (x : BitVec 16) (hx : x.toNat < 2 ^ m) : nth64 (lgL m (size m)) (h x).toNat = (lg m x : Int) := by
  have e : (h x).toNat = x.toNat := by unfold h; omega
  have hx2 : x.toNat < els m := hx
  rw [e]
  unfold nth64
  simp only [lgL, List.getD_eq_getElem?_getD]
  rw [List.getElem?_map, List.getElem?_range hx2]
  simp only [Option.map_some, Option.getD_some, BitVec.ofNat_toNat, BitVec.setWidth_eq]
  by_cases h0 : x = 0
  · subst h0
    rw [lg_zero m h1 h2]; simp
  · obtain ⟨l1, l2⟩ := lg_spec m h1 h2 x hx h0
    rw [if_pos ⟨by have := nat_pos x h0; omega, l1⟩]
/-- Block s is the field of m, its tables in blocks be and bl. -/
def FldAt (m : Nat) (w : World) (s be ce bl : Nat) : Prop :=
  w.heap[s]? = some (.cells #[.int .i64 (m : Int), .slice (some ⟨be, 0, none⟩) (size m) ce, .slice (some ⟨bl, 0, none⟩) (els m) (els m)] 191 (0, 0)) ∧ size m ≤ ce ∧
  (∀ i, i < size m → w.cell? ⟨be, i, none⟩ = some (.int .i64 (h (pw m i)))) ∧ (∀ x : BitVec 16, x.toNat < 2 ^ m → w.cell? ⟨bl, (h x).toNat, none⟩ = some (.int .i64 (lg m x : Int)))
theorem FldAt.lt {m : Nat} {w : World} {s be ce bl : Nat} (f : FldAt m w s be ce bl) (h1 : 3 ≤ m) : s < w.heap.size ∧ be < w.heap.size ∧ bl < w.heap.size :=
  ⟨lt_of_block f.1, World.block_lt_of_cell? w _ (f.2.2.1 0 (by have := size_pos m h1; omega)), World.block_lt_of_cell? w _ (f.2.2.2 1 (one_lt m h1))⟩
theorem FldAt.below {m : Nat} {w w' : World} {s be ce bl : Nat} (f : FldAt m w s be ce bl) (h1 : 3 ≤ m) (b : Below w.heap.size w w') : FldAt m w' s be ce bl := by
  obtain ⟨l1, l2, l3⟩ := f.lt h1
  exact ⟨(b.block s l1).trans f.1, f.2.1, fun i hi => (b.cell (p := ⟨be, i, none⟩) l2).trans (f.2.2.1 i hi), fun x hx => (b.cell (p := ⟨bl, _, none⟩) l3).trans (f.2.2.2 x hx)⟩
theorem FldAt.since {m : Nat} {w w' : World} {s be ce bl B : Nat} (f : FldAt m w s be ce bl) (h1 : 3 ≤ m) (hB : w.heap.size ≤ B) (b : Below B w w') : FldAt m w' s be ce bl := f.below h1 (b.mono hB)
theorem FldAt.drawn {m : Nat} {w w' : World} {s be ce bl : Nat} (f : FldAt m w s be ce bl) (h1 : 3 ≤ m) (d : Drawn w w') : FldAt m w' s be ce bl := f.below h1 (d.below _)
theorem FldAt.cells {m : Nat} {w : World} {s be ce bl : Nat} (f : FldAt m w s be ce bl) :
    w.cell? ⟨s, 0, none⟩ = some (.int .i64 (m : Int)) ∧ w.cell? ⟨s, 1, none⟩ = some (.slice (some ⟨be, 0, none⟩) (size m) ce) ∧ w.cell? ⟨s, 2, none⟩ = some (.slice (some ⟨bl, 0, none⟩) (els m) (els m)) := by
  have e := f.1
  refine ⟨?_, ?_, ?_⟩ <;> (unfold World.cell?; simp only; rw [e]; rfl)
/-- what the maker's loop has laid behind k rounds. -/
def Laying (m B k : Nat) (w wx : World) (v : Value) : Prop :=
  Own64 wx (B + 2) v k (exL m k) ∧ wx.heap[B + 1]? = some (.cells #[.int .i64 (m : Int), v, .slice (some ⟨B, 0, none⟩) (els m) (els m)] 191 (0, 0)) ∧ Blk64 wx B (lgL m k) ∧ Below B w wx
end Go.Proofs.YtdhcigiaidlmbaaGreatDoor.Fld
/- The walk over the maker of a field. By the verifier of shale. -/

namespace Go.Proofs.YtdhcigiaidlmbaaGreatDoor.Fld
open Go Go.RowKit Bits16
set_option linter.unusedVariables false
theorem shl_one (m : Nat) (h2 : m ≤ 14) : wrap64 (2 ^ m) = (els m : Int) := by
  have := els_hi m h2
  have e : ((2 : Int) ^ m) = (els m : Int) := by unfold els; rw [Int.natCast_pow]; rfl
  rw [e]
  exact IntWalk.wrap64_in _ (by omega)
theorem stored {m k B : Nat} (h1 : 3 ≤ m) (h2 : m ≤ 14) (hlt : k < size m) {w1 w7 : World} {v v' : Value} (hown : Own64 w7 (B + 2) v' (k + 1) (exL m (k + 1)))
    (hstr : w7.heap[B + 1]? = some (.cells #[.int .i64 (m : Int), v, .slice (some ⟨B, 0, none⟩) (els m) (els m)] 191 (0, 0))) (hblk : Blk64 w7 B (lgL m k)) (hbel : Below B w1 w7) :
    Laying m B (k + 1) w1 ((w7.setCell ⟨B + 1, 1, none⟩ v').setCell ⟨B, (h (pw m k)).toNat, none⟩ (.int .i64 (k : Int))) v' := by
  refine ⟨(hown.set _ _ (by show B + 1 < B + 2; omega)).set _ _ (by show B < B + 2; omega), ?_, ?_, (hbel.setCell (p := ⟨B + 1, 1, none⟩) (by show B ≤ B + 1; omega) _).setCell (p := ⟨B, _, none⟩) (Nat.le_refl _) _⟩
  · exact (Below.heap_setCell _ _ _ _ (by show B + 1 ≠ B; omega)).trans (set1 hstr v')
  · rw [← lgL_set m h1 h2 k hlt]
    have hblk2 : Blk64 (w7.setCell ⟨B + 1, 1, none⟩ v') B (lgL m k) := (Below.heap_setCell _ _ _ _ (by show B ≠ B + 1; omega)).trans hblk
    exact hblk2.set _ _
/-- the maker's answer: a field, and no error. -/
def NewAt (m : Nat) (w : World) (e : Ending) (w' : World) : Prop := ∃ s be ce bl, e = .returned (.tuple #[.pointer (some ⟨s, 0, none⟩), .nilIface]) ∧ FldAt m w' s be ce bl ∧ Below w.heap.size w w'
theorem pushed {m k B g7 cap7 : Nat} (h1 : 3 ≤ m) (h2 : m ≤ 14) (hlt : k < size m) {w1 wr w7 : World} {v : Value} (hown : Own64 wr (B + 2) v k (exL m k))
    (hstr : wr.heap[B + 1]? = some (.cells #[.int .i64 (m : Int), v, .slice (some ⟨B, 0, none⟩) (els m) (els m)] 191 (0, 0))) (hblk : Blk64 wr B (lgL m k)) (hbel : Below B w1 wr) {o : Obj}
    (hown7 : w7.ownsRow (B + 2) 3 1 (.slice (some ⟨g7, 0, none⟩) (k + 1) cap7) (k + 1) (cells64 (exL m k) ++ [.int .i64 (h (pw m k))])) (hgrow : (wr.alloc o).grownBy w7 v.ownBlock) :
    Own64 w7 (B + 2) (.slice (some ⟨g7, 0, none⟩) (k + 1) cap7) (k + 1) (exL m (k + 1)) ∧
    w7.heap[B + 1]? = some (.cells #[.int .i64 (m : Int), v, .slice (some ⟨B, 0, none⟩) (els m) (els m)] 191 (0, 0)) ∧ Blk64 w7 B (lgL m k) ∧ Below B w1 w7 ∧
    w7.cell? ⟨B + 1, 0, none⟩ = some (.int .i64 (m : Int)) ∧ w7.cell? ⟨B + 1, 1, none⟩ = some v ∧ w7.cell? ⟨B + 1, 2, none⟩ = some (.slice (some ⟨B, 0, none⟩) (els m) (els m)) ∧ (∀ i, w7.frozen? ⟨B + 1, i, none⟩ = false) ∧
    w7.cell? ⟨B, (h (pw m k)).toNat, none⟩ = some (.int .i64 (nth64 (lgL m k) (h (pw m k)).toNat)) ∧ w7.frozen? ⟨B, (h (pw m k)).toNat, none⟩ = false := by
  have hsz := lt_of_block hstr
  have hbl7 : ∀ j, j < B + 2 → w7.heap[j]? = wr.heap[j]? := fun j hj => (hgrow.block j (by simp; omega) (fun e => by have := (hown.block j e.symm).1; omega)).trans (Below.heap_alloc wr o j (by omega))
  have b7 : Below B w1 w7 := (hbel.alloc (by omega) o).grown hgrow (by simp; omega) (fun g hg => by have := (hown.block g hg).1; omega)
  have hstr7 := (hbl7 (B + 1) (by omega)).trans hstr
  have hblk7 : Blk64 w7 B (lgL m k) := (hbl7 B (by omega)).trans hblk
  obtain ⟨d0, d1, d2, df⟩ := three_cells hstr7
  refine ⟨?_, hstr7, hblk7, b7, d0, d1, d2, df, ?_, hblk7.free _⟩
  · unfold Own64
    rw [exL_succ, ← cells64_append]; exact hown7
  · exact hblk7.cell (by rw [lgL_length]; have := (pw_ne m h1 h2 k).2; unfold h els; omega)
set_option maxRecDepth 100000 in
set_option maxHeartbeats 1000000 in
theorem new_any (m : Nat) (h1 : 3 ≤ m) (h2 : m ≤ 14) (w : World) :
    Calls Tryz.prog 95 #[.int .i64 (m : Int)] w (NewAt m w) := by
  obtain ⟨i0, hi, hz0, hz1, hz2⟩ := info64
  have hp : (h (poly m) == 0) = false := by
    have := (poly_in_range m h1 h2).1
    have := two_le m h1
    rw [beq_eq_false_iff_ne]; unfold h; omega
  have ho := shl_one m h2
  have hmk := fun w => made64 w (els m) (by have := els_hi m h2; omega)
  go_enter Tryz.func95, Tryz.ntmps95
  go_wp2_with fail
  refine (poly_in m h1 h2 w).mono ?_
  rintro e w1 ⟨rfl, b1⟩
  go_wp2_with fail
  have hst0 : Laying m w1.heap.size 0 w1 ((w1.alloc (obj64 (List.replicate (els m) 0))).alloc (.cells #[.int .i64 (m : Int), .slice none 0 0, .slice (some ⟨w1.heap.size, 0, none⟩) (els m) (els m)] 191 (0, 0))) (.slice none 0 0) := by
    refine ⟨Own64.nil _ _, ?_, ?_, ?_⟩
    · have := heap_alloc_new (w1.alloc (obj64 (List.replicate (els m) 0))) (.cells #[.int .i64 (m : Int), .slice none 0 0, .slice (some ⟨w1.heap.size, 0, none⟩) (els m) (els m)] 191 (0, 0))
      rwa [World.size_alloc] at this
    · rw [lgL_zero]
      exact (Below.heap_alloc _ _ _ (by simp)).trans (Blk64.new w1 _)
    · exact ((Below.refl _ _).alloc (Nat.le_refl _) _).alloc (by simp) _
  generalize (w1.alloc (obj64 (List.replicate (els m) 0))).alloc (.cells #[.int .i64 (m : Int), .slice none 0 0, .slice (some ⟨w1.heap.size, 0, none⟩) (els m) (els m)] 191 (0, 0)) = w2 at hst0 ⊢
  obtain ⟨B, hB⟩ : ∃ B, B = w1.heap.size := ⟨_, rfl⟩
  rw [← hB] at hst0 ⊢
  have HB := Lib.hid hB
  clear hB hmk ho
  have he1 := els_eq m
  have HE := Lib.hid he1
  have e1 := els_lo m h1
  have e2 := els_hi m h2
  have z1 := size_lo m h1
  have z2 : size m + 1 ≤ els m := by omega
  have z3 : els m ≤ size m + 1 := by omega
  clear he1
  go_loopg [6, 7] (size m) (fun g s6 s7 wx => ∃ k : Nat, k ≤ size m ∧ g = size m - k ∧ s7 = .int .i64 (k : Int) ∧ s6 = .int .i64 (h (pw m k)) ∧ ∃ v, Laying m B k w1 wx v)
  case atStart => exact ⟨0, Nat.zero_le _, rfl, rfl, rfl, _, hst0⟩
  case round =>
    obtain ⟨k, hk, hg, rfl, rfl, v, hown, hstr, hblk, hbel⟩ := hrel
    have HG := Lib.hid hg
    clear hg
    obtain ⟨c0, c1, c2, cf⟩ := three_cells hstr
    have y1 : (0 : Int) ≤ (k : Int) := by omega
    by_cases hlt : k < size m
    · have y2 : (k : Int) < (els m : Int) - 1 := by omega
      have hbs := hbel.size
      have hsz : B + 2 ≤ wr.heap.size := by
        have := lt_of_block hstr
        omega
      go_wp2_with (at_builtin; refine wpList_append_own _ rfl _ _ 65 rfl (B + 2) 3 i0 (.int .i64 0) 1 8 Tryz.underlying65 hi hz0 hz1 hz2 rfl (by decide) _ k _ rfl (World.ownsRow.alloc hown _) ⟨wr.heap.size, 0, none⟩ 1 1 [.int .i64 (h (pw m k))] rfl rfl (cell_one_new _ _ _) (ints_oneCell .i64 [_]) (by unfold maxLen; omega) (by omega) (by simp; omega) ?_; intro v7 w7 hown7 hgrow _; obtain ⟨g7, cap7, rfl⟩ := ownsRow_succ hown7; obtain ⟨hown8, hstr7, hblk7, b7, d0, d1, d2, df, d3, d4⟩ := pushed h1 h2 hlt hown hstr hblk hbel hown7 hgrow; have y3 := h_lo (pw m k); have y4 : Bits16.h (pw m k) < (els m : Int) := el_h_lt m h2 _ (pw_ne m h1 h2 k).2; clear hown7 hgrow c0 c1 c2 cf)
      have HS := Lib.hid (And.intro hstr7 hblk7)
      clear hstr7 hblk7
      have HW := Lib.hid (pw_succ m k)
      have hpl := (pw_ne m h1 h2 k).2
      have hp14 := pow14 m h2
      refine (double_any m h1 h2 (pw m k) (by omega) _).mono ?_
      rintro e w8 ⟨rfl, rfl⟩
      have hL := stored h1 h2 hlt hown8 HS.out.1 HS.out.2 b7
      clear d0 d1 d2 df d3 d4 b7 hbel hstr hblk hown hown8
      generalize (w7.setCell ⟨B + 1, 1, none⟩ (.slice (some ⟨g7, 0, none⟩) (k + 1) cap7)).setCell ⟨B, (h (pw m k)).toNat, none⟩ (.int .i64 (k : Int)) = w9 at hL ⊢
      go_wp2
      go_roundg (size m - (k + 1))
      case measure => have := HG.out; omega
      case rel => exact ⟨k + 1, by omega, rfl, by go_num, by rw [HW.out], _, hL⟩
    · obtain rfl : k = size m := by omega
      have y2 : ¬ ((size m : Int) < (els m : Int) - 1) := by omega
      obtain ⟨g, cap, rfl, hg1, hg2, hg3, hg4⟩ := hown.cells (by omega)
      have hF : FldAt m wr (B + 1) g cap B := by
        refine ⟨hstr, hg3, fun i hi => by rw [hg4 i hi, exL_at m _ i hi], fun x hx => ?_⟩
        rw [hblk.cell (by rw [lgL_length]; unfold h els; omega), lgL_at m h1 h2 x hx]
      have hb2 : Below w.heap.size w wr := b1.trans (hbel.mono (by rw [HB.out]; exact b1.size))
      clear hstr hblk hbel hown hg4
      go_wp2
      go_ret2
      exact ⟨B + 1, g, cap, B, rfl, hF, hb2⟩
end Go.Proofs.YtdhcigiaidlmbaaGreatDoor.Fld
/- The methods of a field but its traces: what each answers. By the verifier of shale. -/
namespace Go.Proofs.YtdhcigiaidlmbaaGreatDoor.Fld
open Go Go.RowKit Bits16
set_option linter.unusedVariables false
theorem h_zero {x : BitVec 16} (e : x = 0) : (h x == 0) = true := by subst e; rfl
theorem h_not {x : BitVec 16} (e : x ≠ 0) : (h x == 0) = false := by
  rw [beq_eq_false_iff_ne]
  intro e2
  exact e (h_inj x 0 e2)
section
variable {m s be ce bl : Nat}
set_option maxHeartbeats 400000 in
theorem fm_any (w : World) (f : FldAt m w s be ce bl) :
    Calls Tryz.prog 143 #[.pointer (some ⟨s, 0, none⟩)] w fun e w' => e = .returned (.int .i64 (m : Int)) ∧ w = w' := by
  obtain ⟨c0, c1, c2⟩ := f.cells
  clear f
  go_enter Tryz.func143, Tryz.ntmps143
  go_wp2
  go_ret
  exact ⟨rfl, rfl⟩
set_option maxHeartbeats 400000 in
theorem size_any (w : World) (f : FldAt m w s be ce bl) :
    Calls Tryz.prog 193 #[.pointer (some ⟨s, 0, none⟩)] w fun e w' => e = .returned (.int .i64 (els m : Int)) ∧ w = w' := by
  obtain ⟨c0, c1, c2⟩ := f.cells
  clear f
  go_enter Tryz.func193, Tryz.ntmps193
  go_wp2
  go_ret
  exact ⟨rfl, rfl⟩
theorem rem_cases (h1 : 3 ≤ m) (z : Int) : (0 ≤ z.tmod (size m : Int) ∧ z.tmod (size m : Int) < (size m : Int) ∧ h (pw m (z.tmod (size m : Int)).toNat) = h (pwZ m z)) ∨
    (z.tmod (size m : Int) < 0 ∧ 0 ≤ z.tmod (size m : Int) + (size m : Int) ∧ z.tmod (size m : Int) + (size m : Int) < (size m : Int) ∧ h (pw m (z.tmod (size m : Int) + (size m : Int)).toNat) = h (pwZ m z)) := by
  have z1 := size_lo m h1
  have q1 := Int.tmod_lt_of_pos z (b := (size m : Int)) (by omega)
  have q2 : -(size m : Int) < z.tmod (size m : Int) := by
    have := Int.tmod_lt_of_pos (-z) (b := (size m : Int)) (by omega)
    rw [Int.neg_tmod] at this
    omega
  have hd : z % (size m : Int) = (z.tmod (size m : Int)) % (size m : Int) := by
    rw [Int.tmod_eq_emod]
    split
    · simp
    · rw [Int.natAbs_natCast, Int.sub_emod, Int.emod_self, Int.emod_emod, Int.sub_zero, Int.emod_emod]
  by_cases hn : z.tmod (size m : Int) < 0
  · refine Or.inr ⟨hn, by omega, by omega, ?_⟩
    unfold pwZ
    rw [hd]
    have : (z.tmod (size m : Int)) % (size m : Int) = z.tmod (size m : Int) + (size m : Int) := by
      rw [← Int.add_emod_right]
      exact Int.emod_eq_of_lt (by omega) (by omega)
    rw [this]
  · refine Or.inl ⟨by omega, q1, ?_⟩
    unfold pwZ
    rw [hd, Int.emod_eq_of_lt (by omega) q1]
variable (h1 : 3 ≤ m) (h2 : m ≤ 14)
include h1 h2
set_option maxHeartbeats 400000 in
theorem element_any (z : Int) (w : World) (f : FldAt m w s be ce bl) :
    Calls Tryz.prog 200 #[.pointer (some ⟨s, 0, none⟩), .int .i64 z] w fun e w' => e = .returned (.int .i64 (h (el m z))) ∧ w = w' := by
  obtain ⟨c0, c1, c2⟩ := f.cells
  have ha := and_els m h2 z
  have e1 := els_lo m h1
  have e2 := els_hi m h2
  clear f
  go_enter Tryz.func200, Tryz.ntmps200
  go_wp2
  go_ret
  exact ⟨rfl, rfl⟩
set_option maxHeartbeats 400000 in
theorem add_any (a b : Int) (w : World) (f : FldAt m w s be ce bl) :
    Calls Tryz.prog 189 #[.pointer (some ⟨s, 0, none⟩), .int .i64 a, .int .i64 b] w fun e w' => e = .returned (.int .i64 (h (el m a ^^^ el m b))) ∧ w = w' := by
  have HX := Lib.hid (el_xor m h2 a b)
  go_enter Tryz.func189, Tryz.ntmps189
  go_wp2_with fail
  refine (element_any h1 h2 _ _ f).mono ?_
  rintro e w1 ⟨rfl, rfl⟩
  rw [HX.out]
  go_wp2
  go_ret
  exact ⟨rfl, rfl⟩
set_option maxHeartbeats 400000 in
theorem fexp_any (z : Int) (w : World) (f : FldAt m w s be ce bl) :
    Calls Tryz.prog 184 #[.pointer (some ⟨s, 0, none⟩), .int .i64 z] w fun e w' => e = .returned (.int .i64 (h (pwZ m z))) ∧ w = w' := by
  obtain ⟨c0, c1, c2⟩ := f.cells
  have z1 := size_lo m h1
  have z2 := size_hi m h2
  have HC := f.2.2.1
  have hce := f.2.1
  clear f
  rcases rem_cases h1 z with ⟨r1, r2, r3⟩ | ⟨r1, r0, r2, r3⟩
  · have c3 := HC (z.tmod (size m : Int)).toNat (by omega)
    have HR := Lib.hid r3
    clear HC r3
    go_enter Tryz.func184, Tryz.ntmps184
    go_wp2
    go_ret
    exact ⟨ret_i64 HR.out, rfl⟩
  · have c3 := HC (z.tmod (size m : Int) + (size m : Int)).toNat (by omega)
    have HR := Lib.hid r3
    clear HC r3
    go_enter Tryz.func184, Tryz.ntmps184
    go_wp2
    go_ret
    exact ⟨ret_i64 HR.out, rfl⟩
set_option maxHeartbeats 400000 in
theorem mul_zero (a b : Int) (w : World) (f : FldAt m w s be ce bl) (h0 : el m a = 0 ∨ el m b = 0) :
    Calls Tryz.prog 187 #[.pointer (some ⟨s, 0, none⟩), .int .i64 a, .int .i64 b] w fun e w' => e = .returned (.int .i64 (h (fmul m (el m a) (el m b)))) ∧ Drawn w w' := by
  have e : h (fmul m (el m a) (el m b)) = 0 := by
    rcases h0 with h0 | h0
    · rw [h0, zero_fmul m h1 h2]; rfl
    · rw [h0, fmul_zero]; rfl
  rw [e]
  clear e
  have ht : (h (el m a) == 0) = true ∨ ((h (el m a) == 0) = false ∧ (h (el m b) == 0) = true) := by
    by_cases ha : el m a = 0
    · exact Or.inl (h_zero ha)
    · rcases h0 with h0 | h0
      · exact absurd h0 ha
      · exact Or.inr ⟨h_not ha, h_zero h0⟩
  clear h0
  rcases ht with t | ⟨t, t2⟩
  all_goals
    go_enter Tryz.func187, Tryz.ntmps187
    go_wp2_with fail
    refine (element_any h1 h2 _ _ f).mono ?_
    rintro e w1 ⟨rfl, rfl⟩
    go_wp2_with fail
    refine (element_any h1 h2 _ _ f).mono ?_
    rintro e w1 ⟨rfl, rfl⟩
    clear f
    go_wp2_with fail
    go_ret
    exact ⟨rfl, Drawn.refl _⟩
set_option maxHeartbeats 1000000 in
theorem mul_some (a b : Int) (w : World) (f : FldAt m w s be ce bl) (ha : el m a ≠ 0) (hb : el m b ≠ 0) :
    Calls Tryz.prog 187 #[.pointer (some ⟨s, 0, none⟩), .int .i64 a, .int .i64 b] w fun e w' => e = .returned (.int .i64 (h (fmul m (el m a) (el m b)))) ∧ Drawn w w' := by
  obtain ⟨la, pa⟩ := lg_spec m h1 h2 _ (el_lt m h2 a) ha
  obtain ⟨lb, pb⟩ := lg_spec m h1 h2 _ (el_lt m h2 b) hb
  have t := h_not ha
  have t2 := h_not hb
  obtain ⟨c0, c1, c2⟩ := f.cells
  have c3 := f.2.2.2 (el m a) (el_lt m h2 a)
  have c4 := f.2.2.2 (el m b) (el_lt m h2 b)
  have y1 := h_lo (el m a)
  have y2 := el_h_lt m h2 _ (el_lt m h2 a)
  have y3 := h_lo (el m b)
  have y4 := el_h_lt m h2 _ (el_lt m h2 b)
  have e2 := els_hi m h2
  have z1 := size_lo m h1
  have z2 := size_hi m h2
  have hce := f.2.1
  have HC := f.2.2.1
  have hfm : h (fmul m (el m a) (el m b)) = h (pw m (lg m (el m a) + lg m (el m b))) := by
    rw [← fmul_pw m h1 h2, pa, pb]
  rw [hfm]
  clear hfm pa pb ha hb
  have hcs : (lg m (el m a) + lg m (el m b) < size m ∧ w.cell? ⟨be, lg m (el m a) + lg m (el m b), none⟩ = some (.int .i64 (h (pw m (lg m (el m a) + lg m (el m b)))))) ∨
      (size m ≤ lg m (el m a) + lg m (el m b) ∧ w.cell? ⟨be, lg m (el m a) + lg m (el m b) - size m, none⟩ = some (.int .i64 (h (pw m (lg m (el m a) + lg m (el m b)))))) := by
    by_cases hlt : lg m (el m a) + lg m (el m b) < size m
    · exact Or.inl ⟨hlt, HC _ hlt⟩
    · refine Or.inr ⟨by omega, ?_⟩
      have := HC (lg m (el m a) + lg m (el m b) - size m) (by omega)
      rw [this]
      have := pw_size_mul m h1 h2 1 (lg m (el m a) + lg m (el m b) - size m)
      rw [Nat.mul_one, show size m + (lg m (el m a) + lg m (el m b) - size m) = lg m (el m a) + lg m (el m b) by omega] at this
      rw [this]
  clear HC
  generalize h (pw m (lg m (el m a) + lg m (el m b))) = r at hcs ⊢
  generalize lg m (el m a) = i at c3 hcs la ⊢
  generalize lg m (el m b) = j at c4 hcs lb ⊢
  rcases hcs with ⟨q1, c5⟩ | ⟨q1, c5⟩
  all_goals
    go_enter Tryz.func187, Tryz.ntmps187
    go_wp2_with fail
    refine (element_any h1 h2 _ _ f).mono ?_
    rintro e w1 ⟨rfl, rfl⟩
    go_wp2_with fail
    refine (element_any h1 h2 _ _ f).mono ?_
    rintro e w1 ⟨rfl, rfl⟩
    clear f
    go_wp2_with fail
    go_quiet (fail)
    go_wp2_with fail
    go_ret
    exact ⟨rfl, Drawn.mk _ _⟩
theorem mul_any (a b : Int) (w : World) (f : FldAt m w s be ce bl) :
    Calls Tryz.prog 187 #[.pointer (some ⟨s, 0, none⟩), .int .i64 a, .int .i64 b] w fun e w' => e = .returned (.int .i64 (h (fmul m (el m a) (el m b)))) ∧ Drawn w w' := by
  by_cases ha : el m a = 0
  · exact mul_zero h1 h2 a b w f (Or.inl ha)
  · by_cases hb : el m b = 0
    · exact mul_zero h1 h2 a b w f (Or.inr hb)
    · exact mul_some h1 h2 a b w f ha hb
end
end Go.Proofs.YtdhcigiaidlmbaaGreatDoor.Fld
/- What a walk is told of a slice of integers that came in. By the verifier of shale. -/
namespace Go.Proofs.YtdhcigiaidlmbaaGreatDoor
open Go Go.RowKit
/-- A slice of integers that came in: it is nil; or it leads to a row of 'cap' cells, the numbers 'zs' (the first 'len' are its elements, the rest its spare room), each fitting its kind. -/
def IsRow (k : IntKind) (w : World) (a : Option Addr) (len cap : Nat) (zs : List Int) : Prop :=
  (a = none ∧ len = 0 ∧ cap = 0 ∧ zs = []) ∨
  ∃ x, a = some x ∧ len ≤ cap ∧ cap ≤ maxLen ∧ zs.length = cap ∧ (∀ i, i < zs.length → w.cell? (x.add i) = some (.int k (zs.getD i 0))) ∧ ∀ n ∈ zs, (Lit.int k n).wf = true

theorem add_row (bb off i : Nat) : (⟨bb, off, none⟩ : Addr).add i = ⟨bb, off + i, none⟩ := by
  by_cases h : i = 0 <;> simp [Addr.add, h]
theorem b_ofInt (n : Int) (h : (Lit.int .u8 n).wf = true) : Bits32.b (BitVec.ofInt 8 n) = n := by
  have h2 := bounds_u8 h
  unfold Bits32.b
  rw [BitVec.toNat_ofInt]
  omega
/-- bytes that came in: none of them, or a row. -/
theorem IsRow.bytes {w : World} {a : Option Addr} {len cap : Nat} {zs : List Int} (h : IsRow .u8 w a len cap zs) :
    len ≤ maxLen ∧ ((len = 0) ∨ ∃ bb off l, a = some ⟨bb, off, none⟩ ∧ l.length = len ∧ len ≤ cap ∧ Row8 w bb off l ∧ bb < w.heap.size) := by
  rcases h with ⟨rfl, rfl, rfl, rfl⟩ | ⟨x, rfl, hl, hm, hz, hc, hw⟩
  · exact ⟨Nat.zero_le _, Or.inl rfl⟩
  · refine ⟨by omega, ?_⟩
    by_cases h0 : len = 0
    · exact Or.inl h0
    · obtain ⟨bb, off, spot⟩ := x
      have c0 := hc 0 (by omega)
      obtain rfl : spot = none := by simpa [Addr.add] using World.cell?_spot c0
      refine Or.inr ⟨bb, off, (zs.take len).map (BitVec.ofInt 8), rfl, by simp; omega, hl, ?_, World.block_lt_of_cell? w _ c0⟩
      intro i hi
      have hi' : i < len := by simp at hi; omega
      have ci := hc i (by omega)
      have hz' : i < zs.length := by omega
      have e : nth8 ((zs.take len).map (BitVec.ofInt 8)) i = BitVec.ofInt 8 (zs.getD i 0) := by
        unfold nth8
        rw [List.getD_eq_getElem?_getD, List.getElem?_map, List.getElem?_take_of_lt hi', List.getElem?_eq_getElem hz', List.getD_eq_getElem?_getD, List.getElem?_eq_getElem hz']
        rfl
      rw [e, b_ofInt]
      · rwa [add_row] at ci
      · rw [List.getD_eq_getElem?_getD, List.getElem?_eq_getElem hz']
        exact hw _ (List.getElem_mem hz')
/-- an int that came in. -/
theorem int64_bounds {x : Int} (h : (Lit.int .i64 x).wf = true) : -9223372036854775808 ≤ x ∧ x ≤ 9223372036854775807 := bounds_i64 h
/-- a slice of ints that came in: each element is there. -/
theorem IsRow.at {k : IntKind} {w : World} {a : Option Addr} {len cap : Nat} {zs : List Int} (h : IsRow k w a len cap zs) :
    len ≤ maxLen ∧ len ≤ cap ∧ ∀ i, i < len → ∃ bb off z, a = some ⟨bb, off, none⟩ ∧ w.cell? ⟨bb, off + i, none⟩ = some (.int k z) ∧ bb < w.heap.size ∧ (Lit.int k z).wf = true := by
  rcases h with ⟨rfl, rfl, rfl, rfl⟩ | ⟨x, rfl, hl, hm, hz, hc, hw⟩
  · exact ⟨Nat.zero_le _, Nat.le_refl _, fun i hi => by omega⟩
  · refine ⟨by omega, hl, fun i hi => ?_⟩
    obtain ⟨bb, off, spot⟩ := x
    have c0 := hc i (by omega)
    obtain rfl : spot = none := by simpa [Addr.add] using World.cell?_spot (hc 0 (by omega))
    rw [add_row] at c0
    refine ⟨bb, off, _, rfl, c0, World.block_lt_of_cell? w _ c0, ?_⟩
    rw [List.getD_eq_getElem?_getD, List.getElem?_eq_getElem (by omega)]
    exact hw _ (List.getElem_mem (by omega))
end Go.Proofs.YtdhcigiaidlmbaaGreatDoor
/- The walks over package fieldpoly: element, Degree, Trim, cut. By the verifier of shale. -/
namespace Go.Proofs.YtdhcigiaidlmbaaGreatDoor.Pl
open Go Go.RowKit Fld Bits16
set_option linter.unusedVariables false
/-- a ring over a field of m bits. -/
def RingAt (m : Nat) (w : World) (g s be ce bl : Nat) : Prop := w.heap[g]? = some (.cells #[.pointer (some ⟨s, 0, none⟩)] 241 (0, 0)) ∧ FldAt m w s be ce bl
theorem RingAt.below {m : Nat} [M : Mid m] {w w' : World} {g s be ce bl : Nat} (h : RingAt m w g s be ce bl) (b : Below w.heap.size w w') : RingAt m w' g s be ce bl :=
  ⟨(b.block g (lt_of_block h.1)).trans h.1, h.2.below M.lo b⟩
theorem RingAt.drawn {m : Nat} [M : Mid m] {w w' : World} {g s be ce bl : Nat} (h : RingAt m w g s be ce bl) (d : Drawn w w') : RingAt m w' g s be ce bl := h.below (d.below _)
theorem RingAt.cell {m : Nat} {w : World} {g s be ce bl : Nat} (h : RingAt m w g s be ce bl) : w.cell? ⟨g, 0, none⟩ = some (.pointer (some ⟨s, 0, none⟩)) := by
  unfold World.cell?
  simp only
  rw [h.1]; rfl
/-- numbers that stand in a row from an address on, or none. -/
structure RowZ (w : World) (a : Option Addr) (n cap : Nat) (l : List Int) : Prop where
  hlen : n = l.length
  hcap : n ≤ cap
  hmost : cap ≤ maxLen
  row : ∀ i, i < n → ∃ bb off, a = some ⟨bb, off, none⟩ ∧ w.cell? ⟨bb, off + i, none⟩ = some (.int .i64 (l.getD i 0)) ∧ bb < w.heap.size
theorem RowZ.below {w w' : World} {a : Option Addr} {n cap : Nat} {l : List Int} (h : RowZ w a n cap l) (b : Below w.heap.size w w') : RowZ w' a n cap l :=
  ⟨h.hlen, h.hcap, h.hmost, fun i hi => by
    obtain ⟨bb, off, e, hc, hb⟩ := h.row i hi
    exact ⟨bb, off, e, (b.cell (p := ⟨bb, off + i, none⟩) hb).trans hc, Nat.lt_of_lt_of_le hb b.size⟩⟩
theorem RowZ.take {w : World} {a : Option Addr} {n cap : Nat} {l : List Int} (h : RowZ w a n cap l) (k : Nat) (hk : k ≤ n) : RowZ w a k cap (l.take k) :=
  ⟨by rw [List.length_take]; have := h.hlen; omega, Nat.le_trans hk h.hcap, h.hmost, fun i hi => by
    obtain ⟨bb, off, e, hc, hb⟩ := h.row i (by omega)
    refine ⟨bb, off, e, ?_, hb⟩
    rw [hc, List.getD_eq_getElem?_getD, List.getD_eq_getElem?_getD, List.getElem?_take_of_lt hi]⟩
section
variable {m : Nat} [M : Mid m]
theorem add_val0 (a : Int) : h (el m a ^^^ el m 0) = zn (elm m a) := by
  have e : el m 0 = 0 := congrArg Subtype.val (elm_zero (m := m))
  rw [e]
  show h (el m a ^^^ 0#16) = _
  rw [BitVec.xor_zero]; rfl
set_option maxRecDepth 100000 in
theorem elem_any {g s be ce bl : Nat} (a : Int) (w : World) (R : RingAt m w g s be ce bl) :
    Calls Tryz.prog 199 #[.pointer (some ⟨g, 0, none⟩), .int .i64 a] w fun e w' => e = .returned (.int .i64 (zn (elm m a))) ∧ w = w' := by
  have c0 := R.cell
  have HF := Lib.hid R.2
  have HE := Lib.hid (add_val0 (m := m) a)
  clear R
  go_enter Tryz.func199, Tryz.ntmps199
  go_wp2_with fail
  refine (add_any M.lo M.hi a 0 w HF.out).mono ?_
  rintro e w1 ⟨rfl, rfl⟩
  rw [HE.out]
  go_wp2_with fail
  go_ret
  exact ⟨rfl, rfl⟩
theorem sr_at (l : List Int) (i : Nat) : elm m (l.getD i 0) = sr m l i := rfl
set_option maxRecDepth 100000 in
set_option maxHeartbeats 1000000 in
theorem deg_any {g s be ce bl : Nat} (a : Option Addr) (n cap : Nat) (l : List Int) (w : World) (R : RingAt m w g s be ce bl) (h : RowZ w a n cap l) :
    Calls Tryz.prog 198 #[.pointer (some ⟨g, 0, none⟩), .slice a n cap] w fun e w' => e = .returned (.int .i64 ((top (sr m l) n : Int) - 1)) ∧ w = w' := by
  have HR := Lib.hid R
  have HP := Lib.hid h
  have hm : n ≤ maxLen := Nat.le_trans h.hcap h.hmost
  unfold maxLen at hm
  clear R h
  go_enter Tryz.func198, Tryz.ntmps198
  go_wp2_with fail
  go_loopg [5] n (fun gh s5 wx => ∃ k : Nat, gh = k ∧ k ≤ n ∧ s5 = .int .i64 ((k : Int) - 1) ∧ Hid (top (sr m l) k = top (sr m l) n) ∧ w = wx)
  case atStart => exact ⟨n, rfl, Nat.le_refl _, rfl, rfl, rfl⟩
  case round =>
    obtain ⟨k, hg, hk, rfl, HT, rfl⟩ := hrel
    have HG := Lib.hid hg
    clear hg
    rcases k with _ | k
    · have HF : Hid ((top (sr m l) n : Int) - 1 = -1) := by show _ = _; rw [← HT.out]; rfl
      clear HT
      go_wp2_with fail
      go_ret
      exact ⟨ret_i64 HF.out.symm, rfl⟩
    · have x0 : (0 : Int) ≤ (k : Int) := by omega
      have x1 : (k : Int) < (n : Int) := by omega
      obtain ⟨bb, off, rfl, c1, hb⟩ := HP.out.row k (by omega)
      have hz := zn_eq0 (sr m l k)
      by_cases h0 : sr m l k = 0
      · rw [decide_eq_true h0] at hz
        have HN : Hid (top (sr m l) k = top (sr m l) n) := by
          show _ = _
          rw [← top_zero h0]; exact HT.out
        clear HT h0 hb
        go_wp2_with fail
        refine (elem_any (l.getD k 0) w HR.out).mono ?_
        rintro e w1 ⟨rfl, rfl⟩
        rw [sr_at]
        go_wp2_with fail
        go_roundg k
        case measure => have := HG.out; omega
        case rel => exact ⟨k, rfl, by omega, by go_num, HN.out, rfl⟩
      · rw [decide_eq_false h0] at hz
        have HN : Hid ((top (sr m l) n : Int) - 1 = (k : Int)) := by
          show _ = _
          rw [← HT.out, top_some h0]
          omega
        clear HT h0 hb
        go_wp2_with fail
        refine (elem_any (l.getD k 0) w HR.out).mono ?_
        rintro e w1 ⟨rfl, rfl⟩
        rw [sr_at]
        go_wp2_with fail
        go_ret
        exact ⟨ret_i64 HN.out.symm, rfl⟩
end
end Go.Proofs.YtdhcigiaidlmbaaGreatDoor.Pl
/- The walk over package fieldpoly's addTimes. By the verifier of shale. -/
namespace Go.Proofs.YtdhcigiaidlmbaaGreatDoor.Pl
open Go Go.RowKit Fld Bits16
set_option linter.unusedVariables false
theorem RowZ.upd {s : Nat} {w w' : World} {a : Option Addr} {n cap : Nat} {l : List Int} (h : RowZ w a n cap l) (o : Upd s w w') (hne : ∀ bb off, a = some ⟨bb, off, none⟩ → n ≠ 0 → bb ≠ s) : RowZ w' a n cap l :=
  ⟨h.hlen, h.hcap, h.hmost, fun i hi => by
    obtain ⟨bb, off, e, hc, hb⟩ := h.row i hi
    exact ⟨bb, off, e, (o.cell (p := ⟨bb, off + i, none⟩) hb (hne bb off e (by omega))).trans hc, Nat.lt_of_lt_of_le hb o.size⟩⟩
theorem fld_upd {m : Nat} [M : Mid m] {x : Nat} {w w' : World} {s be ce bl : Nat} (f : FldAt m w s be ce bl) (o : Upd x w w') (n1 : s ≠ x) (n2 : be ≠ x) (n3 : bl ≠ x) : FldAt m w' s be ce bl := by
  obtain ⟨l1, l2, l3⟩ := f.lt M.lo
  exact ⟨(o.block s l1 n1).trans f.1, f.2.1, fun i hi => (o.cell (p := ⟨be, i, none⟩) l2 n2).trans (f.2.2.1 i hi), fun x hx => (o.cell (p := ⟨bl, _, none⟩) l3 n3).trans (f.2.2.2 x hx)⟩
theorem nums_set {m : Nat} (p q : Ser (El m)) (n i : Nat) (hi : ∀ j, j ≠ i → q j = p j) : (nums p n).set i (zn (q i)) = nums q n := by
  apply List.ext_getElem
  · simp [nums]
  · intro j h1 h2
    rw [List.getElem_set]
    simp only [nums, List.getElem_map, List.getElem_range]
    by_cases e : i = j
    · subst e; rw [if_pos rfl]
    · rw [if_neg e, hi j (Ne.symm e)]
section
variable {m : Nat} [M : Mid m]
/-- the first k of it. -/
def cutS (q : Ser (El m)) (k : Nat) : Ser (El m) := fun i => if i < k then q i else 0
theorem cutS_all {q : Ser (El m)} {k : Nat} (h : Bd q k) : cutS q k = q := funext fun i => by
  unfold cutS
  by_cases hi : i < k
  · rw [if_pos hi]
  · rw [if_neg hi, h i (by omega)]
theorem zn_add (a b : El m) : bits .xor .i64 (zn a) (zn b) = zn (a + b) := rxor a.val b.val
/-- one step of a times q, laid off places up. -/
theorem times_at (P q : Ser (El m)) (c : El m) (off k : Nat) : ∀ j, j ≠ off + k → padd P (cv (mono off c) (cutS q (k + 1))) j = padd P (cv (mono off c) (cutS q k)) j := by
  intro j hj
  show P j + cv _ _ j = P j + cv _ _ j
  rw [cv_mono, cv_mono]
  by_cases h : j < off
  · rw [if_pos h, if_pos h]
  · rw [if_neg h, if_neg h]
    have : cutS q (k + 1) (j - off) = cutS q k (j - off) := by
      unfold cutS
      by_cases h2 : j - off < k
      · rw [if_pos h2, if_pos (by omega)]
      · rw [if_neg h2, if_neg (by omega)]
    rw [this]
theorem times_new (P q : Ser (El m)) (c : El m) (off k : Nat) : padd P (cv (mono off c) (cutS q (k + 1))) (off + k) = padd P (cv (mono off c) (cutS q k)) (off + k) + q k * c := by
  show P _ + cv _ _ _ = (P _ + cv _ _ _) + _
  rw [cv_mono, cv_mono, if_neg (by omega), if_neg (by omega), show off + k - off = k by omega]
  have e1 : cutS q (k + 1) k = q k := if_pos (by omega)
  have e2 : cutS q k k = 0 := if_neg (by omega)
  rw [e1, e2, mul_zero, Fl.add_zero, Fl.mul_comm c]
theorem mul_zn (a b : Int) : h (fmul m (el m a) (el m b)) = zn (elm m a * elm m b) := rfl
set_option maxRecDepth 100000 in
set_option maxHeartbeats 2000000 in
theorem times_any {s be ce bl : Nat} (gs off ns cs N : Nat) (P : Ser (El m)) (a : Option Addr) (n cap : Nat) (l : List Int) (c : Int) (w : World) (F : FldAt m w s be ce bl) (hk : Blk64 w gs (nums P N)) (hN : off + ns ≤ N) (h : RowZ w a n cap l) (hn : n ≤ ns) (hm : N ≤ 1000000)
    (n1 : s ≠ gs) (n2 : be ≠ gs) (n3 : bl ≠ gs) (hne : ∀ bb o, a = some ⟨bb, o, none⟩ → n ≠ 0 → bb ≠ gs) :
    Calls Tryz.prog 186 #[.slice (some ⟨gs, off, none⟩) ns cs, .slice a n cap, .int .i64 c, .func (.func 187) #[.pointer (some ⟨s, 0, none⟩)] #[]] w
      fun e w' => e = .returned (.tuple #[]) ∧ Blk64 w' gs (nums (padd P (cv (mono off (elm m c)) (sr m l))) N) ∧ Upd gs w w' := by
  have HF := Lib.hid F
  have HK := Lib.hid hk
  have HP := Lib.hid h
  have HNE := Lib.hid hne
  have HL := Lib.hid h.hlen
  clear F hk h hne
  go_enter Tryz.func186, Tryz.ntmps186
  go_wp2_with fail
  go_loopg [12] n (fun gh s12 wx => ∃ k : Nat, gh = n - k ∧ k ≤ n ∧ s12 = .int .i64 (k : Int) ∧ Blk64 wx gs (nums (padd P (cv (mono off (elm m c)) (cutS (sr m l) k))) N) ∧ Upd gs w wx)
  case atStart =>
    refine ⟨0, rfl, by omega, rfl, ?_, Upd.refl _ _⟩
    have e : cutS (sr m l) 0 = pz := funext fun i => if_neg (by omega)
    rw [e, zero_cv, padd_zero]; exact HK.out
  case round =>
    clear HK
    obtain ⟨k, hg, hkn, rfl, hk, hU⟩ := hrel
    have HG := Lib.hid hg
    clear hg
    by_cases hlt : k < n
    · have x0 : (0 : Int) ≤ (k : Int) := by omega
      have x1 : (k : Int) < (n : Int) := by omega
      have x2 : (k : Int) < (ns : Int) := by omega
      obtain ⟨bb, o, rfl, c1, hb⟩ := (HP.out.upd hU HNE.out).row k hlt
      have c3 := hk.cell (i := off + k) (by rw [nums_length]; omega)
      have c4 := hk.free (off + k)
      have e3 : nth64 (nums (padd P (cv (mono off (elm m c)) (cutS (sr m l) k))) N) (off + k) = zn (padd P (cv (mono off (elm m c)) (cutS (sr m l) k)) (off + k)) := nums_at _ _ _ (by omega)
      rw [e3] at c3
      have ex := zn_add (padd P (cv (mono off (elm m c)) (cutS (sr m l) k)) (off + k)) (sr m l k * elm m c)
      rw [← times_new] at ex
      generalize zn (padd P (cv (mono off (elm m c)) (cutS (sr m l) k)) (off + k)) = z1 at c3 ex
      have HQ := Lib.hid (And.intro hk hU)
      have HMZ := Lib.hid (mul_zn (m := m) (l.getD k 0) c)
      rw [sr_at] at HMZ
      generalize hz2 : zn (sr m l k * elm m c) = z2 at ex HMZ
      generalize hz3 : zn (padd P (cv (mono off (elm m c)) (cutS (sr m l) (k + 1))) (off + k)) = z3 at ex
      have HZ3 := Lib.hid hz3
      have HM : Hid (∀ wx, (wx.cell? ⟨gs, off + k, none⟩ = some (.int .i64 z1) ∧ wx.frozen? ⟨gs, off + k, none⟩ = false ∧ Drawn wr wx) → Calls Tryz.prog 187 #[.pointer (some ⟨s, 0, none⟩), .int .i64 (l.getD k 0), .int .i64 c] wx
          fun e w' => e = .returned (.int .i64 z2) ∧ (w'.cell? ⟨gs, off + k, none⟩ = some (.int .i64 z1) ∧ w'.frozen? ⟨gs, off + k, none⟩ = false ∧ Drawn wr w')) := by
        rintro wx ⟨q1, q2, d⟩
        refine (mul_any M.lo M.hi (l.getD k 0) c wx ((fld_upd HF.out hU n1 n2 n3).drawn M.lo d)).mono ?_
        rintro e w' ⟨rfl, n, rfl⟩
        exact ⟨by rw [HMZ.out], q1, q2, d.trans (Drawn.mk _ n)⟩
      clear hk hU e3 hz2 hz3 HMZ hb
      go_wp2_with fail
      go_region_law (first | (go_simp; go_at_call 187; refine Calls.mono (HM.out _ ⟨c3, c4, Drawn.mk wr 1⟩) ?_; rintro e w' ⟨rfl, q1, q2, q3⟩))
      all_goals
        rename_i w' q1 q2 q3
        obtain ⟨hk, hU⟩ := HQ.out
        obtain ⟨nd, hnd⟩ := q3
        have hk : Blk64 w' gs (nums (padd P (cv (mono off (elm m c)) (cutS (sr m l) k))) N) := by rw [hnd]; exact hk
        have hU : Upd gs w w' := by rw [hnd]; exact ⟨hU.os, hU.tape, hU.output, hU.size, hU.block⟩
        have HN : Hid (Blk64 (w'.setCell ⟨gs, off + k, none⟩ (.int .i64 z3)) gs (nums (padd P (cv (mono off (elm m c)) (cutS (sr m l) (k + 1)))) N)) := by
          have h1 := hk.set (off + k) z3
          rw [← HZ3.out, nums_set _ _ N (off + k) (times_at P (sr m l) (elm m c) off k), HZ3.out] at h1
          exact h1
        have HU : Hid (Upd gs w (w'.setCell ⟨gs, off + k, none⟩ (.int .i64 z3))) := hU.only (Only.setCell _ ⟨gs, off + k, none⟩ _)
        clear hk hU hnd q1 q2 c3 c4 ex
        go_wp2_with fail
        go_roundg (n - (k + 1))
        case measure => have := HG.out; omega
        case rel => exact ⟨k + 1, rfl, by omega, by go_num, HN.out, HU.out⟩
    · obtain rfl : k = n := by omega
      rw [cutS_all (by have := sr_bd (m := m) l; rwa [← HL.out] at this)] at hk
      go_wp2_with fail
      go_end0
      exact ⟨rfl, hk, hU⟩
end
end Go.Proofs.YtdhcigiaidlmbaaGreatDoor.Pl
/- The walks over package fieldpoly: Trim, Scale, Add. By the verifier of shale. -/
namespace Go.Proofs.YtdhcigiaidlmbaaGreatDoor.Pl
open Go Go.RowKit Fld Bits16
set_option linter.unusedVariables false
theorem Blk64.row {w : World} {g : Nat} {l : List Int} (h : Blk64 w g l) (n : Nat) (hn : n ≤ l.length) (hm : l.length ≤ 1000000) : RowZ w (some ⟨g, 0, none⟩) n l.length (l.take n) :=
  ⟨by rw [List.length_take]; omega, hn, by unfold maxLen; omega, fun i hi => ⟨g, 0, rfl, by
    rw [Nat.zero_add, h.cell (by omega)]
    unfold nth64
    rw [List.getD_eq_getElem?_getD, List.getD_eq_getElem?_getD, List.getElem?_take_of_lt hi], h.lt⟩⟩
theorem nums_take {m : Nat} (p : Ser (El m)) {n N : Nat} (h : n ≤ N) : (nums p N).take n = nums p n := by
  unfold nums
  rw [← List.map_take, List.take_range, Nat.min_eq_left h]
theorem nums_pz {m : Nat} [M : Mid m] (n : Nat) : List.replicate n 0 = nums (pz : Ser (El m)) n := by
  apply List.ext_getElem
  · simp [nums]
  · intro i h1 h2
    simp [nums]; rfl
/-- a polynomial in new memory, or none; what is behind its end is 0. -/
def Out (m : Nat) [M : Mid m] (w0 w : World) (a : Option Addr) (n cap : Nat) (p : Ser (El m)) : Prop :=
  (a = none ∧ n = 0 ∧ cap = 0 ∧ p = pz) ∨ ∃ g N, a = some ⟨g, 0, none⟩ ∧ w0.heap.size ≤ g ∧ N ≤ 1000000 ∧ cap = N ∧ Blk64 w g (nums p N) ∧ n = top p N ∧ Bd p N
section
variable {m : Nat} [M : Mid m]
theorem Out.bd {w0 w : World} {a : Option Addr} {n cap : Nat} {p : Ser (El m)} (h : Out m w0 w a n cap p) : Bd p n := by
  rcases h with ⟨_, _, _, rfl⟩ | ⟨g, N, _, _, _, _, _, hn, hb⟩
  · exact bd_pz n
  · rw [hn]; exact top_bd hb
theorem Out.row {w0 w : World} {a : Option Addr} {n cap : Nat} {p : Ser (El m)} (h : Out m w0 w a n cap p) : RowZ w a n cap (nums p n) := by
  rcases h with ⟨rfl, rfl, rfl, rfl⟩ | ⟨g, N, rfl, _, hN, rfl, hk, hn, hb⟩
  · exact ⟨rfl, Nat.le_refl _, by decide, fun i hi => by omega⟩
  · have hle : n ≤ cap := by rw [hn]; exact top_le p cap
    have := Blk64.row hk n (by rw [nums_length]; exact hle) (by rw [nums_length]; exact hN)
    rw [nums_take p hle, nums_length] at this
    exact this
theorem Out.since {w0 w w' : World} {a : Option Addr} {n cap : Nat} {p : Ser (El m)} (h : Out m w0 w a n cap p) (b : Below w.heap.size w w') : Out m w0 w' a n cap p := by
  rcases h with h | ⟨g, N, e, hg, hN, hc, hk, hn, hb⟩
  · exact Or.inl h
  · exact Or.inr ⟨g, N, e, hg, hN, hc, (b.block _ hk.lt).trans hk, hn, hb⟩
theorem Out.from {w0 w1 w : World} {a : Option Addr} {n cap : Nat} {p : Ser (El m)} (h : Out m w1 w a n cap p) (b : w0.heap.size ≤ w1.heap.size) : Out m w0 w a n cap p := by
  rcases h with h | ⟨g, N, e, hg, r⟩
  · exact Or.inl h
  · exact Or.inr ⟨g, N, e, Nat.le_trans b hg, r⟩
theorem cutS_step (q : Ser (El m)) (n k : Nat) : (nums (cutS q k) n).set k (zn (q k)) = nums (cutS q (k + 1)) n := by
  have h := nums_set (cutS q k) (cutS q (k + 1)) n k (fun j hj => by
    unfold cutS
    by_cases h2 : j < k
    · rw [if_pos h2, if_pos (by omega)]
    · rw [if_neg h2, if_neg (by omega)])
  rw [show cutS q (k + 1) k = q k from if_pos (by omega)] at h
  exact h
theorem cutS_zero (q : Ser (El m)) : cutS q 0 = pz := funext fun i => if_neg (by omega)
theorem Blk64.lay {w : World} {g : Nat} {l k : List Int} {i : Nat} {z : Int} (h : Blk64 w g l) (e : l.set i z = k) : Blk64 (w.setCell ⟨g, i, none⟩ (.int .i64 z)) g k := e ▸ h.set i z
set_option maxRecDepth 100000 in
set_option maxHeartbeats 1000000 in
theorem trim_any {g s be ce bl : Nat} (a : Option Addr) (n cap : Nat) (l : List Int) (w : World) (R : RingAt m w g s be ce bl) (h : RowZ w a n cap l) (hn : n ≤ 1000000) :
    Calls Tryz.prog 185 #[.pointer (some ⟨g, 0, none⟩), .slice a n cap] w
      fun e w' => e = .returned (.slice (some ⟨w.heap.size, 0, none⟩) (top (sr m l) n) (top (sr m l) n)) ∧ Blk64 w' w.heap.size (nums (sr m l) (top (sr m l) n)) ∧ Below w.heap.size w w' := by
  have HR := Lib.hid R
  have HP := Lib.hid h
  have htn := top_le (sr m l) n
  have HB : Hid (Bd (sr m l) (top (sr m l) n)) := top_bd (by have := sr_bd (m := m) l; rwa [← h.hlen] at this)
  obtain ⟨N, hN⟩ : ∃ N, N = top (sr m l) n := ⟨_, rfl⟩
  rw [← hN] at htn HB ⊢
  have HN := Lib.hid hN
  have hmk := made64 w N (by omega)
  rw [nums_pz (m := m)] at hmk
  have HB0 : Hid (Below w.heap.size w (w.alloc (obj64 (nums (pz : Ser (El m)) N)))) := (Below.refl _ _).alloc (Nat.le_refl _) _
  have HK0 : Hid (Blk64 (w.alloc (obj64 (nums (pz : Ser (El m)) N))) w.heap.size (nums (pz : Ser (El m)) N)) := Blk64.new w _
  clear R h hN
  go_enter Tryz.func185, Tryz.ntmps185
  go_wp2_with fail
  refine (deg_any a n cap l w HR.out HP.out).mono ?_
  rintro e w1 ⟨rfl, rfl⟩
  rw [← HN.out]
  go_wp2_with fail
  clear hmk
  go_loopg [14] N (fun gh s14 wx => ∃ (k : Nat), gh = N - k ∧ k ≤ N ∧ s14 = .int .i64 (k : Int) ∧ Blk64 wx w.heap.size (nums (cutS (sr m l) k) N) ∧ Below w.heap.size w wx)
  case atStart => exact ⟨0, rfl, by omega, rfl, by rw [cutS_zero]; exact HK0.out, HB0.out⟩
  case round =>
    clear HK0 HB0
    obtain ⟨k, hg, hkn, rfl, hk, hB⟩ := hrel
    have HG := Lib.hid hg
    clear hg
    by_cases hlt : k < N
    · have x1 : (k : Int) < (N : Int) := by omega
      have x0 : (0 : Int) ≤ (k : Int) := by omega
      have x2 : (k : Int) < (n : Int) := by omega
      obtain ⟨bb, off, rfl, c1, hb⟩ := (HP.out.below hB).row k (by omega)
      have c3 := hk.cell (i := k) (by rw [nums_length]; exact hlt)
      have c4 := hk.free k
      have HS := Lib.hid (Blk64.lay hk (cutS_step (sr m l) N k))
      have HSB : Hid (Below w.heap.size w (wr.setCell ⟨w.heap.size, k, none⟩ (.int .i64 (zn (sr m l k))))) := hB.setCell (p := ⟨w.heap.size, k, none⟩) (Nat.le_refl _) _
      have HRw := Lib.hid (HR.out.below hB)
      clear hk hB hb
      go_wp2_with fail
      refine (elem_any (l.getD k 0) wr HRw.out).mono ?_
      rintro e w1 ⟨rfl, rfl⟩
      rw [sr_at]
      go_wp2_with fail
      go_roundg (N - (k + 1))
      case measure => have := HG.out; omega
      case rel => exact ⟨k + 1, rfl, by omega, by go_num, HS.out, HSB.out⟩
    · obtain rfl : k = N := by omega
      rw [cutS_all HB.out] at hk
      go_wp2_with fail
      go_ret
      exact ⟨rfl, hk, hB⟩
end
end Go.Proofs.YtdhcigiaidlmbaaGreatDoor.Pl
/- The walk over package fieldpoly's Mul. By the verifier of shale. -/
namespace Go.Proofs.YtdhcigiaidlmbaaGreatDoor.Pl
open Go Go.RowKit Fld Bits16
set_option linter.unusedVariables false
section
variable {m : Nat} [M : Mid m]
theorem top_none {p : Ser (El m)} {n : Nat} (hb : Bd p n) (h0 : top p n = 0) : p = pz := by
  have := top_bd hb
  rw [h0] at this
  exact this.zero
theorem top_dg {p : Ser (El m)} {d : Nat} (h : Dg p d) : top p (d + 1) = d + 1 := top_some h.1
theorem dg_top {p : Ser (El m)} {n N : Nat} (hb : Bd p n) (hN : N + 1 = top p n) : Dg p N := by
  have := (top_ne (p := p) (n := n) (by omega)).resolve_right fun x => x hb
  rwa [← hN, Nat.add_sub_cancel] at this
theorem cutS_add (p : Ser (El m)) (k : Nat) : cutS p (k + 1) = padd (cutS p k) (mono k (p k)) := by
  funext i
  show (if i < k + 1 then p i else 0) = (if i < k then p i else 0) + (if i = k then p k else 0)
  by_cases h : i < k
  · rw [if_pos h, if_pos (by omega), if_neg (by omega), Fl.add_zero]
  · by_cases e : i = k
    · subst e; rw [if_neg h, if_pos (by omega), if_pos rfl, zero_add]
    · rw [if_neg h, if_neg (by omega), if_neg e, Fl.add_zero]
theorem mul_step (p q : Ser (El m)) (k : Nat) : padd (cv (cutS p k) q) (cv (mono k (p k)) q) = cv (cutS p (k + 1)) q := by rw [cutS_add, cv_add]
theorem out_nil (w w' : World) : Out m w w' none 0 0 pz := Or.inl ⟨rfl, rfl, rfl, rfl⟩
set_option maxRecDepth 100000 in
set_option maxHeartbeats 2000000 in
theorem pmul_any {g s be ce bl : Nat} (a1 : Option Addr) (n1 c1 : Nat) (l1 : List Int) (a2 : Option Addr) (n2 c2 : Nat) (l2 : List Int) (w : World) (R : RingAt m w g s be ce bl) (h1 : RowZ w a1 n1 c1 l1) (h2 : RowZ w a2 n2 c2 l2) (k1 : n1 ≤ 100000) (k2 : n2 ≤ 100000) (hlong : top (sr m l1) n1 + top (sr m l2) n2 ≤ 2048) :
    Calls Tryz.prog 170 #[.pointer (some ⟨g, 0, none⟩), .slice a1 n1 c1, .slice a2 n2 c2] w
      fun e w' => ∃ a' n' cap', e = .returned (.tuple #[.slice a' n' cap', .nilIface]) ∧ Out m w w' a' n' cap' (cv (sr m l1) (sr m l2)) ∧ Below w.heap.size w w' := by
  have HR := Lib.hid R
  have HP1 := Lib.hid h1
  have HP2 := Lib.hid h2
  have hb1 : Bd (sr m l1) n1 := by have := sr_bd (m := m) l1; rwa [← h1.hlen] at this
  have hb2 : Bd (sr m l2) n2 := by have := sr_bd (m := m) l2; rwa [← h2.hlen] at this
  have HB1 : Hid (Bd (sr m l1) (top (sr m l1) n1)) := top_bd hb1
  have HB2 : Hid (Bd (sr m l2) (top (sr m l2) n2)) := top_bd hb2
  obtain ⟨N1, hN1⟩ : ∃ N, N = top (sr m l1) n1 := ⟨_, rfl⟩
  obtain ⟨N2, hN2⟩ : ∃ N, N = top (sr m l2) n2 := ⟨_, rfl⟩
  rw [← hN1] at HB1 hlong
  rw [← hN2] at HB2 hlong
  have HN1 := Lib.hid hN1
  have HN2 := Lib.hid hN2
  have t1 : decide ((2048 : Int) < (N1 : Int) + (N2 : Int)) = false := decide_eq_false (by omega)
  have hz : (N1 = 0 ∨ N2 = 0) ∨ (N1 ≠ 0 ∧ N2 ≠ 0) := by omega
  have H0 : Hid ((N1 = 0 ∨ N2 = 0) → cv (sr m l1) (sr m l2) = pz) := fun h => by
    rcases h with h | h
    · rw [top_none hb1 (hN1.symm.trans h), cv_zero]
    · rw [top_none hb2 (hN2.symm.trans h), zero_cv]
  have HT : Hid (N1 ≠ 0 ∧ N2 ≠ 0 → Dg (cv (sr m l1) (sr m l2)) (N1 + N2 - 2)) := fun h => by
    have d1 := dg_top (N := N1 - 1) hb1 (by omega)
    have d2 := dg_top (N := N2 - 1) hb2 (by omega)
    have := d1.mul d2
    rwa [show N1 - 1 + (N2 - 1) = N1 + N2 - 2 by omega] at this
  clear R h1 h2 hb1 hb2 hN1 hN2
  go_enter Tryz.func170, Tryz.ntmps170
  go_wp2_with fail
  refine (trim_any a1 n1 c1 l1 w HR.out HP1.out (by omega)).mono ?_
  rintro e w1 ⟨rfl, hk1, b1⟩
  rw [← HN1.out] at hk1 ⊢
  go_wp2_with fail
  refine (trim_any a2 n2 c2 l2 w1 (HR.out.below b1) (HP2.out.below b1) (by omega)).mono ?_
  rintro e w2 ⟨rfl, hk2, b2⟩
  rw [← HN2.out] at hk2 ⊢
  have hg2 : w.heap.size < w1.heap.size := hk1.lt
  replace hk1 : Blk64 w2 w.heap.size (nums (sr m l1) N1) := (b2.block _ hk1.lt).trans hk1
  have B2 := b1.trans (b2.mono b1.size)
  have R2 := (HR.out.below b1).below b2
  obtain ⟨q1, q2, q3⟩ := HR.out.2.lt M.lo
  have hw2 := hk2.lt
  clear b1 b2 HP1 HP2
  rcases hz with hz | ⟨z1, z2⟩
  · have HZ := Lib.hid (H0.out hz)
    have tz : ((N1 : Int) == 0) = true ∨ (((N1 : Int) == 0) = false ∧ ((N2 : Int) == 0) = true) := by
      by_cases h : N1 = 0
      · exact Or.inl (by rw [h]; rfl)
      · exact Or.inr ⟨by rw [beq_eq_false_iff_ne]; omega, by rw [show N2 = 0 by omega]; rfl⟩
    clear hz hk1 hk2 R2
    rcases tz with t2 | ⟨t2, t3⟩
    all_goals
      go_wp2_with fail
      go_ret2
      exact ⟨none, 0, 0, rfl, by rw [HZ.out]; exact out_nil (m := m) w w2, B2⟩
  · have HTD := Lib.hid (HT.out ⟨z1, z2⟩)
    have t2 : ((N1 : Int) == 0) = false := by rw [beq_eq_false_iff_ne]; omega
    have t3 : ((N2 : Int) == 0) = false := by rw [beq_eq_false_iff_ne]; omega
    obtain ⟨N, hN⟩ : ∃ N, N = N1 + N2 - 1 := ⟨_, rfl⟩
    have eN : (N1 : Int) + (N2 : Int) - 1 = (N : Int) := by omega
    have hmk := made64 w2 N (by omega)
    rw [nums_pz (m := m)] at hmk
    have bl : Below w2.heap.size w2 (w2.alloc (obj64 (nums (pz : Ser (El m)) N))) := (Below.refl _ _).alloc (Nat.le_refl _) _
    have HK0 : Hid (Blk64 (w2.alloc (obj64 (nums (pz : Ser (El m)) N))) w2.heap.size (nums (pz : Ser (El m)) N)) := Blk64.new w2 _
    have HK1 : Hid (Blk64 (w2.alloc (obj64 (nums (pz : Ser (El m)) N))) w.heap.size (nums (sr m l1) N1)) := (bl.block _ hk1.lt).trans hk1
    have HK2 : Hid (Blk64 (w2.alloc (obj64 (nums (pz : Ser (El m)) N))) w1.heap.size (nums (sr m l2) N2)) := (bl.block _ hk2.lt).trans hk2
    have HR2 := Lib.hid (R2.below bl)
    have HBB := Lib.hid (B2.trans (bl.mono B2.size))
    have HNN := Lib.hid hN
    have hbs := B2.size
    have hN1 : N1 ≤ N := by omega
    have hN2 : N2 ≤ N := by omega
    have hNs : N1 + N2 = N + 1 := by omega
    clear hk1 hk2 R2 bl B2 hN H0 HT
    go_wp2_with fail
    clear hmk eN t1 t2 t3
    generalize w2.alloc (obj64 (nums (pz : Ser (El m)) N)) = w3 at HK0 HK1 HK2 HR2 HBB ⊢
    generalize hg3 : w2.heap.size = g3 at HK0 hw2 hbs ⊢
    have HG3 := Lib.hid hg3
    clear hg3
    generalize w1.heap.size = g2 at HK2 hw2 hg2 ⊢
    go_loopg [41] N1 (fun gh s41 wx => ∃ (i : Nat), gh = N1 - i ∧ i ≤ N1 ∧ s41 = .int .i64 (i : Int) ∧ Blk64 wx g3 (nums (cv (cutS (sr m l1) i) (sr m l2)) N) ∧ Upd g3 w3 wx)
    case atStart => exact ⟨0, rfl, by omega, rfl, by rw [cutS_zero, cv_zero]; exact HK0.out, Upd.refl _ _⟩
    case round =>
      clear HK0
      obtain ⟨i, hg, hin, rfl, hk, hU⟩ := hrel
      have HG := Lib.hid hg
      clear hg
      have hU : Upd g3 w3 wr := hU
      by_cases hlt : i < N1
      · have x1 : (i : Int) < (N1 : Int) := by omega
        have x0 : (0 : Int) ≤ (i : Int) := by omega
        have x2 : (i : Int) ≤ (N : Int) := by omega
        have x3 : ¬ N = i := by omega
        have c1 := (hU.cell (p := ⟨w.heap.size, i, none⟩) (by have := HK1.out.lt; exact this) (by show w.heap.size ≠ g3; omega)).trans (HK1.out.cell (i := i) (by rw [nums_length]; exact hlt))
        have e1 : nth64 (nums (sr m l1) N1) i = zn (sr m l1 i) := nums_at _ _ _ hlt
        rw [e1] at c1
        go_wp2_with fail
        have hk : Blk64 wr.drew g3 (nums (cv (cutS (sr m l1) i) (sr m l2)) N) := hk
        have hU : Upd g3 w3 wr.drew := hU.drew
        have c2 : wr.drew.cell? ⟨g, 0, none⟩ = some (.pointer (some ⟨s, 0, none⟩)) := (hU.cell (p := ⟨g, 0, none⟩) (World.block_lt_of_cell? _ _ HR2.out.cell) (by
          have h5 := World.block_lt_of_cell? _ _ HR.out.cell
          show g ≠ g3
          have h6 : g < w.heap.size := h5
          omega)).trans HR2.out.cell
        refine wp_region_still_tail 10 (by kernel_rfl) (by kernel_rfl) ?_
        simp only [List.take_succ_cons, List.take_zero, List.drop_succ_cons, List.drop_zero]
        change wpStill _ _ wr.drew (fun a' => wpList _ _ _ _ a' wr.drew) _ _
        clear c1 e1
        generalize wr.drew = w4 at hk hU c2 ⊢
        have HK := Lib.hid hk
        have HU := Lib.hid hU
        clear hk hU
        repeat still_step
        refine wpStill_nil ?_
        go_wp2_with fail
        have F4 := fld_upd HR2.out.2 HU.out (by omega) (by omega) (by omega)
        have row4 : RowZ w4 (some ⟨g2, 0, none⟩) N2 N2 (nums (sr m l2) N2) := by
          have h := Blk64.row HK2.out N2 (by rw [nums_length]; exact Nat.le_refl _) (by rw [nums_length]; omega)
          rw [nums_length, nums_take _ (Nat.le_refl _)] at h
          exact h.upd HU.out (fun bb o e _ => by simp only [Option.some.injEq, Addr.mk.injEq] at e; omega)
        refine (times_any g3 i (N - i) (N - i) N (cv (cutS (sr m l1) i) (sr m l2)) (some ⟨g2, 0, none⟩) N2 N2 (nums (sr m l2) N2) (zn (sr m l1 i)) w4 F4 HK.out (by omega) row4 (by omega) (by omega) (by omega) (by omega) (by omega) (fun bb o e _ => by simp only [Option.some.injEq, Addr.mk.injEq] at e; omega)).mono ?_
        rintro e w5 ⟨rfl, hk, hU⟩
        rw [elm_zn, sr_nums HB2.out, mul_step] at hk
        have hU5 : Upd g3 w3 w5 := HU.out.trans hU
        clear F4 row4 hU c2 HK HU
        go_wp2_with fail
        go_roundg (N1 - (i + 1))
        case measure => have := HG.out; omega
        case rel => exact ⟨i + 1, rfl, by omega, by go_num, hk, hU5⟩
      · obtain rfl : i = N1 := by omega
        rw [cutS_all HB1.out] at hk
        have HO : Hid (Out m w wr (some ⟨g3, 0, none⟩) N N (cv (sr m l1) (sr m l2))) := by
          have hd := HTD.out
          have e : i + N2 - 2 + 1 = N := by omega
          have h1 := top_dg hd
          have h2 := hd.2
          rw [e] at h1 h2
          exact Or.inr ⟨g3, N, rfl, by omega, by omega, rfl, hk, h1.symm, h2⟩
        have hB := HBB.out.trans (hU.toBelow (by omega) HBB.out.size)
        clear hk hU
        go_wp2_with fail
        go_ret2
        exact ⟨_, _, _, rfl, HO.out, hB⟩
end
end Go.Proofs.YtdhcigiaidlmbaaGreatDoor.Pl
/- The walks over package fieldpoly: Derive, New. By the verifier of shale. -/
namespace Go.Proofs.YtdhcigiaidlmbaaGreatDoor.Pl
open Go Go.RowKit Fld Bits16
set_option linter.unusedVariables false
section
variable {m : Nat} [M : Mid m]
theorem pnew_any {s be ce bl : Nat} (w : World) (F : FldAt m w s be ce bl) :
    Calls Tryz.prog 183 #[.pointer (some ⟨s, 0, none⟩)] w fun e w' => ∃ g, e = .returned (.pointer (some ⟨g, 0, none⟩)) ∧ RingAt m w' g s be ce bl ∧ Below w.heap.size w w' := by
  have b0 : Below w.heap.size w (w.alloc (.cells #[.pointer (some ⟨s, 0, none⟩)] 241)) := (Below.refl _ _).alloc (Nat.le_refl _) _
  have HR : Hid (RingAt m (w.alloc (.cells #[.pointer (some ⟨s, 0, none⟩)] 241)) w.heap.size s be ce bl) := ⟨heap_alloc_new w _, F.below M.lo b0⟩
  have HB := Lib.hid b0
  clear F b0
  go_enter Tryz.func183, Tryz.ntmps183
  go_wp2_with fail
  go_ret
  exact ⟨_, rfl, HR.out, HB.out⟩
end
end Go.Proofs.YtdhcigiaidlmbaaGreatDoor.Pl
/- The walk over package fieldpoly's DivMod. By the verifier of shale. -/
namespace Go.Proofs.YtdhcigiaidlmbaaGreatDoor.Pl
open Go Go.RowKit Fld Bits16
set_option linter.unusedVariables false
section
variable {m : Nat} [M : Mid m]
theorem RingAt.upd {x : Nat} {w w' : World} {g s be ce bl : Nat} (h : RingAt m w g s be ce bl) (U : Upd x w w') (n0 : g ≠ x) (n1 : s ≠ x) (n2 : be ≠ x) (n3 : bl ≠ x) : RingAt m w' g s be ce bl :=
  ⟨(U.block g (lt_of_block h.1) n0).trans h.1, fld_upd h.2 U n1 n2 n3⟩
/-- where the division stands, the quotient's coefficients from i on being there. -/
structure Divs (P Q A L : Ser (El m)) (e N i : Nat) : Prop where
  sum : P = padd (cv A Q) L
  low : Bd L (i + e)
  bd : Bd A N
  free : ∀ j, j < i → A j = 0
theorem Divs.dv {P Q A L : Ser (El m)} {e N : Nat} (h : Divs P Q A L e N 0) : Dv2 P Q A L e := ⟨h.sum, ⟨N, h.bd⟩, by have := h.low; rwa [Nat.zero_add] at this⟩
end
end Go.Proofs.YtdhcigiaidlmbaaGreatDoor.Pl
/- The walk over package fieldpoly's Roots. By the verifier of shale. -/
namespace Go.Proofs.YtdhcigiaidlmbaaGreatDoor.Pl
open Go Go.RowKit Fld Bits16
set_option linter.unusedVariables false
section
variable {m : Nat} [M : Mid m]
open Classical in
def intsN (l : List Nat) : List Int := List.map (fun e : Nat => (e : Int)) l
theorem own_slice {w : World} {base n : Nat} {v : Value} {l : List Int} (e : Own64 w base v n l) : ∃ a c, v = .slice a n c := by
  rcases e.2 with ⟨h0, h1⟩ | ⟨g', cap', cur, hv, _⟩
  · exact ⟨none, 0, by rw [h0, h1]⟩
  · exact ⟨_, _, hv⟩
end
end Go.Proofs.YtdhcigiaidlmbaaGreatDoor.Pl
/- A region that draws its order, whose operations read or call quietly up to a tail in one forced order (a store): one walk of the text's order. By the verifier of shale. -/
namespace Go.Proofs.YtdhcigiaidlmbaaGreatDoor
open Go
set_option linter.unusedVariables false
section
variable {P : Program} {ops : Array Oper} {md : Region.Mode} {C : World → Prop}
/-- f operations of the first n come up in whatever order, each quiet in the class; then L holds. -/
def HeadQ (P : Program) (md : Region.Mode) (ops : Array Oper) (C : World → Prop) (n : Nat) (L : Array Bool → Act → Prop) : Nat → Array Bool → Act → Prop
  | 0, s, a => L s a
  | f + 1, s, a => Region.ready md ops s ≠ [] ∧ ∀ i ∈ Region.ready md ops s, i < n ∧ qOp P ops C i (HeadQ P md ops C n L f (s.setIfInBounds i true)) a
theorem HeadQ.any {n g : Nat} {L : Array Bool → Act → Prop} {Q' : Exit → Act → World → Prop} (hL : ∀ s a w, C w → L s a → wpAny P md ops Q' g s a w) :
    ∀ (f : Nat) (s : Array Bool) (a : Act) (w : World), C w → HeadQ P md ops C n L f s a → wpAny P md ops Q' (f + g) s a w
  | 0, s, a, w, hw, h => by rw [Nat.zero_add]; exact hL s a w hw h
  | f + 1, s, a, w, hw, h => by
    rw [show f + 1 + g = (f + g) + 1 by omega]
    exact ⟨fun e => absurd e h.1, fun i hi => wpOp_of_qOp hw (fun a' w' hw' h' => HeadQ.any hL f _ a' w' hw' h') (h.2 i hi).2⟩
/-- what is ready and apart from the rest may be taken ahead of all. -/
theorem HeadQ.early {n i : Nat} {o : Oper} {v : Value} {L : Array Bool → Act → Prop} (hi : ops[i]? = some o) (hsel : ∀ (j : Nat) (o : Oper) cs b, ops[j]? = some o → o.op ≠ .select cs b)
    (hs : Region.sinkB md ops n = true) (hc : Region.chainB md ops n = true) (hn : n < ops.size) (hin : i < n) (hL : ∀ s a, L s a → ∀ j ∈ Region.ready md ops s, n ≤ j) (f : Nat) :
    ∀ (s : Array Bool) (a : Act), HeadInv md ops n s →
      (∀ j oj, ops[j]? = some oj → j ≠ i → s.getD j true = false → (∀ e ∈ oj.after, Region.binds md e = true → e.on ≠ i) → o.apart ops oj = true) →
      i ∈ Region.ready md ops s → YieldsIn P ops C o v a → HeadQ P md ops C n L f (s.setIfInBounds i true) (a.put o.dst v) → HeadQ P md ops C n L (f + 1) s a := by
  induction f with
  | zero =>
    intro s a inv hap hr hy h
    have hfr := (mem_ready.1 hr).1
    refine ⟨fun e => by simp [e] at hr, fun j hj => ?_⟩
    have hlt : j < n := Classical.byContradiction fun hge => absurd hj (tail_waits hs hc hn inv _ i rfl hin hfr j (by omega))
    by_cases e : j = i
    · exact ⟨hlt, by rw [e]; exact hy.qOp hi h⟩
    · have := hL _ _ h j (ready_mono hj e); omega
  | succ f ih =>
    intro s a inv hap hr hy h
    have hfr := (mem_ready.1 hr).1
    refine ⟨fun e => by simp [e] at hr, fun j hj => ?_⟩
    have hlt : j < n := Classical.byContradiction fun hge => absurd hj (tail_waits hs hc hn inv _ i rfl hin hfr j (by omega))
    refine ⟨hlt, ?_⟩
    by_cases e : j = i
    · rw [e]; exact hy.qOp hi h
    · obtain ⟨hjf, oj, hoj, haft⟩ := mem_ready.1 hj
      have hno : ∀ e ∈ oj.after, Region.binds md e = true → e.on ≠ i := by
        intro x hx hb he
        have h1 := haft x hx hb
        rw [he, getD_both hfr] at h1
        exact Bool.false_ne_true h1
      refine qOp_mono ?_ (qOp_put hoj (hap j oj hoj e hjf hno) (fun cs b => hsel i o cs b hi) (fun cs b => hsel j oj cs b hoj) hy (h.2 j (ready_mono hj e)).2)
      intro a' h3
      refine ih _ a' (inv.set hj hlt) ?_ (ready_mono hr (Ne.symm e)) h3.1 ?_
      · intro k ok hk hki hkf hkn
        refine hap k ok hk hki ?_ hkn
        by_cases ejk : j = k
        · rw [← ejk]; exact hjf
        · rwa [getD_set_ne true ejk] at hkf
      · rw [Array.setIfInBounds_comm _ _ e]; exact h3.2
/-- the text's order serves for the head. -/
theorem HeadQ.lex {n g : Nat} {T : Act → Prop} (hsel : Region.noSelect ops = true) (hs : Region.sinkB md ops n = true) (hc : Region.chainB md ops n = true) (hn : n < ops.size) :
    ∀ (l : List Oper) (k : Nat) (s : Array Bool) (a : Act), (∀ j, j < l.length → l[j]? = ops[k + j]?) → k + l.length = n → HeadInv md ops n s →
      Region.lexHead md ops g l.length k s = true → wpQuiet P ops C T l a → HeadQ P md ops C n (fun s' a' => Region.seqB md ops g n s' = true ∧ T a') l.length s a
  | [], k, s, a, _, hk, _, hB, h => by
    obtain rfl : k = n := by simpa using hk
    exact ⟨by simpa [Region.lexHead] using hB, h⟩
  | o :: l, k, s, a, hl, hk, inv, hB, h => by
    have h0 : ops[k]? = some o := by simpa using (hl 0 (by simp)).symm
    simp only [List.length_cons, Region.lexHead, Bool.and_eq_true] at hB
    have hk' : k + 1 + l.length = n := by simp only [List.length_cons] at hk; omega
    have hr : k ∈ Region.ready md ops s := by simpa using hB.1.1
    have hq : qOp P ops C k (wpQuiet P ops C T l) a := by unfold qOp; simp only [h0]; exact h
    obtain ⟨v, hy, hK⟩ := yieldsIn_of_qOp h0 hq
    refine HeadQ.early h0 (Region.noSelect_spec hsel) hs hc hn (by omega) (fun s' a' e => seqB_ready e.1) l.length s a inv (Region.free_spec h0 hB.1.2) hr hy ?_
    exact HeadQ.lex hsel hs hc hn l (k + 1) _ _ (fun j hj => by have := hl (j + 1) (by simp; omega); simpa [Nat.add_assoc, Nat.add_comm 1 j] using this) hk' (inv.set hr (by omega)) hB.2 hK
theorem wp_region_quiet_tail {id : Nat} {Q : Exit → Act → World → Prop} {a : Act} {w : World} {l : List Oper} (n : Nat) (hm : P.follows .mixedOrders = true) (hB : Region.lexTailB .any l.toArray n = true)
    (hC : C w.drew) (h : wpQuiet P l.toArray C (fun a' => ∀ w', C w' → wpList P l.toArray Q (l.drop n) a' w') (l.take n) a) : (Code.region id l.toArray true).wp P Q a w := by
  simp only [Region.lexTailB, Bool.and_eq_true, decide_eq_true_eq] at hB
  obtain ⟨⟨⟨⟨hsel, hn⟩, hs⟩, hc⟩, hlex⟩ := hB
  have hnl : n < l.length := by simpa using hn
  have htl : (l.take n).length = n := by simp; omega
  have inv0 : HeadInv .any l.toArray n (Array.replicate l.toArray.size false) :=
    ⟨by simp, fun j oj _ e => (by rw [getD_replicate_false] at e; cases e), fun t _ ht => getD_in (by simpa using ht) (getD_replicate_false _ _)⟩
  have H := HeadQ.lex (md := .any) (g := l.toArray.size - n) hsel hs hc hn (l.take n) 0 _ a (fun j hj => by
    have hj' : j < n := by rw [htl] at hj; exact hj
    simp [hj']) (by simpa using htl) inv0 (by rw [htl]; exact hlex) h
  refine wp_region_any hm ?_
  have hdl : (l.drop n).length = l.toArray.size - n := by simp
  have H2 := HeadQ.any (Q' := Q) (g := l.toArray.size - n) (fun s a' w' hw' hL => by
    have := wpAny_of_seq (md := .any) (Q' := Q) (l.drop n) n s a' w' (fun j => by simp [List.getElem?_drop]) (by rw [hdl]; exact hL.1) (hL.2 w' hw')
    rwa [hdl] at this) _ _ _ w.drew hC H
  rw [htl, show n + (l.toArray.size - n) = l.toArray.size by omega] at H2
  exact H2
end
end Go.Proofs.YtdhcigiaidlmbaaGreatDoor
/- The walk over package fieldpoly's FromRoots. By the verifier of shale. -/
namespace Go.Proofs.YtdhcigiaidlmbaaGreatDoor.Pl
open Go Go.RowKit Fld Bits16
set_option linter.unusedVariables false
section
variable {m : Nat} [M : Mid m]
/-- the product of x + a over the first k of l. -/
def pls (l : List Int) : Nat → Ser (El m)
  | 0 => pone
  | k + 1 => cv (pls l k) (lin (elm m (l.getD k 0)))
theorem pls_dg (l : List Int) : ∀ k, Dg (pls (m := m) l k) k
  | 0 => ⟨by show (if (0 : Nat) = 0 then (1 : El m) else 0) ≠ 0; rw [if_pos rfl]; exact Fl.one_ne, fun i hi => if_neg (by omega)⟩
  | k + 1 => (pls_dg l k).mul (lin_dg _)
omit M in
omit M in
omit M in
end
end Go.Proofs.YtdhcigiaidlmbaaGreatDoor.Pl
/- The statements' own fields (shaleref2): what each function answers. By the verifier of shale. -/
namespace Go.Proofs.YtdhcigiaidlmbaaGreatDoor.Fld
open Go Go.RowKit Bits16
set_option linter.unusedVariables false
set_option maxHeartbeats 400000 in
theorem low_any (m : Nat) (h1 : 3 ≤ m) (h2 : m ≤ 14) (a : Int) : Gives 129 #[.int .i64 (m : Int), .int .i64 a] (.int .i64 (h (el m a))) := by
  intro w
  have ho := shl_one m h2
  have ha := and_els m h2 a
  have e1 := els_lo m h1
  have e2 := els_hi m h2
  go_enter Tryz.func129, Tryz.ntmps129
  go_wp2
  go_ret
  exact ⟨rfl, rfl⟩
set_option maxRecDepth 100000 in
set_option maxHeartbeats 1000000 in
theorem rpoly_in (m : Nat) (h1 : 3 ≤ m) (h2 : m ≤ 14) (w : World) :
    Calls Tryz.prog 160 #[.int .i64 (m : Int)] w fun e w' => e = .returned (.int .i64 (h (poly m))) ∧ Below w.heap.size w w' := by
  have hc := poly_nth m h1 h2
  have a1 : (3 : Int) ≤ (m : Int) := by omega
  have a2 : (m : Int) ≤ 14 := by omega
  go_enter Tryz.func160, Tryz.ntmps160
  go_wp2
  go_ret
  exact ⟨rfl, (Below.refl _ _).alloc (Nat.le_refl _) _⟩
/-- the loop of the product, its state behind k rounds: a doubled k times, the rest of b, the sum so far. -/
theorem mulN_more (m : Nat) (h1 : 3 ≤ m) (h2 : m ≤ 14) : ∀ (n : Nat) (a b : BitVec 16), b.toNat < 2 ^ n → mulN m (n + 1) a b = mulN m n a b
  | 0, a, b, hb => by
    have : b = 0 := BitVec.eq_of_toNat_eq (by show _ = 0; omega)
    subst this
    rw [mulN_zero, mulN_zero]
  | n + 1, a, b, hb => by
    have e1 : (b >>> 1).toNat = b.toNat / 2 := by rw [BitVec.toNat_ushiftRight, Nat.shiftRight_eq_div_pow]
    have e2 : 2 ^ (n + 1) = 2 * 2 ^ n := by rw [Nat.pow_succ, Nat.mul_comm]
    rw [mulN, mulN_more m h1 h2 n _ _ (by omega)]; rfl
theorem low_bit (b : BitVec 16) : (bits .and .i64 (h b) 1 == 1) = b.getLsbD 0 := by
  rw [show bits .and .i64 (h b) 1 = h (b &&& 1#16) by
    show IntKind.i64.wrap ((BitVec.ofInt 64 (h b) &&& BitVec.ofInt 64 1).toNat : Int) = _
    rw [BitVec.toNat_and, e64, show (BitVec.ofInt 64 1).toNat = (1#16 : BitVec 16).toNat by decide, ← BitVec.toNat_and]; exact w64 _]
  have e : (b &&& 1#16).toNat = b.toNat % 2 := by rw [BitVec.toNat_and]; exact Nat.and_one_is_mod _
  unfold h
  rw [e, BitVec.getLsbD, Nat.testBit_zero, Bool.eq_iff_iff, beq_iff_eq, decide_eq_true_iff]
  omega
theorem half (b : BitVec 16) : h b / 2 = h (b >>> 1) := by
  unfold h
  rw [BitVec.toNat_ushiftRight, Nat.shiftRight_eq_div_pow]; omega
/-- one round of the product's loop. -/
theorem mul_step (m : Nat) (h1 : 3 ≤ m) (h2 : m ≤ 14) (A B : BitVec 16) : mulN m 16 A B = (if B.getLsbD 0 then A else 0) ^^^ mulN m 16 (dbl m A) (B >>> 1) := by
  have e1 : (B >>> 1).toNat = B.toNat / 2 := by rw [BitVec.toNat_ushiftRight, Nat.shiftRight_eq_div_pow]
  rw [mulN_more m h1 h2 15 (dbl m A) (B >>> 1) (by have := B.isLt; omega)]; rfl
theorem top_bit (m : Nat) (h1 : 3 ≤ m) (h2 : m ≤ 14) (A : BitVec 16) (hA : A.toNat < 2 ^ m) :
    (((A <<< 1) >>> m).getLsbD 0 = true ∧ dbl m A = (A <<< 1) ^^^ poly m) ∨ (((A <<< 1) >>> m).getLsbD 0 = false ∧ dbl m A = A <<< 1) := by
  have hm := pow14 m h2
  have e1 : (A <<< 1).toNat = A.toNat * 2 := by
    rw [BitVec.toNat_shiftLeft, Nat.shiftLeft_eq, Nat.pow_one]; omega
  have e2 : ((A <<< 1) >>> m).toNat = A.toNat * 2 / 2 ^ m := by
    rw [BitVec.toNat_ushiftRight, e1, Nat.shiftRight_eq_div_pow]
  have h3 : A.toNat * 2 / 2 ^ m < 2 := Nat.div_lt_of_lt_mul (by omega)
  have hb : ((A <<< 1) >>> m).getLsbD 0 = decide (((A <<< 1) >>> m).toNat % 2 = 1) := by
    rw [BitVec.getLsbD, Nat.testBit_zero]
  by_cases h : (A <<< 1) >>> m = 0
  · refine Or.inr ⟨by rw [h]; rfl, if_pos h⟩
  · refine Or.inl ⟨?_, if_neg h⟩
    rw [hb, e2, decide_eq_true_iff]
    have : A.toNat * 2 / 2 ^ m ≠ 0 := fun h4 => h (BitVec.eq_of_toNat_eq (by rw [e2]; exact h4))
    generalize A.toNat * 2 / 2 ^ m = q at this h3
    omega
section
attribute [local go_sem] rxor
set_option maxRecDepth 100000 in
set_option maxHeartbeats 2000000 in
theorem rmul_any (m : Nat) (h1 : 3 ≤ m) (h2 : m ≤ 14) (a b : Int) (w : World) :
    Calls Tryz.prog 126 #[.int .i64 (m : Int), .int .i64 a, .int .i64 b] w fun e w' => e = .returned (.int .i64 (h (fmul m (el m a) (el m b)))) ∧ Below w.heap.size w w' := by
  have hla := el_lt m h2 a
  have hlb := el_lt m h2 b
  have hpl := low_any m h1 h2
  have hp14 := pow14 m h2
  have a1 : (3 : Int) ≤ (m : Int) := by omega
  have a2 : (m : Int) ≤ 14 := by omega
  go_enter Tryz.func126, Tryz.ntmps126
  go_wp2_with fail
  refine (hpl a w).mono ?_
  rintro e w1 ⟨rfl, rfl⟩
  go_wp2_with fail
  refine (hpl b w).mono ?_
  rintro e w1 ⟨rfl, rfl⟩
  go_wp2_with fail
  refine (rpoly_in m h1 h2 w).mono ?_
  rintro e w1 ⟨rfl, b1⟩
  clear hpl
  go_wp2_with fail
  go_loopg [1, 2, 8] (el m b).toNat (fun g s1 s2 s8 wx => ∃ A B X : BitVec 16, g = B.toNat ∧ A.toNat < 2 ^ m ∧ B.toNat < 2 ^ m ∧ s1 = .int .i64 (h A) ∧ s2 = .int .i64 (h B) ∧ s8 = .int .i64 (h X) ∧ X ^^^ mulN m 16 A B = fmul m (el m a) (el m b) ∧ w1 = wx)
  case atStart => exact ⟨el m a, el m b, 0, rfl, hla, hlb, rfl, rfl, rfl, BitVec.zero_xor, rfl⟩
  case round =>
    obtain ⟨A, B, X, hg, hA, hB, rfl, rfl, rfl, hinv, rfl⟩ := hrel
    have HG := Lib.hid hg
    have HI := Lib.hid hinv
    clear hg hinv hla hlb
    by_cases h0 : B = 0
    · have t : ¬ (0 < h B) := by subst h0; decide
      have HR : Hid (X = fmul m (el m a) (el m b)) := by
        show _ = _
        rw [← HI.out, h0, mulN_zero]; simp
      clear h0
      go_wp2_with fail
      go_ret
      exact ⟨ret_i64 (by rw [HR.out]), b1⟩
    · have hB0 := nat_pos B h0
      have t : 0 < h B := by unfold h; omega
      have s1 := fun yk => twice yk A (by omega)
      have s2 := half B
      have s3 := low_bit B
      have s4 := down (A <<< 1) m
      have s5 := low_bit ((A <<< 1) >>> m)
      have hh : (B >>> 1).toNat = B.toNat / 2 := by rw [BitVec.toNat_ushiftRight, Nat.shiftRight_eq_div_pow]
      have hd := dbl_lt m h1 h2 A hA
      have HS := Lib.hid (mul_step m h1 h2 A B)
      rw [← s4] at s5
      clear s4 h0
      rcases top_bit m h1 h2 A hA with ⟨q1, q2⟩ | ⟨q1, q2⟩
      all_goals
        rw [q1] at s5
        have HQ := Lib.hid q2
        clear q1 q2
        rcases hbit : B.getLsbD 0 with _ | _
        all_goals
          have HBt := Lib.hid hbit
          rw [hbit] at s3
          clear hbit
          go_wp2_with fail
          go_roundg (B >>> 1).toNat
          case measure => have := HG.out; omega
          case rel =>
            first
              | exact ⟨dbl m A, B >>> 1, X ^^^ A, rfl, hd, by omega, by rw [HQ.out], rfl, rfl, by rw [← HI.out, HS.out, HBt.out, if_pos rfl, BitVec.xor_assoc], rfl⟩
              | exact ⟨dbl m A, B >>> 1, X, rfl, hd, by omega, by rw [HQ.out], rfl, rfl, by rw [← HI.out, HS.out, HBt.out, if_neg (by decide), show ∀ y : BitVec 16, 0 ^^^ y = y from fun y => BitVec.zero_xor], rfl⟩
theorem rmul_at (m : Nat) (h1 : 3 ≤ m) (h2 : m ≤ 14) (x y : BitVec 16) (hx : x.toNat < 2 ^ m) (hy : y.toNat < 2 ^ m) (w : World) :
    Calls Tryz.prog 126 #[.int .i64 (m : Int), .int .i64 (h x), .int .i64 (h y)] w fun e w' => e = .returned (.int .i64 (h (fmul m x y))) ∧ Below w.heap.size w w' := by
  have := rmul_any m h1 h2 (h x) (h y) w
  rwa [el_of m h2 x hx, el_of m h2 y hy] at this
end
/-- the power's loop: what is left to do. -/
theorem pow_step (m : Nat) (h1 : 3 ≤ m) (h2 : m ≤ 14) (a x : BitVec 16) (ha : a.toNat < 2 ^ m) (hx : x.toNat < 2 ^ m) (n : Nat) :
    fmul m x (fpow m a n) = fmul m (if n % 2 = 1 then fmul m x a else x) (fpow m (fmul m a a) (n / 2)) := by
  rw [fpow_sq m h1 h2 a ha]
  by_cases hn : n % 2 = 1
  · rw [if_pos hn]
    obtain ⟨k, rfl⟩ : ∃ k, n = 2 * k + 1 := ⟨n / 2, by omega⟩
    rw [show (2 * k + 1) / 2 = k by omega, fpow, fmul_comm m h1 h2 (fpow m a (2 * k)) a (fpow_lt m h1 h2 a ha _) ha, fmul_assoc m h1 h2 x a _ hx ha (fpow_lt m h1 h2 a ha _)]
  · rw [if_neg hn, show 2 * (n / 2) = n by omega]
theorem odd_test (n : Nat) (hn : n < 1000000) : (bits .and .i64 (n : Int) 1 == 1) = decide (n % 2 = 1) := by
  have e : bits .and .i64 (n : Int) 1 = ((n % 2 : Nat) : Int) := by
    show IntKind.i64.wrap ((BitVec.ofInt 64 (n : Int) &&& BitVec.ofInt 64 1).toNat : Int) = _
    rw [BitVec.toNat_and, show (BitVec.ofInt 64 (n : Int)).toNat = n by rw [BitVec.toNat_ofInt]; omega, show (BitVec.ofInt 64 1).toNat = 1 by decide, Nat.and_one_is_mod]
    exact IntWalk.i64_in _ (by omega)
  rw [e, Bool.eq_iff_iff, beq_iff_eq, decide_eq_true_iff]
  omega
end Go.Proofs.YtdhcigiaidlmbaaGreatDoor.Fld
/- The statements' own fields (shaleref2): powers, inverses, logarithms, orders, traces. By the verifier of shale. -/
namespace Go.Proofs.YtdhcigiaidlmbaaGreatDoor.Fld
open Go Go.RowKit Bits16
set_option linter.unusedVariables false
set_option maxRecDepth 100000 in
set_option maxHeartbeats 2000000 in
theorem rpower_any (m : Nat) (h1 : 3 ≤ m) (h2 : m ≤ 14) (a : Int) (n : Nat) (hn : n ≤ 16384) (w : World) :
    Calls Tryz.prog 162 #[.int .i64 (m : Int), .int .i64 a, .int .i64 (n : Int)] w fun e w' => e = .returned (.int .i64 (h (fpow m (el m a) n))) ∧ Below w.heap.size w w' := by
  have hla := el_lt m h2 a
  have hpl := low_any m h1 h2
  go_enter Tryz.func162, Tryz.ntmps162
  go_wp2_with fail
  refine (hpl a w).mono ?_
  rintro e w1 ⟨rfl, rfl⟩
  clear hpl
  go_wp2_with fail
  go_loopg [1, 2, 7] n (fun g s1 s2 s7 wx => ∃ (A X : BitVec 16) (k : Nat), g = k ∧ k ≤ 16384 ∧ A.toNat < 2 ^ m ∧ X.toNat < 2 ^ m ∧ s1 = .int .i64 (h A) ∧ s2 = .int .i64 (k : Int) ∧ s7 = .int .i64 (h X) ∧ fmul m X (fpow m A k) = fpow m (el m a) n ∧ Below w.heap.size w wx)
  case atStart => exact ⟨el m a, 1, n, rfl, hn, hla, one_lt m h1, rfl, rfl, rfl, one_fmul m h1 h2 _ (fpow_lt m h1 h2 _ hla n), Below.refl _ _⟩
  case round =>
    obtain ⟨A, X, k, hg, hk, hA, hX, rfl, rfl, rfl, hinv, hb⟩ := hrel
    have HG := Lib.hid hg
    have HI := Lib.hid hinv
    clear hg hinv hla
    by_cases h0 : k = 0
    · subst h0
      have HR : Hid (X = fpow m (el m a) n) := by
        show _ = _
        rw [← HI.out]; exact (fmul_one m h1 h2 X hX).symm
      go_wp2_with fail
      go_ret
      exact ⟨ret_i64 (by rw [HR.out]), hb⟩
    · have t : 0 < (k : Int) := by omega
      have t0 : 0 < k := by omega
      have s3 := odd_test k (by omega)
      have hh : Hid ((k : Int) / 2 = ((k / 2 : Nat) : Int)) := by show _ = _; omega
      have HS := Lib.hid (pow_step m h1 h2 A X hA hX k)
      clear h0
      by_cases ho : k % 2 = 1
      · have hmx := fmul_lt m h1 h2 X A hX
        have hma := fmul_lt m h1 h2 A A hA
        rw [show decide (k % 2 = 1) = true from decide_eq_true ho] at s3
        have HO := Lib.hid ho
        clear ho
        go_wp2_with fail
        refine (rmul_at m h1 h2 X A hX hA _).mono ?_
        rintro e w2 ⟨rfl, b2⟩
        have b2 := hb.trans (b2.mono hb.size)
        go_wp2_with fail
        refine (rmul_at m h1 h2 A A hA hA _).mono ?_
        rintro e w3 ⟨rfl, b3⟩
        have b3 := b2.trans (b3.mono b2.size)
        go_wp2_with fail
        go_roundg (k / 2)
        case measure => have := HG.out; omega
        case rel => exact ⟨fmul m A A, fmul m X A, k / 2, rfl, by omega, hma, hmx, rfl, by rw [hh.out], rfl, by rw [← HI.out, HS.out, if_pos HO.out], b3⟩
      · have hma := fmul_lt m h1 h2 A A hA
        rw [show decide (k % 2 = 1) = false from decide_eq_false ho] at s3
        have HO := Lib.hid ho
        clear ho
        go_wp2_with fail
        refine (rmul_at m h1 h2 A A hA hA _).mono ?_
        rintro e w3 ⟨rfl, b3⟩
        have b3 := hb.trans (b3.mono hb.size)
        go_wp2_with fail
        go_roundg (k / 2)
        case measure => have := HG.out; omega
        case rel => exact ⟨fmul m A A, X, k / 2, rfl, by omega, hma, hX, rfl, by rw [hh.out], rfl, by rw [← HI.out, HS.out, if_neg HO.out], b3⟩
theorem rpower_at (m : Nat) (h1 : 3 ≤ m) (h2 : m ≤ 14) (a x : Int) (n : Nat) (hx : x = (n : Int)) (hn : n ≤ 16384) (w : World) :
    Calls Tryz.prog 162 #[.int .i64 (m : Int), .int .i64 a, .int .i64 x] w fun e w' => e = .returned (.int .i64 (h (fpow m (el m a) n))) ∧ Below w.heap.size w w' := by
  subst hx; exact rpower_any m h1 h2 a n hn w
/-- an exponent brought into 0 .. size - 1 as the statements do. -/
theorem exp_norm (m : Nat) (h1 : 3 ≤ m) (h2 : m ≤ 14) (z : Int) : ∃ k : Nat, k < size m ∧ z.tmod (size m : Int) % (size m : Int) = (k : Int) ∧ z % (size m : Int) = (k : Int) := by
  have z1 := size_lo m h1
  have z2 := size_hi m h2
  have q1 := Int.tmod_lt_of_pos z (b := (size m : Int)) (by omega)
  have q2 : -(size m : Int) < z.tmod (size m : Int) := by
    have := Int.tmod_lt_of_pos (-z) (b := (size m : Int)) (by omega)
    rw [Int.neg_tmod] at this
    omega
  have hd : z % (size m : Int) = (z.tmod (size m : Int)) % (size m : Int) := by
    rw [Int.tmod_eq_emod]
    split
    · simp
    · rw [Int.natAbs_natCast, Int.sub_emod, Int.emod_self, Int.emod_emod, Int.sub_zero, Int.emod_emod]
  have n1 := Int.emod_nonneg z (b := (size m : Int)) (by omega)
  have n2 := Int.emod_lt_of_pos z (b := (size m : Int)) (by omega)
  refine ⟨(z % (size m : Int)).toNat, by omega, ?_, by omega⟩
  rw [← hd]
  omega
set_option maxHeartbeats 400000 in
theorem rpow_any (m : Nat) (h1 : 3 ≤ m) (h2 : m ≤ 14) (a z : Int) (w : World) :
    Calls Tryz.prog 161 #[.int .i64 (m : Int), .int .i64 a, .int .i64 z] w fun e w' => e = .returned (.int .i64 (h (powZ m (el m a) z))) ∧ Below w.heap.size w w' := by
  have hpl := low_any m h1 h2
  have ho := shl_one m h2
  have he : ((els m : Int) - 1) = (size m : Int) := by rw [els_eq]; omega
  have z1 := size_lo m h1
  have z2 := size_hi m h2
  have e1 := els_lo m h1
  have e2 := els_hi m h2
  by_cases h0 : el m a = 0
  · have t := h_zero h0
    by_cases hz : z = 0
    · subst hz
      have e : h (powZ m (el m a) 0) = 1 := by rw [h0]; rfl
      rw [e]
      clear e h0
      go_enter Tryz.func161, Tryz.ntmps161
      go_wp2_with fail
      refine (hpl a w).mono ?_
      rintro e w1 ⟨rfl, rfl⟩
      go_wp2_with fail
      go_ret
      exact ⟨rfl, Below.refl _ _⟩
    · have e : h (powZ m (el m a) z) = 0 := by rw [h0]; unfold powZ; rw [if_pos rfl, if_neg hz]; rfl
      rw [e]
      have tz : (z == 0) = false := beq_eq_false_iff_ne.2 hz
      clear e h0 hz
      go_enter Tryz.func161, Tryz.ntmps161
      go_wp2_with fail
      refine (hpl a w).mono ?_
      rintro e w1 ⟨rfl, rfl⟩
      go_wp2_with fail
      go_ret
      exact ⟨rfl, Below.refl _ _⟩
  · have t := h_not h0
    obtain ⟨k, hk, hke, hkz⟩ := exp_norm m h1 h2 z
    have q1 := Int.tmod_lt_of_pos z (b := (size m : Int)) (by omega)
    have q2 : -(size m : Int) < z.tmod (size m : Int) := by
      have := Int.tmod_lt_of_pos (-z) (b := (size m : Int)) (by omega)
      rw [Int.neg_tmod] at this
      omega
    have HR : Hid (fpow m (el m a) k = powZ m (el m a) z) := by
      show _ = _
      rw [← powZ_nat m h1 h2 _ (el_lt m h2 a)]
      unfold powZ
      rw [if_neg h0, if_neg h0]
      apply pwZ_congr
      rw [← hkz, Int.mul_emod, Int.emod_emod, ← Int.mul_emod]
    clear h0 hkz
    have HK := Lib.hid hke
    clear hke
    go_enter Tryz.func161, Tryz.ntmps161
    go_wp2_with fail
    refine (hpl a w).mono ?_
    rintro e w1 ⟨rfl, rfl⟩
    go_wp2_with fail
    refine (rpower_at m h1 h2 a _ k HK.out (by omega) _).mono ?_
    rintro e w1 ⟨rfl, b1⟩
    rw [HR.out]
    go_wp2_with fail
    go_ret
    exact ⟨rfl, b1⟩
theorem el_two (m : Nat) (h1 : 3 ≤ m) (h2 : m ≤ 14) : el m 2 = pw m 1 := by
  have h8 := two_le m h1
  have e1 : pw m 1 = dbl m 1 := rfl
  have e2 : dbl m 1 = 2 := by
    rw [dbl_bit m h1 h2 1 (one_lt m h1)]
    have : (1 : BitVec 16).getLsbD (m - 1) = false := by
      rw [BitVec.getLsbD]
      exact Nat.testBit_lt_two_pow (show 1 < 2 ^ (m - 1) from Nat.one_lt_two_pow (by omega))
    rw [this, if_neg Bool.false_ne_true]; decide
  rw [e1, e2]
  exact el_of m h2 2 (by show 2 < _; omega)
set_option maxHeartbeats 400000 in
theorem rexp_any (m : Nat) (h1 : 3 ≤ m) (h2 : m ≤ 14) (z : Int) (w : World) :
    Calls Tryz.prog 127 #[.int .i64 (m : Int), .int .i64 z] w fun e w' => e = .returned (.int .i64 (h (pwZ m z))) ∧ Below w.heap.size w w' := by
  have HR : Hid (powZ m (el m 2) z = pwZ m z) := by
    show _ = _
    rw [el_two m h1 h2, powZ_pw m h1 h2, Int.natCast_one, Int.one_mul]
  go_enter Tryz.func127, Tryz.ntmps127
  go_wp2_with fail
  refine (rpow_any m h1 h2 2 z _).mono ?_
  rintro e w1 ⟨rfl, b1⟩
  rw [HR.out]
  go_wp2_with fail
  go_ret
  exact ⟨rfl, b1⟩
section
attribute [local go_sem] rxor
end
end Go.Proofs.YtdhcigiaidlmbaaGreatDoor.Fld
/- The statements' own polynomials (shaleref2): Trim, Eval. By the verifier of shale. -/
namespace Go.Proofs.YtdhcigiaidlmbaaGreatDoor.Pl
open Go Go.RowKit Fld Bits16
set_option linter.unusedVariables false
theorem own_rowz {w : World} {base n cap : Nat} {a : Option Addr} {l : List Int} (e : Own64 w base (.slice a n cap) n l) : RowZ w a n cap l ∧ ∀ bb off, a = some ⟨bb, off, none⟩ → base ≤ bb := by
  have hl := e.len
  rcases e.2 with ⟨h0, h1⟩ | ⟨g', cap', cur, hv, hbg, hh, hnc, hm, hs, ht⟩
  · simp only [Value.slice.injEq] at h0
    obtain ⟨rfl, rfl, rfl⟩ := h0
    exact ⟨⟨by omega, Nat.le_refl _, by decide, fun i hi => by omega⟩, fun bb off e => by cases e⟩
  · simp only [Value.slice.injEq] at hv
    obtain ⟨rfl, _, rfl⟩ := hv
    refine ⟨⟨hl.symm, hnc, hm, fun i hi => ⟨g', 0, rfl, ?_, lt_of_block hh⟩⟩, fun bb off e => by simp only [Option.some.injEq, Addr.mk.injEq] at e; omega⟩
    obtain ⟨g2, c2, e2, _, _, _, hc⟩ := e.cells (by omega : 0 < n)
    simp only [Value.slice.injEq, Option.some.injEq, Addr.mk.injEq] at e2
    obtain ⟨⟨rfl, _⟩, _⟩ := e2
    rw [Nat.zero_add]; exact hc i hi
/-- a polynomial in memory that is not older, its last coefficient not 0. -/
structure ROut (m : Nat) [M : Mid m] (w0 w : World) (a : Option Addr) (n cap : Nat) (p : Ser (El m)) : Prop where
  row : RowZ w a n cap (nums p n)
  bd : Bd p n
  top : top p n = n
  fresh : ∀ bb off, a = some ⟨bb, off, none⟩ → w0.heap.size ≤ bb
section
variable {m : Nat} [M : Mid m]
theorem ROut.since {w0 w w' : World} {a : Option Addr} {n cap : Nat} {p : Ser (El m)} (h : ROut m w0 w a n cap p) (b : Below w.heap.size w w') : ROut m w0 w' a n cap p :=
  ⟨h.row.below b, h.bd, h.top, h.fresh⟩
theorem ROut.from {w0 w1 w : World} {a : Option Addr} {n cap : Nat} {p : Ser (El m)} (h : ROut m w1 w a n cap p) (b : w0.heap.size ≤ w1.heap.size) : ROut m w0 w a n cap p :=
  ⟨h.row, h.bd, h.top, fun bb off e => Nat.le_trans b (h.fresh bb off e)⟩
omit M in
theorem nums_succ (p : Ser (El m)) (k : Nat) : nums p (k + 1) = nums p k ++ [zn (p k)] := by
  unfold nums; rw [List.range_succ, List.map_append]; rfl
theorem rlow_any (z : Int) (w : World) : Calls Tryz.prog 129 #[.int .i64 (m : Int), .int .i64 z] w fun e w' => e = .returned (.int .i64 (zn (elm m z))) ∧ w = w' := by
  refine (low_any m M.lo M.hi z w).mono ?_
  rintro e w' ⟨rfl, rfl⟩
  exact ⟨rfl, rfl⟩
set_option maxRecDepth 100000 in
set_option maxHeartbeats 1000000 in
theorem rtrim_any (a : Option Addr) (n cap : Nat) (l : List Int) (w : World) (h : RowZ w a n cap l) (hn : n ≤ 1000000) :
    Calls Tryz.prog 133 #[.int .i64 (m : Int), .slice a n cap] w
      fun e w' => ∃ a' n' cap', e = .returned (.slice a' n' cap') ∧ ROut m w w' a' n' cap' (sr m l) ∧ Below w.heap.size w w' := by
  obtain ⟨i0, hi, hz0, hz1, hz2⟩ := info64
  have HP := Lib.hid h
  have HBn : Hid (Bd (sr m l) n) := by have := sr_bd (m := m) l; rwa [← h.hlen] at this
  clear h
  go_enter Tryz.func133, Tryz.ntmps133
  go_wp2_with fail
  go_loopg [5, 6] n (fun gh s5 s6 wx => ∃ (k : Nat), gh = n - k ∧ k ≤ n ∧ s6 = .int .i64 (k : Int) ∧ Own64 wx w.heap.size s5 k (nums (sr m l) k) ∧ Below w.heap.size w wx)
  case atStart => exact ⟨0, rfl, Nat.zero_le _, rfl, Own64.nil w w.heap.size, Below.refl _ _⟩
  case round =>
    obtain ⟨k, hg, hkn, rfl, hown, hB⟩ := hrel
    have HG := Lib.hid hg
    clear hg
    obtain ⟨av, cv, rfl⟩ := own_slice hown
    by_cases hlt : k < n
    · have x0 : (0 : Int) ≤ (k : Int) := by omega
      have x1 : (k : Int) < (n : Int) := by omega
      obtain ⟨bb, off, rfl, c1, hb⟩ := (HP.out.below hB).row k hlt
      have hbs := hB.size
      have HOwn := Lib.hid hown
      have HBB := Lib.hid hB
      have HF : Hid (nums (sr m l) (k + 1) = nums (sr m l) k ++ [zn (sr m l k)]) := nums_succ _ _
      clear hown hB hb
      go_wp2_with fail
      refine (rlow_any (l.getD k 0) wr).mono ?_
      rintro e w1 ⟨rfl, rfl⟩
      rw [sr_at]
      go_wp2_with (at_builtin; refine wpList_append_own _ rfl _ _ 65 rfl w.heap.size 3 i0 (.int .i64 0) 1 8 Tryz.underlying65 hi hz0 hz1 hz2 rfl (by decide) _ k _ rfl (World.ownsRow.alloc HOwn.out _) ⟨wr.heap.size, 0, none⟩ 1 1 [.int .i64 (zn (sr m l k))] rfl rfl (cell_one_new _ _ _) (ints_oneCell .i64 [_]) (by unfold maxLen; omega) (by omega) (by simp; omega) ?_; intro v7 w7 hown7 hgrow _)
      have ho7 : Own64 w7 w.heap.size v7 (k + 1) (nums (sr m l) (k + 1)) := by
        unfold Own64
        rw [HF.out, ← cells64_append]
        exact hown7
      have b7 : Below w.heap.size w w7 := (HBB.out.alloc hbs _).grown hgrow (by simp; omega) (fun g hg => (HOwn.out.block g hg).1)
      clear hown7 hgrow c1
      go_wp2_with fail
      go_roundg (n - (k + 1))
      case measure => have := HG.out; omega
      case rel => exact ⟨k + 1, rfl, by omega, by go_num, ho7, b7⟩
    · obtain rfl : k = n := by omega
      obtain ⟨hrow, hfr⟩ := own_rowz hown
      have HR := Lib.hid hrow
      have HFr := Lib.hid hfr
      have hcap := hrow.hcap
      have hmost := hrow.hmost
      unfold maxLen at hmost
      have HBB := Lib.hid hB
      clear hown hrow hfr hB
      go_wp2_with fail
      go_loopg [5] k (fun gh s5 wx => ∃ j : Nat, gh = j ∧ j ≤ k ∧ s5 = .slice av j cv ∧ Hid (top (sr m l) j = top (sr m l) k) ∧ wr = wx)
      case atStart => exact ⟨k, rfl, Nat.le_refl _, rfl, rfl, rfl⟩
      case round =>
        obtain ⟨j, hg, hj, rfl, HT, rfl⟩ := hrel
        have HG2 := Lib.hid hg
        clear hg
        have y0 : (0 : Int) ≤ (j : Int) := by omega
        have y1 : (j : Int) ≤ (cv : Int) := by omega
        rcases j with _ | j
        · have HF : Hid (ROut m w wr av 0 cv (sr m l)) := by
            have h0 : top (sr m l) k = 0 := HT.out.symm
            exact ⟨HR.out.take 0 (Nat.zero_le _) |> fun h => by rwa [nums_take _ (Nat.zero_le _)] at h, by have := top_bd HBn.out; rwa [h0] at this, rfl, HFr.out⟩
          clear HT
          go_wp2_with fail
          go_ret
          exact ⟨_, _, _, rfl, HF.out, HBB.out⟩
        · have x0 : (0 : Int) ≤ (j : Int) := by omega
          have x1 : (j : Int) < (k : Int) := by omega
          have x2 : (j : Int) ≤ (cv : Int) := by omega
          have x3 : (j : Int) < (j : Int) + 1 := by omega
          have i1 : IntKind.i64.wrap (((j + 1 : Nat) : Int) - 1) = (j : Int) := by rw [show ((j + 1 : Nat) : Int) - 1 = (j : Int) by omega]; exact IntWalk.i64_in _ (by omega)
          have i2 : IntKind.i64.wrap ((j : Int) + 1 - 1) = (j : Int) := by rw [show (j : Int) + 1 - 1 = (j : Int) by omega]; exact IntWalk.i64_in _ (by omega)
          obtain ⟨bb, off, rfl, c1, hb⟩ := HR.out.row j (by omega)
          rw [nums_at (sr m l) k j (by omega)] at c1
          have hz := zn_eq0 (sr m l j)
          by_cases h0 : sr m l j = 0
          · rw [decide_eq_true h0] at hz
            have HN : Hid (top (sr m l) j = top (sr m l) k) := by
              show _ = _
              rw [← top_zero h0]; exact HT.out
            clear HT h0 hb
            go_wp2_with fail
            go_roundg j
            case measure => have := HG2.out; omega
            case rel => exact ⟨j, rfl, by omega, rfl, HN.out, rfl⟩
          · rw [decide_eq_false h0] at hz
            have HN : Hid (j + 1 = top (sr m l) k) := by
              show _ = _
              rw [← HT.out, top_some h0]
            have HF : Hid (ROut m w wr (some ⟨bb, off, none⟩) (j + 1) cv (sr m l)) :=
              ⟨HR.out.take (j + 1) hj |> fun h => by rwa [nums_take _ hj] at h, by have := top_bd HBn.out; rwa [← HN.out] at this, top_some h0, HFr.out⟩
            clear HT h0 hb
            go_wp2_with fail
            go_ret
            exact ⟨_, _, _, rfl, HF.out, HBB.out⟩
theorem ROut.len {w0 w : World} {a : Option Addr} {n cap k : Nat} {p : Ser (El m)} (h : ROut m w0 w a n cap p) (hb : Bd p k) : n = Pl.top p k := h.top.symm.trans (top_same h.bd hb)
end
end Go.Proofs.YtdhcigiaidlmbaaGreatDoor.Pl
/- shaleref.SameInts over any two lists of ints. By the verifier of shale. -/
namespace Go.Proofs.YtdhcigiaidlmbaaGreatDoor.Pl
open Go Go.RowKit Fld Bits16
set_option linter.unusedVariables false
theorem RowZ.drawn {w w' : World} {a : Option Addr} {n cap : Nat} {l : List Int} (h : RowZ w a n cap l) (d : Drawn w w') : RowZ w' a n cap l := h.below (d.below _)
end Go.Proofs.YtdhcigiaidlmbaaGreatDoor.Pl
/- The contracts of package fieldpoly, and of its reference, in terms of the polynomials alone. By the verifier of shale. -/
namespace Go.Proofs.YtdhcigiaidlmbaaGreatDoor.Pl
open Go Go.RowKit Fld Bits16
set_option linter.unusedVariables false
section
variable {m : Nat} [M : Mid m]
/-- numbers handed in that are this polynomial, at most K. -/
def PV (m : Nat) [M : Mid m] (w : World) (K : Nat) (a : Option Addr) (n c : Nat) (p : Ser (El m)) : Prop := ∃ l, RowZ w a n c l ∧ sr m l = p ∧ n ≤ K
/-- a polynomial written as it should be. -/
structure NV (m : Nat) [M : Mid m] (w : World) (K : Nat) (a : Option Addr) (n c : Nat) (p : Ser (El m)) : Prop where
  row : RowZ w a n c (nums p n)
  bd : Bd p n
  top : top p n = n
  le : n ≤ K
theorem PV.below {w w' : World} {K : Nat} {a : Option Addr} {n c : Nat} {p : Ser (El m)} (h : PV m w K a n c p) (b : Below w.heap.size w w') : PV m w' K a n c p := by
  obtain ⟨l, h1, h2, h3⟩ := h
  exact ⟨l, h1.below b, h2, h3⟩
theorem NV.below {w w' : World} {K : Nat} {a : Option Addr} {n c : Nat} {p : Ser (El m)} (h : NV m w K a n c p) (b : Below w.heap.size w w') : NV m w' K a n c p := ⟨h.row.below b, h.bd, h.top, h.le⟩
theorem NV.pol {w : World} {K : Nat} {a : Option Addr} {n c : Nat} {p : Ser (El m)} (h : NV m w K a n c p) : PV m w K a n c p := ⟨_, h.row, sr_nums h.bd, h.le⟩
theorem PV.bdn {w : World} {K : Nat} {a : Option Addr} {n c : Nat} {p : Ser (El m)} (h : PV m w K a n c p) : Bd p n := by
  obtain ⟨l, h1, rfl, _⟩ := h
  have := sr_bd (m := m) l
  rwa [← h1.hlen] at this
theorem PV.bd {w : World} {K : Nat} {a : Option Addr} {n c : Nat} {p : Ser (El m)} (h : PV m w K a n c p) : Bd p K := h.bdn.mono (by obtain ⟨_, _, _, h3⟩ := h; exact h3)
theorem top_full {p : Ser (El m)} {n N : Nat} (h : Bd p N) (hn : n = Pl.top p N) : Pl.top p n = n := by
  have hb : Bd p n := by rw [hn]; exact top_bd h
  rw [hn]; exact (top_same (by rw [hn] at hb; exact hb) h)
theorem outV {w0 w : World} {a : Option Addr} {n c K : Nat} {p : Ser (El m)} (h : Out m w0 w a n c p) (hK : Bd p K) : NV m w K a n c p := by
  have ht : Pl.top p n = n := by
    rcases h with ⟨_, rfl, _, rfl⟩ | ⟨g, N, _, _, _, _, _, hn, hb⟩
    · rfl
    · exact top_full hb hn
  exact ⟨h.row, h.bd, ht, by rw [← ht, top_same h.bd hK]; exact top_le p K⟩
theorem routV {w0 w : World} {a : Option Addr} {n c K : Nat} {p : Ser (El m)} (h : ROut m w0 w a n c p) (hK : Bd p K) : NV m w K a n c p :=
  ⟨h.row, h.bd, h.top, by rw [← h.top, top_same h.bd hK]; exact top_le p K⟩
theorem top_nz {p : Ser (El m)} {K : Nat} (h : Bd p K) (h0 : p ≠ pz) : Pl.top p K ≠ 0 := fun e => h0 (by have := top_bd h; rw [e] at this; exact this.zero)
theorem top_deg {p : Ser (El m)} {K : Nat} (h : Bd p K) (h0 : p ≠ pz) : Dg p (Pl.top p K - 1) := (top_ne (top_nz h h0)).resolve_right fun x => x h
theorem top_dg' {p : Ser (El m)} {K d : Nat} (h : Bd p K) (hd : Dg p d) : Pl.top p K = d + 1 := by
  have h0 := top_deg h hd.ne
  have h1 := top_nz h hd.ne
  have := h0.eq hd
  omega
theorem cvK {p q : Ser (El m)} {k k' K : Nat} (hp : Bd p k) (hq : Bd q k') (h : k + k' ≤ K) : Bd (cv p q) K := (bd_cv hp hq).mono (by omega)
theorem PD.le {g p : Ser (El m)} {K : Nat} (h : PD g p) (h0 : p ≠ pz) (hp : Bd p K) {d : Nat} (hg : Dg g d) : d < K := by
  obtain ⟨a, n, ha, rfl⟩ := h
  rcases dg_or ha with h1 | ⟨x, _, hx⟩
  · rw [h1, cv_zero] at h0; exact absurd rfl h0
  · have := (hx.mul hg).lt hp; omega
/-- a greatest common divisor as the chapter wants it. -/
def IsG (p q G : Ser (El m)) : Prop := PG p q G ∧ (G = pz ∨ ∃ d, Dg G d ∧ G d = 1)
theorem pd_pz {p : Ser (El m)} (h : PD pz p) : p = pz := by
  obtain ⟨a, n, _, rfl⟩ := h
  exact zero_cv a
theorem IsG.zero {p q G : Ser (El m)} (h : IsG p q G) : G = pz ↔ p = pz ∧ q = pz := by
  constructor
  · rintro rfl
    exact ⟨pd_pz h.1.1, pd_pz h.1.2.1⟩
  · rintro ⟨rfl, rfl⟩
    exact pd_pz (h.1.2.2 pz (PD.zero _) (PD.zero _))
theorem IsG.unique {p q G G' : Ser (El m)} (h : IsG p q G) (k : IsG p q G') : G = G' := by
  by_cases h0 : G = pz
  · rw [h0]; exact (k.zero.2 (h.zero.1 h0)).symm
  · have h1 : G' ≠ pz := fun e => h0 (h.zero.2 (k.zero.1 e))
    obtain ⟨d, hd, e1⟩ := h.2.resolve_left h0
    obtain ⟨e, he, e2⟩ := k.2.resolve_left h1
    exact PG.unique hd he h.1 k.1 e1 e2
theorem IsG.bd {p q G : Ser (El m)} {K : Nat} (h : IsG p q G) (hp : Bd p K) (hq : Bd q K) : Bd G K := by
  rcases h.2 with rfl | ⟨d, hd, _⟩
  · exact bd_pz K
  · by_cases h0 : p = pz
    · by_cases h1 : q = pz
      · exact absurd (h.zero.2 ⟨h0, h1⟩) hd.ne
      · have := h.1.2.1.le h1 hq hd; exact hd.2.mono (by omega)
    · have := h.1.1.le h0 hp hd; exact hd.2.mono (by omega)
section
variable {g s be ce bl : Nat} {w : World}
theorem mulV {k k' : Nat} {a a' : Option Addr} {n c n' c' : Nat} {p q : Ser (El m)} (R : RingAt m w g s be ce bl) (K : Nat) (h1 : PV m w k a n c p) (h2 : PV m w k' a' n' c' q) (hK : k + k' ≤ K) (hK2 : K ≤ 2048) :
    Calls Tryz.prog 170 #[.pointer (some ⟨g, 0, none⟩), .slice a n c, .slice a' n' c'] w fun e w' => ∃ a n c, e = .returned (.tuple #[.slice a n c, .nilIface]) ∧ NV m w' K a n c (cv p q) ∧ Below w.heap.size w w' := by
  have hb := cvK h1.bd h2.bd hK
  obtain ⟨l1, r1, rfl, n1⟩ := h1
  obtain ⟨l2, r2, rfl, n2⟩ := h2
  have t1 := top_le (sr m l1) n
  have t2 := top_le (sr m l2) n'
  refine (pmul_any a n c l1 a' n' c' l2 w R r1 r2 (by omega) (by omega) (by omega)).mono ?_
  rintro e w1 ⟨a3, n3, c3, rfl, hO, b⟩
  exact ⟨a3, n3, c3, rfl, outV hO hb, b⟩
theorem pls_bd (l : List Int) (n : Nat) : Bd (pls (m := m) l n) (n + 1) := (pls_dg l n).2
end
section
variable {w : World}
end
end
end Go.Proofs.YtdhcigiaidlmbaaGreatDoor.Pl
/- Cosets of a number under doubling, by their remainders. No program is named here. By the verifier of shale. -/
namespace Go.Proofs.YtdhcigiaidlmbaaGreatDoor.Cos
set_option linter.unusedVariables false
def sz (m : Nat) : Nat := 2 ^ m - 1
def orb (N f j : Nat) : Nat := f * 2 ^ j % N
/-- the coset, rising. -/
def cos (m f : Nat) : List Nat := (List.range (sz m)).filter fun k => (List.range m).any fun j => orb (sz m) f j == k
theorem sz_lo {m : Nat} (h : 3 ≤ m) : 7 ≤ sz m := by
  have := Nat.pow_le_pow_right (by decide : 0 < 2) h
  unfold sz; omega
theorem sz_hi {m : Nat} (h : m ≤ 14) : sz m ≤ 16383 := by
  have := Nat.pow_le_pow_right (by decide : 0 < 2) h
  unfold sz; omega
theorem sz_odd {m : Nat} (h : 3 ≤ m) : ∃ q, sz m = 2 * q + 1 := by
  obtain ⟨k, rfl⟩ : ∃ k, m = k + 1 := ⟨m - 1, by omega⟩
  have hp := Nat.two_pow_pos k
  exact ⟨2 ^ k - 1, by unfold sz; rw [Nat.pow_succ]; omega⟩
theorem orb_lt {N : Nat} (hN : 0 < N) (f j : Nat) : orb N f j < N := Nat.mod_lt _ hN
theorem orb_zero {N f : Nat} (h : f < N) : orb N f 0 = f := by unfold orb; rw [Nat.pow_zero, Nat.mul_one, Nat.mod_eq_of_lt h]
theorem orb_comp (N f i j : Nat) : orb N (orb N f i) j = orb N f (i + j) := by
  unfold orb
  rw [Nat.mod_mul_mod, Nat.mul_assoc, ← Nat.pow_add]
theorem orb_succ (N f j : Nat) : orb N f (j + 1) = 2 * orb N f j % N := by
  rw [← orb_comp]
  unfold orb
  rw [Nat.pow_one, Nat.mul_comm]
theorem orb_m {m f : Nat} (h : f < sz m) : orb (sz m) f m = f := by
  have hp := Nat.two_pow_pos m
  have e : 2 ^ m = sz m + 1 := by unfold sz; omega
  unfold orb
  rw [e, Nat.mul_add, Nat.mul_one, Nat.mul_comm, Nat.mul_add_mod, Nat.mod_eq_of_lt h]
theorem dbl_case {N a : Nat} (h : a < N) : (2 * a % N = 2 * a ∧ 2 * a < N) ∨ (2 * a % N = 2 * a - N ∧ N ≤ 2 * a) := by
  by_cases h1 : 2 * a < N
  · exact Or.inl ⟨Nat.mod_eq_of_lt h1, h1⟩
  · exact Or.inr ⟨by rw [Nat.mod_eq_sub_mod (by omega), Nat.mod_eq_of_lt (by omega)], by omega⟩
theorem dbl_inj {N a b : Nat} (ho : ∃ q, N = 2 * q + 1) (ha : a < N) (hb : b < N) (h : 2 * a % N = 2 * b % N) : a = b := by
  obtain ⟨q, hq⟩ := ho
  rcases dbl_case ha with ⟨h1, h2⟩ | ⟨h1, h2⟩ <;> rcases dbl_case hb with ⟨h3, h4⟩ | ⟨h3, h4⟩ <;> omega
theorem orb_back {N f : Nat} (ho : ∃ q, N = 2 * q + 1) (hf : f < N) : ∀ i k, orb N f i = orb N f (i + k) → f = orb N f k
  | 0, k, h => by rw [orb_zero hf, Nat.zero_add] at h; exact h
  | i + 1, k, h => by
    rw [show i + 1 + k = i + k + 1 by omega, orb_succ, orb_succ] at h
    exact orb_back ho hf i k (dbl_inj ho (orb_lt (by omega) _ _) (orb_lt (by omega) _ _) h)
/-- d is how long the coset is. -/
structure IsPer (N f d : Nat) : Prop where
  pos : 1 ≤ d
  fin : orb N f d = f
  min : ∀ i, 1 ≤ i → i < d → orb N f i ≠ f
def lst (N f d : Nat) : List Nat := (List.range d).map (orb N f)
theorem lst_succ (N f d : Nat) : lst N f (d + 1) = lst N f d ++ [orb N f d] := by unfold lst; rw [List.range_succ, List.map_append]; rfl
theorem lst_length (N f d : Nat) : (lst N f d).length = d := by simp [lst]
theorem lst_nodup {N f d : Nat} (ho : ∃ q, N = 2 * q + 1) (hf : f < N) (h : IsPer N f d) : (lst N f d).Nodup := by
  unfold lst
  rw [List.Nodup, List.pairwise_map]
  refine List.Pairwise.imp_of_mem (R := (· < ·)) (fun {i j} hi hj hlt he => ?_) List.pairwise_lt_range
  have hj' := List.mem_range.1 hj
  have := orb_back ho hf i (j - i) (by rw [show i + (j - i) = j by omega]; exact he)
  exact h.min (j - i) (by omega) (by omega) this.symm
theorem orb_period {N f d : Nat} (h : IsPer N f d) : ∀ q r, orb N f (d * q + r) = orb N f r
  | 0, r => by rw [Nat.mul_zero, Nat.zero_add]
  | q + 1, r => by
    rw [show d * (q + 1) + r = d + (d * q + r) by rw [Nat.mul_add]; omega, ← orb_comp, h.fin, orb_period h q r]
theorem orb_mod {N f d : Nat} (h : IsPer N f d) (j : Nat) : orb N f j = orb N f (j % d) := by
  have := orb_period h (j / d) (j % d)
  rwa [Nat.div_add_mod] at this
theorem mem_lst {N f d : Nat} (h : IsPer N f d) (k : Nat) : k ∈ lst N f d ↔ ∃ j, orb N f j = k := by
  unfold lst
  rw [List.mem_map]
  constructor
  · rintro ⟨j, _, e⟩; exact ⟨j, e⟩
  · rintro ⟨j, e⟩
    exact ⟨j % d, List.mem_range.2 (Nat.mod_lt _ h.pos), by rw [← orb_mod h, e]⟩
theorem per_le {m f d : Nat} (hm : 3 ≤ m) (hf : f < sz m) (h : IsPer (sz m) f d) : d ≤ m := by
  refine Classical.byContradiction fun h0 => ?_
  exact h.min m (by omega) (by omega) (orb_m hf)
theorem per_exists {m f : Nat} (hm : 3 ≤ m) (hf : f < sz m) : ∃ d, IsPer (sz m) f d := by
  have key : ∀ k j, 1 ≤ j → j + k = m → (∀ i, 1 ≤ i → i < j → orb (sz m) f i ≠ f) → ∃ d, IsPer (sz m) f d := by
    intro k
    induction k with
    | zero =>
      intro j h1 h2 h3
      obtain rfl : j = m := by omega
      exact ⟨j, h1, orb_m hf, h3⟩
    | succ k ih =>
      intro j h1 h2 h3
      by_cases he : orb (sz m) f j = f
      · exact ⟨j, h1, he, h3⟩
      · refine ih (j + 1) (by omega) (by omega) fun i a b => ?_
        by_cases e : i = j
        · rw [e]; exact he
        · exact h3 i a (by omega)
  exact key (m - 1) 1 (Nat.le_refl _) (by omega) fun i a b => by omega
theorem mem_cos {m f : Nat} (k : Nat) : k ∈ cos m f ↔ k < sz m ∧ ∃ j, j < m ∧ orb (sz m) f j = k := by
  unfold cos
  rw [List.mem_filter, List.mem_range, List.any_eq_true]
  constructor
  · rintro ⟨h1, j, hj, he⟩
    exact ⟨h1, j, List.mem_range.1 hj, by simpa using he⟩
  · rintro ⟨h1, j, hj, he⟩
    exact ⟨h1, j, List.mem_range.2 hj, by simpa using he⟩
theorem cos_nodup (m f : Nat) : (cos m f).Nodup := List.Pairwise.filter _ List.nodup_range
theorem cos_rise (m f : Nat) : List.Pairwise (· < ·) (cos m f) := List.Pairwise.filter _ List.pairwise_lt_range
theorem lst_perm {m f d : Nat} (hm : 3 ≤ m) (hf : f < sz m) (h : IsPer (sz m) f d) : (lst (sz m) f d).Perm (cos m f) := by
  refine (List.perm_ext_iff_of_nodup (lst_nodup (sz_odd hm) hf h) (cos_nodup m f)).2 fun k => ?_
  rw [mem_lst h, mem_cos]
  constructor
  · rintro ⟨j, e⟩
    refine ⟨by rw [← e]; exact orb_lt (by omega) _ _, j % d, Nat.lt_of_lt_of_le (Nat.mod_lt _ h.pos) (per_le hm hf h), by rw [← orb_mod h, e]⟩
  · rintro ⟨_, j, _, e⟩; exact ⟨j, e⟩
theorem cos_length {m f d : Nat} (hm : 3 ≤ m) (hf : f < sz m) (h : IsPer (sz m) f d) : (cos m f).length = d := by
  rw [← (lst_perm hm hf h).length_eq, lst_length]
def ints (l : List Nat) : List Int := l.map fun e => ((e : Nat) : Int)
theorem sorted_cos {m f d : Nat} (hm : 3 ≤ m) (hf : f < sz m) (h : IsPer (sz m) f d) : (ints (lst (sz m) f d)).mergeSort (fun x y => decide (x ≤ y)) = ints (cos m f) := by
  refine List.Perm.eq_of_pairwise (le := fun x y => decide (x ≤ y) = true) ?_ ?_ ?_ ?_
  · intro a b _ _ h1 h2
    have := of_decide_eq_true h1
    have := of_decide_eq_true h2
    omega
  · refine List.pairwise_mergeSort ?_ ?_ _
    · intro a b c h1 h2
      have := of_decide_eq_true h1
      have := of_decide_eq_true h2
      exact decide_eq_true (by omega)
    · intro a b
      rw [Bool.or_eq_true, decide_eq_true_iff, decide_eq_true_iff]
      omega
  · refine List.Pairwise.map _ (fun a b hab => ?_) (cos_rise m f)
    exact decide_eq_true (by have : a < b := hab; omega)
  · exact (List.mergeSort_perm _ _).trans ((lst_perm hm hf h).map _)
theorem cos_first {m f : Nat} (hm : 3 ≤ m) (hf : f < sz m) : f ∈ cos m f := (mem_cos f).2 ⟨hf, 0, by omega, orb_zero hf⟩
theorem cos_dbl {m f k : Nat} (hm : 3 ≤ m) (hf : f < sz m) (h : k ∈ cos m f) : 2 * k % sz m ∈ cos m f := by
  obtain ⟨d, hd⟩ := per_exists hm hf
  rw [← (lst_perm hm hf hd).mem_iff, mem_lst hd] at h ⊢
  obtain ⟨j, e⟩ := h
  exact ⟨j + 1, by rw [orb_succ, e]⟩
theorem cos_same {m f k : Nat} (hm : 3 ≤ m) (hf : f < sz m) (h : k ∈ cos m f) : cos m k = cos m f := by
  obtain ⟨hk, j, hj, e⟩ := (mem_cos k).1 h
  have h2 : ∀ x, x ∈ cos m k ↔ x ∈ cos m f := fun x => by
    obtain ⟨d, hd⟩ := per_exists hm hf
    obtain ⟨d', hd'⟩ := per_exists hm hk
    rw [← (lst_perm hm hf hd).mem_iff, mem_lst hd, ← (lst_perm hm hk hd').mem_iff, mem_lst hd']
    constructor
    · rintro ⟨i, ei⟩; exact ⟨j + i, by rw [← orb_comp, e, ei]⟩
    · rintro ⟨i, ei⟩
      refine ⟨m * j - j + i, ?_⟩
      rw [← e, orb_comp, show j + (m * j - j + i) = m * j + i by have : j ≤ m * j := Nat.le_mul_of_pos_left j (by omega); omega, ← ei]
      have : ∀ q, orb (sz m) f (m * q + i) = orb (sz m) f i := by
        intro q
        induction q with
        | zero => rw [Nat.mul_zero, Nat.zero_add]
        | succ q ih => rw [show m * (q + 1) + i = m + (m * q + i) by rw [Nat.mul_add]; omega, ← orb_comp, orb_m hf, ih]
      exact this j
  refine List.Perm.eq_of_pairwise (le := (· < ·)) (fun a b _ _ h1 h2 => by omega) (cos_rise m k) (cos_rise m f) ?_
  exact (List.perm_ext_iff_of_nodup (cos_nodup m k) (cos_nodup m f)).2 h2
end Go.Proofs.YtdhcigiaidlmbaaGreatDoor.Cos
/- Blocks of bools that the call itself makes. By the verifier of shale. -/
namespace Go.Proofs.YtdhcigiaidlmbaaGreatDoor
open Go Go.RowKit
set_option linter.unusedVariables false
def objB (l : List Bool) : Obj := .cells (l.map Value.bool).toArray 4 (0, 0)
/-- block g is the first N values of p. -/
def BF (w : World) (g N : Nat) (p : Nat → Bool) : Prop := w.heap[g]? = some (objB ((List.range N).map p))
theorem BF.lt {w : World} {g N : Nat} {p : Nat → Bool} (h : BF w g N p) : g < w.heap.size := lt_of_block h
theorem BF.cell {w : World} {g N : Nat} {p : Nat → Bool} (h : BF w g N p) {i : Nat} (hi : i < N) : w.cell? ⟨g, i, none⟩ = some (.bool (p i)) := by
  unfold World.cell?
  simp only
  rw [show w.heap[g]? = some (objB ((List.range N).map p)) from h]
  simp [objB, hi]
theorem BF.free {w : World} {g N : Nat} {p : Nat → Bool} (h : BF w g N p) (i : Nat) : w.frozen? ⟨g, i, none⟩ = false := by
  unfold World.frozen?
  simp only
  rw [show w.heap[g]? = some (objB ((List.range N).map p)) from h]
  rfl
theorem BF.of {w : World} {g N : Nat} {p q : Nat → Bool} (h : BF w g N p) (e : ∀ i, i < N → p i = q i) : BF w g N q := by
  unfold BF at h ⊢
  rw [h]
  congr 2
  exact List.map_congr_left fun i hi => e i (List.mem_range.1 hi)
theorem BF.set {w : World} {g N : Nat} {p : Nat → Bool} (h : BF w g N p) (k : Nat) : BF (w.setCell ⟨g, k, none⟩ (.bool true)) g N (fun i => p i || decide (i = k)) := by
  unfold BF
  rw [heap_setCell_same w g k _ _ _ h]
  congr 2
  apply Array.ext
  · simp
  · intro i h1 h2
    simp at h1 h2
    by_cases e : i = k
    · subst e; simp
    · simp [e, Ne.symm e]
set_option maxRecDepth 100000 in
theorem infoB : ∃ i, Tryz.prog.info? 4 = some i ∧ i.zero = some (.bool false) ∧ i.size = 1 ∧ i.bytes = 1 :=
  info_parts (show (Tryz.prog.info? 4).map (fun i => (i.zero, i.size, i.bytes)) = some (some (.bool false), 1, 1) by kernel_rfl)
set_option maxRecDepth 100000 in
theorem madeB (w : World) (n : Nat) (hn : n ≤ 1000000) :
    (Instr.makeSlice 66 (.int .i64 (n : Int)) (.int .i64 (n : Int))).run Tryz.prog w = .ok (.slice (some ⟨w.heap.size, 0, none⟩) n n) (w.alloc (objB (List.replicate n false))) := by
  obtain ⟨i0, hi, hz0, hz1, hz2⟩ := infoB
  rw [run_make (P := Tryz.prog) w 66 4 i0 (.bool false) Tryz.underlying66 hi hz0 .i64 .i64 (n : Int) (n : Int) (by omega) (by omega) (by rw [hz2]; omega) (by omega)]
  congr 2
  unfold objB madeCells
  rw [hz1]
  congr 1
  apply Array.ext
  · simp
  · intro i h1 h2
    simp [Value.cells, Nat.mod_one]
theorem BF.new (w : World) (n : Nat) : BF (w.alloc (objB (List.replicate n false))) w.heap.size n (fun _ => false) := by
  unfold BF
  rw [heap_alloc_new]
  congr 2
  apply List.ext_getElem
  · simp
  · intro i h1 h2; simp
end Go.Proofs.YtdhcigiaidlmbaaGreatDoor
/- The statements' own polynomials (shaleref2): Eval, Add, Times. By the verifier of shale. -/
namespace Go.Proofs.YtdhcigiaidlmbaaGreatDoor.Pl
open Go Go.RowKit Fld Bits16
set_option linter.unusedVariables false
theorem regrown0 (w : World) : ∃ p : Regrown, w.drew = Sort.grow (redrawn w p.d) p.os := ⟨⟨w.drawn + 1, #[]⟩, by rw [Sort.grow_empty]; rfl⟩
section
variable {m : Nat} [M : Mid m]
theorem rmul_zz (a b : El m) (w : World) : Calls Tryz.prog 126 #[.int .i64 (m : Int), .int .i64 (zn a), .int .i64 (zn b)] w fun e w' => e = .returned (.int .i64 (zn (a * b))) ∧ Below w.heap.size w w' := by
  have := rmul_any m M.lo M.hi (zn a) (zn b) w
  rwa [mul_zn, elm_zn, elm_zn] at this
omit M in
omit M in
omit M in
omit M in
end
end Go.Proofs.YtdhcigiaidlmbaaGreatDoor.Pl
/- The statements' own polynomials (shaleref2): Add. By the verifier of shale. -/
namespace Go.Proofs.YtdhcigiaidlmbaaGreatDoor.Pl
open Go Go.RowKit Fld Bits16
set_option linter.unusedVariables false
section
variable {m : Nat} [M : Mid m]
theorem Blk64.rowz {w : World} {g : Nat} {l : List Int} (h : Blk64 w g l) (hm : l.length ≤ 1000000) : RowZ w (some ⟨g, 0, none⟩) l.length l.length l := by
  have := Blk64.row h l.length (Nat.le_refl _) hm
  rwa [List.take_length] at this
end
end Go.Proofs.YtdhcigiaidlmbaaGreatDoor.Pl
/- shaleref.Bytes of bytes that came in; appending to such a copy. By the verifier of shale. -/
namespace Go.Proofs.YtdhcigiaidlmbaaGreatDoor
open Go Go.RowKit
set_option linter.unusedVariables false
theorem Arg8.len {W : World} {p : Option Addr} {n cap : Nat} {l : List (BitVec 8)} (h : Arg8 W (.slice p n cap) l) : n = l.length := by
  rcases h.1 with ⟨rfl, a, c, e⟩ | ⟨bb, off, c, e, _, _⟩
  · simp only [Value.slice.injEq] at e; exact e.2.1
  · simp only [Value.slice.injEq] at e; exact e.2.1
/-- a block of the call's own is a slice of its own. -/
theorem Blk8.own {w : World} {g base n : Nat} {l : List (BitVec 8)} (h : Blk8 w g l) (hb : base ≤ g) (hn : n = l.length) (hm : n ≤ maxLen) : Own8 w base (.slice (some ⟨g, 0, none⟩) n n) n l := by
  refine ⟨by rw [cells8_length]; omega, Or.inr ⟨g, n, (cells8 l).toArray, rfl, hb, h, Nat.le_refl _, hm, by simp [cells8_length, hn], ?_⟩⟩
  rw [List.toList_toArray]
  rw [List.take_of_length_le (by rw [cells8_length]; omega)]
end Go.Proofs.YtdhcigiaidlmbaaGreatDoor
/- The statements' own polynomials (shaleref2): Times. By the verifier of shale. -/
namespace Go.Proofs.YtdhcigiaidlmbaaGreatDoor.Pl
open Go Go.RowKit Fld Bits16
set_option linter.unusedVariables false
section
variable {m : Nat} [M : Mid m]
set_option maxRecDepth 100000 in
set_option maxHeartbeats 1000000 in
theorem rtimes_any (a1 : Option Addr) (n1 c1 : Nat) (l1 : List Int) (a2 : Option Addr) (n2 c2 : Nat) (l2 : List Int) (w : World) (h1 : RowZ w a1 n1 c1 l1) (h2 : RowZ w a2 n2 c2 l2) (k1 : n1 ≤ 100000) (k2 : n2 ≤ 100000) :
    Calls Tryz.prog 131 #[.int .i64 (m : Int), .slice a1 n1 c1, .slice a2 n2 c2] w
      fun e w' => ∃ a' n' cap', e = .returned (.slice a' n' cap') ∧ ROut m w w' a' n' cap' (cv (sr m l1) (sr m l2)) ∧ Below w.heap.size w w' := by
  have HP1 := Lib.hid h1
  have HP2 := Lib.hid h2
  have hb1 : Bd (sr m l1) n1 := by have := sr_bd (m := m) l1; rwa [← h1.hlen] at this
  have hb2 : Bd (sr m l2) n2 := by have := sr_bd (m := m) l2; rwa [← h2.hlen] at this
  have ht1 := top_le (sr m l1) n1
  have ht2 := top_le (sr m l2) n2
  have HB1 := Lib.hid hb1
  have HB2 := Lib.hid hb2
  clear h1 h2 hb1 hb2
  go_enter Tryz.func131, Tryz.ntmps131
  go_wp2_with fail
  refine (rtrim_any (m := m) a1 n1 c1 l1 w HP1.out (by omega)).mono ?_
  rintro e w1 ⟨p1, N1, d1, rfl, hO1, b1⟩
  go_wp2_with fail
  refine (rtrim_any (m := m) a2 n2 c2 l2 w1 (HP2.out.below b1) (by omega)).mono ?_
  rintro e w2 ⟨p2, N2, d2, rfl, hO2, b2⟩
  have hN1 : N1 ≤ n1 := by rw [hO1.len HB1.out]; exact ht1
  have hN2 : N2 ≤ n2 := by rw [hO2.len HB2.out]; exact ht2
  replace hO1 := hO1.since b2
  have HO1 := Lib.hid hO1
  have HO2 := Lib.hid hO2
  have HB12 := Lib.hid (b1.trans (b2.mono b1.size))
  clear hO1 hO2 b1 b2
  generalize hPe : sr m l1 = P at HO1 HB1 ht1
  generalize hQe : sr m l2 = Q at HO2 HB2 ht2
  have HPe := Lib.hid hPe
  have HQe := Lib.hid hQe
  clear hPe hQe
  obtain ⟨N, hN⟩ : ∃ N, N = N1 + N2 := ⟨_, rfl⟩
  have hNm : N ≤ 1000000 := by omega
  have hmk := made64 w2 N hNm
  rw [nums_pz (m := m)] at hmk
  have HK0 : Hid (Blk64 (w2.alloc (obj64 (nums (pz : Ser (El m)) N))) w2.heap.size (nums (pz : Ser (El m)) N)) := Blk64.new w2 _
  have HB0 : Hid (Below w2.heap.size w2 (w2.alloc (obj64 (nums (pz : Ser (El m)) N)))) := (Below.refl _ _).alloc (Nat.le_refl _) _
  have hsum : (N1 : Int) + (N2 : Int) = (N : Int) := by omega
  have HN := Lib.hid hN
  clear hN
  go_wp2_with fail
  clear hmk hsum
  generalize w2.alloc (obj64 (nums (pz : Ser (El m)) N)) = w3 at HK0 HB0 ⊢
  go_loopg [8] N1 (fun gh s8 wx => ∃ (i : Nat), gh = N1 - i ∧ i ≤ N1 ∧ s8 = .int .i64 (i : Int) ∧ Blk64 wx w2.heap.size (nums (cv (cutS P i) Q) N) ∧ Below w2.heap.size w2 wx)
  case atStart => exact ⟨0, rfl, Nat.zero_le _, rfl, by rw [cutS_zero, cv_zero]; exact HK0.out, HB0.out⟩
  case round =>
    clear HK0 HB0
    obtain ⟨i, hg, hin, rfl, hk, hB⟩ := hrel
    have HG := Lib.hid hg
    clear hg
    by_cases hlt : i < N1
    · have x0 : (0 : Int) ≤ (i : Int) := by omega
      have x1 : (i : Int) < (N1 : Int) := by omega
      have HK := Lib.hid hk
      have HB := Lib.hid hB
      clear hk hB
      go_wp2_with fail
      obtain ⟨W0, rfl⟩ : ∃ W0, W0 = wr := ⟨_, rfl⟩
      go_loopg [9] N2 (fun gh s9 wx => ∃ (j : Nat), gh = N2 - j ∧ j ≤ N2 ∧ s9 = .int .i64 (j : Int) ∧ Blk64 wx w2.heap.size (nums (padd (cv (cutS P i) Q) (cv (mono i (P i)) (cutS Q j))) N) ∧ Below w2.heap.size w2 wx)
      case atStart => exact ⟨0, rfl, Nat.zero_le _, rfl, by rw [cutS_zero, zero_cv, padd_zero]; exact HK.out, HB.out⟩
      case round =>
        clear HK HB
        obtain ⟨j, hg, hjn, rfl, hk, hB⟩ := hrel
        have HG2 := Lib.hid hg
        clear hg
        by_cases hlj : j < N2
        · have y0 : (0 : Int) ≤ (j : Int) := by omega
          have y1 : (j : Int) < (N2 : Int) := by omega
          obtain ⟨K, hK⟩ : ∃ K, K = i + j := ⟨_, rfl⟩
          have hKN : K < N := by have := HN.out; omega
          have z0 : (0 : Int) ≤ (K : Int) := by omega
          have z1 : (K : Int) < (N : Int) := by omega
          have hKe : (i : Int) + (j : Int) = (K : Int) := by omega
          obtain ⟨bb1, o1, rfl, d1', _⟩ := (HO1.out.row.below hB).row i hlt
          obtain ⟨bb2, o2, rfl, d2', _⟩ := (HO2.out.row.below hB).row j hlj
          rw [nums_at P N1 i hlt] at d1'
          rw [nums_at Q N2 j hlj] at d2'
          have d1' := cell_regrown d1'
          have d2' := cell_regrown d2'
          have c3 := hk.cell (i := K) (by rw [nums_length]; exact hKN)
          rw [show nth64 (nums (padd (cv (cutS P i) Q) (cv (mono i (P i)) (cutS Q j))) N) K = zn (padd (cv (cutS P i) Q) (cv (mono i (P i)) (cutS Q j)) K) from nums_at _ _ _ hKN] at c3
          have c3' := cell_regrown c3
          have HM : Hid (∀ q os, Calls Tryz.prog 126 #[.int .i64 (m : Int), .int .i64 (zn (P i)), .int .i64 (zn (Q j))] (Sort.grow (redrawn wr q) os) fun e w'' => e = .returned (.int .i64 (zn (P i * Q j))) ∧ ∃ p : Regrown, w'' = Sort.grow (redrawn wr p.d) p.os) := fun q os => Calls.regrown_of (rmul_zz _ _ _)
          have hv : bits .xor .i64 (zn (padd (cv (cutS P i) Q) (cv (mono i (P i)) (cutS Q j)) K)) (zn (P i * Q j)) = zn (padd (cv (cutS P i) Q) (cv (mono i (P i)) (cutS Q (j + 1))) K) := by
            rw [zn_add, hK, times_new, Fl.mul_comm (P i)]
          have HSET : Hid ((nums (padd (cv (cutS P i) Q) (cv (mono i (P i)) (cutS Q j))) N).set K (zn (padd (cv (cutS P i) Q) (cv (mono i (P i)) (cutS Q (j + 1))) K)) = nums (padd (cv (cutS P i) Q) (cv (mono i (P i)) (cutS Q (j + 1)))) N) :=
            nums_set _ _ N K (fun x hx => times_at _ Q (P i) i j x (by rw [← hK]; exact hx))
          generalize zn (padd (cv (cutS P i) Q) (cv (mono i (P i)) (cutS Q (j + 1))) K) = v1 at hv HSET
          generalize zn (padd (cv (cutS P i) Q) (cv (mono i (P i)) (cutS Q j)) K) = v0 at hv c3 c3'
          generalize zn (P i * Q j) = v2 at hv HM
          have HK := Lib.hid hk
          have HB := Lib.hid hB
          have c4 := hk.free K
          clear hk hB hK
          go_wp2_with fail
          refine wp_region_quiet_tail (C := fun w' => ∃ p : Regrown, w' = Sort.grow (redrawn wr p.d) p.os) 21 (by kernel_rfl) (by kernel_rfl) (regrown0 wr) ?_
          simp only [List.take_succ_cons, List.take_zero, List.drop_succ_cons, List.drop_zero]
          repeat (go_big_quiet_step (first | (go_at_call 126; with_reducible exact HM.out _ _)))
          refine wpQuiet_nil ?_
          rintro _ ⟨⟨dq, osq⟩, rfl⟩
          have b9 := below_regrown wr dq osq
          have hk := (b9.block _ HK.out.lt).trans HK.out
          have hB := HB.out.trans (b9.mono HB.out.size)
          have c3 := c3' dq osq
          change Blk64 _ _ _ at hk
          have c4 := hk.free K
          clear b9 HM d1' d2' c3' HK HB
          generalize Sort.grow (redrawn wr dq) osq = w9 at hk hB c3 c4 ⊢
          have hs := hk.set K v1
          rw [HSET.out] at hs
          have U8 : Upd w2.heap.size w9 (w9.setCell ⟨w2.heap.size, K, none⟩ (.int .i64 v1)) := (Upd.refl _ w9).only (Only.setCell _ ⟨w2.heap.size, K, none⟩ _)
          have HB9 := Lib.hid (hB.trans (U8.toBelow (Nat.le_refl _) hB.size))
          have HS9 := Lib.hid hs
          clear hk hB hs U8 HSET
          go_wp2_with fail
          clear c3 c4 hv hKe
          generalize w9.setCell ⟨w2.heap.size, K, none⟩ (.int .i64 v1) = wq at HS9 HB9 ⊢
          go_wp2_with fail
          go_roundg (N2 - (j + 1))
          case measure => have := HG2.out; omega
          case rel => exact ⟨j + 1, rfl, by omega, by go_num, HS9.out, HB9.out⟩
        · obtain rfl : j = N2 := by omega
          rw [cutS_all HO2.out.bd, mul_step] at hk
          have HK := Lib.hid hk
          clear hk
          go_wp2_with fail
          go_roundg (N1 - (i + 1))
          case measure => have := HG.out; omega
          case rel => exact ⟨i + 1, rfl, by omega, by go_num, HK.out, hB⟩
    · obtain rfl : i = N1 := by omega
      rw [cutS_all HO1.out.bd] at hk
      have hrow := Blk64.rowz hk (by rw [nums_length]; exact hNm)
      rw [nums_length] at hrow
      have HRow := Lib.hid hrow
      have HBw := Lib.hid (HB12.out.trans (hB.mono HB12.out.size))
      have HS : Hid (sr m (nums (cv P Q) N) = cv P Q) := sr_nums ((bd_cv HO1.out.bd HO2.out.bd).mono (by have := HN.out; omega))
      clear hk hrow hB
      go_wp2_with fail
      refine (rtrim_any (m := m) _ N N _ wr HRow.out hNm).mono ?_
      rintro e w5 ⟨a', n', cap', rfl, hO, hb⟩
      rw [HS.out] at hO
      have HO := Lib.hid (hO.from HBw.out.size)
      have HB5 := Lib.hid (HBw.out.trans (hb.mono HBw.out.size))
      clear hO hb
      go_wp2_with fail
      go_ret
      exact ⟨_, _, _, rfl, by rw [HPe.out, HQe.out]; exact HO.out, HB5.out⟩
end
end Go.Proofs.YtdhcigiaidlmbaaGreatDoor.Pl
/- Berlekamp's and Massey's way over a field of two's kind: what is found makes the values, and nothing shorter does. No program is named here. By the verifier of shale. -/
namespace Go.Proofs.YtdhcigiaidlmbaaGreatDoor.Loc
open Pl
set_option linter.unusedVariables false
section
variable {K : Type} [Fl K]
/-- where one of the two is 0 each time, the product's coefficient is 0. -/
theorem cv_none (q : Ser K) : ∀ (n : Nat) (p : Ser K), (∀ i, i ≤ n → p i = 0 ∨ q (n - i) = 0) → cv p q n = 0 := by
  intro n
  induction n with
  | zero =>
    intro p h
    show p 0 * q 0 = 0
    rcases h 0 (Nat.le_refl _) with h | h
    · rw [h, zero_mul]
    · rw [show (0 : Nat) - 0 = 0 from rfl] at h; rw [h, mul_zero]
  | succ n ih =>
    intro p h
    show p 0 * q (n + 1) + cv (tl p) q n = 0
    rw [ih (tl p) fun i hi => by
      have := h (i + 1) (by omega)
      rwa [show n + 1 - (i + 1) = n - i by omega] at this, Fl.add_zero]
    rcases h 0 (by omega) with h | h
    · rw [h, zero_mul]
    · rw [show n + 1 - 0 = n + 1 from rfl] at h; rw [h, mul_zero]
/-- .. but the first. -/
theorem cv_first (p q : Ser K) (n : Nat) (h : ∀ i, 1 ≤ i → i ≤ n → p i = 0 ∨ q (n - i) = 0) : cv p q n = p 0 * q n := by
  cases n with
  | zero => rfl
  | succ n =>
    show p 0 * q (n + 1) + cv (tl p) q n = _
    rw [cv_none q n (tl p) fun i hi => by
      have := h (i + 1) (by omega) (by omega)
      rwa [show n + 1 - (i + 1) = n - i by omega] at this, Fl.add_zero]
/-- c, of length L, makes the first n values. -/
def Gn (c : Ser K) (L n : Nat) (S : Ser K) : Prop := ∀ i, L ≤ i → i < n → cv c S i = 0
theorem Gn.less {c S : Ser K} {L n k : Nat} (h : Gn c L n S) (hk : k ≤ n) : Gn c L k S := fun i h1 h2 => h i h1 (by omega)
/-- Massey's lemma: what makes one value more than c is no shorter than n + 1 - L. -/
theorem massey {c c' S : Ser K} {L L' n : Nat} (hc : Bd c (L + 1)) (h : Gn c L n S) (ha : cv c S n ≠ 0) (hc' : Bd c' (L' + 1)) (h0 : c' 0 ≠ 0) (h' : Gn c' L' (n + 1) S) : n + 1 ≤ L + L' := by
  refine Classical.byContradiction fun hn => ?_
  have e1 : cv c (cv c' S) n = 0 := cv_none _ n c fun i hi => by
    by_cases hL : L < i
    · exact .inl (hc i (by omega))
    · exact .inr (h' (n - i) (by omega) (by omega))
  have e2 : cv c' (cv c S) n = c' 0 * cv c S n := cv_first _ _ n fun i h1 hi => by
    by_cases hL : L' < i
    · exact .inl (hc' i (by omega))
    · exact .inr (h (n - i) (by omega) (by omega))
  rw [← cv_assoc, cv_comm c c', cv_assoc, e2] at e1
  exact mul_ne h0 ha e1
/-- the state of the way. -/
structure St (K : Type) where
  c : Ser K
  b : Ser K
  L : Nat
  k : Nat
  d : K
/-- b, k places further up. -/
def up (k : Nat) (b : Ser K) : Ser K := cv (mono k 1) b
theorem up_at (k : Nat) (b : Ser K) (i : Nat) : up k b i = if i < k then 0 else b (i - k) := by
  unfold up
  rw [cv_mono]
  split
  · rfl
  · rw [one_mul]
def fix (s : St K) (a : K) : Ser K := padd s.c (psm (a * s.d⁻¹) (up s.k s.b))
open Classical in
noncomputable def step (S : Ser K) (n : Nat) (s : St K) : St K :=
  if cv s.c S n = 0 then { s with k := s.k + 1 }
  else if n < 2 * s.L then { s with c := fix s (cv s.c S n), k := s.k + 1 }
  else ⟨fix s (cv s.c S n), s.c, n + 1 - s.L, 1, cv s.c S n⟩
def st0 : St K := ⟨pone, pone, 0, 1, 1⟩
noncomputable def bm (S : Ser K) : Nat → St K
  | 0 => st0
  | n + 1 => step S n (bm S n)
/-- what holds of the state behind n values. -/
structure Inv (S : Ser K) (n : Nat) (s : St K) : Prop where
  one : s.c 0 = 1
  bd : Bd s.c (s.L + 1)
  gn : Gn s.c s.L n S
  le : s.L ≤ n
  d0 : s.d ≠ 0
  kp : 1 ≤ s.k
  /-- the length of b. -/
  old : ∃ B, Bd s.b (B + 1) ∧ s.k + B + s.L = n + 1 ∧ (∀ i, B ≤ i → i + s.k < n → cv s.b S i = 0) ∧ ((s.L = 0 ∧ s.k = n + 1) ∨ (s.k ≤ n ∧ cv s.b S (n - s.k) = s.d))
  min : ∀ (c' : Ser K) (L' : Nat), Bd c' (L' + 1) → c' 0 ≠ 0 → Gn c' L' n S → s.L ≤ L'
theorem cv_up (k : Nat) (b S : Ser K) (i : Nat) : cv (up k b) S i = if i < k then 0 else cv b S (i - k) := by
  unfold up
  rw [cv_assoc, cv_mono]
  split
  · rfl
  · rw [one_mul]
/-- the length of b, as a word. -/
theorem Inv.room {S : Ser K} {n : Nat} {s : St K} (h : Inv S n s) : s.k ≤ n + 1 ∧ Bd (up s.k s.b) (n + 2 - s.L) ∧ Bd s.b (n + 2) := by
  obtain ⟨B, hb, he, _⟩ := h.old
  refine ⟨by omega, fun i hi => ?_, hb.mono (by have := h.le; omega)⟩
  rw [up_at]
  split
  · rfl
  · exact hb _ (by omega)
open Classical in
open Classical in
open Classical in
/-- where there are twice as many values as the length, the polynomial is the only one. -/
theorem only {S c c' : Ser K} {L n : Nat} (hc : Bd c (L + 1)) (h1 : c 0 = 1) (hg : Gn c L n S) (hc' : Bd c' (L + 1)) (h1' : c' 0 = 1) (hg' : Gn c' L n S) (hmin : ∀ (x : Ser K) (L' : Nat), Bd x (L' + 1) → x 0 ≠ 0 → Gn x L' n S → L ≤ L') (hn : 2 * L ≤ n) : c' = c := by
  refine Classical.byContradiction fun hne => ?_
  have he : ∀ i, L ≤ i → i < n → cv (padd c' c) S i = 0 := fun i a b => by
    rw [cv_add_left, hg i a b, hg' i a b, Fl.add_zero]
  have hex : ∃ i, padd c' c i ≠ 0 := Classical.byContradiction fun hno => hne (padd_cancel (funext fun i => Classical.byContradiction fun hi => hno ⟨i, hi⟩))
  obtain ⟨i0, hi0, hfirst⟩ : ∃ i0, padd c' c i0 ≠ 0 ∧ ∀ i, i < i0 → padd c' c i = 0 := by
    obtain ⟨i, hi⟩ := hex
    induction i using Nat.strongRecOn with
    | ind i ih =>
      by_cases hs : ∃ j, j < i ∧ padd c' c j ≠ 0
      · obtain ⟨j, hj, hj2⟩ := hs; exact ih j hj hj2
      · exact ⟨i, hi, fun j hj => Classical.byContradiction fun h => hs ⟨j, hj, h⟩⟩
  have hp : 1 ≤ i0 := by
    rcases Nat.eq_zero_or_pos i0 with h | h
    · subst h
      exact absurd (show c' 0 + c 0 = 0 by rw [h1, h1', Fl.add_self]) hi0
    · exact h
  have hl : i0 ≤ L := Classical.byContradiction fun h => hi0 (by show c' i0 + c i0 = 0; rw [hc i0 (by omega), hc' i0 (by omega), Fl.add_zero])
  obtain ⟨e', he'⟩ : ∃ e' : Ser K, e' = fun i => padd c' c (i + i0) := ⟨_, rfl⟩
  have hu : padd c' c = up i0 e' := funext fun i => by
    rw [up_at, he']
    split
    · exact hfirst i (by assumption)
    · show _ = padd c' c (i - i0 + i0)
      rw [show i - i0 + i0 = i by omega]
  have hb' : Bd e' (L - i0 + 1) := fun i hi => by
    rw [he']
    show c' (i + i0) + c (i + i0) = 0
    rw [hc _ (by omega), hc' _ (by omega), Fl.add_zero]
  have h0' : e' 0 ≠ 0 := by rw [he']; show padd c' c (0 + i0) ≠ 0; rw [Nat.zero_add]; exact hi0
  have hg0 : Gn e' (L - i0) (n - i0) S := fun i a b => by
    have h := he (i + i0) (by omega) (by omega)
    rw [hu, cv_up, if_neg (by omega), show i + i0 - i0 = i by omega] at h
    exact h
  have hfail : ∃ x, n - i0 ≤ x ∧ x < n ∧ cv e' S x ≠ 0 := Classical.byContradiction fun hno => by
    have hall : Gn e' (L - i0) n S := fun i a b => by
      by_cases hx : i < n - i0
      · exact hg0 i a hx
      · exact Classical.byContradiction fun h => hno ⟨i, by omega, b, h⟩
    have := hmin e' (L - i0) hb' h0' hall
    omega
  obtain ⟨x, hx⟩ := hfail
  obtain ⟨y, hy1, hy2, hy3, hy4⟩ : ∃ y, n - i0 ≤ y ∧ y < n ∧ cv e' S y ≠ 0 ∧ Gn e' (L - i0) y S := by
    induction x using Nat.strongRecOn with
    | ind x ih =>
      by_cases hs : ∃ j, j < x ∧ n - i0 ≤ j ∧ cv e' S j ≠ 0
      · obtain ⟨j, hj, hj2, hj3⟩ := hs; exact ih j hj ⟨hj2, by omega, hj3⟩
      · refine ⟨x, hx.1, hx.2.1, hx.2.2, fun i a b => ?_⟩
        by_cases hz : i < n - i0
        · exact hg0 i a hz
        · exact Classical.byContradiction fun h => hs ⟨i, b, by omega, h⟩
  have := massey hb' hy4 hy3 hc (by rw [h1]; exact Fl.one_ne) (hg.less (by omega))
  omega
/-! ### the way without a division -/
open Classical in
/-! ### scaled values -/
/-! ### where each second value is the square of the one at its half -/
end
end Go.Proofs.YtdhcigiaidlmbaaGreatDoor.Loc
/- The statements' own polynomials (shaleref2): DivMod. By the verifier of shale. -/
namespace Go.Proofs.YtdhcigiaidlmbaaGreatDoor.Pl
open Go Go.RowKit Fld Bits16
set_option linter.unusedVariables false
theorem Blk64.own {w : World} {g base n : Nat} {l : List Int} (h : Blk64 w g l) (hb : base ≤ g) (hn : n = l.length) (hm : n ≤ maxLen) : Own64 w base (.slice (some ⟨g, 0, none⟩) n n) n l := by
  refine ⟨by rw [cells64_length]; omega, Or.inr ⟨g, n, (cells64 l).toArray, rfl, hb, h, Nat.le_refl _, hm, by simp [cells64_length, hn], ?_⟩⟩
  rw [List.toList_toArray, List.take_of_length_le (by rw [cells64_length]; omega)]
section
variable {m : Nat} [M : Mid m]
end
end Go.Proofs.YtdhcigiaidlmbaaGreatDoor.Pl
/- The ring that a statement makes, and the examples of chapter 4. By the verifier of shale. -/
namespace Go.Proofs.YtdhcigiaidlmbaaGreatDoor.Pl
open Go Go.RowKit Fld Bits16
set_option linter.unusedVariables false
/-- the m that a statement makes of any number. -/
def rm (z : Int) : Nat := (z % 6).toNat + 3
instance (z : Int) : Mid (rm z) := ⟨by unfold rm; omega, by unfold rm; omega⟩
section
variable {m : Nat} [M : Mid m]
theorem RowZ.nv {w : World} {a : Option Addr} {n c : Nat} {l : List Int} (h : RowZ w a n c l) (e : nums (sr m l) l.length = l) (ht : Pl.top (sr m l) l.length = l.length) : NV m w n a n c (sr m l) := by
  have hl := h.hlen
  subst hl
  exact ⟨by rw [e]; exact h, sr_bd l, ht, Nat.le_refl _⟩
theorem ser_ext {p q : Ser (El m)} {n : Nat} (hp : Bd p n) (hq : Bd q n) (h : ∀ i, i < n → p i = q i) : p = q := by
  funext i
  by_cases hi : i < n
  · exact h i hi
  · rw [hp i (by omega), hq i (by omega)]
end
instance : Mid 4 := ⟨by decide, by decide⟩
abbrev s4 (l : List Int) : Ser (El 4) := sr 4 l
theorem s4_bd (l : List Int) (n : Nat) (h : l.length ≤ n) : Bd (s4 l) n := (sr_bd l).mono h
theorem y1 : cv (s4 [1, 1]) (s4 [1, 1]) = s4 [1, 0, 1] :=
  ser_ext (n := 4) (cvK (s4_bd _ 2 (by decide)) (s4_bd _ 2 (by decide)) (by decide)) (s4_bd _ 4 (by decide)) (by decide +kernel)
theorem y2 : Dv2 (s4 [0, 0, 1]) (s4 [1, 1]) (s4 [1, 1]) (s4 [1]) 1 := by
  refine ⟨?_, ⟨2, s4_bd _ 2 (by decide)⟩, s4_bd _ 1 (by decide)⟩
  exact ser_ext (n := 4) (s4_bd _ 4 (by decide)) ((cvK (s4_bd _ 2 (by decide)) (s4_bd _ 2 (by decide)) (by decide)).add (s4_bd _ 4 (by decide))) (by decide +kernel)
theorem y3 : pls (m := 4) [2, 3] 2 = s4 [6, 1, 1] :=
  ser_ext (n := 4) ((pls_bd _ 2).mono (by decide)) (s4_bd _ 4 (by decide)) (by decide +kernel)
theorem y4 : pls (m := 4) [3, 5] 2 = s4 [15, 6, 1] :=
  ser_ext (n := 4) ((pls_bd _ 2).mono (by decide)) (s4_bd _ 4 (by decide)) (by decide +kernel)
end Go.Proofs.YtdhcigiaidlmbaaGreatDoor.Pl
/- The contract of package locate's Of. By the verifier of shale. -/
namespace Go.Proofs.YtdhcigiaidlmbaaGreatDoor.Loc
open Go Go.RowKit Pl Fld Bits16
set_option linter.unusedVariables false
section
variable {m : Nat} [M : Mid m]
/-- an element by its exponent. -/
def exK (m : Nat) [M : Mid m] (z : Int) : El m := ⟨pwZ m z, pwZ_lt m M.lo M.hi z⟩
theorem exK_ne (z : Int) : exK m z ≠ 0 := fun e => pwZ_ne m M.lo M.hi z (congrArg Subtype.val e)
end
end Go.Proofs.YtdhcigiaidlmbaaGreatDoor.Loc
/- Where a polynomial is 0: places, their number, values as sums of terms. No program is named here. By the verifier of shale. -/
namespace Go.Proofs.YtdhcigiaidlmbaaGreatDoor.Sea
open Go Go.RowKit Pl Fld Bits16 Loc
set_option linter.unusedVariables false
section
variable {m : Nat} [M : Mid m]
/-- the point of place i. -/
def pt (m : Nat) [M : Mid m] (i : Nat) : El m := exK m (-(i : Int))
/-- the first n at which f says so. -/
def hits (f : Nat → Bool) (n : Nat) : List Nat := (List.range n).filter f
/-- is it 0 at place i? -/
def zAt (p : Ser (El m)) (K : Nat) (i : Nat) : Bool := zn (ev K p (pt m i)) == 0
/-! ### a value as a sum of terms -/
omit M in
omit M in
omit M in
omit M in
omit M in
omit M in
end
end Go.Proofs.YtdhcigiaidlmbaaGreatDoor.Sea
