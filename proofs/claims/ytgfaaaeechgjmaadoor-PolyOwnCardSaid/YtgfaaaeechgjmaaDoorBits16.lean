/- How the model's integers of 16 bits are BitVecs. By the verifier of shale. -/
import Derived.Test.YtgfaaaeechgjmaaDoorBits
namespace Go.Proofs.YtgfaaaeechgjmaaDoor.Bits16
open Go
/-- the number of 16 bits, behind a name that no tactic opens. -/
def h (a : BitVec 16) : Int := (a.toNat : Int)
theorem h_lo (a : BitVec 16) : 0 ≤ h a := by unfold h; omega
theorem h_hi (a : BitVec 16) : h a < 65536 := by unfold h; have := a.isLt; omega
theorem h_inj (a c : BitVec 16) (e : h a = h c) : a = c := by
  unfold h at e; apply BitVec.eq_of_toNat_eq; omega
theorem ofInt16 (a : BitVec 16) : BitVec.ofInt 16 (h a) = a := by
  apply BitVec.eq_of_toNat_eq
  rw [BitVec.toNat_ofInt]
  unfold h
  have := a.isLt
  omega
theorem wrap16 (a : BitVec 16) : IntKind.u16.wrap (h a) = h a := by
  rw [IntKind.wrap_u16]
  have := h_lo a
  have := h_hi a
  omega
theorem hxor (a c : BitVec 16) : bits .xor .u16 (h a) (h c) = h (a ^^^ c) := by
  show IntKind.u16.wrap (h (BitVec.ofInt 16 (h a) ^^^ BitVec.ofInt 16 (h c))) = _
  rw [ofInt16, ofInt16, wrap16]
theorem hor (a c : BitVec 16) : bits .or .u16 (h a) (h c) = h (a ||| c) := by
  show IntKind.u16.wrap (h (BitVec.ofInt 16 (h a) ||| BitVec.ofInt 16 (h c))) = _
  rw [ofInt16, ofInt16, wrap16]
theorem hand (a c : BitVec 16) : bits .and .u16 (h a) (h c) = h (a &&& c) := by
  show IntKind.u16.wrap (h (BitVec.ofInt 16 (h a) &&& BitVec.ofInt 16 (h c))) = _
  rw [ofInt16, ofInt16, wrap16]
theorem hand1 (a : BitVec 16) : bits .and .u16 (h a) 1 = h (a &&& 1#16) := hand a 1#16
theorem shr (yk : IntKind) (a : BitVec 16) (n : Nat) (hn : n ≤ 16) (y : Int) (hy : y = (n : Int)) : Op.shift .shr .u16 (h a) yk y = pure (.int .u16 (h (a >>> n))) := by
  subst hy
  rw [shift_shr .u16 yk (h a) _ (by omega) (by show _ ≤ (16 : Int); omega)]
  refine congrArg (fun n => pure (Value.int .u16 n)) ?_
  unfold h
  rw [BitVec.toNat_ushiftRight, Nat.shiftRight_eq_div_pow, Int.toNat_natCast, Int.natCast_ediv, Int.natCast_pow]; rfl
theorem shr1 (yk : IntKind) (a : BitVec 16) : Op.shift .shr .u16 (h a) yk 1 = pure (.int .u16 (h (a >>> 1))) := shr yk a 1 (by decide) _ rfl
theorem shr2 (yk : IntKind) (a : BitVec 16) : Op.shift .shr .u16 (h a) yk 2 = pure (.int .u16 (h (a >>> 2))) := shr yk a 2 (by decide) _ rfl
theorem shr3 (yk : IntKind) (a : BitVec 16) : Op.shift .shr .u16 (h a) yk 3 = pure (.int .u16 (h (a >>> 3))) := shr yk a 3 (by decide) _ rfl
theorem shr5 (yk : IntKind) (a : BitVec 16) : Op.shift .shr .u16 (h a) yk 5 = pure (.int .u16 (h (a >>> 5))) := shr yk a 5 (by decide) _ rfl
theorem shl15 (yk : IntKind) (a : BitVec 16) : Op.shift .shl .u16 (h a) yk 15 = pure (.int .u16 (h (a <<< 15))) := by
  rw [shift_shl .u16 yk (h a) 15 (by decide) (by decide)]
  refine congrArg (fun n => pure (Value.int .u16 n)) ?_
  rw [IntKind.wrap_u16]
  unfold h
  rw [BitVec.toNat_shiftLeft, Nat.shiftLeft_eq]
  rw [show ((2 : Int) ^ (15 : Int).toNat) = 32768 by decide, show (2 : Nat) ^ 15 = 32768 by decide]
  omega
theorem h_u16 (x : Int) : IntKind.u16.wrap x = h (BitVec.ofInt 16 x) := by
  rw [IntKind.wrap_u16]
  unfold h
  rw [BitVec.toNat_ofInt]
  omega
/-- or of two naturals that fit, on an int. -/
theorem or64 (a c : Nat) (ha : a < 9223372036854775808) (hc : c < 9223372036854775808) : bits .or .i64 (a : Int) (c : Int) = ((a ||| c : Nat) : Int) := by
  have e : ∀ n : Nat, n < 9223372036854775808 → (BitVec.ofInt 64 (n : Int)).toNat = n := by
    intro n hn
    rw [BitVec.toNat_ofInt]
    omega
  show IntKind.i64.wrap ((BitVec.ofInt 64 (a : Int) ||| BitVec.ofInt 64 (c : Int)).toNat : Int) = _
  rw [BitVec.toNat_or, e a ha, e c hc]
  have : a ||| c < 2 ^ 63 := Nat.or_lt_two_pow ha hc
  exact IntWalk.i64_in _ (by omega)
end Go.Proofs.YtgfaaaeechgjmaaDoor.Bits16
