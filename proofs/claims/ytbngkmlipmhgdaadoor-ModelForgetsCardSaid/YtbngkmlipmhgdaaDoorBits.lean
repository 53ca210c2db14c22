/- How the model's integers of 32 and 8 bits are BitVecs: small laws on 'bits', '/' and 'wrap'. By the verifier of shale. -/
import Derived.WalkKit
import Derived.IntWalk
namespace Go.Proofs.YtbngkmlipmhgdaaDoor.Bits32
open Go

/-- the number of 32 bits, behind a name that no tactic opens. -/
def u (a : BitVec 32) : Int := (a.toNat : Int)
/-- the number of 8 bits, likewise. -/
def b (c : BitVec 8) : Int := (c.toNat : Int)
theorem u_lo (a : BitVec 32) : 0 ≤ u a := by unfold u; omega
theorem u_hi (a : BitVec 32) : u a < 4294967296 := by unfold u; have := a.isLt; omega
theorem b_lo (c : BitVec 8) : 0 ≤ b c := by unfold b; omega
theorem b_hi (c : BitVec 8) : b c < 256 := by unfold b; have := c.isLt; omega
theorem u_inj (a c : BitVec 32) (h : u a = u c) : a = c := by
  unfold u at h; apply BitVec.eq_of_toNat_eq; omega
theorem ofInt32 (a : BitVec 32) : BitVec.ofInt 32 (u a) = a := by
  apply BitVec.eq_of_toNat_eq
  rw [BitVec.toNat_ofInt]
  unfold u
  have := a.isLt
  omega
theorem wrap32 (a : BitVec 32) : IntKind.u32.wrap (u a) = u a := by
  rw [IntKind.wrap_u32']
  have := u_lo a
  have := u_hi a
  omega
theorem xor (a c : BitVec 32) : bits .xor .u32 (u a) (u c) = u (a ^^^ c) := by
  show IntKind.u32.wrap (u (BitVec.ofInt 32 (u a) ^^^ BitVec.ofInt 32 (u c))) = _
  rw [ofInt32, ofInt32, wrap32]
theorem and (a c : BitVec 32) : bits .and .u32 (u a) (u c) = u (a &&& c) := by
  show IntKind.u32.wrap (u (BitVec.ofInt 32 (u a) &&& BitVec.ofInt 32 (u c))) = _
  rw [ofInt32, ofInt32, wrap32]
theorem xor64 (a c : BitVec 32) : bits .xor .i64 (u a) (u c) = u (a ^^^ c) := by
  have e : ∀ x : BitVec 32, BitVec.ofInt 64 (u x) = x.setWidth 64 := by
    intro x
    apply BitVec.eq_of_toNat_eq
    rw [BitVec.toNat_ofInt, BitVec.toNat_setWidth]
    unfold u
    have := x.isLt
    omega
  show IntKind.i64.wrap ((BitVec.ofInt 64 (u a) ^^^ BitVec.ofInt 64 (u c)).toNat : Int) = _
  rw [e, e, ← BitVec.setWidth_xor, BitVec.toNat_setWidth]
  have := (a ^^^ c).isLt
  rw [Nat.mod_eq_of_lt (by omega)]
  exact IntWalk.i64_in _ (by omega)
theorem ofInt8 (a : BitVec 8) : BitVec.ofInt 8 (b a) = a := by
  apply BitVec.eq_of_toNat_eq
  rw [BitVec.toNat_ofInt]
  unfold b
  have := a.isLt
  omega
theorem wrap8 (a : BitVec 8) : IntKind.u8.wrap (b a) = b a := by
  rw [IntKind.wrap_u8']
  have := b_lo a
  have := b_hi a
  omega
theorem bxor (a c : BitVec 8) : bits .xor .u8 (b a) (b c) = b (a ^^^ c) := by
  show IntKind.u8.wrap (b (BitVec.ofInt 8 (b a) ^^^ BitVec.ofInt 8 (b c))) = _
  rw [ofInt8, ofInt8, wrap8]
theorem or (a c : BitVec 32) : bits .or .u32 (u a) (u c) = u (a ||| c) := by
  show IntKind.u32.wrap (u (BitVec.ofInt 32 (u a) ||| BitVec.ofInt 32 (u c))) = _
  rw [ofInt32, ofInt32, wrap32]
theorem b_u (c : BitVec 8) : b c = u (c.setWidth 32) := by
  unfold u b
  rw [BitVec.toNat_setWidth]
  have := c.isLt
  omega
theorem xor8 (a : BitVec 32) (c : BitVec 8) : bits .xor .u32 (u a) (b c) = u (a ^^^ c.setWidth 32) := by rw [b_u, xor]
theorem and15 (a : BitVec 32) : bits .and .u32 (u a) 15 = u (a &&& 15#32) := and a 15#32
theorem and1 (a : BitVec 32) : bits .and .u32 (u a) 1 = u (a &&& 1#32) := and a 1#32
theorem andMsb (a : BitVec 32) : bits .and .u32 (u a) 2147483648 = u (a &&& 2147483648#32) := and a 2147483648#32
theorem xorPoly (a : BitVec 32) : bits .xor .u32 (u a) 3988292384 = u (a ^^^ 3988292384#32) := xor a 3988292384#32
theorem xorOnes (a : BitVec 32) : bits .xor .u32 (u a) 4294967295 = u (a ^^^ 4294967295#32) := xor a 4294967295#32
theorem div16 (a : BitVec 32) : u a / 16 = u (a >>> 4) := by
  unfold u; rw [BitVec.toNat_ushiftRight, Nat.shiftRight_eq_div_pow]; omega
theorem div2 (a : BitVec 32) : u a / 2 = u (a >>> 1) := by
  unfold u; rw [BitVec.toNat_ushiftRight, Nat.shiftRight_eq_div_pow]; omega
theorem dbl (a : BitVec 32) : IntKind.u32.wrap (u a * 2) = u (a <<< 1) := by
  rw [IntKind.wrap_u32']; unfold u; rw [BitVec.toNat_shiftLeft, Nat.shiftLeft_eq]; omega
theorem shr1 (yk : IntKind) (a : BitVec 32) : Op.shift .shr .u32 (u a) yk 1 = pure (.int .u32 (u (a >>> 1))) := by
  rw [shift_shr .u32 yk (u a) 1 (by decide) (by decide)]
  exact congrArg (fun n => pure (Value.int .u32 n)) (div2 a)
theorem shr4 (yk : IntKind) (a : BitVec 32) : Op.shift .shr .u32 (u a) yk 4 = pure (.int .u32 (u (a >>> 4))) := by
  rw [shift_shr .u32 yk (u a) 4 (by decide) (by decide)]
  exact congrArg (fun n => pure (Value.int .u32 n)) (div16 a)
theorem shl1 (yk : IntKind) (a : BitVec 32) : Op.shift .shl .u32 (u a) yk 1 = pure (.int .u32 (u (a <<< 1))) := by
  rw [shift_shl .u32 yk (u a) 1 (by decide) (by decide)]
  exact congrArg (fun n => pure (Value.int .u32 n)) (dbl a)
theorem bit8 (k : Nat) : (2 : Int) ^ (k % 8) % 256 = b (BitVec.twoPow 8 (k % 8)) := by
  have : ∀ i : Fin 8, (2 : Int) ^ (i.val) % 256 = b (BitVec.twoPow 8 i) := by decide
  exact this ⟨k % 8, by omega⟩
theorem bxor_bit (c : BitVec 8) (k : Nat) : bits .xor .u8 (b c) ((2 : Int) ^ (k % 8) % 256) = b (c ^^^ BitVec.twoPow 8 (k % 8)) := by rw [bit8, bxor]
theorem and1_ne (a : BitVec 32) : (u (a &&& 1#32) != 0) = true ↔ a.getLsbD 0 = true := by
  have h : (a &&& 1#32).toNat = a.toNat % 2 := by rw [BitVec.toNat_and]; exact Nat.and_one_is_mod _
  unfold u
  rw [h, bne_iff_ne, BitVec.getLsbD, Nat.testBit_zero]
  simp
  omega
theorem and15_lt (a : BitVec 32) : u (a &&& 15#32) < 16 := by
  have h : (a &&& 15#32).toNat = a.toNat % 16 := by rw [BitVec.toNat_and]; exact Nat.and_two_pow_sub_one_eq_mod a.toNat 4
  unfold u
  omega
theorem andMsb_ne (a : BitVec 32) : (u (a &&& 2147483648#32) != 0) = true ↔ a.msb = true := by
  have h : (a &&& 2147483648#32).toNat = a.toNat / 2147483648 % 2 * 2147483648 := by
    rw [BitVec.toNat_and]; exact nat_bit 31 a.toNat
  unfold u
  rw [h, bne_iff_ne, BitVec.msb_eq_decide]
  simp
  have := a.isLt
  omega
theorem bit_test (m : BitVec 32) (k : Nat) : (bits .and .u32 (u m / 2 ^ k) 1 == 1) = m.getLsbD k := by
  have div_pow : u m / 2 ^ k = u (m >>> k) := by
    unfold u
    rw [BitVec.toNat_ushiftRight, Nat.shiftRight_eq_div_pow, Int.natCast_ediv, Int.natCast_pow]
    rfl
  rw [div_pow, and1]
  have h := and1_ne (m >>> k)
  have h2 : (m >>> k).getLsbD 0 = m.getLsbD k := by simp
  rw [h2] at h
  have h3 : ((m >>> k) &&& 1#32).toNat = (m >>> k).toNat % 2 := by rw [BitVec.toNat_and]; exact Nat.and_one_is_mod _
  rw [Bool.eq_iff_iff, ← h, beq_iff_eq, bne_iff_ne]
  unfold u
  omega
theorem zero_ne (a : BitVec 32) : (u a != 0) = true ↔ a ≠ 0 := by
  unfold u
  rw [bne_iff_ne]
  constructor
  · intro h e; subst e; simp at h
  · intro h e; apply h; apply BitVec.eq_of_toNat_eq; simpa using e
/-- the lowest seven bits of an int. -/
theorem and127 (z : Int) : ∃ q : Nat, q ≤ 127 ∧ bits .and .i64 z 127 = (q : Int) := by
  have h : (BitVec.ofInt 64 z &&& 127#64).toNat ≤ 127 := by
    rw [BitVec.toNat_and]
    exact Nat.and_le_right
  refine ⟨_, h, ?_⟩
  show IntKind.i64.wrap ((BitVec.ofInt 64 z &&& BitVec.ofInt 64 127).toNat : Int) = _
  rw [show BitVec.ofInt 64 127 = 127#64 by decide]
  exact IntWalk.i64_in _ (by omega)
/-- an int and a mask. -/
theorem andMask (z : Int) (m : Nat) (hm : m < 9223372036854775808) : ∃ q : Nat, q ≤ m ∧ bits .and .i64 z (m : Int) = (q : Int) := by
  have e : (BitVec.ofInt 64 (m : Int)).toNat = m := by rw [BitVec.toNat_ofInt]; omega
  have h : (BitVec.ofInt 64 z &&& BitVec.ofInt 64 (m : Int)).toNat ≤ m := by
    rw [BitVec.toNat_and, e]
    exact Nat.and_le_right
  refine ⟨_, h, ?_⟩
  show IntKind.i64.wrap ((BitVec.ofInt 64 z &&& BitVec.ofInt 64 (m : Int)).toNat : Int) = _
  exact IntWalk.i64_in _ (by omega)
end Go.Proofs.YtbngkmlipmhgdaaDoor.Bits32
