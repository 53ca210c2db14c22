/- A record with one bit turned is none; its bits that are 0. No program is named here. By the verifier of shale. -/
import Derived.Test.YtfcmhlmllcpkmaaDoorMetaAll
namespace Go.Proofs.YtfcmhlmllcpkmaaDoor.Meta
open Go Go.RowKit Crc
set_option linter.unusedVariables false
theorem pow_ne (n : Nat) : pow n ≠ 0 := by
  intro h
  have := ups_inj0 n one h
  exact absurd this (by decide)
theorem crc_turn_ne (l : List (BitVec 8)) (k : Nat) (h : k < 8 * l.length) : crc (turn l k) ≠ crc l := by
  rw [crc_turn l k h]
  intro e
  have e2 := congrArg (crc l ^^^ ·) e
  simp only [← BitVec.xor_assoc, BitVec.xor_self, BitVec.zero_xor] at e2
  exact pow_ne _ e2
theorem turn_ne (l : List (BitVec 8)) (k : Nat) (h : k < 8 * l.length) : turn l k ≠ l := fun e => crc_turn_ne l k h (by rw [e])
theorem turn_left (a b : List (BitVec 8)) (k : Nat) (h : k < 8 * a.length) : turn (a ++ b) k = turn a k ++ b := by
  unfold turn
  rw [List.set_append_left _ _ (by omega), List.getD_eq_getElem?_getD, List.getD_eq_getElem?_getD, List.getElem?_append_left (by omega)]
theorem turn_right (a b : List (BitVec 8)) (k : Nat) (h : 8 * a.length ≤ k) : turn (a ++ b) k = a ++ turn b (k - 8 * a.length) := by
  unfold turn
  have e1 : (k - 8 * a.length) / 8 = k / 8 - a.length := by omega
  have e2 : (k - 8 * a.length) % 8 = k % 8 := by omega
  rw [List.set_append_right _ _ (by omega), List.getD_eq_getElem?_getD, List.getD_eq_getElem?_getD, List.getElem?_append_right (by omega), e1, e2]
theorem turned_bad (m : M6) (hm : May m) (d : List (BitVec 8)) (k : Nat) (hk : k < 8 * (32 + d.length)) :
    ¬ Good ((turn (rec32 m d ++ d) k).take 32) ((turn (rec32 m d ++ d) k).drop 32) := by
  have hr := rec32_length m d
  have hb := body_length m d
  have ull := fun x => un32_le32 (Bits32.u x) (Bits32.u_lo _) (Bits32.u_hi _) []
  simp only [List.append_nil] at ull
  by_cases h1 : k < 256
  · rw [turn_left _ _ _ (by omega)]
    have hl : (turn (rec32 m d) k).length = 32 := by rw [turn_length, hr]
    rw [List.take_left' hl, List.drop_left' hl]
    by_cases h2 : k < 224
    · have e : turn (rec32 m d) k = turn (body m d) k ++ le32 (Bits32.u (crc (body m d))) := by
        unfold rec32; exact turn_left _ _ _ (by omega)
      have hl2 : (turn (body m d) k).length = 28 := by rw [turn_length, hb]
      rw [e]
      intro g
      have := g.2.1
      rw [List.drop_left' hl2, List.take_left' hl2, ull] at this
      exact crc_turn_ne (body m d) k (by omega) (Bits32.u_inj _ _ this.symm)
    · have e : turn (rec32 m d) k = body m d ++ turn (le32 (Bits32.u (crc (body m d)))) (k - 8 * 28) := by
        unfold rec32
        rw [turn_right _ _ _ (by omega), hb]
      rw [e]
      intro g
      have := g.2.1
      rw [List.drop_left' hb, List.take_left' hb] at this
      have hx := ull (crc (body m d))
      generalize Bits32.u (crc (body m d)) = x at this hx
      exact turn_ne (le32 x) (k - 8 * 28) (by rw [le32_length]; omega) (un32_inj _ _ (by rw [turn_length, le32_length]) (le32_length _) (this.trans hx.symm))
  · rw [turn_right _ _ _ (by omega), List.take_left' hr, List.drop_left' hr, hr]
    intro g
    have := (good_other hm _ _).1 g
    exact crc_turn_ne d (k - 8 * 32) (by omega) (Bits32.u_inj _ _ this.symm)
/-- how many of the first j bits are 0. -/
def zN (c : BitVec 8) : Nat → Nat
  | 0 => 0
  | j + 1 => zN c j + (if c.getLsbD j then 0 else 1)
theorem zN_le (c : BitVec 8) : ∀ j, zN c j ≤ j
  | 0 => Nat.le_refl _
  | j + 1 => by have := zN_le c j; simp only [zN]; split <;> omega
def zL (l : List (BitVec 8)) : Nat → Nat
  | 0 => 0
  | k + 1 => zL l k + zN (nth8 l k) 8
theorem zL_le (l : List (BitVec 8)) : ∀ k, zL l k ≤ 8 * k
  | 0 => Nat.le_refl _
  | k + 1 => by have := zL_le l k; have := zN_le (nth8 l k) 8; simp only [zL]; omega
def zeros8 (l : List (BitVec 8)) : Nat := (l.map fun c => zN c 8).sum
theorem zL_take (l : List (BitVec 8)) : ∀ k, k ≤ l.length → zL l k = zeros8 (l.take k)
  | 0, _ => rfl
  | k + 1, h => by
    simp only [zL]
    rw [zL_take l k (by omega), List.take_succ_eq_append_getElem (by omega)]
    unfold zeros8 nth8
    rw [List.map_append, List.sum_append, List.getD_eq_getElem?_getD, List.getElem?_eq_getElem (by omega)]
    simp
theorem zeros8_append (a b : List (BitVec 8)) : zeros8 (a ++ b) = zeros8 a + zeros8 b := by unfold zeros8; rw [List.map_append, List.sum_append]
theorem few : ∀ i : Fin 65, 2 ≤ zN (BitVec.ofNat 8 i) 8 := by decide
theorem zeros_field (n : Int) (h0 : 0 ≤ n) (h1 : n ≤ 1073741824) : 2 ≤ zeros8 (le32 n) := by
  have h : byteOf n 3 = BitVec.ofNat 8 (n / 16777216).toNat := by
    unfold byteOf
    apply BitVec.eq_of_toNat_eq
    rw [BitVec.toNat_ofInt, BitVec.toNat_ofNat]
    rw [show (2 : Int) ^ (8 * 3) = 16777216 by decide]
    omega
  have := few ⟨(n / 16777216).toNat, by omega⟩
  simp only at this
  rw [← h] at this
  show 2 ≤ zN (byteOf n 0) 8 + (zN (byteOf n 1) 8 + (zN (byteOf n 2) 8 + (zN (byteOf n 3) 8 + 0)))
  omega
theorem zeros_kind (n : Int) (h0 : 1 ≤ n) (h1 : n ≤ 6) : 29 ≤ zeros8 (le32 n) := by
  rcases (by omega : n = 1 ∨ n = 2 ∨ n = 3 ∨ n = 4 ∨ n = 5 ∨ n = 6) with rfl | rfl | rfl | rfl | rfl | rfl <;> decide
theorem zeros_rec (m : M6) (hm : May m) (d : List (BitVec 8)) : 37 ≤ zL ((rec32 m d).take 24) 24 := by
  have e : (rec32 m d).take 24 = flds m 6 := by
    have : rec32 m d = flds m 6 ++ (le32 (Bits32.u (crc d)) ++ le32 (Bits32.u (crc (body m d)))) := by unfold rec32 body; rw [List.append_assoc]
    rw [this, List.take_left' (flds_length m 6)]
  rw [e, zL_take _ 24 (by rw [flds_length]; decide), List.take_of_length_le (by rw [flds_length]; decide)]
  have f := fun i hi => zeros_field (fld m i) (hm.1 i hi).1 (hm.1 i hi).2
  have f0 := zeros_kind (fld m 0) hm.2.1 hm.2.2
  have f1 := f 1 (by omega); have f2 := f 2 (by omega); have f3 := f 3 (by omega); have f4 := f 4 (by omega); have f5 := f 5 (by omega)
  simp only [flds, zeros8_append]
  omega
end Go.Proofs.YtfcmhlmllcpkmaaDoor.Meta
