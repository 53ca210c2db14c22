/- Texts of the verifier of shale, laid into one: MinEv. -/
import Derived.Test.YtbapmkhdpfgnlaaDoorGreat1
import Derived.Test.YtbapmkhdpfgnlaaDoorGreat2
import Derived.Test.YtbapmkhdpfgnlaaDoorGreat3
import Derived.Test.YtbapmkhdpfgnlaaDoorGreat4
import Derived.Test.YtbapmkhdpfgnlaaDoorGreat5
import Derived.Test.YtbapmkhdpfgnlaaDoorGreat6
import Derived.Test.YtbapmkhdpfgnlaaDoorGreat7
/- The value of a polynomial at a power of 2 as the statement MinimalOf reckons it. By the verifier of shale. -/
namespace Go.Proofs.YtbapmkhdpfgnlaaDoor.Cos
open Go Go.RowKit Bits16
set_option linter.unusedVariables false
theorem zxor (y : BitVec 16) : 0 ^^^ y = y := BitVec.zero_xor
theorem xorz (y : BitVec 16) : y ^^^ 0 = y := BitVec.xor_zero
theorem exps_above (v : Nat) : ∀ k, Bin.topE v ≤ k → Bin.exps v k = Bin.exps v (Bin.topE v)
  | 0, h => by rw [Nat.le_zero.1 h]
  | k + 1, h => by
    by_cases h1 : Bin.topE v = k + 1
    · rw [h1]
    · have h2 : Bin.topE v ≤ k := by omega
      have ht : v.testBit k = false := by
        apply Nat.testBit_lt_two_pow
        by_cases h0 : v = 0
        · rw [h0]; exact Nat.two_pow_pos k
        · have : v.log2 + 1 ≤ k := by unfold Bin.topE at h2; rw [if_neg h0] at h2; exact h2
          exact (Nat.log2_lt h0).1 (by omega)
      rw [Bin.exps, ht, exps_above v k h2]; rfl
theorem evx_fold (m : Nat) (i : Nat) : ∀ (es : List Nat) (x : BitVec 16), es.foldl (fun v (e : Nat) => v ^^^ Fld.pwZ m ((i * e : Nat) : Int)) x = x ^^^ evx m es i
  | [], x => by show x = x ^^^ 0; simp
  | e :: es, x => by
    show es.foldl _ (x ^^^ Fld.pwZ m ((i * e : Nat) : Int)) = x ^^^ es.foldl _ (0 ^^^ Fld.pwZ m ((i * e : Nat) : Int))
    rw [evx_fold m i es, evx_fold m i es, zxor, BitVec.xor_assoc]
theorem evx_cons (m : Nat) (e : Nat) (es : List Nat) (i : Nat) : evx m (e :: es) i = Fld.pwZ m ((i * e : Nat) : Int) ^^^ evx m es i := by
  show es.foldl _ (0 ^^^ Fld.pwZ m ((i * e : Nat) : Int)) = _
  rw [evx_fold, zxor]
/-- a bit as an element. -/
def bitE (v d : Nat) : BitVec 16 := if v.testBit d then 1 else 0
theorem exps_ev (m v d i : Nat) : evx m (Bin.exps v (d + 1)) i = (if v.testBit d then Fld.pwZ m ((i * d : Nat) : Int) else 0) ^^^ evx m (Bin.exps v d) i := by
  rw [Bin.exps]
  split
  · exact evx_cons m d _ i
  · rw [List.nil_append, zxor]
theorem pwZ_zero (m : Nat) : Fld.pwZ m 0 = 1 := by
  unfold Fld.pwZ
  rw [Int.zero_emod]; rfl
/-- what one step of the reckoning keeps: X is the value so far, above bit d. -/
theorem hor_step {m : Nat} (h1 : 3 ≤ m) (h2 : m ≤ 14) (v d i : Nat) (X A : BitVec 16) (hX : X.toNat < 2 ^ m)
    (h : Fld.fmul m X (Fld.pwZ m ((i * (d + 1) : Nat) : Int)) ^^^ evx m (Bin.exps v (d + 1)) i = A) :
    (Fld.fmul m X (Fld.pwZ m (i : Int)) ^^^ bitE v d).toNat < 2 ^ m ∧
    Fld.fmul m (Fld.fmul m X (Fld.pwZ m (i : Int)) ^^^ bitE v d) (Fld.pwZ m ((i * d : Nat) : Int)) ^^^ evx m (Bin.exps v d) i = A := by
  have l1 := Fld.pwZ_lt m h1 h2 (i : Int)
  have l2 := Fld.pwZ_lt m h1 h2 ((i * d : Nat) : Int)
  have l3 : (Fld.fmul m X (Fld.pwZ m (i : Int))).toNat < 2 ^ m := Fld.fmul_lt m h1 h2 _ _ hX
  have l4 : (bitE v d).toNat < 2 ^ m := by
    unfold bitE
    split
    · exact Fld.one_lt m h1
    · exact Nat.two_pow_pos m
  refine ⟨Fld.xor_lt m _ _ l3 l4, ?_⟩
  rw [Fld.xor_fmul m h1 h2 _ _ _ l3 l4 l2, Fld.fmul_assoc m h1 h2 _ _ _ hX l1 l2, Fld.pwZ_mul m h1 h2, show (i : Int) + ((i * d : Nat) : Int) = ((i * (d + 1) : Nat) : Int) by rw [Nat.mul_succ]; omega]
  rw [← h, exps_ev, BitVec.xor_assoc]
  congr 1
  congr 1
  unfold bitE
  split
  · exact Fld.one_fmul m h1 h2 _ l2
  · exact Fld.zero_fmul m h1 h2 _
theorem hor_end {m : Nat} (h1 : 3 ≤ m) (h2 : m ≤ 14) (v i : Nat) (X A : BitVec 16) (hX : X.toNat < 2 ^ m)
    (h : Fld.fmul m X (Fld.pwZ m ((i * 0 : Nat) : Int)) ^^^ evx m (Bin.exps v 0) i = A) : X = A := by
  rw [← h, Nat.mul_zero]
  show X = Fld.fmul m X (Fld.pwZ m 0) ^^^ 0
  rw [pwZ_zero, Fld.fmul_one m h1 h2 X hX, xorz]
theorem hor_start {m : Nat} (h1 : 3 ≤ m) (h2 : m ≤ 14) (v D i : Nat) (hD : Bin.topE v ≤ D) :
    Fld.fmul m 0 (Fld.pwZ m ((i * D : Nat) : Int)) ^^^ evx m (Bin.exps v D) i = evx m (Bin.exps v (Bin.topE v)) i := by
  rw [Fld.zero_fmul m h1 h2, zxor, exps_above v D hD]
theorem exps_lt (v : Nat) : ∀ k e, e ∈ Bin.exps v k → e < k
  | 0, e, h => by simp [Bin.exps] at h
  | k + 1, e, h => by
    rw [Bin.exps] at h
    rcases List.mem_append.1 h with h | h
    · split at h
      · simp at h; omega
      · simp at h
    · have := exps_lt v k e h; omega
theorem top_len {w : World} {a : Option Addr} {n c v K : Nat} (h : Bin.PolV w K a n c v) : Bin.topE v ≤ 8 * n := by
  obtain ⟨X, h1, rfl, h3⟩ := h
  have := Bin.val_lt X
  rw [← h1.hlen] at this
  unfold Bin.topE
  split
  · omega
  · rename_i h0
    have := (Nat.log2_lt h0).2 this
    omega
set_option maxRecDepth 100000 in
theorem rBitE {w : World} {k : Nat} {a : Option Addr} {n c u : Nat} (h : Bin.PolV w k a n c u) (d : Nat) (hd : d ≤ 1000) :
    Calls Tryd.prog 20 #[.slice a n c, .int .i64 (d : Int)] w fun e w' => e = .returned (.int .i64 (Bits16.h (bitE u d))) ∧ w = w' := by
  obtain ⟨X, p1, rfl, n1⟩ := h
  have HP := Lib.hid p1
  have HB : Hid (Bin.bitZ X (d : Int) = Bits16.h (bitE (Bin.val X) d)) := by
    show _ = _
    rw [Bin.bitZ_bz]
    unfold Bin.bz bitE
    cases (Bin.val X).testBit d <;> rfl
  clear p1
  go_enter Tryd.func20, Tryd.ntmps20
  go_wp2_with fail
  refine (Bin.rbit_any a n c X (d : Int) w HP.out (by omega)).mono ?_
  rintro e w1 ⟨rfl, rfl⟩
  rw [HB.out]
  go_wp2_with fail
  go_ret
  exact ⟨rfl, rfl⟩
end Go.Proofs.YtbapmkhdpfgnlaaDoor.Cos
