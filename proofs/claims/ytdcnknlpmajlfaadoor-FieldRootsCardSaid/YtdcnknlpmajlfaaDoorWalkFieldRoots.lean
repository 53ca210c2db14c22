/- The walk over FieldRoots. By the verifier of shale. -/
import Derived.Test.YtdcnknlpmajlfaaDoorFldFirst
import Derived.Test.YtdcnknlpmajlfaaDoorLaidFieldRoots
namespace Go.Proofs.YtdcnknlpmajlfaaDoor.walkFieldRoots
open Go Go.RowKit Bits16 Fld
set_option linter.unusedVariables false
theorem fpow_two (m : Nat) (h1 : 3 ≤ m) (h2 : m ≤ 14) (a : BitVec 16) (ha : a.toNat < 2 ^ m) (k : Nat) : fpow m a (2 ^ k) = sqs m k a := by
  rcases el_cases m h1 h2 a ha with rfl | ⟨i, _, rfl⟩
  · rw [sqs_zero]
    obtain ⟨n, hn⟩ : ∃ n, 2 ^ k = n + 1 := ⟨2 ^ k - 1, by have := Nat.two_pow_pos k; omega⟩
    rw [hn, fpow_zero]
  · rw [fpow_pw m h1 h2, sqs_pw m h1 h2]
/-- the root. -/
def root (m : Nat) (a : BitVec 16) : BitVec 16 := sqs m (m - 1) a
theorem root_sq (m : Nat) (h1 : 3 ≤ m) (h2 : m ≤ 14) (a : BitVec 16) (ha : a.toNat < 2 ^ m) : fmul m (root m a) (root m a) = a := by
  unfold root
  rw [← sqs_succ, show m - 1 + 1 = m by omega, sqs_back m h1 h2 a ha]
theorem root_lt (m : Nat) (h1 : 3 ≤ m) (h2 : m ≤ 14) (a : BitVec 16) (ha : a.toNat < 2 ^ m) : (root m a).toNat < 2 ^ m := sqs_lt m h1 h2 _ a ha
theorem other_sq (m : Nat) (h1 : 3 ≤ m) (h2 : m ≤ 14) (a : BitVec 16) (ha : a.toNat < 2 ^ m) : fmul m (root m a ^^^ 1) (root m a ^^^ 1) ≠ a := by
  rw [square_xor m h1 h2 _ _ (root_lt m h1 h2 a ha) (one_lt m h1), root_sq m h1 h2 a ha, fmul_one m h1 h2 1 (one_lt m h1)]
  intro e
  have : a ^^^ 1 = a ^^^ 0 := by rw [e]; exact BitVec.xor_zero.symm
  rw [BitVec.xor_right_inj] at this
  exact absurd this (by decide)
set_option maxRecDepth 100000 in
set_option maxHeartbeats 2000000 in
theorem walk (z a : Int) (w : World) (_w0 : (Lit.int .i64 z).wf = true) (_w1 : (Lit.int .i64 a).wf = true) (hL : LaidFieldRoots.Holds w) :
    Calls Tryd.prog 8 #[.int .i64 z, .int .i64 a] w fun e w' => e = .returned (.bool true) ∧ Below w.heap.size w w' := by
  obtain ⟨g, ⟨E0, E1⟩, _⟩ := hL
  generalize g 0 = p at E0
  generalize g 1 = q at E1
  have l1 := made_lo z
  have l2 := made_hi z
  have HM := Lib.hid (made_any z)
  generalize made z = m at l1 l2 HM ⊢
  have HL := Lib.hid (low_any m l1 l2 a)
  have hA := el_lt m l2 a
  generalize el m a = x at HL hA
  have k1 : (3 : Int) ≤ (m : Int) := by omega
  have k2 : (m : Int) ≤ 14 := by omega
  go_enter Tryd.func8, Tryd.ntmps8
  go_wp2_with fail
  refine (first_any w p q E0 E1).mono ?_
  rintro e w1 ⟨rfl, b1⟩
  have E1 := E1.below b1
  go_wp2_with fail
  refine (HM.out w1).mono ?_
  rintro e w2 ⟨s, be, ce, bl, rfl, f, b2⟩
  have E1 := E1.below b2
  have b2 := b1.trans (b2.mono b1.size)
  clear E0 b1
  go_wp2_with fail
  refine (HL.out w2).mono ?_
  rintro e w3 ⟨rfl, rfl⟩
  have HX := Lib.hid (el_of m l2 x hA)
  have HR : Hid (powZ m x ((2 ^ (m - 1) : Nat) : Int) = root m x) := by
    show _ = _
    rw [powZ_nat m l1 l2 x hA, fpow_two m l1 l2 x hA]; rfl
  have hR := root_lt m l1 l2 x hA
  go_wp2_with fail
  refine (pow_any l1 l2 (h x) _ _ f q E1.1).mono ?_
  rintro e w4 ⟨rfl, d⟩
  have f4 := f.drawn l1 d
  have b4 := b2.trans (d.below _)
  have HW : Hid (wrap64 (2 ^ (m - 1)) = ((2 ^ (m - 1) : Nat) : Int)) := by
    show _ = _
    have h14 : 2 ^ (m - 1) ≤ 2 ^ 14 := Nat.pow_le_pow_right (by decide) (by omega)
    rw [show ((2 : Int) ^ (m - 1)) = ((2 ^ (m - 1) : Nat) : Int) by rw [Int.natCast_pow]; rfl]
    have h15 : 2 ^ (m - 1) ≤ 16384 := h14
    generalize 2 ^ (m - 1) = N at h15 ⊢
    exact IntWalk.wrap64_in _ (by omega)
  rw [HX.out, HW.out, HR.out]
  have HQ := Lib.hid (root_sq m l1 l2 x hA)
  have HT := Lib.hid (other_sq m l1 l2 x hA)
  have HB := Lib.hid (sqs_back m l1 l2 x hA)
  have H1 : Hid (el m 1 = 1) := el_of m l2 1 (one_lt m l1)
  have HRe := Lib.hid (el_of m l2 _ hR)
  have hR1 := xor_lt m _ _ hR (one_lt m l1)
  clear f b2 d
  go_wp2_with fail
  go_loopg [9, 10] m (fun g s9 s10 wx => ∃ k : Nat, g = m - k ∧ k ≤ m ∧ s9 = .int .i64 (h (sqs m k x)) ∧ s10 = .int .i64 (k : Int) ∧ FldAt m wx s be ce bl ∧ Below w.heap.size w wx)
  case atStart => exact ⟨0, rfl, Nat.zero_le _, rfl, rfl, f4, b4⟩
  case round =>
    obtain ⟨k, hg, hk, rfl, rfl, hf, hb⟩ := hrel
    have HG := Lib.hid hg
    clear hg f4 b4
    by_cases hlt : k < m
    · have t : (k : Int) < (m : Int) := by omega
      have hs := sqs_lt m l1 l2 k x hA
      have HS := Lib.hid (sqs_succ m k x)
      go_wp2_with fail
      refine (mul_at l1 l2 _ _ hs hs _ hf).mono ?_
      rintro e w5 ⟨rfl, d⟩
      go_wp2_with fail
      go_roundg (m - (k + 1))
      case measure => have := HG.out; omega
      case rel => exact ⟨k + 1, rfl, by omega, by rw [HS.out], by go_num, hf.drawn l1 d, hb.trans (d.below _)⟩
    · have t : ¬ ((k : Int) < (m : Int)) := by omega
      have HK : Hid (k = m) := by show _ = _; omega
      rw [show sqs m k x = x by rw [HK.out, HB.out]]
      go_wp2_with fail
      refine (add_any l1 l2 _ _ _ hf).mono ?_
      rintro e w5 ⟨rfl, rfl⟩
      rw [HRe.out, H1.out]
      go_wp2_with fail
      refine (mul_at l1 l2 _ _ hR hR _ hf).mono ?_
      rintro e w5 ⟨rfl, d⟩
      have hf5 := hf.drawn l1 d
      have b5 := hb.trans (d.below _)
      rw [HQ.out]
      go_wp2_with fail
      refine (mul_at l1 l2 _ _ hR1 hR1 _ hf5).mono ?_
      rintro e w6 ⟨rfl, d⟩
      have b6 := b5.trans (d.below _)
      have t6 : (h (fmul m (root m x ^^^ 1#16) (root m x ^^^ 1#16)) != h x) = true := h_ne HT.out
      clear hf hf5
      go_wp2_with fail
      go_ret
      exact ⟨rfl, b6⟩
end Go.Proofs.YtdcnknlpmajlfaaDoor.walkFieldRoots
