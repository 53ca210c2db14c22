/- The walks over package meta: numbers as bytes, fields. By the verifier of shale. -/
import Derived.Test.YtfcmhlmllcpkmaaDoorMetaMath
import Derived.Test.YtfcmhlmllcpkmaaDoorCrcOf
import Derived.Test.YtfcmhlmllcpkmaaDoorErrs
import Derived.WalkKit
import Derived.WalkSpells
import Derived.WalkLawsBesides
import Derived.Deep.LoopGhost
import Derived.Deep.RegionHeld3
import Derived.BigQuiet
import Derived.Outline
namespace Go.Proofs.YtfcmhlmllcpkmaaDoor.Meta
open Go Go.RowKit Crc
set_option linter.unusedVariables false
theorem le32_take (n : Int) (i : Nat) (h : i < 4) : (le32 n).take (i + 1) = (le32 n).take i ++ [byteOf n i] := by
  rcases (by omega : i = 0 ∨ i = 1 ∨ i = 2 ∨ i = 3) with rfl | rfl | rfl | rfl <;> rfl
set_option maxRecDepth 100000 in
set_option maxHeartbeats 1000000 in
theorem put_any (n : Int) (l : List (BitVec 8)) (g off len cap : Nat) (w : World) (hb : Blk8 w g l) (h4 : 4 ≤ len) (hl : off + 4 ≤ l.length) (hm : len ≤ maxLen) :
    Calls Tryd.prog 24 #[.slice (some ⟨g, off, none⟩) len cap, .int .i64 n] w fun e w' => e = .returned (.tuple #[]) ∧ Blk8 w' g (splice l off (le32 n)) ∧ Only g w w' := by
  unfold maxLen at hm
  go_enter Tryd.func24, Tryd.ntmps24
  go_wp2_with fail
  go_loopg [5] 4 (fun gh s5 wx => ∃ i : Nat, gh = 4 - i ∧ i ≤ 4 ∧ s5 = .int .i64 (i : Int) ∧ Blk8 wx g (splice l off ((le32 n).take i)) ∧ Only g w wx)
  case atStart => exact ⟨0, rfl, by omega, rfl, by rw [List.take_zero, splice_nil _ _ (by omega)]; exact hb, Only.refl _ _⟩
  case round =>
    obtain ⟨i, hg, hi, rfl, hB, hO⟩ := hrel
    have HG := Lib.hid hg
    clear hg hb
    by_cases hlt : i < 4
    · have y0 : (0 : Int) ≤ (i : Int) := by omega
      have y1 : (i : Int) < 4 := by omega
      have y2 : (i : Int) < (len : Int) := by omega
      have hsl : (splice l off ((le32 n).take i)).length = l.length := splice_length _ _ _ (by simp [le32_length]; omega)
      have c1 := hB.cell (i := off + i) (by omega)
      have c2 := hB.free (off + i)
      go_wp2_with fail
      have HB := Lib.hid (b_byteOf n i)
      have HT := Lib.hid (le32_take n i hlt)
      have HS := Lib.hid (splice_step l off i ((le32 n).take i) (byteOf n i) (by simp [le32_length]; omega) (by omega))
      go_wp2_with fail
      go_roundg (4 - (i + 1))
      case measure => have := HG.out; omega
      case rel => exact ⟨i + 1, rfl, by omega, by go_num, by rw [HT.out, ← HS.out, ← HB.out]; exact hB.set _ _, hO.trans (Only.setCell _ ⟨g, off + i, none⟩ _)⟩
    · obtain rfl : i = 4 := by omega
      go_wp2_with fail
      go_end0
      exact ⟨rfl, hB, hO⟩
/-- the number of the first i bytes. -/
def unN (l : List (BitVec 8)) : Nat → Nat
  | 0 => 0
  | i + 1 => unN l i + 2 ^ (8 * i) * (nth8 l i).toNat
theorem unN_lt (l : List (BitVec 8)) : ∀ i, unN l i < 2 ^ (8 * i)
  | 0 => by show 0 < 1; omega
  | i + 1 => by
    have h := unN_lt l i
    have hb := (nth8 l i).isLt
    have e : 2 ^ (8 * (i + 1)) = 2 ^ (8 * i) * 256 := by rw [Nat.mul_succ, Nat.pow_add]
    have : 2 ^ (8 * i) * (nth8 l i).toNat ≤ 2 ^ (8 * i) * 255 := Nat.mul_le_mul_left _ (by omega)
    simp only [unN]
    rw [e]
    generalize 2 ^ (8 * i) = p at h this ⊢
    generalize p * (nth8 l i).toNat = q at this ⊢
    omega
theorem unN_four (l : List (BitVec 8)) : (unN l 4 : Int) = un32 l := by
  unfold un32
  simp only [unN, nth8, Bits32.b]
  omega
theorem or_step (l : List (BitVec 8)) (i : Nat) (hi : i < 4) : bits .or .i64 ((unN l i : Nat) : Int) (wrap64 (Bits32.b (nth8 l i) * 2 ^ (8 * i))) = ((unN l (i + 1) : Nat) : Int) := by
  have h1 := unN_lt l i
  have h2 := unN_lt l (i + 1)
  have h3 : 2 ^ (8 * (i + 1)) ≤ 2 ^ 32 := Nat.pow_le_pow_right (by decide) (by omega)
  have h4 : 2 ^ (8 * i) ≤ 2 ^ 32 := Nat.pow_le_pow_right (by decide) (by omega)
  have e : unN l (i + 1) = unN l i + 2 ^ (8 * i) * (nth8 l i).toNat := rfl
  have e2 : wrap64 (Bits32.b (nth8 l i) * 2 ^ (8 * i)) = ((2 ^ (8 * i) * (nth8 l i).toNat : Nat) : Int) := by
    unfold Bits32.b
    rw [show (((nth8 l i).toNat : Int) * 2 ^ (8 * i)) = ((2 ^ (8 * i) * (nth8 l i).toNat : Nat) : Int) by rw [Int.natCast_mul, Int.natCast_pow, Int.mul_comm]; rfl]
    exact IntWalk.wrap64_in _ (by omega)
  have or64 : ∀ a c : Nat, a < 9223372036854775808 → c < 9223372036854775808 → bits .or .i64 (a : Int) (c : Int) = ((a ||| c : Nat) : Int) := by
    intro a c ha hc
    have e : ∀ n : Nat, n < 9223372036854775808 → (BitVec.ofInt 64 (n : Int)).toNat = n := by
      intro n hn
      rw [BitVec.toNat_ofInt]
      omega
    show IntKind.i64.wrap ((BitVec.ofInt 64 (a : Int) ||| BitVec.ofInt 64 (c : Int)).toNat : Int) = _
    rw [BitVec.toNat_or, e a ha, e c hc]
    have : a ||| c < 2 ^ 63 := Nat.or_lt_two_pow ha hc
    exact IntWalk.i64_in _ (by omega)
  rw [e2, or64 _ _ (by omega) (by omega), e, Nat.or_comm, ← Nat.two_pow_add_eq_or_of_lt h1, Nat.add_comm]
set_option maxRecDepth 100000 in
set_option maxHeartbeats 1000000 in
theorem get_any (l : List (BitVec 8)) (g off len cap : Nat) (w : World) (hr : Row8 w g off l) (h4 : 4 ≤ len) (hl : 4 ≤ l.length) (hm : len ≤ maxLen) :
    Calls Tryd.prog 26 #[.slice (some ⟨g, off, none⟩) len cap] w fun e w' => e = .returned (.int .i64 (un32 l)) ∧ w = w' := by
  unfold maxLen at hm
  have HU := Lib.hid (unN_four l)
  go_enter Tryd.func26, Tryd.ntmps26
  go_wp2_with fail
  go_loopg [3, 5] 4 (fun gh s3 s5 wx => ∃ i : Nat, gh = 4 - i ∧ i ≤ 4 ∧ s3 = .int .i64 (unN l i : Int) ∧ s5 = .int .i64 (i : Int) ∧ w = wx)
  case atStart => exact ⟨0, rfl, by omega, rfl, rfl, rfl⟩
  case round =>
    obtain ⟨i, hg, hi, rfl, rfl, rfl⟩ := hrel
    have HG := Lib.hid hg
    clear hg
    by_cases hlt : i < 4
    · have y0 : (0 : Int) ≤ (i : Int) := by omega
      have y1 : (i : Int) < 4 := by omega
      have y2 : (i : Int) < (len : Int) := by omega
      have c1 := hr i (by omega)
      have lo := Bits32.b_lo (nth8 l i)
      have hi2 := Bits32.b_hi (nth8 l i)
      have HO := Lib.hid (or_step l i hlt)
      go_wp2_with fail
      go_roundg (4 - (i + 1))
      case measure => have := HG.out; omega
      case rel => exact ⟨i + 1, rfl, by omega, by rw [HO.out], by go_num, rfl⟩
    · obtain rfl : i = 4 := by omega
      go_wp2_with fail
      go_ret
      exact ⟨by rw [← HU.out]; rfl, rfl⟩
end Go.Proofs.YtfcmhlmllcpkmaaDoor.Meta
