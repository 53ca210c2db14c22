/- Two powers of x that are less than 16000 apart are not the same. By the verifier of shale. -/
import Derived.Test.YtakfbjalclnpmaaDoorCrcMath
import Derived.KernelRfl
namespace Go.Proofs.YtakfbjalclnpmaaDoor.Crc
def upN (a : Nat) : Nat := (a >>> 1) ^^^ (3988292384 * (a &&& 1))
theorem up_toNat (a : BitVec 32) : (up a).toNat = upN a.toNat := by
  unfold up upN
  have h : a.toNat &&& 1 = a.toNat % 2 := Nat.and_one_is_mod _
  rw [h]
  by_cases h0 : a.getLsbD 0
  · have : a.toNat % 2 = 1 := by simpa [BitVec.getLsbD, Nat.testBit_zero] using h0
    rw [if_pos h0, this, BitVec.toNat_xor, BitVec.toNat_ushiftRight]
    rfl
  · have : a.toNat % 2 = 0 := by
      have : ¬ a.toNat % 2 = 1 := by simpa [BitVec.getLsbD, Nat.testBit_zero] using h0
      omega
    rw [if_neg h0, this, BitVec.toNat_ushiftRight]
    simp
noncomputable def never (n : Nat) : Nat → Bool := Nat.rec (fun _ => true) (fun _ ih a => (upN a != 2147483648) && ih (upN a)) n
theorem never16 : never 16000 2147483648 = true := by kernel_rfl

theorem never_spec : ∀ (n : Nat) (a : BitVec 32), never n a.toNat = true → ∀ d, 0 < d → d ≤ n → ups d a ≠ one
  | 0, _, _, d, h1, h2 => by omega
  | n + 1, a, h, d, h1, h2 => by
    have h' : ((upN a.toNat != 2147483648) && never n (upN a.toNat)) = true := h
    rw [Bool.and_eq_true] at h'
    obtain ⟨ha, hb⟩ := h'
    rw [← up_toNat] at ha hb
    intro hd
    obtain ⟨d, rfl⟩ : ∃ k, d = k + 1 := ⟨d - 1, by omega⟩
    simp only [ups] at hd
    by_cases h0 : d = 0
    · subst h0
      simp only [ups] at hd
      rw [hd] at ha
      exact absurd ha (by decide)
    · exact never_spec n (up a) hb d (by omega) (by omega) hd
theorem pow_ne (i j : Nat) (h : i ≠ j) (h1 : i ≤ j + 16000) (h2 : j ≤ i + 16000) : pow i ≠ pow j := by
  have key : ∀ k d, 0 < d → d ≤ 16000 → pow (d + k) ≠ pow k := by
    intro k d h0 hd e
    unfold pow at e
    rw [← ups_ups] at e
    exact never_spec 16000 one never16 d h0 hd (ups_inj k _ _ e)
  intro e
  rcases Nat.lt_or_gt_of_ne h with hl | hl
  · exact key i (j - i) (by omega) (by omega) (by rw [show j - i + i = j by omega]; exact e.symm)
  · exact key j (i - j) (by omega) (by omega) (by rw [show i - j + j = i by omega]; exact e)
theorem turn_turn (l : List (BitVec 8)) (k : Nat) : turn (turn l k) k = l := by
  unfold turn
  by_cases h : k / 8 < l.length
  · simp [List.set_set, h, BitVec.xor_assoc]
  · rw [List.set_eq_of_length_le (by simp; omega), List.set_eq_of_length_le (by omega)]

theorem low_set (m : BitVec 32) (k : Nat) (hk : k < 32) (h : m.getLsbD k = true) : low m (k + 1) = low m k ^^^ pow (31 - k) ∧ (low m (k + 1) != 0) = true := by
  have e : BitVec.twoPow 32 k = pow (31 - k) := by
    have : ∀ i : Fin 32, BitVec.twoPow 32 i = pow (31 - i) := by decide +kernel
    exact this ⟨k, hk⟩
  refine ⟨by simp only [low]; rw [if_pos h, e], ?_⟩
  rw [bne_iff_ne]
  intro h0
  have := low_bit m (k + 1) k (by omega)
  rw [h0, h] at this
  simp at this
theorem low_unset (m : BitVec 32) (k : Nat) (h : ¬ m.getLsbD k = true) : low m (k + 1) = low m k := by
  simp only [low]; rw [if_neg h]; simp
end Go.Proofs.YtakfbjalclnpmaaDoor.Crc
