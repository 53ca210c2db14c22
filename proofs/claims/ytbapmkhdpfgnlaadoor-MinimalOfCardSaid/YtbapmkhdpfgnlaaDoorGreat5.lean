/- Texts of the verifier of shale, laid into one: MinFin8, MinFin9, MinGood. -/
import Derived.Test.YtbapmkhdpfgnlaaDoorGreat1
import Derived.Test.YtbapmkhdpfgnlaaDoorGreat2
import Derived.Test.YtbapmkhdpfgnlaaDoorGreat3
import Derived.Test.YtbapmkhdpfgnlaaDoorGreat4
/- What is reckoned of the field of 8 bits. By the verifier of shale. -/
namespace Go.Proofs.YtbapmkhdpfgnlaaDoor.Cos
open Go Bin
theorem d8_0 : ([0, 1, 3, 5, 7, 9, 11, 13, 15] : List Nat).all (goodN 8) = true := by decide +kernel
theorem d8_1 : ([17, 19, 21, 23, 25, 27, 29, 31, 37] : List Nat).all (goodN 8) = true := by decide +kernel
theorem d8_2 : ([39, 43, 45, 47, 51, 53, 55, 59, 61] : List Nat).all (goodN 8) = true := by decide +kernel
theorem d8_3 : ([63, 85, 87, 91, 95, 111, 119, 127] : List Nat).all (goodN 8) = true := by decide +kernel
theorem l8 : (leadF 8 (sz 8)).1 = [0, 1, 3, 5, 7, 9, 11, 13, 15] ++ ([17, 19, 21, 23, 25, 27, 29, 31, 37] ++ ([39, 43, 45, 47, 51, 53, 55, 59, 61] ++ ([63, 85, 87, 91, 95, 111, 119, 127]))) := by decide +kernel
theorem d8 : (leadF 8 (sz 8)).1.all (goodN 8) = true := by
  rw [l8]
  simp only [List.all_append, Bool.and_eq_true]
  exact ⟨d8_0, d8_1, d8_2, d8_3⟩
end Go.Proofs.YtbapmkhdpfgnlaaDoor.Cos
/- What is reckoned of the field of 9 bits. By the verifier of shale. -/
namespace Go.Proofs.YtbapmkhdpfgnlaaDoor.Cos
open Go Bin
theorem d9_0 : ([0, 1, 3, 5, 7, 9] : List Nat).all (goodN 9) = true := by decide +kernel
theorem d9_1 : ([11, 13, 15, 17, 19, 21] : List Nat).all (goodN 9) = true := by decide +kernel
theorem d9_2 : ([23, 25, 27, 29, 31, 35] : List Nat).all (goodN 9) = true := by decide +kernel
theorem d9_3 : ([37, 39, 41, 43, 45, 47] : List Nat).all (goodN 9) = true := by decide +kernel
theorem d9_4 : ([51, 53, 55, 57, 59, 61] : List Nat).all (goodN 9) = true := by decide +kernel
theorem d9_5 : ([63, 73, 75, 77, 79, 83] : List Nat).all (goodN 9) = true := by decide +kernel
theorem d9_6 : ([85, 87, 91, 93, 95, 103] : List Nat).all (goodN 9) = true := by decide +kernel
theorem d9_7 : ([107, 109, 111, 117, 119, 123] : List Nat).all (goodN 9) = true := by decide +kernel
theorem d9_8 : ([125, 127, 171, 175, 183, 187] : List Nat).all (goodN 9) = true := by decide +kernel
theorem d9_9 : ([191, 219, 223, 239, 255] : List Nat).all (goodN 9) = true := by decide +kernel
theorem l9 : (leadF 9 (sz 9)).1 = [0, 1, 3, 5, 7, 9] ++ ([11, 13, 15, 17, 19, 21] ++ ([23, 25, 27, 29, 31, 35] ++ ([37, 39, 41, 43, 45, 47] ++ ([51, 53, 55, 57, 59, 61] ++ ([63, 73, 75, 77, 79, 83] ++ ([85, 87, 91, 93, 95, 103] ++ ([107, 109, 111, 117, 119, 123] ++ ([125, 127, 171, 175, 183, 187] ++ ([191, 219, 223, 239, 255]))))))))) := by decide +kernel
theorem d9 : (leadF 9 (sz 9)).1.all (goodN 9) = true := by
  rw [l9]
  simp only [List.all_append, Bool.and_eq_true]
  exact ⟨d9_0, d9_1, d9_2, d9_3, d9_4, d9_5, d9_6, d9_7, d9_8, d9_9⟩
end Go.Proofs.YtbapmkhdpfgnlaaDoor.Cos
/- Minimal polynomials of the fields of 3 to 9 bits: irreducible, of their cosets' lengths, divisors of x to the n and 1. By the verifier of shale. -/
namespace Go.Proofs.YtbapmkhdpfgnlaaDoor.Cos
open Go Bin
set_option linter.unusedVariables false
theorem cov_append (m : Nat) (l t : List Nat) (x : Nat) : cov m (l ++ t) x = (cov m l x || cov m t x) := by simp [cov]
theorem cov_all {m : Nat} (hm : 3 ≤ m) : ∀ k, k ≤ sz m → ∀ y, y < k → cov m (leads m 0 1 k) y = true
  | 0, _, y, hy => by omega
  | k + 1, hk, y, hy => by
    have hmod : (0 + 1 * k) % sz m = k := by rw [Nat.zero_add, Nat.one_mul, Nat.mod_eq_of_lt (by omega)]
    rw [leads, hmod]
    by_cases hc : cov m (leads m 0 1 k) k = true
    · rw [if_pos hc]
      by_cases e : y = k
      · rw [e]; exact hc
      · exact cov_all hm k (by omega) y (by omega)
    · rw [if_neg hc, cov_snoc]
      by_cases e : y = k
      · subst e
        have := cos_first hm (by omega : y < sz m)
        simp [this]
      · rw [cov_all hm k (by omega) y (by omega)]; rfl
section
variable {m : Nat} [M : Pl.Mid m]
theorem good_leads (h : m ≤ 9) : (leadF m (sz m)).1.all (goodN m) = true := by
  have := M.lo
  rcases (by omega : m = 3 ∨ m = 4 ∨ m = 5 ∨ m = 6 ∨ m = 7 ∨ m = 8 ∨ m = 9) with rfl | rfl | rfl | rfl | rfl | rfl | rfl
  · exact d3
  · exact d4
  · exact d5
  · exact d6
  · exact d7
  · exact d8
  · exact d9
theorem good_all (h : m ≤ 9) {f : Nat} (hf : f < sz m) : irrC (mpv m f) = true ∧ pmod (xp [sz m, 0]) (mpv m f) = 0 := by
  have hc := cov_all M.lo (sz m) (Nat.le_refl _) f hf
  unfold cov at hc
  rw [List.any_eq_true] at hc
  obtain ⟨l, hl, hfl⟩ := hc
  have hfl' : f ∈ cos m l := by simpa using hfl
  have hls := leads_lt M.lo 0 1 (sz m) l hl
  rw [leads_fast M.lo] at hl
  have hg := List.all_eq_true.1 (good_leads h) l hl
  unfold goodN at hg
  rw [Bool.and_eq_true, beq_iff_eq, ← mpN_is (m := m), ← mpv_same hls hfl'] at hg
  exact hg
theorem mpv_deg {f : Nat} (hf : f < sz m) : mpv m f ≠ 0 ∧ degZ (mpv m f) = ((cos m f).length : Int) := by
  have hb : (mpv m f).testBit (cos m f).length = true := by rw [mpv_bit, mpb_top hf]; simp
  have hge := Nat.ge_two_pow_of_testBit hb
  have hp := Nat.two_pow_pos (cos m f).length
  have h0 : mpv m f ≠ 0 := by omega
  refine ⟨h0, ?_⟩
  rw [degZ_ne h0]
  have h1 := (Nat.log2_lt h0).2 (mpv_lt (m := m) f)
  have h2 := (Nat.le_log2 h0).2 hge
  omega
end
end Go.Proofs.YtbapmkhdpfgnlaaDoor.Cos
