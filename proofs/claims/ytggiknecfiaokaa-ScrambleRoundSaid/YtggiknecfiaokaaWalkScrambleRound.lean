/- The walk over ScrambleRound. By the verifier of shale. -/
import Derived.Test.YtggiknecfiaokaaScrFirst
import Derived.Test.YtggiknecfiaokaaScrOrder
namespace Go.Proofs.Ytggiknecfiaokaa.walkScrambleRound
open Go Go.RowKit Bits16 Scr
set_option linter.unusedVariables false
set_option maxRecDepth 100000 in
set_option maxHeartbeats 2000000 in
theorem walk (z x y : Int) (w : World) (_w0 : (Lit.int .i64 z).wf = true) (_w1 : (Lit.int .i64 x).wf = true) (_w2 : (Lit.int .i64 y).wf = true) :
    Calls Try.prog 5 #[.int .i64 z, .int .i64 x, .int .i64 y] w fun e w' => e = .returned (.bool true) ∧ Below w.heap.size w w' := by
  obtain ⟨a, ha, hae⟩ : ∃ q : Nat, q ≤ 8191 ∧ bits .and .i64 x 8191 = (q : Int) := Bits32.andMask x 8191 (by decide)
  obtain ⟨b, hb, hbe⟩ : ∃ q : Nat, q ≤ 8191 ∧ bits .and .i64 y 8191 = (q : Int) := Bits32.andMask y 8191 (by decide)
  obtain ⟨S, hS⟩ : ∃ S, S = Scr.start (BitVec.ofInt 16 z) := ⟨_, rfl⟩
  have hS0 : S ≠ 0 := by rw [hS]; exact start_ne _
  have hX0 : lfs (8 * a % 65535) S ≠ 0 := lfs_ne _ _ hS0
  obtain ⟨X, hX⟩ : ∃ X, X = lfs (8 * a % 65535) S := ⟨_, rfl⟩
  rw [← hX] at hX0
  have hXs : Scr.start (BitVec.ofInt 16 (h X)) = X := by rw [ofInt16]; exact start_of X hX0
  have p1 : 0 < h X := by
    have := h_lo X
    rcases Int.lt_or_eq_of_le this with e | e
    · exact e
    · exact absurd (h_inj X 0 e.symm) hX0
  have p2 := h_hi X
  have e1 : lfs (8 * b % 65535) X = lfs (8 * (a + b) % 65535) S := by
    rw [hX, lfs_mod, lfs_mod, lfs_mod, lfs_add, Nat.mul_add]
  have e2 : lfs (8 * 65535 % 65535) S = S := rfl
  have e3 : lfs (8 * 0 % 65535) S = S := rfl
  have hne : ¬ a = 0 → (h X != h S) = true := by
    intro h0
    rw [bne_iff_ne]
    intro e
    have e := h_inj _ _ e
    rw [hX] at e
    exact not_back S hS0 (8 * a % 65535) (by omega) (Nat.mod_lt _ (by decide)) e
  have HE1 := Lib.hid e1
  have HE2 := Lib.hid e2
  have HE3 := Lib.hid e3
  have HX := Lib.hid hX
  have HS := Lib.hid hS
  have HXs := Lib.hid hXs
  have HN := Lib.hid hne
  clear e1 e2 e3 hX hS hXs hne hS0 hX0
  go_enter Try.func5, Try.ntmps5
  go_wp2_with fail
  refine (first_any w).mono ?_
  rintro e w1 ⟨rfl, b1⟩
  go_wp2_with fail
  refine (skip_any z a _ (by omega)).mono ?_
  rintro e w2 ⟨rfl, b2⟩
  rw [← HS.out, ← HX.out]
  have b2 := b1.trans (b2.mono b1.size)
  go_wp2_with fail
  refine (skip_any (h X) b _ (by omega)).mono ?_
  rintro e w3 ⟨rfl, b3⟩
  rw [HXs.out, HE1.out]
  have b3 := b2.trans (b3.mono b2.size)
  have hcase : ((a : Int) % 65535 == 0) = true ∨ (((a : Int) % 65535 == 0) = false ∧ (8 * (a : Int) % 65535 == 0) = false ∧ (h X != h S) = true) := by
    by_cases h0 : a = 0
    · refine Or.inl ?_
      subst h0; rfl
    · refine Or.inr ⟨?_, ?_, HN.out h0⟩
      · rw [beq_eq_false_iff_ne]; omega
      · rw [beq_eq_false_iff_ne]; omega
  have u1 : (a : Int).tmod 65535 = (a : Int) % 65535 := Int.tmod_eq_emod_of_nonneg (by omega)
  have u2 : (8 * (a : Int)).tmod 65535 = 8 * (a : Int) % 65535 := Int.tmod_eq_emod_of_nonneg (by omega)
  have hcase2 : (((a : Int) % 65535 == 0) = true ∧ ((a : Int).tmod 65535 == 0) = true) ∨ ((((a : Int) % 65535 == 0) = false ∧ ((a : Int).tmod 65535 == 0) = false) ∧ ((8 * (a : Int) % 65535 == 0) = false ∧ ((8 * (a : Int)).tmod 65535 == 0) = false) ∧ (h X != h S) = true) := by
    rw [u1, u2]
    rcases hcase with t1 | ⟨t1, t2, t3⟩
    · exact Or.inl ⟨t1, t1⟩
    · exact Or.inr ⟨⟨t1, t1⟩, ⟨t2, t2⟩, t3⟩
  clear hcase u1 u2
  rcases hcase2 with ⟨t1, t4⟩ | ⟨⟨t1, t4⟩, ⟨t2, t5⟩, t3⟩
  all_goals
    go_wp2_with fail
    refine (skip_at z _ (a + b) (by omega) _ (by omega)).mono ?_
    rintro e w4 ⟨rfl, b4⟩
    rw [← HS.out]
    have b4 := b3.trans (b4.mono b3.size)
    go_wp2_with fail
    refine (skip_at z _ 65535 rfl _ (by omega)).mono ?_
    rintro e w5 ⟨rfl, b5⟩
    rw [← HS.out, HE2.out]
    have b5 := b4.trans (b5.mono b4.size)
    go_wp2_with fail
    refine (skip_at z _ 0 rfl _ (by omega)).mono ?_
    rintro e w6 ⟨rfl, b6⟩
    rw [← HS.out, HE3.out]
    have b6 := b5.trans (b6.mono b5.size)
    first
      | (go_wp2_with fail
         go_ret
         exact ⟨rfl, b6⟩)
      | (go_wp2_with fail
         refine (skip_at z _ 0 rfl _ (by omega)).mono ?_
         rintro e w7 ⟨rfl, b7⟩
         rw [← HS.out, HE3.out]
         have b7 := b6.trans (b7.mono b6.size)
         go_wp2
         go_ret
         exact ⟨rfl, b7⟩)
end Go.Proofs.Ytggiknecfiaokaa.walkScrambleRound
