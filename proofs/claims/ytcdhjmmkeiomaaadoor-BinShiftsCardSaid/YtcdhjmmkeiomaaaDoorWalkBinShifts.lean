/- The walk over BinShifts. By the verifier of shale. -/
import Derived.Test.YtcdhjmmkeiomaaaDoorBinLaw
import Derived.Test.YtcdhjmmkeiomaaaDoorLaidBinShifts
namespace Go.Proofs.YtcdhjmmkeiomaaaDoor.walkBinShifts
open Go Go.RowKit Bin
set_option linter.unusedVariables false
set_option maxRecDepth 100000 in
set_option maxHeartbeats 1000000 in
theorem long (a : Option Addr) (n cap : Nat) (z : Int) (w : World) (p : Addr) (E : ErrAt w 2 p) (h : 40 < n) :
    Calls Tryd.prog 7 #[.slice a n cap, .int .i64 z] w fun e w' => e = .returned (.bool true) ∧ Below w.heap.size w w' := by
  have t : decide ((40 : Int) < (n : Int)) = true := decide_eq_true (by omega)
  go_enter Tryd.func7, Tryd.ntmps7
  go_wp2_with fail
  refine (first_any w p E).mono ?_
  rintro e w1 ⟨rfl, b1⟩
  clear E
  go_wp2_with fail
  go_ret
  exact ⟨rfl, b1⟩
/-- a shift down of what was shifted up, or of nothing. -/
abbrev GivesDown (v : Nat) (w : World) (e : Ending) (w' : World) : Prop := ∃ a n cap X, e = .returned (.tuple #[.slice a n cap, .nilIface]) ∧ Pol w' a n cap X ∧ val X = v ∧ Below w.heap.size w w'
theorem shift_back (a : Option Addr) (n cap : Nat) (X : List (BitVec 8)) (v q : Nat) (w : World) (h : Pol w a n cap X) (hn : n ≤ 200) (hv : val X = v <<< q) (hq : q + v.log2 ≤ 4096) :
    Calls Tryd.prog 30 #[.slice a n cap, .int .i64 (-(q : Int))] w (GivesDown v w) := by
  by_cases h0 : val X = 0
  · refine (shift_none a n cap X _ w h (by omega) (Or.inl h0)).mono ?_
    rintro e w1 ⟨rfl, rfl⟩
    refine ⟨none, 0, 0, [], rfl, pol_nil _, ?_, Below.refl _ _⟩
    have : (v <<< q) >>> q = v := shr_shl v q
    rw [← hv, h0] at this
    rw [← this, Nat.shiftRight_eq_div_pow, Nat.zero_div]; rfl
  · by_cases hq0 : q = 0
    · subst hq0
      rw [show -((0 : Nat) : Int) = ((0 : Nat) : Int) by rfl]
      refine (shift_up a n cap X 0 w h hn h0 (by rw [hv, Nat.shiftLeft_zero]; omega)).mono ?_
      rintro e w1 ⟨a', n', cap', Y, rfl, hY, _, vY, b⟩
      exact ⟨_, _, _, Y, rfl, hY.pol, by rw [vY, hv]; rfl, b⟩
    · have hv0 : v ≠ 0 := by
        intro h; rw [h, shl_zero] at hv; exact h0 hv
      refine (shift_down a n cap X q w h hn h0 (by omega) ?_).mono ?_
      · rw [hv, (shl_deg (deg_of hv0) q).log2]; omega
      · rintro e w1 ⟨a', n', cap', Y, rfl, hY, _, vY, b⟩
        exact ⟨_, _, _, Y, rfl, hY.pol, by rw [vY, hv, shr_shl], b⟩
theorem shift_any (a : Option Addr) (n cap : Nat) (l : List (BitVec 8)) (q : Nat) (w : World) (h : Pol w a n cap l) (hn : n ≤ 40) (hq : q ≤ 511) :
    Calls Tryd.prog 30 #[.slice a n cap, .int .i64 (q : Int)] w (GivesPE (val l <<< q) w) := by
  by_cases h0 : val l = 0
  · refine (shift_none a n cap l _ w h (by omega) (Or.inl h0)).mono ?_
    rintro e w1 ⟨rfl, rfl⟩
    exact ⟨none, 0, 0, [], rfl, ⟨rfl, Nat.le_refl _, by decide, Or.inl ⟨rfl, rfl, rfl⟩⟩, bare_nil, by rw [h0, shl_zero]; rfl, Below.refl _ _⟩
  · have := deg_len h0
    have := h.hlen
    exact shift_up a n cap l q w h (by omega) h0 (by omega)
section
set_option maxRecDepth 100000 in
set_option maxHeartbeats 2000000 in
theorem core (a : Option Addr) (n cap : Nat) (l : List (BitVec 8)) (z : Int) (w : World) (p : Addr) (E : ErrAt w 2 p) (h : Pol w a n cap l) (hn : n ≤ 40) :
    Calls Tryd.prog 7 #[.slice a n cap, .int .i64 z] w fun e w' => e = .returned (.bool true) ∧ Below w.heap.size w w' := by
  have t : decide ((40 : Int) < (n : Int)) = false := decide_eq_false (by omega)
  have HP := Lib.hid h
  have hl := h.hlen
  have HD : Hid ((val l).log2 ≤ 320) := by
    show _ ≤ _
    by_cases h0 : val l = 0
    · rw [h0]; decide
    · have := deg_len h0; omega
  clear h hl
  go_enter Tryd.func7, Tryd.ntmps7
  go_wp2_with fail
  refine (first_any w p E).mono ?_
  rintro e w1 ⟨rfl, b1⟩
  have HP1 := HP.out.below b1
  clear E
  obtain ⟨q, hq5, hz⟩ : ∃ q : Nat, q ≤ 511 ∧ bits .and .i64 z 511 = (q : Int) := ⟨(z % 512).toNat, by omega, and511 z⟩
  go_wp2_with fail
  clear hz
  refine (shift_any a n cap l q w1 HP1 hn hq5).mono ?_
  rintro e w2 ⟨a2, n2, c2, B, rfl, hB, bB, vB, b2⟩
  have HP2 := HP1.below b2
  have B2 := b1.trans (b2.mono b1.size)
  have HB := Lib.hid bB
  have VB := Lib.hid vB
  have hB2 : Pol w2 a2 n2 c2 B := hB.pol
  have hn2 : n2 ≤ 105 := by
    by_cases h0 : val l = 0
    · have := (val_nil_iff bB).1 (by rw [vB, h0, shl_zero])
      have := hB.hlen; omega
    · have h1 := bare_pow bB (d := (val l).log2 + q + 1) 105 (by rw [vB]; exact (shl_deg (deg_of h0) q).2) (by have := HD.out; omega)
      have := hB.hlen; omega
  clear b1 b2 HP1 hB bB vB
  go_wp2_with fail
  refine (shift_back a2 n2 c2 B (val l) q w2 hB2 (by omega) VB.out (by have := HD.out; omega)).mono ?_
  rintro e w3 ⟨a3, n3, c3, C, rfl, hC, vC, b3⟩
  have HP3 := HP2.below b3
  have hB3 := hB2.below b3
  have B3 := B2.trans (b3.mono B2.size)
  have VC := Lib.hid vC
  clear b3 HP2 B2 hB2 vC
  go_wp2_with fail
  obtain ⟨r1, b4⟩ := row_lit w3 [q] 1 rfl
  unfold litN at r1 b4
  refine (of_any _ 1 1 [q] _ r1 (by omega) (by intro e he; simp at he; omega)).mono ?_
  rintro e w4 ⟨a4, n4, c4, X, rfl, hX, bX, vX, b5⟩
  have b45 := b4.trans (b5.mono b4.size)
  have HP4 := HP3.below b45
  have hB4 := hB3.below b45
  have hC4 := hC.below b45
  have B4 := B3.trans (b45.mono B3.size)
  have hX4 : Pol w4 a4 n4 c4 X := hX.pol
  have VX : Hid (val X = 2 ^ q) := by
    show _ = _
    rw [vX]; simp [xp]
  have hn4 : n4 ≤ 100 := by
    have h1 := bare_pow bX (d := q + 1) 65 (by rw [VX.out]; exact Nat.pow_lt_pow_right (by decide) (by omega)) (by omega)
    have := hX.hlen; omega
  clear r1 b4 b5 b45 HP3 hB3 hC B3 hX bX vX
  go_wp2_with fail
  refine (mul_any a n cap l a4 n4 c4 X w4 HP4 hX4 (by omega) (by omega)).mono ?_
  rintro e w5 ⟨a5, n5, c5, D, rfl, hD, bD, vD, b6⟩
  have HP5 := HP4.below b6
  have hB5 := hB4.below b6
  have hC5 := hC4.below b6
  have B5 := B4.trans (b6.mono B4.size)
  have hD5 : Pol w5 a5 n5 c5 D := hD.pol
  have VD : Hid (val D = val l <<< q) := by
    show _ = _
    rw [vD, VX.out, pm_pow]
  clear b6 HP4 hB4 hC4 B4 hD bD vD hX4
  go_wp2_with fail
  refine (same_poly a3 n3 c3 C a n cap l w5 hC5 HP5).mono ?_
  rintro e w6 ⟨rfl, rfl⟩
  rw [decide_eq_true (show val C = val l from VC.out)]
  go_wp2_with fail
  refine (same_poly a2 n2 c2 B a5 n5 c5 D w5 hB5 hD5).mono ?_
  rintro e w6 ⟨rfl, rfl⟩
  rw [decide_eq_true (show val B = val D from VB.out.trans VD.out.symm)]
  go_wp2_with fail
  go_ret
  exact ⟨rfl, B5⟩
end
theorem walk (a0 : Option Addr) (len0 cap0 : Nat) (z0 : List Int) (a1 : Int) (W : World) (w0 : IsRow .u8 W a0 len0 cap0 z0) (w1 : (Lit.int .i64 a1).wf = true) (h : LaidBinShifts.Holds W) :
    Calls Tryd.prog 7 #[.slice a0 len0 cap0, .int .i64 a1] W fun e w' => e = .returned (.bool true) ∧ Below W.heap.size W w' := by
  obtain ⟨f, ⟨E0, E1⟩, _⟩ := h
  obtain ⟨l, hl⟩ := row_pol w0
  by_cases hn : len0 ≤ 40
  · exact core a0 len0 cap0 l a1 W _ E0 hl hn
  · exact long a0 len0 cap0 a1 W _ E0 (by omega)
end Go.Proofs.YtcdhjmmkeiomaaaDoor.walkBinShifts
