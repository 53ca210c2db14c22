/- The walks over package binpoly's words: Len64, rest, common, product. By the verifier of shale. -/
import Derived.Test.YtcdhjmmkeiomaaaDoorBinIrrMath
import Derived.Laws.MathBits
import Derived.Laws.BitsAllLaws
namespace Go.Proofs.YtcdhjmmkeiomaaaDoor.Bin
open Go Go.RowKit
set_option linter.unusedVariables false
theorem bitLen_log2 (n : Nat) (h0 : n ≠ 0) (h : n < 8589934592) : Lib.bitLen n = n.log2 + 1 := by
  have hd := deg_of h0
  rw [Lib.bitLen_shift n.log2 n hd.1 (Nat.lt_trans h (by decide))]
  have h3 : n / 2 ^ n.log2 = 1 := by
    have h1 := hd.1; have h2 := hd.2
    rw [Nat.pow_succ] at h2
    apply Nat.div_eq_of_lt_le <;> omega
  rw [h3]; rfl
theorem bitLen_zero : Lib.bitLen 0 = 0 := rfl
set_option maxRecDepth 100000 in
set_option maxHeartbeats 1000000 in
theorem len64_any (n : Nat) (w : World) (h : n < 8589934592) :
    Calls Tryd.prog 53 #[.int .u64 (n : Int)] w fun e w' => e = .returned (.int .i64 (Lib.bitLen n : Int)) ∧ w = w' := by
  have h0 : (0 : Int) ≤ (n : Int) := by omega
  have h1 : (n : Int) < 8589934592 := by omega
  obtain ⟨x, hx⟩ : ∃ x : Int, x = (n : Int) := ⟨_, rfl⟩
  rw [← hx] at h0 h1 ⊢
  have hn : n = x.toNat := by omega
  subst hn
  clear hx h
  go_enter Tryd.func53, Tryd.ntmps53
  go_wp2
  all_goals first
    | (exfalso; rename_i h; rw [Lib.len8tab_size] at h; omega)
    | go_ret
  all_goals refine ⟨congrArg Ending.returned (congrArg (Value.int IntKind.i64) ?_), rfl⟩
  all_goals rw [len8_val]
  · have l := Lib.bitLen_le8' (x / 4294967296) (by omega) (by omega)
    have s := Lib.bitLen_shift32 x.toNat (by omega) (by omega)
    rw [show x.toNat / 4294967296 = (x / 4294967296).toNat by omega] at s
    rw [IntWalk.wrap64_in _ (by omega)]
    omega
  · have l := Lib.bitLen_le8' (x / 65536 / 256) (by omega) (by omega)
    have s := Lib.bitLen_shift24 x.toNat (by omega) (by omega)
    rw [show x.toNat / 16777216 = (x / 65536 / 256).toNat by omega] at s
    rw [IntWalk.wrap64_in _ (by omega)]
    omega
  · have l := Lib.bitLen_le8' (x / 65536) (by omega) (by omega)
    have s := Lib.bitLen_shift16 x.toNat (by omega) (by omega)
    rw [show x.toNat / 65536 = (x / 65536).toNat by omega] at s
    rw [IntWalk.wrap64_in _ (by omega)]
    omega
  · have l := Lib.bitLen_le8' (x / 256) (by omega) (by omega)
    have s := Lib.bitLen_shift8 x.toNat (by omega) (by omega)
    rw [show x.toNat / 256 = (x / 256).toNat by omega] at s
    rw [IntWalk.wrap64_in _ (by omega)]
    omega
  · have l := Lib.bitLen_le8' x (by omega) (by omega)
    rw [IntWalk.wrap64_in _ (by omega)]
theorem rest_lt' {a b q r : Nat} (h : IsDiv a b q r) (hb : b ≠ 0) : r < b := by
  rcases h.2 with rfl | ⟨i, j, hi, hj, hij⟩
  · omega
  · have h1 := lt_of_deg hi hij
    have h2 := hj.1
    omega
theorem ret_u64 {x y : Nat} (h : x = y) : Ending.returned (Value.int .u64 (x : Int)) = .returned (.int .u64 (y : Int)) := by rw [h]
theorem xor_trick (r x z : Nat) : r ^^^ x = z ^^^ (r ^^^ (x ^^^ z)) := by rw [Nat.xor_comm z, Nat.xor_assoc, Nat.xor_assoc, Nat.xor_self, Nat.xor_zero]
theorem lt33 {A d : Nat} (h : A < 2 ^ d) (hd : d ≤ 33) : A < 8589934592 := Nat.lt_of_lt_of_le h (Nat.pow_le_pow_right (n := 2) (by decide) hd)
theorem deg33 {b d : Nat} (h : Deg b d) (hb : b < 8589934592) : d ≤ 32 := by
  apply Classical.byContradiction
  intro h0
  have h1 := h.1
  have h2 := Nat.pow_le_pow_right (n := 2) (by decide) (show 33 ≤ d by omega)
  omega
set_option maxRecDepth 100000 in
set_option maxHeartbeats 1000000 in
theorem rest_any (a b : Nat) (w : World) (ha : a < 8589934592) (hb : b < 8589934592) (h0 : b ≠ 0) :
    Calls Tryd.prog 51 #[.int .u64 (a : Int), .int .u64 (b : Int)] w fun e w' => e = .returned (.int .u64 (pmod a b : Int)) ∧ w = w' := by
  have HDB := Lib.hid (deg_of h0)
  have hD := bitLen_log2 b h0 hb
  obtain ⟨dB, hdB⟩ : ∃ dB, dB = b.log2 := ⟨_, rfl⟩
  rw [← hdB] at HDB hD
  obtain ⟨D, hDD⟩ : ∃ D, D = Lib.bitLen b := ⟨_, rfl⟩
  rw [← hDD] at hD
  have hd32 := deg33 HDB.out hb
  have HH0 := Lib.hid h0
  have HD := Lib.hid hD
  have hD34 : D ≤ 33 := by omega
  clear hdB h0 hD
  go_enter Tryd.func51, Tryd.ntmps51
  go_wp2_with fail
  refine (len64_any b w hb).mono ?_
  rintro e w1 ⟨rfl, rfl⟩
  rw [← hDD]
  clear hDD
  go_wp2_with fail
  refine (len64_any a w ha).mono ?_
  rintro e w1 ⟨rfl, rfl⟩
  go_wp2_with fail
  go_loopg [0, 6] a (fun gh s0 s6 wx => ∃ (A L : Nat), gh = A ∧ s0 = .int .u64 (A : Int) ∧ s6 = .int .i64 (L : Int) ∧ Hid (L = Lib.bitLen A) ∧ A < 8589934592 ∧ Hid (∃ q, a = pm q b ^^^ A) ∧ w = wx)
  case atStart => exact ⟨a, _, rfl, rfl, rfl, rfl, ha, ⟨0, by rw [zero_pm, Nat.zero_xor]⟩, rfl⟩
  case round =>
    obtain ⟨A, L, hg, rfl, rfl, HL, hA, HQ, rfl⟩ := hrel
    have HG := Lib.hid hg
    clear hg ha
    by_cases hlt : A < 2 ^ dB
    · have hLD : L < D := by
        rw [HL.out, HD.out]
        by_cases hz : A = 0
        · rw [hz, bitLen_zero]; omega
        · have := (Nat.log2_lt hz).2 hlt
          rw [bitLen_log2 A hz hA]; omega
      have HF : Hid (A = pmod a b) := by
        obtain ⟨q, hq⟩ := HQ.out
        exact pmod_of HDB.out hq hlt
      clear hlt HL HQ
      go_wp2_with fail
      go_ret
      exact ⟨ret_u64 HF.out, rfl⟩
    · have hz : A ≠ 0 := by intro h; rw [h] at hlt; exact hlt (Nat.two_pow_pos _)
      have da := deg_of hz
      have hge : dB ≤ A.log2 := (Nat.le_log2 hz).2 (Nat.le_of_not_lt hlt)
      have hLA := bitLen_log2 A hz hA
      have h32 := deg33 da hA
      obtain ⟨s, hs⟩ : ∃ s, s = A.log2 - dB := ⟨_, rfl⟩
      have es : (L : Int) - (D : Int) = (s : Int) := by rw [HL.out, hLA, HD.out, hs]; omega
      have hD := HD.out
      have hDL : D ≤ L := by omega
      have hds := shl_deg HDB.out s
      rw [show dB + s = A.log2 by omega] at hds
      have hc := clear_top da.2 (deg_bit da) hds
      have hsh : b <<< s < 8589934592 := lt33 hds.2 (by omega)
      have hA' : A ^^^ (b <<< s) < 8589934592 := lt33 hc (by omega)
      have HM : Hid (A ^^^ (b <<< s) < A) := Nat.lt_of_lt_of_le hc da.1
      have HF : Hid (∃ q, a = pm q b ^^^ (A ^^^ (b <<< s))) := by
        obtain ⟨q, hq⟩ := HQ.out
        refine ⟨q ^^^ 2 ^ s, ?_⟩
        rw [pm_xor_left, pow_pm, xx, Nat.xor_assoc, Nat.xor_self, Nat.xor_zero]
        exact hq
      have e1 : IntKind.u64.wrap ((b : Int) * 2 ^ s) = ((b <<< s : Nat) : Int) := by
        have : (b : Int) * 2 ^ s = ((b <<< s : Nat) : Int) := by rw [Nat.shiftLeft_eq, Int.natCast_mul, Int.natCast_pow]; rfl
        rw [this]
        generalize b <<< s = y at hsh
        show (y : Int) % 18446744073709551616 = _
        omega
      have e2 := u64_xor_nat A (b <<< s) (Nat.lt_trans hA (by decide)) (Nat.lt_trans hsh (by decide))
      have hs32 : s ≤ 32 := by omega
      clear hlt hz da hge hLA h32 hs hds hc HL HQ hD
      generalize b <<< s = bs at e1 e2 hsh hA' HM HF
      go_wp2_with fail
      refine (len64_any (A ^^^ bs) w hA').mono ?_
      rintro e w1 ⟨rfl, rfl⟩
      go_wp2_with fail
      go_roundg (A ^^^ bs)
      case measure => have := HG.out; have := HM.out; omega
      case rel => exact ⟨A ^^^ bs, _, rfl, rfl, rfl, rfl, hA', HF.out, rfl⟩
set_option maxRecDepth 100000 in
set_option maxHeartbeats 1000000 in
theorem common_any (a b : Nat) (w : World) (ha : a < 8589934592) (hb : b < 8589934592) :
    Calls Tryd.prog 45 #[.int .u64 (a : Int), .int .u64 (b : Int)] w fun e w' => e = .returned (.int .u64 (pgcd a b : Int)) ∧ w = w' := by
  go_enter Tryd.func45, Tryd.ntmps45
  go_wp2_with fail
  go_loopg [0, 1] b (fun gh s0 s1 wx => ∃ (A B : Nat), gh = B ∧ s0 = .int .u64 (A : Int) ∧ s1 = .int .u64 (B : Int) ∧ A < 8589934592 ∧ B < 8589934592 ∧ Hid (∀ g, IsGcd A B g → IsGcd a b g) ∧ w = wx)
  case atStart => exact ⟨a, b, rfl, rfl, rfl, ha, hb, fun g h => h, rfl⟩
  case round =>
    obtain ⟨A, B, hg, rfl, rfl, hA, hB, HI, rfl⟩ := hrel
    have HG := Lib.hid hg
    clear hg ha hb
    by_cases hz : B = 0
    · subst hz
      have HF : Hid (A = pgcd a b) := pgcd_of (HI.out A (IsGcd.right_zero A))
      go_wp2_with fail
      go_ret
      exact ⟨ret_u64 HF.out, rfl⟩
    · have hd := deg_of hz
      obtain ⟨q, hq⟩ := pmod_div A hz
      have hlt := rest_lt' hq hz
      have HF : Hid (∀ g, IsGcd B (pmod A B) g → IsGcd a b g) := fun g h => HI.out g (IsGcd.step hq h)
      clear hd hq HI
      go_wp2_with fail
      refine (rest_any A B w hA hB hz).mono ?_
      rintro e w1 ⟨rfl, rfl⟩
      generalize pmod A B = R at hlt HF ⊢
      go_wp2_with fail
      go_roundg R
      case measure => have := HG.out; omega
      case rel => exact ⟨B, R, rfl, rfl, rfl, hB, by omega, HF.out, rfl⟩
theorem u64_and_one (x : Nat) (h : x < 18446744073709551616) : bits .and .u64 (x : Int) 1 = ((x % 2 : Nat) : Int) := by
  rw [show (1 : Int) = ((1 : Nat) : Int) by rfl, u64_and_nat x 1 h (by decide), Nat.and_one_is_mod]
set_option maxRecDepth 100000 in
set_option maxHeartbeats 2000000 in
theorem product_any (a b p d : Nat) (w : World) (hp : Deg p d) (h1 : 1 ≤ d) (h2 : d ≤ 32) (ha : a < 2 ^ d) (hb : b < 2 ^ d) :
    Calls Tryd.prog 44 #[.int .u64 (a : Int), .int .u64 (b : Int), .int .u64 (p : Int), .int .i64 (d : Int)] w fun e w' => e = .returned (.int .u64 (pmod (pm a b) p : Int)) ∧ w = w' := by
  have HP := Lib.hid hp
  have hp33 : p < 8589934592 := lt33 hp.2 (by omega)
  have HA := Lib.hid ha
  have HB := Lib.hid hb
  clear hp ha hb
  go_enter Tryd.func44, Tryd.ntmps44
  go_wp2_with fail
  go_loopg [0, 1, 9] b (fun gh s0 s1 s9 wx => ∃ (A B R : Nat), gh = B ∧ s0 = .int .u64 (A : Int) ∧ s1 = .int .u64 (B : Int) ∧ s9 = .int .u64 (R : Int) ∧ Hid (A < 2 ^ d ∧ B < 2 ^ d ∧ R < 2 ^ d) ∧ Hid (∃ q, pm a b = pm q p ^^^ (R ^^^ pm A B)) ∧ w = wx)
  case atStart => exact ⟨a, b, 0, rfl, rfl, rfl, rfl, ⟨HA.out, HB.out, Nat.two_pow_pos _⟩, ⟨0, by rw [zero_pm, Nat.zero_xor, Nat.zero_xor]⟩, rfl⟩
  case round =>
    obtain ⟨A, B, R, hg, rfl, rfl, rfl, HL, HQ, rfl⟩ := hrel
    have HG := Lib.hid hg
    clear hg HA HB
    by_cases hz : B = 0
    · subst hz
      have HF : Hid (R = pmod (pm a b) p) := by
        obtain ⟨q, hq⟩ := HQ.out
        rw [pm_zero, Nat.xor_zero] at hq
        exact pmod_of HP.out hq HL.out.2.2
      clear HQ HL
      go_wp2_with fail
      go_ret
      exact ⟨ret_u64 HF.out, rfl⟩
    · have hA := lt33 HL.out.1 (by omega)
      have hB := lt33 HL.out.2.1 (by omega)
      have hR := lt33 HL.out.2.2 (by omega)
      obtain ⟨X, hX⟩ : ∃ X, X = 2 * A := ⟨_, rfl⟩
      have hXd : X < 2 ^ (d + 1) := by rw [hX, Nat.pow_succ]; have := HL.out.1; omega
      obtain ⟨R', hR'⟩ : ∃ R', R' = if B % 2 = 1 then R ^^^ A else R := ⟨_, rfl⟩
      obtain ⟨A', hA'⟩ : ∃ A', A' = if X.testBit d then X ^^^ p else X := ⟨_, rfl⟩
      have HF : Hid (A' < 2 ^ d ∧ B / 2 < 2 ^ d ∧ R' < 2 ^ d) := by
        refine ⟨?_, by have := HL.out.2.1; omega, ?_⟩
        · rw [hA']
          split
          · rename_i h; exact clear_top hXd h HP.out
          · rename_i h; exact lt_of_bit hXd (by simpa using h)
        · rw [hR']
          split
          · exact Nat.xor_lt_two_pow HL.out.2.2 HL.out.1
          · exact HL.out.2.2
      have HV : Hid (∃ q, pm a b = pm q p ^^^ (R' ^^^ pm A' (B / 2))) := by
        obtain ⟨q, hq⟩ := HQ.out
        rw [pm_step A B, ← pm_dbl_left, ← hX, ← Nat.xor_assoc R, show (R ^^^ if B % 2 = 1 then A else 0) = R' by rw [hR']; split <;> simp] at hq
        rw [hA']
        split
        · refine ⟨q ^^^ B / 2, ?_⟩
          rw [pm_xor_left, pm_xor_left X p, pm_comm (B / 2) p, hq]
          rw [Nat.xor_assoc]
          congr 1
          exact xor_trick _ _ _
        · exact ⟨q, hq⟩
      have e0 : (A : Int) * 2 = (X : Int) := by omega
      have t0 : ((B : Int) == 0) = false := by rw [beq_eq_false_iff_ne]; omega
      have t1 : ((B : Int) != 0) = true := by rw [bne_iff_ne]; omega
      have e1 := u64_and_one B (Nat.lt_trans hB (by decide))
      have e2 := u64_xor_nat R A (Nat.lt_trans hR (by decide)) (Nat.lt_trans hA (by decide))
      have hX34 : X < 18446744073709551616 := by omega
      have e3 := u64_and_one (X / 2 ^ d) (Nat.lt_of_le_of_lt (Nat.div_le_self _ _) hX34)
      have e4 := u64_xor_nat X p hX34 (Nat.lt_trans hp33 (by decide))
      have e5 : Hid ((B : Int) / 2 = ((B / 2 : Nat) : Int)) := by show _ = _; omega
      have e6 : (X : Int) / 2 ^ d = ((X / 2 ^ d : Nat) : Int) := by rw [Int.natCast_ediv, Int.natCast_pow]; rfl
      have hbit : X.testBit d = decide (X / 2 ^ d % 2 = 1) := Nat.testBit_eq_decide_div_mod_eq
      rw [hbit] at hA'
      generalize X / 2 ^ d = y at e3 e6 hbit hA'
      have HZ := Lib.hid hz
      clear HQ HL hbit hXd hX hX34 hz
      rcases Nat.mod_two_eq_zero_or_one B with hb | hb <;> rcases Nat.mod_two_eq_zero_or_one y with hy | hy
      all_goals
        rw [hb] at e1 hR'
        rw [hy] at e3 hA'
        simp at hR' hA'
        subst hR'
        subst hA'
        clear hb hy
        go_wp2_with fail
        go_roundg (B / 2)
        case measure => have := HG.out; have := HZ.out; omega
        case rel => exact ⟨_, B / 2, _, rfl, rfl, by rw [← e5.out], rfl, HF.out, HV.out, rfl⟩
end Go.Proofs.YtcdhjmmkeiomaaaDoor.Bin
