/- The walk over package binpoly's addShifted. By the verifier of shale. -/
import Derived.Test.YtcdhjmmkeiomaaaDoorBinTrim
import Derived.Test.YtcdhjmmkeiomaaaDoorBuf
namespace Go.Proofs.YtcdhjmmkeiomaaaDoor.Bin
open Go Go.RowKit
set_option linter.unusedVariables false
theorem pm_pow (a : Nat) : ∀ n, pm a (2 ^ n) = a <<< n
  | 0 => by rw [Nat.pow_zero, pm_one, Nat.shiftLeft_zero]
  | n + 1 => by rw [Nat.pow_succ, Nat.mul_comm, pm_dbl_right, pm_pow a n, Nat.shiftLeft_succ]
theorem shl_xor (a b n : Nat) : (a ^^^ b) <<< n = a <<< n ^^^ b <<< n := by
  rw [← pm_pow, ← pm_pow, ← pm_pow, pm_xor_left]
theorem val_set (X : List (BitVec 8)) (j : Nat) (c : BitVec 8) (hj : j < X.length) : val (X.set j (nth8 X j ^^^ c)) = val X ^^^ (c.toNat <<< (8 * j)) := by
  apply Nat.eq_of_testBit_eq
  intro i
  rw [Nat.testBit_xor, val_bit, val_bit, Nat.testBit_shiftLeft]
  by_cases e : i / 8 = j
  · subst e
    have h1 : nth8 (X.set (i / 8) (nth8 X (i / 8) ^^^ c)) (i / 8) = nth8 X (i / 8) ^^^ c := by
      rw [nth8, List.getD_eq_getElem?_getD, List.getElem?_set_self hj]; rfl
    rw [h1, BitVec.getLsbD_xor]
    have : 8 * (i / 8) ≤ i := by omega
    rw [decide_eq_true this, show i - 8 * (i / 8) = i % 8 by omega]
    rfl
  · have h1 : nth8 (X.set j (nth8 X j ^^^ c)) (i / 8) = nth8 X (i / 8) := by
      unfold nth8
      rw [List.getD_eq_getElem?_getD, List.getElem?_set_ne (by omega), ← List.getD_eq_getElem?_getD]
    rw [h1]
    by_cases h : 8 * j ≤ i
    · rw [decide_eq_true h, Nat.testBit_lt_two_pow (Nat.lt_of_lt_of_le c.isLt (Nat.pow_le_pow_right (by decide) (show 8 ≤ i - 8 * j by omega)))]
      simp
    · rw [decide_eq_false h]; simp
theorem split_byte (x : Nat) : x = (x % 256) ^^^ ((x / 256) <<< 8) := by
  apply Nat.eq_of_testBit_eq
  intro i
  rw [Nat.testBit_xor, Nat.testBit_shiftLeft, show (256 : Nat) = 2 ^ 8 by decide, Nat.testBit_mod_two_pow, Nat.testBit_div_two_pow]
  by_cases h : 8 ≤ i
  · rw [decide_eq_true h, decide_eq_false (by omega : ¬ i < 8), show i - 8 + 8 = i by omega]; simp
  · rw [decide_eq_false h, decide_eq_true (by omega : i < 8)]; simp
theorem val_take_succ (M : List (BitVec 8)) (k : Nat) (h : k < M.length) : val (M.take (k + 1)) = val (M.take k) ^^^ ((nth8 M k).toNat <<< (8 * k)) := by
  apply Nat.eq_of_testBit_eq
  intro i
  rw [Nat.testBit_xor, val_bit, val_bit, Nat.testBit_shiftLeft, nth8_take, nth8_take]
  by_cases e : i / 8 = k
  · subst e
    rw [if_pos (by omega), if_neg (by omega), decide_eq_true (by omega : 8 * (i / 8) ≤ i), show i - 8 * (i / 8) = i % 8 by omega]
    simp; rfl
  · by_cases h1 : i / 8 < k
    · rw [if_pos (by omega), if_pos h1, decide_eq_false (by omega : ¬ 8 * k ≤ i)]; simp
    · rw [if_neg (by omega), if_neg h1, decide_eq_true (by omega : 8 * k ≤ i), Nat.testBit_lt_two_pow (Nat.lt_of_lt_of_le (nth8 M k).isLt (Nat.pow_le_pow_right (by decide) (show 8 ≤ i - 8 * k by omega)))]; simp
theorem byte_le (M : List (BitVec 8)) (k : Nat) : (nth8 M k).toNat <<< (8 * k) ≤ val M := by
  rw [Nat.shiftLeft_eq]
  have : (nth8 M k).toNat = val M / 2 ^ (8 * k) % 2 ^ 8 := by
    apply Nat.eq_of_testBit_eq
    intro i
    rw [Nat.testBit_mod_two_pow, Nat.testBit_div_two_pow, val_bit]
    by_cases h : i < 8
    · rw [decide_eq_true h, show (i + 8 * k) / 8 = k by omega, show (i + 8 * k) % 8 = i by omega]; simp; rfl
    · rw [decide_eq_false h, Nat.testBit_lt_two_pow (Nat.lt_of_lt_of_le (nth8 M k).isLt (Nat.pow_le_pow_right (by decide) (show 8 ≤ i by omega)))]; simp
  rw [this]
  exact Nat.le_trans (Nat.mul_le_mul_right _ (Nat.mod_le _ _)) (Nat.div_mul_le_self _ _)
theorem shl_shl (a i j : Nat) : (a <<< i) <<< j = a <<< (i + j) := (Nat.shiftLeft_add a i j).symm
/-- what one byte adds: a low byte and a high one. -/
theorem byte_adds (b n k : Nat) : (b <<< (8 * k)) <<< n = ((b * 2 ^ (n % 8)) % 256) <<< (8 * (n / 8 + k)) ^^^ ((b * 2 ^ (n % 8)) / 256) <<< (8 * (n / 8 + k + 1)) := by
  rw [shl_shl, show 8 * (n / 8 + k + 1) = 8 + 8 * (n / 8 + k) by omega, ← shl_shl _ 8, ← shl_xor, ← split_byte, ← Nat.shiftLeft_eq, shl_shl]
  congr 1
  omega
theorem val_set0 (X : List (BitVec 8)) (j lo : Nat) (h : lo < 256) (hj : j < X.length) : val (X.set j (nth8 X j ^^^ BitVec.ofNat 8 lo)) = val X ^^^ (lo <<< (8 * j)) := by
  rw [val_set X j _ hj, BitVec.toNat_ofNat, Nat.mod_eq_of_lt (by simpa using h)]
theorem xor_byte (c : BitVec 8) (lo : Nat) (h : lo < 256) : bits .xor .u8 (Bits32.b c) (lo : Int) = Bits32.b (c ^^^ BitVec.ofNat 8 lo) := by
  have : (lo : Int) = Bits32.b (BitVec.ofNat 8 lo) := by unfold Bits32.b; rw [BitVec.toNat_ofNat, Nat.mod_eq_of_lt (by simpa using h)]
  rw [this, Bits32.bxor]
theorem and255 (x : Nat) (h : x < 65536) : bits .and .u16 (x : Int) 255 = ((x % 256 : Nat) : Int) := by
  show IntKind.u16.wrap ((BitVec.ofInt 16 (x : Int) &&& BitVec.ofInt 16 255).toNat : Int) = _
  rw [BitVec.toNat_and, show (BitVec.ofInt 16 255).toNat = 2 ^ 8 - 1 by decide, Nat.and_two_pow_sub_one_eq_mod, BitVec.toNat_ofInt]
  show ((((x : Int) % ((2 ^ 16 : Nat) : Int)).toNat % 2 ^ 8 : Nat) : Int) % 65536 = _
  omega
set_option maxRecDepth 100000 in
set_option maxHeartbeats 4000000 in
theorem addShifted_any (L M : List (BitVec 8)) (g np cp : Nat) (a : Option Addr) (nq cq n : Nat) (w : World) (hL : Buf8 w g L) (hnp : np = L.length) (hm : np ≤ 100000) (hq : Pol w a nq cq M) (hne : ∀ bb off, a = some ⟨bb, off, none⟩ → nq ≠ 0 → bb ≠ g)
    (hroom : val M <<< n < 2 ^ (8 * np)) (hn : n ≤ 100000) :
    Calls Tryd.prog 37 #[.slice (some ⟨g, 0, none⟩) np cp, .slice a nq cq, .int .i64 (n : Int)] w
      fun e w' => e = .returned (.tuple #[]) ∧ (∃ X, X.length = L.length ∧ val X = val L ^^^ (val M <<< n) ∧ Buf8 w' g X) ∧ Only g w w' := by
  have HQ := Lib.hid hq
  have HNE := Lib.hid hne
  have HR := Lib.hid hroom
  have HP := Lib.hid hnp
  have hmq : nq ≤ maxLen := Nat.le_trans hq.hcap hq.hmost
  unfold maxLen at hmq
  have by8 : n % 8 < 8 := Nat.mod_lt _ (by decide)
  clear hq hne hroom hnp
  go_enter Tryd.func37, Tryd.ntmps37
  go_wp2_with fail
  go_loopg [17] nq (fun gh s17 wx => ∃ (k : Nat) (X : List (BitVec 8)), gh = nq - k ∧ k ≤ nq ∧ s17 = .int .i64 (k : Int) ∧ X.length = L.length ∧ val X = val L ^^^ (val (M.take k) <<< n) ∧ Buf8 wx g X ∧ Only g w wx)
  case atStart => exact ⟨0, L, rfl, by omega, rfl, rfl, by simp [val], hL, Only.refl _ _⟩
  case round =>
    obtain ⟨k, X, hg, hk, rfl, hXl, hXv, hX, hO⟩ := hrel
    have HG := Lib.hid hg
    have HV := Lib.hid hXv
    have HXL := Lib.hid hXl
    clear hg hXv hXl hL
    by_cases hlt : k < nq
    · have y1 : (k : Int) < (nq : Int) := by omega
      have y0 : (0 : Int) ≤ (k : Int) := by omega
      obtain ⟨bb, off, rfl, hr, hb⟩ : ∃ bb off, a = some ⟨bb, off, none⟩ ∧ Row8 w bb off M ∧ bb < w.heap.size := by
        rcases HQ.out.hrow with h | h
        · omega
        · exact h
      have hbg : bb ≠ g := HNE.out bb off rfl (by omega)
      have hkM : k < M.length := by have := HQ.out.hlen; omega
      have c1 := (hO.cell (p := ⟨bb, off + k, none⟩) hbg).trans (hr k hkM)
      have blo := Bits32.b_lo (nth8 M k)
      have bhi := Bits32.b_hi (nth8 M k)
      -- the numbers
      obtain ⟨j, hj⟩ : ∃ j, j = n / 8 + k := ⟨_, rfl⟩
      obtain ⟨x, hx⟩ : ∃ x, x = (nth8 M k).toNat * 2 ^ (n % 8) := ⟨_, rfl⟩
      obtain ⟨lo, hlo⟩ : ∃ lo, lo = x % 256 := ⟨_, rfl⟩
      obtain ⟨hi, hhi⟩ : ∃ hi, hi = x / 256 := ⟨_, rfl⟩
      have hp2 : 2 ^ (n % 8) ≤ 128 := (Nat.pow_le_pow_right (by decide) (by omega) : 2 ^ (n % 8) ≤ 2 ^ 7)
      have hxlt : x < 32768 := by
        rw [hx]
        have h1 := (nth8 M k).isLt
        have : (nth8 M k).toNat * 2 ^ (n % 8) ≤ 255 * 128 := Nat.mul_le_mul (by omega) hp2
        omega
      have hadd := byte_adds (nth8 M k).toNat n k
      rw [← hx, ← hlo, ← hhi, ← hj] at hadd
      have HT : Hid (val (M.take (k + 1)) <<< n = val (M.take k) <<< n ^^^ (lo <<< (8 * j) ^^^ hi <<< (8 * (j + 1)))) := by
        show _ = _
        rw [val_take_succ M k hkM, shl_xor, hadd]
      have hbound : x <<< (8 * j) < 2 ^ (8 * np) := by
        have e : x <<< (8 * j) = ((nth8 M k).toNat <<< (8 * k)) <<< n := by
          rw [hadd, show 8 * (j + 1) = 8 + 8 * j by omega, ← shl_shl _ 8, ← shl_xor, hlo, hhi, ← split_byte]
        rw [e]
        refine Nat.lt_of_le_of_lt ?_ HR.out
        rw [Nat.shiftLeft_eq _ n, Nat.shiftLeft_eq (val M) n]
        exact Nat.mul_le_mul_right _ (byte_le M k)
      rw [Nat.shiftLeft_eq] at hbound
      have hb1 : lo ≠ 0 → j < np := by
        intro h
        have : 2 ^ (8 * j) < 2 ^ (8 * np) := Nat.lt_of_le_of_lt (Nat.le_mul_of_pos_left _ (by omega)) hbound
        have := (Nat.pow_lt_pow_iff_right (a := 2) (by decide)).1 this
        omega
      have hb2 : hi ≠ 0 → j + 1 < np := by
        intro h
        have h3 : 2 ^ (8 * (j + 1)) ≤ x * 2 ^ (8 * j) := by
          rw [show 8 * (j + 1) = 8 + 8 * j by omega, Nat.pow_add]
          exact Nat.mul_le_mul_right _ (by omega)
        have : 2 ^ (8 * (j + 1)) < 2 ^ (8 * np) := Nat.lt_of_le_of_lt h3 hbound
        have := (Nat.pow_lt_pow_iff_right (a := 2) (by decide)).1 this
        omega
      have e0 : IntKind.u16.wrap (Bits32.b (nth8 M k) * 2 ^ (n % 8)) = (x : Int) := by
        have : Bits32.b (nth8 M k) * 2 ^ (n % 8) = (x : Int) := by rw [hx]; unfold Bits32.b; rw [Int.natCast_mul, Int.natCast_pow]; rfl
        rw [this]
        show (x : Int) % 65536 = _
        omega
      have e1 : bits .and .u16 (x : Int) 255 = (lo : Int) := by rw [and255 x (by omega), hlo]
      have e2 : (x : Int) / 256 = (hi : Int) := by omega
      have e3 : (x : Int) % 256 = (lo : Int) := by omega
      have e4 : IntKind.u8.wrap (x : Int) = (lo : Int) := by show (x : Int) % 256 = _; omega
      have ej : (n : Int) / 8 + (k : Int) = (j : Int) := by omega
      have hlo' : lo < 256 := by omega
      have hhi' : hi < 256 := by omega
      have e5 : IntKind.u8.wrap (hi : Int) = (hi : Int) := by show (hi : Int) % 256 = _; omega
      have HB1 := Lib.hid hb1
      have HB2 := Lib.hid hb2
      have HJ : Hid (j ≤ 100000 + k) := by show _ ≤ _; omega
      have HE0 := Lib.hid e0; have HE1 := Lib.hid e1; have HE2 := Lib.hid e2; have HE3 := Lib.hid e3; have HE4 := Lib.hid e4; have HEJ := Lib.hid ej; have HE5 := Lib.hid e5
      clear hj hx hlo hhi hp2 hadd hbound hb1 hb2 hr hb hkM e5
      have zlo : (0 : Int) ≤ (lo : Int) := by omega
      clear e0
      go_upto_region 5 with (fail)
      rw [HE0.out]
      have hstep : ∃ (w4 : World) (X1 : List (BitVec 8)), Buf8 w4 g X1 ∧ X1.length = X.length ∧ val X1 = val X ^^^ (lo <<< (8 * j)) ∧ Only g w w4 ∧ (lo = 0 → w4 = wr) ∧ (lo ≠ 0 → w4 = wr.setCell ⟨g, j, none⟩ (.int .u8 (Bits32.b (nth8 X j ^^^ BitVec.ofNat 8 lo)))) := by
        by_cases h1 : lo = 0
        · exact ⟨wr, X, hX, rfl, by rw [h1]; simp, hO, fun _ => rfl, fun h => absurd h1 h⟩
        · have hjX : j < X.length := by have := HB1.out h1; have := HP.out; have := HXL.out; omega
          exact ⟨_, _, hX.set j hjX _, List.length_set .., val_set0 X j lo hlo' hjX, hO.trans (Only.setCell _ ⟨g, j, none⟩ _), fun h => absurd h h1, fun _ => rfl⟩
      obtain ⟨w4, X1, hX1, hl1, hv1, hO1, hw0, hw1⟩ := hstep
      have hstep2 : ∃ (w5 : World) (X2 : List (BitVec 8)), Buf8 w5 g X2 ∧ X2.length = X.length ∧ val X2 = val X ^^^ (lo <<< (8 * j)) ^^^ (hi <<< (8 * (j + 1))) ∧ Only g w w5 ∧ (hi = 0 → w5 = w4) ∧ (hi ≠ 0 → w5 = w4.setCell ⟨g, j + 1, none⟩ (.int .u8 (Bits32.b (nth8 X1 (j + 1) ^^^ BitVec.ofNat 8 hi)))) := by
        by_cases h1 : hi = 0
        · exact ⟨w4, X1, hX1, hl1, by rw [h1, hv1]; simp, hO1, fun _ => rfl, fun h => absurd h1 h⟩
        · have hjX : j + 1 < X1.length := by have := HB2.out h1; have := HP.out; have := HXL.out; omega
          exact ⟨_, _, hX1.set (j + 1) hjX _, by rw [List.length_set]; exact hl1, by rw [val_set0 X1 (j + 1) hi hhi' hjX, hv1], hO1.trans (Only.setCell _ ⟨g, j + 1, none⟩ _), fun h => absurd h h1, fun _ => rfl⟩
      obtain ⟨w5, X2, hX2, hl2, hv2, hO2, hz0, hz1⟩ := hstep2
      have HF : Hid (X2.length = L.length ∧ val X2 = val L ^^^ (val (M.take (k + 1)) <<< n) ∧ Buf8 w5 g X2 ∧ Only g w w5) := by
        refine ⟨hl2.trans HXL.out, ?_, hX2, hO2⟩
        rw [hv2, HV.out, HT.out, Nat.xor_assoc, Nat.xor_assoc]
      have HW0 := Lib.hid hw0; have HW1 := Lib.hid hw1; have HZ0 := Lib.hid hz0; have HZ1 := Lib.hid hz1
      have HX1 := Lib.hid hX1
      have HL1 := Lib.hid hl1
      clear hX1 hl1 hv1 hO1 hw0 hw1 hX2 hl2 hv2 hO2 hz0 hz1 HV HT
      by_cases h1 : lo = 0
      · have t1 : ((lo : Int) == 0) = true := by rw [h1]; rfl
        have ew := HW0.out h1
        clear HW0 HW1
        go_upto_region 7 with (fail)
        rw [← ew]
        by_cases h2 : hi = 0
        · have t2 : ((hi : Int) == 0) = true := by rw [h2]; rfl
          have ez := HZ0.out h2
          clear HZ0 HZ1 ew
          go_wp2_with fail
          rw [← ez]
          go_roundg (nq - (k + 1))
          case measure => have := HG.out; omega
          case rel => exact ⟨k + 1, X2, rfl, by omega, by go_num, HF.out.1, HF.out.2.1, HF.out.2.2.1, HF.out.2.2.2⟩
        · have t2 : ((hi : Int) == 0) = false := by rw [beq_eq_false_iff_ne]; omega
          have ez := HZ1.out h2
          have hjn := HB2.out h2
          have v1 := HX1.out.cell (j + 1) (by have := HL1.out; have := HP.out; have := HXL.out; omega)
          have v2 := HX1.out.free (j + 1)
          have ex2 := xor_byte (nth8 X1 (j + 1)) hi hhi'
          have x3 : (j : Int) + 1 < (np : Int) := by omega
          have e5 := HE5.out
          clear HZ0 HZ1 ew
          go_wp2_with fail
          rw [← ez]
          go_roundg (nq - (k + 1))
          case measure => have := HG.out; omega
          case rel => exact ⟨k + 1, X2, rfl, by omega, by go_num, HF.out.1, HF.out.2.1, HF.out.2.2.1, HF.out.2.2.2⟩
      · have t1 : ((lo : Int) == 0) = false := by rw [beq_eq_false_iff_ne]; omega
        have ew := HW1.out h1
        have hjn := HB1.out h1
        have d1 := hX.cell j (by have := HP.out; have := HXL.out; omega)
        have d2 := hX.free j
        have ex1 := xor_byte (nth8 X j) lo hlo'
        have x2 : (j : Int) < (np : Int) := by omega
        clear HW0 HW1
        go_upto_region 7 with (fail)
        rw [← ew]
        clear d1 d2
        by_cases h2 : hi = 0
        · have t2 : ((hi : Int) == 0) = true := by rw [h2]; rfl
          have ez := HZ0.out h2
          clear HZ0 HZ1 ew
          go_wp2_with fail
          rw [← ez]
          go_roundg (nq - (k + 1))
          case measure => have := HG.out; omega
          case rel => exact ⟨k + 1, X2, rfl, by omega, by go_num, HF.out.1, HF.out.2.1, HF.out.2.2.1, HF.out.2.2.2⟩
        · have t2 : ((hi : Int) == 0) = false := by rw [beq_eq_false_iff_ne]; omega
          have ez := HZ1.out h2
          have hjn := HB2.out h2
          have v1 := HX1.out.cell (j + 1) (by have := HL1.out; have := HP.out; have := HXL.out; omega)
          have v2 := HX1.out.free (j + 1)
          have ex2 := xor_byte (nth8 X1 (j + 1)) hi hhi'
          have x3 : (j : Int) + 1 < (np : Int) := by omega
          have e5 := HE5.out
          clear HZ0 HZ1 ew
          go_wp2_with fail
          rw [← ez]
          go_roundg (nq - (k + 1))
          case measure => have := HG.out; omega
          case rel => exact ⟨k + 1, X2, rfl, by omega, by go_num, HF.out.1, HF.out.2.1, HF.out.2.2.1, HF.out.2.2.2⟩
    · obtain rfl : k = nq := by omega
      have HV2 : Hid (val X = val L ^^^ (val M <<< n)) := by
        show _ = _
        rw [HV.out, List.take_of_length_le (by have := HQ.out.hlen; omega)]
      clear HV
      go_wp2_with fail
      go_end0
      exact ⟨rfl, ⟨X, HXL.out, HV2.out, hX⟩, hO⟩
end Go.Proofs.YtcdhjmmkeiomaaaDoor.Bin
