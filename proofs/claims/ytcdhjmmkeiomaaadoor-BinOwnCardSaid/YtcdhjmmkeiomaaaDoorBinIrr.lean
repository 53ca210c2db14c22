/- The walks over package binpoly's word and Irreducible. By the verifier of shale. -/
import Derived.Test.YtcdhjmmkeiomaaaDoorBinWord
import Derived.Test.YtcdhjmmkeiomaaaDoorBinFermat
import Derived.Test.YtcdhjmmkeiomaaaDoorBinGcd
namespace Go.Proofs.YtcdhjmmkeiomaaaDoor.Bin
open Go Go.RowKit
set_option linter.unusedVariables false
theorem or_xor {a b k : Nat} (ha : a < 2 ^ k) : a ||| (b <<< k) = a ^^^ (b <<< k) := by
  apply Nat.eq_of_testBit_eq
  intro i
  rw [Nat.testBit_or, Nat.testBit_xor, Nat.testBit_shiftLeft]
  by_cases h : k ≤ i
  · rw [Nat.testBit_lt_two_pow (Nat.lt_of_lt_of_le ha (Nat.pow_le_pow_right (by decide) h))]; simp
  · rw [decide_eq_false h]; simp
theorem u64_or_nat (a b : Nat) (ha : a < 18446744073709551616) (hb : b < 18446744073709551616) : bits .or .u64 (a : Int) (b : Int) = ((a ||| b : Nat) : Int) := by
  show IntKind.u64.wrap ((BitVec.ofInt 64 (a : Int) ||| BitVec.ofInt 64 (b : Int)).toNat : Int) = _
  have e1 : BitVec.ofInt 64 (a : Int) = BitVec.ofNat 64 a := by rw [BitVec.ofInt_natCast]
  have e2 : BitVec.ofInt 64 (b : Int) = BitVec.ofNat 64 b := by rw [BitVec.ofInt_natCast]
  rw [e1, e2, BitVec.toNat_or, BitVec.toNat_ofNat, BitVec.toNat_ofNat, Nat.mod_eq_of_lt ha, Nat.mod_eq_of_lt hb]
  have h : a ||| b < 2 ^ 64 := Nat.or_lt_two_pow ha hb
  generalize a ||| b = x at h
  show (x : Int) % 18446744073709551616 = _
  omega
theorem val_take_lt (l : List (BitVec 8)) (k : Nat) : val (l.take k) < 2 ^ (8 * k) :=
  Nat.lt_of_lt_of_le (val_lt _) (Nat.pow_le_pow_right (by decide) (by rw [List.length_take]; omega))
set_option maxRecDepth 100000 in
set_option maxHeartbeats 1000000 in
theorem word_any (a : Option Addr) (n cap : Nat) (l : List (BitVec 8)) (w : World) (h : Pol w a n cap l) (hv : val l < 8589934592) :
    Calls Tryd.prog 43 #[.slice a n cap] w fun e w' => e = .returned (.int .u64 (val l : Int)) ∧ w = w' := by
  have hT : tl l n ≤ 5 := by
    have h1 := bare_len (bare_trim l) (k := 5) (by rw [val_trim]; unfold room; omega)
    rw [trimL_length, ← h.hlen] at h1
    exact h1
  have HV : Hid (val (l.take (tl l n)) = val l) := by
    show _ = _
    have := val_trim l
    unfold trimL at this
    rwa [← h.hlen] at this
  have hTn : tl l n ≤ n := tl_le l n
  have HP := Lib.hid h
  obtain ⟨T, hTe⟩ : ∃ T, T = tl l n := ⟨_, rfl⟩
  rw [← hTe] at HV hT hTn
  have HT := Lib.hid hTe
  have hlen := h.hlen
  have HL := Lib.hid hlen
  clear h hTe hlen hv
  go_enter Tryd.func43, Tryd.ntmps43
  go_wp2_with fail
  refine (trim_any a n cap l w HP.out).mono ?_
  rintro e w1 ⟨rfl, rfl⟩
  rw [← HT.out]
  go_wp2_with fail
  go_loopg [3, 9] T (fun gh s3 s9 wx => ∃ (k : Nat), gh = T - k ∧ k ≤ T ∧ s9 = .int .i64 (k : Int) ∧ s3 = .int .u64 (val (l.take k) : Int) ∧ w = wx)
  case atStart => exact ⟨0, rfl, by omega, rfl, by simp [val], rfl⟩
  case round =>
    obtain ⟨k, hg, hk, rfl, rfl, rfl⟩ := hrel
    have HG := Lib.hid hg
    clear hg
    by_cases hlt : k < T
    · obtain ⟨bb, off, rfl, hr, hb⟩ : ∃ bb off, a = some ⟨bb, off, none⟩ ∧ Row8 w bb off l ∧ bb < w.heap.size := by
        rcases HP.out.hrow with h | h
        · omega
        · exact h
      have c1 := hr k (by have := HL.out; omega)
      have x1 : (k : Int) < (T : Int) := by omega
      have x0 : (0 : Int) ≤ (k : Int) := by omega
      obtain ⟨s, hs⟩ : ∃ s, s = 8 * k := ⟨_, rfl⟩
      have es : (8 : Int) * (k : Int) = (s : Int) := by omega
      have HF : Hid (val (l.take (k + 1)) = val (l.take k) ^^^ ((nth8 l k).toNat <<< s)) := by rw [hs]; exact val_take_succ l k (by have := HL.out; omega)
      have hlo : val (l.take k) < 2 ^ s := by rw [hs]; exact val_take_lt l k
      have ho := or_xor (b := (nth8 l k).toNat) hlo
      have hs32 : s ≤ 32 := by omega
      have hlo2 : val (l.take k) < 18446744073709551616 := Nat.lt_of_lt_of_le hlo (Nat.le_trans (Nat.pow_le_pow_right (n := 2) (by decide) hs32) (by decide))
      have hc := (nth8 l k).isLt
      have hy2 : (nth8 l k).toNat <<< s < 18446744073709551616 := by
        rw [Nat.shiftLeft_eq]
        have h1 : (nth8 l k).toNat * 2 ^ s ≤ 256 * 2 ^ 32 := Nat.mul_le_mul (by omega) (Nat.pow_le_pow_right (by decide) hs32)
        omega
      have e2 := u64_or_nat _ _ hlo2 hy2
      rw [ho, ← HF.out] at e2
      have e1 : IntKind.u64.wrap (Bits32.b (nth8 l k) * 2 ^ s) = (((nth8 l k).toNat <<< s : Nat) : Int) := by
        have : Bits32.b (nth8 l k) * 2 ^ s = (((nth8 l k).toNat <<< s : Nat) : Int) := by rw [Nat.shiftLeft_eq, Int.natCast_mul, Int.natCast_pow]; rfl
        rw [this]
        generalize (nth8 l k).toNat <<< s = y at hy2
        show (y : Int) % 18446744073709551616 = _
        omega
      have e0 : IntKind.u64.wrap (Bits32.b (nth8 l k)) = Bits32.b (nth8 l k) := by
        have := Bits32.b_lo (nth8 l k); have := Bits32.b_hi (nth8 l k)
        show Bits32.b (nth8 l k) % 18446744073709551616 = _
        omega
      clear hr hb hs hlo ho hlo2 hc hy2 HF
      generalize (nth8 l k).toNat <<< s = y at e1 e2
      generalize hV2 : val (l.take (k + 1)) = V2 at e2
      have HV2 := Lib.hid hV2
      clear hV2
      go_wp2_with fail
      go_roundg (T - (k + 1))
      case measure => have := HG.out; omega
      case rel => exact ⟨k + 1, rfl, by omega, by go_num, by rw [HV2.out], rfl⟩
    · obtain rfl : k = T := by omega
      go_wp2_with fail
      go_ret
      exact ⟨ret_u64 HV.out, rfl⟩
theorem degZ_small {v : Nat} (h : v < 2) : decide (degZ v < 1) = true := by
  rcases (by omega : v = 0 ∨ v = 1) with rfl | rfl <;> decide
theorem irrC_small' {v : Nat} (h : v < 2) : irrC v = false := by unfold irrC; rw [if_pos (Or.inl h)]
theorem irrC_wide {v : Nat} (h : 32 < v.log2) : irrC v = false := by unfold irrC; rw [if_pos (Or.inr h)]
set_option maxRecDepth 100000 in
set_option maxHeartbeats 1000000 in
theorem irreducible_any (a : Option Addr) (n cap : Nat) (l : List (BitVec 8)) (w : World) (h : Pol w a n cap l) (hn : n ≤ 100000) :
    Calls Tryd.prog 26 #[.slice a n cap] w fun e w' => e = .returned (.bool (irrC (val l))) ∧ w = w' := by
  have HP := Lib.hid h
  clear h
  by_cases hs : val l < 2
  · have t := degZ_small hs
    have HF := Lib.hid (irrC_small' hs)
    clear hs
    go_enter Tryd.func26, Tryd.ntmps26
    go_wp2_with fail
    refine (degree_any a n cap l w HP.out (by omega)).mono ?_
    rintro e w1 ⟨rfl, rfl⟩
    generalize degZ (val l) = D at t ⊢
    go_wp2_with fail
    go_ret
    exact ⟨ret_bool HF.out.symm, rfl⟩
  · have h0 : val l ≠ 0 := by omega
    have hd : degZ (val l) = ((val l).log2 : Int) := by unfold degZ; rw [if_neg h0]
    have h1 : 1 ≤ (val l).log2 := (Nat.le_log2 h0).2 (by omega)
    have HD := Lib.hid (deg_of h0)
    generalize hv : val l = v at hd h0 hs HD h1 ⊢
    have HV := Lib.hid hv
    clear hv
    by_cases hw : 32 < v.log2
    · have HF := Lib.hid (irrC_wide hw)
      generalize v.log2 = d at hw hd h1 HD
      have t1 : decide ((d : Int) < 1) = false := decide_eq_false (by omega)
      have t2 : decide ((32 : Int) < (d : Int)) = true := decide_eq_true (by omega)
      clear h0 hs HD hw h1
      go_enter Tryd.func26, Tryd.ntmps26
      go_wp2_with fail
      refine (degree_any a n cap l w HP.out (by omega)).mono ?_
      rintro e w1 ⟨rfl, rfl⟩
      rw [HV.out, hd]
      clear hd
      go_wp2_with fail
      go_ret
      exact ⟨ret_bool HF.out.symm, rfl⟩
    · have HF : Hid (irrC v = irrF 17 1 2 v) := by
        show _ = _
        unfold irrC; rw [if_neg (by omega)]
      obtain ⟨d, hde⟩ : ∃ d, d = v.log2 := ⟨_, rfl⟩
      rw [← hde] at hw hd h1 HD
      have HE := Lib.hid hde
      have t1 : decide ((d : Int) < 1) = false := decide_eq_false (by omega)
      have t2 : decide ((32 : Int) < (d : Int)) = false := decide_eq_false (by omega)
      have h32 : d ≤ 32 := by omega
      have hv33 : v < 8589934592 := lt33 HD.out.2 (by omega)
      have HV33 := Lib.hid hv33
      clear h0 hs hw hde
      go_enter Tryd.func26, Tryd.ntmps26
      go_wp2_with fail
      refine (degree_any a n cap l w HP.out (by omega)).mono ?_
      rintro e w1 ⟨rfl, rfl⟩
      rw [HV.out, hd]
      clear hd
      go_wp2_with fail
      refine (word_any a n cap l w HP.out (by rw [HV.out]; exact HV33.out)).mono ?_
      rintro e w1 ⟨rfl, rfl⟩
      rw [HV.out]
      clear t1 t2
      go_wp2_with fail
      go_loopg [5, 6] (17 : Nat) (fun gh s5 s6 wx => ∃ (f i y : Nat), gh = f ∧ f + i = 18 ∧ 1 ≤ i ∧ s5 = .int .i64 (i : Int) ∧ s6 = .int .u64 (y : Int) ∧ Hid (irrC v = irrF f i y v) ∧ Hid (y = 2 ∨ y < 2 ^ d) ∧ w = wx)
      case atStart => exact ⟨17, 1, 2, rfl, rfl, by omega, rfl, rfl, HF.out, Or.inl rfl, rfl⟩
      case round =>
        clear HF
        obtain ⟨f, i, y, hg, hfi, hi1, rfl, rfl, HI, HY, rfl⟩ := hrel
        have HG := Lib.hid hg
        clear hg
        by_cases hle : 2 * i ≤ d
        · have t : decide (2 * (i : Int) ≤ (d : Int)) = true := decide_eq_true (by omega)
          obtain ⟨f', hf'⟩ : ∃ f', f = f' + 1 := ⟨f - 1, by omega⟩
          have hy : y < 2 ^ d := by
            rcases HY.out with h | h
            · rw [h]
              exact Nat.lt_of_lt_of_le (by decide : 2 < 2 ^ 2) (Nat.pow_le_pow_right (by decide) (by omega))
            · exact h
          have hz := (pmod_eq (pm y y) HD.out).2
          have hz33 : pmod (pm y y) v < 8589934592 := lt33 hz (by omega)
          have HI2 : Hid (irrC v = if pgcd v (pmod (pm y y) v ^^^ 2) = 1 then irrF f' (i + 1) (pmod (pm y y) v) v else false) := by
            show _ = _
            have := HI.out
            rw [hf', irrF, ← HE.out, if_pos hle, pmul_pm] at this
            exact this
          have HF' := Lib.hid hf'
          have HYY := Lib.hid hy
          clear HI HY hle hy hf'
          go_wp2_with fail
          refine (product_any y y v d w HD.out h1 h32 HYY.out HYY.out).mono ?_
          rintro e w1 ⟨rfl, rfl⟩
          generalize hze : pmod (pm y y) v = z at hz hz33 HI2 ⊢
          clear hze
          have HZ := Lib.hid hz
          have ex := u64_xor_nat z 2 (Nat.lt_trans hz33 (by decide)) (by decide)
          have hx33 : z ^^^ 2 < 8589934592 := Nat.xor_lt_two_pow (n := 33) hz33 (by decide)
          have HX := Lib.hid hx33
          clear hz hz33 hx33
          go_wp2_with fail
          rw [show bits .xor .u64 (z : Int) 2 = ((z ^^^ 2 : Nat) : Int) from ex]
          refine (common_any v (z ^^^ 2) w HV33.out HX.out).mono ?_
          rintro e w1 ⟨rfl, rfl⟩
          by_cases hp : pgcd v (z ^^^ 2) = 1
          · have HN : Hid (irrC v = irrF f' (i + 1) z v) := by
              have := HI2.out
              rw [if_pos hp] at this
              exact this
            rw [hp]
            clear hp HI2
            go_wp2_with fail
            go_roundg f'
            case measure => have := HG.out; have := HF'.out; omega
            case rel => exact ⟨f', i + 1, z, rfl, by have := HF'.out; omega, by omega, by go_num, rfl, HN.out, Or.inr HZ.out, rfl⟩
          · have HN : Hid (irrC v = false) := by
              have := HI2.out
              rw [if_neg hp] at this
              exact this
            generalize pgcd v (z ^^^ 2) = g at hp ⊢
            have t2 : ((g : Int) == 1) = false := by rw [beq_eq_false_iff_ne]; omega
            have t3 : ((g : Int) != 1) = true := by rw [bne_iff_ne]; omega
            clear hp HI2
            go_wp2_with fail
            go_ret
            exact ⟨ret_bool HN.out.symm, rfl⟩
        · have t : decide (2 * (i : Int) ≤ (d : Int)) = false := decide_eq_false (by omega)
          have HN : Hid (irrC v = true) := by
            show _ = _
            have := HI.out
            obtain ⟨f', hf'⟩ : ∃ f', f = f' + 1 ∨ f = 0 := by
              cases f with
              | zero => exact ⟨0, Or.inr rfl⟩
              | succ k => exact ⟨k, Or.inl rfl⟩
            rcases hf' with h | h
            · rw [h, irrF, ← HE.out, if_neg hle] at this
              exact this
            · rw [h, irrF] at this
              exact this
          clear HI hle
          go_wp2_with fail
          go_ret
          exact ⟨ret_bool HN.out.symm, rfl⟩
end Go.Proofs.YtcdhjmmkeiomaaaDoor.Bin
