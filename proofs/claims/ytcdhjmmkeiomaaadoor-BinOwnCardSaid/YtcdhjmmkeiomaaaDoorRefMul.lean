/- shaleref2.BinMul. By the verifier of shale. -/
import Derived.Test.YtcdhjmmkeiomaaaDoorRefShift
import Derived.StillTailTactics
namespace Go.Proofs.YtcdhjmmkeiomaaaDoor.Bin
open Go Go.RowKit
set_option linter.unusedVariables false
theorem degZ_cast {v : Nat} (h : v ≠ 0) : ∃ d : Nat, degZ v = (d : Int) ∧ Deg v d := ⟨v.log2, degZ_ne h, deg_of h⟩
/-- a bit of the second one added, i places up. -/
theorem mul_step (V v N i k : Nat) : (bitL (V ^^^ (v % 2 ^ k) <<< i) N).set (i + k) (bz ((V ^^^ (v % 2 ^ k) <<< i).testBit (i + k) ^^ v.testBit k)) = bitL (V ^^^ (v % 2 ^ (k + 1)) <<< i) N := by
  rw [bitL_set, mod_succ v k, shl_xor, Nat.xor_assoc]
  congr 3
  cases v.testBit k
  · simp
  · simp [Nat.shiftLeft_eq, ← Nat.pow_add, Nat.add_comm]
set_option maxRecDepth 100000 in
set_option maxHeartbeats 4000000 in
theorem rmulV {w : World} {k k' : Nat} {a a' : Option Addr} {n c n' c' u v : Nat} (K : Nat) (h1 : PolV w k a n c u) (h2 : PolV w k' a' n' c' v) (hk : k ≤ 200) (hk' : k' ≤ 200) (hK : k + k' ≤ K) :
    Calls Tryd.prog 23 #[.slice a n c, .slice a' n' c'] w fun e w' => ∃ a n c, e = .returned (.slice a n c) ∧ NewV w w' K a n c (pm u v) ∧ Below w.heap.size w w' := by
  have HK := Lib.hid (Nat.lt_of_lt_of_le (room_pm h1.lt h2.lt) (room_mono hK))
  obtain ⟨X, p1, rfl, n1⟩ := h1
  obtain ⟨Y, p2, rfl, n2⟩ := h2
  have HP1 := Lib.hid p1
  have HP2 := Lib.hid p2
  have hl1 := p1.hlen
  have hl2 := p2.hlen
  clear p1 p2
  by_cases z1 : val X = 0
  · have hd : degZ (val X) = -1 := by rw [z1]; rfl
    have HF : Hid (NewV w w K none 0 0 (pm (val X) (val Y))) := by
      show NewV _ _ _ _ _ _ _
      rw [z1, zero_pm]; exact newV_nil w K
    clear z1 hl1 hl2
    go_enter Tryd.func23, Tryd.ntmps23
    go_wp2_with fail
    refine (rdeg_any a n c X w HP1.out (by omega)).mono ?_
    rintro e w1 ⟨rfl, rfl⟩
    rw [hd]
    clear hd
    go_wp2_with fail
    refine (rdeg_any a' n' c' Y w HP2.out (by omega)).mono ?_
    rintro e w1 ⟨rfl, rfl⟩
    go_wp2_with fail
    go_ret
    exact ⟨none, 0, 0, rfl, HF.out, Below.refl _ _⟩
  · obtain ⟨d, hd, HD'⟩ := degZ_cast z1
    have HD := Lib.hid HD'
    have t1 : decide ((d : Int) < 0) = false := decide_eq_false (by omega)
    have bd : d ≤ 1600 := by have := deg_len z1; rw [HD'.log2] at this; omega
    clear HD'
    by_cases z2 : val Y = 0
    · have hd2 : degZ (val Y) = -1 := by rw [z2]; rfl
      have HF : Hid (NewV w w K none 0 0 (pm (val X) (val Y))) := by
        show NewV _ _ _ _ _ _ _
        rw [z2, pm_zero]; exact newV_nil w K
      clear z1 z2 hl1 hl2
      go_enter Tryd.func23, Tryd.ntmps23
      go_wp2_with fail
      refine (rdeg_any a n c X w HP1.out (by omega)).mono ?_
      rintro e w1 ⟨rfl, rfl⟩
      rw [hd]
      clear hd
      go_wp2_with fail
      refine (rdeg_any a' n' c' Y w HP2.out (by omega)).mono ?_
      rintro e w1 ⟨rfl, rfl⟩
      rw [hd2]
      clear hd2
      go_wp2_with fail
      go_ret
      exact ⟨none, 0, 0, rfl, HF.out, Below.refl _ _⟩
    · obtain ⟨d2, hd2, HD2'⟩ := degZ_cast z2
      have HD2 := Lib.hid HD2'
      have t2 : decide ((d2 : Int) < 0) = false := decide_eq_false (by omega)
      have bd2 : d2 ≤ 1600 := by have := deg_len z2; rw [HD2'.log2] at this; omega
      have HT : Hid (pm (val X) (val Y) < 2 ^ (d + d2 + 1)) := (deg_pm HD.out _ _ HD2').2
      obtain ⟨N, hN⟩ : ∃ N, N = d + d2 + 1 := ⟨_, rfl⟩
      have eN : (d : Int) + (d2 : Int) + 1 = (N : Int) := by omega
      rw [← hN] at HT
      have HN := Lib.hid hN
      have bN : N ≤ 4000 := by omega
      have hmk := made64 w N (by omega)
      rw [bitL_zero] at hmk
      have HB0 : Hid (Below w.heap.size w (w.alloc (obj64 (bitL 0 N)))) := (Below.refl _ _).alloc (Nat.le_refl _) _
      have HK0 : Hid (Blk64 (w.alloc (obj64 (bitL 0 N))) w.heap.size (bitL 0 N)) := Blk64.new w _
      clear z1 z2 hl1 hl2 HD2' hN
      go_enter Tryd.func23, Tryd.ntmps23
      go_wp2_with fail
      refine (rdeg_any a n c X w HP1.out (by omega)).mono ?_
      rintro e w1 ⟨rfl, rfl⟩
      rw [hd]
      clear hd
      go_wp2_with fail
      refine (rdeg_any a' n' c' Y w HP2.out (by omega)).mono ?_
      rintro e w1 ⟨rfl, rfl⟩
      rw [hd2]
      clear hd2
      go_wp2_with fail
      go_loopg [8, 9] (d + 1) (fun gh s8 s9 wx => ∃ (i : Nat), gh = d + 1 - i ∧ i ≤ d + 1 ∧ s8 = .int .i64 (i : Int) ∧ Blk64 wx w.heap.size (bitL (pm (val Y) (val X % 2 ^ i)) N) ∧ Below w.heap.size w wx)
      case atStart => exact ⟨0, rfl, by omega, rfl, by rw [Nat.pow_zero, Nat.mod_one, pm_zero]; exact HK0.out, HB0.out⟩
      case round =>
        clear hmk eN t1 t2
        obtain ⟨i, hg, hin, rfl, hk, hB⟩ := hrel
        have HG := Lib.hid hg
        clear hg
        by_cases hlt : i < d + 1
        · have x1 : decide ((i : Int) ≤ (d : Int)) = true := decide_eq_true (by omega)
          have x0 : (0 : Int) ≤ (i : Int) := by omega
          have HPX := Lib.hid (HP1.out.below hB)
          have HBX := Lib.hid (bitZ_bz X i)
          have HM := Lib.hid (mod_succ (val X) i)
          go_wp2_with fail
          refine (rbit_any a n c X (i : Int) wr HPX.out (by omega)).mono ?_
          rintro e w1 ⟨rfl, rfl⟩
          rw [HBX.out]
          rcases Bool.eq_false_or_eq_true ((val X).testBit i) with hb | hb
          · have HE : Hid (pm (val Y) (val X % 2 ^ (i + 1)) = pm (val Y) (val X % 2 ^ i) ^^^ (val Y % 2 ^ (d2 + 1)) <<< i) := by
              show _ = _
              rw [HM.out, hb, if_pos rfl, pm_xor_right, pm_pow, Nat.mod_eq_of_lt HD2.out.2]
            rw [hb]
            rw [show bz true = 1 from rfl]
            clear hb HM
            go_wp2_with fail
            obtain ⟨V, hV⟩ : ∃ V, V = pm (val Y) (val X % 2 ^ i) := ⟨_, rfl⟩
            rw [← hV] at hk HE
            have HVV := Lib.hid hV
            clear hV
            go_loopg [9] (d2 + 1) (fun gh s9 wx => ∃ (k : Nat), gh = d2 + 1 - k ∧ k ≤ d2 + 1 ∧ s9 = .int .i64 (k : Int) ∧ Blk64 wx w.heap.size (bitL (V ^^^ (val Y % 2 ^ k) <<< i) N) ∧ Below w.heap.size w wx)
            case atStart => exact ⟨0, rfl, by omega, rfl, by rw [Nat.pow_zero, Nat.mod_one, shl_zero, Nat.xor_zero]; exact hk, hB⟩
            case round =>
              clear hk hB HPX
              obtain ⟨k, hg, hkn, rfl, hk, hB⟩ := hrel
              have HG2 := Lib.hid hg
              clear hg
              by_cases hlt2 : k < d2 + 1
              · have y1 : decide ((k : Int) ≤ (d2 : Int)) = true := decide_eq_true (by omega)
                have y0 : (0 : Int) ≤ (k : Int) := by omega
                have hikN : i + k < N := by have := HN.out; omega
                have hk : Blk64 wr.drew w.heap.size (bitL (V ^^^ (val Y % 2 ^ k) <<< i) N) := hk
                have hB : Below w.heap.size w wr.drew := Below.drew hB
                go_wp2_with fail
                refine wp_region_still_tail 15 (by kernel_rfl) (by kernel_rfl) ?_
                simp only [List.take_succ_cons, List.take_zero, List.drop_succ_cons, List.drop_zero]
                change wpStill _ _ wr.drew (fun a' => wpList _ _ _ _ a' wr.drew) _ _
                generalize wr.drew = w2 at hk hB ⊢
                have c1 := hk.cell (i := i + k) (by rw [bitL_length]; exact hikN)
                rw [nth_bitL _ _ _ hikN] at c1
                have c2 := hk.free (i + k)
                have ex := bz_xor ((V ^^^ (val Y % 2 ^ k) <<< i).testBit (i + k)) ((val Y).testBit k)
                have HS := Lib.hid (Blk64.lay hk (mul_step V (val Y) N i k))
                have HSB : Hid (Below w.heap.size w (w2.setCell ⟨w.heap.size, i + k, none⟩ (.int .i64 (bz ((V ^^^ (val Y % 2 ^ k) <<< i).testBit (i + k) ^^ (val Y).testBit k))))) := hB.setCell (p := ⟨w.heap.size, i + k, none⟩) (Nat.le_refl _) _
                have HPY := Lib.hid (HP2.out.below hB)
                have HBY := Lib.hid (bitZ_bz Y k)
                have i4 : (i : Int) + (k : Int) < (N : Int) := by omega
                have i5 : (0 : Int) ≤ (i : Int) + (k : Int) := by omega
                have i2 : ((i : Int) + (k : Int)).toNat = i + k := by omega
                have i1 : IntKind.i64.wrap ((i : Int) + (k : Int)) = (i : Int) + (k : Int) := IntWalk.i64_in _ (by omega)
                generalize bz ((V ^^^ (val Y % 2 ^ k) <<< i).testBit (i + k) ^^ (val Y).testBit k) = b3 at ex HS HSB
                generalize bz ((V ^^^ (val Y % 2 ^ k) <<< i).testBit (i + k)) = b1 at c1 ex
                clear hk hB hlt hlt2
                repeat still_step
                still_call ((rbit_any a' n' c' Y (k : Int) w2 HPY.out (by omega)).mono fun _ _ h => ⟨h.1, h.2.symm⟩)
                rw [HBY.out]
                generalize bz ((val Y).testBit k) = b2 at ex ⊢
                repeat still_step
                refine wpStill_nil ?_
                go_wp2_with fail
                go_roundg (d2 + 1 - (k + 1))
                case measure => have := HG2.out; omega
                case rel => exact ⟨k + 1, rfl, by omega, by go_num, HS.out, HSB.out⟩
              · obtain rfl : k = d2 + 1 := by omega
                have y1 : decide (((d2 + 1 : Nat) : Int) ≤ (d2 : Int)) = false := decide_eq_false (by omega)
                rw [← HE.out] at hk
                go_wp2_with fail
                go_roundg (d + 1 - (i + 1))
                case measure => have := HG.out; omega
                case rel => exact ⟨i + 1, rfl, by omega, by go_num, hk, hB⟩
          · have HE : Hid (pm (val Y) (val X % 2 ^ (i + 1)) = pm (val Y) (val X % 2 ^ i)) := by
              show _ = _
              rw [HM.out, hb]; simp
            rw [hb]
            rw [show bz false = 0 from rfl]
            clear hb HM HPX
            go_wp2_with fail
            go_roundg (d + 1 - (i + 1))
            case measure => have := HG.out; omega
            case rel => exact ⟨i + 1, rfl, by omega, by go_num, by rw [HE.out]; exact hk, hB⟩
        · obtain rfl : i = d + 1 := by omega
          have x1 : decide (((d + 1 : Nat) : Int) ≤ (d : Int)) = false := decide_eq_false (by omega)
          have HE : Hid (pm (val Y) (val X % 2 ^ (d + 1)) = pm (val X) (val Y)) := by
            show _ = _
            rw [Nat.mod_eq_of_lt HD.out.2, pm_comm]
          rw [HE.out] at hk
          go_wp2_with fail
          refine (bits_any w.heap.size N N _ wr hk (by omega)).mono ?_
          rintro e w2 ⟨a3, n3, c3, Z, rfl, hZ, bZ, vZ, b2⟩
          have hF := newV (hZ.from hB.size) bZ (vZ.trans (by rw [Nat.mod_eq_of_lt HT.out])) K HK.out
          have hB2 := hB.trans (b2.mono hB.size)
          clear hZ bZ vZ b2 hB hk
          go_wp2_with fail
          go_ret
          exact ⟨a3, n3, c3, rfl, hF, hB2⟩
end Go.Proofs.YtcdhjmmkeiomaaaDoor.Bin
