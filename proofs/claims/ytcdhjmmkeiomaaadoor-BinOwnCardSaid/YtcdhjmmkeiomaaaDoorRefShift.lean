/- shaleref2.BinShift. By the verifier of shale. -/
import Derived.Test.YtcdhjmmkeiomaaaDoorRefAdd
namespace Go.Proofs.YtcdhjmmkeiomaaaDoor.Bin
open Go Go.RowKit
set_option linter.unusedVariables false
/-- shifted up, or down. -/
def shiftZ (u : Nat) (z : Int) : Nat := if 0 ≤ z then u <<< z.toNat else u >>> (-z).toNat
theorem shiftZ_bit (X : List (BitVec 8)) (i : Nat) (z : Int) : bitZ X ((i : Int) - z) = bz ((shiftZ (val X) z).testBit i) := by
  unfold shiftZ
  by_cases hz : 0 ≤ z
  · obtain ⟨k, rfl⟩ : ∃ k : Nat, z = (k : Int) := ⟨z.toNat, by omega⟩
    rw [if_pos hz, Nat.testBit_shiftLeft]
    by_cases hk : k ≤ i
    · rw [show (i : Int) - (k : Int) = ((i - k : Nat) : Int) by omega, bitZ_bz, show ((k : Int)).toNat = k by omega, decide_eq_true hk, Bool.true_and]
    · unfold bitZ
      rw [if_pos (by omega), show ((k : Int)).toNat = k by omega, decide_eq_false (by omega), Bool.false_and]; rfl
  · obtain ⟨k, rfl⟩ : ∃ k : Nat, z = -(k : Int) := ⟨(-z).toNat, by omega⟩
    rw [if_neg hz, Nat.testBit_shiftRight, show (-(-(k : Int))).toNat = k by omega, show (i : Int) - -(k : Int) = ((k + i : Nat) : Int) by omega, bitZ_bz]
theorem shiftZ_zero (z : Int) : shiftZ 0 z = 0 := by
  unfold shiftZ
  split
  · exact shl_zero _
  · rw [Nat.shiftRight_eq_div_pow, Nat.zero_div]
theorem shiftZ_lt {u d N : Nat} {z : Int} (h : u < 2 ^ (d + 1)) (hN : (d : Int) + z + 1 = (N : Int)) : shiftZ u z < 2 ^ N := by
  unfold shiftZ
  split
  · obtain ⟨k, rfl⟩ : ∃ k : Nat, z = (k : Int) := ⟨z.toNat, by omega⟩
    rw [Nat.shiftLeft_eq, show ((k : Int)).toNat = k by omega, show N = d + 1 + k by omega, Nat.pow_add]
    exact Nat.mul_lt_mul_of_pos_right h (Nat.two_pow_pos k)
  · obtain ⟨k, rfl⟩ : ∃ k : Nat, z = -(k : Int) := ⟨(-z).toNat, by omega⟩
    rw [Nat.shiftRight_eq_div_pow, show (-(-(k : Int))).toNat = k by omega]
    refine (Nat.div_lt_iff_lt_mul (Nat.two_pow_pos _)).2 ?_
    rw [← Nat.pow_add, show N + k = d + 1 by omega]; exact h
theorem shiftZ_none {u d : Nat} {z : Int} (h : u < 2 ^ (d + 1)) (hN : (d : Int) + z < 0) : shiftZ u z = 0 := by
  have h0 : ¬ 0 ≤ z := by omega
  unfold shiftZ
  rw [if_neg h0, Nat.shiftRight_eq_div_pow]
  exact Nat.div_eq_of_lt (Nat.lt_of_lt_of_le h (Nat.pow_le_pow_right (by decide) (by omega)))
theorem newV_nil (w : World) (K : Nat) : NewV w w K none 0 0 0 := ⟨[], ⟨rfl, Nat.le_refl _, by decide, Or.inl ⟨rfl, rfl, rfl⟩⟩, bare_nil, rfl, Nat.zero_le _⟩
set_option maxRecDepth 100000 in
set_option maxHeartbeats 2000000 in
theorem rshiftV {w : World} {k : Nat} {a : Option Addr} {n c u : Nat} (z : Int) (K : Nat) (h1 : PolV w k a n c u) (hk : k ≤ 200) (hz1 : -20000 ≤ z) (hz2 : u = 0 ∨ z ≤ 20000) (hK : shiftZ u z < room K) :
    Calls Tryd.prog 31 #[.slice a n c, .int .i64 z] w fun e w' => ∃ a n c, e = .returned (.slice a n c) ∧ NewV w w' K a n c (shiftZ u z) ∧ Below w.heap.size w w' := by
  obtain ⟨X, p1, rfl, n1⟩ := h1
  have HP := Lib.hid p1
  have hlen := p1.hlen
  have HK := Lib.hid hK
  clear p1 hK
  by_cases h0 : val X = 0
  · have hd : degZ (val X) = -1 := by rw [h0]; rfl
    have HF : Hid (NewV w w K none 0 0 (shiftZ (val X) z)) := by
      show NewV _ _ _ _ _ _ _
      rw [h0, shiftZ_zero]; exact newV_nil w K
    clear h0 hlen hz2
    go_enter Tryd.func31, Tryd.ntmps31
    go_wp2_with fail
    refine (rdeg_any a n c X w HP.out (by omega)).mono ?_
    rintro e w1 ⟨rfl, rfl⟩
    rw [hd]
    clear hd
    go_wp2_with fail
    go_ret
    exact ⟨none, 0, 0, rfl, HF.out, Below.refl _ _⟩
  · have hz2 : z ≤ 20000 := by rcases hz2 with h | h; exact absurd h h0; exact h
    have hd := degZ_ne h0
    have HD := Lib.hid (deg_of h0)
    have hdl := deg_len h0
    obtain ⟨d, hde⟩ : ∃ d, d = (val X).log2 := ⟨_, rfl⟩
    rw [← hde] at hd HD hdl
    have bd : d ≤ 1600 := by omega
    have t1 : decide ((d : Int) < 0) = false := decide_eq_false (by omega)
    clear h0 hde hdl hlen
    by_cases hN : (d : Int) + z < 0
    · have t2 : decide ((d : Int) + z < 0) = true := decide_eq_true hN
      have HF : Hid (NewV w w K none 0 0 (shiftZ (val X) z)) := by
        show NewV _ _ _ _ _ _ _
        rw [shiftZ_none HD.out.2 hN]; exact newV_nil w K
      clear hN
      go_enter Tryd.func31, Tryd.ntmps31
      go_wp2_with fail
      refine (rdeg_any a n c X w HP.out (by omega)).mono ?_
      rintro e w1 ⟨rfl, rfl⟩
      rw [hd]
      clear hd
      go_wp2_with fail
      go_ret
      exact ⟨none, 0, 0, rfl, HF.out, Below.refl _ _⟩
    · have t2 : decide ((d : Int) + z < 0) = false := decide_eq_false hN
      obtain ⟨N, eN⟩ : ∃ N : Nat, (d : Int) + z + 1 = (N : Int) := ⟨((d : Int) + z + 1).toNat, by omega⟩
      have HT := Lib.hid (shiftZ_lt HD.out.2 eN)
      have bN : N ≤ 30000 := by omega
      have hmk := made64 w N (by omega)
      rw [bitL_zero] at hmk
      have HB0 : Hid (Below w.heap.size w (w.alloc (obj64 (bitL 0 N)))) := (Below.refl _ _).alloc (Nat.le_refl _) _
      have HK0 : Hid (Blk64 (w.alloc (obj64 (bitL 0 N))) w.heap.size (bitL 0 N)) := Blk64.new w _
      go_enter Tryd.func31, Tryd.ntmps31
      go_wp2_with fail
      refine (rdeg_any a n c X w HP.out (by omega)).mono ?_
      rintro e w1 ⟨rfl, rfl⟩
      rw [hd]
      clear hd
      go_wp2_with fail
      go_loopg [7] N (fun gh s7 wx => ∃ (i : Nat), gh = N - i ∧ i ≤ N ∧ s7 = .int .i64 (i : Int) ∧ Blk64 wx w.heap.size (bitL (shiftZ (val X) z % 2 ^ i) N) ∧ Below w.heap.size w wx)
      case atStart => exact ⟨0, rfl, by omega, rfl, by rw [Nat.pow_zero, Nat.mod_one]; exact HK0.out, HB0.out⟩
      case round =>
        clear hmk eN t1 t2 hN
        obtain ⟨i, hg, hin, rfl, hk, hB⟩ := hrel
        have HG := Lib.hid hg
        clear hg
        by_cases hlt : i < N
        · have x1 : (i : Int) < (N : Int) := by omega
          have x0 : (0 : Int) ≤ (i : Int) := by omega
          have c1 := hk.cell (i := i) (by rw [bitL_length]; exact hlt)
          have c2 := hk.free i
          have HS := Lib.hid (Blk64.lay hk (bitL_step (shiftZ (val X) z) N i))
          have HSB : Hid (Below w.heap.size w (wr.setCell ⟨w.heap.size, i, none⟩ (.int .i64 (bz ((shiftZ (val X) z).testBit i))))) := hB.setCell (p := ⟨w.heap.size, i, none⟩) (Nat.le_refl _) _
          have HPX := Lib.hid (HP.out.below hB)
          have HBX := Lib.hid (shiftZ_bit X i z)
          clear hk hB
          go_wp2_with fail
          refine (rbit_any a n c X ((i : Int) - z) wr HPX.out (by omega)).mono ?_
          rintro e w1 ⟨rfl, rfl⟩
          rw [HBX.out]
          generalize bz ((shiftZ (val X) z).testBit i) = b3 at HS HSB ⊢
          go_wp2_with fail
          go_roundg (N - (i + 1))
          case measure => have := HG.out; omega
          case rel => exact ⟨i + 1, rfl, by omega, by go_num, HS.out, HSB.out⟩
        · obtain rfl : i = N := by omega
          go_wp2_with fail
          refine (bits_any w.heap.size i i _ wr hk (by omega)).mono ?_
          rintro e w2 ⟨a3, n3, c3, Z, rfl, hZ, bZ, vZ, b2⟩
          have hF := newV (hZ.from hB.size) bZ (vZ.trans (by rw [Nat.mod_mod, Nat.mod_eq_of_lt HT.out])) K HK.out
          have hB2 := hB.trans (b2.mono hB.size)
          clear hZ bZ vZ b2 hB hk
          go_wp2_with fail
          go_ret
          exact ⟨a3, n3, c3, rfl, hF, hB2⟩
end Go.Proofs.YtcdhjmmkeiomaaaDoor.Bin
