/- shaleref2's words on bits: bit, Bit, Degree, bits. By the verifier of shale. -/
import Derived.Test.YtcdhjmmkeiomaaaDoorBinV
import Derived.Laws.OwnMore
namespace Go.Proofs.YtcdhjmmkeiomaaaDoor.Bin
open Go Go.RowKit
set_option linter.unusedVariables false
def bz (b : Bool) : Int := if b then 1 else 0
theorem bz_bounds (b : Bool) : 0 ≤ bz b ∧ bz b ≤ 1 := by cases b <;> decide
theorem bz_xor (a b : Bool) : bits .xor .i64 (bz a) (bz b) = bz (a ^^ b) := by cases a <;> cases b <;> rfl
/-- the lowest n bits of V, a list of noughts and ones. -/
def bitL (V n : Nat) : List Int := (List.range n).map fun i => bz (V.testBit i)
theorem bitL_length (V n : Nat) : (bitL V n).length = n := by simp [bitL]
theorem nth_bitL (V n i : Nat) (h : i < n) : nth64 (bitL V n) i = bz (V.testBit i) := by
  unfold nth64 bitL
  simp [h]
theorem bitL_zero (n : Nat) : List.replicate n 0 = bitL 0 n := by
  apply List.ext_getElem
  · simp [bitL]
  · intro i h1 h2
    simp [bitL, bz]
theorem bitL_set (V n i : Nat) (b : Bool) : (bitL V n).set i (bz (V.testBit i ^^ b)) = bitL (V ^^^ (if b then 2 ^ i else 0)) n := by
  apply List.ext_getElem
  · simp [bitL]
  · intro j h1 h2
    rw [List.getElem_set]
    simp only [bitL, List.getElem_map, List.getElem_range]
    by_cases e : i = j
    · subst e
      rw [if_pos rfl, Nat.testBit_xor]
      cases b <;> simp
    · rw [if_neg e, Nat.testBit_xor]
      cases b
      · simp
      · simp [Nat.testBit_two_pow_of_ne e]
theorem bitL_one (V n i : Nat) (h : V.testBit i = false) : (bitL V n).set i 1 = bitL (V ^^^ 2 ^ i) n := by
  have := bitL_set V n i true
  rw [h] at this
  exact this
theorem bitZ_bz (l : List (BitVec 8)) (i : Nat) : bitZ l (i : Int) = bz ((val l).testBit i) := by
  unfold bitZ bz
  rw [if_neg (by omega)]; rfl
set_option maxRecDepth 100000 in
set_option maxHeartbeats 1000000 in
theorem rbit_any (a : Option Addr) (n cap : Nat) (l : List (BitVec 8)) (i : Int) (w : World) (h : Pol w a n cap l) (hi : i ≤ 9223372036854775807) :
    Calls Tryd.prog 40 #[.slice a n cap, .int .i64 i] w fun e w' => e = .returned (.int .i64 (bitZ l i)) ∧ w = w' := by
  have hm : n ≤ maxLen := Nat.le_trans h.hcap h.hmost
  unfold maxLen at hm
  by_cases h0 : i < 0
  · have hv : bitZ l i = 0 := by unfold bitZ; rw [if_pos h0]
    rw [hv]
    have t := decide_eq_true h0
    clear hv h h0
    go_enter Tryd.func40, Tryd.ntmps40
    go_wp2_with fail
    go_ret
    exact ⟨rfl, rfl⟩
  · obtain ⟨k, rfl⟩ : ∃ k : Nat, i = (k : Int) := ⟨i.toNat, by omega⟩
    have t := decide_eq_false h0
    have hv : bitZ l (k : Int) = if (nth8 l (k / 8)).getLsbD (k % 8) then 1 else 0 := by
      unfold bitZ
      rw [if_neg h0, val_bit]; rfl
    by_cases h1 : k / 8 < n
    · obtain ⟨bb, off, rfl, hr, hb⟩ : ∃ bb off, a = some ⟨bb, off, none⟩ ∧ Row8 w bb off l ∧ bb < w.heap.size := by
        rcases h.hrow with h | h
        · omega
        · exact h
      have c1 := hr (k / 8) (by have := h.hlen; omega)
      have x1 : (k : Int) / 8 < (n : Int) := by omega
      have x0 : (0 : Int) ≤ (k : Int) := by omega
      have hb1 : bits .and .i64 (Bits32.b (nth8 l (k / 8)) / 2 ^ (k % 8)) 1 = bitZ l (k : Int) := by
        have h1 := bit_one8 (nth8 l (k / 8)) (k % 8) (by omega)
        rw [← hv] at h1
        rw [b_shr] at h1 ⊢
        have h2 := and_one (Bits32.b (nth8 l (k / 8) >>> (k % 8)))
        have h3 : bits .and .u8 (Bits32.b (nth8 l (k / 8) >>> (k % 8))) 1 = Bits32.b (nth8 l (k / 8) >>> (k % 8)) % 2 := by
          show IntKind.u8.wrap ((BitVec.ofInt 8 (Bits32.b (nth8 l (k / 8) >>> (k % 8))) &&& BitVec.ofInt 8 1).toNat : Int) = _
          rw [Bits32.ofInt8, BitVec.toNat_and, show (BitVec.ofInt 8 1).toNat = 2 ^ 1 - 1 by decide, Nat.and_two_pow_sub_one_eq_mod]
          unfold Bits32.b
          show (((nth8 l (k / 8) >>> (k % 8)).toNat % 2 ^ 1 : Nat) : Int) % 256 = _
          omega
        rw [h2, ← h3, h1]
      have e0 := b_shr (nth8 l (k / 8)) (k % 8)
      have z0 := Bits32.b_lo (nth8 l (k / 8) >>> (k % 8))
      have z1 := Bits32.b_hi (nth8 l (k / 8) >>> (k % 8))
      rw [e0] at hb1
      clear hv h hr hb h0 h1
      go_enter Tryd.func40, Tryd.ntmps40
      go_wp2_with fail
      go_ret
      exact ⟨rfl, rfl⟩
    · have hz : bitZ l (k : Int) = 0 := by
        rw [hv, nth8_far l (k / 8) (by have := h.hlen; omega)]; simp
      rw [hz]
      have x1 : ¬ ((k : Int) / 8 < (n : Int)) := by omega
      have x0 : (0 : Int) ≤ (k : Int) := by omega
      clear hv hz h h0
      go_enter Tryd.func40, Tryd.ntmps40
      go_wp2_with fail
      go_ret
      exact ⟨rfl, rfl⟩
/-- no bit from k on. -/
theorem degZ_bit {v k : Nat} (h : v < 2 ^ (k + 1)) (hb : v.testBit k = true) : degZ v = (k : Int) := by
  have h1 := Nat.ge_two_pow_of_testBit hb
  have h2 := Nat.two_pow_pos k
  rw [degZ_ne (by omega), (show Deg v k from ⟨h1, h⟩).log2]
set_option maxRecDepth 100000 in
set_option maxHeartbeats 1000000 in
theorem rdeg_any (a : Option Addr) (n cap : Nat) (l : List (BitVec 8)) (w : World) (h : Pol w a n cap l) (hn : n ≤ 100000) :
    Calls Tryd.prog 15 #[.slice a n cap] w fun e w' => e = .returned (.int .i64 (degZ (val l))) ∧ w = w' := by
  have HP := Lib.hid h
  have HV : Hid (val l < 2 ^ (8 * n)) := by rw [h.hlen]; exact val_lt l
  obtain ⟨N, hN⟩ : ∃ N, N = 8 * n := ⟨_, rfl⟩
  have eN : (8 : Int) * (n : Int) - 1 = (N : Int) - 1 := by omega
  rw [← hN] at HV
  have bN : N ≤ 800000 := by omega
  clear h hN
  go_enter Tryd.func15, Tryd.ntmps15
  go_wp2_with fail
  go_loopg [3] N (fun gh s3 wx => ∃ k : Nat, gh = k ∧ k ≤ N ∧ s3 = .int .i64 ((k : Int) - 1) ∧ Hid (val l < 2 ^ k) ∧ w = wx)
  case atStart => exact ⟨N, rfl, Nat.le_refl _, rfl, HV.out, rfl⟩
  case round =>
    clear eN
    obtain ⟨k, hg, hk, rfl, HK, rfl⟩ := hrel
    have HG := Lib.hid hg
    clear hg
    rcases k with _ | k
    · have HF : Hid (degZ (val l) = -1) := by
        show _ = _
        have := HK.out
        rw [show val l = 0 by simpa using this]; rfl
      clear HK
      go_wp2_with fail
      go_ret
      exact ⟨ret_i64 HF.out.symm, rfl⟩
    · have x0 : (0 : Int) ≤ (k : Int) := by omega
      have hbz := bitZ_bz l k
      rcases Bool.eq_false_or_eq_true ((val l).testBit k) with hb | hb
      · have HF := Lib.hid (degZ_bit HK.out hb)
        rw [hb] at hbz
        have hbz : bitZ l (k : Int) = 1 := hbz
        clear HK hb
        go_wp2_with fail
        refine (rbit_any a n cap l (k : Int) w HP.out (by omega)).mono ?_
        rintro e w1 ⟨rfl, rfl⟩
        rw [hbz]
        clear hbz
        go_wp2_with fail
        go_ret
        exact ⟨ret_i64 HF.out.symm, rfl⟩
      · have HF := Lib.hid (lt_of_bit HK.out hb)
        rw [hb] at hbz
        have hbz : bitZ l (k : Int) = 0 := hbz
        clear HK hb
        go_wp2_with fail
        refine (rbit_any a n cap l (k : Int) w HP.out (by omega)).mono ?_
        rintro e w1 ⟨rfl, rfl⟩
        rw [hbz]
        clear hbz
        go_wp2_with fail
        go_roundg k
        case measure => have := HG.out; omega
        case rel => exact ⟨k, rfl, by omega, rfl, HF.out, rfl⟩
/-- a slice of this call's own, with what is behind its end not looked at: one byte set. -/
theorem Own8.stored {w : World} {base g cap n : Nat} {l : List (BitVec 8)} (h : Own8 w base (.slice (some ⟨g, 0, none⟩) n cap) n l) (j : Nat) (c : BitVec 8) :
    Own8 (w.setCell ⟨g, j, none⟩ (.int .u8 (Bits32.b c))) base (.slice (some ⟨g, 0, none⟩) n cap) n (l.set j c) ∧ w.grownBy (w.setCell ⟨g, j, none⟩ (.int .u8 (Bits32.b c))) (some g) := by
  have := World.ownsRow.stored h j (.int .u8 (Bits32.b c))
  refine ⟨?_, this.2⟩
  unfold Own8
  have e : cells8 (l.set j c) = (cells8 l).set j (.int .u8 (Bits32.b c)) := by unfold cells8; rw [List.map_set]
  rw [e]
  exact this.1
theorem val_zero_end (l : List (BitVec 8)) : val (l ++ [0]) = val l := by
  apply val_ext
  intro i
  unfold nth8
  rw [List.getD_eq_getElem?_getD, List.getD_eq_getElem?_getD, List.getElem?_append]
  by_cases h : i < l.length
  · rw [if_pos h]
  · rw [if_neg h, List.getElem?_eq_none (l := l) (by omega)]
    rcases Nat.eq_zero_or_pos (i - l.length) with e | e
    · rw [e]; rfl
    · rw [List.getElem?_eq_none (by rw [List.length_singleton]; omega)]
theorem bare_set (l : List (BitVec 8)) (j b : Nat) (hl : l.length = j + 1) (hb : b < 8) (h0 : (nth8 l j).getLsbD b = false) : Bare (l.set j (nth8 l j ^^^ BitVec.twoPow 8 b)) := by
  intro _ h
  rw [List.length_set, hl, Nat.add_sub_cancel, nth8_set _ _ _ _ (by omega), if_pos rfl] at h
  have : (nth8 l j ^^^ BitVec.twoPow 8 b).getLsbD b = (0 : BitVec 8).getLsbD b := by rw [h]
  rw [BitVec.getLsbD_xor, h0, BitVec.getLsbD_twoPow] at this
  simp [hb] at this
theorem or_two (c : BitVec 8) (b : Nat) (h0 : c.getLsbD b = false) : c ||| BitVec.twoPow 8 b = c ^^^ BitVec.twoPow 8 b := by
  apply BitVec.eq_of_getLsbD_eq
  intro i hi
  rw [BitVec.getLsbD_or, BitVec.getLsbD_xor]
  by_cases e : i = b
  · subst e; rw [h0]; simp
  · simp [BitVec.getLsbD_twoPow, Ne.symm e]
theorem bor_bit (c : BitVec 8) (b : Nat) (hb : b < 8) (h0 : c.getLsbD b = false) : bits .or .u8 (Bits32.b c) (2 ^ b % 256) = Bits32.b (c ^^^ BitVec.twoPow 8 b) := by
  have := Bits32.bit8 b
  rw [Nat.mod_eq_of_lt hb] at this
  rw [this, bor8, or_two c b h0]
end Go.Proofs.YtcdhjmmkeiomaaaDoor.Bin
