/- The walk over package binpoly's Shift. By the verifier of shale. -/
import Derived.Test.YtcdhjmmkeiomaaaDoorBinGcd
import Derived.Test.YtcdhjmmkeiomaaaDoorBinOfBad
namespace Go.Proofs.YtcdhjmmkeiomaaaDoor.Bin
open Go Go.RowKit
set_option linter.unusedVariables false
theorem bor8 (a c : BitVec 8) : bits .or .u8 (Bits32.b a) (Bits32.b c) = Bits32.b (a ||| c) := by
  show IntKind.u8.wrap (Bits32.b (BitVec.ofInt 8 (Bits32.b a) ||| BitVec.ofInt 8 (Bits32.b c))) = _
  rw [Bits32.ofInt8, Bits32.ofInt8, Bits32.wrap8]
/-- a byte of a polynomial that is shifted down. -/
def shrB (l : List (BitVec 8)) (m i : Nat) : BitVec 8 := (nth8 l (i + m / 8) >>> (m % 8)) ||| BitVec.ofNat 8 ((nth8 l (i + m / 8 + 1)).toNat * 2 ^ (8 - m % 8))
theorem shrB_bit (l : List (BitVec 8)) (m i j : Nat) (hj : j < 8) : (shrB l m i).getLsbD j = (val l).testBit (8 * i + j + m) := by
  unfold shrB
  rw [BitVec.getLsbD_or, BitVec.getLsbD_ushiftRight, val_bit]
  have e2 : (BitVec.ofNat 8 ((nth8 l (i + m / 8 + 1)).toNat * 2 ^ (8 - m % 8))).getLsbD j = (decide (8 - m % 8 ≤ j) && (nth8 l (i + m / 8 + 1)).getLsbD (j - (8 - m % 8))) := by
    rw [BitVec.getLsbD_ofNat, decide_eq_true hj, Bool.true_and, ← Nat.shiftLeft_eq, Nat.testBit_shiftLeft]; rfl
  rw [e2]
  by_cases h : m % 8 + j < 8
  · rw [decide_eq_false (by omega : ¬ 8 - m % 8 ≤ j), show (8 * i + j + m) / 8 = i + m / 8 by omega, show (8 * i + j + m) % 8 = m % 8 + j by omega]
    simp
  · rw [decide_eq_true (by omega : 8 - m % 8 ≤ j), show (8 * i + j + m) / 8 = i + m / 8 + 1 by omega, show (8 * i + j + m) % 8 = j - (8 - m % 8) by omega, BitVec.getLsbD_of_ge _ _ (by omega)]
    simp
theorem val_shr {l R : List (BitVec 8)} {m : Nat} (hlen : val l < 2 ^ (8 * R.length + m)) (h : ∀ i, i < R.length → nth8 R i = shrB l m i) : val R = val l >>> m := by
  apply Nat.eq_of_testBit_eq
  intro i
  rw [val_bit, Nat.testBit_shiftRight]
  by_cases hi : i / 8 < R.length
  · rw [h _ hi, shrB_bit l m _ _ (by omega)]
    congr 1
    omega
  · rw [nth8_far _ _ (by omega), Nat.testBit_lt_two_pow (Nat.lt_of_lt_of_le hlen (Nat.pow_le_pow_right (by decide) (by omega)))]
    simp
theorem shrB_near (l : List (BitVec 8)) (m i : Nat) (h : l.length ≤ i + m / 8 + 1) : shrB l m i = nth8 l (i + m / 8) >>> (m % 8) := by
  unfold shrB
  rw [nth8_far l _ h]
  simp
theorem b_shr (c : BitVec 8) (j : Nat) : Bits32.b c / 2 ^ j = Bits32.b (c >>> j) := by
  unfold Bits32.b
  rw [BitVec.toNat_ushiftRight, Nat.shiftRight_eq_div_pow, Int.natCast_ediv, Int.natCast_pow]
  rfl
theorem nth8_set (X : List (BitVec 8)) (j i : Nat) (c : BitVec 8) (hj : j < X.length) : nth8 (X.set j c) i = if i = j then c else nth8 X i := by
  unfold nth8
  by_cases e : i = j
  · subst e
    rw [if_pos rfl, List.getD_eq_getElem?_getD, List.getElem?_set_self hj]; rfl
  · rw [if_neg e, List.getD_eq_getElem?_getD, List.getElem?_set_ne (Ne.symm e), ← List.getD_eq_getElem?_getD]
theorem shr_log2 {v d m : Nat} (h : Deg v d) (hm : m ≤ d) : Deg (v >>> m) (d - m) := by
  rw [Nat.shiftRight_eq_div_pow]
  have h1 := h.1
  have h2 := h.2
  refine ⟨(Nat.le_div_iff_mul_le (Nat.two_pow_pos _)).2 ?_, (Nat.div_lt_iff_lt_mul (Nat.two_pow_pos _)).2 ?_⟩
  · rw [← Nat.pow_add, show d - m + m = d by omega]; exact h1
  · rw [← Nat.pow_add, show d - m + 1 + m = d + 1 by omega]; exact h2
/-- nothing is shifted, or all is cut off. -/
theorem shift_none (a : Option Addr) (n cap : Nat) (l : List (BitVec 8)) (z : Int) (w : World) (h : Pol w a n cap l) (hn : n ≤ 100000) (hz : val l = 0 ∨ z < -degZ (val l)) :
    Calls Tryd.prog 30 #[.slice a n cap, .int .i64 z] w fun e w' => e = .returned (.tuple #[.slice none 0 0, .nilIface]) ∧ w = w' := by
  have HP := Lib.hid h
  have hdl : degZ (val l) ≤ 8 * 100000 ∧ -1 ≤ degZ (val l) := by
    unfold degZ
    split
    · omega
    · rename_i h0
      have := deg_len h0
      have := h.hlen
      omega
  clear h
  by_cases h0 : val l = 0
  · have hd : degZ (val l) = -1 := by unfold degZ; rw [if_pos h0]
    clear h0 hz hdl
    go_enter Tryd.func30, Tryd.ntmps30
    go_wp2_with fail
    refine (degree_any a n cap l w HP.out (by omega)).mono ?_
    rintro e w1 ⟨rfl, rfl⟩
    rw [hd]
    clear hd
    go_wp2_with fail
    go_ret2
    exact ⟨rfl, rfl⟩
  · have hz : z < -degZ (val l) := by rcases hz with h | h; exact absurd h h0; exact h
    have hd0 : 0 ≤ degZ (val l) := by unfold degZ; rw [if_neg h0]; omega
    clear h0
    go_enter Tryd.func30, Tryd.ntmps30
    go_wp2_with fail
    refine (degree_any a n cap l w HP.out (by omega)).mono ?_
    rintro e w1 ⟨rfl, rfl⟩
    generalize degZ (val l) = D at hz hd0 hdl ⊢
    have t1 : decide (D < 0) = false := decide_eq_false (by omega)
    have t2 : decide (z < -D) = true := decide_eq_true hz
    obtain ⟨hD1, hD2⟩ := hdl
    go_wp2_with fail
    go_ret2
    exact ⟨rfl, rfl⟩
/-- too long. -/
theorem shift_long (a : Option Addr) (n cap : Nat) (l : List (BitVec 8)) (z : Int) (w : World) (h : Pol w a n cap l) (hn : n ≤ 100000) (h0 : val l ≠ 0) (hz : 4096 - degZ (val l) < z) (hz0 : 0 ≤ z) (p : Addr) (E : ErrAt w 1 p) :
    Calls Tryd.prog 30 #[.slice a n cap, .int .i64 z] w fun e w' => e = .returned (.tuple #[.slice none 0 0, errOf p]) ∧ Drawn w w' := by
  have HP := Lib.hid h
  have hdl : degZ (val l) ≤ 8 * 100000 := by
    unfold degZ
    split
    · omega
    · rename_i h0
      have := deg_len h0
      have := h.hlen
      omega
  have hd0 : 0 ≤ degZ (val l) := by unfold degZ; rw [if_neg h0]; omega
  have e1 := E.1
  unfold Sent at e1
  clear h h0 E
  go_enter Tryd.func30, Tryd.ntmps30
  go_wp2_with fail
  refine (degree_any a n cap l w HP.out (by omega)).mono ?_
  rintro e w1 ⟨rfl, rfl⟩
  generalize degZ (val l) = D at hz hd0 hdl ⊢
  have t1 : decide (D < 0) = false := decide_eq_false (by omega)
  have t2 : decide (z < -D) = false := decide_eq_false (by omega)
  have t3 : decide (4096 - D < z) = true := decide_eq_true hz
  go_wp2_with fail
  go_quiet (fail)
  go_wp2_with fail
  go_ret2
  exact ⟨rfl, Drawn.mk _ _⟩
/-- up. -/
theorem shift_up (a : Option Addr) (n cap : Nat) (l : List (BitVec 8)) (z : Nat) (w : World) (h : Pol w a n cap l) (hn : n ≤ 200) (h0 : val l ≠ 0) (hz : z + (val l).log2 ≤ 4096) :
    Calls Tryd.prog 30 #[.slice a n cap, .int .i64 (z : Int)] w (GivesPE (val l <<< z) w) := by
  have HP := Lib.hid h
  have hd : degZ (val l) = ((val l).log2 : Int) := by unfold degZ; rw [if_neg h0]
  have HD := Lib.hid (deg_of h0)
  have hL := h.hlen
  have HL := Lib.hid hL
  obtain ⟨d, hde⟩ : ∃ d, d = (val l).log2 := ⟨_, rfl⟩
  rw [← hde] at hd HD hz
  obtain ⟨N, hN⟩ : ∃ N, N = (d + z) / 8 + 1 := ⟨_, rfl⟩
  have eN : ((d : Int) + (z : Int)) / 8 + 1 = (N : Int) := by omega
  have bN : N ≤ 1000 := by omega
  have HN := Lib.hid hN
  have hmk := made8P w N (by omega)
  have t1 : decide ((d : Int) < 0) = false := decide_eq_false (by omega)
  have t2 : decide ((z : Int) < -(d : Int)) = false := decide_eq_false (by omega)
  have t3 : decide (4096 - (d : Int) < (z : Int)) = false := decide_eq_false (by omega)
  have t4 : decide (0 ≤ (z : Int)) = true := decide_eq_true (by omega)
  have HB0 : Hid (Below w.heap.size w (w.alloc (obj8 (List.replicate N 0)))) := (Below.refl _ _).alloc (Nat.le_refl _) _
  have HK0 : Hid (Blk8 (w.alloc (obj8 (List.replicate N 0))) w.heap.size (List.replicate N 0)) := Blk8.new w _
  clear h h0 hde hN hL
  go_enter Tryd.func30, Tryd.ntmps30
  go_wp2_with fail
  refine (degree_any a n cap l w HP.out (by omega)).mono ?_
  rintro e w1 ⟨rfl, rfl⟩
  rw [hd]
  clear hd
  go_wp2_with fail
  generalize w.alloc (obj8 (List.replicate N 0)) = w1 at HB0 HK0 ⊢
  refine (trim_any a n cap l w1 (HP.out.below HB0.out)).mono ?_
  rintro e w2 ⟨rfl, rfl⟩
  have HM : Hid (val (l.take (tl l n)) = val l) := by
    show _ = _
    have := val_trim l
    unfold trimL at this
    rwa [← HL.out] at this
  have HQ : Hid (Pol w1 a (tl l n) cap (l.take (tl l n))) := (HP.out.below HB0.out).take (tl l n) (tl_le l n)
  have hne : ∀ bb off, a = some ⟨bb, off, none⟩ → tl l n ≠ 0 → bb ≠ w.heap.size := by
    intro bb off e h0
    rcases HP.out.hrow with h | ⟨bb', off', e', _, hlt'⟩
    · have := tl_le l n; omega
    · rw [e] at e'
      simp only [Option.some.injEq, Addr.mk.injEq] at e'
      omega
  have HNE := Lib.hid hne
  have hroom : val (l.take (tl l n)) <<< z < 2 ^ (8 * N) := by
    rw [HM.out]
    exact Nat.lt_of_lt_of_le (shl_deg HD.out z).2 (Nat.pow_le_pow_right (by decide) (by have := HN.out; omega))
  have HRM := Lib.hid hroom
  clear hne hroom
  go_wp2_with fail
  refine (addShifted_any (List.replicate N 0) (l.take (tl l n)) w.heap.size N N a (tl l n) cap z w1 (buf_of_blk HK0.out) (by simp) (by omega) HQ.out HNE.out HRM.out (by omega)).mono ?_
  rintro e w3 ⟨rfl, ⟨Y, hYl, hYv, hY⟩, hO⟩
  have HF : Hid (val Y = val l <<< z) := by
    show _ = _
    rw [hYv, HM.out, val_zeros, Nat.zero_xor]
  have hYL : Y.length = N := hYl.trans (by simp)
  have HYL := Lib.hid hYL
  have B3 := HB0.out.trans (hO.below (Nat.le_refl _))
  clear hYl hYv hO hYL
  go_wp2_with fail
  go_ret2
  exact ⟨_, _, _, Y, rfl, ⟨HYL.out.symm, Nat.le_refl _, by unfold maxLen; omega, Or.inr ⟨_, rfl, Nat.le_refl _, hY⟩⟩, bare_of_deg (d := d + z) (by rw [HF.out]; exact shl_deg HD.out z) (by rw [HYL.out]; exact HN.out), HF.out, B3⟩
end Go.Proofs.YtcdhjmmkeiomaaaDoor.Bin
