/- The walk over CrcTwo. By the verifier of shale. -/
import Derived.Test.YtakfbjalclnpmaaDoorCrcFirst
import Derived.Test.YtakfbjalclnpmaaDoorCrcOrder
import Derived.Test.YtakfbjalclnpmaaDoorRefBytes
import Derived.Test.YtakfbjalclnpmaaDoorRow
import Derived.Deep.RegionHeld3
import Derived.Deep.Cut
import Derived.Deep.DeepCutAuto
namespace Go.Proofs.YtakfbjalclnpmaaDoor.walkCrcTwo
open Go Go.RowKit Crc
set_option linter.unusedVariables false
attribute [local go_sem] Bits32.xor64 Bits32.bxor Bits32.bxor_bit
set_option maxRecDepth 100000 in
set_option maxHeartbeats 1000000 in
theorem two_some (bb off cap n : Nat) (l : List (BitVec 8)) (x y : Int) (w : World) (ht : Tab w) (hr : Row8 w bb off l) (hb : bb < w.heap.size) (hl : n = l.length) (h0 : 0 < n) (hn : n ≤ 2000) (hc : n ≤ cap) :
    Calls Tryd.prog 6 #[.slice (some ⟨bb, off, none⟩) n cap, .int .i64 x, .int .i64 y] w fun e w' => e = .returned (.bool true) ∧ Below w.heap.size w w' := by
  have t1 : ¬ ((2000 : Int) < (n : Int)) := by omega
  have t2 : ((n : Int) == 0) = false := by simp; omega
  obtain ⟨i, hi, hie⟩ := norm_in x (8 * n) (by omega) (by omega)
  obtain ⟨j, hj, hje⟩ := norm_in y (8 * n) (by omega) (by omega)
  have bi : (8 * (n : Int)) = ((8 * n : Nat) : Int) := by omega
  rw [← bi] at hie hje
  clear bi
  have i0 : (0 : Int) ≤ (i : Int) := by omega
  have j0 : (0 : Int) ≤ (j : Int) := by omega
  have i1 : (i : Int) / 8 < (n : Int) := by omega
  have j1 : (j : Int) / 8 < (n : Int) := by omega
  have hm : n ≤ maxLen := by unfold maxLen; omega
  have r3 : Arg8 w (.slice (some ⟨bb, off, none⟩) n cap) l := Arg8.whole hr hb hl hm
  have HL := Lib.hid hl
  clear hl
  go_enter Tryd.func6, Tryd.ntmps6
  go_wp2_with fail
  refine (first_any w ht).mono ?_
  rintro e w1 ⟨rfl, b1⟩
  go_wp2_with fail
  refine (copy_any bb off n cap l w1 (hr.below b1 hb) HL.out (by omega)).mono ?_
  rintro e w2 ⟨rfl, hx, b2⟩
  have d1 := hx.cell (i := i / 8) (by have := HL.out; omega)
  have d2 := hx.free (i / 8)
  go_upto_region 9 with (fail)
  have hx2 := hx.set (i / 8) (nth8 l (i / 8) ^^^ BitVec.twoPow 8 (i % 8))
  have b3 : Below w1.heap.size w1 (w2.setCell ⟨w1.heap.size, i / 8, none⟩ (.int .u8 (Bits32.b (nth8 l (i / 8) ^^^ BitVec.twoPow 8 (i % 8))))) := b2.setCell (Nat.le_refl _) _
  generalize w2.setCell ⟨w1.heap.size, i / 8, none⟩ (.int .u8 (Bits32.b (nth8 l (i / 8) ^^^ BitVec.twoPow 8 (i % 8)))) = w3 at hx2 b3 ⊢
  replace hx2 : Blk8 w3 w1.heap.size (turn l i) := hx2
  clear d1 d2 hx b2
  have d1 := hx2.cell (i := j / 8) (by have := HL.out; rw [turn_length]; omega)
  have d2 := hx2.free (j / 8)
  go_upto_region 10 with (fail)
  have hx3 := hx2.set (j / 8) (nth8 (turn l i) (j / 8) ^^^ BitVec.twoPow 8 (j % 8))
  have b4 : Below w1.heap.size w1 (w3.setCell ⟨w1.heap.size, j / 8, none⟩ (.int .u8 (Bits32.b (nth8 (turn l i) (j / 8) ^^^ BitVec.twoPow 8 (j % 8))))) := b3.setCell (Nat.le_refl _) _
  generalize w3.setCell ⟨w1.heap.size, j / 8, none⟩ (.int .u8 (Bits32.b (nth8 (turn l i) (j / 8) ^^^ BitVec.twoPow 8 (j % 8)))) = w4 at hx3 b4 ⊢
  replace hx3 : Blk8 w4 w1.heap.size (turn (turn l i) j) := hx3
  clear d1 d2 hx2 b3
  have bw : Below w.heap.size w w4 := b1.trans (b4.mono b1.size)
  have htr := ht.below bw ht.lt
  have rx : Arg8 w4 (.slice (some ⟨w1.heap.size, 0, none⟩) n n) (turn (turn l i) j) := hx3.arg (by rw [turn_length, turn_length]; exact HL.out) hm
  replace r3 := r3.since (Nat.le_refl _) bw
  have T : crc (turn (turn l i) j) = crc l ^^^ pow (8 * n + 31 - i) ^^^ pow (8 * n + 31 - j) := by
    rw [crc_turn _ _ (by rw [turn_length, ← HL.out]; exact hj), crc_turn _ _ (by rw [← HL.out]; exact hi), turn_length, ← HL.out]
  by_cases hij : i = j
  · subst hij
    rw [turn_turn] at rx
    clear T hx3
    go_wp2_with fail
    refine (of_since htr rx (Below.refl _ _)).mono ?_
    rintro e w5 ⟨rfl, b5⟩
    go_wp2_with fail
    refine (of_since htr r3 b5).mono ?_
    rintro e w6 ⟨rfl, b6⟩
    go_wp2
    go_ret
    exact ⟨rfl, bw.trans (b6.mono bw.size)⟩
  · have hp : pow (8 * n + 31 - i) ≠ pow (8 * n + 31 - j) := pow_ne _ _ (by omega) (by omega) (by omega)
    have q1 : (Bits32.u (crc (turn (turn l i) j)) == Bits32.u (crc l)) = false := by
      rw [beq_eq_false_iff_ne]
      intro e
      have e := Bits32.u_inj _ _ e
      rw [T, BitVec.xor_assoc] at e
      have e2 := congrArg (crc l ^^^ ·) e
      simp only [← BitVec.xor_assoc, BitVec.xor_self, BitVec.zero_xor] at e2
      exact hp (BitVec.xor_eq_zero_iff.1 e2)
    have q2 : (Bits32.u (pow (8 * n + 31 - i)) != Bits32.u (pow (8 * n + 31 - j))) = true := by
      rw [bne_iff_ne]
      intro e
      exact hp (Bits32.u_inj _ _ e)
    have q3 : ((i : Int) == (j : Int)) = false := by
      rw [beq_eq_false_iff_ne]; omega
    clear T hx3 hp
    go_wp2_with fail
    refine (of_since htr rx (Below.refl _ _)).mono ?_
    rintro e w5 ⟨rfl, b5⟩
    go_wp2_with fail
    refine (of_since htr r3 b5).mono ?_
    rintro e w6 ⟨rfl, b6⟩
    go_wp2_with fail
    refine (flipped_any n i _ (by omega) hi).mono ?_
    rintro e w7 ⟨rfl, rfl⟩
    go_wp2_with fail
    refine (flipped_any n j _ (by omega) hj).mono ?_
    rintro e w7 ⟨rfl, rfl⟩
    go_wp2
    go_ret
    exact ⟨rfl, bw.trans (b6.mono bw.size)⟩

set_option maxRecDepth 100000 in
set_option maxHeartbeats 1000000 in
theorem two_long (p : Option Addr) (cap n : Nat) (x y : Int) (w : World) (ht : Tab w) (hn : 2000 < n) (hm : n ≤ maxLen) :
    Calls Tryd.prog 6 #[.slice p n cap, .int .i64 x, .int .i64 y] w fun e w' => e = .returned (.bool true) ∧ Below w.heap.size w w' := by
  unfold maxLen at hm
  have t1 : (2000 : Int) < (n : Int) := by omega
  go_enter Tryd.func6, Tryd.ntmps6
  go_wp2_with fail
  refine (first_any w ht).mono ?_
  rintro e w1 ⟨rfl, b1⟩
  go_wp2
  go_ret
  exact ⟨rfl, b1⟩
set_option maxRecDepth 100000 in
set_option maxHeartbeats 1000000 in
theorem two_none (p : Option Addr) (cap : Nat) (x y : Int) (w : World) (ht : Tab w) :
    Calls Tryd.prog 6 #[.slice p 0 cap, .int .i64 x, .int .i64 y] w fun e w' => e = .returned (.bool true) ∧ Below w.heap.size w w' := by
  go_enter Tryd.func6, Tryd.ntmps6
  go_wp2_with fail
  refine (first_any w ht).mono ?_
  rintro e w1 ⟨rfl, b1⟩
  go_wp2
  go_ret
  exact ⟨rfl, b1⟩
theorem walk (a0 : Option Addr) (len0 cap0 : Nat) (z0 : List Int) (a1 a2 : Int) (w : World) (w0 : IsRow .u8 w a0 len0 cap0 z0) (_w1 : (Lit.int .i64 a1).wf = true) (_w2 : (Lit.int .i64 a2).wf = true) (ht : Tab w) :
    Calls Tryd.prog 6 #[.slice a0 len0 cap0, .int .i64 a1, .int .i64 a2] w fun e w' => e = .returned (.bool true) ∧ Below w.heap.size w w' := by
  obtain ⟨hm, h⟩ := w0.bytes
  by_cases h4 : 2000 < len0
  · exact two_long a0 cap0 len0 a1 a2 w ht h4 hm
  · rcases h with rfl | ⟨bb, off, l, rfl, hl, hc, hr, hb⟩
    · exact two_none a0 cap0 a1 a2 w ht
    · by_cases h0 : len0 = 0
      · subst h0; exact two_none _ cap0 a1 a2 w ht
      · exact two_some bb off cap0 len0 l a1 a2 w ht hr hb hl.symm (by omega) (by omega) hc
end Go.Proofs.YtakfbjalclnpmaaDoor.walkCrcTwo
