/- The walk over CrcBits. By the verifier of shale. -/
import Derived.Test.YtakfbjalclnpmaaDoorCrcFirst
import Derived.Test.YtakfbjalclnpmaaDoorCrcOrder
import Derived.Test.YtakfbjalclnpmaaDoorRefBytes
import Derived.Test.YtakfbjalclnpmaaDoorRow
import Derived.Deep.RegionHeld3
import Derived.Deep.Cut
import Derived.Deep.DeepCutAuto
namespace Go.Proofs.YtakfbjalclnpmaaDoor.walkCrcBits
open Go Go.RowKit Crc
set_option linter.unusedVariables false
attribute [local go_sem] Bits32.xor64 Bits32.bxor Bits32.bxor_bit
/-- is it another number than 0? (behind a name that no tactic opens) -/
def nz (a : BitVec 32) : Bool := a != 0
set_option maxRecDepth 100000 in
set_option maxHeartbeats 16000000 in
theorem bits_some (bb off cap n : Nat) (l : List (BitVec 8)) (x : Int) (m : BitVec 32) (pm : Option Addr) (ml mc : Nat) (w : World) (ht : Tab w) (hr : Row8 w bb off l) (hb : bb < w.heap.size) (hl : n = l.length) (h0 : 0 < n) (hn : n ≤ 2000) (hc : n ≤ cap) (hml : ml ≤ 20) (hmo : Hid (∀ j, j < ml → ∃ mb mo z, pm = some ⟨mb, mo, none⟩ ∧ w.cell? ⟨mb, mo + j, none⟩ = some (.int .i64 z) ∧ mb < w.heap.size)) :
    Calls Tryd.prog 5 #[.slice (some ⟨bb, off, none⟩) n cap, .int .i64 x, .int .u32 (Bits32.u m), .slice pm ml mc] w fun e w' => e = .returned (.bool true) ∧ Below w.heap.size w w' := by
  have t1 : decide ((2000 : Int) < (n : Int)) = false := by simp; omega
  have t2 : ((n : Int) == 0) = false := by simp; omega
  have t3 : decide ((20 : Int) < (ml : Int)) = false := by simp; omega
  obtain ⟨a, ha, hae⟩ := norm_in x (8 * n) (by omega) (by omega)
  have bi : (8 * (n : Int)) = ((8 * n : Nat) : Int) := by omega
  rw [← bi] at hae
  clear bi
  have a0 : (0 : Int) ≤ (a : Int) := by omega
  have hm : n ≤ maxLen := by unfold maxLen; omega
  have r3 : Arg8 w (.slice (some ⟨bb, off, none⟩) n cap) l := Arg8.whole hr hb hl hm
  have HL := Lib.hid hl
  clear hl
  have m1 := Bits32.u_lo m
  have m2 := Bits32.u_hi m
  go_enter Tryd.func5, Tryd.ntmps5
  go_wp2_with fail
  refine (first_any w ht).mono ?_
  rintro e w1 ⟨rfl, b1⟩
  go_wp2_with fail
  refine (copy_any bb off n cap l w1 (hr.below b1 hb) HL.out (by omega)).mono ?_
  rintro e w2 ⟨rfl, hx, b2⟩
  go_wp2_with fail
  have bw := b1.trans (b2.mono b1.size)
  refine (of_since (ht.below bw ht.lt) (r3.since (Nat.le_refl _) bw) (Below.refl _ _)).mono ?_
  rintro e w3 ⟨rfl, b3⟩
  have hx : Blk8 w3 w1.heap.size l := (b3.block _ hx.lt).trans hx
  have b3 : Below w1.heap.size w1 w3 := b2.trans (b3.mono b2.size)
  clear b2 bw
  go_wp2_with fail
  go_loopg [12, 13, 14] 32 (fun g s12 s13 s14 wx => ∃ (k : Nat) (X : List (BitVec 8)), k ≤ 32 ∧ g = 32 - k ∧ s14 = .int .i64 (k : Int) ∧ s13 = .bool (nz (low m k)) ∧ s12 = .int .i64 (Bits32.u (crc X)) ∧
    Blk8 wx w1.heap.size X ∧ Below w1.heap.size w1 wx ∧ Hid (X.length = n ∧ crc X = crc l ^^^ ups (8 * n - a) (low m k)))
  case atStart => exact ⟨0, l, by omega, rfl, rfl, rfl, rfl, hx, b3, HL.out.symm, by show crc l = crc l ^^^ ups _ 0; rw [ups_zero]; exact BitVec.xor_zero.symm⟩
  case round =>
    obtain ⟨k, X, hk, hg, rfl, rfl, rfl, hX, bX, HX⟩ := hrel
    have HG := Lib.hid hg
    clear hg
    by_cases hlt : k < 32 ∧ a + k < 8 * n
    · obtain ⟨k1, k2⟩ := hlt
      have k3 : (a : Int) + (k : Int) < 8 * (n : Int) := by omega
      have k4 : (k : Int) < 32 := by omega
      have k5 : (0 : Int) ≤ (k : Int) := by omega
      by_cases hb : m.getLsbD k = true
      · have tb : (bits .and .u32 (Bits32.u m / 2 ^ k) 1 == 1) = true := by rw [Bits32.bit_test]; exact hb
        obtain ⟨l1, l2⟩ := low_set m k k1 hb
        have HB := Lib.hid l1
        have HB2 : Hid (nz (low m (k + 1)) = true) := l2
        clear l1 l2 hb
        obtain ⟨c, hc⟩ : ∃ c, c = a + k := ⟨_, rfl⟩
        have hcc : (a : Int) + (k : Int) = (c : Int) := by omega
        have HCC := Lib.hid hc
        have c1 : c < 8 * n := by omega
        clear hc
        have c2 : (c : Int) / 8 < (n : Int) := by omega
        have c3 : (0 : Int) ≤ (c : Int) := by omega
        have k3 : (c : Int) < 8 * (n : Int) := by omega
        have d1 := hX.cell (i := c / 8) (by have := HX.out.1; omega)
        have d2 := hX.free (c / 8)
        go_upto_region 15 with (fail)
        have hX2 := hX.set (c / 8) (nth8 X (c / 8) ^^^ BitVec.twoPow 8 (c % 8))
        have bX2 : Below w1.heap.size w1 (wr.setCell ⟨w1.heap.size, c / 8, none⟩ (.int .u8 (Bits32.b (nth8 X (c / 8) ^^^ BitVec.twoPow 8 (c % 8))))) := bX.setCell (Nat.le_refl _) _
        generalize wr.setCell ⟨w1.heap.size, c / 8, none⟩ (.int .u8 (Bits32.b (nth8 X (c / 8) ^^^ BitVec.twoPow 8 (c % 8)))) = w4 at hX2 bX2 ⊢
        replace hX2 : Blk8 w4 w1.heap.size (turn X c) := hX2
        clear d1 d2 hX bX
        have HT : Hid (crc X ^^^ pow (8 * n + 31 - c) = crc (turn X c)) := by
          show _ = _
          rw [crc_turn X c (by rw [HX.out.1]; exact c1), HX.out.1]
        go_wp2_with fail
        refine (flipped_any n c _ (by omega) c1).mono ?_
        rintro e w5 ⟨rfl, rfl⟩
        go_wp2
        go_roundg (32 - (k + 1))
        case measure => have := HG.out; omega
        case rel =>
          refine ⟨k + 1, turn X c, by omega, rfl, by go_num, by rw [HB2.out], by rw [HT.out], hX2, bX2, by rw [turn_length]; exact HX.out.1, ?_⟩
          rw [← HT.out, HX.out.2, HB.out, ups_xor]
          unfold pow
          rw [ups_ups, BitVec.xor_assoc]
          have := HCC.out
          congr 3
          omega
      · have tb : (bits .and .u32 (Bits32.u m / 2 ^ k) 1 == 1) = false := by rw [Bits32.bit_test]; simpa using hb
        have HB := Lib.hid (low_unset m k hb)
        clear hb
        go_wp2
        go_roundg (32 - (k + 1))
        case measure => have := HG.out; omega
        case rel => exact ⟨k + 1, X, by omega, rfl, by go_num, by rw [HB.out], rfl, hX, bX, by rw [HB.out]; exact HX.out⟩
    · have bw : Below w.heap.size w wr := b1.trans (bX.mono b1.size)
      have htr := ht.below bw ht.lt
      have rx : Arg8 wr (.slice (some ⟨w1.heap.size, 0, none⟩) n n) X := hX.arg HX.out.1.symm hm
      replace r3 := r3.since (Nat.le_refl _) bw
      have hcr : (nz (low m k) = false ∧ crc X = crc l) ∨ (nz (low m k) = true ∧ (Bits32.u (crc X) == Bits32.u (crc l)) = false) := by
        by_cases hz : low m k = 0
        · refine Or.inl ⟨by rw [hz]; rfl, ?_⟩
          rw [HX.out.2, hz, ups_zero]; exact BitVec.xor_zero
        · refine Or.inr ⟨by unfold nz; exact bne_iff_ne.2 hz, ?_⟩
          rw [beq_eq_false_iff_ne]
          intro e
          have e := Bits32.u_inj _ _ e
          rw [HX.out.2] at e
          have e2 := congrArg (crc l ^^^ ·) e
          simp only [← BitVec.xor_assoc, BitVec.xor_self, BitVec.zero_xor] at e2
          exact hz (ups_inj0 _ _ e2)
      have hlen := Lib.hid HX.out.1
      clear HX HG
      have ht2 : (¬ k < 32) ∨ (k < 32 ∧ ¬ a + k < 8 * n) := by omega
      clear hlt
      have HZ : Hid (w.heap.size ≤ w1.heap.size) := b1.size
      rcases hcr with ⟨z1, z2⟩ | ⟨z1, z2⟩ <;> rcases ht2 with ht2 | ⟨ht2, ht3⟩
      all_goals
        first
        | (have y1 : decide ((k : Int) < 32) = false := by simp; omega)
        | (have y1 : decide ((k : Int) < 32) = true := by simp; omega
           have y2 : decide ((a : Int) + (k : Int) < 8 * (n : Int)) = false := by simp; omega)
        go_upto_region 17 with (fail)
        go_wp2_with fail
        refine (of_since htr rx (Below.refl _ _)).mono ?_
        rintro e w5 ⟨rfl, b5⟩
        go_wp2_with fail
        refine (of_since htr r3 b5).mono ?_
        rintro e w6 ⟨rfl, b6⟩
        obtain ⟨wo, rfl⟩ : ∃ wo : World, wo = wr := ⟨_, rfl⟩
        go_wp2_with fail
        go_loopg [12, 16] ml (fun g s12 s16 wx => ∃ (j : Nat) (Y : List (BitVec 8)), j ≤ ml ∧ g = ml - j ∧ s16 = .int .i64 (j : Int) ∧ s12 = .int .i64 (Bits32.u (crc Y)) ∧
          Blk8 wx w1.heap.size Y ∧ Below w1.heap.size w1 wx ∧ Hid (Y.length = n))
        case atStart => exact ⟨0, X, Nat.zero_le _, rfl, rfl, (by first | rfl | (rw [z2])), (b6.block _ hX.lt).trans hX, bX.trans (b6.mono bX.size), hlen.out⟩
        case round =>
          obtain ⟨j, Y, hj, hg, rfl, rfl, hY, bY, HY⟩ := hrel
          have HG := Lib.hid hg
          clear hg
          have bw2 : Below w.heap.size w wr := b1.trans (bY.mono HZ.out)
          by_cases hlt : j < ml
          · obtain ⟨mb, mo, z, rfl, hz, hmb⟩ := hmo.out j hlt
            replace hz : wr.cell? ⟨mb, mo + j, none⟩ = some (.int .i64 z) := (bw2.cell (p := ⟨mb, mo + j, none⟩) hmb).trans hz
            have j1 : (0 : Int) ≤ (j : Int) := by omega
            have j2 : (j : Int) < (ml : Int) := by omega
            obtain ⟨c, c1, hce⟩ := norm_in z (8 * n) (by omega) (by omega)
            have bi : (8 * (n : Int)) = ((8 * n : Nat) : Int) := by omega
            rw [← bi] at hce
            clear bi
            have c2 : (c : Int) / 8 < (n : Int) := by omega
            have c3 : (0 : Int) ≤ (c : Int) := by omega
            have d1 := hY.cell (i := c / 8) (by have := HY.out; omega)
            have d2 := hY.free (c / 8)
            go_upto_region 24 with (fail)
            have hX2 := hY.set (c / 8) (nth8 Y (c / 8) ^^^ BitVec.twoPow 8 (c % 8))
            have bX2 : Below w1.heap.size w1 (wr.setCell ⟨w1.heap.size, c / 8, none⟩ (.int .u8 (Bits32.b (nth8 Y (c / 8) ^^^ BitVec.twoPow 8 (c % 8))))) := bY.setCell (Nat.le_refl _) _
            generalize wr.setCell ⟨w1.heap.size, c / 8, none⟩ (.int .u8 (Bits32.b (nth8 Y (c / 8) ^^^ BitVec.twoPow 8 (c % 8)))) = w9 at hX2 bX2 ⊢
            replace hX2 : Blk8 w9 w1.heap.size (turn Y c) := hX2
            clear d1 d2 hY bY
            have HT : Hid (crc Y ^^^ pow (8 * n + 31 - c) = crc (turn Y c)) := by
              show _ = _
              rw [crc_turn Y c (by rw [HY.out]; exact c1), HY.out]
            go_wp2_with fail
            refine (flipped_any n c _ (by omega) c1).mono ?_
            rintro e w10 ⟨rfl, rfl⟩
            go_wp2
            go_roundg (ml - (j + 1))
            case measure => have := HG.out; omega
            case rel => exact ⟨j + 1, turn Y c, by omega, rfl, by go_num, by rw [HT.out], hX2, bX2, by rw [turn_length]; exact HY.out⟩
          · have htr2 := ht.below bw2 ht.lt
            have rx2 : Arg8 wr (.slice (some ⟨w1.heap.size, 0, none⟩) n n) Y := hY.arg HY.out.symm hm
            go_wp2_with fail
            refine (of_since htr2 rx2 (Below.refl _ _)).mono ?_
            rintro e w11 ⟨rfl, b11⟩
            go_wp2
            go_ret
            exact ⟨rfl, bw2.trans (b11.mono bw2.size)⟩

set_option maxRecDepth 100000 in
set_option maxHeartbeats 1000000 in
theorem bits_out (p pm : Option Addr) (cap n ml mc : Nat) (x : Int) (y : Int) (w : World) (ht : Tab w) (h : 2000 < n ∨ (n ≤ 2000 ∧ n = 0) ∨ (0 < n ∧ n ≤ 2000 ∧ 20 < ml)) :
    Calls Tryd.prog 5 #[.slice p n cap, .int .i64 x, .int .u32 y, .slice pm ml mc] w fun e w' => e = .returned (.bool true) ∧ Below w.heap.size w w' := by
  rcases h with h | ⟨h1, h2⟩ | ⟨h1, h2, h3⟩
  · have t1 : decide ((2000 : Int) < (n : Int)) = true := by simp; omega
    clear h
    go_enter Tryd.func5, Tryd.ntmps5
    go_wp2_with fail
    refine (first_any w ht).mono ?_
    rintro e w1 ⟨rfl, b1⟩
    go_wp2
    go_ret
    exact ⟨rfl, b1⟩
  · subst h2
    go_enter Tryd.func5, Tryd.ntmps5
    go_wp2_with fail
    refine (first_any w ht).mono ?_
    rintro e w1 ⟨rfl, b1⟩
    go_wp2
    go_ret
    exact ⟨rfl, b1⟩
  · have t1 : decide ((2000 : Int) < (n : Int)) = false := by simp; omega
    have t2 : ((n : Int) == 0) = false := by simp; omega
    have t3 : decide ((20 : Int) < (ml : Int)) = true := by simp; omega
    clear h1 h2 h3
    go_enter Tryd.func5, Tryd.ntmps5
    go_wp2_with fail
    refine (first_any w ht).mono ?_
    rintro e w1 ⟨rfl, b1⟩
    go_wp2
    go_ret
    exact ⟨rfl, b1⟩
theorem walk (a0 : Option Addr) (len0 cap0 : Nat) (z0 : List Int) (a1 a2 : Int) (a3 : Option Addr) (len3 cap3 : Nat) (z3 : List Int) (w : World) (w0 : IsRow .u8 w a0 len0 cap0 z0) (_w1 : (Lit.int .i64 a1).wf = true) (w2 : (Lit.int .u32 a2).wf = true) (w3 : IsRow .i64 w a3 len3 cap3 z3) (ht : Tab w) :
    Calls Tryd.prog 5 #[.slice a0 len0 cap0, .int .i64 a1, .int .u32 a2, .slice a3 len3 cap3] w fun e w' => e = .returned (.bool true) ∧ Below w.heap.size w w' := by
  obtain ⟨hm, h⟩ := w0.bytes
  obtain ⟨hm3, hc3, h3⟩ := w3.at
  by_cases h4 : 2000 < len0 ∨ (len0 ≤ 2000 ∧ len0 = 0) ∨ (0 < len0 ∧ len0 ≤ 2000 ∧ 20 < len3)
  · exact bits_out _ _ _ _ _ _ _ _ w ht h4
  · rcases h with h | ⟨bb, off, l, rfl, hl, hc, hr, hb⟩
    · omega
    · have e : a2 = Bits32.u (BitVec.ofInt 32 a2) := by
        have := bounds_u32 w2
        unfold Bits32.u
        rw [BitVec.toNat_ofInt]
        omega
      rw [e]
      refine bits_some bb off cap0 len0 l a1 _ a3 len3 cap3 w ht hr hb hl.symm (by omega) (by omega) hc (by omega) ?_
      intro j hj
      obtain ⟨mb, mo, z, e1, e2, e3, _⟩ := h3 j hj
      exact ⟨mb, mo, z, e1, e2, e3⟩
end Go.Proofs.YtakfbjalclnpmaaDoor.walkCrcBits
