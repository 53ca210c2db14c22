/- shaleref2.BinDivMod. By the verifier of shale. -/
import Derived.Test.YtcdhjmmkeiomaaaDoorRefMul
namespace Go.Proofs.YtcdhjmmkeiomaaaDoor.Bin
open Go Go.RowKit
set_option linter.unusedVariables false
/-- where the division stands: what is left is below x^j. -/
structure Divs (u v e j Q L : Nat) : Prop where
  sum : u = pm Q v ^^^ L
  low : L < 2 ^ j
  free : ∀ t, t + e < j → Q.testBit t = false
theorem Divs.skip {u v e i Q L : Nat} (h : Divs u v e (i + 1) Q L) (hb : L.testBit i = false) : Divs u v e i Q L :=
  ⟨h.sum, lt_of_bit h.low hb, fun t ht => h.free t (by omega)⟩
theorem Divs.next {u v e s Q L : Nat} (h : Divs u v e (e + s + 1) Q L) (hv : Deg v e) (hb : L.testBit (e + s) = true) : Divs u v e (e + s) (Q ^^^ 2 ^ s) (L ^^^ (v % 2 ^ (e + 1)) <<< s) := by
  rw [Nat.mod_eq_of_lt hv.2]
  refine ⟨?_, clear_top h.low hb (shl_deg hv s), fun t ht => ?_⟩
  · rw [pm_xor_left, pow_pm, xx, ← h.sum]
    rw [Nat.xor_self, Nat.xor_zero]
  · rw [Nat.testBit_xor, h.free t (by omega), Nat.testBit_two_pow_of_ne (by omega)]; rfl
theorem divs_end {u v e j Q L : Nat} (h : Divs u v e j Q L) (hv : Deg v e) (hj : j ≤ e) : IsDiv u v Q L :=
  isDiv_of_lt hv h.sum (Nat.lt_of_lt_of_le h.low (Nat.pow_le_pow_right (by decide) hj))
theorem top_lt (v : Nat) : v < 2 ^ topE v := by
  unfold topE
  split
  · rename_i h; rw [h]; decide
  · exact Nat.lt_log2_self
theorem q_lt {u v q r N : Nat} (h0 : v ≠ 0) (h : IsDiv u v q r) (hu : u < 2 ^ N) : q < 2 ^ N := by
  by_cases hq : q = 0
  · rw [hq]; exact Nat.two_pow_pos _
  · have hd := deg_pm (deg_of hq) _ v (deg_of h0)
    have hp0 : pm q v ≠ 0 := pm_ne hq h0
    have hle : (pm q v).log2 ≤ u.log2 ∧ u ≠ 0 := by
      rcases h.2 with h1 | ⟨i, j, d1, d2, hij⟩
      · have := h.1
        rw [h1, Nat.xor_zero] at this
        rw [this]; exact ⟨Nat.le_refl _, hp0⟩
      · have hdv := deg_pm (deg_of hq) _ v d2
        have hr : r < 2 ^ (q.log2 + j) := lt_of_deg d1 (by omega)
        have := top_xor (q.log2 + j) r (pm q v) hr hdv.1 hdv.2
        rw [Nat.xor_comm, ← h.1] at this
        have hdu : Deg u (q.log2 + j) := this
        rw [hdu.log2, hdv.log2]
        exact ⟨Nat.le_refl _, by have := hdu.pos; omega⟩
    have h2 := (Nat.log2_lt hle.2).2 hu
    exact lt_of_deg (deg_of hq) (by rw [hd.log2] at hle; omega)
set_option maxRecDepth 100000 in
set_option maxHeartbeats 1000000 in
theorem rdivV {w : World} {k k' : Nat} {a a' : Option Addr} {n c n' c' u v : Nat} (K : Nat) (h1 : PolV w k a n c u) (h2 : PolV w k' a' n' c' v) (hK : k ≤ K) (hK' : k' ≤ K) (hK2 : K ≤ 200) (h0 : v ≠ 0) :
    Calls Tryd.prog 29 #[.slice a n c, .slice a' n' c'] w fun e w' => ∃ a n c a' n' c' q r, e = .returned (.tuple #[.slice a n c, .slice a' n' c']) ∧ NewV w w' K a n c q ∧ NewV w w' K a' n' c' r ∧ IsDiv u v q r ∧ Below w.heap.size w w' := by
  have l1 := Nat.lt_of_lt_of_le h1.lt (room_mono hK)
  have l2 := Nat.lt_of_lt_of_le h2.lt (room_mono hK')
  have HRM : Hid (∀ q r, IsDiv u v q r → q < room K ∧ r < room K) := fun q r h => room_div h0 h l1 l2
  have HQL : Hid (∀ q r N, IsDiv u v q r → u < 2 ^ N → q < 2 ^ N) := fun q r N h hu => q_lt h0 h hu
  obtain ⟨X, p1, rfl, n1⟩ := h1
  obtain ⟨Y, p2, rfl, n2⟩ := h2
  have HP1 := Lib.hid p1
  have HP2 := Lib.hid p2
  have hl1 := p1.hlen
  have hl2 := p2.hlen
  obtain ⟨e', hd2, HE'⟩ := degZ_cast h0
  have HE := Lib.hid HE'
  have be : e' ≤ 1600 := by have := deg_len h0; rw [HE'.log2] at this; omega
  have hd := degZ_top (val X)
  have HT0 := Lib.hid (top_lt (val X))
  have bN : topE (val X) ≤ 1600 := by
    unfold topE
    split
    · omega
    · rename_i h; have := deg_len h; omega
  obtain ⟨N, hN⟩ : ∃ N, N = topE (val X) := ⟨_, rfl⟩
  rw [← hN] at hd HT0 bN
  have eM : max 0 (N : Int) = (N : Int) := by omega
  have hmk := made64 w N (by omega)
  rw [bitL_zero] at hmk
  have HB0 : Hid (Below w.heap.size w (w.alloc (obj64 (bitL 0 N)))) := (Below.refl _ _).alloc (Nat.le_refl _) _
  have HK0 : Hid (Blk64 (w.alloc (obj64 (bitL 0 N))) w.heap.size (bitL 0 N)) := Blk64.new w _
  clear p1 p2 hl1 hl2 h0 HE' hN l1 l2
  go_enter Tryd.func29, Tryd.ntmps29
  go_wp2_with fail
  refine (rdeg_any a n c X w HP1.out (by omega)).mono ?_
  rintro e w1 ⟨rfl, rfl⟩
  rw [hd]
  clear hd
  go_wp2_with fail
  refine (rdeg_any a' n' c' Y w HP2.out (by omega)).mono ?_
  rintro e w1 ⟨rfl, rfl⟩
  rw [hd2]
  clear hd2
  go_wp2_with fail
  go_loopg [9] N (fun gh s9 wx => ∃ (i : Nat), gh = N - i ∧ i ≤ N ∧ s9 = .int .i64 (i : Int) ∧ Blk64 wx w.heap.size (bitL (val X % 2 ^ i) N) ∧ Below w.heap.size w wx)
  case atStart => exact ⟨0, rfl, by omega, rfl, by rw [Nat.pow_zero, Nat.mod_one]; exact HK0.out, HB0.out⟩
  case round =>
    clear hmk
    obtain ⟨i, hg, hin, rfl, hk, hB⟩ := hrel
    have HG := Lib.hid hg
    clear hg
    by_cases hlt : i < N
    · have t1 : decide ((i : Int) ≤ (N : Int) - 1) = true := decide_eq_true (by omega)
      have x1 : (i : Int) < (N : Int) := by omega
      have x0 : (0 : Int) ≤ (i : Int) := by omega
      have c1 := hk.cell (i := i) (by rw [bitL_length]; exact hlt)
      have c2 := hk.free i
      have HS := Lib.hid (Blk64.lay hk (bitL_step (val X) N i))
      have HSB : Hid (Below w.heap.size w (wr.setCell ⟨w.heap.size, i, none⟩ (.int .i64 (bz ((val X).testBit i))))) := hB.setCell (p := ⟨w.heap.size, i, none⟩) (Nat.le_refl _) _
      have HPX := Lib.hid (HP1.out.below hB)
      have HBX := Lib.hid (bitZ_bz X i)
      clear hk hB
      go_wp2_with fail
      refine (rbit_any a n c X (i : Int) wr HPX.out (by omega)).mono ?_
      rintro e w1 ⟨rfl, rfl⟩
      rw [HBX.out]
      generalize bz ((val X).testBit i) = b3 at HS HSB ⊢
      go_wp2_with fail
      go_roundg (N - (i + 1))
      case measure => have := HG.out; omega
      case rel => exact ⟨i + 1, rfl, by omega, by go_num, HS.out, HSB.out⟩
    · obtain rfl : i = N := by omega
      have t1 : decide ((i : Int) ≤ (i : Int) - 1) = false := decide_eq_false (by omega)
      rw [Nat.mod_eq_of_lt HT0.out] at hk
      have hmk := made64 wr i (by omega)
      rw [bitL_zero] at hmk
      have hgl : w.heap.size < wr.heap.size := hk.lt
      have bl : Below wr.heap.size wr (wr.alloc (obj64 (bitL 0 i))) := (Below.refl _ _).alloc (Nat.le_refl _) _
      have HQ1 : Hid (Blk64 (wr.alloc (obj64 (bitL 0 i))) wr.heap.size (bitL 0 i)) := Blk64.new wr _
      have HQ2 : Hid (Blk64 (wr.alloc (obj64 (bitL 0 i))) w.heap.size (bitL (val X) i)) := Blk64.since hk bl
      have HQ3 : Hid (Below w.heap.size w (wr.alloc (obj64 (bitL 0 i)))) := hB.trans (bl.mono hB.size)
      have HDV : Hid (Divs (val X) (val Y) e' i 0 (val X)) := ⟨by rw [zero_pm, Nat.zero_xor], HT0.out, fun t _ => Nat.zero_testBit t⟩
      clear hk hB bl
      go_wp2_with fail
      clear hmk t1
      generalize wr.alloc (obj64 (bitL 0 i)) = w2 at HQ1 HQ2 HQ3 ⊢
      generalize wr.heap.size = gq at HQ1 hgl ⊢
      go_loopg [11, 12] i (fun gh s11 s12 wx => ∃ (j Q L : Nat), gh = j ∧ j ≤ i ∧ s11 = .int .i64 ((j : Int) - 1) ∧ Blk64 wx gq (bitL Q i) ∧ Blk64 wx w.heap.size (bitL L i) ∧ Hid (Divs (val X) (val Y) e' j Q L) ∧ Below w.heap.size w wx)
      case atStart => exact ⟨i, 0, val X, rfl, Nat.le_refl _, rfl, HQ1.out, HQ2.out, HDV.out, HQ3.out⟩
      case round =>
        clear HQ1 HQ2 HQ3 HDV
        obtain ⟨j, Q, L, hg, hji, rfl, hq, hl, HD, hB⟩ := hrel
        have HG2 := Lib.hid hg
        clear hg
        by_cases hje : e' < j
        · obtain ⟨s, hs⟩ : ∃ s, j = e' + s + 1 := ⟨j - e' - 1, by omega⟩
          obtain ⟨m, hm⟩ : ∃ m, m = e' + s := ⟨_, rfl⟩
          obtain rfl : j = m + 1 := by omega
          have hmi : m < i := by omega
          rw [show ((m + 1 : Nat) : Int) - 1 = (m : Int) by omega]
          have t1 : decide ((e' : Int) ≤ (m : Int)) = true := decide_eq_true (by omega)
          have t1n : decide (e' ≤ m) = true := decide_eq_true (by omega)
          have x1 : (m : Int) < (i : Int) := by omega
          have x0 : (0 : Int) ≤ (m : Int) := by omega
          have es : (m : Int) - (e' : Int) = (s : Int) := by omega
          have hsi : s < i := by omega
          have y1 : (s : Int) < (i : Int) := by omega
          have y0 : (0 : Int) ≤ (s : Int) := by omega
          have hgl2 := hl.lt
          have c1 := hl.cell (i := m) (by rw [bitL_length]; exact hmi)
          rw [nth_bitL _ _ _ hmi] at c1
          have HMS := Lib.hid hm
          clear hs hm
          rcases Bool.eq_false_or_eq_true (L.testBit m) with hb | hb
          · rw [hb] at c1
            replace c1 : wr.cell? ⟨w.heap.size, m, none⟩ = some (.int .i64 1) := c1
            have HN : Hid (Divs (val X) (val Y) e' m (Q ^^^ 2 ^ s) (L ^^^ (val Y % 2 ^ (e' + 1)) <<< s)) := by
              have h := HD.out
              have h2 := HMS.out
              subst h2
              exact h.next HE.out hb
            have hqb : Q.testBit s = false := HD.out.free s (by have := HMS.out; omega)
            have d1 := hq.cell (i := s) (by rw [bitL_length]; exact hsi)
            have d2 := hq.free s
            have HQN := Lib.hid (Blk64.lay hq (bitL_one Q i s hqb))
            have HLN : Hid (Blk64 (wr.setCell ⟨gq, s, none⟩ (.int .i64 1)) w.heap.size (bitL L i)) := by
              show (wr.setCell ⟨gq, s, none⟩ (.int .i64 1)).heap[w.heap.size]? = _
              rw [Below.heap_setCell _ _ _ _ (by show w.heap.size ≠ gq; omega)]
              exact hl
            have HBN : Hid (Below w.heap.size w (wr.setCell ⟨gq, s, none⟩ (.int .i64 1))) := hB.setCell (p := ⟨gq, s, none⟩) (by show w.heap.size ≤ gq; omega) _
            clear hq hl hB HD hb hqb hje
            go_wp2_with fail
            generalize wr.setCell ⟨gq, s, none⟩ (.int .i64 1) = w4 at HQN HLN HBN ⊢
            clear c1 d1 d2
            go_loopg [12] (e' + 1) (fun gh s12 wx => ∃ (k : Nat), gh = e' + 1 - k ∧ k ≤ e' + 1 ∧ s12 = .int .i64 (k : Int) ∧ Blk64 wx gq (bitL (Q ^^^ 2 ^ s) i) ∧ Blk64 wx w.heap.size (bitL (L ^^^ (val Y % 2 ^ k) <<< s) i) ∧ Below w.heap.size w wx)
            case atStart => exact ⟨0, rfl, by omega, rfl, HQN.out, by rw [Nat.pow_zero, Nat.mod_one, shl_zero, Nat.xor_zero]; exact HLN.out, HBN.out⟩
            case round =>
              clear HQN HLN HBN
              obtain ⟨k, hg, hkn, rfl, hq, hl, hB⟩ := hrel
              have HG3 := Lib.hid hg
              clear hg
              by_cases hlt2 : k < e' + 1
              · have y1 : decide ((k : Int) ≤ (e' : Int)) = true := decide_eq_true (by omega)
                have y0 : (0 : Int) ≤ (k : Int) := by omega
                have hikN : s + k < i := by have := HMS.out; omega
                have hq : Blk64 wr.drew gq (bitL (Q ^^^ 2 ^ s) i) := hq
                have hl : Blk64 wr.drew w.heap.size (bitL (L ^^^ (val Y % 2 ^ k) <<< s) i) := hl
                have hB : Below w.heap.size w wr.drew := Below.drew hB
                go_wp2_with fail
                refine wp_region_still_tail 19 (by kernel_rfl) (by kernel_rfl) ?_
                simp only [List.take_succ_cons, List.take_zero, List.drop_succ_cons, List.drop_zero]
                change wpStill _ _ wr.drew (fun a' => wpList _ _ _ _ a' wr.drew) _ _
                generalize wr.drew = w2 at hq hl hB ⊢
                have c1 := hl.cell (i := s + k) (by rw [bitL_length]; exact hikN)
                rw [nth_bitL _ _ _ hikN] at c1
                have c2 := hl.free (s + k)
                have ex := bz_xor ((L ^^^ (val Y % 2 ^ k) <<< s).testBit (s + k)) ((val Y).testBit k)
                have HS := Lib.hid (Blk64.lay hl (mul_step L (val Y) i s k))
                have HSB : Hid (Below w.heap.size w (w2.setCell ⟨w.heap.size, s + k, none⟩ (.int .i64 (bz ((L ^^^ (val Y % 2 ^ k) <<< s).testBit (s + k) ^^ (val Y).testBit k))))) := hB.setCell (p := ⟨w.heap.size, s + k, none⟩) (Nat.le_refl _) _
                have HSQ : Hid (Blk64 (w2.setCell ⟨w.heap.size, s + k, none⟩ (.int .i64 (bz ((L ^^^ (val Y % 2 ^ k) <<< s).testBit (s + k) ^^ (val Y).testBit k)))) gq (bitL (Q ^^^ 2 ^ s) i)) := by
                  show (w2.setCell _ _).heap[gq]? = _
                  rw [Below.heap_setCell _ _ _ _ (by show gq ≠ w.heap.size; omega)]
                  exact hq
                have HPY := Lib.hid (HP2.out.below hB)
                have HBY := Lib.hid (bitZ_bz Y k)
                have i4 : (s : Int) + (k : Int) < (i : Int) := by omega
                have i5 : (0 : Int) ≤ (s : Int) + (k : Int) := by omega
                have i2 : ((s : Int) + (k : Int)).toNat = s + k := by omega
                have i0 : IntKind.i64.wrap (s : Int) = (s : Int) := IntWalk.i64_in _ (by omega)
                have i1 : IntKind.i64.wrap ((s : Int) + (k : Int)) = (s : Int) + (k : Int) := IntWalk.i64_in _ (by omega)
                generalize bz ((L ^^^ (val Y % 2 ^ k) <<< s).testBit (s + k) ^^ (val Y).testBit k) = b3 at ex HS HSB HSQ
                generalize bz ((L ^^^ (val Y % 2 ^ k) <<< s).testBit (s + k)) = b1 at c1 ex
                clear hq hl hB hlt2
                repeat still_step
                still_call ((rbit_any a' n' c' Y (k : Int) w2 HPY.out (by omega)).mono fun _ _ h => ⟨h.1, h.2.symm⟩)
                rw [HBY.out]
                generalize bz ((val Y).testBit k) = b2 at ex ⊢
                repeat still_step
                refine wpStill_nil ?_
                go_wp2_with fail
                go_roundg (e' + 1 - (k + 1))
                case measure => have := HG3.out; omega
                case rel => exact ⟨k + 1, rfl, by omega, by go_num, HSQ.out, HS.out, HSB.out⟩
              · obtain rfl : k = e' + 1 := by omega
                have y1 : decide (((e' + 1 : Nat) : Int) ≤ (e' : Int)) = false := decide_eq_false (by omega)
                go_wp2_with fail
                go_roundg m
                case measure => have := HG2.out; omega
                case rel => exact ⟨m, _, _, rfl, by omega, by go_num, hq, hl, HN.out, hB⟩
          · rw [hb] at c1
            replace c1 : wr.cell? ⟨w.heap.size, m, none⟩ = some (.int .i64 0) := c1
            have HN := Lib.hid (HD.out.skip hb)
            clear hb hje HD
            go_wp2_with fail
            go_roundg m
            case measure => have := HG2.out; omega
            case rel => exact ⟨m, Q, L, rfl, by omega, by go_num, hq, hl, HN.out, hB⟩
        · have t1 : decide ((e' : Int) ≤ (j : Int) - 1) = false := decide_eq_false (by omega)
          have HI := Lib.hid (divs_end HD.out HE.out (by omega))
          clear HD hje
          go_wp2_with fail
          refine (bits_any gq i i Q wr hq (by omega)).mono ?_
          rintro e w5 ⟨a3, n3, c3, Z, rfl, hZ, bZ, vZ, b5⟩
          have hq2 : Q < 2 ^ i := HQL.out Q L i HI.out HT0.out
          have hv2 : val Z = Q := vZ.trans (Nat.mod_eq_of_lt hq2)
          have hr2 : Q < room K := (HRM.out Q L HI.out).1
          have hF := newV (hZ.from hB.size) bZ hv2 K hr2
          have hl := Blk64.since hl b5
          have hB2 := hB.trans (b5.mono hB.size)
          clear hZ bZ vZ hB hq
          go_wp2_with fail
          refine (bits_any w.heap.size i i L w5 hl (by omega)).mono ?_
          rintro e w6 ⟨a4, n4, c4, R, rfl, hR, bR, vR, b6⟩
          have hr : L < 2 ^ i := by
            rcases HI.out.2 with h | ⟨x, y, d1, d2, hxy⟩
            · rw [h]; exact Nat.two_pow_pos i
            · have h4 := HI.out.1
              by_cases hQ : Q = 0
              · rw [hQ, zero_pm, Nat.zero_xor] at h4; rw [← h4]; exact HT0.out
              · have h5 : pm Q (val Y) = val X ^^^ L := by rw [h4, Nat.xor_assoc, Nat.xor_self, Nat.xor_zero]
                have d3 := deg_pm (deg_of hQ) _ _ d2
                have h6 := top_xor (Q.log2 + y) L _ (lt_of_deg d1 (by omega)) d3.1 d3.2
                rw [Nat.xor_comm, ← h4] at h6
                have h7 := HT0.out
                have : Q.log2 + y < i := (Nat.pow_lt_pow_iff_right (a := 2) (by decide)).1 (Nat.lt_of_le_of_lt h6.1 h7)
                exact lt_of_deg d1 (by omega)
          have hF2 := newV (hR.from hB2.size) bR (vR.trans (Nat.mod_eq_of_lt hr)) K (HRM.out _ _ HI.out).2
          have hF1 : NewV w w6 K a3 n3 c3 Q := by
            obtain ⟨X3, q1, q2, q3, q4⟩ := hF
            exact ⟨X3, q1.since b6, q2, q3, q4⟩
          have hB3 := hB2.trans (b6.mono hB2.size)
          clear hR bR vR hB2 hl hF b5 b6 hr
          go_wp2_with fail
          go_ret2
          exact ⟨a3, n3, c3, a4, n4, c4, Q, L, rfl, hF1, hF2, HI.out, hB3⟩
end Go.Proofs.YtcdhjmmkeiomaaaDoor.Bin
