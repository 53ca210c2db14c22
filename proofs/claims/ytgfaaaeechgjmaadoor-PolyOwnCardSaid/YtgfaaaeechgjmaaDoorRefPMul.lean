/- The statements' own polynomials (shaleref2): Times. By the verifier of shale. -/
import Derived.Test.YtgfaaaeechgjmaaDoorRefPAdd
import Derived.Test.YtgfaaaeechgjmaaDoorQuietTail
namespace Go.Proofs.YtgfaaaeechgjmaaDoor.Pl
open Go Go.RowKit Fld Bits16
set_option linter.unusedVariables false
section
variable {m : Nat} [M : Mid m]
set_option maxRecDepth 100000 in
set_option maxHeartbeats 1000000 in
theorem rtimes_any (a1 : Option Addr) (n1 c1 : Nat) (l1 : List Int) (a2 : Option Addr) (n2 c2 : Nat) (l2 : List Int) (w : World) (h1 : RowZ w a1 n1 c1 l1) (h2 : RowZ w a2 n2 c2 l2) (k1 : n1 ≤ 100000) (k2 : n2 ≤ 100000) :
    Calls Tryd.prog 19 #[.int .i64 (m : Int), .slice a1 n1 c1, .slice a2 n2 c2] w
      fun e w' => ∃ a' n' cap', e = .returned (.slice a' n' cap') ∧ ROut m w w' a' n' cap' (cv (sr m l1) (sr m l2)) ∧ Below w.heap.size w w' := by
  have HP1 := Lib.hid h1
  have HP2 := Lib.hid h2
  have hb1 : Bd (sr m l1) n1 := by have := sr_bd (m := m) l1; rwa [← h1.hlen] at this
  have hb2 : Bd (sr m l2) n2 := by have := sr_bd (m := m) l2; rwa [← h2.hlen] at this
  have ht1 := top_le (sr m l1) n1
  have ht2 := top_le (sr m l2) n2
  have HB1 := Lib.hid hb1
  have HB2 := Lib.hid hb2
  clear h1 h2 hb1 hb2
  go_enter Tryd.func19, Tryd.ntmps19
  go_wp2_with fail
  refine (rtrim_any (m := m) a1 n1 c1 l1 w HP1.out (by omega)).mono ?_
  rintro e w1 ⟨p1, N1, d1, rfl, hO1, b1⟩
  go_wp2_with fail
  refine (rtrim_any (m := m) a2 n2 c2 l2 w1 (HP2.out.below b1) (by omega)).mono ?_
  rintro e w2 ⟨p2, N2, d2, rfl, hO2, b2⟩
  have hN1 : N1 ≤ n1 := by rw [hO1.len HB1.out]; exact ht1
  have hN2 : N2 ≤ n2 := by rw [hO2.len HB2.out]; exact ht2
  replace hO1 := hO1.since b2
  have HO1 := Lib.hid hO1
  have HO2 := Lib.hid hO2
  have HB12 := Lib.hid (b1.trans (b2.mono b1.size))
  clear hO1 hO2 b1 b2
  generalize hPe : sr m l1 = P at HO1 HB1 ht1
  generalize hQe : sr m l2 = Q at HO2 HB2 ht2
  have HPe := Lib.hid hPe
  have HQe := Lib.hid hQe
  clear hPe hQe
  obtain ⟨N, hN⟩ : ∃ N, N = N1 + N2 := ⟨_, rfl⟩
  have hNm : N ≤ 1000000 := by omega
  have hmk := made64 w2 N hNm
  rw [nums_pz (m := m)] at hmk
  have HK0 : Hid (Blk64 (w2.alloc (obj64 (nums (pz : Ser (El m)) N))) w2.heap.size (nums (pz : Ser (El m)) N)) := Blk64.new w2 _
  have HB0 : Hid (Below w2.heap.size w2 (w2.alloc (obj64 (nums (pz : Ser (El m)) N)))) := (Below.refl _ _).alloc (Nat.le_refl _) _
  have hsum : (N1 : Int) + (N2 : Int) = (N : Int) := by omega
  have HN := Lib.hid hN
  clear hN
  go_wp2_with fail
  clear hmk hsum
  generalize w2.alloc (obj64 (nums (pz : Ser (El m)) N)) = w3 at HK0 HB0 ⊢
  go_loopg [8] N1 (fun gh s8 wx => ∃ (i : Nat), gh = N1 - i ∧ i ≤ N1 ∧ s8 = .int .i64 (i : Int) ∧ Blk64 wx w2.heap.size (nums (cv (cutS P i) Q) N) ∧ Below w2.heap.size w2 wx)
  case atStart => exact ⟨0, rfl, Nat.zero_le _, rfl, by rw [cutS_zero, cv_zero]; exact HK0.out, HB0.out⟩
  case round =>
    clear HK0 HB0
    obtain ⟨i, hg, hin, rfl, hk, hB⟩ := hrel
    have HG := Lib.hid hg
    clear hg
    by_cases hlt : i < N1
    · have x0 : (0 : Int) ≤ (i : Int) := by omega
      have x1 : (i : Int) < (N1 : Int) := by omega
      have HK := Lib.hid hk
      have HB := Lib.hid hB
      clear hk hB
      go_wp2_with fail
      obtain ⟨W0, rfl⟩ : ∃ W0, W0 = wr := ⟨_, rfl⟩
      go_loopg [9] N2 (fun gh s9 wx => ∃ (j : Nat), gh = N2 - j ∧ j ≤ N2 ∧ s9 = .int .i64 (j : Int) ∧ Blk64 wx w2.heap.size (nums (padd (cv (cutS P i) Q) (cv (mono i (P i)) (cutS Q j))) N) ∧ Below w2.heap.size w2 wx)
      case atStart => exact ⟨0, rfl, Nat.zero_le _, rfl, by rw [cutS_zero, zero_cv, padd_zero]; exact HK.out, HB.out⟩
      case round =>
        clear HK HB
        obtain ⟨j, hg, hjn, rfl, hk, hB⟩ := hrel
        have HG2 := Lib.hid hg
        clear hg
        by_cases hlj : j < N2
        · have y0 : (0 : Int) ≤ (j : Int) := by omega
          have y1 : (j : Int) < (N2 : Int) := by omega
          obtain ⟨K, hK⟩ : ∃ K, K = i + j := ⟨_, rfl⟩
          have hKN : K < N := by have := HN.out; omega
          have z0 : (0 : Int) ≤ (K : Int) := by omega
          have z1 : (K : Int) < (N : Int) := by omega
          have hKe : (i : Int) + (j : Int) = (K : Int) := by omega
          obtain ⟨bb1, o1, rfl, d1', _⟩ := (HO1.out.row.below hB).row i hlt
          obtain ⟨bb2, o2, rfl, d2', _⟩ := (HO2.out.row.below hB).row j hlj
          rw [nums_at P N1 i hlt] at d1'
          rw [nums_at Q N2 j hlj] at d2'
          have d1' := cell_regrown d1'
          have d2' := cell_regrown d2'
          have c3 := hk.cell (i := K) (by rw [nums_length]; exact hKN)
          rw [show nth64 (nums (padd (cv (cutS P i) Q) (cv (mono i (P i)) (cutS Q j))) N) K = zn (padd (cv (cutS P i) Q) (cv (mono i (P i)) (cutS Q j)) K) from nums_at _ _ _ hKN] at c3
          have c3' := cell_regrown c3
          have HM : Hid (∀ q os, Calls Tryd.prog 32 #[.int .i64 (m : Int), .int .i64 (zn (P i)), .int .i64 (zn (Q j))] (Sort.grow (redrawn wr q) os) fun e w'' => e = .returned (.int .i64 (zn (P i * Q j))) ∧ ∃ p : Regrown, w'' = Sort.grow (redrawn wr p.d) p.os) := fun q os => Calls.regrown_of (rmul_zz _ _ _)
          have hv : bits .xor .i64 (zn (padd (cv (cutS P i) Q) (cv (mono i (P i)) (cutS Q j)) K)) (zn (P i * Q j)) = zn (padd (cv (cutS P i) Q) (cv (mono i (P i)) (cutS Q (j + 1))) K) := by
            rw [zn_add, hK, times_new, Fl.mul_comm (P i)]
          have HSET : Hid ((nums (padd (cv (cutS P i) Q) (cv (mono i (P i)) (cutS Q j))) N).set K (zn (padd (cv (cutS P i) Q) (cv (mono i (P i)) (cutS Q (j + 1))) K)) = nums (padd (cv (cutS P i) Q) (cv (mono i (P i)) (cutS Q (j + 1)))) N) :=
            nums_set _ _ N K (fun x hx => times_at _ Q (P i) i j x (by rw [← hK]; exact hx))
          generalize zn (padd (cv (cutS P i) Q) (cv (mono i (P i)) (cutS Q (j + 1))) K) = v1 at hv HSET
          generalize zn (padd (cv (cutS P i) Q) (cv (mono i (P i)) (cutS Q j)) K) = v0 at hv c3 c3'
          generalize zn (P i * Q j) = v2 at hv HM
          have HK := Lib.hid hk
          have HB := Lib.hid hB
          have c4 := hk.free K
          clear hk hB hK
          go_wp2_with fail
          refine wp_region_quiet_tail (C := fun w' => ∃ p : Regrown, w' = Sort.grow (redrawn wr p.d) p.os) 21 (by kernel_rfl) (by kernel_rfl) (regrown0 wr) ?_
          simp only [List.take_succ_cons, List.take_zero, List.drop_succ_cons, List.drop_zero]
          repeat (go_big_quiet_step (first | (go_at_call 32; with_reducible exact HM.out _ _)))
          refine wpQuiet_nil ?_
          rintro _ ⟨⟨dq, osq⟩, rfl⟩
          have b9 := below_regrown wr dq osq
          have hk := (b9.block _ HK.out.lt).trans HK.out
          have hB := HB.out.trans (b9.mono HB.out.size)
          have c3 := c3' dq osq
          change Blk64 _ _ _ at hk
          have c4 := hk.free K
          clear b9 HM d1' d2' c3' HK HB
          generalize Sort.grow (redrawn wr dq) osq = w9 at hk hB c3 c4 ⊢
          have hs := hk.set K v1
          rw [HSET.out] at hs
          have U8 : Upd w2.heap.size w9 (w9.setCell ⟨w2.heap.size, K, none⟩ (.int .i64 v1)) := (Upd.refl _ w9).only (Only.setCell _ ⟨w2.heap.size, K, none⟩ _)
          have HB9 := Lib.hid (hB.trans (U8.toBelow (Nat.le_refl _) hB.size))
          have HS9 := Lib.hid hs
          clear hk hB hs U8 HSET
          go_wp2_with fail
          clear c3 c4 hv hKe
          generalize w9.setCell ⟨w2.heap.size, K, none⟩ (.int .i64 v1) = wq at HS9 HB9 ⊢
          go_wp2_with fail
          go_roundg (N2 - (j + 1))
          case measure => have := HG2.out; omega
          case rel => exact ⟨j + 1, rfl, by omega, by go_num, HS9.out, HB9.out⟩
        · obtain rfl : j = N2 := by omega
          rw [cutS_all HO2.out.bd, mul_step] at hk
          have HK := Lib.hid hk
          clear hk
          go_wp2_with fail
          go_roundg (N1 - (i + 1))
          case measure => have := HG.out; omega
          case rel => exact ⟨i + 1, rfl, by omega, by go_num, HK.out, hB⟩
    · obtain rfl : i = N1 := by omega
      rw [cutS_all HO1.out.bd] at hk
      have hrow := Blk64.rowz hk (by rw [nums_length]; exact hNm)
      rw [nums_length] at hrow
      have HRow := Lib.hid hrow
      have HBw := Lib.hid (HB12.out.trans (hB.mono HB12.out.size))
      have HS : Hid (sr m (nums (cv P Q) N) = cv P Q) := sr_nums ((bd_cv HO1.out.bd HO2.out.bd).mono (by have := HN.out; omega))
      clear hk hrow hB
      go_wp2_with fail
      refine (rtrim_any (m := m) _ N N _ wr HRow.out hNm).mono ?_
      rintro e w5 ⟨a', n', cap', rfl, hO, hb⟩
      rw [HS.out] at hO
      have HO := Lib.hid (hO.from HBw.out.size)
      have HB5 := Lib.hid (HBw.out.trans (hb.mono HBw.out.size))
      clear hO hb
      go_wp2_with fail
      go_ret
      exact ⟨_, _, _, rfl, by rw [HPe.out, HQe.out]; exact HO.out, HB5.out⟩
end
end Go.Proofs.YtgfaaaeechgjmaaDoor.Pl
