/- The walk over DecodeSpare. By the verifier of shale. -/
import Derived.Test.YthmfneepnkgmgaaGreatDoorGreat1
import Derived.Test.YthmfneepnkgmgaaGreatDoorGreat2
import Derived.Test.YthmfneepnkgmgaaGreatDoorGreat3
import Derived.Test.YthmfneepnkgmgaaGreatDoorGreat4
import Derived.Test.YthmfneepnkgmgaaGreatDoorGreat5
import Derived.Test.YthmfneepnkgmgaaGreatDoorGreat6
import Derived.Test.YthmfneepnkgmgaaGreatDoorLaidDecodeSpare
import Derived.Deep.Cut
import Derived.Deep.RegionWith
namespace Go.Proofs.YthmfneepnkgmgaaGreatDoor.walkDecodeSpare
open Go Go.RowKit Bin Pl Cos Enc Syn Loc Sea Dec
set_option linter.unusedVariables false
attribute [local go_sem] Dec.bor8 Dec.bor_bit
set_option maxRecDepth 100000 in
set_option maxHeartbeats 4000000 in
theorem core (z1 z2 z3 : Int) (a : Option Addr) (na ca : Nat) (l : List (BitVec 8)) (a' : Option Addr) (nb cb : Nat) (l' : List (BitVec 8)) (mask : BitVec 8) (w : World) (yc ym yz : Addr)
    (EC : ErrAt w 3 yc) (EM : ErrAt w 1 ym) (EZ : ErrAt w 5 yz) (A1 : Pol w a na ca l) (A2 : Pol w a' nb cb l') :
    Calls Tryz.prog 3 #[.int .i64 z1, .int .i64 z2, .int .i64 z3, .slice a na ca, .slice a' nb cb, .int .u8 (Bits32.b mask)] w fun e w' => e = .returned (.bool true) ∧ Below w.heap.size w w' := by
  go_enter Tryz.func3, Tryz.ntmps3
  go_wp2_with fail
  refine (firstD_any w EC EM EZ).mono ?_
  rintro e w1 ⟨rfl, b⟩
  have B := b
  replace EC := EC.below b
  replace EM := EM.below b
  replace EZ := EZ.below b
  replace A1 := A1.below b
  replace A2 := A2.below b
  clear b
  go_wp2_with fail
  refine (madeD_any z1 z2 z3 w1 yc EC).mono ?_
  rintro e w2 ⟨m, t, n, M, s, db, ga, gn, gc, hm5, hm8, ht5, hn12, hmay, rfl, DA, C, G, b⟩
  haveI := M
  replace EC := EC.below b
  replace EM := EM.below b
  replace EZ := EZ.below b
  replace A1 := A1.below b
  replace A2 := A2.below b
  replace B := B.trans (b.mono B.size)
  clear b
  clear G EC
  have ht1 := hmay.t1
  have ht40 := hmay.t2
  have hn1 := hmay.n1
  have hn2 := hmay.n2
  have hroom := hmay.room
  have hDpos := deg_pos M.lo ht1
  have hD40 : deg m t ≤ 40 := by
    have h1 := deg_le M.lo t
    have h2 : m * t ≤ 8 * 5 := Nat.mul_le_mul hm8 ht5
    omega
  have hRm : 8 * n + deg m t ≤ Fld.size m := hroom
  have hP0 : pb (deg m t) = (deg m t + 7) / 8 := rfl
  have hP8 : pb (deg m t) ≤ 5 := by omega
  have hP1 : 0 < pb (deg m t) := by omega
  clear hP0
  go_wp2_with fail
  generalize hw : w2.alloc (.cells #[.int .i64 (m : Int), .int .i64 (t : Int), .int .i64 (n : Int), .slice ga gn gc, .int .i64 (deg m t : Int)] 26 (0, 0)) = w3
  obtain ⟨K, b⟩ := newCd w2 w3 _ _ _ _ _ hw
  clear hw
  replace DA := keepB DA b
  replace EM := EM.below b
  replace EZ := EZ.below b
  replace A1 := A1.below b
  replace A2 := A2.below b
  replace C := C.below b
  replace B := B.trans (b.mono B.size)
  clear b
  obtain ⟨bq, hbq⟩ : ∃ bq, bq = w2.heap.size := ⟨_, rfl⟩
  rw [← hbq] at K ⊢
  clear hbq
  refine (fitD_any a na ca l n (by omega) w3 A1).mono ?_
  rintro e w4 ⟨rfl, Z1, b⟩
  have hfZ1 := fitL_length l n
  generalize fitL l n = X at Z1 hfZ1
  obtain ⟨gZ1, hgZ1⟩ : ∃ gZ1, gZ1 = w3.heap.size := ⟨_, rfl⟩
  rw [← hgZ1] at Z1 ⊢
  clear hgZ1
  clear A1
  replace DA := keepB DA b
  replace EM := EM.below b
  replace EZ := EZ.below b
  replace A2 := A2.below b
  replace C := C.below b
  replace K := keepB K b
  replace B := B.trans (b.mono B.size)
  clear b
  obtain ⟨c0, c1, c2, c3, c4, _⟩ := cd_cells K
  go_upto_region 6 with (fail)
  clear c0 c1 c2 c3 c4
  have hlA := lt_of_block K
  have HS6 : Hid (∀ w', Below w4.heap.size w4 w' → (w'.cell? ⟨bq, 0, none⟩ = some (.int .i64 (m : Int)) ∧ w'.cell? ⟨bq, 1, none⟩ = some (.int .i64 (t : Int)) ∧ w'.cell? ⟨bq, 2, none⟩ = some (.int .i64 (n : Int)) ∧ w'.cell? ⟨bq, 3, none⟩ = some (.slice ga gn gc) ∧ w'.cell? ⟨bq, 4, none⟩ = some (.int .i64 (deg m t : Int)) ∧ Below w4.heap.size w4 w')) := fun w' b => by
    obtain ⟨c0, c1, c2, c3, c4, _⟩ := cd_cells ((b.block bq hlA).trans K)
    exact ⟨c0, c1, c2, c3, c4, b⟩
  have HP6 : Hid (∀ w', (w'.cell? ⟨bq, 0, none⟩ = some (.int .i64 (m : Int)) ∧ w'.cell? ⟨bq, 1, none⟩ = some (.int .i64 (t : Int)) ∧ w'.cell? ⟨bq, 2, none⟩ = some (.int .i64 (n : Int)) ∧ w'.cell? ⟨bq, 3, none⟩ = some (.slice ga gn gc) ∧ w'.cell? ⟨bq, 4, none⟩ = some (.int .i64 (deg m t : Int)) ∧ Below w4.heap.size w4 w') → Calls Tryz.prog 14 #[cdV m t n ga gn gc (deg m t)] w' fun e w'' => e = .returned (.int .i64 (pb (deg m t) : Int)) ∧ (w''.cell? ⟨bq, 0, none⟩ = some (.int .i64 (m : Int)) ∧ w''.cell? ⟨bq, 1, none⟩ = some (.int .i64 (t : Int)) ∧ w''.cell? ⟨bq, 2, none⟩ = some (.int .i64 (n : Int)) ∧ w''.cell? ⟨bq, 3, none⟩ = some (.slice ga gn gc) ∧ w''.cell? ⟨bq, 4, none⟩ = some (.int .i64 (deg m t : Int)) ∧ Below w4.heap.size w4 w'')) := fun w' hs => (rparity_any m t n ga gn gc (deg m t) (by omega) w').mono fun e w'' h => ⟨h.1, HS6.out w'' (hs.2.2.2.2.2.trans (h.2.mono hs.2.2.2.2.2.size))⟩
  have HF6 : Hid (∀ w', (w'.cell? ⟨bq, 0, none⟩ = some (.int .i64 (m : Int)) ∧ w'.cell? ⟨bq, 1, none⟩ = some (.int .i64 (t : Int)) ∧ w'.cell? ⟨bq, 2, none⟩ = some (.int .i64 (n : Int)) ∧ w'.cell? ⟨bq, 3, none⟩ = some (.slice ga gn gc) ∧ w'.cell? ⟨bq, 4, none⟩ = some (.int .i64 (deg m t : Int)) ∧ Below w4.heap.size w4 w') → Calls Tryz.prog 12 #[.slice a' nb cb, .int .i64 (pb (deg m t) : Int)] w' fun e w'' => ∃ g Y, e = .returned (.slice (some ⟨g, 0, none⟩) (pb (deg m t)) (pb (deg m t))) ∧ (w''.cell? ⟨bq, 0, none⟩ = some (.int .i64 (m : Int)) ∧ w''.cell? ⟨bq, 1, none⟩ = some (.int .i64 (t : Int)) ∧ w''.cell? ⟨bq, 2, none⟩ = some (.int .i64 (n : Int)) ∧ w''.cell? ⟨bq, 3, none⟩ = some (.slice ga gn gc) ∧ w''.cell? ⟨bq, 4, none⟩ = some (.int .i64 (deg m t : Int)) ∧ Below w4.heap.size w4 w'') ∧ Pol w'' (some ⟨g, 0, none⟩) (pb (deg m t)) (pb (deg m t)) Y) := fun w' hs => (fitD_any a' nb cb l' (pb (deg m t)) (by omega) w' (A2.below hs.2.2.2.2.2)).mono fun e w'' h => ⟨_, _, h.1, HS6.out w'' (hs.2.2.2.2.2.trans (h.2.2.mono hs.2.2.2.2.2.size)), blk_pol h.2.1 (fitL_length l' _).symm (by omega)⟩
  have HC6 : Hid (∀ w' g Y, (w'.cell? ⟨bq, 0, none⟩ = some (.int .i64 (m : Int)) ∧ w'.cell? ⟨bq, 1, none⟩ = some (.int .i64 (t : Int)) ∧ w'.cell? ⟨bq, 2, none⟩ = some (.int .i64 (n : Int)) ∧ w'.cell? ⟨bq, 3, none⟩ = some (.slice ga gn gc) ∧ w'.cell? ⟨bq, 4, none⟩ = some (.int .i64 (deg m t : Int)) ∧ Below w4.heap.size w4 w') → Pol w' (some ⟨g, 0, none⟩) (pb (deg m t)) (pb (deg m t)) Y → Calls Tryz.prog 13 #[cdV m t n ga gn gc (deg m t), .slice (some ⟨g, 0, none⟩) (pb (deg m t)) (pb (deg m t))] w' fun e w'' => ∃ g2 Y2, e = .returned (.slice (some ⟨g2, 0, none⟩) (pb (deg m t)) (pb (deg m t))) ∧ (w''.cell? ⟨bq, 0, none⟩ = some (.int .i64 (m : Int)) ∧ w''.cell? ⟨bq, 1, none⟩ = some (.int .i64 (t : Int)) ∧ w''.cell? ⟨bq, 2, none⟩ = some (.int .i64 (n : Int)) ∧ w''.cell? ⟨bq, 3, none⟩ = some (.slice ga gn gc) ∧ w''.cell? ⟨bq, 4, none⟩ = some (.int .i64 (deg m t : Int)) ∧ Below w4.heap.size w4 w'') ∧ Blk8 w'' g2 Y2 ∧ Y2.length = pb (deg m t) ∧ val Y2 < 2 ^ deg m t) := fun w' g Y hs hY => (rclear_any m t n ga gn gc (deg m t) (pb (deg m t)) (by omega) rfl _ _ Y w' hY).mono fun e w'' h => by
    obtain ⟨g2, Y2, h1, h2, h3, h4, _, h6⟩ := h
    exact ⟨g2, Y2, h1, HS6.out w'' (hs.2.2.2.2.2.trans (h6.mono hs.2.2.2.2.2.size)), h2, h3, by rw [h4]; exact Nat.mod_lt _ (Nat.two_pow_pos _)⟩
  have hS0 := HS6.out w4.drew ((Drawn.mk w4 1).below _)
  clear hlA
  obtain ⟨c0, c1, c2, c3, c4, _⟩ := cd_cells K
  have HB6 := Lib.hid (And.intro K (And.intro C (And.intro DA (And.intro Z1 (And.intro EM (And.intro EZ B))))))
  clear K C DA Z1 EM EZ B A2
  go_region_held3 (fun w' => (w'.cell? ⟨bq, 0, none⟩ = some (.int .i64 (m : Int)) ∧ w'.cell? ⟨bq, 1, none⟩ = some (.int .i64 (t : Int)) ∧ w'.cell? ⟨bq, 2, none⟩ = some (.int .i64 (n : Int)) ∧ w'.cell? ⟨bq, 3, none⟩ = some (.slice ga gn gc) ∧ w'.cell? ⟨bq, 4, none⟩ = some (.int .i64 (deg m t : Int)) ∧ Below w4.heap.size w4 w'))
    (first | assumption | exact ⟨by assumption, by assumption, by assumption, by assumption, by assumption, by assumption⟩)
    (first
      | (go_at_call 14; refine Calls.mono (HP6.out _ (by assumption)) ?_; rintro e w1 ⟨rfl, q1⟩)
      | (go_at_call 12; refine Calls.mono (HF6.out _ (by assumption)) ?_; rintro e w1 ⟨g1, Y1, rfl, q2, q3⟩)
      | (go_at_call 13; refine Calls.mono (HC6.out _ _ _ (by assumption) (by assumption)) ?_; rintro e w1 ⟨g2, Y2, rfl, q4, q5, q6, q7⟩))
  obtain ⟨c0, c1, c2, c3, c4, bw⟩ := q4
  obtain ⟨K, C, DA, Z1, EM, EZ, B⟩ := HB6.out
  replace K := keepB K bw
  replace C := C.below bw
  replace DA := keepB DA bw
  replace Z1 := keepZ Z1 bw
  replace EM := EM.below bw
  replace EZ := EZ.below bw
  replace B := B.trans (bw.mono B.size)
  clear bw HB6 HS6 HP6 HF6 HC6 hS0 q1 q2 q3
  have HB := Lib.hid (And.intro K (And.intro C (And.intro DA (And.intro Z1 (And.intro q5 (And.intro EM (And.intro EZ B)))))))
  clear C DA Z1 EM EZ B
  go_wp2_with fail
  refine (copy_any g2 0 (pb (deg m t)) (pb (deg m t)) Y2 w1 q5.row q6.symm (by omega)).mono ?_
  rintro e w2 ⟨rfl, Z3, b⟩
  have hK := lt_of_block K
  replace K := keepB K b
  have hl2 := q5.lt
  obtain ⟨g3, hg3⟩ : ∃ g3, g3 = w1.heap.size := ⟨_, rfl⟩
  rw [← hg3] at Z3 hl2 ⊢
  have HG3 := Lib.hid (And.intro hg3 (And.intro hK hl2))
  have HBb := Lib.hid b
  clear b q5 hg3 hK c0 c1 c2 c3 c4 hl2
  obtain ⟨c0, c1, c2, c3, c4, _⟩ := cd_cells K
  go_wp2_with fail
  clear c0 c1 c2 c3 c4
  clear K
  obtain ⟨W0, rfl⟩ : ∃ W0, W0 = w2 := ⟨_, rfl⟩
  have HI0 : Hid (Blk8 W0 g3 Y2 ∧ Y2.length = pb (deg m t) ∧ (∀ j, j < deg m t → (val Y2).testBit j = (val Y2).testBit j) ∧ Below w1.heap.size W0 W0) := ⟨Z3, q6, fun _ _ => rfl, Below.refl _ _⟩
  clear Z3
  go_loopg [20] (8 * pb (deg m t) - deg m t) (fun gh s20 wx => ∃ (i : Nat) (Ci : List (BitVec 8)), gh = 8 * pb (deg m t) - i ∧ deg m t ≤ i ∧ i ≤ 8 * pb (deg m t) ∧ s20 = .int .i64 (i : Int) ∧ Hid (Blk8 wx g3 Ci ∧ Ci.length = pb (deg m t) ∧ (∀ j, j < deg m t → (val Ci).testBit j = (val Y2).testBit j) ∧ Below w1.heap.size W0 wx))
  case atStart => exact ⟨deg m t, Y2, rfl, Nat.le_refl _, by unfold pb; omega, rfl, HI0⟩
  case round =>
    clear HI0
    obtain ⟨i, Ci, hgh, hDi, hiP, rfl, HI⟩ := hrel
    have HG := Lib.hid hgh
    clear hgh
    by_cases hl : i < 8 * pb (deg m t)
    · have x1 : (i : Int) < 8 * (pb (deg m t) : Int) := by omega
      have x2 : decide ((i : Int) < 8 * (pb (deg m t) : Int)) = true := decide_eq_true x1
      have x3 : i / 8 < pb (deg m t) := by omega
      have x4 : (i : Int) / 8 < (pb (deg m t) : Int) := by omega
      have x0 : (0 : Int) ≤ (i : Int) := by omega
      have HD := Lib.hid (And.intro hDi hl)
      obtain ⟨Z, hlen, hv, B⟩ := HI.out
      have d1 := Z.cell (i := i / 8) (by omega)
      have d2 := Z.free (i / 8)
      have hs := Z.set (i / 8) (nth8 Ci (i / 8) ||| BitVec.twoPow 8 (i % 8))
      have o4 := Only.setCell wr ⟨g3, i / 8, none⟩ (.int .u8 (Bits32.b (nth8 Ci (i / 8) ||| BitVec.twoPow 8 (i % 8))))
      have HI2 : Hid (Blk8 (wr.setCell ⟨g3, i / 8, none⟩ (.int .u8 (Bits32.b (nth8 Ci (i / 8) ||| BitVec.twoPow 8 (i % 8))))) g3 (Ci.set (i / 8) (nth8 Ci (i / 8) ||| BitVec.twoPow 8 (i % 8))) ∧ (Ci.set (i / 8) (nth8 Ci (i / 8) ||| BitVec.twoPow 8 (i % 8))).length = pb (deg m t) ∧ (∀ j, j < deg m t → (val (Ci.set (i / 8) (nth8 Ci (i / 8) ||| BitVec.twoPow 8 (i % 8)))).testBit j = (val Y2).testBit j) ∧ Below w1.heap.size W0 (wr.setCell ⟨g3, i / 8, none⟩ (.int .u8 (Bits32.b (nth8 Ci (i / 8) ||| BitVec.twoPow 8 (i % 8)))))) :=
        ⟨hs, by rw [List.length_set]; exact hlen, fun j hj => by rw [val_set_bit Ci i (by omega) j (by omega)]; exact hv j hj, B.trans (o4.below (B := w1.heap.size) (by show w1.heap.size ≤ g3; rw [HG3.out.1]; exact Nat.le_refl _))⟩
      clear hl hDi x3 hs o4 Z hlen hv B
      go_wp2_with fail
      · go_roundg (8 * pb (deg m t) - (i + 1))
        case measure => have := HG.out; have := HD.out; omega
        case rel => exact ⟨i + 1, _, rfl, Nat.le_succ_of_le HD.out.1, HD.out.2, by go_num, HI2⟩
      · go_roundg (8 * pb (deg m t) - (i + 1))
        case measure => have := HG.out; have := HD.out; omega
        case rel => exact ⟨i + 1, Ci, rfl, Nat.le_succ_of_le HD.out.1, HD.out.2, by go_num, HI⟩
    · have x1 : ¬ (i : Int) < 8 * (pb (deg m t) : Int) := by omega
      have x2 : decide ((i : Int) < 8 * (pb (deg m t) : Int)) = false := decide_eq_false x1
      clear hl
      obtain ⟨Z3, hlen, hv, b⟩ := HI.out
      replace b := HBb.out.trans b
      obtain ⟨K, C, DA, Z1, Z2, EM, EZ, B⟩ := HB.out
      replace K := keepB K b
      replace C := C.below b
      replace DA := keepB DA b
      replace Z1 := keepZ Z1 b
      replace Z2 := keepZ Z2 b
      replace EM := EM.below b
      replace EZ := EZ.below b
      replace B := B.trans (b.mono B.size)
      have hwd : wd m t (val X) (val Ci) = wd m t (val X) (val Y2) := by
        unfold Dec.wd
        congr 1
        apply Nat.eq_of_testBit_eq
        intro j
        rw [Nat.testBit_mod_two_pow, Nat.testBit_mod_two_pow]
        by_cases hj : j < deg m t
        · rw [hv j hj]
        · simp [hj]
      have HWd := Lib.hid hwd
      have HMd : Hid (val Ci % 2 ^ deg m t = val Y2 % 2 ^ deg m t) := by
        apply Nat.eq_of_testBit_eq
        intro j
        rw [Nat.testBit_mod_two_pow, Nat.testBit_mod_two_pow]
        by_cases hj : j < deg m t
        · rw [hv j hj]
        · simp [hj]
      clear b HB HBb HI hv hwd
      obtain ⟨c0, c1, c2, c3, c4, _⟩ := cd_cells K
      go_wp2_with fail
      clear c0 c1 c2 c3 c4
      cases hd : dec m t (8 * n + deg m t) (wd m t (val X) (val Y2))
      case none =>
        obtain ⟨w40, rfl⟩ : ∃ w40, w40 = wr := ⟨_, rfl⟩
        have HL2 := Lib.hid q6
        have HL3 := Lib.hid hlen
        have HV2 := Lib.hid q7
        clear q6 hlen q7
        refine (decode_any (m := m) ⟨DA, C, EM, EZ, ht1, ht40, hn1, hn2, hRm⟩ (blk_pol Z1 hfZ1.symm (by omega)) (blk_pol Z2 HL2.out.symm (by omega))).mono ?_
        rintro e w41 ⟨b, hq⟩
        rw [hd] at hq
        obtain rfl := hq
        replace DA := keepB DA b
        replace C := C.below b
        replace K := keepB K b
        replace Z1 := keepZ Z1 b
        replace Z2 := keepZ Z2 b
        replace Z3 := keepZ Z3 b
        replace EM := EM.below b
        replace EZ := EZ.below b
        replace B := B.trans (b.mono B.size)
        clear b
        obtain ⟨c0, c1, c2, c3, c4, _⟩ := cd_cells K
        go_wp2_with fail
        clear c0 c1 c2 c3 c4
        refine (decode_any (m := m) ⟨DA, C, EM, EZ, ht1, ht40, hn1, hn2, hRm⟩ (blk_pol Z1 hfZ1.symm (by omega)) (blk_pol Z3 HL3.out.symm (by omega))).mono ?_
        rintro e w42 ⟨b, hq⟩
        rw [HWd.out, hd] at hq
        obtain rfl := hq
        replace DA := keepB DA b
        replace C := C.below b
        replace K := keepB K b
        replace Z1 := keepZ Z1 b
        replace Z2 := keepZ Z2 b
        replace Z3 := keepZ Z3 b
        replace EM := EM.below b
        replace EZ := EZ.below b
        replace B := B.trans (b.mono B.size)
        clear b
        obtain ⟨c0, c1, c2, c3, c4, _⟩ := cd_cells K
        go_wp2_with fail
        clear c0 c1 c2 c3 c4
        have em := EM.1
        unfold Sent at em
        have hlA := lt_of_block K
        have HS9 : Hid (∀ w', Below w42.heap.size w42 w' → (w'.cell? ⟨bq, 0, none⟩ = some (.int .i64 (m : Int)) ∧ w'.cell? ⟨bq, 1, none⟩ = some (.int .i64 (t : Int)) ∧ w'.cell? ⟨bq, 2, none⟩ = some (.int .i64 (n : Int)) ∧ w'.cell? ⟨bq, 3, none⟩ = some (.slice ga gn gc) ∧ w'.cell? ⟨bq, 4, none⟩ = some (.int .i64 (deg m t : Int)) ∧ Below w42.heap.size w42 w')) := fun w' b => by
          obtain ⟨c0, c1, c2, c3, c4, _⟩ := cd_cells ((b.block bq hlA).trans K)
          exact ⟨c0, c1, c2, c3, c4, b⟩
        have HN1 : Hid (∀ w' (_ : (w'.cell? ⟨bq, 0, none⟩ = some (.int .i64 (m : Int)) ∧ w'.cell? ⟨bq, 1, none⟩ = some (.int .i64 (t : Int)) ∧ w'.cell? ⟨bq, 2, none⟩ = some (.int .i64 (n : Int)) ∧ w'.cell? ⟨bq, 3, none⟩ = some (.slice ga gn gc) ∧ w'.cell? ⟨bq, 4, none⟩ = some (.int .i64 (deg m t : Int)) ∧ Below w42.heap.size w42 w')), Calls Tryz.prog 17 #[.slice none 0 0, .slice none 0 0] w' fun e w'' => e = .returned (.bool true) ∧ w' = w'') := fun w' hs => (sameB (X := []) (Y := []) (Or.inl ⟨rfl, _, _, rfl⟩) (Or.inl ⟨rfl, _, _, rfl⟩)).mono fun e w'' h => h
        have HN2 : Hid (∀ w' (_ : (w'.cell? ⟨bq, 0, none⟩ = some (.int .i64 (m : Int)) ∧ w'.cell? ⟨bq, 1, none⟩ = some (.int .i64 (t : Int)) ∧ w'.cell? ⟨bq, 2, none⟩ = some (.int .i64 (n : Int)) ∧ w'.cell? ⟨bq, 3, none⟩ = some (.slice ga gn gc) ∧ w'.cell? ⟨bq, 4, none⟩ = some (.int .i64 (deg m t : Int)) ∧ Below w42.heap.size w42 w')), Calls Tryz.prog 18 #[.slice none 0 0, .slice none 0 0] w' fun e w'' => e = .returned (.bool true) ∧ (w''.cell? ⟨bq, 0, none⟩ = some (.int .i64 (m : Int)) ∧ w''.cell? ⟨bq, 1, none⟩ = some (.int .i64 (t : Int)) ∧ w''.cell? ⟨bq, 2, none⟩ = some (.int .i64 (n : Int)) ∧ w''.cell? ⟨bq, 3, none⟩ = some (.slice ga gn gc) ∧ w''.cell? ⟨bq, 4, none⟩ = some (.int .i64 (deg m t : Int)) ∧ Below w42.heap.size w42 w'')) := fun w' hs => (sameInts_any none 0 0 [] none 0 0 [] w' ⟨rfl, fun i hi => absurd hi (by simp)⟩ ⟨rfl, fun i hi => absurd hi (by simp)⟩ (by decide)).mono fun e w'' h => ⟨h.1, HS9.out w'' (hs.2.2.2.2.2.trans (h.2.below _))⟩
        have HN3 : Hid (∀ w' (_ : (w'.cell? ⟨bq, 0, none⟩ = some (.int .i64 (m : Int)) ∧ w'.cell? ⟨bq, 1, none⟩ = some (.int .i64 (t : Int)) ∧ w'.cell? ⟨bq, 2, none⟩ = some (.int .i64 (n : Int)) ∧ w'.cell? ⟨bq, 3, none⟩ = some (.slice ga gn gc) ∧ w'.cell? ⟨bq, 4, none⟩ = some (.int .i64 (deg m t : Int)) ∧ Below w42.heap.size w42 w')), Calls Tryz.prog 13 #[cdV m t n ga gn gc (deg m t), .slice none 0 0] w' fun e w'' => ∃ a c, e = .returned (.slice a 0 c) ∧ (w''.cell? ⟨bq, 0, none⟩ = some (.int .i64 (m : Int)) ∧ w''.cell? ⟨bq, 1, none⟩ = some (.int .i64 (t : Int)) ∧ w''.cell? ⟨bq, 2, none⟩ = some (.int .i64 (n : Int)) ∧ w''.cell? ⟨bq, 3, none⟩ = some (.slice ga gn gc) ∧ w''.cell? ⟨bq, 4, none⟩ = some (.int .i64 (deg m t : Int)) ∧ Below w42.heap.size w42 w'')) := fun w' hs => (rclear_nil m t n ga gn gc (deg m t) (by omega) w').mono fun e w'' h => by
          obtain ⟨a, c, h1, h2⟩ := h
          exact ⟨a, c, h1, HS9.out w'' (hs.2.2.2.2.2.trans (h2.mono hs.2.2.2.2.2.size))⟩
        have HN4 : Hid (∀ w' (a : Option Addr) (c : Nat) (_ : (w'.cell? ⟨bq, 0, none⟩ = some (.int .i64 (m : Int)) ∧ w'.cell? ⟨bq, 1, none⟩ = some (.int .i64 (t : Int)) ∧ w'.cell? ⟨bq, 2, none⟩ = some (.int .i64 (n : Int)) ∧ w'.cell? ⟨bq, 3, none⟩ = some (.slice ga gn gc) ∧ w'.cell? ⟨bq, 4, none⟩ = some (.int .i64 (deg m t : Int)) ∧ Below w42.heap.size w42 w')), Calls Tryz.prog 17 #[.slice none 0 0, .slice a 0 c] w' fun e w'' => e = .returned (.bool true) ∧ w' = w'') := fun w' a c hs => (sameB (X := []) (Y := []) (Or.inl ⟨rfl, _, _, rfl⟩) (Or.inl ⟨rfl, _, _, rfl⟩)).mono fun e w'' h => h
        have hS0 := HS9.out w42.drew ((Drawn.mk w42 1).below _)
        have HB0 := Lib.hid B
        clear hlA B C DA K Z1 Z2 Z3 EM EZ hd HWd 
        go_region_held3 (fun w' => (w'.cell? ⟨bq, 0, none⟩ = some (.int .i64 (m : Int)) ∧ w'.cell? ⟨bq, 1, none⟩ = some (.int .i64 (t : Int)) ∧ w'.cell? ⟨bq, 2, none⟩ = some (.int .i64 (n : Int)) ∧ w'.cell? ⟨bq, 3, none⟩ = some (.slice ga gn gc) ∧ w'.cell? ⟨bq, 4, none⟩ = some (.int .i64 (deg m t : Int)) ∧ Below w42.heap.size w42 w'))
          (first | assumption | exact ⟨by assumption, by assumption, by assumption, by assumption, by assumption, by assumption⟩)
          (first
            | (go_at_call 17; (with_reducible refine Calls.mono (HN1.out _ (by assumption)) ?_); rintro e w1 ⟨rfl, rfl⟩)
            | (go_at_call 18; (with_reducible refine Calls.mono (HN2.out _ (by assumption)) ?_); rintro e w1 ⟨rfl, q1⟩)
            | (go_at_call 13; (with_reducible refine Calls.mono (HN3.out _ (by assumption)) ?_); rintro e w1 ⟨a9, c9, rfl, q2⟩)
            | (go_at_call 17; (with_reducible refine Calls.mono (HN4.out _ _ _ (by assumption)) ?_); rintro e w1 ⟨rfl, rfl⟩))
        have bw := q2.2.2.2.2.2
        clear q2
        go_wp2_with fail
        go_ret
        exact ⟨rfl, HB0.out.trans (bw.mono HB0.out.size)⟩
      case some l0 =>
        obtain ⟨w40, rfl⟩ : ∃ w40, w40 = wr := ⟨_, rfl⟩
        have HL2 := Lib.hid q6
        have HL3 := Lib.hid hlen
        have HV2 := Lib.hid q7
        clear q6 hlen q7
        have HDL : Hid (l0.length ≤ t) := by
          obtain ⟨e, _, hl, hp, _⟩ := dec_some (m := m) hRm ht40 hd
          rw [hl]
          exact hp
        have HD0 := Lib.hid hd
        clear hd
        refine (decode_any (m := m) ⟨DA, C, EM, EZ, ht1, ht40, hn1, hn2, hRm⟩ (blk_pol Z1 hfZ1.symm (by omega)) (blk_pol Z2 HL2.out.symm (by omega))).mono ?_
        rintro e w41 ⟨b, hq⟩
        rw [HD0.out] at hq
        obtain ⟨d1, e1, X1, d2, e2, Y1, d3, e3, rfl, N1, N2, R3, v1, v2⟩ := hq
        have HVa := Lib.hid (And.intro v1 v2)
        clear v1 v2
        have P1 := N1.pol
        have P2 := N2.pol
        clear N1 N2
        replace DA := keepB DA b
        replace C := C.below b
        replace K := keepB K b
        replace Z1 := keepZ Z1 b
        replace Z2 := keepZ Z2 b
        replace Z3 := keepZ Z3 b
        replace EM := EM.below b
        replace EZ := EZ.below b
        replace B := B.trans (b.mono B.size)
        clear b
        obtain ⟨c0, c1, c2, c3, c4, _⟩ := cd_cells K
        go_wp2_with fail
        clear c0 c1 c2 c3 c4
        refine (decode_any (m := m) ⟨DA, C, EM, EZ, ht1, ht40, hn1, hn2, hRm⟩ (blk_pol Z1 hfZ1.symm (by omega)) (blk_pol Z3 HL3.out.symm (by omega))).mono ?_
        rintro e w42 ⟨b, hq⟩
        rw [HWd.out, HD0.out] at hq
        obtain ⟨f1, p1, X2, f2, p2, Y3, f3, p3, rfl, N3, N4, R4, v1, v2⟩ := hq
        have P3 := N3.pol
        have P4 := N4.pol
        clear N3 N4
        have HXX : Hid (X2 = X1) := len_inj (by have := P3.hlen; have := P1.hlen; omega) (by rw [v1, HVa.out.1])
        have HYY : Hid (Y3 = Y1) := len_inj (by have := P4.hlen; have := P2.hlen; omega) (by rw [v2, HVa.out.2, Nat.xor_mod_two_pow, HMd.out, ← Nat.xor_mod_two_pow])
        rw [HXX.out] at P3
        rw [HYY.out] at P4
        have HYlt : Hid (val Y1 < 2 ^ deg m t) := by rw [HVa.out.2]; exact Nat.mod_lt _ (Nat.two_pow_pos _)
        clear v1 v2
        replace DA := keepB DA b
        replace C := C.below b
        replace K := keepB K b
        replace Z1 := keepZ Z1 b
        replace Z2 := keepZ Z2 b
        replace Z3 := keepZ Z3 b
        replace EM := EM.below b
        replace EZ := EZ.below b
        replace P1 := P1.below b
        replace P2 := P2.below b
        replace R3 := R3.below b
        replace B := B.trans (b.mono B.size)
        clear b
        obtain ⟨c0, c1, c2, c3, c4, _⟩ := cd_cells K
        go_wp2_with fail
        clear c0 c1 c2 c3 c4
        have em := EM.1
        unfold Sent at em
        have hlA := lt_of_block K
        have HS9 : Hid (∀ w', Below w42.heap.size w42 w' → (w'.cell? ⟨bq, 0, none⟩ = some (.int .i64 (m : Int)) ∧ w'.cell? ⟨bq, 1, none⟩ = some (.int .i64 (t : Int)) ∧ w'.cell? ⟨bq, 2, none⟩ = some (.int .i64 (n : Int)) ∧ w'.cell? ⟨bq, 3, none⟩ = some (.slice ga gn gc) ∧ w'.cell? ⟨bq, 4, none⟩ = some (.int .i64 (deg m t : Int)) ∧ Below w42.heap.size w42 w')) := fun w' b => by
          obtain ⟨c0, c1, c2, c3, c4, _⟩ := cd_cells ((b.block bq hlA).trans K)
          exact ⟨c0, c1, c2, c3, c4, b⟩
        have HN1 : Hid (∀ w' (_ : (w'.cell? ⟨bq, 0, none⟩ = some (.int .i64 (m : Int)) ∧ w'.cell? ⟨bq, 1, none⟩ = some (.int .i64 (t : Int)) ∧ w'.cell? ⟨bq, 2, none⟩ = some (.int .i64 (n : Int)) ∧ w'.cell? ⟨bq, 3, none⟩ = some (.slice ga gn gc) ∧ w'.cell? ⟨bq, 4, none⟩ = some (.int .i64 (deg m t : Int)) ∧ Below w42.heap.size w42 w')), Calls Tryz.prog 17 #[.slice d1 n e1, .slice f1 n p1] w' fun e w'' => e = .returned (.bool true) ∧ w' = w'') := fun w' hs => (sameB (pol_bytes (P1.below hs.2.2.2.2.2)) (pol_bytes (P3.below hs.2.2.2.2.2))).mono fun e w'' h => by rw [decide_eq_true rfl] at h; exact h
        have HN2 : Hid (∀ w' (_ : (w'.cell? ⟨bq, 0, none⟩ = some (.int .i64 (m : Int)) ∧ w'.cell? ⟨bq, 1, none⟩ = some (.int .i64 (t : Int)) ∧ w'.cell? ⟨bq, 2, none⟩ = some (.int .i64 (n : Int)) ∧ w'.cell? ⟨bq, 3, none⟩ = some (.slice ga gn gc) ∧ w'.cell? ⟨bq, 4, none⟩ = some (.int .i64 (deg m t : Int)) ∧ Below w42.heap.size w42 w')), Calls Tryz.prog 17 #[.slice d2 (pb (deg m t)) e2, .slice f2 (pb (deg m t)) p2] w' fun e w'' => e = .returned (.bool true) ∧ w' = w'') := fun w' hs => (sameB (pol_bytes (P2.below hs.2.2.2.2.2)) (pol_bytes (P4.below hs.2.2.2.2.2))).mono fun e w'' h => by rw [decide_eq_true rfl] at h; exact h
        have HN3 : Hid (∀ w' (_ : (w'.cell? ⟨bq, 0, none⟩ = some (.int .i64 (m : Int)) ∧ w'.cell? ⟨bq, 1, none⟩ = some (.int .i64 (t : Int)) ∧ w'.cell? ⟨bq, 2, none⟩ = some (.int .i64 (n : Int)) ∧ w'.cell? ⟨bq, 3, none⟩ = some (.slice ga gn gc) ∧ w'.cell? ⟨bq, 4, none⟩ = some (.int .i64 (deg m t : Int)) ∧ Below w42.heap.size w42 w')), Calls Tryz.prog 18 #[.slice d3 l0.length e3, .slice f3 l0.length p3] w' fun e w'' => e = .returned (.bool true) ∧ (w''.cell? ⟨bq, 0, none⟩ = some (.int .i64 (m : Int)) ∧ w''.cell? ⟨bq, 1, none⟩ = some (.int .i64 (t : Int)) ∧ w''.cell? ⟨bq, 2, none⟩ = some (.int .i64 (n : Int)) ∧ w''.cell? ⟨bq, 3, none⟩ = some (.slice ga gn gc) ∧ w''.cell? ⟨bq, 4, none⟩ = some (.int .i64 (deg m t : Int)) ∧ Below w42.heap.size w42 w'')) := fun w' hs => (sameInts_any d3 l0.length e3 l0 f3 l0.length p3 l0 w' (rowz_n (R3.below hs.2.2.2.2.2)) (rowz_n (R4.below hs.2.2.2.2.2)) (by have := HDL.out; omega)).mono fun e w'' h => by
          rw [decide_eq_true rfl] at h
          exact ⟨h.1, HS9.out w'' (hs.2.2.2.2.2.trans (h.2.below _))⟩
        have HN4 : Hid (∀ w' (_ : (w'.cell? ⟨bq, 0, none⟩ = some (.int .i64 (m : Int)) ∧ w'.cell? ⟨bq, 1, none⟩ = some (.int .i64 (t : Int)) ∧ w'.cell? ⟨bq, 2, none⟩ = some (.int .i64 (n : Int)) ∧ w'.cell? ⟨bq, 3, none⟩ = some (.slice ga gn gc) ∧ w'.cell? ⟨bq, 4, none⟩ = some (.int .i64 (deg m t : Int)) ∧ Below w42.heap.size w42 w')), Calls Tryz.prog 13 #[cdV m t n ga gn gc (deg m t), .slice d2 (pb (deg m t)) e2] w' fun e w'' => ∃ g2, e = .returned (.slice (some ⟨g2, 0, none⟩) (pb (deg m t)) (pb (deg m t))) ∧ (w''.cell? ⟨bq, 0, none⟩ = some (.int .i64 (m : Int)) ∧ w''.cell? ⟨bq, 1, none⟩ = some (.int .i64 (t : Int)) ∧ w''.cell? ⟨bq, 2, none⟩ = some (.int .i64 (n : Int)) ∧ w''.cell? ⟨bq, 3, none⟩ = some (.slice ga gn gc) ∧ w''.cell? ⟨bq, 4, none⟩ = some (.int .i64 (deg m t : Int)) ∧ Below w42.heap.size w42 w'') ∧ Blk8 w'' g2 Y1) := fun w' hs => (rclear_any m t n ga gn gc (deg m t) (pb (deg m t)) (by omega) rfl _ _ Y1 w' (P2.below hs.2.2.2.2.2)).mono fun e w'' h => by
          obtain ⟨g2, Y2, h1, h2, h3, h4, _, h6⟩ := h
          obtain rfl : Y2 = Y1 := len_inj (by rw [h3, ← P2.hlen]) (by rw [h4, Nat.mod_eq_of_lt HYlt.out])
          exact ⟨g2, h1, HS9.out w'' (hs.2.2.2.2.2.trans (h6.mono hs.2.2.2.2.2.size)), h2⟩
        have HPl := Lib.hid P2.hlen
        have HN5 : Hid (∀ w' (g2 : Nat) (_ : (w'.cell? ⟨bq, 0, none⟩ = some (.int .i64 (m : Int)) ∧ w'.cell? ⟨bq, 1, none⟩ = some (.int .i64 (t : Int)) ∧ w'.cell? ⟨bq, 2, none⟩ = some (.int .i64 (n : Int)) ∧ w'.cell? ⟨bq, 3, none⟩ = some (.slice ga gn gc) ∧ w'.cell? ⟨bq, 4, none⟩ = some (.int .i64 (deg m t : Int)) ∧ Below w42.heap.size w42 w')) (_ : Blk8 w' g2 Y1), Calls Tryz.prog 17 #[.slice d2 (pb (deg m t)) e2, .slice (some ⟨g2, 0, none⟩) (pb (deg m t)) (pb (deg m t))] w' fun e w'' => e = .returned (.bool true) ∧ w' = w'') := fun w' g2 hs hb => (sameB (pol_bytes (P2.below hs.2.2.2.2.2)) (blk_arg hb HPl.out)).mono fun e w'' h => by rw [decide_eq_true rfl] at h; exact h
        have hS0 := HS9.out w42.drew ((Drawn.mk w42 1).below _)
        have HB0 := Lib.hid B
        clear hlA B C DA K Z1 Z2 Z3 EM EZ P1 P2 P3 P4 R3 R4
        go_region_held3 (fun w' => (w'.cell? ⟨bq, 0, none⟩ = some (.int .i64 (m : Int)) ∧ w'.cell? ⟨bq, 1, none⟩ = some (.int .i64 (t : Int)) ∧ w'.cell? ⟨bq, 2, none⟩ = some (.int .i64 (n : Int)) ∧ w'.cell? ⟨bq, 3, none⟩ = some (.slice ga gn gc) ∧ w'.cell? ⟨bq, 4, none⟩ = some (.int .i64 (deg m t : Int)) ∧ Below w42.heap.size w42 w'))
          (first | assumption | exact ⟨by assumption, by assumption, by assumption, by assumption, by assumption, by assumption⟩)
          (first
            | (go_at_call 17; (with_reducible refine Calls.mono (HN1.out _ (by assumption)) ?_); rintro e w1 ⟨rfl, rfl⟩)
            | (go_at_call 17; (with_reducible refine Calls.mono (HN2.out _ (by assumption)) ?_); rintro e w1 ⟨rfl, rfl⟩)
            | (go_at_call 18; (with_reducible refine Calls.mono (HN3.out _ (by assumption)) ?_); rintro e w1 ⟨rfl, q1⟩)
            | (go_at_call 13; (with_reducible refine Calls.mono (HN4.out _ (by assumption)) ?_); rintro e w1 ⟨g9, rfl, q2, q3⟩)
            | (go_at_call 17; (with_reducible refine Calls.mono (HN5.out _ _ (by assumption) (by assumption)) ?_); rintro e w1 ⟨rfl, rfl⟩))
        have bw := q2.2.2.2.2.2
        clear q2
        go_wp2_with fail
        go_ret
        exact ⟨rfl, HB0.out.trans (bw.mono HB0.out.size)⟩
theorem walk (a0 a1 a2 : Int) (a3 : Option Addr) (len3 cap3 : Nat) (z3 : List Int) (a4 : Option Addr) (len4 cap4 : Nat) (z4 : List Int) (a5 : Int) (W : World) (w0 : (Lit.int .i64 a0).wf = true) (w1 : (Lit.int .i64 a1).wf = true) (w2 : (Lit.int .i64 a2).wf = true) (w3 : IsRow .u8 W a3 len3 cap3 z3) (w4 : IsRow .u8 W a4 len4 cap4 z4) (w5 : (Lit.int .u8 a5).wf = true) (h : LaidDecodeSpare.Holds W) :
    Calls Tryz.prog 3 #[.int .i64 a0, .int .i64 a1, .int .i64 a2, .slice a3 len3 cap3, .slice a4 len4 cap4, .int .u8 a5] W fun e w' => e = .returned (.bool true) ∧ Below W.heap.size W w' := by
  obtain ⟨f, ⟨E0, E1, E2, E3, E4, E5⟩, _⟩ := h
  obtain ⟨l3, h3⟩ := row_pol w3
  obtain ⟨l4, h4⟩ := row_pol w4
  have hc := core a0 a1 a2 a3 len3 cap3 l3 a4 len4 cap4 l4 (BitVec.ofInt 8 a5) W _ _ _ E4 E5 E2 h3 h4
  rw [b_ofInt a5 w5] at hc
  exact hc
end Go.Proofs.YthmfneepnkgmgaaGreatDoor.walkDecodeSpare
