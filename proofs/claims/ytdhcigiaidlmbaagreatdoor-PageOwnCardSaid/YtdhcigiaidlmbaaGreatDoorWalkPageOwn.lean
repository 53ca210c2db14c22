/- The walk over PageOwn. By the verifier of shale. -/
import Derived.Test.YtdhcigiaidlmbaaGreatDoorGreat1
import Derived.Test.YtdhcigiaidlmbaaGreatDoorGreat2
import Derived.Test.YtdhcigiaidlmbaaGreatDoorGreat3
import Derived.Test.YtdhcigiaidlmbaaGreatDoorGreat4
import Derived.Test.YtdhcigiaidlmbaaGreatDoorGreat5
import Derived.Test.YtdhcigiaidlmbaaGreatDoorGreat6
import Derived.Test.YtdhcigiaidlmbaaGreatDoorGreat7
import Derived.Test.YtdhcigiaidlmbaaGreatDoorGreat8
import Derived.Test.YtdhcigiaidlmbaaGreatDoorLaidPageOwn
import Derived.Deep.Cut
namespace Go.Proofs.YtdhcigiaidlmbaaGreatDoor.walkPageOwn
open Go Go.RowKit Bin Pl Cos Enc Syn Loc Sea Dec Crc Pg
set_option linter.unusedVariables false
theorem newRsG (w W : World) (cls : Int) (K : Meta.M6) (dv : Value) (fx : Int) (h : w.alloc (.cells #[.int .i64 cls, .int .i64 (Meta.fld K 0), .int .i64 (Meta.fld K 1), .int .i64 (Meta.fld K 2), .int .i64 (Meta.fld K 3), .int .i64 (Meta.fld K 4), .int .i64 (Meta.fld K 5), dv, .int .i64 fx] 55 (0, 0)) = W) : W.heap[w.heap.size]? = some (rsO cls K dv fx) ∧ Below w.heap.size w W := by
  subst h
  exact ⟨heap_alloc_new w _, (Below.refl _ _).alloc (Nat.le_refl _) _⟩
set_option maxRecDepth 100000 in
set_option maxHeartbeats 4000000 in
theorem core (z1 z2 x y : Int) (P1 : Meta.M6) (a : Option Addr) (na ca : Nat) (l : List (BitVec 8)) (w : World) {yc ym yz yr : Addr} (EC : ErrAt w 4 yc) (EM : ErrAt w 6 ym) (EZ : ErrAt w 9 yz) (ER : ErrAt w 1 yr) (T : Tab w) (A1 : Pol w a na ca l) :
    Calls Tryz.prog 9 #[.int .i64 z1, .int .i64 z2, .agg #[.int .i64 x, .int .i64 y], Meta.metaV P1, .slice a na ca] w fun e w' => e = .returned (.bool true) ∧ Below w.heap.size w w' := by
  go_enter Tryz.func9, Tryz.ntmps9
  have B : Below w.heap.size w w := Below.refl _ _
  go_wp2_with fail
  generalize hw : w.alloc (.cells #[.int .i64 x, .int .i64 y] 43 (0, 0)) = w1
  obtain ⟨Q1, b, hz1⟩ := newPl w w1 x y hw
  clear hw
  replace EC := EC.below b
  replace EM := EM.below b
  replace EZ := EZ.below b
  replace ER := ER.below b
  replace T := T.below b T.lt
  replace A1 := A1.below b
  replace B := B.trans (b.mono B.size)
  clear b
  generalize hw : w1.alloc (.cells #[.int .i64 (Meta.fld P1 0), .int .i64 (Meta.fld P1 1), .int .i64 (Meta.fld P1 2), .int .i64 (Meta.fld P1 3), .int .i64 (Meta.fld P1 4), .int .i64 (Meta.fld P1 5)] 45 (0, 0)) = w2
  obtain ⟨R1, b⟩ := newMeta w1 w2 P1 hw
  have hz2 : w2.heap.size = w1.heap.size + 1 := by rw [← hw]; simp
  clear hw
  replace EC := EC.below b
  replace EM := EM.below b
  replace EZ := EZ.below b
  replace ER := ER.below b
  replace T := T.below b T.lt
  replace A1 := A1.below b
  replace Q1 := keepB Q1 b
  replace B := B.trans (b.mono B.size)
  clear b
  rw [hz1] at R1
  clear hz1 hz2
  obtain ⟨bp, hbp⟩ : ∃ bp, bp = w.heap.size := ⟨_, rfl⟩
  rw [← hbp] at Q1 R1 ⊢
  clear hbp
  refine (first13_any w2 EC EM EZ ER T).mono ?_
  rintro e w3 ⟨rfl, b⟩
  replace EC := EC.below b
  replace EM := EM.below b
  replace EZ := EZ.below b
  replace ER := ER.below b
  replace T := T.below b T.lt
  replace A1 := A1.below b
  replace Q1 := keepB Q1 b
  replace R1 := keepM R1 b
  replace B := B.trans (b.mono B.size)
  clear b
  go_wp2_with fail
  refine (made_any z1 z2 w3 yc EC).mono ?_
  rintro e w4 ⟨cb, s, db, ga, gn, gc, rfl, PG, C, DA, GB, b⟩
  clear EC
  obtain ⟨s1, s2⟩ := mkS_in z2
  obtain ⟨t1, t2⟩ := mkT_in z1
  generalize Pg.mkS z2 = sc at PG C s1 s2 ⊢
  generalize Pg.mkT z1 = t at C GB t1 t2 ⊢
  replace EM := EM.below b
  replace EZ := EZ.below b
  replace ER := ER.below b
  replace T := T.below b T.lt
  replace A1 := A1.below b
  replace Q1 := keepB Q1 b
  replace R1 := keepM R1 b
  replace B := B.trans (b.mono B.size)
  clear b
  have PB : PBase 10 t sc w4 cb s db ym yz yr := ⟨PG, ⟨DA, C, EM, EZ, by omega, by omega, by omega, by omega, (may10 s2 t1 t2).room⟩, ER, T, by omega, by omega⟩
  clear PG C DA EM EZ ER T
  obtain ⟨n, hn⟩ : ∃ n, n = sc + 32 := ⟨_, rfl⟩
  have e32 : (sc : Int) + 32 = (n : Int) := by omega
  have HNn := Lib.hid hn
  have HRm := Lib.hid (show 8 * n + deg 10 t ≤ sz 10 from by rw [hn]; exact (may10 s2 t1 t2).room)
  have HDl : deg 10 t ≤ 40 := by have h1 := deg_le (m := 10) (by omega) t; omega
  rw [← hn]
  clear hn
  go_wp2_with fail
  generalize hw : w4.alloc (.cells #[.int .i64 10, .int .i64 16, .int .i64 (sc : Int), .int .i64 10, .int .i64 (t : Int), .int .i64 2, .int .i64 0, .int .i64 4, .int .i64 8, .int .i64 10, .int .i64 (t : Int), .int .i64 (n : Int), .slice ga gn gc, .int .i64 (deg 10 t : Int)] 40 (0, 0)) = w5
  obtain ⟨K, b⟩ := newRx w4 w5 _ _ _ _ _ _ _ _ _ _ _ _ _ _ hw
  clear hw
  replace A1 := A1.below b
  replace Q1 := keepB Q1 b
  replace R1 := keepM R1 b
  replace PB := PB.below b
  replace GB := GB.below b
  replace B := B.trans (b.mono B.size)
  clear b
  obtain ⟨bq, hbq⟩ : ∃ bq, bq = w4.heap.size := ⟨_, rfl⟩
  rw [← hbq] at K ⊢
  clear hbq
  clear GB
  refine (fit13_any a na ca l sc (by omega) w5 A1).mono ?_
  rintro e w6 ⟨rfl, Z1, b⟩
  have hfZ1 := fitL_length l sc
  generalize fitL l sc = X at Z1 hfZ1
  obtain ⟨gZ1, hgZ1⟩ : ∃ gZ1, gZ1 = w5.heap.size := ⟨_, rfl⟩
  rw [← hgZ1] at Z1 ⊢
  clear hgZ1
  clear A1
  replace Q1 := keepB Q1 b
  replace R1 := keepM R1 b
  replace PB := PB.below b
  replace K := keepB K b
  replace B := B.trans (b.mono B.size)
  clear b
  obtain ⟨c0, c1, c2, c3, c4, c5, c6, c7, c8, c9, c10, c11, c12, c13, _⟩ := rx_cells K
  go_wp2_with fail
  clear c0 c1 c2 c3 c4 c5 c6 c7 c8 c9 c10 c11 c12 c13
  refine (copy_any gZ1 0 sc sc X w6 Z1.row hfZ1.symm (by omega)).mono ?_
  rintro e w7 ⟨rfl, Z2, b⟩
  obtain ⟨gZ2, hgZ2⟩ : ∃ gZ2, gZ2 = w6.heap.size := ⟨_, rfl⟩
  rw [← hgZ2] at Z2 ⊢
  clear hgZ2
  replace Q1 := keepB Q1 b
  replace R1 := keepM R1 b
  replace PB := PB.below b
  replace K := keepB K b
  replace Z1 := keepZ Z1 b
  replace B := B.trans (b.mono B.size)
  clear b
  obtain ⟨c0, c1, c2, c3, c4, c5, c6, c7, c8, c9, c10, c11, c12, c13, _⟩ := rx_cells K
  obtain ⟨p0, p1⟩ := pl_cells Q1
  have f0 := R1.cell 0 (by omega)
  have f1 := R1.cell 1 (by omega)
  have f2 := R1.cell 2 (by omega)
  have f3 := R1.cell 3 (by omega)
  have f4 := R1.cell 4 (by omega)
  have f5 := R1.cell 5 (by omega)
  go_wp2_with fail
  clear p0 p1
  clear f0
  clear f1
  clear f2
  clear f3
  clear f4
  clear f5
  clear c0 c1 c2 c3 c4 c5 c6 c7 c8 c9 c10 c11 c12 c13
  obtain ⟨N, hN⟩ : ∃ N, N = sc + 32 + pb (deg 10 t) := ⟨_, rfl⟩
  have hN3 : N ≤ 76 := by rw [hN]; unfold pb; omega
  have hN1 : 1 ≤ N := by omega
  have HNN := Lib.hid hN
  clear hN
  by_cases hk1 : Meta.May P1
  · skip
    refine (lay_any (m := 10) t1 (by omega) (by omega) (by omega) PB.pg PB.base.code PB.tab x y P1 hk1 (blk_pol Z1 hfZ1.symm (by omega))).mono ?_
    rintro e w8 ⟨gF, cF, rfl, F1, hgF, hcF, hmF, b⟩
    rw [← HNN.out] at hcF ⊢
    replace Q1 := keepB Q1 b
    replace R1 := keepM R1 b
    replace PB := PB.below b
    replace K := keepB K b
    replace Z1 := keepZ Z1 b
    replace Z2 := keepZ Z2 b
    replace B := B.trans (b.mono B.size)
    clear b
    obtain ⟨c0, c1, c2, c3, c4, c5, c6, c7, c8, c9, c10, c11, c12, c13, _⟩ := rx_cells K
    go_wp2_with fail
    clear c0 c1 c2 c3 c4 c5 c6 c7 c8 c9 c10 c11 c12 c13
    have hpl : (page 10 t (sdOf x y) P1 X).length = N := by rw [page_length, hfZ1, HNN.out]
    refine (copy_any gF 0 N cF (page 10 t (sdOf x y) P1 X) w8 F1.row hpl.symm (by omega)).mono ?_
    rintro e w9 ⟨rfl, Z3, b⟩
    obtain ⟨gZ3, hgZ3⟩ : ∃ gZ3, gZ3 = w8.heap.size := ⟨_, rfl⟩
    rw [← hgZ3] at Z3 ⊢
    clear hgZ3 hgF
    clear F1
    replace Q1 := keepB Q1 b
    replace R1 := keepM R1 b
    replace PB := PB.below b
    replace K := keepB K b
    replace Z1 := keepZ Z1 b
    replace Z2 := keepZ Z2 b
    replace B := B.trans (b.mono B.size)
    clear b
    obtain ⟨c0, c1, c2, c3, c4, c5, c6, c7, c8, c9, c10, c11, c12, c13, _⟩ := rx_cells K
    go_wp2_with fail
    clear c0 c1 c2 c3 c4 c5 c6 c7 c8 c9 c10 c11 c12 c13
    have b0 := Below.refl w9.heap.size w9
    have HX0 := Lib.hid (And.intro Q1 (And.intro R1 (And.intro PB (And.intro Z1 (And.intro Z2 (And.intro Z3 (And.intro B hk1)))))))
    have HPL := Lib.hid hpl
    obtain ⟨w40, hw40⟩ : ∃ w', w' = w9 := ⟨_, rfl⟩
    have HB0 : Hid (Below w9.heap.size w9 w40) := by rw [hw40]; exact b0
    rw [← hw40]
    clear Q1 R1 PB K Z1 Z2 Z3 B hk1 hpl b0 hw40 hcF hmF
    go_loopg [19] 2 (fun gh s19 wx => ∃ (i : Nat), gh = 2 - i ∧ i ≤ 2 ∧ s19 = .int .i64 (i : Int) ∧ Hid (Below w9.heap.size w9 wx))
    case atStart => exact ⟨0, rfl, Nat.zero_le _, rfl, HB0⟩
    case round =>
      clear HB0
      obtain ⟨i, hg, hin, rfl, HX⟩ := hrel
      have HI := Lib.hid (And.intro hg hin)
      clear hg
      obtain ⟨w41, rfl⟩ : ∃ w', w' = wr := ⟨_, rfl⟩
      obtain ⟨Q1, R1, PB, Z1, Z2, Z3, B, hk1⟩ := HX0.out
      have hO := HX.out
      replace Q1 := keepB Q1 hO
      replace R1 := keepM R1 hO
      replace PB := PB.below hO
      replace Z1 := keepZ Z1 hO
      replace Z2 := keepZ Z2 hO
      replace Z3 := keepZ Z3 hO
      by_cases hlt : i < 2
      · have x1 : (i : Int) < 2 := by omega
        have x0 : (0 : Int) ≤ (i : Int) := by omega
        have HI1 := Lib.hid hlt
        clear hin B hO hlt
        have B := HX.out
        clear HX
        obtain ⟨p0, p1⟩ := pl_cells Q1
        have f0 := R1.cell 0 (by omega)
        have f1 := R1.cell 1 (by omega)
        have f2 := R1.cell 2 (by omega)
        have f3 := R1.cell 3 (by omega)
        have f4 := R1.cell 4 (by omega)
        have f5 := R1.cell 5 (by omega)
        go_wp2_with fail
        clear p0 p1
        clear f0
        clear f1
        clear f2
        clear f3
        clear f4
        clear f5
        refine (lay_any (m := 10) t1 (by omega) (by omega) (by omega) PB.pg PB.base.code PB.tab x y P1 hk1 (blk_pol Z1 hfZ1.symm (by omega))).mono ?_
        rintro e w42 ⟨gB, cB, rfl, F2, hgB, hcB, hmB, b⟩
        rw [← HNN.out] at hcB ⊢
        have hgBL : w9.heap.size ≤ gB := Nat.le_trans B.size hgB
        replace Q1 := keepB Q1 b
        replace R1 := keepM R1 b
        replace PB := PB.below b
        replace Z1 := keepZ Z1 b
        replace Z2 := keepZ Z2 b
        replace Z3 := keepZ Z3 b
        replace B := B.trans (b.mono B.size)
        clear b
        obtain ⟨p0, p1⟩ := pl_cells Q1
        go_wp2_with fail
        clear p0 p1
        have hzz : t < Meta.zL (page 10 t (sdOf x y) P1 X) N := by
          have h := zeros_page (m := 10) (t := t) (sc := sc) (sdOf x y) P1 hk1 X
          rw [HPL.out] at h
          omega
        refine (open_near (m := 10) (E := 0) PB x y (buf_pol F2 HPL.out.symm hcB hmB) HNN.out hk1 hfZ1 (Nat.two_pow_pos _) (by rw [Nat.xor_zero]) (by rw [pop_zero]; exact Nat.zero_le _) hzz).mono ?_
        rintro e w43 ⟨gr, rfl, Zr, hgr, b⟩
        clear hzz
        rw [pop_zero]
        have hgrL : w9.heap.size ≤ gr := Nat.le_trans B.size hgr
        have hgrB : gr ≠ gB := by have := F2.lt; omega
        replace Q1 := keepB Q1 b
        replace R1 := keepM R1 b
        replace PB := PB.below b
        replace Z1 := keepZ Z1 b
        replace Z2 := keepZ Z2 b
        replace Z3 := keepZ Z3 b
        replace F2 := keepF F2 b
        replace B := B.trans (b.mono B.size)
        clear b
        go_upto_region 16 with (fail)
        have hgBlt := F2.lt
        have hgrlt := Zr.lt
        generalize hw : w43.alloc (.cells #[.int .i64 1, .int .i64 (Meta.fld P1 0), .int .i64 (Meta.fld P1 1), .int .i64 (Meta.fld P1 2), .int .i64 (Meta.fld P1 3), .int .i64 (Meta.fld P1 4), .int .i64 (Meta.fld P1 5), .slice (some ⟨gr, 0, none⟩) sc sc, .int .i64 ((0 : Nat) : Int)] 55 (0, 0)) = w44
        obtain ⟨Qr, b⟩ := newRsG w43 w44 _ P1 _ _ hw
        clear hw
        replace Q1 := keepB Q1 b
        replace R1 := keepM R1 b
        replace PB := PB.below b
        replace Z1 := keepZ Z1 b
        replace Z2 := keepZ Z2 b
        replace Z3 := keepZ Z3 b
        replace F2 := keepF F2 b
        replace Zr := keepZ Zr b
        replace B := B.trans (b.mono B.size)
        clear b
        obtain ⟨br, hbr⟩ : ∃ br, br = w43.heap.size := ⟨_, rfl⟩
        have hbr1 : br ≠ gB := by have h1 := hgBlt; omega
        have hbr2 : br ≠ gr := by have h1 := hgrlt; omega
        rw [← hbr] at Qr ⊢
        clear hbr
        obtain ⟨v0, v1, v2, v3, v4, v5, v6, v7, v8, _⟩ := rs_cells Qr
        go_wp2_with fail
        clear v0 v1 v2 v3 v4 v5 v6 v7 v8
        refine (same_blk (pol_bytes (buf_pol F2 HPL.out.symm hcB hmB)) (blk_arg Z3 HPL.out.symm)).mono ?_
        rintro e w' ⟨rfl, rfl⟩
        rw [decide_eq_true rfl]
        obtain ⟨v0, v1, v2, v3, v4, v5, v6, v7, v8, _⟩ := rs_cells Qr
        go_wp2_with fail
        clear v0 v1 v2 v3 v4 v5 v6 v7 v8
        refine (same_blk (blk_arg Zr hfZ1.symm) (blk_arg Z2 hfZ1.symm)).mono ?_
        rintro e w' ⟨rfl, rfl⟩
        rw [decide_eq_true rfl]
        go_wp2_with fail
        have HY := Lib.hid (And.intro hgBL (And.intro hgrL (And.intro hgrB (And.intro hbr1 (And.intro hbr2 (And.intro hcB (And.intro hmB (And.intro Zr (And.intro Qr B)))))))))
        have HL0 : Hid (∃ L, Meta.Buf8 w44 gB L ∧ L.length = N ∧ Only gB w44 w44) := ⟨_, F2, HPL.out, Only.refl _ _⟩
        obtain ⟨w50, hw50⟩ : ∃ w', w' = w44 := ⟨_, rfl⟩
        rw [← hw50]
        have HL1 : Hid (∃ L, Meta.Buf8 w50 gB L ∧ L.length = N ∧ Only gB w44 w50) := by rw [hw50]; exact HL0.out
        clear hgBL hgrL hgrB hbr1 hbr2 hcB hmB Zr Qr B F2 Q1 R1 PB Z1 Z2 Z3 HL0 hw50 hk1 hgB hgr
        go_loopg [24] N (fun gh s24 wx => ∃ (j : Nat), gh = N - j ∧ j ≤ N ∧ s24 = .int .i64 (j : Int) ∧ Hid (∃ L, Meta.Buf8 wx gB L ∧ L.length = N ∧ Only gB w44 wx))
        case atStart => exact ⟨0, rfl, Nat.zero_le _, rfl, HL1⟩
        case round =>
          clear HL1
          obtain ⟨j, hg, hjn, rfl, HX⟩ := hrel
          have HJ := Lib.hid (And.intro hg hjn)
          clear hg
          obtain ⟨w51, rfl⟩ : ∃ w', w' = wr := ⟨_, rfl⟩
          by_cases hlt : j < N
          · have y1 : (j : Int) < (N : Int) := by omega
            have y0 : (0 : Int) ≤ (j : Int) := by omega
            obtain ⟨L, hBuf, hLl, hO⟩ := HX.out
            have e1 := hBuf.cell j (by omega)
            have e2 := hBuf.free j
            generalize Bits32.b (nth8 L j) = z0 at e1
            have HNx : Hid (∃ L', Meta.Buf8 (w51.setCell ⟨gB, j, none⟩ (.int .u8 0)) gB L' ∧ L'.length = N ∧ Only gB w44 (w51.setCell ⟨gB, j, none⟩ (.int .u8 0))) := ⟨_, hBuf.set j (by omega) 0#8, by rw [List.length_set]; exact hLl, hO.trans (Only.setCell w51 ⟨gB, j, none⟩ (.int .u8 0))⟩
            have HJ1 := Lib.hid hlt
            clear HX hBuf hLl hO hlt hjn
            go_wp2_with fail
            go_roundg (N - (j + 1))
            case measure => have := HJ.out; have := HJ1.out; omega
            case rel => exact ⟨j + 1, rfl, HJ1.out, by go_num, HNx⟩
          · obtain rfl : N = j := by omega
            obtain ⟨Lz, hBuf, hLl, hO⟩ := HX.out
            obtain ⟨hgBL, hgrL, hgrB, hbr1, hbr2, hcB, hmB, Zr, Qr, B⟩ := HY.out
            have Qr1 := (hO.block br hbr1).trans Qr
            have Zr1 : Blk8 w51 gr X := (hO.block gr hgrB).trans Zr
            have B1 := B.trans (hO.below hgBL)
            have hP := And.intro hBuf (And.intro hLl (And.intro hcB hmB))
            have HL2 : Hid (∃ L, Meta.Buf8 w51 gr L ∧ L.length = sc ∧ Only gr w51 w51) := ⟨_, blk_buf Zr1, hfZ1, Only.refl _ _⟩
            have HY2 := Lib.hid (And.intro hgrL (And.intro hgrB (And.intro hbr2 (And.intro hP (And.intro Qr1 B1)))))
            clear hBuf hLl hO hgBL hgrL hgrB hbr1 hbr2 hcB hmB Zr Qr B Qr1 Zr1 B1 hP HX HY hjn HJ hlt
            go_wp2_with fail
            obtain ⟨w60, hw60⟩ : ∃ w', w' = w51 := ⟨_, rfl⟩
            have HL3 : Hid (∃ L, Meta.Buf8 w60 gr L ∧ L.length = sc ∧ Only gr w51 w60) := by rw [hw60]; exact HL2.out
            rw [← hw60]
            clear HL2 hw60
            go_loopg [25] sc (fun gh s25 wx => ∃ (j : Nat), gh = sc - j ∧ j ≤ sc ∧ s25 = .int .i64 (j : Int) ∧ Hid (∃ L, Meta.Buf8 wx gr L ∧ L.length = sc ∧ Only gr w51 wx))
            case atStart => exact ⟨0, rfl, Nat.zero_le _, rfl, HL3⟩
            case round =>
              clear HL3
              obtain ⟨j, hg, hjn, rfl, HX⟩ := hrel
              have HJ := Lib.hid (And.intro hg hjn)
              clear hg
              obtain ⟨w61, rfl⟩ : ∃ w', w' = wr := ⟨_, rfl⟩
              obtain ⟨L, hBuf, hLl, hO⟩ := HX.out
              have v7 := (rs_cells ((hO.block br HY2.out.2.2.1).trans HY2.out.2.2.2.2.1)).2.2.2.2.2.2.2.1
              by_cases hlt : j < sc
              · have y1 : (j : Int) < (sc : Int) := by omega
                have y0 : (0 : Int) ≤ (j : Int) := by omega
                have e1 := hBuf.cell j (by omega)
                have e2 := hBuf.free j
                generalize Bits32.b (nth8 L j) = z0 at e1
                have HNx : Hid (∃ L', Meta.Buf8 (w61.setCell ⟨gr, j, none⟩ (.int .u8 0)) gr L' ∧ L'.length = sc ∧ Only gr w51 (w61.setCell ⟨gr, j, none⟩ (.int .u8 0))) := ⟨_, hBuf.set j (by omega) 0#8, by rw [List.length_set]; exact hLl, hO.trans (Only.setCell w61 ⟨gr, j, none⟩ (.int .u8 0))⟩
                have HJ1 := Lib.hid hlt
                clear HX hBuf hLl hO hlt hjn
                go_wp2_with fail
                go_roundg (sc - (j + 1))
                case measure => have := HJ.out; have := HJ1.out; omega
                case rel => exact ⟨j + 1, rfl, HJ1.out, by go_num, HNx⟩
              · have y1 : ¬ (j : Int) < (sc : Int) := by omega
                obtain ⟨hgrL, hgrB, hbr2, hP, Qr1, B1⟩ := HY2.out
                have hP1 : Pol w61 (some ⟨gB, 0, none⟩) N cB Lz := by
                  obtain ⟨⟨cur, ty, h1, h2⟩, hl, hc, hm⟩ := hP
                  exact buf_pol (X := Lz) ⟨cur, ty, (hO.block gB (Ne.symm hgrB)).trans h1, h2⟩ hl.symm hc hm
                have HBn : Hid (Below w9.heap.size w9 w61) := B1.trans (hO.below hgrL)
                clear HX hBuf hLl hO hlt hjn hgrL hgrB hbr2 hP Qr1 B1 HY2
                go_wp2_with fail
                refine (zeros_any _ _ N _ w61 hP1 (by omega)).mono ?_
                rintro e w' ⟨rfl, rfl⟩
                clear hP1
                go_wp2_with fail
                go_roundg (2 - (i + 1))
                case measure => have := HI.out; have := HI1.out; omega
                case rel => exact ⟨i + 1, rfl, HI1.out, by go_num, HBn⟩
      · obtain rfl : i = 2 := by omega
        replace B := B.trans (hO.mono B.size)
        clear hlt hin HX HX0 Q1 R1 PB Z3 hO hk1
        go_wp2_with fail
        refine (same_blk (blk_arg Z1 hfZ1.symm) (blk_arg Z2 hfZ1.symm)).mono ?_
        rintro e w' ⟨rfl, rfl⟩
        rw [decide_eq_true rfl]
        go_wp2_with fail
        go_ret
        exact ⟨rfl, B⟩
  · skip
    refine (lay_no (sc := sc) PB.pg PB.rcd x y P1 hk1).mono ?_
    rintro e w8 ⟨rfl, b⟩
    have u9 : ErrAt w8 1 yr := (PB.below b).rcd
    have u8 : w8.cell? ⟨1, 0, none⟩ = some (errOf yr) := u9.1
    have eqe : ∀ W, (binOp .eql 32 (errOf yr) (errOf yr)).run Tryz.prog W = .ok (.bool true) W := fun W => eql_err yr W
    replace Q1 := keepB Q1 b
    replace R1 := keepM R1 b
    replace PB := PB.below b
    replace K := keepB K b
    replace Z1 := keepZ Z1 b
    replace Z2 := keepZ Z2 b
    replace B := B.trans (b.mono B.size)
    clear b
    obtain ⟨c0, c1, c2, c3, c4, c5, c6, c7, c8, c9, c10, c11, c12, c13, _⟩ := rx_cells K
    go_wp2_with fail
    clear c0 c1 c2 c3 c4 c5 c6 c7 c8 c9 c10 c11 c12 c13
    go_ret
    exact ⟨rfl, B⟩
theorem walk (a0 a1 : Int) (n2 n3 : Nat → Int) (a4 : Option Addr) (len4 cap4 : Nat) (z4 : List Int) (W : World) (w0 : (Lit.int .i64 a0).wf = true) (w1 : (Lit.int .i64 a1).wf = true) (w2 : ∀ i, i < 2 → (Lit.int .i64 (n2 i)).wf = true) (w3 : ∀ i, i < 6 → (Lit.int .i64 (n3 i)).wf = true) (w4 : IsRow .u8 W a4 len4 cap4 z4) (h : LaidPageOwn.Holds W) :
    Calls Tryz.prog 9 #[.int .i64 a0, .int .i64 a1, .agg ((List.range 2).map fun i => .int .i64 (n2 i)).toArray, .agg ((List.range 6).map fun i => .int .i64 (n3 i)).toArray, .slice a4 len4 cap4] W fun e w' => e = .returned (.bool true) ∧ Below W.heap.size W w' := by
  obtain ⟨T, f, ⟨_, _, E3, _, E5, E6, E7, _, _⟩, _⟩ := h
  obtain ⟨l4, h4⟩ := row_pol w4
  exact core a0 a1 (n2 0) (n2 1) ⟨n3 0, n3 1, n3 2, n3 3, n3 4, n3 5⟩ a4 len4 cap4 l4 W E5 E6 E3 E7 T h4
end Go.Proofs.YtdhcigiaidlmbaaGreatDoor.walkPageOwn
