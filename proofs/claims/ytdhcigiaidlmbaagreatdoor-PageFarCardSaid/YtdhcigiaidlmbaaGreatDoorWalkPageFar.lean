/- The walk over PageFar. By the verifier of shale. -/
import Derived.Test.YtdhcigiaidlmbaaGreatDoorGreat1
import Derived.Test.YtdhcigiaidlmbaaGreatDoorGreat2
import Derived.Test.YtdhcigiaidlmbaaGreatDoorGreat3
import Derived.Test.YtdhcigiaidlmbaaGreatDoorGreat4
import Derived.Test.YtdhcigiaidlmbaaGreatDoorGreat5
import Derived.Test.YtdhcigiaidlmbaaGreatDoorGreat6
import Derived.Test.YtdhcigiaidlmbaaGreatDoorLaidPageFar
import Derived.Deep.Cut
namespace Go.Proofs.YtdhcigiaidlmbaaGreatDoor.walkPageFar
open Go Go.RowKit Bin Pl Cos Enc Syn Loc Sea Dec Crc Pg
set_option linter.unusedVariables false
set_option maxRecDepth 100000 in
set_option maxHeartbeats 4000000 in
theorem core (z1 z2 x y : Int) (P1 P2 : Meta.M6) (a : Option Addr) (na ca : Nat) (l : List (BitVec 8)) (a' : Option Addr) (na' ca' : Nat) (l' : List (BitVec 8)) (w : World) {yc ym yz yr : Addr} (EC : ErrAt w 4 yc) (EM : ErrAt w 6 ym) (EZ : ErrAt w 9 yz) (ER : ErrAt w 1 yr) (T : Tab w) (A1 : Pol w a na ca l) (A2 : Pol w a' na' ca' l') :
    Calls Tryz.prog 8 #[.int .i64 z1, .int .i64 z2, .agg #[.int .i64 x, .int .i64 y], Meta.metaV P1, Meta.metaV P2, .slice a na ca, .slice a' na' ca'] w fun e w' => e = .returned (.bool true) ∧ Below w.heap.size w w' := by
  go_enter Tryz.func8, Tryz.ntmps8
  have B : Below w.heap.size w w := Below.refl _ _
  go_wp2_with fail
  generalize hw : w.alloc (.cells #[.int .i64 x, .int .i64 y] 43 (0, 0)) = w1
  obtain ⟨Q1, b, hz1⟩ := newPl w w1 x y hw
  clear hw
  replace EC := EC.below b
  replace EM := EM.below b
  replace EZ := EZ.below b
  replace ER := ER.below b
  replace T := T.below b T.lt
  replace A1 := A1.below b
  replace A2 := A2.below b
  replace B := B.trans (b.mono B.size)
  clear b
  generalize hw : w1.alloc (.cells #[.int .i64 (Meta.fld P1 0), .int .i64 (Meta.fld P1 1), .int .i64 (Meta.fld P1 2), .int .i64 (Meta.fld P1 3), .int .i64 (Meta.fld P1 4), .int .i64 (Meta.fld P1 5)] 45 (0, 0)) = w2
  obtain ⟨R1, b⟩ := newMeta w1 w2 P1 hw
  have hz2 : w2.heap.size = w1.heap.size + 1 := by rw [← hw]; simp
  clear hw
  replace EC := EC.below b
  replace EM := EM.below b
  replace EZ := EZ.below b
  replace ER := ER.below b
  replace T := T.below b T.lt
  replace A1 := A1.below b
  replace A2 := A2.below b
  replace Q1 := keepB Q1 b
  replace B := B.trans (b.mono B.size)
  clear b
  generalize hw : w2.alloc (.cells #[.int .i64 (Meta.fld P2 0), .int .i64 (Meta.fld P2 1), .int .i64 (Meta.fld P2 2), .int .i64 (Meta.fld P2 3), .int .i64 (Meta.fld P2 4), .int .i64 (Meta.fld P2 5)] 45 (0, 0)) = w3
  obtain ⟨R2, b⟩ := newMeta w2 w3 P2 hw
  have hz3 : w3.heap.size = w2.heap.size + 1 := by rw [← hw]; simp
  clear hw
  replace EC := EC.below b
  replace EM := EM.below b
  replace EZ := EZ.below b
  replace ER := ER.below b
  replace T := T.below b T.lt
  replace A1 := A1.below b
  replace A2 := A2.below b
  replace Q1 := keepB Q1 b
  replace R1 := keepM R1 b
  replace B := B.trans (b.mono B.size)
  clear b
  rw [hz2, hz1] at R2
  rw [hz1] at R1
  clear hz1 hz2 hz3
  obtain ⟨bp, hbp⟩ : ∃ bp, bp = w.heap.size := ⟨_, rfl⟩
  rw [← hbp] at Q1 R1 R2 ⊢
  clear hbp
  refine (first13_any w3 EC EM EZ ER T).mono ?_
  rintro e w4 ⟨rfl, b⟩
  replace EC := EC.below b
  replace EM := EM.below b
  replace EZ := EZ.below b
  replace ER := ER.below b
  replace T := T.below b T.lt
  replace A1 := A1.below b
  replace A2 := A2.below b
  replace Q1 := keepB Q1 b
  replace R1 := keepM R1 b
  replace R2 := keepM R2 b
  replace B := B.trans (b.mono B.size)
  clear b
  go_wp2_with fail
  refine (made_any z1 z2 w4 yc EC).mono ?_
  rintro e w5 ⟨cb, s, db, ga, gn, gc, rfl, PG, C, DA, GB, b⟩
  clear EC
  obtain ⟨s1, s2⟩ := mkS_in z2
  obtain ⟨t1, t2⟩ := mkT_in z1
  generalize Pg.mkS z2 = sc at PG C s1 s2 ⊢
  generalize Pg.mkT z1 = t at C GB t1 t2 ⊢
  replace EM := EM.below b
  replace EZ := EZ.below b
  replace ER := ER.below b
  replace T := T.below b T.lt
  replace A1 := A1.below b
  replace A2 := A2.below b
  replace Q1 := keepB Q1 b
  replace R1 := keepM R1 b
  replace R2 := keepM R2 b
  replace B := B.trans (b.mono B.size)
  clear b
  have PB : PBase 10 t sc w5 cb s db ym yz yr := ⟨PG, ⟨DA, C, EM, EZ, by omega, by omega, by omega, by omega, (may10 s2 t1 t2).room⟩, ER, T, by omega, by omega⟩
  clear PG C DA EM EZ ER T
  obtain ⟨n, hn⟩ : ∃ n, n = sc + 32 := ⟨_, rfl⟩
  have e32 : (sc : Int) + 32 = (n : Int) := by omega
  have HNn := Lib.hid hn
  have HRm := Lib.hid (show 8 * n + deg 10 t ≤ sz 10 from by rw [hn]; exact (may10 s2 t1 t2).room)
  have HDl : deg 10 t ≤ 40 := by have h1 := deg_le (m := 10) (by omega) t; omega
  rw [← hn]
  clear hn
  go_wp2_with fail
  generalize hw : w5.alloc (.cells #[.int .i64 10, .int .i64 16, .int .i64 (sc : Int), .int .i64 10, .int .i64 (t : Int), .int .i64 2, .int .i64 0, .int .i64 4, .int .i64 8, .int .i64 10, .int .i64 (t : Int), .int .i64 (n : Int), .slice ga gn gc, .int .i64 (deg 10 t : Int)] 40 (0, 0)) = w6
  obtain ⟨K, b⟩ := newRx w5 w6 _ _ _ _ _ _ _ _ _ _ _ _ _ _ hw
  clear hw
  replace A1 := A1.below b
  replace A2 := A2.below b
  replace Q1 := keepB Q1 b
  replace R1 := keepM R1 b
  replace R2 := keepM R2 b
  replace PB := PB.below b
  replace GB := GB.below b
  replace B := B.trans (b.mono B.size)
  clear b
  obtain ⟨bq, hbq⟩ : ∃ bq, bq = w5.heap.size := ⟨_, rfl⟩
  rw [← hbq] at K ⊢
  clear hbq
  refine (fit13_any a na ca l sc (by omega) w6 A1).mono ?_
  rintro e w7 ⟨rfl, Z1, b⟩
  have hfZ1 := fitL_length l sc
  generalize fitL l sc = D1 at Z1 hfZ1
  obtain ⟨gZ1, hgZ1⟩ : ∃ gZ1, gZ1 = w6.heap.size := ⟨_, rfl⟩
  rw [← hgZ1] at Z1 ⊢
  clear hgZ1
  clear A1
  replace A2 := A2.below b
  replace Q1 := keepB Q1 b
  replace R1 := keepM R1 b
  replace R2 := keepM R2 b
  replace PB := PB.below b
  replace GB := GB.below b
  replace K := keepB K b
  replace B := B.trans (b.mono B.size)
  clear b
  obtain ⟨c0, c1, c2, c3, c4, c5, c6, c7, c8, c9, c10, c11, c12, c13, _⟩ := rx_cells K
  go_wp2_with fail
  clear c0 c1 c2 c3 c4 c5 c6 c7 c8 c9 c10 c11 c12 c13
  refine (fit13_any a' na' ca' l' sc (by omega) w7 A2).mono ?_
  rintro e w8 ⟨rfl, Z2, b⟩
  have hfZ2 := fitL_length l' sc
  generalize fitL l' sc = D2 at Z2 hfZ2
  obtain ⟨gZ2, hgZ2⟩ : ∃ gZ2, gZ2 = w7.heap.size := ⟨_, rfl⟩
  rw [← hgZ2] at Z2 ⊢
  clear hgZ2
  clear A2
  replace Q1 := keepB Q1 b
  replace R1 := keepM R1 b
  replace R2 := keepM R2 b
  replace PB := PB.below b
  replace GB := GB.below b
  replace K := keepB K b
  replace Z1 := keepZ Z1 b
  replace B := B.trans (b.mono B.size)
  clear b
  obtain ⟨c0, c1, c2, c3, c4, c5, c6, c7, c8, c9, c10, c11, c12, c13, _⟩ := rx_cells K
  obtain ⟨p0, p1⟩ := pl_cells Q1
  have f0 := R1.cell 0 (by omega)
  have f1 := R1.cell 1 (by omega)
  have f2 := R1.cell 2 (by omega)
  have f3 := R1.cell 3 (by omega)
  have f4 := R1.cell 4 (by omega)
  have f5 := R1.cell 5 (by omega)
  go_wp2_with fail
  clear p0 p1
  clear f0
  clear f1
  clear f2
  clear f3
  clear f4
  clear f5
  clear c0 c1 c2 c3 c4 c5 c6 c7 c8 c9 c10 c11 c12 c13
  obtain ⟨p, hp⟩ : ∃ p, p = pb (deg 10 t) := ⟨_, rfl⟩
  have hp8 : p ≤ 5 := by rw [hp]; unfold pb; omega
  have hpp : 1 ≤ p := by have := deg_pos (m := 10) (by omega) t1; rw [hp]; unfold pb; omega
  have HPp := Lib.hid hp
  clear hp
  by_cases hk1 : Meta.May P1
  · skip
    refine (lay_any (m := 10) t1 (by omega) (by omega) (by omega) PB.pg PB.base.code PB.tab x y P1 hk1 (blk_pol Z1 hfZ1.symm (by omega))).mono ?_
    rintro e w9 ⟨gF1, cF1, rfl, F1, _, hcF1, hmF1, b⟩
    rw [← HNn.out] at hcF1 ⊢
    replace Q1 := keepB Q1 b
    replace R1 := keepM R1 b
    replace R2 := keepM R2 b
    replace PB := PB.below b
    replace GB := GB.below b
    replace K := keepB K b
    replace Z1 := keepZ Z1 b
    replace Z2 := keepZ Z2 b
    replace B := B.trans (b.mono B.size)
    clear b
    obtain ⟨c0, c1, c2, c3, c4, c5, c6, c7, c8, c9, c10, c11, c12, c13, _⟩ := rx_cells K
    obtain ⟨p0, p1⟩ := pl_cells Q1
    have f0 := R2.cell 0 (by omega)
    have f1 := R2.cell 1 (by omega)
    have f2 := R2.cell 2 (by omega)
    have f3 := R2.cell 3 (by omega)
    have f4 := R2.cell 4 (by omega)
    have f5 := R2.cell 5 (by omega)
    go_wp2_with fail
    clear p0 p1
    clear f0
    clear f1
    clear f2
    clear f3
    clear f4
    clear f5
    clear c0 c1 c2 c3 c4 c5 c6 c7 c8 c9 c10 c11 c12 c13
    by_cases hk2 : Meta.May P2
    · skip
      refine (lay_any (m := 10) t1 (by omega) (by omega) (by omega) PB.pg PB.base.code PB.tab x y P2 hk2 (blk_pol Z2 hfZ2.symm (by omega))).mono ?_
      rintro e w10 ⟨gF2, cF2, rfl, F2, _, hcF2, hmF2, b⟩
      rw [← HNn.out] at hcF2 ⊢
      replace Q1 := keepB Q1 b
      replace R1 := keepM R1 b
      replace R2 := keepM R2 b
      replace PB := PB.below b
      replace GB := GB.below b
      replace K := keepB K b
      replace Z1 := keepZ Z1 b
      replace Z2 := keepZ Z2 b
      replace F1 := keepF F1 b
      replace B := B.trans (b.mono B.size)
      clear b
      obtain ⟨c0, c1, c2, c3, c4, c5, c6, c7, c8, c9, c10, c11, c12, c13, _⟩ := rx_cells K
      go_wp2_with fail
      clear c0 c1 c2 c3 c4 c5 c6 c7 c8 c9 c10 c11 c12 c13
      rw [← HPp.out] at hcF1 hcF2 ⊢
      obtain ⟨N, hN⟩ : ∃ N, N = n + p := ⟨_, rfl⟩
      rw [← hN] at hcF1 hcF2 ⊢
      have i1 : (0 : Int) ≤ (n : Int) := by omega
      have i2 : (n : Int) ≤ (cF1 : Int) := by omega
      have i3 : (n : Int) ≤ (cF2 : Int) := by omega
      have i4 : (n : Int) ≤ (N : Int) := by omega
      have i5 : ¬ cF1 = n := by omega
      have i6 : ¬ cF2 = n := by omega
      have eP : N - n = p := by omega
      have e3 : (N : Int) - (n : Int) = (p : Int) := by omega
      have HF1 := Lib.hid hmF1
      have HF2 := Lib.hid hmF2
      obtain ⟨X1, hX1⟩ : ∃ X, X = pgD (sdOf x y) P1 D1 := ⟨_, rfl⟩
      obtain ⟨Y1, hY1⟩ : ∃ Y, Y = pgP 10 t (pgD (sdOf x y) P1 D1) := ⟨_, rfl⟩
      have hXl1 : X1.length = n := by rw [hX1, pgD_length, hfZ1, HNn.out]
      have hYl1 : Y1.length = p := by rw [hY1, pgP_length, HPp.out]
      have hpg1 : page 10 t (sdOf x y) P1 D1 = X1 ++ Y1 := by rw [hX1, hY1]; rfl
      rw [hpg1] at F1
      have PF1 := buf_pol F1 (by rw [List.length_append, hXl1, hYl1, hN]) hcF1 hmF1
      have U1 := PF1.take n (by omega)
      rw [List.take_left' hXl1] at U1
      have V1 := pol_drop PF1 n (by omega)
      rw [List.drop_left' hXl1, show 0 + n = n from by omega, eP] at V1
      have hpar1 : val Y1 % 2 ^ deg 10 t = par 10 t (val X1) := by rw [hY1, hX1]; exact pgP_val t _
      obtain ⟨Yc1, hYc1⟩ : ∃ Y, Y = byN (par 10 t (val X1)) p := ⟨_, rfl⟩
      have HYc1 : Hid (Yc1.length = p ∧ val Yc1 = val Y1 % 2 ^ deg 10 t ∧ val Yc1 = par 10 t (val X1)) := by
        have h1 : val Yc1 = par 10 t (val X1) := by rw [hYc1, HPp.out]; exact val_byN (pb_room (par_lt t _))
        exact ⟨by rw [hYc1, byN_length], by rw [hpar1, h1], h1⟩
      clear hYc1 hpar1 PF1 F1 hpg1
      obtain ⟨X2, hX2⟩ : ∃ X, X = pgD (sdOf x y) P2 D2 := ⟨_, rfl⟩
      obtain ⟨Y2, hY2⟩ : ∃ Y, Y = pgP 10 t (pgD (sdOf x y) P2 D2) := ⟨_, rfl⟩
      have hXl2 : X2.length = n := by rw [hX2, pgD_length, hfZ2, HNn.out]
      have hYl2 : Y2.length = p := by rw [hY2, pgP_length, HPp.out]
      have hpg2 : page 10 t (sdOf x y) P2 D2 = X2 ++ Y2 := by rw [hX2, hY2]; rfl
      rw [hpg2] at F2
      have PF2 := buf_pol F2 (by rw [List.length_append, hXl2, hYl2, hN]) hcF2 hmF2
      have U2 := PF2.take n (by omega)
      rw [List.take_left' hXl2] at U2
      have V2 := pol_drop PF2 n (by omega)
      rw [List.drop_left' hXl2, show 0 + n = n from by omega, eP] at V2
      have hpar2 : val Y2 % 2 ^ deg 10 t = par 10 t (val X2) := by rw [hY2, hX2]; exact pgP_val t _
      obtain ⟨Yc2, hYc2⟩ : ∃ Y, Y = byN (par 10 t (val X2)) p := ⟨_, rfl⟩
      have HYc2 : Hid (Yc2.length = p ∧ val Yc2 = val Y2 % 2 ^ deg 10 t ∧ val Yc2 = par 10 t (val X2)) := by
        have h1 : val Yc2 = par 10 t (val X2) := by rw [hYc2, HPp.out]; exact val_byN (pb_room (par_lt t _))
        exact ⟨by rw [hYc2, byN_length], by rw [hpar2, h1], h1⟩
      clear hYc2 hpar2 PF2 F2 hpg2
      have hor := far_or (m := 10) (t := t) (sc := sc) (sd := sdOf x y) (by rw [← HNn.out]; exact HRm.out) hk1 hk2 hfZ1 hfZ2
      rw [← hX1, ← hX2, ← HNn.out, ← HPp.out, ← HYc1.out.2.2, ← HYc2.out.2.2] at hor
      clear hX1 hX2 hY1 hY2 hYl1 hYl2
      obtain ⟨p1, hp1⟩ : ∃ p1, p1 = pop (val X1 ^^^ val X2) (8 * n) := ⟨_, rfl⟩
      obtain ⟨p2, hp2⟩ : ∃ p2, p2 = pop (val Yc1 ^^^ val Yc2) (8 * p) := ⟨_, rfl⟩
      rw [← hp1, ← hp2] at hor
      have hb1 : p1 ≤ 8 * n := by rw [hp1]; exact pop_le _ _
      have hb2 : p2 ≤ 8 * p := by rw [hp2]; exact pop_le _ _
      have hn71 : n ≤ 71 := by rw [HNn.out]; omega
      have HHK := Lib.hid (And.intro hk1 hk2)
      obtain ⟨fr, hfr⟩ : ∃ fr, fr = p1 + p2 := ⟨_, rfl⟩
      rw [← hfr] at hor
      have HOR := Lib.hid hor
      have hfl : fr ≤ 1000 := by omega
      have r4 : IntKind.i64.wrap ((p1 : Int) + (p2 : Int)) = (fr : Int) := by rw [IntWalk.i64_in _ (by omega)]; omega
      have hlA := lt_of_block K
      have HS9 : Hid (∀ w', Below w10.heap.size w10 w' → (w'.cell? ⟨bq, 9, none⟩ = some (.int .i64 10) ∧ w'.cell? ⟨bq, 10, none⟩ = some (.int .i64 (t : Int)) ∧ w'.cell? ⟨bq, 11, none⟩ = some (.int .i64 (n : Int)) ∧ w'.cell? ⟨bq, 12, none⟩ = some (.slice ga gn gc) ∧ w'.cell? ⟨bq, 13, none⟩ = some (.int .i64 (deg 10 t : Int)) ∧ Below w10.heap.size w10 w')) := fun w' b => by
        obtain ⟨c0, c1, c2, c3, c4, c5, c6, c7, c8, c9, c10, c11, c12, c13, _⟩ := rx_cells ((b.block bq hlA).trans K)
        exact ⟨c9, c10, c11, c12, c13, b⟩
      have HA1 : Hid (∀ w' (_ : (w'.cell? ⟨bq, 9, none⟩ = some (.int .i64 10) ∧ w'.cell? ⟨bq, 10, none⟩ = some (.int .i64 (t : Int)) ∧ w'.cell? ⟨bq, 11, none⟩ = some (.int .i64 (n : Int)) ∧ w'.cell? ⟨bq, 12, none⟩ = some (.slice ga gn gc) ∧ w'.cell? ⟨bq, 13, none⟩ = some (.int .i64 (deg 10 t : Int)) ∧ Below w10.heap.size w10 w')), Calls Tryz.prog 31 #[.slice (some ⟨gF1, 0, none⟩) n cF1, .slice (some ⟨gF2, 0, none⟩) n cF2] w' fun e w'' => e = .returned (.int .i64 (p1 : Int)) ∧ w' = w'') := fun w' hs => by rw [hp1]; exact distance_any _ _ n _ _ X1 X2 (by omega) w' (U1.below hs.2.2.2.2.2) (U2.below hs.2.2.2.2.2)
      have HC1b : Hid (∀ w' g8 (_ : (w'.cell? ⟨bq, 9, none⟩ = some (.int .i64 10) ∧ w'.cell? ⟨bq, 10, none⟩ = some (.int .i64 (t : Int)) ∧ w'.cell? ⟨bq, 11, none⟩ = some (.int .i64 (n : Int)) ∧ w'.cell? ⟨bq, 12, none⟩ = some (.slice ga gn gc) ∧ w'.cell? ⟨bq, 13, none⟩ = some (.int .i64 (deg 10 t : Int)) ∧ Below w10.heap.size w10 w')) (_ : Blk8 w' g8 Yc2), Calls Tryz.prog 32 #[.agg #[.int .i64 10, .int .i64 (t : Int), .int .i64 (n : Int), .slice ga gn gc, .int .i64 (deg 10 t : Int)], .slice (some ⟨gF1, n, none⟩) p (cF1 - n)] w' fun e w'' => ∃ g9, e = .returned (.slice (some ⟨g9, 0, none⟩) p p) ∧ (w''.cell? ⟨bq, 9, none⟩ = some (.int .i64 10) ∧ w''.cell? ⟨bq, 10, none⟩ = some (.int .i64 (t : Int)) ∧ w''.cell? ⟨bq, 11, none⟩ = some (.int .i64 (n : Int)) ∧ w''.cell? ⟨bq, 12, none⟩ = some (.slice ga gn gc) ∧ w''.cell? ⟨bq, 13, none⟩ = some (.int .i64 (deg 10 t : Int)) ∧ Below w10.heap.size w10 w'') ∧ Blk8 w'' g9 Yc1 ∧ Blk8 w'' g8 Yc2) := fun w' g8 hs hb => (rclear_any 10 t n ga gn gc (deg 10 t) p (by omega) HPp.out _ _ Y1 w' (V1.below hs.2.2.2.2.2)).mono fun e w'' h => by
        obtain ⟨g9, Y2, h1, h2, h3, h4, _, h6⟩ := h
        obtain rfl : Y2 = Yc1 := len_inj (by rw [h3, HYc1.out.1]) (by rw [h4, HYc1.out.2.1])
        exact ⟨g9, h1, HS9.out w'' (hs.2.2.2.2.2.trans (h6.mono hs.2.2.2.2.2.size)), h2, keepZ hb h6⟩
      have HC1 : Hid (∀ w' (_ : (w'.cell? ⟨bq, 9, none⟩ = some (.int .i64 10) ∧ w'.cell? ⟨bq, 10, none⟩ = some (.int .i64 (t : Int)) ∧ w'.cell? ⟨bq, 11, none⟩ = some (.int .i64 (n : Int)) ∧ w'.cell? ⟨bq, 12, none⟩ = some (.slice ga gn gc) ∧ w'.cell? ⟨bq, 13, none⟩ = some (.int .i64 (deg 10 t : Int)) ∧ Below w10.heap.size w10 w')), Calls Tryz.prog 32 #[.agg #[.int .i64 10, .int .i64 (t : Int), .int .i64 (n : Int), .slice ga gn gc, .int .i64 (deg 10 t : Int)], .slice (some ⟨gF1, n, none⟩) p (cF1 - n)] w' fun e w'' => ∃ g9, e = .returned (.slice (some ⟨g9, 0, none⟩) p p) ∧ (w''.cell? ⟨bq, 9, none⟩ = some (.int .i64 10) ∧ w''.cell? ⟨bq, 10, none⟩ = some (.int .i64 (t : Int)) ∧ w''.cell? ⟨bq, 11, none⟩ = some (.int .i64 (n : Int)) ∧ w''.cell? ⟨bq, 12, none⟩ = some (.slice ga gn gc) ∧ w''.cell? ⟨bq, 13, none⟩ = some (.int .i64 (deg 10 t : Int)) ∧ Below w10.heap.size w10 w'') ∧ Blk8 w'' g9 Yc1) := fun w' hs => (rclear_any 10 t n ga gn gc (deg 10 t) p (by omega) HPp.out _ _ Y1 w' (V1.below hs.2.2.2.2.2)).mono fun e w'' h => by
        obtain ⟨g9, Y2, h1, h2, h3, h4, _, h6⟩ := h
        obtain rfl : Y2 = Yc1 := len_inj (by rw [h3, HYc1.out.1]) (by rw [h4, HYc1.out.2.1])
        exact ⟨g9, h1, HS9.out w'' (hs.2.2.2.2.2.trans (h6.mono hs.2.2.2.2.2.size)), h2⟩
      have HC2b : Hid (∀ w' g8 (_ : (w'.cell? ⟨bq, 9, none⟩ = some (.int .i64 10) ∧ w'.cell? ⟨bq, 10, none⟩ = some (.int .i64 (t : Int)) ∧ w'.cell? ⟨bq, 11, none⟩ = some (.int .i64 (n : Int)) ∧ w'.cell? ⟨bq, 12, none⟩ = some (.slice ga gn gc) ∧ w'.cell? ⟨bq, 13, none⟩ = some (.int .i64 (deg 10 t : Int)) ∧ Below w10.heap.size w10 w')) (_ : Blk8 w' g8 Yc1), Calls Tryz.prog 32 #[.agg #[.int .i64 10, .int .i64 (t : Int), .int .i64 (n : Int), .slice ga gn gc, .int .i64 (deg 10 t : Int)], .slice (some ⟨gF2, n, none⟩) p (cF2 - n)] w' fun e w'' => ∃ g9, e = .returned (.slice (some ⟨g9, 0, none⟩) p p) ∧ (w''.cell? ⟨bq, 9, none⟩ = some (.int .i64 10) ∧ w''.cell? ⟨bq, 10, none⟩ = some (.int .i64 (t : Int)) ∧ w''.cell? ⟨bq, 11, none⟩ = some (.int .i64 (n : Int)) ∧ w''.cell? ⟨bq, 12, none⟩ = some (.slice ga gn gc) ∧ w''.cell? ⟨bq, 13, none⟩ = some (.int .i64 (deg 10 t : Int)) ∧ Below w10.heap.size w10 w'') ∧ Blk8 w'' g9 Yc2 ∧ Blk8 w'' g8 Yc1) := fun w' g8 hs hb => (rclear_any 10 t n ga gn gc (deg 10 t) p (by omega) HPp.out _ _ Y2 w' (V2.below hs.2.2.2.2.2)).mono fun e w'' h => by
        obtain ⟨g9, Y2, h1, h2, h3, h4, _, h6⟩ := h
        obtain rfl : Y2 = Yc2 := len_inj (by rw [h3, HYc2.out.1]) (by rw [h4, HYc2.out.2.1])
        exact ⟨g9, h1, HS9.out w'' (hs.2.2.2.2.2.trans (h6.mono hs.2.2.2.2.2.size)), h2, keepZ hb h6⟩
      have HC2 : Hid (∀ w' (_ : (w'.cell? ⟨bq, 9, none⟩ = some (.int .i64 10) ∧ w'.cell? ⟨bq, 10, none⟩ = some (.int .i64 (t : Int)) ∧ w'.cell? ⟨bq, 11, none⟩ = some (.int .i64 (n : Int)) ∧ w'.cell? ⟨bq, 12, none⟩ = some (.slice ga gn gc) ∧ w'.cell? ⟨bq, 13, none⟩ = some (.int .i64 (deg 10 t : Int)) ∧ Below w10.heap.size w10 w')), Calls Tryz.prog 32 #[.agg #[.int .i64 10, .int .i64 (t : Int), .int .i64 (n : Int), .slice ga gn gc, .int .i64 (deg 10 t : Int)], .slice (some ⟨gF2, n, none⟩) p (cF2 - n)] w' fun e w'' => ∃ g9, e = .returned (.slice (some ⟨g9, 0, none⟩) p p) ∧ (w''.cell? ⟨bq, 9, none⟩ = some (.int .i64 10) ∧ w''.cell? ⟨bq, 10, none⟩ = some (.int .i64 (t : Int)) ∧ w''.cell? ⟨bq, 11, none⟩ = some (.int .i64 (n : Int)) ∧ w''.cell? ⟨bq, 12, none⟩ = some (.slice ga gn gc) ∧ w''.cell? ⟨bq, 13, none⟩ = some (.int .i64 (deg 10 t : Int)) ∧ Below w10.heap.size w10 w'') ∧ Blk8 w'' g9 Yc2) := fun w' hs => (rclear_any 10 t n ga gn gc (deg 10 t) p (by omega) HPp.out _ _ Y2 w' (V2.below hs.2.2.2.2.2)).mono fun e w'' h => by
        obtain ⟨g9, Y2, h1, h2, h3, h4, _, h6⟩ := h
        obtain rfl : Y2 = Yc2 := len_inj (by rw [h3, HYc2.out.1]) (by rw [h4, HYc2.out.2.1])
        exact ⟨g9, h1, HS9.out w'' (hs.2.2.2.2.2.trans (h6.mono hs.2.2.2.2.2.size)), h2⟩
      have HA3 : Hid (∀ w' g9 g8 (_ : (w'.cell? ⟨bq, 9, none⟩ = some (.int .i64 10) ∧ w'.cell? ⟨bq, 10, none⟩ = some (.int .i64 (t : Int)) ∧ w'.cell? ⟨bq, 11, none⟩ = some (.int .i64 (n : Int)) ∧ w'.cell? ⟨bq, 12, none⟩ = some (.slice ga gn gc) ∧ w'.cell? ⟨bq, 13, none⟩ = some (.int .i64 (deg 10 t : Int)) ∧ Below w10.heap.size w10 w')) (_ : Blk8 w' g9 Yc1) (_ : Blk8 w' g8 Yc2), Calls Tryz.prog 31 #[.slice (some ⟨g9, 0, none⟩) p p, .slice (some ⟨g8, 0, none⟩) p p] w' fun e w'' => e = .returned (.int .i64 (p2 : Int)) ∧ w' = w'') := fun w' g9 g8 hs hb hb' => by rw [hp2]; exact distance_any _ _ p _ _ Yc1 Yc2 (by omega) w' (blk_pol hb HYc1.out.1.symm (by omega)) (blk_pol hb' HYc2.out.1.symm (by omega))
      have hS0 := HS9.out w10.drew ((Drawn.mk w10 1).below _)
      have HW4 := Lib.hid (And.intro Q1 (And.intro R1 (And.intro R2 (And.intro PB (And.intro K (And.intro Z1 (And.intro Z2 B)))))))
      obtain ⟨c0, c1, c2, c3, c4, c5, c6, c7, c8, c9, c10, c11, c12, c13, _⟩ := rx_cells K
      clear c0 c1 c2 c3 c4 c5 c6 c7 c8
      clear hfr hN Q1 R1 R2 PB GB K Z1 Z2 B U1 U2 V1 V2 hp1 hp2 hor hb1 hb2 hlA hk1 hk2 hmF1 hmF2
      go_region_held3 (fun w' => (w'.cell? ⟨bq, 9, none⟩ = some (.int .i64 10) ∧ w'.cell? ⟨bq, 10, none⟩ = some (.int .i64 (t : Int)) ∧ w'.cell? ⟨bq, 11, none⟩ = some (.int .i64 (n : Int)) ∧ w'.cell? ⟨bq, 12, none⟩ = some (.slice ga gn gc) ∧ w'.cell? ⟨bq, 13, none⟩ = some (.int .i64 (deg 10 t : Int)) ∧ Below w10.heap.size w10 w'))
        (first | assumption | exact ⟨by assumption, by assumption, by assumption, by assumption, by assumption, by assumption⟩)
        (first
          | (go_at_call 31; (with_reducible refine Calls.mono (HA1.out _ (by assumption)) ?_); rintro e w1 ⟨rfl, rfl⟩)
          | (go_at_call 32; (with_reducible refine Calls.mono (HC1b.out _ _ (by assumption) (by assumption)) ?_); rintro e w1 ⟨g9, rfl, z1, z2, z3⟩)
          | (go_at_call 32; (with_reducible refine Calls.mono (HC2b.out _ _ (by assumption) (by assumption)) ?_); rintro e w1 ⟨g8, rfl, z1, z3, z2⟩)
          | (go_at_call 32; (with_reducible refine Calls.mono (HC1.out _ (by assumption)) ?_); rintro e w1 ⟨g9, rfl, z1, z2⟩)
          | (go_at_call 32; (with_reducible refine Calls.mono (HC2.out _ (by assumption)) ?_); rintro e w1 ⟨g8, rfl, z1, z3⟩)
          | (go_at_call 31; (with_reducible refine Calls.mono (HA3.out _ _ _ (by assumption) (by assumption) (by assumption)) ?_); rintro e w1 ⟨rfl, rfl⟩))
      have b := z1.2.2.2.2.2
      obtain ⟨Q1, R1, R2, PB, K, Z1, Z2, B⟩ := HW4.out
      obtain ⟨w11, rfl⟩ : ∃ w', w' = w1 := ⟨_, rfl⟩
      clear z1 z2 z3 HW4 HS9 HA1 HC1b HC1 HC2b HC2 HA3 hS0 r4 i1 i2 i3 i4 i5 i6 eP e3 c9 c10 c11 c12 c13
      replace Q1 := keepB Q1 b
      replace R1 := keepM R1 b
      replace R2 := keepM R2 b
      replace PB := PB.below b
      replace K := keepB K b
      replace Z1 := keepZ Z1 b
      replace Z2 := keepZ Z2 b
      replace B := B.trans (b.mono B.size)
      clear b
      obtain ⟨c0, c1, c2, c3, c4, c5, c6, c7, c8, c9, c10, c11, c12, c13, _⟩ := rx_cells K
      have f0 := R1.cell 0 (by omega)
      have f1 := R1.cell 1 (by omega)
      have f2 := R1.cell 2 (by omega)
      have f3 := R1.cell 3 (by omega)
      have f4 := R1.cell 4 (by omega)
      have f5 := R1.cell 5 (by omega)
      have e0 := R2.cell 0 (by omega)
      have e1 := R2.cell 1 (by omega)
      have e2 := R2.cell 2 (by omega)
      have e3 := R2.cell 3 (by omega)
      have e4 := R2.cell 4 (by omega)
      have e5 := R2.cell 5 (by omega)
      go_wp2_with fail
      clear f0
      clear f1
      clear f2
      clear f3
      clear f4
      clear f5
      clear e0
      clear e1
      clear e2
      clear e3
      clear e4
      clear e5
      clear c0 c1 c2 c3 c4 c5 c6 c7 c8 c9 c10 c11 c12 c13
      by_cases hm : P1 = P2
      · skip
        refine (Meta.sameMeta_any P1 P2 w11).mono ?_
        rintro e w12 ⟨rfl, b⟩
        rw [(Meta.sameM_eq P1 P2).2 hm]
        replace Q1 := keepB Q1 b
        replace R1 := keepM R1 b
        replace R2 := keepM R2 b
        replace PB := PB.below b
        replace K := keepB K b
        replace Z1 := keepZ Z1 b
        replace Z2 := keepZ Z2 b
        replace B := B.trans (b.mono B.size)
        clear b
        obtain ⟨c0, c1, c2, c3, c4, c5, c6, c7, c8, c9, c10, c11, c12, c13, _⟩ := rx_cells K
        go_wp2_with fail
        clear c0 c1 c2 c3 c4 c5 c6 c7 c8 c9 c10 c11 c12 c13
        refine (same_blk (blk_arg Z1 hfZ1.symm) (blk_arg Z2 hfZ2.symm)).mono ?_
        rintro e w' ⟨rfl, rfl⟩
        by_cases hd : D1 = D2
        · skip
          obtain rfl : fr = 0 := by
            rcases HOR.out with ⟨_, h⟩ | ⟨h, _⟩
            · exact h
            · exact absurd (And.intro hm hd) h
          rw [decide_eq_true hd]
          clear hm hd
          obtain ⟨c0, c1, c2, c3, c4, c5, c6, c7, c8, c9, c10, c11, c12, c13, _⟩ := rx_cells K
          go_wp2_with fail
          clear c0 c1 c2 c3 c4 c5 c6 c7 c8 c9 c10 c11 c12 c13
          go_ret
          exact ⟨rfl, B⟩
        · skip
          have hfar : 2 * t < fr := by
            rcases HOR.out with ⟨h, _⟩ | ⟨_, h⟩
            · exact absurd h.2 hd
            · exact h
          have q1 : ((fr : Int) == 0) = false := by rw [beq_eq_false_iff_ne]; omega
          have q2 : 2 * (t : Int) + 1 ≤ (fr : Int) := by omega
          have q3 : ¬ (fr : Int) = 0 := by omega
          have q4 : ¬ fr = 0 := by omega
          have q5 : (fr == 0) = false := by rw [beq_eq_false_iff_ne]; omega
          rw [decide_eq_false hd]
          clear hm hd hfar
          obtain ⟨c0, c1, c2, c3, c4, c5, c6, c7, c8, c9, c10, c11, c12, c13, _⟩ := rx_cells K
          go_wp2_with fail
          clear c0 c1 c2 c3 c4 c5 c6 c7 c8 c9 c10 c11 c12 c13
          go_ret
          exact ⟨rfl, B⟩
      · skip
        have hfar : 2 * t < fr := by
          rcases HOR.out with ⟨h, _⟩ | ⟨_, h⟩
          · exact absurd h.1 hm
          · exact h
        have q1 : ((fr : Int) == 0) = false := by rw [beq_eq_false_iff_ne]; omega
        have q2 : 2 * (t : Int) + 1 ≤ (fr : Int) := by omega
        have q3 : ¬ (fr : Int) = 0 := by omega
        have q4 : ¬ fr = 0 := by omega
        have q5 : (fr == 0) = false := by rw [beq_eq_false_iff_ne]; omega
        refine (Meta.sameMeta_any P1 P2 w11).mono ?_
        rintro e w12 ⟨rfl, b⟩
        rw [Bool.eq_false_iff.2 (mt (Meta.sameM_eq P1 P2).1 hm)]
        clear hm hfar
        replace Q1 := keepB Q1 b
        replace R1 := keepM R1 b
        replace R2 := keepM R2 b
        replace PB := PB.below b
        replace K := keepB K b
        replace Z1 := keepZ Z1 b
        replace Z2 := keepZ Z2 b
        replace B := B.trans (b.mono B.size)
        clear b
        obtain ⟨c0, c1, c2, c3, c4, c5, c6, c7, c8, c9, c10, c11, c12, c13, _⟩ := rx_cells K
        go_wp2_with fail
        clear c0 c1 c2 c3 c4 c5 c6 c7 c8 c9 c10 c11 c12 c13
        go_ret
        exact ⟨rfl, B⟩
    · skip
      refine (lay_no (sc := sc) PB.pg PB.rcd x y P2 hk2).mono ?_
      rintro e w10 ⟨rfl, b⟩
      replace Q1 := keepB Q1 b
      replace R1 := keepM R1 b
      replace R2 := keepM R2 b
      replace PB := PB.below b
      replace GB := GB.below b
      replace K := keepB K b
      replace Z1 := keepZ Z1 b
      replace Z2 := keepZ Z2 b
      replace F1 := keepF F1 b
      replace B := B.trans (b.mono B.size)
      clear b
      obtain ⟨c0, c1, c2, c3, c4, c5, c6, c7, c8, c9, c10, c11, c12, c13, _⟩ := rx_cells K
      go_wp2_with fail
      clear c0 c1 c2 c3 c4 c5 c6 c7 c8 c9 c10 c11 c12 c13
      go_ret
      exact ⟨rfl, B⟩
  · skip
    refine (lay_no (sc := sc) PB.pg PB.rcd x y P1 hk1).mono ?_
    rintro e w9 ⟨rfl, b⟩
    replace Q1 := keepB Q1 b
    replace R1 := keepM R1 b
    replace R2 := keepM R2 b
    replace PB := PB.below b
    replace GB := GB.below b
    replace K := keepB K b
    replace Z1 := keepZ Z1 b
    replace Z2 := keepZ Z2 b
    replace B := B.trans (b.mono B.size)
    clear b
    obtain ⟨c0, c1, c2, c3, c4, c5, c6, c7, c8, c9, c10, c11, c12, c13, _⟩ := rx_cells K
    obtain ⟨p0, p1⟩ := pl_cells Q1
    have f0 := R2.cell 0 (by omega)
    have f1 := R2.cell 1 (by omega)
    have f2 := R2.cell 2 (by omega)
    have f3 := R2.cell 3 (by omega)
    have f4 := R2.cell 4 (by omega)
    have f5 := R2.cell 5 (by omega)
    go_wp2_with fail
    clear p0 p1
    clear f0
    clear f1
    clear f2
    clear f3
    clear f4
    clear f5
    clear c0 c1 c2 c3 c4 c5 c6 c7 c8 c9 c10 c11 c12 c13
    by_cases hk2 : Meta.May P2
    · skip
      refine (lay_any (m := 10) t1 (by omega) (by omega) (by omega) PB.pg PB.base.code PB.tab x y P2 hk2 (blk_pol Z2 hfZ2.symm (by omega))).mono ?_
      rintro e w10 ⟨gF2, cF2, rfl, F2, _, hcF2, hmF2, b⟩
      rw [← HNn.out] at hcF2 ⊢
      replace Q1 := keepB Q1 b
      replace R1 := keepM R1 b
      replace R2 := keepM R2 b
      replace PB := PB.below b
      replace GB := GB.below b
      replace K := keepB K b
      replace Z1 := keepZ Z1 b
      replace Z2 := keepZ Z2 b
      replace B := B.trans (b.mono B.size)
      clear b
      obtain ⟨c0, c1, c2, c3, c4, c5, c6, c7, c8, c9, c10, c11, c12, c13, _⟩ := rx_cells K
      go_wp2_with fail
      clear c0 c1 c2 c3 c4 c5 c6 c7 c8 c9 c10 c11 c12 c13
      go_ret
      exact ⟨rfl, B⟩
    · skip
      refine (lay_no (sc := sc) PB.pg PB.rcd x y P2 hk2).mono ?_
      rintro e w10 ⟨rfl, b⟩
      replace Q1 := keepB Q1 b
      replace R1 := keepM R1 b
      replace R2 := keepM R2 b
      replace PB := PB.below b
      replace GB := GB.below b
      replace K := keepB K b
      replace Z1 := keepZ Z1 b
      replace Z2 := keepZ Z2 b
      replace B := B.trans (b.mono B.size)
      clear b
      obtain ⟨c0, c1, c2, c3, c4, c5, c6, c7, c8, c9, c10, c11, c12, c13, _⟩ := rx_cells K
      go_wp2_with fail
      clear c0 c1 c2 c3 c4 c5 c6 c7 c8 c9 c10 c11 c12 c13
      go_ret
      exact ⟨rfl, B⟩
theorem walk (a0 a1 : Int) (n2 n3 n4 : Nat → Int) (a5 : Option Addr) (len5 cap5 : Nat) (z5 : List Int) (a6 : Option Addr) (len6 cap6 : Nat) (z6 : List Int) (W : World) (w0 : (Lit.int .i64 a0).wf = true) (w1 : (Lit.int .i64 a1).wf = true) (w2 : ∀ i, i < 2 → (Lit.int .i64 (n2 i)).wf = true) (w3 : ∀ i, i < 6 → (Lit.int .i64 (n3 i)).wf = true) (w4 : ∀ i, i < 6 → (Lit.int .i64 (n4 i)).wf = true) (w5 : IsRow .u8 W a5 len5 cap5 z5) (w6 : IsRow .u8 W a6 len6 cap6 z6) (h : LaidPageFar.Holds W) :
    Calls Tryz.prog 8 #[.int .i64 a0, .int .i64 a1, .agg ((List.range 2).map fun i => .int .i64 (n2 i)).toArray, .agg ((List.range 6).map fun i => .int .i64 (n3 i)).toArray, .agg ((List.range 6).map fun i => .int .i64 (n4 i)).toArray, .slice a5 len5 cap5, .slice a6 len6 cap6] W fun e w' => e = .returned (.bool true) ∧ Below W.heap.size W w' := by
  obtain ⟨T, f, ⟨_, _, E3, _, E5, E6, E7, _, _⟩, _⟩ := h
  obtain ⟨l5, h5⟩ := row_pol w5
  obtain ⟨l6, h6⟩ := row_pol w6
  exact core a0 a1 (n2 0) (n2 1) ⟨n3 0, n3 1, n3 2, n3 3, n3 4, n3 5⟩ ⟨n4 0, n4 1, n4 2, n4 3, n4 4, n4 5⟩ a5 len5 cap5 l5 a6 len6 cap6 l6 W (by first | exact E5 | exact E3 | exact E6 | exact E7) (by first | exact E6 | exact E5 | exact E7) (by first | exact E3 | exact E5 | exact E6) (by first | exact E7 | exact E6) T h5 h6
end Go.Proofs.YtdhcigiaidlmbaaGreatDoor.walkPageFar
