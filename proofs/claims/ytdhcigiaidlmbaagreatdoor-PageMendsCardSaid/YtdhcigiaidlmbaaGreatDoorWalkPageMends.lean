/- The walk over PageMends. By the verifier of shale. -/
import Derived.Test.YtdhcigiaidlmbaaGreatDoorGreat1
import Derived.Test.YtdhcigiaidlmbaaGreatDoorGreat2
import Derived.Test.YtdhcigiaidlmbaaGreatDoorGreat3
import Derived.Test.YtdhcigiaidlmbaaGreatDoorGreat4
import Derived.Test.YtdhcigiaidlmbaaGreatDoorGreat5
import Derived.Test.YtdhcigiaidlmbaaGreatDoorGreat6
import Derived.Test.YtdhcigiaidlmbaaGreatDoorGreat7
import Derived.Test.YtdhcigiaidlmbaaGreatDoorGreat8
import Derived.Test.YtdhcigiaidlmbaaGreatDoorLaidPageMends
import Derived.Deep.Cut
namespace Go.Proofs.YtdhcigiaidlmbaaGreatDoor.walkPageMends
open Go Go.RowKit Bin Pl Cos Enc Syn Loc Sea Dec Crc Pg
set_option linter.unusedVariables false
/-- ints that came in: each is there. -/
def ZRow (w : World) (a : Option Addr) (n c : Nat) : Prop := ∀ i, i < n → ∃ bb off z, a = some ⟨bb, off, none⟩ ∧ w.cell? ⟨bb, off + i, none⟩ = some (.int .i64 z) ∧ bb < w.heap.size
theorem ZRow.below {w w' : World} {a : Option Addr} {n c : Nat} (h : ZRow w a n c) (b : Below w.heap.size w w') : ZRow w' a n c := by
  intro i hi
  obtain ⟨bb, off, z, e, d, hb⟩ := h i hi
  exact ⟨bb, off, z, e, (b.cell (p := ⟨bb, off + i, none⟩) hb).trans d, Nat.lt_of_lt_of_le hb b.size⟩
theorem ZRow.at {w : World} {a : Option Addr} {n c : Nat} (h : ZRow w a n c) (i : Nat) (hi : i < n) : ∃ bb off z, a = some ⟨bb, off, none⟩ ∧ w.cell? ⟨bb, off + i, none⟩ = some (.int .i64 z) := by
  obtain ⟨bb, off, z, e, d, _⟩ := h i hi
  exact ⟨bb, off, z, e, d⟩
theorem newRsG (w W : World) (cls : Int) (K : Meta.M6) (dv : Value) (fx : Int) (h : w.alloc (.cells #[.int .i64 cls, .int .i64 (Meta.fld K 0), .int .i64 (Meta.fld K 1), .int .i64 (Meta.fld K 2), .int .i64 (Meta.fld K 3), .int .i64 (Meta.fld K 4), .int .i64 (Meta.fld K 5), dv, .int .i64 fx] 55 (0, 0)) = W) : W.heap[w.heap.size]? = some (rsO cls K dv fx) ∧ Below w.heap.size w W := by
  subst h
  exact ⟨heap_alloc_new w _, (Below.refl _ _).alloc (Nat.le_refl _) _⟩
attribute [local go_sem] Bits32.bxor Bits32.bxor_bit
set_option maxRecDepth 100000 in
set_option maxHeartbeats 4000000 in
theorem core (z1 z2 x y : Int) (P1 : Meta.M6) (a : Option Addr) (na ca : Nat) (l : List (BitVec 8)) (a4 : Option Addr) (n4 k4 : Nat) (hn4 : n4 ≤ 9223372036854775807) (w : World) {yc ym yz yr : Addr} (EC : ErrAt w 4 yc) (EM : ErrAt w 6 ym) (EZ : ErrAt w 9 yz) (ER : ErrAt w 1 yr) (T : Tab w) (A1 : Pol w a na ca l) (HR : ZRow w a4 n4 k4) :
    Calls Tryz.prog 5 #[.int .i64 z1, .int .i64 z2, .agg #[.int .i64 x, .int .i64 y], Meta.metaV P1, .slice a na ca, .slice a4 n4 k4] w fun e w' => e = .returned (.bool true) ∧ Below w.heap.size w w' := by
  go_enter Tryz.func5, Tryz.ntmps5
  have B : Below w.heap.size w w := Below.refl _ _
  go_wp2_with fail
  generalize hw : w.alloc (.cells #[.int .i64 x, .int .i64 y] 43 (0, 0)) = w1
  obtain ⟨Q1, b, hz1⟩ := newPl w w1 x y hw
  clear hw
  replace EC := EC.below b
  replace EM := EM.below b
  replace EZ := EZ.below b
  replace ER := ER.below b
  replace T := T.below b T.lt
  replace A1 := A1.below b
  replace HR := HR.below b
  replace B := B.trans (b.mono B.size)
  clear b
  generalize hw : w1.alloc (.cells #[.int .i64 (Meta.fld P1 0), .int .i64 (Meta.fld P1 1), .int .i64 (Meta.fld P1 2), .int .i64 (Meta.fld P1 3), .int .i64 (Meta.fld P1 4), .int .i64 (Meta.fld P1 5)] 45 (0, 0)) = w2
  obtain ⟨R1, b⟩ := newMeta w1 w2 P1 hw
  have hz2 : w2.heap.size = w1.heap.size + 1 := by rw [← hw]; simp
  clear hw
  replace EC := EC.below b
  replace EM := EM.below b
  replace EZ := EZ.below b
  replace ER := ER.below b
  replace T := T.below b T.lt
  replace A1 := A1.below b
  replace HR := HR.below b
  replace Q1 := keepB Q1 b
  replace B := B.trans (b.mono B.size)
  clear b
  rw [hz1] at R1
  clear hz1 hz2
  obtain ⟨bp, hbp⟩ : ∃ bp, bp = w.heap.size := ⟨_, rfl⟩
  rw [← hbp] at Q1 R1 ⊢
  clear hbp
  refine (first13_any w2 EC EM EZ ER T).mono ?_
  rintro e w3 ⟨rfl, b⟩
  replace EC := EC.below b
  replace EM := EM.below b
  replace EZ := EZ.below b
  replace ER := ER.below b
  replace T := T.below b T.lt
  replace A1 := A1.below b
  replace HR := HR.below b
  replace Q1 := keepB Q1 b
  replace R1 := keepM R1 b
  replace B := B.trans (b.mono B.size)
  clear b
  go_wp2_with fail
  refine (made_any z1 z2 w3 yc EC).mono ?_
  rintro e w4 ⟨cb, s, db, ga, gn, gc, rfl, PG, C, DA, GB, b⟩
  clear EC
  obtain ⟨s1, s2⟩ := mkS_in z2
  obtain ⟨t1, t2⟩ := mkT_in z1
  generalize Pg.mkS z2 = sc at PG C s1 s2 ⊢
  generalize Pg.mkT z1 = t at C GB t1 t2 ⊢
  replace EM := EM.below b
  replace EZ := EZ.below b
  replace ER := ER.below b
  replace T := T.below b T.lt
  replace A1 := A1.below b
  replace HR := HR.below b
  replace Q1 := keepB Q1 b
  replace R1 := keepM R1 b
  replace B := B.trans (b.mono B.size)
  clear b
  have PB : PBase 10 t sc w4 cb s db ym yz yr := ⟨PG, ⟨DA, C, EM, EZ, by omega, by omega, by omega, by omega, (may10 s2 t1 t2).room⟩, ER, T, by omega, by omega⟩
  clear PG C DA EM EZ ER T
  obtain ⟨n, hn⟩ : ∃ n, n = sc + 32 := ⟨_, rfl⟩
  have e32 : (sc : Int) + 32 = (n : Int) := by omega
  have HNn := Lib.hid hn
  have HRm := Lib.hid (show 8 * n + deg 10 t ≤ sz 10 from by rw [hn]; exact (may10 s2 t1 t2).room)
  have HDl : deg 10 t ≤ 40 := by have h1 := deg_le (m := 10) (by omega) t; omega
  rw [← hn]
  clear hn
  go_wp2_with fail
  generalize hw : w4.alloc (.cells #[.int .i64 10, .int .i64 16, .int .i64 (sc : Int), .int .i64 10, .int .i64 (t : Int), .int .i64 2, .int .i64 0, .int .i64 4, .int .i64 8, .int .i64 10, .int .i64 (t : Int), .int .i64 (n : Int), .slice ga gn gc, .int .i64 (deg 10 t : Int)] 40 (0, 0)) = w5
  obtain ⟨K, b⟩ := newRx w4 w5 _ _ _ _ _ _ _ _ _ _ _ _ _ _ hw
  clear hw
  replace A1 := A1.below b
  replace HR := HR.below b
  replace Q1 := keepB Q1 b
  replace R1 := keepM R1 b
  replace PB := PB.below b
  replace GB := GB.below b
  replace B := B.trans (b.mono B.size)
  clear b
  obtain ⟨bq, hbq⟩ : ∃ bq, bq = w4.heap.size := ⟨_, rfl⟩
  rw [← hbq] at K ⊢
  clear hbq
  clear GB
  refine (fit13_any a na ca l sc (by omega) w5 A1).mono ?_
  rintro e w6 ⟨rfl, Z1, b⟩
  have hfZ1 := fitL_length l sc
  generalize fitL l sc = X at Z1 hfZ1
  obtain ⟨gZ1, hgZ1⟩ : ∃ gZ1, gZ1 = w5.heap.size := ⟨_, rfl⟩
  rw [← hgZ1] at Z1 ⊢
  clear hgZ1
  clear A1
  replace HR := HR.below b
  replace Q1 := keepB Q1 b
  replace R1 := keepM R1 b
  replace PB := PB.below b
  replace K := keepB K b
  replace B := B.trans (b.mono B.size)
  clear b
  obtain ⟨c0, c1, c2, c3, c4, c5, c6, c7, c8, c9, c10, c11, c12, c13, _⟩ := rx_cells K
  obtain ⟨p0, p1⟩ := pl_cells Q1
  have f0 := R1.cell 0 (by omega)
  have f1 := R1.cell 1 (by omega)
  have f2 := R1.cell 2 (by omega)
  have f3 := R1.cell 3 (by omega)
  have f4 := R1.cell 4 (by omega)
  have f5 := R1.cell 5 (by omega)
  go_wp2_with fail
  clear p0 p1
  clear f0
  clear f1
  clear f2
  clear f3
  clear f4
  clear f5
  clear c0 c1 c2 c3 c4 c5 c6 c7 c8 c9 c10 c11 c12 c13
  obtain ⟨N, hN⟩ : ∃ N, N = sc + 32 + pb (deg 10 t) := ⟨_, rfl⟩
  have hN3 : N ≤ 76 := by rw [hN]; unfold pb; omega
  have hN1 : 1 ≤ N := by omega
  have HNN := Lib.hid hN
  clear hN
  obtain ⟨Nb, hNb⟩ : ∃ Nb, Nb = 8 * (sc + 32) + deg 10 t := ⟨_, rfl⟩
  have HNb := Lib.hid hNb
  have hNb1 : 0 < Nb := by omega
  have hNb2 : Nb ≤ 1000000 := by omega
  have hNb8 : Nb ≤ 8 * N := by rw [hNb, HNN.out]; have := pb_le (deg 10 t); omega
  have eB : 8 * (n : Int) + (deg 10 t : Int) = (Nb : Int) := by have := HNn.out; omega
  clear hNb
  by_cases hk1 : Meta.May P1
  · skip
    have HX0 := Lib.hid (And.intro Q1 (And.intro R1 (And.intro PB (And.intro K (And.intro Z1 (And.intro HR B))))))
    have hmk := fun w => madeB w Nb (by omega)
    refine (lay_any (m := 10) t1 (by omega) (by omega) (by omega) PB.pg PB.base.code PB.tab x y P1 hk1 (blk_pol Z1 hfZ1.symm (by omega))).mono ?_
    rintro e w7 ⟨gF, cF, rfl, F1, hgF, hcF, hmF, b⟩
    have bL := Lib.hid b
    rw [← HNN.out] at hcF ⊢
    replace HR := HR.below b
    replace Q1 := keepB Q1 b
    replace R1 := keepM R1 b
    replace PB := PB.below b
    replace K := keepB K b
    replace Z1 := keepZ Z1 b
    replace B := B.trans (b.mono B.size)
    clear b
    obtain ⟨c0, c1, c2, c3, c4, c5, c6, c7, c8, c9, c10, c11, c12, c13, _⟩ := rx_cells K
    go_wp2_with fail
    clear c0 c1 c2 c3 c4 c5 c6 c7 c8 c9 c10 c11 c12 c13
    clear hmk
    have hlF : gF < w7.heap.size := F1.lt
    obtain ⟨gb, hgb⟩ : ∃ gb, gb = w7.heap.size := ⟨_, rfl⟩
    have b0 : Below w6.heap.size w6 (w7.alloc (objB (List.replicate Nb false))) := bL.out.trans ((((Below.refl w7.heap.size w7).alloc (Nat.le_refl _) _)).mono bL.out.size)
    have F0 := BF.new w7 Nb
    have hF2 : Meta.Buf8 (w7.alloc (objB (List.replicate Nb false))) gF (page 10 t (sdOf x y) P1 X) := keepF F1 ((Below.refl w7.heap.size w7).alloc (Nat.le_refl _) _)
    have hgbL : w6.heap.size ≤ gb := by rw [hgb]; exact bL.out.size
    have hgFb : gF ≠ gb := by omega
    rw [← hgb] at F0 ⊢
    have hpl : (page 10 t (sdOf x y) P1 X).length = N := by rw [page_length, hfZ1, HNN.out]
    have HI0 : Hid (∃ L, Meta.Buf8 (w7.alloc (objB (List.replicate Nb false))) gF L ∧ L.length = N ∧ val L = val (page 10 t (sdOf x y) P1 X) ^^^ 0 ∧ 0 < 2 ^ Nb ∧ pop 0 Nb ≤ t ∧ 37 ≤ Meta.zeros8 L + pop 0 Nb ∧ BF (w7.alloc (objB (List.replicate Nb false))) gb Nb (fun q => (0 : Nat).testBit q) ∧ Below w6.heap.size w6 (w7.alloc (objB (List.replicate Nb false)))) :=
      ⟨_, hF2, hpl, by rw [Nat.xor_zero], Nat.two_pow_pos _, by rw [pop_zero]; exact Nat.zero_le _, by rw [pop_zero, Nat.add_zero, ← zL_all]; exact zeros_page (m := 10) (t := t) (sc := sc) (sdOf x y) P1 hk1 X, F0.of (fun i _ => by show _ = (0 : Nat).testBit i; rw [Nat.zero_testBit]), b0⟩
    generalize w7.alloc (objB (List.replicate Nb false)) = w40 at HI0 ⊢
    have HGB := Lib.hid (And.intro hgbL (And.intro hgF (And.intro hgFb (And.intro hcF (And.intro hmF hk1)))))
    clear Q1 R1 PB K Z1 HR B F1 hlF hgb b0 F0 hF2 hgbL hgF hgFb hpl hcF hmF hk1 bL
    go_loopg [22, 23] n4 (fun gh s22 s23 wx => ∃ (i E : Nat), gh = n4 - i ∧ i ≤ n4 ∧ s23 = .int .i64 (i : Int) ∧ s22 = .int .i64 (pop E Nb : Int) ∧ Hid (∃ L, Meta.Buf8 wx gF L ∧ L.length = N ∧ val L = val (page 10 t (sdOf x y) P1 X) ^^^ E ∧ E < 2 ^ Nb ∧ pop E Nb ≤ t ∧ 37 ≤ Meta.zeros8 L + pop E Nb ∧ BF wx gb Nb (fun q => E.testBit q) ∧ Below w6.heap.size w6 wx))
    case atStart => exact ⟨0, 0, rfl, Nat.zero_le _, rfl, by rw [pop_zero]; rfl, HI0⟩
    case round =>
      clear HI0
      obtain ⟨i, E, hg, hin, rfl, rfl, HX⟩ := hrel
      have HI := Lib.hid (And.intro hg hin)
      clear hg
      obtain ⟨pc, hpc⟩ : ∃ pc, pc = pop E Nb := ⟨_, rfl⟩
      rw [← hpc]
      have HPc := Lib.hid hpc
      have hpct : pc ≤ t := by obtain ⟨L, _, _, _, _, h, _⟩ := HX.out; rw [hpc]; exact h
      clear hpc
      obtain ⟨w41, rfl⟩ : ∃ w', w' = wr := ⟨_, rfl⟩
      by_cases hlt : i < n4 ∧ pc < t
      · obtain ⟨hlt, hct⟩ := hlt
        have x0 : (0 : Int) ≤ (i : Int) := by omega
        have x1 : (i : Int) < (n4 : Int) := by omega
        have x2 : (pc : Int) < (t : Int) := by omega
        have x3 : decide ((i : Int) < (n4 : Int)) = true := decide_eq_true x1
        have x4 : decide ((pc : Int) < (t : Int)) = true := decide_eq_true x2
        obtain ⟨L, hBuf, hLl, hLv, hE, hpE, hz, hBF, hO⟩ := HX.out
        obtain ⟨Q1, R1, PB, K, Z1, HR, B⟩ := HX0.out
        obtain ⟨bb, off, z, rfl, d1⟩ := (HR.below hO).at i hlt
        have c4 := (rx_cells (keepB K hO)).2.2.2.2.1
        obtain ⟨r1, r2, q, hq, r3⟩ := norm_var z Nb hNb1 hNb2
        have y0 : (0 : Int) ≤ (q : Int) := by omega
        have y1 : (q : Int) / 8 < (N : Int) := by omega
        have y2 : (q : Int) < (Nb : Int) := by omega
        have y3 : (0 : Int) ≤ (q : Int) / 8 := by omega
        have d5 := hBF.cell (i := q) hq
        have d6 := hBF.free q
        cases hb : E.testBit q
        · rw [hb] at d5
          have hE2 : E ^^^ 2 ^ q < 2 ^ Nb := Nat.xor_lt_two_pow hE (pow_lt2 hq)
          have hp2 : pop (E ^^^ 2 ^ q) Nb = pc + 1 := by rw [HPc.out]; exact pop_turn hb _ hq
          have o8 := Only.setCell w41 ⟨gb, q, none⟩ (.bool true)
          have hF8 := bf_put hBF q true
          replace hF8 := hF8.of (q := fun j => (E ^^^ 2 ^ q).testBit j) fun j _ => by
            have h := flip_bit E q j
            rw [hb] at h
            exact h
          have hB8 : Meta.Buf8 (w41.setCell ⟨gb, q, none⟩ (.bool true)) gF L := by
            obtain ⟨cur, ty, h1, h2⟩ := hBuf
            exact ⟨cur, ty, (o8.block gF HGB.out.2.2.1).trans h1, h2⟩
          have hO8 := hO.trans (o8.below HGB.out.1)
          have e1 := hB8.cell (q / 8) (by omega)
          have e2 := hB8.free (q / 8)
          have hset := hB8.set (q / 8) (by omega) (nth8 L (q / 8) ^^^ BitVec.twoPow 8 (q % 8))
          have o9 := Only.setCell (w41.setCell ⟨gb, q, none⟩ (.bool true)) ⟨gF, q / 8, none⟩ (.int .u8 (Bits32.b (nth8 L (q / 8) ^^^ BitVec.twoPow 8 (q % 8))))
          have HNx : Hid (∃ L', Meta.Buf8 ((w41.setCell ⟨gb, q, none⟩ (.bool true)).setCell ⟨gF, q / 8, none⟩ (.int .u8 (Bits32.b (nth8 L (q / 8) ^^^ BitVec.twoPow 8 (q % 8))))) gF L' ∧ L'.length = N ∧ val L' = val (page 10 t (sdOf x y) P1 X) ^^^ (E ^^^ 2 ^ q) ∧ E ^^^ 2 ^ q < 2 ^ Nb ∧ pop (E ^^^ 2 ^ q) Nb ≤ t ∧ 37 ≤ Meta.zeros8 L' + pop (E ^^^ 2 ^ q) Nb ∧ BF ((w41.setCell ⟨gb, q, none⟩ (.bool true)).setCell ⟨gF, q / 8, none⟩ (.int .u8 (Bits32.b (nth8 L (q / 8) ^^^ BitVec.twoPow 8 (q % 8))))) gb Nb (fun j => (E ^^^ 2 ^ q).testBit j) ∧ Below w6.heap.size w6 ((w41.setCell ⟨gb, q, none⟩ (.bool true)).setCell ⟨gF, q / 8, none⟩ (.int .u8 (Bits32.b (nth8 L (q / 8) ^^^ BitVec.twoPow 8 (q % 8)))))) := by
            refine ⟨L.set (q / 8) (nth8 L (q / 8) ^^^ BitVec.twoPow 8 (q % 8)), hset, by rw [List.length_set]; exact hLl, ?_, hE2, by rw [hp2]; exact hct, ?_, (o9.block gb (Ne.symm HGB.out.2.2.1)).trans hF8, hO8.trans (o9.below HGB.out.2.1)⟩
            · rw [val_turn L q (by omega), hLv, Nat.xor_assoc]
            · have := zeros_flip L (q / 8) (q % 8) (by omega) (by omega)
              rw [hp2]; have := HPc.out; omega
          have HI1 : Hid (i + 1 ≤ n4 ∧ pop (E ^^^ 2 ^ q) Nb = pc + 1) := ⟨hlt, hp2⟩
          clear Q1 R1 PB K Z1 HR B hBuf hLl hLv hE hpE hz hBF hO HX hE2 hp2 o8 hF8 hB8 hO8 hset o9 hb hin
          go_wp2_with fail
          go_roundg (n4 - (i + 1))
          case measure => have := HI.out; have := HI1.out; omega
          case rel => exact ⟨i + 1, E ^^^ 2 ^ q, rfl, HI1.out.1, by go_num, by rw [HI1.out.2]; go_num, HNx⟩
        · rw [hb] at d5
          have HNx : Hid (∃ L, Meta.Buf8 w41 gF L ∧ L.length = N ∧ val L = val (page 10 t (sdOf x y) P1 X) ^^^ E ∧ E < 2 ^ Nb ∧ pop E Nb ≤ t ∧ 37 ≤ Meta.zeros8 L + pop E Nb ∧ BF w41 gb Nb (fun q => E.testBit q) ∧ Below w6.heap.size w6 w41) := ⟨L, hBuf, hLl, hLv, hE, hpE, hz, hBF, hO⟩
          have HI1 : Hid (i + 1 ≤ n4) := hlt
          clear Q1 R1 PB K Z1 HR B hBuf hLl hLv hE hpE hz hBF hO HX hb hin
          go_wp2_with fail
          go_roundg (n4 - (i + 1))
          case measure => have := HI.out; have := HI1.out; omega
          case rel => exact ⟨i + 1, E, rfl, HI1.out, by go_num, by rw [HPc.out], HNx⟩
      · obtain ⟨L, hBuf, hLl, hLv, hE, hpE, hz, hBF, hO⟩ := HX.out
        obtain ⟨Q1, R1, PB, K, Z1, HR, B⟩ := HX0.out
        replace Q1 := keepB Q1 hO
        replace R1 := keepM R1 hO
        replace PB := PB.below hO
        replace K := keepB K hO
        replace Z1 := keepZ Z1 hO
        replace B := B.trans (hO.mono B.size)
        have hP := buf_pol hBuf hLl.symm HGB.out.2.2.2.1 HGB.out.2.2.2.2.1
        have hzz : t < Meta.zL L N := by
          have h := zL_all L
          rw [hLl] at h
          rw [h]; have := HPc.out; omega
        rw [HNb.out] at hE hpE
        have HOp := open_near (m := 10) PB x y hP HNN.out HGB.out.2.2.2.2.2 hfZ1 hE hLv hpE hzz
        rw [← HNb.out, ← HPc.out] at HOp
        replace HOp := Lib.hid HOp
        clear HX hBuf hLl hLv hE hpE hz hBF hO HR hP hzz HX0
        by_cases hi : i < n4
        · have x1 : (i : Int) < (n4 : Int) := by omega
          have x3 : decide ((i : Int) < (n4 : Int)) = true := decide_eq_true x1
          have x2 : ¬ ((pc : Int) < (t : Int)) := by omega
          have x4 : decide ((pc : Int) < (t : Int)) = false := decide_eq_false x2
          clear hlt hi hin
          obtain ⟨c0, c1, c2, c3, c4, c5, c6, c7, c8, c9, c10, c11, c12, c13, _⟩ := rx_cells K
          obtain ⟨p0, p1⟩ := pl_cells Q1
          go_wp2_with fail
          clear p0 p1
          clear c0 c1 c2 c3 c4 c5 c6 c7 c8 c9 c10 c11 c12 c13
          refine HOp.out.mono ?_
          rintro e w42 ⟨gr, rfl, Zr, hgr, b⟩
          clear HOp
          replace Q1 := keepB Q1 b
          replace R1 := keepM R1 b
          replace K := keepB K b
          replace Z1 := keepZ Z1 b
          replace B := B.trans (b.mono B.size)
          clear b
          obtain ⟨c0, c1, c2, c3, c4, c5, c6, c7, c8, c9, c10, c11, c12, c13, _⟩ := rx_cells K
          go_upto_region 21 with (fail)
          clear c0 c1 c2 c3 c4 c5 c6 c7 c8 c9 c10 c11 c12 c13
          generalize hw : w42.alloc (.cells #[.int .i64 1, .int .i64 (Meta.fld P1 0), .int .i64 (Meta.fld P1 1), .int .i64 (Meta.fld P1 2), .int .i64 (Meta.fld P1 3), .int .i64 (Meta.fld P1 4), .int .i64 (Meta.fld P1 5), .slice (some ⟨gr, 0, none⟩) sc sc, .int .i64 (pc : Int)] 55 (0, 0)) = w43
          obtain ⟨Qr, b⟩ := newRsG w42 w43 _ P1 _ _ hw
          clear hw
          replace Q1 := keepB Q1 b
          replace R1 := keepM R1 b
          replace K := keepB K b
          replace Z1 := keepZ Z1 b
          replace Zr := keepZ Zr b
          replace B := B.trans (b.mono B.size)
          clear b
          obtain ⟨br, hbr⟩ : ∃ br, br = w42.heap.size := ⟨_, rfl⟩
          rw [← hbr] at Qr ⊢
          clear hbr
          obtain ⟨v0, v1, v2, v3, v4, v5, v6, v7, v8, _⟩ := rs_cells Qr
          have f0 := R1.cell 0 (by omega)
          have f1 := R1.cell 1 (by omega)
          have f2 := R1.cell 2 (by omega)
          have f3 := R1.cell 3 (by omega)
          have f4 := R1.cell 4 (by omega)
          have f5 := R1.cell 5 (by omega)
          go_wp2_with fail
          clear v0 v1 v2 v3 v4 v5 v6 v7 v8
          clear f0
          clear f1
          clear f2
          clear f3
          clear f4
          clear f5
          refine (Meta.sameMeta_any P1 P1 w43).mono ?_
          rintro e w44 ⟨rfl, b⟩
          rw [(Meta.sameM_eq P1 P1).2 rfl]
          replace Q1 := keepB Q1 b
          replace R1 := keepM R1 b
          replace K := keepB K b
          replace Z1 := keepZ Z1 b
          replace Zr := keepZ Zr b
          replace Qr := keepB Qr b
          replace B := B.trans (b.mono B.size)
          clear b
          obtain ⟨v0, v1, v2, v3, v4, v5, v6, v7, v8, _⟩ := rs_cells Qr
          have f0 := R1.cell 0 (by omega)
          have f1 := R1.cell 1 (by omega)
          have f2 := R1.cell 2 (by omega)
          have f3 := R1.cell 3 (by omega)
          have f4 := R1.cell 4 (by omega)
          have f5 := R1.cell 5 (by omega)
          go_wp2_with fail
          clear v0 v1 v2 v3 v4 v5 v6 v7 v8
          clear f0
          clear f1
          clear f2
          clear f3
          clear f4
          clear f5
          refine (same_blk (blk_arg Zr hfZ1.symm) (blk_arg Z1 hfZ1.symm)).mono ?_
          rintro e w' ⟨rfl, rfl⟩
          rw [decide_eq_true rfl]
          obtain ⟨v0, v1, v2, v3, v4, v5, v6, v7, v8, _⟩ := rs_cells Qr
          have f0 := R1.cell 0 (by omega)
          have f1 := R1.cell 1 (by omega)
          have f2 := R1.cell 2 (by omega)
          have f3 := R1.cell 3 (by omega)
          have f4 := R1.cell 4 (by omega)
          have f5 := R1.cell 5 (by omega)
          go_wp2_with fail
          clear v0 v1 v2 v3 v4 v5 v6 v7 v8
          clear f0
          clear f1
          clear f2
          clear f3
          clear f4
          clear f5
          go_ret
          exact ⟨rfl, B⟩
        · have x1 : ¬ ((i : Int) < (n4 : Int)) := by omega
          have x3 : decide ((i : Int) < (n4 : Int)) = false := decide_eq_false x1
          clear hlt hi hin
          obtain ⟨c0, c1, c2, c3, c4, c5, c6, c7, c8, c9, c10, c11, c12, c13, _⟩ := rx_cells K
          obtain ⟨p0, p1⟩ := pl_cells Q1
          go_wp2_with fail
          clear p0 p1
          clear c0 c1 c2 c3 c4 c5 c6 c7 c8 c9 c10 c11 c12 c13
          refine HOp.out.mono ?_
          rintro e w42 ⟨gr, rfl, Zr, hgr, b⟩
          clear HOp
          replace Q1 := keepB Q1 b
          replace R1 := keepM R1 b
          replace K := keepB K b
          replace Z1 := keepZ Z1 b
          replace B := B.trans (b.mono B.size)
          clear b
          obtain ⟨c0, c1, c2, c3, c4, c5, c6, c7, c8, c9, c10, c11, c12, c13, _⟩ := rx_cells K
          go_upto_region 21 with (fail)
          clear c0 c1 c2 c3 c4 c5 c6 c7 c8 c9 c10 c11 c12 c13
          generalize hw : w42.alloc (.cells #[.int .i64 1, .int .i64 (Meta.fld P1 0), .int .i64 (Meta.fld P1 1), .int .i64 (Meta.fld P1 2), .int .i64 (Meta.fld P1 3), .int .i64 (Meta.fld P1 4), .int .i64 (Meta.fld P1 5), .slice (some ⟨gr, 0, none⟩) sc sc, .int .i64 (pc : Int)] 55 (0, 0)) = w43
          obtain ⟨Qr, b⟩ := newRsG w42 w43 _ P1 _ _ hw
          clear hw
          replace Q1 := keepB Q1 b
          replace R1 := keepM R1 b
          replace K := keepB K b
          replace Z1 := keepZ Z1 b
          replace Zr := keepZ Zr b
          replace B := B.trans (b.mono B.size)
          clear b
          obtain ⟨br, hbr⟩ : ∃ br, br = w42.heap.size := ⟨_, rfl⟩
          rw [← hbr] at Qr ⊢
          clear hbr
          obtain ⟨v0, v1, v2, v3, v4, v5, v6, v7, v8, _⟩ := rs_cells Qr
          have f0 := R1.cell 0 (by omega)
          have f1 := R1.cell 1 (by omega)
          have f2 := R1.cell 2 (by omega)
          have f3 := R1.cell 3 (by omega)
          have f4 := R1.cell 4 (by omega)
          have f5 := R1.cell 5 (by omega)
          go_wp2_with fail
          clear v0 v1 v2 v3 v4 v5 v6 v7 v8
          clear f0
          clear f1
          clear f2
          clear f3
          clear f4
          clear f5
          refine (Meta.sameMeta_any P1 P1 w43).mono ?_
          rintro e w44 ⟨rfl, b⟩
          rw [(Meta.sameM_eq P1 P1).2 rfl]
          replace Q1 := keepB Q1 b
          replace R1 := keepM R1 b
          replace K := keepB K b
          replace Z1 := keepZ Z1 b
          replace Zr := keepZ Zr b
          replace Qr := keepB Qr b
          replace B := B.trans (b.mono B.size)
          clear b
          obtain ⟨v0, v1, v2, v3, v4, v5, v6, v7, v8, _⟩ := rs_cells Qr
          have f0 := R1.cell 0 (by omega)
          have f1 := R1.cell 1 (by omega)
          have f2 := R1.cell 2 (by omega)
          have f3 := R1.cell 3 (by omega)
          have f4 := R1.cell 4 (by omega)
          have f5 := R1.cell 5 (by omega)
          go_wp2_with fail
          clear v0 v1 v2 v3 v4 v5 v6 v7 v8
          clear f0
          clear f1
          clear f2
          clear f3
          clear f4
          clear f5
          refine (same_blk (blk_arg Zr hfZ1.symm) (blk_arg Z1 hfZ1.symm)).mono ?_
          rintro e w' ⟨rfl, rfl⟩
          rw [decide_eq_true rfl]
          obtain ⟨v0, v1, v2, v3, v4, v5, v6, v7, v8, _⟩ := rs_cells Qr
          have f0 := R1.cell 0 (by omega)
          have f1 := R1.cell 1 (by omega)
          have f2 := R1.cell 2 (by omega)
          have f3 := R1.cell 3 (by omega)
          have f4 := R1.cell 4 (by omega)
          have f5 := R1.cell 5 (by omega)
          go_wp2_with fail
          clear v0 v1 v2 v3 v4 v5 v6 v7 v8
          clear f0
          clear f1
          clear f2
          clear f3
          clear f4
          clear f5
          go_ret
          exact ⟨rfl, B⟩
  · skip
    refine (lay_no (sc := sc) PB.pg PB.rcd x y P1 hk1).mono ?_
    rintro e w7 ⟨rfl, b⟩
    have u9 : ErrAt w7 1 yr := (PB.below b).rcd
    have u8 : w7.cell? ⟨1, 0, none⟩ = some (errOf yr) := u9.1
    have eqe : ∀ W, (binOp .eql 32 (errOf yr) (errOf yr)).run Tryz.prog W = .ok (.bool true) W := fun W => eql_err yr W
    replace HR := HR.below b
    replace Q1 := keepB Q1 b
    replace R1 := keepM R1 b
    replace PB := PB.below b
    replace K := keepB K b
    replace Z1 := keepZ Z1 b
    replace B := B.trans (b.mono B.size)
    clear b
    obtain ⟨c0, c1, c2, c3, c4, c5, c6, c7, c8, c9, c10, c11, c12, c13, _⟩ := rx_cells K
    go_wp2_with fail
    clear c0 c1 c2 c3 c4 c5 c6 c7 c8 c9 c10 c11 c12 c13
    go_ret
    exact ⟨rfl, B⟩
theorem walk (a0 a1 : Int) (n2 n3 : Nat → Int) (a4 : Option Addr) (len4 cap4 : Nat) (z4 : List Int) (a5 : Option Addr) (len5 cap5 : Nat) (z5 : List Int) (W : World) (w0 : (Lit.int .i64 a0).wf = true) (w1 : (Lit.int .i64 a1).wf = true) (w2 : ∀ i, i < 2 → (Lit.int .i64 (n2 i)).wf = true) (w3 : ∀ i, i < 6 → (Lit.int .i64 (n3 i)).wf = true) (w4 : IsRow .u8 W a4 len4 cap4 z4) (w5 : IsRow .i64 W a5 len5 cap5 z5) (h : LaidPageMends.Holds W) :
    Calls Tryz.prog 5 #[.int .i64 a0, .int .i64 a1, .agg ((List.range 2).map fun i => .int .i64 (n2 i)).toArray, .agg ((List.range 6).map fun i => .int .i64 (n3 i)).toArray, .slice a4 len4 cap4, .slice a5 len5 cap5] W fun e w' => e = .returned (.bool true) ∧ Below W.heap.size W w' := by
  obtain ⟨T, f, ⟨_, _, E3, _, E5, E6, E7, _, _⟩, _⟩ := h
  obtain ⟨l4, h4⟩ := row_pol w4
  obtain ⟨_, m5⟩ := isrow_z w5
  refine core a0 a1 (n2 0) (n2 1) ⟨n3 0, n3 1, n3 2, n3 3, n3 4, n3 5⟩ a4 len4 cap4 l4 a5 len5 cap5 (by unfold maxLen at m5; omega) W E5 E6 E3 E7 T h4 fun i hi => ?_
  obtain ⟨_, _, h⟩ := w5.at
  obtain ⟨bb, off, z, e, d, hb, _⟩ := h i hi
  exact ⟨bb, off, z, e, d, hb⟩
end Go.Proofs.YtdhcigiaidlmbaaGreatDoor.walkPageMends
