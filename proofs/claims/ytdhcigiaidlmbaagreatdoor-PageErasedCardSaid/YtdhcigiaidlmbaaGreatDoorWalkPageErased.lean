/- The walk over PageErased. By the verifier of shale. -/
import Derived.Test.YtdhcigiaidlmbaaGreatDoorGreat1
import Derived.Test.YtdhcigiaidlmbaaGreatDoorGreat2
import Derived.Test.YtdhcigiaidlmbaaGreatDoorGreat3
import Derived.Test.YtdhcigiaidlmbaaGreatDoorGreat4
import Derived.Test.YtdhcigiaidlmbaaGreatDoorGreat5
import Derived.Test.YtdhcigiaidlmbaaGreatDoorGreat6
import Derived.Test.YtdhcigiaidlmbaaGreatDoorGreat7
import Derived.Test.YtdhcigiaidlmbaaGreatDoorGreat8
import Derived.Test.YtdhcigiaidlmbaaGreatDoorLaidPageErased
import Derived.Deep.Cut
namespace Go.Proofs.YtdhcigiaidlmbaaGreatDoor.walkPageErased
open Go Go.RowKit Bin Pl Cos Enc Syn Loc Sea Dec Crc Pg
set_option linter.unusedVariables false
/-- ints that came in: each is there. -/
def ZRow (w : World) (a : Option Addr) (n c : Nat) : Prop := ∀ i, i < n → ∃ bb off z, a = some ⟨bb, off, none⟩ ∧ w.cell? ⟨bb, off + i, none⟩ = some (.int .i64 z) ∧ bb < w.heap.size
theorem ZRow.below {w w' : World} {a : Option Addr} {n c : Nat} (h : ZRow w a n c) (b : Below w.heap.size w w') : ZRow w' a n c := by
  intro i hi
  obtain ⟨bb, off, z, e, d, hb⟩ := h i hi
  exact ⟨bb, off, z, e, (b.cell (p := ⟨bb, off + i, none⟩) hb).trans d, Nat.lt_of_lt_of_le hb b.size⟩
theorem ZRow.at {w : World} {a : Option Addr} {n c : Nat} (h : ZRow w a n c) (i : Nat) (hi : i < n) : ∃ bb off z, a = some ⟨bb, off, none⟩ ∧ w.cell? ⟨bb, off + i, none⟩ = some (.int .i64 z) := by
  obtain ⟨bb, off, z, e, d, _⟩ := h i hi
  exact ⟨bb, off, z, e, d⟩
theorem newRsV (w W : World) (h : w.alloc (.cells #[.int .i64 2, .int .i64 (Meta.fld Meta.zeroM 0), .int .i64 (Meta.fld Meta.zeroM 1), .int .i64 (Meta.fld Meta.zeroM 2), .int .i64 (Meta.fld Meta.zeroM 3), .int .i64 (Meta.fld Meta.zeroM 4), .int .i64 (Meta.fld Meta.zeroM 5), .slice none 0 0, .int .i64 0] 55 (0, 0)) = W) : W.heap[w.heap.size]? = some (rsO 2 Meta.zeroM (.slice none 0 0) 0) ∧ Below w.heap.size w W := by
  subst h
  exact ⟨heap_alloc_new w _, (Below.refl _ _).alloc (Nat.le_refl _) _⟩
attribute [local go_sem] Dec.bclear Dec.bclear_bit
set_option maxRecDepth 100000 in
set_option maxHeartbeats 4000000 in
theorem core (z1 z2 x y : Int) (P1 : Meta.M6) (a : Option Addr) (na ca : Nat) (l : List (BitVec 8)) (a4 : Option Addr) (n4 k4 : Nat) (w : World) {yc ym yz yr : Addr} (EC : ErrAt w 4 yc) (EM : ErrAt w 6 ym) (EZ : ErrAt w 9 yz) (ER : ErrAt w 1 yr) (T : Tab w) (A1 : Pol w a na ca l) (HR : ZRow w a4 n4 k4) :
    Calls Tryz.prog 6 #[.int .i64 z1, .int .i64 z2, .agg #[.int .i64 x, .int .i64 y], Meta.metaV P1, .slice a na ca, .slice a4 n4 k4] w fun e w' => e = .returned (.bool true) ∧ Below w.heap.size w w' := by
  go_enter Tryz.func6, Tryz.ntmps6
  have B : Below w.heap.size w w := Below.refl _ _
  go_wp2_with fail
  generalize hw : w.alloc (.cells #[.int .i64 x, .int .i64 y] 43 (0, 0)) = w1
  obtain ⟨Q1, b, hz1⟩ := newPl w w1 x y hw
  clear hw
  replace EC := EC.below b
  replace EM := EM.below b
  replace EZ := EZ.below b
  replace ER := ER.below b
  replace T := T.below b T.lt
  replace A1 := A1.below b
  replace HR := HR.below b
  replace B := B.trans (b.mono B.size)
  clear b
  generalize hw : w1.alloc (.cells #[.int .i64 (Meta.fld P1 0), .int .i64 (Meta.fld P1 1), .int .i64 (Meta.fld P1 2), .int .i64 (Meta.fld P1 3), .int .i64 (Meta.fld P1 4), .int .i64 (Meta.fld P1 5)] 45 (0, 0)) = w2
  obtain ⟨R1, b⟩ := newMeta w1 w2 P1 hw
  have hz2 : w2.heap.size = w1.heap.size + 1 := by rw [← hw]; simp
  clear hw
  replace EC := EC.below b
  replace EM := EM.below b
  replace EZ := EZ.below b
  replace ER := ER.below b
  replace T := T.below b T.lt
  replace A1 := A1.below b
  replace HR := HR.below b
  replace Q1 := keepB Q1 b
  replace B := B.trans (b.mono B.size)
  clear b
  rw [hz1] at R1
  clear hz1 hz2
  obtain ⟨bp, hbp⟩ : ∃ bp, bp = w.heap.size := ⟨_, rfl⟩
  rw [← hbp] at Q1 R1 ⊢
  clear hbp
  refine (first13_any w2 EC EM EZ ER T).mono ?_
  rintro e w3 ⟨rfl, b⟩
  replace EC := EC.below b
  replace EM := EM.below b
  replace EZ := EZ.below b
  replace ER := ER.below b
  replace T := T.below b T.lt
  replace A1 := A1.below b
  replace HR := HR.below b
  replace Q1 := keepB Q1 b
  replace R1 := keepM R1 b
  replace B := B.trans (b.mono B.size)
  clear b
  go_wp2_with fail
  refine (made_any z1 z2 w3 yc EC).mono ?_
  rintro e w4 ⟨cb, s, db, ga, gn, gc, rfl, PG, C, DA, GB, b⟩
  clear EC
  obtain ⟨s1, s2⟩ := mkS_in z2
  obtain ⟨t1, t2⟩ := mkT_in z1
  generalize Pg.mkS z2 = sc at PG C s1 s2 ⊢
  generalize Pg.mkT z1 = t at C GB t1 t2 ⊢
  replace EM := EM.below b
  replace EZ := EZ.below b
  replace ER := ER.below b
  replace T := T.below b T.lt
  replace A1 := A1.below b
  replace HR := HR.below b
  replace Q1 := keepB Q1 b
  replace R1 := keepM R1 b
  replace B := B.trans (b.mono B.size)
  clear b
  have PB : PBase 10 t sc w4 cb s db ym yz yr := ⟨PG, ⟨DA, C, EM, EZ, by omega, by omega, by omega, by omega, (may10 s2 t1 t2).room⟩, ER, T, by omega, by omega⟩
  clear PG C DA EM EZ ER T
  obtain ⟨n, hn⟩ : ∃ n, n = sc + 32 := ⟨_, rfl⟩
  have e32 : (sc : Int) + 32 = (n : Int) := by omega
  have HNn := Lib.hid hn
  have HRm := Lib.hid (show 8 * n + deg 10 t ≤ sz 10 from by rw [hn]; exact (may10 s2 t1 t2).room)
  have HDl : deg 10 t ≤ 40 := by have h1 := deg_le (m := 10) (by omega) t; omega
  rw [← hn]
  clear hn
  go_wp2_with fail
  generalize hw : w4.alloc (.cells #[.int .i64 10, .int .i64 16, .int .i64 (sc : Int), .int .i64 10, .int .i64 (t : Int), .int .i64 2, .int .i64 0, .int .i64 4, .int .i64 8, .int .i64 10, .int .i64 (t : Int), .int .i64 (n : Int), .slice ga gn gc, .int .i64 (deg 10 t : Int)] 40 (0, 0)) = w5
  obtain ⟨K, b⟩ := newRx w4 w5 _ _ _ _ _ _ _ _ _ _ _ _ _ _ hw
  clear hw
  replace A1 := A1.below b
  replace HR := HR.below b
  replace Q1 := keepB Q1 b
  replace R1 := keepM R1 b
  replace PB := PB.below b
  replace GB := GB.below b
  replace B := B.trans (b.mono B.size)
  clear b
  obtain ⟨bq, hbq⟩ : ∃ bq, bq = w4.heap.size := ⟨_, rfl⟩
  rw [← hbq] at K ⊢
  clear hbq
  refine (rsize_any sc t n ga gn gc (deg 10 t) (by omega) (by omega) w5).mono ?_
  rintro e w6 ⟨rfl, b⟩
  obtain ⟨N, hN⟩ : ∃ N, N = sc + 32 + pb (deg 10 t) := ⟨_, rfl⟩
  have hN3 : N ≤ 76 := by rw [hN]; unfold pb; omega
  have hN1 : 1 ≤ N := by omega
  have HNN := Lib.hid hN
  rw [← hN]
  clear hN
  have hmk := made8 w6 N (by omega)
  have HN0 : Hid (Buf8 (w6.alloc (obj8 (List.replicate N 0))) w6.heap.size (fillB N 0) ∧ Below w6.heap.size w6 (w6.alloc (obj8 (List.replicate N 0)))) := ⟨by rw [fillB_0]; exact blk_buf (heap_alloc_new w6 _), (Below.refl _ _).alloc (Nat.le_refl _) _⟩
  obtain ⟨g, hg⟩ : ∃ g, g = w6.heap.size := ⟨_, rfl⟩
  have HG := Lib.hid hg
  rw [← hg] at HN0 hmk
  clear hg
  replace A1 := A1.below b
  replace HR := HR.below b
  replace Q1 := keepB Q1 b
  replace R1 := keepM R1 b
  replace PB := PB.below b
  replace GB := GB.below b
  replace K := keepB K b
  replace B := B.trans (b.mono B.size)
  clear b
  obtain ⟨c0, c1, c2, c3, c4, c5, c6, c7, c8, c9, c10, c11, c12, c13, _⟩ := rx_cells K
  go_wp2_with fail
  clear c0 c1 c2 c3 c4 c5 c6 c7 c8 c9 c10 c11 c12 c13
  clear hmk
  generalize w6.alloc (obj8 (List.replicate N 0)) = wb at HN0 ⊢
  have HX0 := Lib.hid (And.intro Q1 (And.intro R1 (And.intro PB (And.intro K (And.intro A1 (And.intro HR B))))))
  clear Q1 R1 PB GB K A1 HR B
  go_loopg [18] N (fun gh s18 wx => ∃ i : Nat, gh = N - i ∧ i ≤ N ∧ s18 = .int .i64 (i : Int) ∧ Hid (Buf8 wx g (fillB N i) ∧ Below g w6 wx))
  case atStart => exact ⟨0, rfl, Nat.zero_le _, rfl, HN0⟩
  case round =>
    clear HN0
    obtain ⟨i, hg, hin, rfl, HX⟩ := hrel
    have HI := Lib.hid hg
    clear hg
    by_cases hlt : i < N
    · have x1 : (i : Int) < (N : Int) := by omega
      have x0 : (0 : Int) ≤ (i : Int) := by omega
      have hBuf := HX.out.1
      have cv := hBuf.cell i (by rw [fillB_length hin]; exact hlt)
      have fr := hBuf.free i
      generalize Bits32.b (nth8 (fillB N i) i) = z0 at cv
      have HN : Hid (Buf8 (wr.setCell ⟨g, i, none⟩ (.int .u8 255)) g (fillB N (i + 1)) ∧ Below g w6 (wr.setCell ⟨g, i, none⟩ (.int .u8 255))) := by
        have h := hBuf.set i (by rw [fillB_length hin]; exact hlt) 255#8
        rw [fillB_set hlt] at h
        exact ⟨h, HX.out.2.setCell (Nat.le_refl _) _⟩
      clear HX hBuf
      go_wp2_with fail
      go_roundg (N - (i + 1))
      case measure => have := HI.out; omega
      case rel => exact ⟨i + 1, rfl, hlt, by go_num, HN⟩
    · obtain rfl : N = i := by omega
      have HL0 : Hid (∃ L, Buf8 wr g L ∧ L.length = N ∧ Meta.zeros8 L ≤ 0 ∧ Below g w6 wr) := ⟨onesL N, by have := HX.out.1; rwa [fillB_n] at this, by unfold onesL; simp, by
        have h := zL_all (onesL N)
        rw [show (onesL N).length = N by unfold onesL; simp, zL_ones N N (Nat.le_refl _)] at h
        omega, HX.out.2⟩
      clear HX hin hlt HI
      obtain ⟨M8, hM⟩ : ∃ M, M = 8 * N := ⟨_, rfl⟩
      have eM : 8 * (N : Int) = (M8 : Int) := by omega
      have hM1 : 0 < M8 := by omega
      have hM2 : M8 ≤ 1000000 := by omega
      have HM8 := Lib.hid hM
      clear hM
      go_wp2_with fail
      go_loopg [19] t (fun gh s19 wx => ∃ i : Nat, gh = t - i ∧ i ≤ t ∧ i ≤ n4 ∧ s19 = .int .i64 (i : Int) ∧ Hid (∃ L, Buf8 wx g L ∧ L.length = N ∧ Meta.zeros8 L ≤ i ∧ Below g w6 wx))
      case atStart => exact ⟨0, rfl, Nat.zero_le _, Nat.zero_le _, rfl, HL0⟩
      case round =>
        clear HL0
        obtain ⟨i, hg, hin, hin4, rfl, HX⟩ := hrel
        have HI := Lib.hid hg
        clear hg
        obtain ⟨L, hBuf, hLl, hLz, hO⟩ := HX.out
        obtain ⟨Q1, R1, PB, K, A1, HR, B⟩ := HX0.out
        have hO' := hO
        rw [HG.out] at hO'
        replace K := keepB K hO'
        by_cases hlt : i < n4
        · by_cases hlt2 : i < t
          · have x1 : (i : Int) < (n4 : Int) := by omega
            have x2 : (i : Int) < (t : Int) := by omega
            have x0 : (0 : Int) ≤ (i : Int) := by omega
            obtain ⟨bb, off, z, rfl, d1⟩ := (HR.below hO').at i hlt
            obtain ⟨c0, c1, c2, c3, c4, _⟩ := rx_cells K
            obtain ⟨r1, r2, q, hq, r3⟩ := norm_var z M8 hM1 hM2
            have HI2 := Lib.hid (And.intro hBuf (And.intro hLl (And.intro hLz hO)))
            have y0 : (0 : Int) ≤ (q : Int) := by omega
            have y1 : (q : Int) / 8 < (N : Int) := by have := HM8.out; omega
            have e1 := hBuf.cell (q / 8) (by have := HM8.out; omega)
            have e2 := hBuf.free (q / 8)
            have HNx : Hid (∃ L', Buf8 (wr.setCell ⟨g, q / 8, none⟩ (.int .u8 (Bits32.b (nth8 L (q / 8) &&& ~~~BitVec.twoPow 8 (q % 8))))) g L' ∧ L'.length = N ∧ Meta.zeros8 L' ≤ i + 1 ∧ Below g w6 (wr.setCell ⟨g, q / 8, none⟩ (.int .u8 (Bits32.b (nth8 L (q / 8) &&& ~~~BitVec.twoPow 8 (q % 8)))))) := by
              refine ⟨L.set (q / 8) (nth8 L (q / 8) &&& ~~~BitVec.twoPow 8 (q % 8)), hBuf.set (q / 8) (by have := HM8.out; omega) _, by rw [List.length_set]; exact hLl, ?_, hO.setCell (Nat.le_refl _) _⟩
              have := zeros_off L (q / 8) (q % 8) (by have := HM8.out; omega) (by omega)
              omega
            clear Q1 R1 PB K A1 HR B hO hO' hBuf HX hLl hLz c0 c1 c2 c3
            go_wp2_with fail
            go_roundg (t - (i + 1))
            case measure => have := HI.out; omega
            case rel => exact ⟨i + 1, rfl, by omega, by omega, by go_num, HNx⟩
          · skip
            obtain rfl : t = i := by omega
            have u1 : (t : Int) < (n4 : Int) := by omega
            have u2 : ¬ (t : Int) < (t : Int) := by omega
            replace Q1 := keepB Q1 hO'
            replace R1 := keepM R1 hO'
            replace PB := PB.below hO'
            replace A1 := A1.below hO'
            replace B := B.trans (hO'.mono B.size)
            have hP := buf_polF hBuf (by rw [hLl]; omega) (by rw [hLl]; unfold maxLen; omega)
            rw [hLl] at hP
            have hz : Meta.zL L N ≤ t := by have h := zL_all L; rw [hLl] at h; omega
            clear HX hBuf hLl hLz hO hO' HI HR HX0
            obtain ⟨w20, rfl⟩ : ∃ w', w' = wr := ⟨_, rfl⟩
            obtain ⟨c0, c1, c2, c3, c4, c5, c6, c7, c8, c9, c10, c11, c12, c13, _⟩ := rx_cells K
            obtain ⟨p0, p1⟩ := pl_cells Q1
            go_wp2_with fail
            clear p0 p1
            clear c0 c1 c2 c3 c4 c5 c6 c7 c8 c9 c10 c11 c12 c13
            refine (openE_any PB x y hP HNN.out hz).mono ?_
            rintro e w21 ⟨rfl, b⟩
            clear hP hz
            replace Q1 := keepB Q1 b
            replace R1 := keepM R1 b
            replace PB := PB.below b
            replace K := keepB K b
            replace A1 := A1.below b
            replace B := B.trans (b.mono B.size)
            clear b
            obtain ⟨c0, c1, c2, c3, c4, c5, c6, c7, c8, c9, c10, c11, c12, c13, _⟩ := rx_cells K
            go_wp2_with fail
            clear c0 c1 c2 c3 c4 c5 c6 c7 c8 c9 c10 c11 c12 c13
            generalize hw : w21.alloc (.cells #[.int .i64 2, .int .i64 (Meta.fld Meta.zeroM 0), .int .i64 (Meta.fld Meta.zeroM 1), .int .i64 (Meta.fld Meta.zeroM 2), .int .i64 (Meta.fld Meta.zeroM 3), .int .i64 (Meta.fld Meta.zeroM 4), .int .i64 (Meta.fld Meta.zeroM 5), .slice none 0 0, .int .i64 0] 55 (0, 0)) = w22
            obtain ⟨Qr, b⟩ := newRsV w21 w22 hw
            clear hw
            replace Q1 := keepB Q1 b
            replace R1 := keepM R1 b
            replace PB := PB.below b
            replace K := keepB K b
            replace A1 := A1.below b
            replace B := B.trans (b.mono B.size)
            clear b
            obtain ⟨br, hbr⟩ : ∃ br, br = w21.heap.size := ⟨_, rfl⟩
            rw [← hbr] at Qr ⊢
            clear hbr
            by_cases hk1 : Meta.May P1
            · skip
              have hlA := lt_of_block K
              have hlQ := lt_of_block Q1
              have hlR := R1.lt
              have HS : Hid (∀ w', Below w22.heap.size w22 w' → (w'.cell? ⟨bq, 2, none⟩ = some (.int .i64 (sc : Int)) ∧ w'.cell? ⟨bp, 0, none⟩ = some (.int .i64 x) ∧ w'.cell? ⟨bp, 1, none⟩ = some (.int .i64 y) ∧ w'.cell? ⟨bp + 1, 0, none⟩ = some (.int .i64 (Meta.fld P1 0)) ∧ w'.cell? ⟨bp + 1, 1, none⟩ = some (.int .i64 (Meta.fld P1 1)) ∧ w'.cell? ⟨bp + 1, 2, none⟩ = some (.int .i64 (Meta.fld P1 2)) ∧ w'.cell? ⟨bp + 1, 3, none⟩ = some (.int .i64 (Meta.fld P1 3)) ∧ w'.cell? ⟨bp + 1, 4, none⟩ = some (.int .i64 (Meta.fld P1 4)) ∧ w'.cell? ⟨bp + 1, 5, none⟩ = some (.int .i64 (Meta.fld P1 5)) ∧ Below w22.heap.size w22 w')) := fun w' b => by
                obtain ⟨c0, c1, c2, _⟩ := rx_cells ((b.block bq hlA).trans K)
                obtain ⟨p0, p1⟩ := pl_cells ((b.block bp hlQ).trans Q1)
                have R1' := keepM R1 b
                exact ⟨c2, p0, p1, R1'.cell 0 (by omega), R1'.cell 1 (by omega), R1'.cell 2 (by omega), R1'.cell 3 (by omega), R1'.cell 4 (by omega), R1'.cell 5 (by omega), b⟩
              have hfl := fitL_length l sc
              have HFt : Hid (∀ w' (_ : (w'.cell? ⟨bq, 2, none⟩ = some (.int .i64 (sc : Int)) ∧ w'.cell? ⟨bp, 0, none⟩ = some (.int .i64 x) ∧ w'.cell? ⟨bp, 1, none⟩ = some (.int .i64 y) ∧ w'.cell? ⟨bp + 1, 0, none⟩ = some (.int .i64 (Meta.fld P1 0)) ∧ w'.cell? ⟨bp + 1, 1, none⟩ = some (.int .i64 (Meta.fld P1 1)) ∧ w'.cell? ⟨bp + 1, 2, none⟩ = some (.int .i64 (Meta.fld P1 2)) ∧ w'.cell? ⟨bp + 1, 3, none⟩ = some (.int .i64 (Meta.fld P1 3)) ∧ w'.cell? ⟨bp + 1, 4, none⟩ = some (.int .i64 (Meta.fld P1 4)) ∧ w'.cell? ⟨bp + 1, 5, none⟩ = some (.int .i64 (Meta.fld P1 5)) ∧ Below w22.heap.size w22 w')), Calls Tryz.prog 22 #[.slice a na ca, .int .i64 (sc : Int)] w' fun e w'' => ∃ g9, e = .returned (.slice (some ⟨g9, 0, none⟩) sc sc) ∧ (w''.cell? ⟨bq, 2, none⟩ = some (.int .i64 (sc : Int)) ∧ w''.cell? ⟨bp, 0, none⟩ = some (.int .i64 x) ∧ w''.cell? ⟨bp, 1, none⟩ = some (.int .i64 y) ∧ w''.cell? ⟨bp + 1, 0, none⟩ = some (.int .i64 (Meta.fld P1 0)) ∧ w''.cell? ⟨bp + 1, 1, none⟩ = some (.int .i64 (Meta.fld P1 1)) ∧ w''.cell? ⟨bp + 1, 2, none⟩ = some (.int .i64 (Meta.fld P1 2)) ∧ w''.cell? ⟨bp + 1, 3, none⟩ = some (.int .i64 (Meta.fld P1 3)) ∧ w''.cell? ⟨bp + 1, 4, none⟩ = some (.int .i64 (Meta.fld P1 4)) ∧ w''.cell? ⟨bp + 1, 5, none⟩ = some (.int .i64 (Meta.fld P1 5)) ∧ Below w22.heap.size w22 w'') ∧ Blk8 w'' g9 (fitL l sc)) := fun w' hs => (fit13_any a na ca l sc (by omega) w' (A1.below hs.2.2.2.2.2.2.2.2.2)).mono fun e w'' h => ⟨_, h.1, HS.out w'' (hs.2.2.2.2.2.2.2.2.2.trans (h.2.2.mono hs.2.2.2.2.2.2.2.2.2.size)), h.2.1⟩
              have HLy : Hid (∀ w' g9 (_ : (w'.cell? ⟨bq, 2, none⟩ = some (.int .i64 (sc : Int)) ∧ w'.cell? ⟨bp, 0, none⟩ = some (.int .i64 x) ∧ w'.cell? ⟨bp, 1, none⟩ = some (.int .i64 y) ∧ w'.cell? ⟨bp + 1, 0, none⟩ = some (.int .i64 (Meta.fld P1 0)) ∧ w'.cell? ⟨bp + 1, 1, none⟩ = some (.int .i64 (Meta.fld P1 1)) ∧ w'.cell? ⟨bp + 1, 2, none⟩ = some (.int .i64 (Meta.fld P1 2)) ∧ w'.cell? ⟨bp + 1, 3, none⟩ = some (.int .i64 (Meta.fld P1 3)) ∧ w'.cell? ⟨bp + 1, 4, none⟩ = some (.int .i64 (Meta.fld P1 4)) ∧ w'.cell? ⟨bp + 1, 5, none⟩ = some (.int .i64 (Meta.fld P1 5)) ∧ Below w22.heap.size w22 w')) (_ : Blk8 w' g9 (fitL l sc)), Calls Tryz.prog 20 #[.pointer (some ⟨cb, 0, none⟩), .agg #[.int .i64 x, .int .i64 y], .agg #[.int .i64 (Meta.fld P1 0), .int .i64 (Meta.fld P1 1), .int .i64 (Meta.fld P1 2), .int .i64 (Meta.fld P1 3), .int .i64 (Meta.fld P1 4), .int .i64 (Meta.fld P1 5)], .slice (some ⟨g9, 0, none⟩) sc sc] w' fun e w'' => ∃ gF cF, e = .returned (.tuple #[.slice (some ⟨gF, 0, none⟩) N cF, .nilIface]) ∧ (w''.cell? ⟨bq, 2, none⟩ = some (.int .i64 (sc : Int)) ∧ w''.cell? ⟨bp, 0, none⟩ = some (.int .i64 x) ∧ w''.cell? ⟨bp, 1, none⟩ = some (.int .i64 y) ∧ w''.cell? ⟨bp + 1, 0, none⟩ = some (.int .i64 (Meta.fld P1 0)) ∧ w''.cell? ⟨bp + 1, 1, none⟩ = some (.int .i64 (Meta.fld P1 1)) ∧ w''.cell? ⟨bp + 1, 2, none⟩ = some (.int .i64 (Meta.fld P1 2)) ∧ w''.cell? ⟨bp + 1, 3, none⟩ = some (.int .i64 (Meta.fld P1 3)) ∧ w''.cell? ⟨bp + 1, 4, none⟩ = some (.int .i64 (Meta.fld P1 4)) ∧ w''.cell? ⟨bp + 1, 5, none⟩ = some (.int .i64 (Meta.fld P1 5)) ∧ Below w22.heap.size w22 w'') ∧ Pol w'' (some ⟨gF, 0, none⟩) N cF (page 10 t (sdOf x y) P1 (fitL l sc))) := fun w' g9 hs hb => (lay_any (m := 10) t1 (by omega) (by omega) (by omega) (PB.below hs.2.2.2.2.2.2.2.2.2).pg (PB.below hs.2.2.2.2.2.2.2.2.2).base.code (PB.below hs.2.2.2.2.2.2.2.2.2).tab x y P1 hk1 (blk_pol hb hfl.symm (by omega))).mono fun e w'' h => by
                obtain ⟨gF, cF, h1, h2, _, h3, h4, h5⟩ := h
                rw [← HNN.out] at h1 h3
                exact ⟨gF, cF, h1, HS.out w'' (hs.2.2.2.2.2.2.2.2.2.trans (h5.mono hs.2.2.2.2.2.2.2.2.2.size)), buf_pol h2 (by rw [page_length, hfl, HNN.out]) h3 h4⟩
              have hS0 := HS.out w22.drew ((Drawn.mk w22 1).below _)
              have HW4 := Lib.hid (And.intro K (And.intro Qr B))
              obtain ⟨c0, c1, c2, c3, c4, c5, c6, c7, c8, c9, c10, c11, c12, c13, _⟩ := rx_cells K
              obtain ⟨p0, p1⟩ := pl_cells Q1
              have f0 := R1.cell 0 (by omega)
              have f1 := R1.cell 1 (by omega)
              have f2 := R1.cell 2 (by omega)
              have f3 := R1.cell 3 (by omega)
              have f4 := R1.cell 4 (by omega)
              have f5 := R1.cell 5 (by omega)
              clear c0 c1 c3 c4 c5 c6 c7 c8 c9 c10 c11 c12 c13 Q1 R1 PB A1 K Qr B hlA hlQ hlR
              go_region_held3 (fun w' => (w'.cell? ⟨bq, 2, none⟩ = some (.int .i64 (sc : Int)) ∧ w'.cell? ⟨bp, 0, none⟩ = some (.int .i64 x) ∧ w'.cell? ⟨bp, 1, none⟩ = some (.int .i64 y) ∧ w'.cell? ⟨bp + 1, 0, none⟩ = some (.int .i64 (Meta.fld P1 0)) ∧ w'.cell? ⟨bp + 1, 1, none⟩ = some (.int .i64 (Meta.fld P1 1)) ∧ w'.cell? ⟨bp + 1, 2, none⟩ = some (.int .i64 (Meta.fld P1 2)) ∧ w'.cell? ⟨bp + 1, 3, none⟩ = some (.int .i64 (Meta.fld P1 3)) ∧ w'.cell? ⟨bp + 1, 4, none⟩ = some (.int .i64 (Meta.fld P1 4)) ∧ w'.cell? ⟨bp + 1, 5, none⟩ = some (.int .i64 (Meta.fld P1 5)) ∧ Below w22.heap.size w22 w'))
                (first | assumption | exact ⟨by assumption, by assumption, by assumption, by assumption, by assumption, by assumption, by assumption, by assumption, by assumption, by assumption⟩)
                (first
                  | (go_at_call 22; (with_reducible refine Calls.mono (HFt.out _ (by assumption)) ?_); rintro e w1 ⟨g9, rfl, z1, z2⟩)
                  | (go_at_call 20; (with_reducible refine Calls.mono (HLy.out _ _ (by assumption) (by assumption)) ?_); rintro e w1 ⟨gF, cF, rfl, z1, z3⟩))
              have b := z1.2.2.2.2.2.2.2.2.2
              obtain ⟨K, Qr, B⟩ := HW4.out
              obtain ⟨w30, rfl⟩ : ∃ w', w' = w1 := ⟨_, rfl⟩
              clear z1 z2 HW4 HS HFt HLy hS0 c2 p0 p1 f0 f1 f2 f3 f4 f5
              replace K := keepB K b
              replace Qr := keepB Qr b
              replace B := B.trans (b.mono B.size)
              clear b
              obtain ⟨c0, c1, c2, c3, c4, c5, c6, c7, c8, c9, c10, c11, c12, c13, _⟩ := rx_cells K
              obtain ⟨v0, v1, _, _, _, _, _, v7, _⟩ := rs_cells Qr
              have v9 : Meta.fld Meta.zeroM 0 = 0 := rfl
              go_wp2_with fail
              clear v0 v1 v7 v9
              clear c0 c1 c2 c3 c4 c5 c6 c7 c8 c9 c10 c11 c12 c13
              obtain ⟨zz, hzz⟩ : ∃ z, z = Meta.zL (page 10 t (sdOf x y) P1 (fitL l sc)) N := ⟨_, rfl⟩
              have h37 : 37 ≤ zz := by
                have h := zeros_page (m := 10) (t := t) (sc := sc) (sdOf x y) P1 hk1 (fitL l sc)
                rw [page_length, hfl, ← HNN.out] at h
                rw [hzz]; exact h
              have h8 : zz ≤ 8 * N := by rw [hzz]; exact Meta.zL_le _ _
              have x9 : 2 * (t : Int) < (zz : Int) := by omega
              have HW9 : Hid (decide (IntKind.i64.wrap (2 * (t : Int)) < (zz : Int)) = true) := by
                show _ = _
                rw [IntWalk.i64_in _ (by omega)]
                exact decide_eq_true x9
              clear x9
              have hlA := lt_of_block K
              have HS : Hid (∀ w', Below w30.heap.size w30 w' → (w'.cell? ⟨bq, 4, none⟩ = some (.int .i64 (t : Int)) ∧ Below w30.heap.size w30 w')) := fun w' b => ⟨(b.cell (p := ⟨bq, 4, none⟩) hlA).trans (rx_cells K).2.2.2.2.1, b⟩
              have HZ : Hid (∀ w' (_ : (w'.cell? ⟨bq, 4, none⟩ = some (.int .i64 (t : Int)) ∧ Below w30.heap.size w30 w')), Calls Tryz.prog 28 #[.slice (some ⟨gF, 0, none⟩) N cF] w' fun e w'' => e = .returned (.int .i64 (zz : Int)) ∧ (w''.cell? ⟨bq, 4, none⟩ = some (.int .i64 (t : Int)) ∧ Below w30.heap.size w30 w'')) := fun w' hs => by
                rw [hzz]
                exact (zeros_any _ _ N _ w' (z3.below hs.2) (by omega)).mono fun e w'' h => ⟨h.1, h.2 ▸ hs⟩
              have hS0 := HS.out w30.drew ((Drawn.mk w30 1).below _)
              have c4 := (rx_cells K).2.2.2.2.1
              have HB := Lib.hid B
              clear hzz h37 h8 hlA K Qr B z3 hk1 hfl
              go_region_held3 (fun w' => (w'.cell? ⟨bq, 4, none⟩ = some (.int .i64 (t : Int)) ∧ Below w30.heap.size w30 w'))
                (first | assumption | exact ⟨by assumption, by assumption⟩)
                (first
                  | (go_at_call 28; (with_reducible refine Calls.mono (HZ.out _ (by assumption)) ?_); rintro e w1 ⟨rfl, z1⟩))
              have b := z1.2
              have B := HB.out.trans (b.mono HB.out.size)
              clear z1 b hS0 c4
              go_wp2_with fail
              go_ret
              exact ⟨congrArg (fun b => Ending.returned (Value.bool b)) HW9.out, B⟩
            · skip
              have hlA := lt_of_block K
              have hlQ := lt_of_block Q1
              have hlR := R1.lt
              have HS : Hid (∀ w', Below w22.heap.size w22 w' → (w'.cell? ⟨bq, 2, none⟩ = some (.int .i64 (sc : Int)) ∧ w'.cell? ⟨bp, 0, none⟩ = some (.int .i64 x) ∧ w'.cell? ⟨bp, 1, none⟩ = some (.int .i64 y) ∧ w'.cell? ⟨bp + 1, 0, none⟩ = some (.int .i64 (Meta.fld P1 0)) ∧ w'.cell? ⟨bp + 1, 1, none⟩ = some (.int .i64 (Meta.fld P1 1)) ∧ w'.cell? ⟨bp + 1, 2, none⟩ = some (.int .i64 (Meta.fld P1 2)) ∧ w'.cell? ⟨bp + 1, 3, none⟩ = some (.int .i64 (Meta.fld P1 3)) ∧ w'.cell? ⟨bp + 1, 4, none⟩ = some (.int .i64 (Meta.fld P1 4)) ∧ w'.cell? ⟨bp + 1, 5, none⟩ = some (.int .i64 (Meta.fld P1 5)) ∧ Below w22.heap.size w22 w')) := fun w' b => by
                obtain ⟨c0, c1, c2, _⟩ := rx_cells ((b.block bq hlA).trans K)
                obtain ⟨p0, p1⟩ := pl_cells ((b.block bp hlQ).trans Q1)
                have R1' := keepM R1 b
                exact ⟨c2, p0, p1, R1'.cell 0 (by omega), R1'.cell 1 (by omega), R1'.cell 2 (by omega), R1'.cell 3 (by omega), R1'.cell 4 (by omega), R1'.cell 5 (by omega), b⟩
              have hfl := fitL_length l sc
              have HFt : Hid (∀ w' (_ : (w'.cell? ⟨bq, 2, none⟩ = some (.int .i64 (sc : Int)) ∧ w'.cell? ⟨bp, 0, none⟩ = some (.int .i64 x) ∧ w'.cell? ⟨bp, 1, none⟩ = some (.int .i64 y) ∧ w'.cell? ⟨bp + 1, 0, none⟩ = some (.int .i64 (Meta.fld P1 0)) ∧ w'.cell? ⟨bp + 1, 1, none⟩ = some (.int .i64 (Meta.fld P1 1)) ∧ w'.cell? ⟨bp + 1, 2, none⟩ = some (.int .i64 (Meta.fld P1 2)) ∧ w'.cell? ⟨bp + 1, 3, none⟩ = some (.int .i64 (Meta.fld P1 3)) ∧ w'.cell? ⟨bp + 1, 4, none⟩ = some (.int .i64 (Meta.fld P1 4)) ∧ w'.cell? ⟨bp + 1, 5, none⟩ = some (.int .i64 (Meta.fld P1 5)) ∧ Below w22.heap.size w22 w')), Calls Tryz.prog 22 #[.slice a na ca, .int .i64 (sc : Int)] w' fun e w'' => ∃ g9, e = .returned (.slice (some ⟨g9, 0, none⟩) sc sc) ∧ (w''.cell? ⟨bq, 2, none⟩ = some (.int .i64 (sc : Int)) ∧ w''.cell? ⟨bp, 0, none⟩ = some (.int .i64 x) ∧ w''.cell? ⟨bp, 1, none⟩ = some (.int .i64 y) ∧ w''.cell? ⟨bp + 1, 0, none⟩ = some (.int .i64 (Meta.fld P1 0)) ∧ w''.cell? ⟨bp + 1, 1, none⟩ = some (.int .i64 (Meta.fld P1 1)) ∧ w''.cell? ⟨bp + 1, 2, none⟩ = some (.int .i64 (Meta.fld P1 2)) ∧ w''.cell? ⟨bp + 1, 3, none⟩ = some (.int .i64 (Meta.fld P1 3)) ∧ w''.cell? ⟨bp + 1, 4, none⟩ = some (.int .i64 (Meta.fld P1 4)) ∧ w''.cell? ⟨bp + 1, 5, none⟩ = some (.int .i64 (Meta.fld P1 5)) ∧ Below w22.heap.size w22 w'') ∧ Blk8 w'' g9 (fitL l sc)) := fun w' hs => (fit13_any a na ca l sc (by omega) w' (A1.below hs.2.2.2.2.2.2.2.2.2)).mono fun e w'' h => ⟨_, h.1, HS.out w'' (hs.2.2.2.2.2.2.2.2.2.trans (h.2.2.mono hs.2.2.2.2.2.2.2.2.2.size)), h.2.1⟩
              have HLy : Hid (∀ w' g9 (_ : (w'.cell? ⟨bq, 2, none⟩ = some (.int .i64 (sc : Int)) ∧ w'.cell? ⟨bp, 0, none⟩ = some (.int .i64 x) ∧ w'.cell? ⟨bp, 1, none⟩ = some (.int .i64 y) ∧ w'.cell? ⟨bp + 1, 0, none⟩ = some (.int .i64 (Meta.fld P1 0)) ∧ w'.cell? ⟨bp + 1, 1, none⟩ = some (.int .i64 (Meta.fld P1 1)) ∧ w'.cell? ⟨bp + 1, 2, none⟩ = some (.int .i64 (Meta.fld P1 2)) ∧ w'.cell? ⟨bp + 1, 3, none⟩ = some (.int .i64 (Meta.fld P1 3)) ∧ w'.cell? ⟨bp + 1, 4, none⟩ = some (.int .i64 (Meta.fld P1 4)) ∧ w'.cell? ⟨bp + 1, 5, none⟩ = some (.int .i64 (Meta.fld P1 5)) ∧ Below w22.heap.size w22 w')) (_ : Blk8 w' g9 (fitL l sc)), Calls Tryz.prog 20 #[.pointer (some ⟨cb, 0, none⟩), .agg #[.int .i64 x, .int .i64 y], .agg #[.int .i64 (Meta.fld P1 0), .int .i64 (Meta.fld P1 1), .int .i64 (Meta.fld P1 2), .int .i64 (Meta.fld P1 3), .int .i64 (Meta.fld P1 4), .int .i64 (Meta.fld P1 5)], .slice (some ⟨g9, 0, none⟩) sc sc] w' fun e w'' => e = .returned (.tuple #[.slice none 0 0, errOf yr]) ∧ (w''.cell? ⟨bq, 2, none⟩ = some (.int .i64 (sc : Int)) ∧ w''.cell? ⟨bp, 0, none⟩ = some (.int .i64 x) ∧ w''.cell? ⟨bp, 1, none⟩ = some (.int .i64 y) ∧ w''.cell? ⟨bp + 1, 0, none⟩ = some (.int .i64 (Meta.fld P1 0)) ∧ w''.cell? ⟨bp + 1, 1, none⟩ = some (.int .i64 (Meta.fld P1 1)) ∧ w''.cell? ⟨bp + 1, 2, none⟩ = some (.int .i64 (Meta.fld P1 2)) ∧ w''.cell? ⟨bp + 1, 3, none⟩ = some (.int .i64 (Meta.fld P1 3)) ∧ w''.cell? ⟨bp + 1, 4, none⟩ = some (.int .i64 (Meta.fld P1 4)) ∧ w''.cell? ⟨bp + 1, 5, none⟩ = some (.int .i64 (Meta.fld P1 5)) ∧ Below w22.heap.size w22 w'')) := fun w' g9 hs hb => (lay_no (sc := sc) (PB.below hs.2.2.2.2.2.2.2.2.2).pg (PB.below hs.2.2.2.2.2.2.2.2.2).rcd x y P1 hk1).mono fun e w'' h => ⟨h.1, HS.out w'' (hs.2.2.2.2.2.2.2.2.2.trans (h.2.mono hs.2.2.2.2.2.2.2.2.2.size))⟩
              have hS0 := HS.out w22.drew ((Drawn.mk w22 1).below _)
              have HW4 := Lib.hid (And.intro K (And.intro Qr B))
              obtain ⟨c0, c1, c2, c3, c4, c5, c6, c7, c8, c9, c10, c11, c12, c13, _⟩ := rx_cells K
              obtain ⟨p0, p1⟩ := pl_cells Q1
              have f0 := R1.cell 0 (by omega)
              have f1 := R1.cell 1 (by omega)
              have f2 := R1.cell 2 (by omega)
              have f3 := R1.cell 3 (by omega)
              have f4 := R1.cell 4 (by omega)
              have f5 := R1.cell 5 (by omega)
              clear c0 c1 c3 c4 c5 c6 c7 c8 c9 c10 c11 c12 c13 Q1 R1 PB A1 K Qr B hlA hlQ hlR
              go_region_held3 (fun w' => (w'.cell? ⟨bq, 2, none⟩ = some (.int .i64 (sc : Int)) ∧ w'.cell? ⟨bp, 0, none⟩ = some (.int .i64 x) ∧ w'.cell? ⟨bp, 1, none⟩ = some (.int .i64 y) ∧ w'.cell? ⟨bp + 1, 0, none⟩ = some (.int .i64 (Meta.fld P1 0)) ∧ w'.cell? ⟨bp + 1, 1, none⟩ = some (.int .i64 (Meta.fld P1 1)) ∧ w'.cell? ⟨bp + 1, 2, none⟩ = some (.int .i64 (Meta.fld P1 2)) ∧ w'.cell? ⟨bp + 1, 3, none⟩ = some (.int .i64 (Meta.fld P1 3)) ∧ w'.cell? ⟨bp + 1, 4, none⟩ = some (.int .i64 (Meta.fld P1 4)) ∧ w'.cell? ⟨bp + 1, 5, none⟩ = some (.int .i64 (Meta.fld P1 5)) ∧ Below w22.heap.size w22 w'))
                (first | assumption | exact ⟨by assumption, by assumption, by assumption, by assumption, by assumption, by assumption, by assumption, by assumption, by assumption, by assumption⟩)
                (first
                  | (go_at_call 22; (with_reducible refine Calls.mono (HFt.out _ (by assumption)) ?_); rintro e w1 ⟨g9, rfl, z1, z2⟩)
                  | (go_at_call 20; (with_reducible refine Calls.mono (HLy.out _ _ (by assumption) (by assumption)) ?_); rintro e w1 ⟨rfl, z1⟩))
              have b := z1.2.2.2.2.2.2.2.2.2
              obtain ⟨K, Qr, B⟩ := HW4.out
              obtain ⟨w30, rfl⟩ : ∃ w', w' = w1 := ⟨_, rfl⟩
              clear z1 z2 HW4 HS HFt HLy hS0 c2 p0 p1 f0 f1 f2 f3 f4 f5
              replace K := keepB K b
              replace Qr := keepB Qr b
              replace B := B.trans (b.mono B.size)
              clear b
              obtain ⟨c0, c1, c2, c3, c4, c5, c6, c7, c8, c9, c10, c11, c12, c13, _⟩ := rx_cells K
              obtain ⟨v0, v1, _, _, _, _, _, v7, _⟩ := rs_cells Qr
              have v9 : Meta.fld Meta.zeroM 0 = 0 := rfl
              go_wp2_with fail
              clear v0 v1 v7 v9
              clear c0 c1 c2 c3 c4 c5 c6 c7 c8 c9 c10 c11 c12 c13
              obtain ⟨c0, c1, c2, c3, c4, c5, c6, c7, c8, c9, c10, c11, c12, c13, _⟩ := rx_cells K
              clear K Qr c0 c1 c2 c3 c5 c6 c7 c8 c9 c10 c11 c12 c13
              have HB := Lib.hid B
              clear B
              go_region
              go_wp2_with fail
              go_ret
              exact ⟨rfl, HB.out.drew⟩
        · skip
          obtain rfl : n4 = i := by omega
          replace Q1 := keepB Q1 hO'
          replace R1 := keepM R1 hO'
          replace PB := PB.below hO'
          replace A1 := A1.below hO'
          replace B := B.trans (hO'.mono B.size)
          have hP := buf_polF hBuf (by rw [hLl]; omega) (by rw [hLl]; unfold maxLen; omega)
          rw [hLl] at hP
          have hz : Meta.zL L N ≤ t := by have h := zL_all L; rw [hLl] at h; omega
          clear HX hBuf hLl hLz hO hO' HI HR HX0
          obtain ⟨w20, rfl⟩ : ∃ w', w' = wr := ⟨_, rfl⟩
          obtain ⟨c0, c1, c2, c3, c4, c5, c6, c7, c8, c9, c10, c11, c12, c13, _⟩ := rx_cells K
          obtain ⟨p0, p1⟩ := pl_cells Q1
          go_wp2_with fail
          clear p0 p1
          clear c0 c1 c2 c3 c4 c5 c6 c7 c8 c9 c10 c11 c12 c13
          refine (openE_any PB x y hP HNN.out hz).mono ?_
          rintro e w21 ⟨rfl, b⟩
          clear hP hz
          replace Q1 := keepB Q1 b
          replace R1 := keepM R1 b
          replace PB := PB.below b
          replace K := keepB K b
          replace A1 := A1.below b
          replace B := B.trans (b.mono B.size)
          clear b
          obtain ⟨c0, c1, c2, c3, c4, c5, c6, c7, c8, c9, c10, c11, c12, c13, _⟩ := rx_cells K
          go_wp2_with fail
          clear c0 c1 c2 c3 c4 c5 c6 c7 c8 c9 c10 c11 c12 c13
          generalize hw : w21.alloc (.cells #[.int .i64 2, .int .i64 (Meta.fld Meta.zeroM 0), .int .i64 (Meta.fld Meta.zeroM 1), .int .i64 (Meta.fld Meta.zeroM 2), .int .i64 (Meta.fld Meta.zeroM 3), .int .i64 (Meta.fld Meta.zeroM 4), .int .i64 (Meta.fld Meta.zeroM 5), .slice none 0 0, .int .i64 0] 55 (0, 0)) = w22
          obtain ⟨Qr, b⟩ := newRsV w21 w22 hw
          clear hw
          replace Q1 := keepB Q1 b
          replace R1 := keepM R1 b
          replace PB := PB.below b
          replace K := keepB K b
          replace A1 := A1.below b
          replace B := B.trans (b.mono B.size)
          clear b
          obtain ⟨br, hbr⟩ : ∃ br, br = w21.heap.size := ⟨_, rfl⟩
          rw [← hbr] at Qr ⊢
          clear hbr
          by_cases hk1 : Meta.May P1
          · skip
            have hlA := lt_of_block K
            have hlQ := lt_of_block Q1
            have hlR := R1.lt
            have HS : Hid (∀ w', Below w22.heap.size w22 w' → (w'.cell? ⟨bq, 2, none⟩ = some (.int .i64 (sc : Int)) ∧ w'.cell? ⟨bp, 0, none⟩ = some (.int .i64 x) ∧ w'.cell? ⟨bp, 1, none⟩ = some (.int .i64 y) ∧ w'.cell? ⟨bp + 1, 0, none⟩ = some (.int .i64 (Meta.fld P1 0)) ∧ w'.cell? ⟨bp + 1, 1, none⟩ = some (.int .i64 (Meta.fld P1 1)) ∧ w'.cell? ⟨bp + 1, 2, none⟩ = some (.int .i64 (Meta.fld P1 2)) ∧ w'.cell? ⟨bp + 1, 3, none⟩ = some (.int .i64 (Meta.fld P1 3)) ∧ w'.cell? ⟨bp + 1, 4, none⟩ = some (.int .i64 (Meta.fld P1 4)) ∧ w'.cell? ⟨bp + 1, 5, none⟩ = some (.int .i64 (Meta.fld P1 5)) ∧ Below w22.heap.size w22 w')) := fun w' b => by
              obtain ⟨c0, c1, c2, _⟩ := rx_cells ((b.block bq hlA).trans K)
              obtain ⟨p0, p1⟩ := pl_cells ((b.block bp hlQ).trans Q1)
              have R1' := keepM R1 b
              exact ⟨c2, p0, p1, R1'.cell 0 (by omega), R1'.cell 1 (by omega), R1'.cell 2 (by omega), R1'.cell 3 (by omega), R1'.cell 4 (by omega), R1'.cell 5 (by omega), b⟩
            have hfl := fitL_length l sc
            have HFt : Hid (∀ w' (_ : (w'.cell? ⟨bq, 2, none⟩ = some (.int .i64 (sc : Int)) ∧ w'.cell? ⟨bp, 0, none⟩ = some (.int .i64 x) ∧ w'.cell? ⟨bp, 1, none⟩ = some (.int .i64 y) ∧ w'.cell? ⟨bp + 1, 0, none⟩ = some (.int .i64 (Meta.fld P1 0)) ∧ w'.cell? ⟨bp + 1, 1, none⟩ = some (.int .i64 (Meta.fld P1 1)) ∧ w'.cell? ⟨bp + 1, 2, none⟩ = some (.int .i64 (Meta.fld P1 2)) ∧ w'.cell? ⟨bp + 1, 3, none⟩ = some (.int .i64 (Meta.fld P1 3)) ∧ w'.cell? ⟨bp + 1, 4, none⟩ = some (.int .i64 (Meta.fld P1 4)) ∧ w'.cell? ⟨bp + 1, 5, none⟩ = some (.int .i64 (Meta.fld P1 5)) ∧ Below w22.heap.size w22 w')), Calls Tryz.prog 22 #[.slice a na ca, .int .i64 (sc : Int)] w' fun e w'' => ∃ g9, e = .returned (.slice (some ⟨g9, 0, none⟩) sc sc) ∧ (w''.cell? ⟨bq, 2, none⟩ = some (.int .i64 (sc : Int)) ∧ w''.cell? ⟨bp, 0, none⟩ = some (.int .i64 x) ∧ w''.cell? ⟨bp, 1, none⟩ = some (.int .i64 y) ∧ w''.cell? ⟨bp + 1, 0, none⟩ = some (.int .i64 (Meta.fld P1 0)) ∧ w''.cell? ⟨bp + 1, 1, none⟩ = some (.int .i64 (Meta.fld P1 1)) ∧ w''.cell? ⟨bp + 1, 2, none⟩ = some (.int .i64 (Meta.fld P1 2)) ∧ w''.cell? ⟨bp + 1, 3, none⟩ = some (.int .i64 (Meta.fld P1 3)) ∧ w''.cell? ⟨bp + 1, 4, none⟩ = some (.int .i64 (Meta.fld P1 4)) ∧ w''.cell? ⟨bp + 1, 5, none⟩ = some (.int .i64 (Meta.fld P1 5)) ∧ Below w22.heap.size w22 w'') ∧ Blk8 w'' g9 (fitL l sc)) := fun w' hs => (fit13_any a na ca l sc (by omega) w' (A1.below hs.2.2.2.2.2.2.2.2.2)).mono fun e w'' h => ⟨_, h.1, HS.out w'' (hs.2.2.2.2.2.2.2.2.2.trans (h.2.2.mono hs.2.2.2.2.2.2.2.2.2.size)), h.2.1⟩
            have HLy : Hid (∀ w' g9 (_ : (w'.cell? ⟨bq, 2, none⟩ = some (.int .i64 (sc : Int)) ∧ w'.cell? ⟨bp, 0, none⟩ = some (.int .i64 x) ∧ w'.cell? ⟨bp, 1, none⟩ = some (.int .i64 y) ∧ w'.cell? ⟨bp + 1, 0, none⟩ = some (.int .i64 (Meta.fld P1 0)) ∧ w'.cell? ⟨bp + 1, 1, none⟩ = some (.int .i64 (Meta.fld P1 1)) ∧ w'.cell? ⟨bp + 1, 2, none⟩ = some (.int .i64 (Meta.fld P1 2)) ∧ w'.cell? ⟨bp + 1, 3, none⟩ = some (.int .i64 (Meta.fld P1 3)) ∧ w'.cell? ⟨bp + 1, 4, none⟩ = some (.int .i64 (Meta.fld P1 4)) ∧ w'.cell? ⟨bp + 1, 5, none⟩ = some (.int .i64 (Meta.fld P1 5)) ∧ Below w22.heap.size w22 w')) (_ : Blk8 w' g9 (fitL l sc)), Calls Tryz.prog 20 #[.pointer (some ⟨cb, 0, none⟩), .agg #[.int .i64 x, .int .i64 y], .agg #[.int .i64 (Meta.fld P1 0), .int .i64 (Meta.fld P1 1), .int .i64 (Meta.fld P1 2), .int .i64 (Meta.fld P1 3), .int .i64 (Meta.fld P1 4), .int .i64 (Meta.fld P1 5)], .slice (some ⟨g9, 0, none⟩) sc sc] w' fun e w'' => ∃ gF cF, e = .returned (.tuple #[.slice (some ⟨gF, 0, none⟩) N cF, .nilIface]) ∧ (w''.cell? ⟨bq, 2, none⟩ = some (.int .i64 (sc : Int)) ∧ w''.cell? ⟨bp, 0, none⟩ = some (.int .i64 x) ∧ w''.cell? ⟨bp, 1, none⟩ = some (.int .i64 y) ∧ w''.cell? ⟨bp + 1, 0, none⟩ = some (.int .i64 (Meta.fld P1 0)) ∧ w''.cell? ⟨bp + 1, 1, none⟩ = some (.int .i64 (Meta.fld P1 1)) ∧ w''.cell? ⟨bp + 1, 2, none⟩ = some (.int .i64 (Meta.fld P1 2)) ∧ w''.cell? ⟨bp + 1, 3, none⟩ = some (.int .i64 (Meta.fld P1 3)) ∧ w''.cell? ⟨bp + 1, 4, none⟩ = some (.int .i64 (Meta.fld P1 4)) ∧ w''.cell? ⟨bp + 1, 5, none⟩ = some (.int .i64 (Meta.fld P1 5)) ∧ Below w22.heap.size w22 w'') ∧ Pol w'' (some ⟨gF, 0, none⟩) N cF (page 10 t (sdOf x y) P1 (fitL l sc))) := fun w' g9 hs hb => (lay_any (m := 10) t1 (by omega) (by omega) (by omega) (PB.below hs.2.2.2.2.2.2.2.2.2).pg (PB.below hs.2.2.2.2.2.2.2.2.2).base.code (PB.below hs.2.2.2.2.2.2.2.2.2).tab x y P1 hk1 (blk_pol hb hfl.symm (by omega))).mono fun e w'' h => by
              obtain ⟨gF, cF, h1, h2, _, h3, h4, h5⟩ := h
              rw [← HNN.out] at h1 h3
              exact ⟨gF, cF, h1, HS.out w'' (hs.2.2.2.2.2.2.2.2.2.trans (h5.mono hs.2.2.2.2.2.2.2.2.2.size)), buf_pol h2 (by rw [page_length, hfl, HNN.out]) h3 h4⟩
            have hS0 := HS.out w22.drew ((Drawn.mk w22 1).below _)
            have HW4 := Lib.hid (And.intro K (And.intro Qr B))
            obtain ⟨c0, c1, c2, c3, c4, c5, c6, c7, c8, c9, c10, c11, c12, c13, _⟩ := rx_cells K
            obtain ⟨p0, p1⟩ := pl_cells Q1
            have f0 := R1.cell 0 (by omega)
            have f1 := R1.cell 1 (by omega)
            have f2 := R1.cell 2 (by omega)
            have f3 := R1.cell 3 (by omega)
            have f4 := R1.cell 4 (by omega)
            have f5 := R1.cell 5 (by omega)
            clear c0 c1 c3 c4 c5 c6 c7 c8 c9 c10 c11 c12 c13 Q1 R1 PB A1 K Qr B hlA hlQ hlR
            go_region_held3 (fun w' => (w'.cell? ⟨bq, 2, none⟩ = some (.int .i64 (sc : Int)) ∧ w'.cell? ⟨bp, 0, none⟩ = some (.int .i64 x) ∧ w'.cell? ⟨bp, 1, none⟩ = some (.int .i64 y) ∧ w'.cell? ⟨bp + 1, 0, none⟩ = some (.int .i64 (Meta.fld P1 0)) ∧ w'.cell? ⟨bp + 1, 1, none⟩ = some (.int .i64 (Meta.fld P1 1)) ∧ w'.cell? ⟨bp + 1, 2, none⟩ = some (.int .i64 (Meta.fld P1 2)) ∧ w'.cell? ⟨bp + 1, 3, none⟩ = some (.int .i64 (Meta.fld P1 3)) ∧ w'.cell? ⟨bp + 1, 4, none⟩ = some (.int .i64 (Meta.fld P1 4)) ∧ w'.cell? ⟨bp + 1, 5, none⟩ = some (.int .i64 (Meta.fld P1 5)) ∧ Below w22.heap.size w22 w'))
              (first | assumption | exact ⟨by assumption, by assumption, by assumption, by assumption, by assumption, by assumption, by assumption, by assumption, by assumption, by assumption⟩)
              (first
                | (go_at_call 22; (with_reducible refine Calls.mono (HFt.out _ (by assumption)) ?_); rintro e w1 ⟨g9, rfl, z1, z2⟩)
                | (go_at_call 20; (with_reducible refine Calls.mono (HLy.out _ _ (by assumption) (by assumption)) ?_); rintro e w1 ⟨gF, cF, rfl, z1, z3⟩))
            have b := z1.2.2.2.2.2.2.2.2.2
            obtain ⟨K, Qr, B⟩ := HW4.out
            obtain ⟨w30, rfl⟩ : ∃ w', w' = w1 := ⟨_, rfl⟩
            clear z1 z2 HW4 HS HFt HLy hS0 c2 p0 p1 f0 f1 f2 f3 f4 f5
            replace K := keepB K b
            replace Qr := keepB Qr b
            replace B := B.trans (b.mono B.size)
            clear b
            obtain ⟨c0, c1, c2, c3, c4, c5, c6, c7, c8, c9, c10, c11, c12, c13, _⟩ := rx_cells K
            obtain ⟨v0, v1, _, _, _, _, _, v7, _⟩ := rs_cells Qr
            have v9 : Meta.fld Meta.zeroM 0 = 0 := rfl
            go_wp2_with fail
            clear v0 v1 v7 v9
            clear c0 c1 c2 c3 c4 c5 c6 c7 c8 c9 c10 c11 c12 c13
            obtain ⟨zz, hzz⟩ : ∃ z, z = Meta.zL (page 10 t (sdOf x y) P1 (fitL l sc)) N := ⟨_, rfl⟩
            have h37 : 37 ≤ zz := by
              have h := zeros_page (m := 10) (t := t) (sc := sc) (sdOf x y) P1 hk1 (fitL l sc)
              rw [page_length, hfl, ← HNN.out] at h
              rw [hzz]; exact h
            have h8 : zz ≤ 8 * N := by rw [hzz]; exact Meta.zL_le _ _
            have x9 : 2 * (t : Int) < (zz : Int) := by omega
            have HW9 : Hid (decide (IntKind.i64.wrap (2 * (t : Int)) < (zz : Int)) = true) := by
              show _ = _
              rw [IntWalk.i64_in _ (by omega)]
              exact decide_eq_true x9
            clear x9
            have hlA := lt_of_block K
            have HS : Hid (∀ w', Below w30.heap.size w30 w' → (w'.cell? ⟨bq, 4, none⟩ = some (.int .i64 (t : Int)) ∧ Below w30.heap.size w30 w')) := fun w' b => ⟨(b.cell (p := ⟨bq, 4, none⟩) hlA).trans (rx_cells K).2.2.2.2.1, b⟩
            have HZ : Hid (∀ w' (_ : (w'.cell? ⟨bq, 4, none⟩ = some (.int .i64 (t : Int)) ∧ Below w30.heap.size w30 w')), Calls Tryz.prog 28 #[.slice (some ⟨gF, 0, none⟩) N cF] w' fun e w'' => e = .returned (.int .i64 (zz : Int)) ∧ (w''.cell? ⟨bq, 4, none⟩ = some (.int .i64 (t : Int)) ∧ Below w30.heap.size w30 w'')) := fun w' hs => by
              rw [hzz]
              exact (zeros_any _ _ N _ w' (z3.below hs.2) (by omega)).mono fun e w'' h => ⟨h.1, h.2 ▸ hs⟩
            have hS0 := HS.out w30.drew ((Drawn.mk w30 1).below _)
            have c4 := (rx_cells K).2.2.2.2.1
            have HB := Lib.hid B
            clear hzz h37 h8 hlA K Qr B z3 hk1 hfl
            go_region_held3 (fun w' => (w'.cell? ⟨bq, 4, none⟩ = some (.int .i64 (t : Int)) ∧ Below w30.heap.size w30 w'))
              (first | assumption | exact ⟨by assumption, by assumption⟩)
              (first
                | (go_at_call 28; (with_reducible refine Calls.mono (HZ.out _ (by assumption)) ?_); rintro e w1 ⟨rfl, z1⟩))
            have b := z1.2
            have B := HB.out.trans (b.mono HB.out.size)
            clear z1 b hS0 c4
            go_wp2_with fail
            go_ret
            exact ⟨congrArg (fun b => Ending.returned (Value.bool b)) HW9.out, B⟩
          · skip
            have hlA := lt_of_block K
            have hlQ := lt_of_block Q1
            have hlR := R1.lt
            have HS : Hid (∀ w', Below w22.heap.size w22 w' → (w'.cell? ⟨bq, 2, none⟩ = some (.int .i64 (sc : Int)) ∧ w'.cell? ⟨bp, 0, none⟩ = some (.int .i64 x) ∧ w'.cell? ⟨bp, 1, none⟩ = some (.int .i64 y) ∧ w'.cell? ⟨bp + 1, 0, none⟩ = some (.int .i64 (Meta.fld P1 0)) ∧ w'.cell? ⟨bp + 1, 1, none⟩ = some (.int .i64 (Meta.fld P1 1)) ∧ w'.cell? ⟨bp + 1, 2, none⟩ = some (.int .i64 (Meta.fld P1 2)) ∧ w'.cell? ⟨bp + 1, 3, none⟩ = some (.int .i64 (Meta.fld P1 3)) ∧ w'.cell? ⟨bp + 1, 4, none⟩ = some (.int .i64 (Meta.fld P1 4)) ∧ w'.cell? ⟨bp + 1, 5, none⟩ = some (.int .i64 (Meta.fld P1 5)) ∧ Below w22.heap.size w22 w')) := fun w' b => by
              obtain ⟨c0, c1, c2, _⟩ := rx_cells ((b.block bq hlA).trans K)
              obtain ⟨p0, p1⟩ := pl_cells ((b.block bp hlQ).trans Q1)
              have R1' := keepM R1 b
              exact ⟨c2, p0, p1, R1'.cell 0 (by omega), R1'.cell 1 (by omega), R1'.cell 2 (by omega), R1'.cell 3 (by omega), R1'.cell 4 (by omega), R1'.cell 5 (by omega), b⟩
            have hfl := fitL_length l sc
            have HFt : Hid (∀ w' (_ : (w'.cell? ⟨bq, 2, none⟩ = some (.int .i64 (sc : Int)) ∧ w'.cell? ⟨bp, 0, none⟩ = some (.int .i64 x) ∧ w'.cell? ⟨bp, 1, none⟩ = some (.int .i64 y) ∧ w'.cell? ⟨bp + 1, 0, none⟩ = some (.int .i64 (Meta.fld P1 0)) ∧ w'.cell? ⟨bp + 1, 1, none⟩ = some (.int .i64 (Meta.fld P1 1)) ∧ w'.cell? ⟨bp + 1, 2, none⟩ = some (.int .i64 (Meta.fld P1 2)) ∧ w'.cell? ⟨bp + 1, 3, none⟩ = some (.int .i64 (Meta.fld P1 3)) ∧ w'.cell? ⟨bp + 1, 4, none⟩ = some (.int .i64 (Meta.fld P1 4)) ∧ w'.cell? ⟨bp + 1, 5, none⟩ = some (.int .i64 (Meta.fld P1 5)) ∧ Below w22.heap.size w22 w')), Calls Tryz.prog 22 #[.slice a na ca, .int .i64 (sc : Int)] w' fun e w'' => ∃ g9, e = .returned (.slice (some ⟨g9, 0, none⟩) sc sc) ∧ (w''.cell? ⟨bq, 2, none⟩ = some (.int .i64 (sc : Int)) ∧ w''.cell? ⟨bp, 0, none⟩ = some (.int .i64 x) ∧ w''.cell? ⟨bp, 1, none⟩ = some (.int .i64 y) ∧ w''.cell? ⟨bp + 1, 0, none⟩ = some (.int .i64 (Meta.fld P1 0)) ∧ w''.cell? ⟨bp + 1, 1, none⟩ = some (.int .i64 (Meta.fld P1 1)) ∧ w''.cell? ⟨bp + 1, 2, none⟩ = some (.int .i64 (Meta.fld P1 2)) ∧ w''.cell? ⟨bp + 1, 3, none⟩ = some (.int .i64 (Meta.fld P1 3)) ∧ w''.cell? ⟨bp + 1, 4, none⟩ = some (.int .i64 (Meta.fld P1 4)) ∧ w''.cell? ⟨bp + 1, 5, none⟩ = some (.int .i64 (Meta.fld P1 5)) ∧ Below w22.heap.size w22 w'') ∧ Blk8 w'' g9 (fitL l sc)) := fun w' hs => (fit13_any a na ca l sc (by omega) w' (A1.below hs.2.2.2.2.2.2.2.2.2)).mono fun e w'' h => ⟨_, h.1, HS.out w'' (hs.2.2.2.2.2.2.2.2.2.trans (h.2.2.mono hs.2.2.2.2.2.2.2.2.2.size)), h.2.1⟩
            have HLy : Hid (∀ w' g9 (_ : (w'.cell? ⟨bq, 2, none⟩ = some (.int .i64 (sc : Int)) ∧ w'.cell? ⟨bp, 0, none⟩ = some (.int .i64 x) ∧ w'.cell? ⟨bp, 1, none⟩ = some (.int .i64 y) ∧ w'.cell? ⟨bp + 1, 0, none⟩ = some (.int .i64 (Meta.fld P1 0)) ∧ w'.cell? ⟨bp + 1, 1, none⟩ = some (.int .i64 (Meta.fld P1 1)) ∧ w'.cell? ⟨bp + 1, 2, none⟩ = some (.int .i64 (Meta.fld P1 2)) ∧ w'.cell? ⟨bp + 1, 3, none⟩ = some (.int .i64 (Meta.fld P1 3)) ∧ w'.cell? ⟨bp + 1, 4, none⟩ = some (.int .i64 (Meta.fld P1 4)) ∧ w'.cell? ⟨bp + 1, 5, none⟩ = some (.int .i64 (Meta.fld P1 5)) ∧ Below w22.heap.size w22 w')) (_ : Blk8 w' g9 (fitL l sc)), Calls Tryz.prog 20 #[.pointer (some ⟨cb, 0, none⟩), .agg #[.int .i64 x, .int .i64 y], .agg #[.int .i64 (Meta.fld P1 0), .int .i64 (Meta.fld P1 1), .int .i64 (Meta.fld P1 2), .int .i64 (Meta.fld P1 3), .int .i64 (Meta.fld P1 4), .int .i64 (Meta.fld P1 5)], .slice (some ⟨g9, 0, none⟩) sc sc] w' fun e w'' => e = .returned (.tuple #[.slice none 0 0, errOf yr]) ∧ (w''.cell? ⟨bq, 2, none⟩ = some (.int .i64 (sc : Int)) ∧ w''.cell? ⟨bp, 0, none⟩ = some (.int .i64 x) ∧ w''.cell? ⟨bp, 1, none⟩ = some (.int .i64 y) ∧ w''.cell? ⟨bp + 1, 0, none⟩ = some (.int .i64 (Meta.fld P1 0)) ∧ w''.cell? ⟨bp + 1, 1, none⟩ = some (.int .i64 (Meta.fld P1 1)) ∧ w''.cell? ⟨bp + 1, 2, none⟩ = some (.int .i64 (Meta.fld P1 2)) ∧ w''.cell? ⟨bp + 1, 3, none⟩ = some (.int .i64 (Meta.fld P1 3)) ∧ w''.cell? ⟨bp + 1, 4, none⟩ = some (.int .i64 (Meta.fld P1 4)) ∧ w''.cell? ⟨bp + 1, 5, none⟩ = some (.int .i64 (Meta.fld P1 5)) ∧ Below w22.heap.size w22 w'')) := fun w' g9 hs hb => (lay_no (sc := sc) (PB.below hs.2.2.2.2.2.2.2.2.2).pg (PB.below hs.2.2.2.2.2.2.2.2.2).rcd x y P1 hk1).mono fun e w'' h => ⟨h.1, HS.out w'' (hs.2.2.2.2.2.2.2.2.2.trans (h.2.mono hs.2.2.2.2.2.2.2.2.2.size))⟩
            have hS0 := HS.out w22.drew ((Drawn.mk w22 1).below _)
            have HW4 := Lib.hid (And.intro K (And.intro Qr B))
            obtain ⟨c0, c1, c2, c3, c4, c5, c6, c7, c8, c9, c10, c11, c12, c13, _⟩ := rx_cells K
            obtain ⟨p0, p1⟩ := pl_cells Q1
            have f0 := R1.cell 0 (by omega)
            have f1 := R1.cell 1 (by omega)
            have f2 := R1.cell 2 (by omega)
            have f3 := R1.cell 3 (by omega)
            have f4 := R1.cell 4 (by omega)
            have f5 := R1.cell 5 (by omega)
            clear c0 c1 c3 c4 c5 c6 c7 c8 c9 c10 c11 c12 c13 Q1 R1 PB A1 K Qr B hlA hlQ hlR
            go_region_held3 (fun w' => (w'.cell? ⟨bq, 2, none⟩ = some (.int .i64 (sc : Int)) ∧ w'.cell? ⟨bp, 0, none⟩ = some (.int .i64 x) ∧ w'.cell? ⟨bp, 1, none⟩ = some (.int .i64 y) ∧ w'.cell? ⟨bp + 1, 0, none⟩ = some (.int .i64 (Meta.fld P1 0)) ∧ w'.cell? ⟨bp + 1, 1, none⟩ = some (.int .i64 (Meta.fld P1 1)) ∧ w'.cell? ⟨bp + 1, 2, none⟩ = some (.int .i64 (Meta.fld P1 2)) ∧ w'.cell? ⟨bp + 1, 3, none⟩ = some (.int .i64 (Meta.fld P1 3)) ∧ w'.cell? ⟨bp + 1, 4, none⟩ = some (.int .i64 (Meta.fld P1 4)) ∧ w'.cell? ⟨bp + 1, 5, none⟩ = some (.int .i64 (Meta.fld P1 5)) ∧ Below w22.heap.size w22 w'))
              (first | assumption | exact ⟨by assumption, by assumption, by assumption, by assumption, by assumption, by assumption, by assumption, by assumption, by assumption, by assumption⟩)
              (first
                | (go_at_call 22; (with_reducible refine Calls.mono (HFt.out _ (by assumption)) ?_); rintro e w1 ⟨g9, rfl, z1, z2⟩)
                | (go_at_call 20; (with_reducible refine Calls.mono (HLy.out _ _ (by assumption) (by assumption)) ?_); rintro e w1 ⟨rfl, z1⟩))
            have b := z1.2.2.2.2.2.2.2.2.2
            obtain ⟨K, Qr, B⟩ := HW4.out
            obtain ⟨w30, rfl⟩ : ∃ w', w' = w1 := ⟨_, rfl⟩
            clear z1 z2 HW4 HS HFt HLy hS0 c2 p0 p1 f0 f1 f2 f3 f4 f5
            replace K := keepB K b
            replace Qr := keepB Qr b
            replace B := B.trans (b.mono B.size)
            clear b
            obtain ⟨c0, c1, c2, c3, c4, c5, c6, c7, c8, c9, c10, c11, c12, c13, _⟩ := rx_cells K
            obtain ⟨v0, v1, _, _, _, _, _, v7, _⟩ := rs_cells Qr
            have v9 : Meta.fld Meta.zeroM 0 = 0 := rfl
            go_wp2_with fail
            clear v0 v1 v7 v9
            clear c0 c1 c2 c3 c4 c5 c6 c7 c8 c9 c10 c11 c12 c13
            obtain ⟨c0, c1, c2, c3, c4, c5, c6, c7, c8, c9, c10, c11, c12, c13, _⟩ := rx_cells K
            clear K Qr c0 c1 c2 c3 c5 c6 c7 c8 c9 c10 c11 c12 c13
            have HB := Lib.hid B
            clear B
            go_region
            go_wp2_with fail
            go_ret
            exact ⟨rfl, HB.out.drew⟩
theorem walk (a0 a1 : Int) (n2 n3 : Nat → Int) (a4 : Option Addr) (len4 cap4 : Nat) (z4 : List Int) (a5 : Option Addr) (len5 cap5 : Nat) (z5 : List Int) (W : World) (w0 : (Lit.int .i64 a0).wf = true) (w1 : (Lit.int .i64 a1).wf = true) (w2 : ∀ i, i < 2 → (Lit.int .i64 (n2 i)).wf = true) (w3 : ∀ i, i < 6 → (Lit.int .i64 (n3 i)).wf = true) (w4 : IsRow .u8 W a4 len4 cap4 z4) (w5 : IsRow .i64 W a5 len5 cap5 z5) (h : LaidPageErased.Holds W) :
    Calls Tryz.prog 6 #[.int .i64 a0, .int .i64 a1, .agg ((List.range 2).map fun i => .int .i64 (n2 i)).toArray, .agg ((List.range 6).map fun i => .int .i64 (n3 i)).toArray, .slice a4 len4 cap4, .slice a5 len5 cap5] W fun e w' => e = .returned (.bool true) ∧ Below W.heap.size W w' := by
  obtain ⟨T, f, ⟨_, _, E3, _, E5, E6, E7, _, _⟩, _⟩ := h
  obtain ⟨l4, h4⟩ := row_pol w4
  refine core a0 a1 (n2 0) (n2 1) ⟨n3 0, n3 1, n3 2, n3 3, n3 4, n3 5⟩ a4 len4 cap4 l4 a5 len5 cap5 W E5 E6 E3 E7 T h4 fun i hi => ?_
  obtain ⟨_, _, h⟩ := w5.at
  obtain ⟨bb, off, z, e, d, hb, _⟩ := h i hi
  exact ⟨bb, off, z, e, d, hb⟩
end Go.Proofs.YtdhcigiaidlmbaaGreatDoor.walkPageErased
