/- The walk over PageElsewhere. By the verifier of shale. -/
import Derived.Test.YtdhcigiaidlmbaaGreatDoorGreat1
import Derived.Test.YtdhcigiaidlmbaaGreatDoorGreat2
import Derived.Test.YtdhcigiaidlmbaaGreatDoorGreat3
import Derived.Test.YtdhcigiaidlmbaaGreatDoorGreat4
import Derived.Test.YtdhcigiaidlmbaaGreatDoorGreat5
import Derived.Test.YtdhcigiaidlmbaaGreatDoorGreat6
import Derived.Test.YtdhcigiaidlmbaaGreatDoorGreat7
import Derived.Test.YtdhcigiaidlmbaaGreatDoorGreat8
import Derived.Test.YtdhcigiaidlmbaaGreatDoorLaidPageElsewhere
import Derived.Deep.Cut
namespace Go.Proofs.YtdhcigiaidlmbaaGreatDoor.walkPageElsewhere
open Go Go.RowKit Bin Pl Cos Enc Syn Loc Sea Dec Crc Pg
set_option linter.unusedVariables false
/-- ints that came in: each is there. -/
def ZRow (w : World) (a : Option Addr) (n c : Nat) : Prop := ∀ i, i < n → ∃ bb off z, a = some ⟨bb, off, none⟩ ∧ w.cell? ⟨bb, off + i, none⟩ = some (.int .i64 z) ∧ bb < w.heap.size
theorem ZRow.below {w w' : World} {a : Option Addr} {n c : Nat} (h : ZRow w a n c) (b : Below w.heap.size w w') : ZRow w' a n c := by
  intro i hi
  obtain ⟨bb, off, z, e, d, hb⟩ := h i hi
  exact ⟨bb, off, z, e, (b.cell (p := ⟨bb, off + i, none⟩) hb).trans d, Nat.lt_of_lt_of_le hb b.size⟩
theorem ZRow.at {w : World} {a : Option Addr} {n c : Nat} (h : ZRow w a n c) (i : Nat) (hi : i < n) : ∃ bb off z, a = some ⟨bb, off, none⟩ ∧ w.cell? ⟨bb, off + i, none⟩ = some (.int .i64 z) := by
  obtain ⟨bb, off, z, e, d, _⟩ := h i hi
  exact ⟨bb, off, z, e, d⟩
theorem newRsG (w W : World) (cls : Int) (K : Meta.M6) (dv : Value) (fx : Int) (h : w.alloc (.cells #[.int .i64 cls, .int .i64 (Meta.fld K 0), .int .i64 (Meta.fld K 1), .int .i64 (Meta.fld K 2), .int .i64 (Meta.fld K 3), .int .i64 (Meta.fld K 4), .int .i64 (Meta.fld K 5), dv, .int .i64 fx] 55 (0, 0)) = W) : W.heap[w.heap.size]? = some (rsO cls K dv fx) ∧ Below w.heap.size w W := by
  subst h
  exact ⟨heap_alloc_new w _, (Below.refl _ _).alloc (Nat.le_refl _) _⟩
attribute [local go_sem] Bits32.bxor Bits32.bxor_bit
set_option maxRecDepth 100000 in
set_option maxHeartbeats 4000000 in
theorem core (z1 z2 x y x2 y2 : Int) (P1 : Meta.M6) (a : Option Addr) (na ca : Nat) (l : List (BitVec 8)) (a6 : Option Addr) (n6 k6 : Nat) (w : World) {yc ym yz yr : Addr} (EC : ErrAt w 4 yc) (EM : ErrAt w 6 ym) (EZ : ErrAt w 9 yz) (ER : ErrAt w 1 yr) (T : Tab w) (A1 : Pol w a na ca l) (HR : ZRow w a6 n6 k6) :
    Calls Tryz.prog 7 #[.int .i64 z1, .int .i64 z2, .agg #[.int .i64 x, .int .i64 y], .agg #[.int .i64 x2, .int .i64 y2], Meta.metaV P1, .slice a na ca, .slice a6 n6 k6] w fun e w' => e = .returned (.bool true) ∧ Below w.heap.size w w' := by
  by_cases h60 : n6 ≤ 60
  · have y60 : ¬ (60 : Int) < (n6 : Int) := by omega
    have y61 : decide ((60 : Int) < (n6 : Int)) = false := decide_eq_false y60
    go_enter Tryz.func7, Tryz.ntmps7
    have B : Below w.heap.size w w := Below.refl _ _
    go_wp2_with fail
    generalize hw : w.alloc (.cells #[.int .i64 x, .int .i64 y] 43 (0, 0)) = w1
    obtain ⟨Q1, b, hz1⟩ := newPl w w1 x y hw
    clear hw
    replace EC := EC.below b
    replace EM := EM.below b
    replace EZ := EZ.below b
    replace ER := ER.below b
    replace T := T.below b T.lt
    replace A1 := A1.below b
    replace HR := HR.below b
    replace B := B.trans (b.mono B.size)
    clear b
    generalize hw : w1.alloc (.cells #[.int .i64 x2, .int .i64 y2] 43 (0, 0)) = w2
    obtain ⟨Q2, b, hz2⟩ := newPl w1 w2 x2 y2 hw
    clear hw
    replace EC := EC.below b
    replace EM := EM.below b
    replace EZ := EZ.below b
    replace ER := ER.below b
    replace T := T.below b T.lt
    replace A1 := A1.below b
    replace HR := HR.below b
    replace Q1 := keepB Q1 b
    replace B := B.trans (b.mono B.size)
    clear b
    generalize hw : w2.alloc (.cells #[.int .i64 (Meta.fld P1 0), .int .i64 (Meta.fld P1 1), .int .i64 (Meta.fld P1 2), .int .i64 (Meta.fld P1 3), .int .i64 (Meta.fld P1 4), .int .i64 (Meta.fld P1 5)] 45 (0, 0)) = w3
    obtain ⟨R1, b⟩ := newMeta w2 w3 P1 hw
    clear hw
    replace EC := EC.below b
    replace EM := EM.below b
    replace EZ := EZ.below b
    replace ER := ER.below b
    replace T := T.below b T.lt
    replace A1 := A1.below b
    replace HR := HR.below b
    replace Q1 := keepB Q1 b
    replace Q2 := keepB Q2 b
    replace B := B.trans (b.mono B.size)
    clear b
    rw [hz2, hz1] at R1
    rw [hz1] at Q2
    obtain ⟨bp, hbp⟩ : ∃ bp, bp = w.heap.size := ⟨_, rfl⟩
    rw [← hbp] at Q1 Q2 R1 ⊢
    clear hbp hz1 hz2
    refine (first13_any w3 EC EM EZ ER T).mono ?_
    rintro e w4 ⟨rfl, b⟩
    replace EC := EC.below b
    replace EM := EM.below b
    replace EZ := EZ.below b
    replace ER := ER.below b
    replace T := T.below b T.lt
    replace A1 := A1.below b
    replace HR := HR.below b
    replace Q1 := keepB Q1 b
    replace Q2 := keepB Q2 b
    replace R1 := keepM R1 b
    replace B := B.trans (b.mono B.size)
    clear b
    go_wp2_with fail
    refine (made_any z1 z2 w4 yc EC).mono ?_
    rintro e w5 ⟨cb, s, db, ga, gn, gc, rfl, PG, C, DA, GB, b⟩
    clear EC
    obtain ⟨s1, s2⟩ := mkS_in z2
    obtain ⟨t1, t2⟩ := mkT_in z1
    generalize Pg.mkS z2 = sc at PG C s1 s2 ⊢
    generalize Pg.mkT z1 = t at C GB t1 t2 ⊢
    replace EM := EM.below b
    replace EZ := EZ.below b
    replace ER := ER.below b
    replace T := T.below b T.lt
    replace A1 := A1.below b
    replace HR := HR.below b
    replace Q1 := keepB Q1 b
    replace Q2 := keepB Q2 b
    replace R1 := keepM R1 b
    replace B := B.trans (b.mono B.size)
    clear b
    have PB : PBase 10 t sc w5 cb s db ym yz yr := ⟨PG, ⟨DA, C, EM, EZ, by omega, by omega, by omega, by omega, (may10 s2 t1 t2).room⟩, ER, T, by omega, by omega⟩
    clear PG C DA EM EZ ER T
    obtain ⟨n, hn⟩ : ∃ n, n = sc + 32 := ⟨_, rfl⟩
    have e32 : (sc : Int) + 32 = (n : Int) := by omega
    have HNn := Lib.hid hn
    have HRm := Lib.hid (show 8 * n + deg 10 t ≤ sz 10 from by rw [hn]; exact (may10 s2 t1 t2).room)
    have HDl : deg 10 t ≤ 40 := by have h1 := deg_le (m := 10) (by omega) t; omega
    rw [← hn]
    clear hn
    go_wp2_with fail
    generalize hw : w5.alloc (.cells #[.int .i64 10, .int .i64 16, .int .i64 (sc : Int), .int .i64 10, .int .i64 (t : Int), .int .i64 2, .int .i64 0, .int .i64 4, .int .i64 8, .int .i64 10, .int .i64 (t : Int), .int .i64 (n : Int), .slice ga gn gc, .int .i64 (deg 10 t : Int)] 40 (0, 0)) = w6
    obtain ⟨K, b⟩ := newRx w5 w6 _ _ _ _ _ _ _ _ _ _ _ _ _ _ hw
    clear hw
    replace A1 := A1.below b
    replace HR := HR.below b
    replace Q1 := keepB Q1 b
    replace Q2 := keepB Q2 b
    replace R1 := keepM R1 b
    replace PB := PB.below b
    replace GB := GB.below b
    replace B := B.trans (b.mono B.size)
    clear b
    obtain ⟨bq, hbq⟩ : ∃ bq, bq = w5.heap.size := ⟨_, rfl⟩
    rw [← hbq] at K ⊢
    clear hbq
    obtain ⟨N, hN⟩ : ∃ N, N = sc + 32 + pb (deg 10 t) := ⟨_, rfl⟩
    have hN3 : N ≤ 76 := by rw [hN]; unfold pb; omega
    have hN1 : 1 ≤ N := by omega
    have HNN := Lib.hid hN
    clear hN
    by_cases hk1 : Meta.May P1
    · skip
      have hlA := lt_of_block K
      have hlQ := lt_of_block Q1
      have hlR := R1.lt
      have HS : Hid (∀ w', Below w6.heap.size w6 w' → (w'.cell? ⟨bq, 2, none⟩ = some (.int .i64 (sc : Int)) ∧ w'.cell? ⟨bp, 0, none⟩ = some (.int .i64 x) ∧ w'.cell? ⟨bp, 1, none⟩ = some (.int .i64 y) ∧ w'.cell? ⟨bp + 2, 0, none⟩ = some (.int .i64 (Meta.fld P1 0)) ∧ w'.cell? ⟨bp + 2, 1, none⟩ = some (.int .i64 (Meta.fld P1 1)) ∧ w'.cell? ⟨bp + 2, 2, none⟩ = some (.int .i64 (Meta.fld P1 2)) ∧ w'.cell? ⟨bp + 2, 3, none⟩ = some (.int .i64 (Meta.fld P1 3)) ∧ w'.cell? ⟨bp + 2, 4, none⟩ = some (.int .i64 (Meta.fld P1 4)) ∧ w'.cell? ⟨bp + 2, 5, none⟩ = some (.int .i64 (Meta.fld P1 5)) ∧ Below w6.heap.size w6 w')) := fun w' b => by
        obtain ⟨c0, c1, c2, _⟩ := rx_cells ((b.block bq hlA).trans K)
        obtain ⟨p0, p1⟩ := pl_cells ((b.block bp hlQ).trans Q1)
        have R1' := keepM R1 b
        exact ⟨c2, p0, p1, R1'.cell 0 (by omega), R1'.cell 1 (by omega), R1'.cell 2 (by omega), R1'.cell 3 (by omega), R1'.cell 4 (by omega), R1'.cell 5 (by omega), b⟩
      have hfl := fitL_length l sc
      have HFt : Hid (∀ w' (_ : (w'.cell? ⟨bq, 2, none⟩ = some (.int .i64 (sc : Int)) ∧ w'.cell? ⟨bp, 0, none⟩ = some (.int .i64 x) ∧ w'.cell? ⟨bp, 1, none⟩ = some (.int .i64 y) ∧ w'.cell? ⟨bp + 2, 0, none⟩ = some (.int .i64 (Meta.fld P1 0)) ∧ w'.cell? ⟨bp + 2, 1, none⟩ = some (.int .i64 (Meta.fld P1 1)) ∧ w'.cell? ⟨bp + 2, 2, none⟩ = some (.int .i64 (Meta.fld P1 2)) ∧ w'.cell? ⟨bp + 2, 3, none⟩ = some (.int .i64 (Meta.fld P1 3)) ∧ w'.cell? ⟨bp + 2, 4, none⟩ = some (.int .i64 (Meta.fld P1 4)) ∧ w'.cell? ⟨bp + 2, 5, none⟩ = some (.int .i64 (Meta.fld P1 5)) ∧ Below w6.heap.size w6 w')), Calls Tryz.prog 22 #[.slice a na ca, .int .i64 (sc : Int)] w' fun e w'' => ∃ g9, e = .returned (.slice (some ⟨g9, 0, none⟩) sc sc) ∧ (w''.cell? ⟨bq, 2, none⟩ = some (.int .i64 (sc : Int)) ∧ w''.cell? ⟨bp, 0, none⟩ = some (.int .i64 x) ∧ w''.cell? ⟨bp, 1, none⟩ = some (.int .i64 y) ∧ w''.cell? ⟨bp + 2, 0, none⟩ = some (.int .i64 (Meta.fld P1 0)) ∧ w''.cell? ⟨bp + 2, 1, none⟩ = some (.int .i64 (Meta.fld P1 1)) ∧ w''.cell? ⟨bp + 2, 2, none⟩ = some (.int .i64 (Meta.fld P1 2)) ∧ w''.cell? ⟨bp + 2, 3, none⟩ = some (.int .i64 (Meta.fld P1 3)) ∧ w''.cell? ⟨bp + 2, 4, none⟩ = some (.int .i64 (Meta.fld P1 4)) ∧ w''.cell? ⟨bp + 2, 5, none⟩ = some (.int .i64 (Meta.fld P1 5)) ∧ Below w6.heap.size w6 w'') ∧ Blk8 w'' g9 (fitL l sc)) := fun w' hs => (fit13_any a na ca l sc (by omega) w' (A1.below hs.2.2.2.2.2.2.2.2.2)).mono fun e w'' h => ⟨_, h.1, HS.out w'' (hs.2.2.2.2.2.2.2.2.2.trans (h.2.2.mono hs.2.2.2.2.2.2.2.2.2.size)), h.2.1⟩
      have HLy : Hid (∀ w' g9 (_ : (w'.cell? ⟨bq, 2, none⟩ = some (.int .i64 (sc : Int)) ∧ w'.cell? ⟨bp, 0, none⟩ = some (.int .i64 x) ∧ w'.cell? ⟨bp, 1, none⟩ = some (.int .i64 y) ∧ w'.cell? ⟨bp + 2, 0, none⟩ = some (.int .i64 (Meta.fld P1 0)) ∧ w'.cell? ⟨bp + 2, 1, none⟩ = some (.int .i64 (Meta.fld P1 1)) ∧ w'.cell? ⟨bp + 2, 2, none⟩ = some (.int .i64 (Meta.fld P1 2)) ∧ w'.cell? ⟨bp + 2, 3, none⟩ = some (.int .i64 (Meta.fld P1 3)) ∧ w'.cell? ⟨bp + 2, 4, none⟩ = some (.int .i64 (Meta.fld P1 4)) ∧ w'.cell? ⟨bp + 2, 5, none⟩ = some (.int .i64 (Meta.fld P1 5)) ∧ Below w6.heap.size w6 w')) (_ : Blk8 w' g9 (fitL l sc)), Calls Tryz.prog 20 #[.pointer (some ⟨cb, 0, none⟩), .agg #[.int .i64 x, .int .i64 y], .agg #[.int .i64 (Meta.fld P1 0), .int .i64 (Meta.fld P1 1), .int .i64 (Meta.fld P1 2), .int .i64 (Meta.fld P1 3), .int .i64 (Meta.fld P1 4), .int .i64 (Meta.fld P1 5)], .slice (some ⟨g9, 0, none⟩) sc sc] w' fun e w'' => ∃ gF cF, e = .returned (.tuple #[.slice (some ⟨gF, 0, none⟩) N cF, .nilIface]) ∧ (w''.cell? ⟨bq, 2, none⟩ = some (.int .i64 (sc : Int)) ∧ w''.cell? ⟨bp, 0, none⟩ = some (.int .i64 x) ∧ w''.cell? ⟨bp, 1, none⟩ = some (.int .i64 y) ∧ w''.cell? ⟨bp + 2, 0, none⟩ = some (.int .i64 (Meta.fld P1 0)) ∧ w''.cell? ⟨bp + 2, 1, none⟩ = some (.int .i64 (Meta.fld P1 1)) ∧ w''.cell? ⟨bp + 2, 2, none⟩ = some (.int .i64 (Meta.fld P1 2)) ∧ w''.cell? ⟨bp + 2, 3, none⟩ = some (.int .i64 (Meta.fld P1 3)) ∧ w''.cell? ⟨bp + 2, 4, none⟩ = some (.int .i64 (Meta.fld P1 4)) ∧ w''.cell? ⟨bp + 2, 5, none⟩ = some (.int .i64 (Meta.fld P1 5)) ∧ Below w6.heap.size w6 w'') ∧ Meta.Buf8 w'' gF (page 10 t (sdOf x y) P1 (fitL l sc)) ∧ N ≤ cF ∧ cF ≤ maxLen ∧ w6.heap.size ≤ gF) := fun w' g9 hs hb => (lay_any (m := 10) t1 (by omega) (by omega) (by omega) (PB.below hs.2.2.2.2.2.2.2.2.2).pg (PB.below hs.2.2.2.2.2.2.2.2.2).base.code (PB.below hs.2.2.2.2.2.2.2.2.2).tab x y P1 hk1 (blk_pol hb hfl.symm (by omega))).mono fun e w'' h => by
        obtain ⟨gF, cF, h1, h2, hgs, h3, h4, h5⟩ := h
        rw [← HNN.out] at h1 h3
        exact ⟨gF, cF, h1, HS.out w'' (hs.2.2.2.2.2.2.2.2.2.trans (h5.mono hs.2.2.2.2.2.2.2.2.2.size)), h2, h3, h4, Nat.le_trans hs.2.2.2.2.2.2.2.2.2.size hgs⟩
      have hS0 := HS.out w6.drew ((Drawn.mk w6 1).below _)
      have HW4 := Lib.hid (And.intro Q2 (And.intro PB (And.intro K (And.intro GB (And.intro HR B)))))
      obtain ⟨c0, c1, c2, c3, c4, c5, c6, c7, c8, c9, c10, c11, c12, c13, _⟩ := rx_cells K
      obtain ⟨p0, p1⟩ := pl_cells Q1
      have f0 := R1.cell 0 (by omega)
      have f1 := R1.cell 1 (by omega)
      have f2 := R1.cell 2 (by omega)
      have f3 := R1.cell 3 (by omega)
      have f4 := R1.cell 4 (by omega)
      have f5 := R1.cell 5 (by omega)
      clear c0 c1 c3 c4 c5 c6 c7 c8 c9 c10 c11 c12 c13 Q1 Q2 R1 PB A1 K GB HR B hlA hlQ hlR
      go_region_held3 (fun w' => (w'.cell? ⟨bq, 2, none⟩ = some (.int .i64 (sc : Int)) ∧ w'.cell? ⟨bp, 0, none⟩ = some (.int .i64 x) ∧ w'.cell? ⟨bp, 1, none⟩ = some (.int .i64 y) ∧ w'.cell? ⟨bp + 2, 0, none⟩ = some (.int .i64 (Meta.fld P1 0)) ∧ w'.cell? ⟨bp + 2, 1, none⟩ = some (.int .i64 (Meta.fld P1 1)) ∧ w'.cell? ⟨bp + 2, 2, none⟩ = some (.int .i64 (Meta.fld P1 2)) ∧ w'.cell? ⟨bp + 2, 3, none⟩ = some (.int .i64 (Meta.fld P1 3)) ∧ w'.cell? ⟨bp + 2, 4, none⟩ = some (.int .i64 (Meta.fld P1 4)) ∧ w'.cell? ⟨bp + 2, 5, none⟩ = some (.int .i64 (Meta.fld P1 5)) ∧ Below w6.heap.size w6 w'))
        (first | assumption | exact ⟨by assumption, by assumption, by assumption, by assumption, by assumption, by assumption, by assumption, by assumption, by assumption, by assumption⟩)
        (first
          | (go_at_call 22; (with_reducible refine Calls.mono (HFt.out _ (by assumption)) ?_); rintro e w1 ⟨g9, rfl, z1, z2⟩)
          | (go_at_call 20; (with_reducible refine Calls.mono (HLy.out _ _ (by assumption) (by assumption)) ?_); rintro e w1 ⟨gF, cF, rfl, z1, F1, hcF, hmF, hgF⟩))
      have b5 := z1.2.2.2.2.2.2.2.2.2
      obtain ⟨w30, rfl⟩ : ∃ w', w' = w1 := ⟨_, rfl⟩
      have hpl : (page 10 t (sdOf x y) P1 (fitL l sc)).length = N := by rw [page_length, hfl, HNN.out]
      have HL0 : Hid (∃ L, Meta.Buf8 w30 gF L ∧ L.length = N ∧ Below w6.heap.size w6 w30) := ⟨_, F1, hpl, b5⟩
      have HGB := Lib.hid (And.intro hgF (And.intro hcF hmF))
      obtain ⟨M8, hM⟩ : ∃ M, M = 8 * N := ⟨_, rfl⟩
      have eM : 8 * (N : Int) = (M8 : Int) := by omega
      have hM1 : 0 < M8 := by omega
      have hM2 : M8 ≤ 1000000 := by omega
      have HM8 := Lib.hid hM
      clear z1 z2 HS HFt HLy hS0 c2 p0 p1 f0 f1 f2 f3 f4 f5 b5 F1 hpl hM hgF hcF hmF hk1 hfl
      go_wp2_with fail
      go_loopg [21] n6 (fun gh s21 wx => ∃ i : Nat, gh = n6 - i ∧ i ≤ n6 ∧ s21 = .int .i64 (i : Int) ∧ Hid (∃ L, Meta.Buf8 wx gF L ∧ L.length = N ∧ Below w6.heap.size w6 wx))
      case atStart => exact ⟨0, rfl, Nat.zero_le _, rfl, HL0⟩
      case round =>
        clear HL0
        obtain ⟨i, hg, hin, rfl, HX⟩ := hrel
        have HI := Lib.hid (And.intro hg hin)
        clear hg
        obtain ⟨w41, rfl⟩ : ∃ w', w' = wr := ⟨_, rfl⟩
        obtain ⟨L, hBuf, hLl, hO⟩ := HX.out
        by_cases hlt : i < n6
        · have x1 : (i : Int) < (n6 : Int) := by omega
          have x0 : (0 : Int) ≤ (i : Int) := by omega
          obtain ⟨bb, off, z, rfl, d1⟩ := (HW4.out.2.2.2.2.1.below hO).at i hlt
          obtain ⟨r1, r2, q, hq, r3⟩ := norm_var z M8 hM1 hM2
          have y0 : (0 : Int) ≤ (q : Int) := by omega
          have y1 : (q : Int) / 8 < (N : Int) := by have := HM8.out; omega
          have y3 : (0 : Int) ≤ (q : Int) / 8 := by omega
          have e1 := hBuf.cell (q / 8) (by have := HM8.out; omega)
          have e2 := hBuf.free (q / 8)
          have HNx : Hid (∃ L', Meta.Buf8 (w41.setCell ⟨gF, q / 8, none⟩ (.int .u8 (Bits32.b (nth8 L (q / 8) ^^^ BitVec.twoPow 8 (q % 8))))) gF L' ∧ L'.length = N ∧ Below w6.heap.size w6 (w41.setCell ⟨gF, q / 8, none⟩ (.int .u8 (Bits32.b (nth8 L (q / 8) ^^^ BitVec.twoPow 8 (q % 8)))))) := ⟨_, hBuf.set (q / 8) (by have := HM8.out; omega) _, by rw [List.length_set]; exact hLl, hO.setCell HGB.out.1 _⟩
          have HI1 := Lib.hid hlt
          clear hO hBuf HX hLl hlt hin
          go_wp2_with fail
          go_roundg (n6 - (i + 1))
          case measure => have := HI.out; have := HI1.out; omega
          case rel => exact ⟨i + 1, rfl, HI1.out, by go_num, HNx⟩
        · obtain rfl : n6 = i := by omega
          obtain ⟨Q2, PB, K, GB, _, B⟩ := HW4.out
          replace Q2 := keepB Q2 hO
          replace PB := PB.below hO
          replace K := keepB K hO
          replace GB := GB.below hO
          replace B := B.trans (hO.mono B.size)
          have PF := buf_pol hBuf hLl.symm HGB.out.2.1 HGB.out.2.2
          have HOp := Lib.hid (open_any (m := 10) PB x2 y2 PF HNN.out)
          have HLl := Lib.hid hLl
          clear HX hBuf hO hLl HW4 HI hin hlt
          obtain ⟨p0, p1⟩ := pl_cells Q2
          go_wp2_with fail
          clear p0 p1
          refine HOp.out.mono ?_
          rintro e w42 ⟨b, hh⟩
          clear HOp
          replace hh : (∃ cls : Int, (cls = 2 ∨ cls = 3) ∧ e = .returned (.tuple #[rsV cls Meta.zeroM (.slice none 0 0) 0, .nilIface])) ∨ (∃ p X g, decP 10 t sc L = some p ∧ X.length = sc + 32 ∧ val X = val (L.take (sc + 32)) ^^^ xs p >>> deg 10 t ∧ Meta.Good (X.drop sc) (Scr.mixL (sdOf x2 y2) (X.take sc)) ∧ e = .returned (.tuple #[rsV 1 (Meta.parse (X.drop sc)) (.slice (some ⟨g, 0, none⟩) sc sc) (p.length : Int), .nilIface]) ∧ Blk8 w42 g (Scr.mixL (sdOf x2 y2) (X.take sc))) := by
            rcases hh with ⟨_, he⟩ | ⟨_, _, he⟩ | ⟨_, p, X, hd, hl, hv, ⟨_, he⟩ | ⟨hG, g, he, hb, _⟩⟩
            · exact .inl ⟨2, .inl rfl, he⟩
            · exact .inl ⟨3, .inr rfl, he⟩
            · exact .inl ⟨3, .inr rfl, he⟩
            · exact .inr ⟨p, X, g, hd, hl, hv, hG, he, hb⟩
          replace Q2 := keepB Q2 b
          replace PB := PB.below b
          replace K := keepB K b
          replace GB := GB.below b
          replace PF := PF.below b
          replace B := B.trans (b.mono B.size)
          clear b
          rcases hh with ⟨cls, hcls, rfl⟩ | ⟨ps, X, gr, hd, hXl, hXv, hG, rfl, Zr⟩
          · skip
            have q1 : (cls == 1) = false := by rw [beq_eq_false_iff_ne]; omega
            have q2 : ¬ cls = 1 := by omega
            clear hcls PF GB PB K Q2
            go_upto_region 16 with (fail)
            generalize hw : w42.alloc (.cells #[.int .i64 cls, .int .i64 (Meta.fld Meta.zeroM 0), .int .i64 (Meta.fld Meta.zeroM 1), .int .i64 (Meta.fld Meta.zeroM 2), .int .i64 (Meta.fld Meta.zeroM 3), .int .i64 (Meta.fld Meta.zeroM 4), .int .i64 (Meta.fld Meta.zeroM 5), .slice none 0 0, .int .i64 0] 55 (0, 0)) = w43
            obtain ⟨Qr, b⟩ := newRsG w42 w43 cls Meta.zeroM _ _ hw
            clear hw
            replace B := B.trans (b.mono B.size)
            clear b
            obtain ⟨br, hbr⟩ : ∃ br, br = w42.heap.size := ⟨_, rfl⟩
            rw [← hbr] at Qr ⊢
            clear hbr
            obtain ⟨v0, v1, _, _, _, _, _, v7, v8, _⟩ := rs_cells Qr
            have q9 : Meta.fld Meta.zeroM 0 = 0 := rfl
            clear Qr
            go_wp2_with fail
            go_ret
            exact ⟨rfl, B⟩
          · skip
            have hform := form_of hG
            obtain ⟨hs1, hs2⟩ := else_of (m := 10) (t := t) PB.base.room PB.base.t40 (by rw [HLl.out, HNN.out]; omega) hXl hd hXv
            have hK2 := hG.2.2.2
            have hDl : (Scr.mixL (sdOf x2 y2) (X.take sc)).length = sc := by rw [Scr.mixL_length, List.length_take]; omega
            generalize Meta.parse (X.drop sc) = P2 at hform hK2 ⊢
            generalize Scr.mixL (sdOf x2 y2) (X.take sc) = D2 at hform hDl Zr
            clear hd hXv hG
            go_upto_region 16 with (fail)
            generalize hw : w42.alloc (.cells #[.int .i64 1, .int .i64 (Meta.fld P2 0), .int .i64 (Meta.fld P2 1), .int .i64 (Meta.fld P2 2), .int .i64 (Meta.fld P2 3), .int .i64 (Meta.fld P2 4), .int .i64 (Meta.fld P2 5), .slice (some ⟨gr, 0, none⟩) sc sc, .int .i64 (ps.length : Int)] 55 (0, 0)) = w43
            obtain ⟨Qr, b⟩ := newRsG w42 w43 1 P2 _ _ hw
            clear hw
            replace Q2 := keepB Q2 b
            replace PB := PB.below b
            replace K := keepB K b
            replace GB := GB.below b
            replace PF := PF.below b
            replace Zr := keepZ Zr b
            replace B := B.trans (b.mono B.size)
            clear b
            obtain ⟨br, hbr⟩ : ∃ br, br = w42.heap.size := ⟨_, rfl⟩
            rw [← hbr] at Qr ⊢
            clear hbr
            obtain ⟨fx, hfx⟩ : ∃ fx, fx = ps.length := ⟨_, rfl⟩
            rw [← hfx] at hs1 hs2 Qr
            clear hfx
            obtain ⟨p0, p1⟩ := pl_cells Q2
            obtain ⟨v0, v1, v2, v3, v4, v5, v6, v7, v8, _⟩ := rs_cells Qr
            go_wp2_with fail
            clear p0 p1
            clear v0 v1 v2 v3 v4 v5 v6 v7 v8
            refine (lay_any (m := 10) t1 (by omega) (by omega) (by omega) PB.pg PB.base.code PB.tab x2 y2 P2 hK2 (blk_pol Zr hDl.symm (by omega))).mono ?_
            rintro e w44 ⟨gB, cB, rfl, FB, _, hcB, hmB, b⟩
            rw [← HNN.out] at hcB ⊢
            replace FB : Meta.Buf8 w44 gB (X ++ pgP 10 t X) := by unfold page at FB; rwa [hform] at FB
            clear Zr
            replace Q2 := keepB Q2 b
            replace PB := PB.below b
            replace K := keepB K b
            replace GB := GB.below b
            replace PF := PF.below b
            replace Qr := keepB Qr b
            replace B := B.trans (b.mono B.size)
            clear b
            obtain ⟨c0, c1, c2, c3, c4, c5, c6, c7, c8, c9, c10, c11, c12, c13, _⟩ := rx_cells K
            go_wp2_with fail
            clear c0 c1 c2 c3 c4 c5 c6 c7 c8 c9 c10 c11 c12 c13
            obtain ⟨p, hp⟩ : ∃ p, p = pb (deg 10 t) := ⟨_, rfl⟩
            have hp8 : p ≤ 5 := by rw [hp]; unfold pb; omega
            have hpp : 1 ≤ p := by have := deg_pos (m := 10) (by omega) t1; rw [hp]; unfold pb; omega
            have HPp := Lib.hid hp
            have hNp : N = n + p := by rw [HNN.out, HNn.out, hp]
            rw [← HNn.out, ← hp] at hs1
            have hXn : X.length = n := by rw [hXl, HNn.out]
            have hYn : (pgP 10 t X).length = p := by rw [pgP_length, hp]
            have i1 : (0 : Int) ≤ (n : Int) := by omega
            have i2 : (n : Int) ≤ (cB : Int) := by omega
            have i3 : (n : Int) ≤ (cF : Int) := by have := HGB.out; omega
            have i4 : (n : Int) ≤ (N : Int) := by omega
            have i5 : ¬ cB = n := by omega
            have i6 : ¬ cF = n := by have := HGB.out; omega
            have eP : N - n = p := by omega
            have e3 : (N : Int) - (n : Int) = (p : Int) := by omega
            have PFB := buf_pol FB (by rw [List.length_append, hXn, hYn, hNp]) hcB hmB
            have U1 := PFB.take n (by omega)
            rw [List.take_left' hXn] at U1
            have V1 := pol_drop PFB n (by omega)
            rw [List.drop_left' hXn, show 0 + n = n from by omega, eP] at V1
            have U2 := PF.take n (by omega)
            have V2 := pol_drop PF n (by omega)
            rw [show 0 + n = n from by omega, eP] at V2
            have hpar : val (pgP 10 t X) % 2 ^ deg 10 t = par 10 t (val X) := pgP_val t X
            obtain ⟨Yc1, hYc1⟩ : ∃ Y, Y = byN (par 10 t (val X)) p := ⟨_, rfl⟩
            have HYc1 : Hid (Yc1.length = p ∧ val Yc1 = val (pgP 10 t X) % 2 ^ deg 10 t ∧ val Yc1 = par 10 t (val X)) := by
              have h1 : val Yc1 = par 10 t (val X) := by rw [hYc1, HPp.out]; exact val_byN (pb_room (par_lt t _))
              exact ⟨by rw [hYc1, byN_length], by rw [hpar, h1], h1⟩
            obtain ⟨Yc2, hYc2⟩ : ∃ Y, Y = byN (val (L.drop n) % 2 ^ deg 10 t) p := ⟨_, rfl⟩
            have HYc2 : Hid (Yc2.length = p ∧ val Yc2 = val (L.drop n) % 2 ^ deg 10 t) := by
              exact ⟨by rw [hYc2, byN_length], by rw [hYc2, HPp.out]; exact val_byN (pb_room (Nat.mod_lt _ (Nat.two_pow_pos _)))⟩
            rw [← HYc1.out.2.2, ← HYc2.out.2] at hs1
            generalize hY1 : pgP 10 t X = Y1 at V1 HYc1
            generalize hX2 : L.take n = X2 at U2 hs1
            generalize hY2 : L.drop n = Y2 at V2 HYc2
            clear hYc1 hYc2 hpar PFB FB PF hXn hYn hY1 hX2 hY2 hform hXl hp hcB hmB
            obtain ⟨p1, hp1⟩ : ∃ p1, p1 = pop (val X ^^^ val X2) (8 * n) := ⟨_, rfl⟩
            obtain ⟨p2, hp2⟩ : ∃ p2, p2 = pop (val Yc1 ^^^ val Yc2) (8 * p) := ⟨_, rfl⟩
            rw [← hp1, ← hp2] at hs1
            have r4 : IntKind.i64.wrap ((p1 : Int) + (p2 : Int)) = (fx : Int) := by rw [IntWalk.i64_in _ (by omega)]; omega
            have r5 : ((fx : Int) == (fx : Int)) = true := beq_self_eq_true _
            have r6 : (fx : Int) ≤ (t : Int) := by omega
            have r7 : decide ((fx : Int) ≤ (t : Int)) = true := decide_eq_true r6
            have hn71 : n ≤ 71 := by rw [HNn.out]; omega
            have hlA := lt_of_block K
            have hlr := lt_of_block Qr
            have HS9 : Hid (∀ w', Below w44.heap.size w44 w' → (w'.cell? ⟨bq, 4, none⟩ = some (.int .i64 (t : Int)) ∧ w'.cell? ⟨bq, 9, none⟩ = some (.int .i64 10) ∧ w'.cell? ⟨bq, 10, none⟩ = some (.int .i64 (t : Int)) ∧ w'.cell? ⟨bq, 11, none⟩ = some (.int .i64 (n : Int)) ∧ w'.cell? ⟨bq, 12, none⟩ = some (.slice ga gn gc) ∧ w'.cell? ⟨bq, 13, none⟩ = some (.int .i64 (deg 10 t : Int)) ∧ w'.cell? ⟨br, 8, none⟩ = some (.int .i64 (fx : Int)) ∧ Below w44.heap.size w44 w')) := fun w' b => by
              obtain ⟨c0, c1, c2, c3, c4, c5, c6, c7, c8, c9, c10, c11, c12, c13, _⟩ := rx_cells ((b.block bq hlA).trans K)
              obtain ⟨_, _, _, _, _, _, _, _, v8, _⟩ := rs_cells ((b.block br hlr).trans Qr)
              exact ⟨c4, c9, c10, c11, c12, c13, v8, b⟩
            have HA1 : Hid (∀ w' (_ : (w'.cell? ⟨bq, 4, none⟩ = some (.int .i64 (t : Int)) ∧ w'.cell? ⟨bq, 9, none⟩ = some (.int .i64 10) ∧ w'.cell? ⟨bq, 10, none⟩ = some (.int .i64 (t : Int)) ∧ w'.cell? ⟨bq, 11, none⟩ = some (.int .i64 (n : Int)) ∧ w'.cell? ⟨bq, 12, none⟩ = some (.slice ga gn gc) ∧ w'.cell? ⟨bq, 13, none⟩ = some (.int .i64 (deg 10 t : Int)) ∧ w'.cell? ⟨br, 8, none⟩ = some (.int .i64 (fx : Int)) ∧ Below w44.heap.size w44 w')), Calls Tryz.prog 31 #[.slice (some ⟨gB, 0, none⟩) n cB, .slice (some ⟨gF, 0, none⟩) n cF] w' fun e w'' => e = .returned (.int .i64 (p1 : Int)) ∧ w' = w'') := fun w' hs => by rw [hp1]; exact distance_any _ _ n _ _ X X2 (by omega) w' (U1.below hs.2.2.2.2.2.2.2) (U2.below hs.2.2.2.2.2.2.2)
            have HC1b : Hid (∀ w' g8 (_ : (w'.cell? ⟨bq, 4, none⟩ = some (.int .i64 (t : Int)) ∧ w'.cell? ⟨bq, 9, none⟩ = some (.int .i64 10) ∧ w'.cell? ⟨bq, 10, none⟩ = some (.int .i64 (t : Int)) ∧ w'.cell? ⟨bq, 11, none⟩ = some (.int .i64 (n : Int)) ∧ w'.cell? ⟨bq, 12, none⟩ = some (.slice ga gn gc) ∧ w'.cell? ⟨bq, 13, none⟩ = some (.int .i64 (deg 10 t : Int)) ∧ w'.cell? ⟨br, 8, none⟩ = some (.int .i64 (fx : Int)) ∧ Below w44.heap.size w44 w')) (_ : Blk8 w' g8 Yc2), Calls Tryz.prog 32 #[.agg #[.int .i64 10, .int .i64 (t : Int), .int .i64 (n : Int), .slice ga gn gc, .int .i64 (deg 10 t : Int)], .slice (some ⟨gB, n, none⟩) p (cB - n)] w' fun e w'' => ∃ g9, e = .returned (.slice (some ⟨g9, 0, none⟩) p p) ∧ (w''.cell? ⟨bq, 4, none⟩ = some (.int .i64 (t : Int)) ∧ w''.cell? ⟨bq, 9, none⟩ = some (.int .i64 10) ∧ w''.cell? ⟨bq, 10, none⟩ = some (.int .i64 (t : Int)) ∧ w''.cell? ⟨bq, 11, none⟩ = some (.int .i64 (n : Int)) ∧ w''.cell? ⟨bq, 12, none⟩ = some (.slice ga gn gc) ∧ w''.cell? ⟨bq, 13, none⟩ = some (.int .i64 (deg 10 t : Int)) ∧ w''.cell? ⟨br, 8, none⟩ = some (.int .i64 (fx : Int)) ∧ Below w44.heap.size w44 w'') ∧ Blk8 w'' g9 Yc1 ∧ Blk8 w'' g8 Yc2) := fun w' g8 hs hb => (rclear_any 10 t n ga gn gc (deg 10 t) p (by omega) HPp.out _ _ Y1 w' (V1.below hs.2.2.2.2.2.2.2)).mono fun e w'' h => by
              obtain ⟨g9, Y', h1, h2, h3, h4, _, h6⟩ := h
              obtain rfl : Y' = Yc1 := len_inj (by rw [h3, HYc1.out.1]) (by rw [h4, HYc1.out.2.1])
              exact ⟨g9, h1, HS9.out w'' (hs.2.2.2.2.2.2.2.trans (h6.mono hs.2.2.2.2.2.2.2.size)), h2, keepZ hb h6⟩
            have HC1 : Hid (∀ w' (_ : (w'.cell? ⟨bq, 4, none⟩ = some (.int .i64 (t : Int)) ∧ w'.cell? ⟨bq, 9, none⟩ = some (.int .i64 10) ∧ w'.cell? ⟨bq, 10, none⟩ = some (.int .i64 (t : Int)) ∧ w'.cell? ⟨bq, 11, none⟩ = some (.int .i64 (n : Int)) ∧ w'.cell? ⟨bq, 12, none⟩ = some (.slice ga gn gc) ∧ w'.cell? ⟨bq, 13, none⟩ = some (.int .i64 (deg 10 t : Int)) ∧ w'.cell? ⟨br, 8, none⟩ = some (.int .i64 (fx : Int)) ∧ Below w44.heap.size w44 w')), Calls Tryz.prog 32 #[.agg #[.int .i64 10, .int .i64 (t : Int), .int .i64 (n : Int), .slice ga gn gc, .int .i64 (deg 10 t : Int)], .slice (some ⟨gB, n, none⟩) p (cB - n)] w' fun e w'' => ∃ g9, e = .returned (.slice (some ⟨g9, 0, none⟩) p p) ∧ (w''.cell? ⟨bq, 4, none⟩ = some (.int .i64 (t : Int)) ∧ w''.cell? ⟨bq, 9, none⟩ = some (.int .i64 10) ∧ w''.cell? ⟨bq, 10, none⟩ = some (.int .i64 (t : Int)) ∧ w''.cell? ⟨bq, 11, none⟩ = some (.int .i64 (n : Int)) ∧ w''.cell? ⟨bq, 12, none⟩ = some (.slice ga gn gc) ∧ w''.cell? ⟨bq, 13, none⟩ = some (.int .i64 (deg 10 t : Int)) ∧ w''.cell? ⟨br, 8, none⟩ = some (.int .i64 (fx : Int)) ∧ Below w44.heap.size w44 w'') ∧ Blk8 w'' g9 Yc1) := fun w' hs => (rclear_any 10 t n ga gn gc (deg 10 t) p (by omega) HPp.out _ _ Y1 w' (V1.below hs.2.2.2.2.2.2.2)).mono fun e w'' h => by
              obtain ⟨g9, Y', h1, h2, h3, h4, _, h6⟩ := h
              obtain rfl : Y' = Yc1 := len_inj (by rw [h3, HYc1.out.1]) (by rw [h4, HYc1.out.2.1])
              exact ⟨g9, h1, HS9.out w'' (hs.2.2.2.2.2.2.2.trans (h6.mono hs.2.2.2.2.2.2.2.size)), h2⟩
            have HC2b : Hid (∀ w' g8 (_ : (w'.cell? ⟨bq, 4, none⟩ = some (.int .i64 (t : Int)) ∧ w'.cell? ⟨bq, 9, none⟩ = some (.int .i64 10) ∧ w'.cell? ⟨bq, 10, none⟩ = some (.int .i64 (t : Int)) ∧ w'.cell? ⟨bq, 11, none⟩ = some (.int .i64 (n : Int)) ∧ w'.cell? ⟨bq, 12, none⟩ = some (.slice ga gn gc) ∧ w'.cell? ⟨bq, 13, none⟩ = some (.int .i64 (deg 10 t : Int)) ∧ w'.cell? ⟨br, 8, none⟩ = some (.int .i64 (fx : Int)) ∧ Below w44.heap.size w44 w')) (_ : Blk8 w' g8 Yc1), Calls Tryz.prog 32 #[.agg #[.int .i64 10, .int .i64 (t : Int), .int .i64 (n : Int), .slice ga gn gc, .int .i64 (deg 10 t : Int)], .slice (some ⟨gF, n, none⟩) p (cF - n)] w' fun e w'' => ∃ g9, e = .returned (.slice (some ⟨g9, 0, none⟩) p p) ∧ (w''.cell? ⟨bq, 4, none⟩ = some (.int .i64 (t : Int)) ∧ w''.cell? ⟨bq, 9, none⟩ = some (.int .i64 10) ∧ w''.cell? ⟨bq, 10, none⟩ = some (.int .i64 (t : Int)) ∧ w''.cell? ⟨bq, 11, none⟩ = some (.int .i64 (n : Int)) ∧ w''.cell? ⟨bq, 12, none⟩ = some (.slice ga gn gc) ∧ w''.cell? ⟨bq, 13, none⟩ = some (.int .i64 (deg 10 t : Int)) ∧ w''.cell? ⟨br, 8, none⟩ = some (.int .i64 (fx : Int)) ∧ Below w44.heap.size w44 w'') ∧ Blk8 w'' g9 Yc2 ∧ Blk8 w'' g8 Yc1) := fun w' g8 hs hb => (rclear_any 10 t n ga gn gc (deg 10 t) p (by omega) HPp.out _ _ Y2 w' (V2.below hs.2.2.2.2.2.2.2)).mono fun e w'' h => by
              obtain ⟨g9, Y', h1, h2, h3, h4, _, h6⟩ := h
              obtain rfl : Y' = Yc2 := len_inj (by rw [h3, HYc2.out.1]) (by rw [h4, HYc2.out.2])
              exact ⟨g9, h1, HS9.out w'' (hs.2.2.2.2.2.2.2.trans (h6.mono hs.2.2.2.2.2.2.2.size)), h2, keepZ hb h6⟩
            have HC2 : Hid (∀ w' (_ : (w'.cell? ⟨bq, 4, none⟩ = some (.int .i64 (t : Int)) ∧ w'.cell? ⟨bq, 9, none⟩ = some (.int .i64 10) ∧ w'.cell? ⟨bq, 10, none⟩ = some (.int .i64 (t : Int)) ∧ w'.cell? ⟨bq, 11, none⟩ = some (.int .i64 (n : Int)) ∧ w'.cell? ⟨bq, 12, none⟩ = some (.slice ga gn gc) ∧ w'.cell? ⟨bq, 13, none⟩ = some (.int .i64 (deg 10 t : Int)) ∧ w'.cell? ⟨br, 8, none⟩ = some (.int .i64 (fx : Int)) ∧ Below w44.heap.size w44 w')), Calls Tryz.prog 32 #[.agg #[.int .i64 10, .int .i64 (t : Int), .int .i64 (n : Int), .slice ga gn gc, .int .i64 (deg 10 t : Int)], .slice (some ⟨gF, n, none⟩) p (cF - n)] w' fun e w'' => ∃ g9, e = .returned (.slice (some ⟨g9, 0, none⟩) p p) ∧ (w''.cell? ⟨bq, 4, none⟩ = some (.int .i64 (t : Int)) ∧ w''.cell? ⟨bq, 9, none⟩ = some (.int .i64 10) ∧ w''.cell? ⟨bq, 10, none⟩ = some (.int .i64 (t : Int)) ∧ w''.cell? ⟨bq, 11, none⟩ = some (.int .i64 (n : Int)) ∧ w''.cell? ⟨bq, 12, none⟩ = some (.slice ga gn gc) ∧ w''.cell? ⟨bq, 13, none⟩ = some (.int .i64 (deg 10 t : Int)) ∧ w''.cell? ⟨br, 8, none⟩ = some (.int .i64 (fx : Int)) ∧ Below w44.heap.size w44 w'') ∧ Blk8 w'' g9 Yc2) := fun w' hs => (rclear_any 10 t n ga gn gc (deg 10 t) p (by omega) HPp.out _ _ Y2 w' (V2.below hs.2.2.2.2.2.2.2)).mono fun e w'' h => by
              obtain ⟨g9, Y', h1, h2, h3, h4, _, h6⟩ := h
              obtain rfl : Y' = Yc2 := len_inj (by rw [h3, HYc2.out.1]) (by rw [h4, HYc2.out.2])
              exact ⟨g9, h1, HS9.out w'' (hs.2.2.2.2.2.2.2.trans (h6.mono hs.2.2.2.2.2.2.2.size)), h2⟩
            have HA3 : Hid (∀ w' g9 g8 (_ : (w'.cell? ⟨bq, 4, none⟩ = some (.int .i64 (t : Int)) ∧ w'.cell? ⟨bq, 9, none⟩ = some (.int .i64 10) ∧ w'.cell? ⟨bq, 10, none⟩ = some (.int .i64 (t : Int)) ∧ w'.cell? ⟨bq, 11, none⟩ = some (.int .i64 (n : Int)) ∧ w'.cell? ⟨bq, 12, none⟩ = some (.slice ga gn gc) ∧ w'.cell? ⟨bq, 13, none⟩ = some (.int .i64 (deg 10 t : Int)) ∧ w'.cell? ⟨br, 8, none⟩ = some (.int .i64 (fx : Int)) ∧ Below w44.heap.size w44 w')) (_ : Blk8 w' g9 Yc1) (_ : Blk8 w' g8 Yc2), Calls Tryz.prog 31 #[.slice (some ⟨g9, 0, none⟩) p p, .slice (some ⟨g8, 0, none⟩) p p] w' fun e w'' => e = .returned (.int .i64 (p2 : Int)) ∧ w' = w'') := fun w' g9 g8 hs hb hb' => by rw [hp2]; exact distance_any _ _ p _ _ Yc1 Yc2 (by omega) w' (blk_pol hb HYc1.out.1.symm (by omega)) (blk_pol hb' HYc2.out.1.symm (by omega))
            have hS0 := HS9.out w44.drew ((Drawn.mk w44 1).below _)
            obtain ⟨c0, c1, c2, c3, c4, c5, c6, c7, c8, c9, c10, c11, c12, c13, _⟩ := rx_cells K
            have v8 := (rs_cells Qr).2.2.2.2.2.2.2.2.1
            have HB := Lib.hid B
            clear c0 c1 c2 c3 c5 c6 c7 c8
            clear Q2 PB GB K Qr B U1 U2 V1 V2 hp1 hp2 hs1 hs2 hlA hlr hK2 hDl hNp
            go_region_held3 (fun w' => (w'.cell? ⟨bq, 4, none⟩ = some (.int .i64 (t : Int)) ∧ w'.cell? ⟨bq, 9, none⟩ = some (.int .i64 10) ∧ w'.cell? ⟨bq, 10, none⟩ = some (.int .i64 (t : Int)) ∧ w'.cell? ⟨bq, 11, none⟩ = some (.int .i64 (n : Int)) ∧ w'.cell? ⟨bq, 12, none⟩ = some (.slice ga gn gc) ∧ w'.cell? ⟨bq, 13, none⟩ = some (.int .i64 (deg 10 t : Int)) ∧ w'.cell? ⟨br, 8, none⟩ = some (.int .i64 (fx : Int)) ∧ Below w44.heap.size w44 w'))
              (first | assumption | exact ⟨by assumption, by assumption, by assumption, by assumption, by assumption, by assumption, by assumption, by assumption⟩)
              (first
                | (go_at_call 31; (with_reducible refine Calls.mono (HA1.out _ (by assumption)) ?_); rintro e w1 ⟨rfl, rfl⟩)
                | (go_at_call 32; (with_reducible refine Calls.mono (HC1b.out _ _ (by assumption) (by assumption)) ?_); rintro e w1 ⟨g9, rfl, z1, z2, z3⟩)
                | (go_at_call 32; (with_reducible refine Calls.mono (HC2b.out _ _ (by assumption) (by assumption)) ?_); rintro e w1 ⟨g8, rfl, z1, z3, z2⟩)
                | (go_at_call 32; (with_reducible refine Calls.mono (HC1.out _ (by assumption)) ?_); rintro e w1 ⟨g9, rfl, z1, z2⟩)
                | (go_at_call 32; (with_reducible refine Calls.mono (HC2.out _ (by assumption)) ?_); rintro e w1 ⟨g8, rfl, z1, z3⟩)
                | (go_at_call 31; (with_reducible refine Calls.mono (HA3.out _ _ _ (by assumption) (by assumption) (by assumption)) ?_); rintro e w1 ⟨rfl, rfl⟩))
            have B := HB.out.trans (z1.2.2.2.2.2.2.2.mono HB.out.size)
            clear z1 z2 z3 HS9 HA1 HC1b HC1 HC2b HC2 HA3 hS0 r4 i1 i2 i3 i4 i5 i6 eP e3 c4 c9 c10 c11 c12 c13 v8
            go_wp2_with fail
            go_ret
            exact ⟨rfl, B⟩
    · skip
      have hlA := lt_of_block K
      have hlQ := lt_of_block Q1
      have hlR := R1.lt
      have HS : Hid (∀ w', Below w6.heap.size w6 w' → (w'.cell? ⟨bq, 2, none⟩ = some (.int .i64 (sc : Int)) ∧ w'.cell? ⟨bp, 0, none⟩ = some (.int .i64 x) ∧ w'.cell? ⟨bp, 1, none⟩ = some (.int .i64 y) ∧ w'.cell? ⟨bp + 2, 0, none⟩ = some (.int .i64 (Meta.fld P1 0)) ∧ w'.cell? ⟨bp + 2, 1, none⟩ = some (.int .i64 (Meta.fld P1 1)) ∧ w'.cell? ⟨bp + 2, 2, none⟩ = some (.int .i64 (Meta.fld P1 2)) ∧ w'.cell? ⟨bp + 2, 3, none⟩ = some (.int .i64 (Meta.fld P1 3)) ∧ w'.cell? ⟨bp + 2, 4, none⟩ = some (.int .i64 (Meta.fld P1 4)) ∧ w'.cell? ⟨bp + 2, 5, none⟩ = some (.int .i64 (Meta.fld P1 5)) ∧ Below w6.heap.size w6 w')) := fun w' b => by
        obtain ⟨c0, c1, c2, _⟩ := rx_cells ((b.block bq hlA).trans K)
        obtain ⟨p0, p1⟩ := pl_cells ((b.block bp hlQ).trans Q1)
        have R1' := keepM R1 b
        exact ⟨c2, p0, p1, R1'.cell 0 (by omega), R1'.cell 1 (by omega), R1'.cell 2 (by omega), R1'.cell 3 (by omega), R1'.cell 4 (by omega), R1'.cell 5 (by omega), b⟩
      have hfl := fitL_length l sc
      have HFt : Hid (∀ w' (_ : (w'.cell? ⟨bq, 2, none⟩ = some (.int .i64 (sc : Int)) ∧ w'.cell? ⟨bp, 0, none⟩ = some (.int .i64 x) ∧ w'.cell? ⟨bp, 1, none⟩ = some (.int .i64 y) ∧ w'.cell? ⟨bp + 2, 0, none⟩ = some (.int .i64 (Meta.fld P1 0)) ∧ w'.cell? ⟨bp + 2, 1, none⟩ = some (.int .i64 (Meta.fld P1 1)) ∧ w'.cell? ⟨bp + 2, 2, none⟩ = some (.int .i64 (Meta.fld P1 2)) ∧ w'.cell? ⟨bp + 2, 3, none⟩ = some (.int .i64 (Meta.fld P1 3)) ∧ w'.cell? ⟨bp + 2, 4, none⟩ = some (.int .i64 (Meta.fld P1 4)) ∧ w'.cell? ⟨bp + 2, 5, none⟩ = some (.int .i64 (Meta.fld P1 5)) ∧ Below w6.heap.size w6 w')), Calls Tryz.prog 22 #[.slice a na ca, .int .i64 (sc : Int)] w' fun e w'' => ∃ g9, e = .returned (.slice (some ⟨g9, 0, none⟩) sc sc) ∧ (w''.cell? ⟨bq, 2, none⟩ = some (.int .i64 (sc : Int)) ∧ w''.cell? ⟨bp, 0, none⟩ = some (.int .i64 x) ∧ w''.cell? ⟨bp, 1, none⟩ = some (.int .i64 y) ∧ w''.cell? ⟨bp + 2, 0, none⟩ = some (.int .i64 (Meta.fld P1 0)) ∧ w''.cell? ⟨bp + 2, 1, none⟩ = some (.int .i64 (Meta.fld P1 1)) ∧ w''.cell? ⟨bp + 2, 2, none⟩ = some (.int .i64 (Meta.fld P1 2)) ∧ w''.cell? ⟨bp + 2, 3, none⟩ = some (.int .i64 (Meta.fld P1 3)) ∧ w''.cell? ⟨bp + 2, 4, none⟩ = some (.int .i64 (Meta.fld P1 4)) ∧ w''.cell? ⟨bp + 2, 5, none⟩ = some (.int .i64 (Meta.fld P1 5)) ∧ Below w6.heap.size w6 w'') ∧ Blk8 w'' g9 (fitL l sc)) := fun w' hs => (fit13_any a na ca l sc (by omega) w' (A1.below hs.2.2.2.2.2.2.2.2.2)).mono fun e w'' h => ⟨_, h.1, HS.out w'' (hs.2.2.2.2.2.2.2.2.2.trans (h.2.2.mono hs.2.2.2.2.2.2.2.2.2.size)), h.2.1⟩
      have HLy : Hid (∀ w' g9 (_ : (w'.cell? ⟨bq, 2, none⟩ = some (.int .i64 (sc : Int)) ∧ w'.cell? ⟨bp, 0, none⟩ = some (.int .i64 x) ∧ w'.cell? ⟨bp, 1, none⟩ = some (.int .i64 y) ∧ w'.cell? ⟨bp + 2, 0, none⟩ = some (.int .i64 (Meta.fld P1 0)) ∧ w'.cell? ⟨bp + 2, 1, none⟩ = some (.int .i64 (Meta.fld P1 1)) ∧ w'.cell? ⟨bp + 2, 2, none⟩ = some (.int .i64 (Meta.fld P1 2)) ∧ w'.cell? ⟨bp + 2, 3, none⟩ = some (.int .i64 (Meta.fld P1 3)) ∧ w'.cell? ⟨bp + 2, 4, none⟩ = some (.int .i64 (Meta.fld P1 4)) ∧ w'.cell? ⟨bp + 2, 5, none⟩ = some (.int .i64 (Meta.fld P1 5)) ∧ Below w6.heap.size w6 w')) (_ : Blk8 w' g9 (fitL l sc)), Calls Tryz.prog 20 #[.pointer (some ⟨cb, 0, none⟩), .agg #[.int .i64 x, .int .i64 y], .agg #[.int .i64 (Meta.fld P1 0), .int .i64 (Meta.fld P1 1), .int .i64 (Meta.fld P1 2), .int .i64 (Meta.fld P1 3), .int .i64 (Meta.fld P1 4), .int .i64 (Meta.fld P1 5)], .slice (some ⟨g9, 0, none⟩) sc sc] w' fun e w'' => e = .returned (.tuple #[.slice none 0 0, errOf yr]) ∧ (w''.cell? ⟨bq, 2, none⟩ = some (.int .i64 (sc : Int)) ∧ w''.cell? ⟨bp, 0, none⟩ = some (.int .i64 x) ∧ w''.cell? ⟨bp, 1, none⟩ = some (.int .i64 y) ∧ w''.cell? ⟨bp + 2, 0, none⟩ = some (.int .i64 (Meta.fld P1 0)) ∧ w''.cell? ⟨bp + 2, 1, none⟩ = some (.int .i64 (Meta.fld P1 1)) ∧ w''.cell? ⟨bp + 2, 2, none⟩ = some (.int .i64 (Meta.fld P1 2)) ∧ w''.cell? ⟨bp + 2, 3, none⟩ = some (.int .i64 (Meta.fld P1 3)) ∧ w''.cell? ⟨bp + 2, 4, none⟩ = some (.int .i64 (Meta.fld P1 4)) ∧ w''.cell? ⟨bp + 2, 5, none⟩ = some (.int .i64 (Meta.fld P1 5)) ∧ Below w6.heap.size w6 w'')) := fun w' g9 hs hb => (lay_no (sc := sc) (PB.below hs.2.2.2.2.2.2.2.2.2).pg (PB.below hs.2.2.2.2.2.2.2.2.2).rcd x y P1 hk1).mono fun e w'' h => ⟨h.1, HS.out w'' (hs.2.2.2.2.2.2.2.2.2.trans (h.2.mono hs.2.2.2.2.2.2.2.2.2.size))⟩
      have hS0 := HS.out w6.drew ((Drawn.mk w6 1).below _)
      have HW4 := Lib.hid (And.intro Q2 (And.intro PB (And.intro K (And.intro GB (And.intro HR B)))))
      obtain ⟨c0, c1, c2, c3, c4, c5, c6, c7, c8, c9, c10, c11, c12, c13, _⟩ := rx_cells K
      obtain ⟨p0, p1⟩ := pl_cells Q1
      have f0 := R1.cell 0 (by omega)
      have f1 := R1.cell 1 (by omega)
      have f2 := R1.cell 2 (by omega)
      have f3 := R1.cell 3 (by omega)
      have f4 := R1.cell 4 (by omega)
      have f5 := R1.cell 5 (by omega)
      clear c0 c1 c3 c4 c5 c6 c7 c8 c9 c10 c11 c12 c13 Q1 Q2 R1 PB A1 K GB HR B hlA hlQ hlR
      go_region_held3 (fun w' => (w'.cell? ⟨bq, 2, none⟩ = some (.int .i64 (sc : Int)) ∧ w'.cell? ⟨bp, 0, none⟩ = some (.int .i64 x) ∧ w'.cell? ⟨bp, 1, none⟩ = some (.int .i64 y) ∧ w'.cell? ⟨bp + 2, 0, none⟩ = some (.int .i64 (Meta.fld P1 0)) ∧ w'.cell? ⟨bp + 2, 1, none⟩ = some (.int .i64 (Meta.fld P1 1)) ∧ w'.cell? ⟨bp + 2, 2, none⟩ = some (.int .i64 (Meta.fld P1 2)) ∧ w'.cell? ⟨bp + 2, 3, none⟩ = some (.int .i64 (Meta.fld P1 3)) ∧ w'.cell? ⟨bp + 2, 4, none⟩ = some (.int .i64 (Meta.fld P1 4)) ∧ w'.cell? ⟨bp + 2, 5, none⟩ = some (.int .i64 (Meta.fld P1 5)) ∧ Below w6.heap.size w6 w'))
        (first | assumption | exact ⟨by assumption, by assumption, by assumption, by assumption, by assumption, by assumption, by assumption, by assumption, by assumption, by assumption⟩)
        (first
          | (go_at_call 22; (with_reducible refine Calls.mono (HFt.out _ (by assumption)) ?_); rintro e w1 ⟨g9, rfl, z1, z2⟩)
          | (go_at_call 20; (with_reducible refine Calls.mono (HLy.out _ _ (by assumption) (by assumption)) ?_); rintro e w1 ⟨rfl, z1⟩))
      have b5 := z1.2.2.2.2.2.2.2.2.2
      obtain ⟨w30, rfl⟩ : ∃ w', w' = w1 := ⟨_, rfl⟩
      have B := HW4.out.2.2.2.2.2.trans (b5.mono HW4.out.2.2.2.2.2.size)
      clear z1 z2 HW4 HS HFt HLy hS0 c2 p0 p1 f0 f1 f2 f3 f4 f5 b5
      go_wp2_with fail
      go_ret
      exact ⟨rfl, B⟩
  · have y60 : (60 : Int) < (n6 : Int) := by omega
    have y61 : decide ((60 : Int) < (n6 : Int)) = true := decide_eq_true y60
    go_enter Tryz.func7, Tryz.ntmps7
    have B : Below w.heap.size w w := Below.refl _ _
    go_wp2_with fail
    generalize hw : w.alloc (.cells #[.int .i64 x, .int .i64 y] 43 (0, 0)) = w1
    obtain ⟨Q1, b, hz1⟩ := newPl w w1 x y hw
    clear hw
    replace EC := EC.below b
    replace EM := EM.below b
    replace EZ := EZ.below b
    replace ER := ER.below b
    replace T := T.below b T.lt
    replace A1 := A1.below b
    replace HR := HR.below b
    replace B := B.trans (b.mono B.size)
    clear b
    generalize hw : w1.alloc (.cells #[.int .i64 x2, .int .i64 y2] 43 (0, 0)) = w2
    obtain ⟨Q2, b, hz2⟩ := newPl w1 w2 x2 y2 hw
    clear hw
    replace EC := EC.below b
    replace EM := EM.below b
    replace EZ := EZ.below b
    replace ER := ER.below b
    replace T := T.below b T.lt
    replace A1 := A1.below b
    replace HR := HR.below b
    replace Q1 := keepB Q1 b
    replace B := B.trans (b.mono B.size)
    clear b
    generalize hw : w2.alloc (.cells #[.int .i64 (Meta.fld P1 0), .int .i64 (Meta.fld P1 1), .int .i64 (Meta.fld P1 2), .int .i64 (Meta.fld P1 3), .int .i64 (Meta.fld P1 4), .int .i64 (Meta.fld P1 5)] 45 (0, 0)) = w3
    obtain ⟨R1, b⟩ := newMeta w2 w3 P1 hw
    clear hw
    replace EC := EC.below b
    replace EM := EM.below b
    replace EZ := EZ.below b
    replace ER := ER.below b
    replace T := T.below b T.lt
    replace A1 := A1.below b
    replace HR := HR.below b
    replace Q1 := keepB Q1 b
    replace Q2 := keepB Q2 b
    replace B := B.trans (b.mono B.size)
    clear b
    rw [hz2, hz1] at R1
    rw [hz1] at Q2
    obtain ⟨bp, hbp⟩ : ∃ bp, bp = w.heap.size := ⟨_, rfl⟩
    rw [← hbp] at Q1 Q2 R1 ⊢
    clear hbp hz1 hz2
    refine (first13_any w3 EC EM EZ ER T).mono ?_
    rintro e w4 ⟨rfl, b⟩
    replace EC := EC.below b
    replace EM := EM.below b
    replace EZ := EZ.below b
    replace ER := ER.below b
    replace T := T.below b T.lt
    replace A1 := A1.below b
    replace HR := HR.below b
    replace Q1 := keepB Q1 b
    replace Q2 := keepB Q2 b
    replace R1 := keepM R1 b
    replace B := B.trans (b.mono B.size)
    clear b
    go_wp2_with fail
    refine (made_any z1 z2 w4 yc EC).mono ?_
    rintro e w5 ⟨cb, s, db, ga, gn, gc, rfl, PG, C, DA, GB, b⟩
    clear EC
    obtain ⟨s1, s2⟩ := mkS_in z2
    obtain ⟨t1, t2⟩ := mkT_in z1
    generalize Pg.mkS z2 = sc at PG C s1 s2 ⊢
    generalize Pg.mkT z1 = t at C GB t1 t2 ⊢
    replace EM := EM.below b
    replace EZ := EZ.below b
    replace ER := ER.below b
    replace T := T.below b T.lt
    replace A1 := A1.below b
    replace HR := HR.below b
    replace Q1 := keepB Q1 b
    replace Q2 := keepB Q2 b
    replace R1 := keepM R1 b
    replace B := B.trans (b.mono B.size)
    clear b
    have PB : PBase 10 t sc w5 cb s db ym yz yr := ⟨PG, ⟨DA, C, EM, EZ, by omega, by omega, by omega, by omega, (may10 s2 t1 t2).room⟩, ER, T, by omega, by omega⟩
    clear PG C DA EM EZ ER T
    obtain ⟨n, hn⟩ : ∃ n, n = sc + 32 := ⟨_, rfl⟩
    have e32 : (sc : Int) + 32 = (n : Int) := by omega
    have HNn := Lib.hid hn
    have HRm := Lib.hid (show 8 * n + deg 10 t ≤ sz 10 from by rw [hn]; exact (may10 s2 t1 t2).room)
    have HDl : deg 10 t ≤ 40 := by have h1 := deg_le (m := 10) (by omega) t; omega
    rw [← hn]
    clear hn
    go_wp2_with fail
    generalize hw : w5.alloc (.cells #[.int .i64 10, .int .i64 16, .int .i64 (sc : Int), .int .i64 10, .int .i64 (t : Int), .int .i64 2, .int .i64 0, .int .i64 4, .int .i64 8, .int .i64 10, .int .i64 (t : Int), .int .i64 (n : Int), .slice ga gn gc, .int .i64 (deg 10 t : Int)] 40 (0, 0)) = w6
    obtain ⟨K, b⟩ := newRx w5 w6 _ _ _ _ _ _ _ _ _ _ _ _ _ _ hw
    clear hw
    replace A1 := A1.below b
    replace HR := HR.below b
    replace Q1 := keepB Q1 b
    replace Q2 := keepB Q2 b
    replace R1 := keepM R1 b
    replace PB := PB.below b
    replace GB := GB.below b
    replace B := B.trans (b.mono B.size)
    clear b
    obtain ⟨bq, hbq⟩ : ∃ bq, bq = w5.heap.size := ⟨_, rfl⟩
    rw [← hbq] at K ⊢
    clear hbq
    go_ret
    exact ⟨rfl, B⟩
theorem walk (a0 a1 : Int) (n2 n3 n4 : Nat → Int) (a5 : Option Addr) (len5 cap5 : Nat) (z5 : List Int) (a6 : Option Addr) (len6 cap6 : Nat) (z6 : List Int) (W : World) (w0 : (Lit.int .i64 a0).wf = true) (w1 : (Lit.int .i64 a1).wf = true) (w2 : ∀ i, i < 2 → (Lit.int .i64 (n2 i)).wf = true) (w3 : ∀ i, i < 2 → (Lit.int .i64 (n3 i)).wf = true) (w4 : ∀ i, i < 6 → (Lit.int .i64 (n4 i)).wf = true) (w5 : IsRow .u8 W a5 len5 cap5 z5) (w6 : IsRow .i64 W a6 len6 cap6 z6) (h : LaidPageElsewhere.Holds W) :
    Calls Tryz.prog 7 #[.int .i64 a0, .int .i64 a1, .agg ((List.range 2).map fun i => .int .i64 (n2 i)).toArray, .agg ((List.range 2).map fun i => .int .i64 (n3 i)).toArray, .agg ((List.range 6).map fun i => .int .i64 (n4 i)).toArray, .slice a5 len5 cap5, .slice a6 len6 cap6] W fun e w' => e = .returned (.bool true) ∧ Below W.heap.size W w' := by
  obtain ⟨T, f, ⟨_, _, E3, _, E5, E6, E7, _, _⟩, _⟩ := h
  obtain ⟨l5, h5⟩ := row_pol w5
  refine core a0 a1 (n2 0) (n2 1) (n3 0) (n3 1) ⟨n4 0, n4 1, n4 2, n4 3, n4 4, n4 5⟩ a5 len5 cap5 l5 a6 len6 cap6 W E5 E6 E3 E7 T h5 fun i hi => ?_
  obtain ⟨_, _, h⟩ := w6.at
  obtain ⟨bb, off, z, e, d, hb, _⟩ := h i hi
  exact ⟨bb, off, z, e, d, hb⟩
end Go.Proofs.YtdhcigiaidlmbaaGreatDoor.walkPageElsewhere
