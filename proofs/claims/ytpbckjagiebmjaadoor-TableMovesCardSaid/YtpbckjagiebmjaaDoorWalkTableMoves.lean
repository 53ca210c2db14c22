/- The walk over TableMoves. By the verifier of shale. -/
import Derived.Test.YtpbckjagiebmjaaDoorTbMove
import Derived.Test.YtpbckjagiebmjaaDoorLaidTableMoves
import Derived.Deep.Cut
namespace Go.Proofs.YtpbckjagiebmjaaDoor.walkTableMoves
open Go Go.RowKit Tb
set_option linter.unusedVariables false
set_option linter.unusedSimpArgs false
/-- the loop's state: what the table holds after i moves, and the last place. -/
def MvS (w : World) (base tb mb ob cO : Nat) (kb : Nat → Nat) (lb : Nat) (K : Int) (i : Nat) (W : World) : Prop :=
  Below base w W ∧ ((i = 0 ∧ TabAt W base tb mb ob 8 8 cO kb (fun _ _ => -1) (fun _ => none) 0 0 ∧ PlB W lb 0 0) ∨ (0 < i ∧ ∃ b p : Nat, One W base tb mb ob cO kb K i b p ∧ PlB W lb (b : Int) (p : Int)))
set_option maxRecDepth 100000 in
set_option maxHeartbeats 4000000 in
theorem core (x0 x1 : Int) (a : Option Addr) (n c : Nat) (D : Nat → Int × Int) (w : World) {yo yn : Addr} (EO : ErrAt w 1 yo) (EN : ErrAt w 2 yn) (R : RowPl w a n D) :
    Calls Tryd.prog 5 #[.int .i64 x0, .int .i64 x1, .slice a n c] w fun e w' => e = .returned (.bool true) ∧ Below w.heap.size w w' := by
  obtain ⟨base, hbase⟩ : ∃ base, base = w.heap.size := ⟨_, rfl⟩
  have HBS := Lib.hid hbase
  have HE : Hid (∀ W, Below base w W → ErrAt W 1 yo ∧ ErrAt W 2 yn) := fun W b => by rw [hbase] at b; exact ⟨EO.below b, EN.below b⟩
  have HR : Hid (∀ W, Below base w W → ∀ i, i < n → ∃ kb off, a = some ⟨kb, off, none⟩ ∧ W.cell? ⟨kb, off + i * 2, none⟩ = some (.int .i64 (D i).1) ∧ W.cell? ⟨kb, off + i * 2 + 1, none⟩ = some (.int .i64 (D i).2)) := fun W b i hi => by
    obtain ⟨kb, off, h1, h2, h3⟩ := R.2 i hi
    have hk : kb < base := by rw [hbase]; exact World.block_lt_of_cell? w _ h2
    exact ⟨kb, off, h1, (cell_heapT (b.block kb hk)).trans h2, (cell_heapT (b.block kb hk)).trans h3⟩
  have B : Below base w w := Below.refl _ _
  obtain ⟨K, hK⟩ : ∃ K : Nat, K = (x0 % 1024).toNat := ⟨_, rfl⟩
  have hk1 : bits .and .i64 x0 1023 = (K : Int) := by rw [and1023, hK]
  have hK4 : K < 1024 := by rw [hK]; omega
  obtain ⟨O, hO⟩ : ∃ O : Nat, O = (x1 % 1024).toNat := ⟨_, rfl⟩
  have ho1 : bits .and .i64 x1 1023 = (O : Int) := by rw [and1023, hO]
  have hO4 : O < 1024 := by rw [hO]; omega
  have hlen := R.1
  rw [← hbase]
  clear EO EN R hbase hK hO
  go_enter Tryd.func5, Tryd.ntmps5
  go_wp2_with fail
  refine (first20_any w (HE.out _ B).1 (HE.out _ B).2).mono ?_
  rintro e w3 ⟨rfl, b⟩
  replace B := belB HBS.out B b
  clear b
  go_wp2_with fail
  have HNew : Hid (Calls Tryd.prog 7 #[.int .i64 8, .int .i64 8] w3 (MadeT w3 8 8)) := new_any (B := 8) (P := 8) (by decide) (by decide) (by decide) (by decide) w3
  refine HNew.out.mono ?_
  rintro e w4 ⟨tb, mb, ob, cO, kb, rfl, T0, b⟩
  have T1 : TabAt w4 base tb mb ob 8 8 cO kb (fun _ _ => -1) (fun _ => none) 0 0 := by
    have hs := B.size
    have hbs := HBS.out
    obtain ⟨a1, a2, a3, a4, a5, a6, a7⟩ := T0.apart
    exact ⟨T0.blk, T0.map, T0.outer, T0.rows, T0.inj, ⟨by omega, by omega, by omega, a4, a5, a6, fun b hb => ⟨by have := (a7 b hb).1; omega, (a7 b hb).2⟩⟩, T0.pos, T0.here, T0.there⟩
  replace B := belB HBS.out B b
  clear b T0 HNew
  by_cases hn : 60 < n
  · have t : decide ((60 : Int) < (n : Int)) = true := decide_eq_true (by omega)
    have HB := Lib.hid B
    clear T1 B HE HR hn
    go_wp2_with fail
    go_ret
    exact ⟨rfl, HB.out⟩
  · have t : decide ((60 : Int) < (n : Int)) = false := decide_eq_false (by omega)
    have HPP := Lib.hid (And.intro T1 B)
    have HN6 := Lib.hid hn
    have HKO := Lib.hid (And.intro hK4 hO4)
    clear T1 B hn
    go_upto_region 8 with (fail)
    generalize hw : w4.alloc (.cells #[.int .i64 0, .int .i64 0] 24 (0, 0)) = w5
    obtain ⟨J5, b5⟩ := newPl w4 w5 0 0 hw
    clear hw
    obtain ⟨lb, hlb⟩ : ∃ lb, lb = w4.heap.size := ⟨_, rfl⟩
    have HU : Hid (Under tb mb ob lb kb) := by
      obtain ⟨h1, h2, h3, h4⟩ := tab_old HPP.out.1
      rw [hlb]
      exact ⟨h1, h2, h3, h4⟩
    have HLB : Hid (base ≤ lb) := by
      have h1 := HPP.out.2.size
      have h2 := HBS.out
      show base ≤ lb
      omega
    rw [← hlb] at J5 ⊢
    have HS : Hid (MvS w base tb mb ob cO kb lb (K : Int) 0 w5) := ⟨belB HBS.out HPP.out.2 b5, .inl ⟨rfl, HPP.out.1.below b5, J5⟩⟩
    clear hlb J5 b5 HPP t hk1
    go_wp2_with fail
    go_loopg [11, 12] n (fun gh s11 s12 wx => ∃ i : Nat, gh = n - i ∧ i ≤ n ∧ s11 = .int .i64 (i : Int) ∧ s12 = .int .i64 (i : Int) ∧ Hid (MvS w base tb mb ob cO kb lb (K : Int) i wx))
    case atStart => exact ⟨0, rfl, Nat.zero_le _, rfl, rfl, HS⟩
    case round =>
      clear HS
      obtain ⟨i, hg, hin, rfl, rfl, HX⟩ := hrel
      have HI := Lib.hid hg
      clear hg
      by_cases hlt : i < n
      · have x1 : (i : Int) < (n : Int) := by omega
        have x0 : (0 : Int) ≤ (i : Int) := by omega
        obtain ⟨kb', off, rfl, c0, c1⟩ := HR.out wr HX.out.1 i hlt
        obtain ⟨b', hb'⟩ : ∃ b' : Nat, b' = ((D i).1 % 8).toNat := ⟨_, rfl⟩
        have hb7 : bits .and .i64 (D i).1 7 = (b' : Int) := by rw [and7, hb']
        have hb8 : b' < 8 := by rw [hb']; omega
        obtain ⟨p', hp'⟩ : ∃ p' : Nat, p' = ((D i).2 % 8).toNat := ⟨_, rfl⟩
        have hp7 : bits .and .i64 (D i).2 7 = (p' : Int) := by rw [and7, hp']
        have hp8 : p' < 8 := by rw [hp']; omega
        have HBP := Lib.hid (And.intro hb8 (And.intro hp8 hlt))
        have hkl := World.block_lt_of_cell? wr _ c0
        have ba : Below wr.heap.size wr (wr.alloc (.cells #[.int .i64 0, .int .i64 0] 24 (0, 0))) := (Below.refl _ _).alloc (Nat.le_refl _) _
        have d0 : (wr.alloc (.cells #[.int .i64 0, .int .i64 0] 24 (0, 0))).cell? ⟨kb', off + i * 2, none⟩ = some (.int .i64 (D i).1) := (cell_heapT (ba.block kb' hkl)).trans c0
        have d1 : (wr.alloc (.cells #[.int .i64 0, .int .i64 0] 24 (0, 0))).cell? ⟨kb', off + i * 2 + 1, none⟩ = some (.int .i64 (D i).2) := (cell_heapT (ba.block kb' hkl)).trans c1
        clear hb' hp' hb8 hp8 hlt ba hkl
        go_upto_region 13 with (fail)
        go_region
        generalize hw : wr.alloc (.cells #[.int .i64 (b' : Int), .int .i64 (p' : Int)] 24 (0, 0)) = w6
        obtain ⟨J6, b6⟩ := newPl wr w6 (b' : Int) (p' : Int) hw
        clear hw c0 c1 d0 d1 hb7 hp7
        obtain ⟨xb, hxb⟩ : ∃ xb, xb = wr.heap.size := ⟨_, rfl⟩
        rw [← hxb] at J6 ⊢
        have J7 : PlB w6.drew xb (b' : Int) (p' : Int) := J6
        have b7 : Below wr.heap.size wr w6.drew := Below.drew b6
        clear b6 J6
        generalize w6.drew = w7 at J7 b7 ⊢
        have x60 : (i : Int) < 60 := by have := HN6.out; omega
        have HX7 : Hid (Below base w w7 ∧ True ∧ True) := ⟨belB HBS.out HX.out.1 b7, trivial, trivial⟩
        obtain ⟨z0, z1, _⟩ := pl_cells J7
        rcases HX.out.2 with ⟨hi, T, L⟩ | ⟨hi, b, p, S, L⟩
        · have HJ : Hid (Under tb mb ob xb kb ∧ lb < xb ∧ PlB w7 xb (b' : Int) (p' : Int)) := by
            obtain ⟨h1, h2, h3, h4⟩ := tab_old T
            rw [hxb] at J7 ⊢
            exact ⟨⟨h1, h2, h3, h4⟩, lt_of_block L, J7⟩
          have HL7 : Hid (PlB w7 lb 0 0) := (b7.block lb (lt_of_block L)).trans L
          have HT7 := Lib.hid (T.below b7)
          have HI0 := Lib.hid hi
          have tI : decide ((0 : Int) < (i : Int)) = false := decide_eq_false (by omega)
          clear T L J7 b7 hxb HX hi
          go_wp2_with fail
          refine (none_set HT7.out (by omega) (by have := HKO.out; omega) HBP.out.1 HBP.out.2.1 0 0 (i : Int) 0 0 0).mono ?_
          rintro e w8 ⟨rfl, M8⟩
          have HM8 : Hid (One w8 base tb mb ob cO kb (K : Int) (i + 1) b' p' ∧ Below base w w8 ∧ PlB w8 xb (b' : Int) (p' : Int) ∧ PlB w8 lb 0 0) := by
            obtain ⟨h1, h2, h3⟩ := HX7.out
            refine ⟨(by rw [HI0.out]; exact M8.1), h1.trans M8.2.2, (M8.2.1.same xb (lt_of_block HJ.out.2.2) HJ.out.1.not).trans HJ.out.2.2, (M8.2.1.same lb (lt_of_block HL7.out) HU.out.not).trans HL7.out⟩
          clear M8
          go_upto_region 14 with (fail)
          generalize hw : w8.alloc (.cells #[.int .i64 0, .int .i64 0] 24 (0, 0)) = w9
          obtain ⟨J9, b9⟩ := newPl w8 w9 0 0 hw
          clear hw
          obtain ⟨yb, hyb⟩ : ∃ yb, yb = w8.heap.size := ⟨_, rfl⟩
          rw [← hyb] at J9 ⊢
          clear hyb
          have HM9 : Hid (One w9 base tb mb ob cO kb (K : Int) (i + 1) b' p' ∧ Below base w w9 ∧ PlB w9 xb (b' : Int) (p' : Int) ∧ PlB w9 lb 0 0) := by
            obtain ⟨h1, h2, h3, h4⟩ := HM8.out
            exact ⟨h1.below b9, belB HBS.out h2 b9, (b9.block xb (lt_of_block h3)).trans h3, (b9.block lb (lt_of_block h4)).trans h4⟩
          obtain ⟨y0, y1, _⟩ := pl_cells J9
          obtain ⟨l0, l1, _⟩ := pl_cells HM9.out.2.2.2
          clear J9 b9
          go_upto_region 16 with (fail)
          have HMA := HM9
          clear y0 y1 l0 l1
          obtain ⟨l0, l1, lf⟩ := pl_cells HMA.out.2.2.2
          obtain ⟨z0, z1, _⟩ := pl_cells HMA.out.2.2.1
          have lf0 := lf 0
          have lf1 := lf 1
          have HMB : Hid (One ((w9.setCell ⟨lb, 0, none⟩ (.int .i64 (b' : Int))).setCell ⟨lb, 1, none⟩ (.int .i64 (p' : Int))) base tb mb ob cO kb (K : Int) (i + 1) b' p' ∧ Below base w ((w9.setCell ⟨lb, 0, none⟩ (.int .i64 (b' : Int))).setCell ⟨lb, 1, none⟩ (.int .i64 (p' : Int))) ∧ PlB ((w9.setCell ⟨lb, 0, none⟩ (.int .i64 (b' : Int))).setCell ⟨lb, 1, none⟩ (.int .i64 (p' : Int))) xb (b' : Int) (p' : Int) ∧ PlB ((w9.setCell ⟨lb, 0, none⟩ (.int .i64 (b' : Int))).setCell ⟨lb, 1, none⟩ (.int .i64 (p' : Int))) lb (b' : Int) (p' : Int)) := by
            have o : Only lb w9 ((w9.setCell ⟨lb, 0, none⟩ (.int .i64 (b' : Int))).setCell ⟨lb, 1, none⟩ (.int .i64 (p' : Int))) := (Only.setCell w9 ⟨lb, 0, none⟩ _).trans (Only.setCell _ ⟨lb, 1, none⟩ _)
            refine ⟨HMA.out.1.only HU.out o, HMA.out.2.1.trans (o.below HLB.out), (o.block xb (by have := HJ.out.2.1; omega)).trans HMA.out.2.2.1, heap_setCell_same _ _ 1 _ _ _ (heap_setCell_same _ _ 0 _ _ _ HMA.out.2.2.2)⟩
          go_upto_region 17 with (fail)
          generalize ((w9.setCell ⟨lb, 0, none⟩ (.int .i64 (b' : Int))).setCell ⟨lb, 1, none⟩ (.int .i64 (p' : Int))) = wB at HMB ⊢
          clear l0 l1 lf lf0 lf1 z0 z1 HMA
          obtain ⟨z0, z1, _⟩ := pl_cells HMB.out.2.2.1
          go_wp2_with fail
          refine (HMB.out.1.at_ (by omega)).mono ?_
          rintro e wC ⟨rfl, bC⟩
          have HMC : Hid (One wC base tb mb ob cO kb (K : Int) (i + 1) b' p' ∧ Below base w wC ∧ PlB wC xb (b' : Int) (p' : Int) ∧ PlB wC lb (b' : Int) (p' : Int)) := by
            obtain ⟨h1, h2, h3, h4⟩ := HMB.out
            exact ⟨h1.below bC, belB HBS.out h2 bC, (bC.block xb (lt_of_block h3)).trans h3, (bC.block lb (lt_of_block h4)).trans h4⟩
          clear z0 z1 bC
          obtain ⟨z0, z1, _⟩ := pl_cells HMC.out.2.2.1
          have HN : Hid (MvS w base tb mb ob cO kb lb (K : Int) (i + 1) wC) := ⟨HMC.out.2.1, .inr ⟨by omega, b', p', HMC.out.1, HMC.out.2.2.2⟩⟩
          have HLen := Lib.hid HMC.out.1.len
          have HLive := Lib.hid (HMC.out.1.live (by omega))
          go_wp2_with (first
            | (go_at_call 18; (with_reducible refine Calls.mono HLen.out ?_); rintro e' w' ⟨rfl, rfl⟩)
            | (go_at_call 19; (with_reducible refine Calls.mono HLive.out ?_); rintro e' w' ⟨rfl, rfl⟩))
          go_roundg (n - (i + 1))
          case measure => have := HI.out; have := HBP.out.2.2; omega
          case rel => exact ⟨i + 1, rfl, HBP.out.2.2, by go_num, by go_num, HN⟩
        · have HJ : Hid (Under tb mb ob xb kb ∧ lb < xb ∧ PlB w7 xb (b' : Int) (p' : Int)) := by
            obtain ⟨_, _, _, T, _⟩ := S
            obtain ⟨h1, h2, h3, h4⟩ := tab_old T
            rw [hxb] at J7 ⊢
            exact ⟨⟨h1, h2, h3, h4⟩, lt_of_block L, J7⟩
          have HL7 : Hid (PlB w7 lb (b : Int) (p : Int)) := (b7.block lb (lt_of_block L)).trans L
          have HT7 := Lib.hid (S.below b7)
          have tI : decide ((0 : Int) < (i : Int)) = true := decide_eq_true (by omega)
          clear S L J7 b7 hxb HX
          go_wp2_with fail
          refine (HT7.out.set (by omega) (by have := HKO.out; omega) (by have := HN6.out; have := HBP.out.2.2; unfold maxLen; omega) HBP.out.1 HBP.out.2.1 0 0 (i : Int) 0 0 0).mono ?_
          rintro e w8 ⟨rfl, M8⟩
          have HM8 : Hid (One w8 base tb mb ob cO kb (K : Int) (i + 1) b' p' ∧ Below base w w8 ∧ PlB w8 xb (b' : Int) (p' : Int) ∧ PlB w8 lb (b : Int) (p : Int)) := by
            obtain ⟨h1, h2, h3⟩ := HX7.out
            refine ⟨M8.1, h1.trans M8.2.2, (M8.2.1.same xb (lt_of_block HJ.out.2.2) HJ.out.1.not).trans HJ.out.2.2, (M8.2.1.same lb (lt_of_block HL7.out) HU.out.not).trans HL7.out⟩
          clear M8
          go_upto_region 14 with (fail)
          generalize hw : w8.alloc (.cells #[.int .i64 (b : Int), .int .i64 (p : Int)] 24 (0, 0)) = w9
          obtain ⟨J9, b9⟩ := newPl w8 w9 (b : Int) (p : Int) hw
          clear hw
          obtain ⟨yb, hyb⟩ : ∃ yb, yb = w8.heap.size := ⟨_, rfl⟩
          rw [← hyb] at J9 ⊢
          clear hyb
          have HM9 : Hid (One w9 base tb mb ob cO kb (K : Int) (i + 1) b' p' ∧ Below base w w9 ∧ PlB w9 xb (b' : Int) (p' : Int) ∧ PlB w9 lb (b : Int) (p : Int)) := by
            obtain ⟨h1, h2, h3, h4⟩ := HM8.out
            exact ⟨h1.below b9, belB HBS.out h2 b9, (b9.block xb (lt_of_block h3)).trans h3, (b9.block lb (lt_of_block h4)).trans h4⟩
          obtain ⟨y0, y1, _⟩ := pl_cells J9
          obtain ⟨l0, l1, _⟩ := pl_cells HM9.out.2.2.2
          clear J9 b9
          have HSP : Hid (Calls Tryd.prog 12 #[.agg #[.int .i64 (b : Int), .int .i64 (p : Int)], .agg #[.int .i64 (b : Int), .int .i64 (p : Int)]] w9 fun e w' => e = .returned (.bool true) ∧ Below w9.heap.size w9 w') := by
            have h := samePlace_any (b : Int) (p : Int) (b : Int) (p : Int) w9
            simp at h; exact h
          go_upto_region 16 with (go_at_call 12; (with_reducible refine Calls.mono HSP.out ?_); rintro e' wA ⟨rfl, bA⟩)
          have HMA : Hid (One wA base tb mb ob cO kb (K : Int) (i + 1) b' p' ∧ Below base w wA ∧ PlB wA xb (b' : Int) (p' : Int) ∧ PlB wA lb (b : Int) (p : Int)) := by
            obtain ⟨h1, h2, h3, h4⟩ := HM9.out
            exact ⟨h1.below bA, belB HBS.out h2 bA, (bA.block xb (lt_of_block h3)).trans h3, (bA.block lb (lt_of_block h4)).trans h4⟩
          clear y0 y1 l0 l1 bA HSP
          obtain ⟨l0, l1, lf⟩ := pl_cells HMA.out.2.2.2
          obtain ⟨z0, z1, _⟩ := pl_cells HMA.out.2.2.1
          have lf0 := lf 0
          have lf1 := lf 1
          have HMB : Hid (One ((wA.setCell ⟨lb, 0, none⟩ (.int .i64 (b' : Int))).setCell ⟨lb, 1, none⟩ (.int .i64 (p' : Int))) base tb mb ob cO kb (K : Int) (i + 1) b' p' ∧ Below base w ((wA.setCell ⟨lb, 0, none⟩ (.int .i64 (b' : Int))).setCell ⟨lb, 1, none⟩ (.int .i64 (p' : Int))) ∧ PlB ((wA.setCell ⟨lb, 0, none⟩ (.int .i64 (b' : Int))).setCell ⟨lb, 1, none⟩ (.int .i64 (p' : Int))) xb (b' : Int) (p' : Int) ∧ PlB ((wA.setCell ⟨lb, 0, none⟩ (.int .i64 (b' : Int))).setCell ⟨lb, 1, none⟩ (.int .i64 (p' : Int))) lb (b' : Int) (p' : Int)) := by
            have o : Only lb wA ((wA.setCell ⟨lb, 0, none⟩ (.int .i64 (b' : Int))).setCell ⟨lb, 1, none⟩ (.int .i64 (p' : Int))) := (Only.setCell wA ⟨lb, 0, none⟩ _).trans (Only.setCell _ ⟨lb, 1, none⟩ _)
            refine ⟨HMA.out.1.only HU.out o, HMA.out.2.1.trans (o.below HLB.out), (o.block xb (by have := HJ.out.2.1; omega)).trans HMA.out.2.2.1, heap_setCell_same _ _ 1 _ _ _ (heap_setCell_same _ _ 0 _ _ _ HMA.out.2.2.2)⟩
          go_upto_region 17 with (fail)
          generalize ((wA.setCell ⟨lb, 0, none⟩ (.int .i64 (b' : Int))).setCell ⟨lb, 1, none⟩ (.int .i64 (p' : Int))) = wB at HMB ⊢
          clear l0 l1 lf lf0 lf1 z0 z1 HMA
          obtain ⟨z0, z1, _⟩ := pl_cells HMB.out.2.2.1
          go_wp2_with fail
          refine (HMB.out.1.at_ (by omega)).mono ?_
          rintro e wC ⟨rfl, bC⟩
          have HMC : Hid (One wC base tb mb ob cO kb (K : Int) (i + 1) b' p' ∧ Below base w wC ∧ PlB wC xb (b' : Int) (p' : Int) ∧ PlB wC lb (b' : Int) (p' : Int)) := by
            obtain ⟨h1, h2, h3, h4⟩ := HMB.out
            exact ⟨h1.below bC, belB HBS.out h2 bC, (bC.block xb (lt_of_block h3)).trans h3, (bC.block lb (lt_of_block h4)).trans h4⟩
          clear z0 z1 bC
          obtain ⟨z0, z1, _⟩ := pl_cells HMC.out.2.2.1
          have HN : Hid (MvS w base tb mb ob cO kb lb (K : Int) (i + 1) wC) := ⟨HMC.out.2.1, .inr ⟨by omega, b', p', HMC.out.1, HMC.out.2.2.2⟩⟩
          have HLen := Lib.hid HMC.out.1.len
          have HLive := Lib.hid (HMC.out.1.live (by omega))
          go_wp2_with (first
            | (go_at_call 18; (with_reducible refine Calls.mono HLen.out ?_); rintro e' w' ⟨rfl, rfl⟩)
            | (go_at_call 19; (with_reducible refine Calls.mono HLive.out ?_); rintro e' w' ⟨rfl, rfl⟩))
          go_roundg (n - (i + 1))
          case measure => have := HI.out; have := HBP.out.2.2; omega
          case rel => exact ⟨i + 1, rfl, HBP.out.2.2, by go_num, by go_num, HN⟩
      · obtain rfl : i = n := by omega
        rcases HX.out.2 with ⟨hi, T, L⟩ | ⟨hi, b, p, S, L⟩
        · have q : ((i : Int) == 0) = true := by simp [hi]
          have HT := Lib.hid (And.intro T HX.out.1)
          clear T L HX
          go_wp2_with fail
          refine (len_any HT.out.1).mono ?_
          rintro e w' ⟨rfl, rfl⟩
          go_wp2_with fail
          go_ret
          exact ⟨rfl, HT.out.2⟩
        · have q : ((i : Int) == 0) = false := by simp; omega
          obtain ⟨l0, l1, _⟩ := pl_cells L
          have HT := Lib.hid (And.intro S (And.intro HX.out.1 L))
          have HEE := HE
          clear S HX L
          go_wp2_with fail
          refine (HT.out.1.other (by omega) (O := (O : Int) + 1024) (by have := HKO.out; omega) (by have := HKO.out; omega) 0 0 0 0 0 0 (HE.out _ HT.out.2.1).1).mono ?_
          rintro e w6 ⟨rfl, b6⟩
          clear l0 l1
          go_upto_region 24 with (fail)
          generalize hw : w6.alloc (.cells #[.int .i64 0, .int .i64 0] 24 (0, 0)) = w7
          obtain ⟨_, b7⟩ := newPl w6 w7 0 0 hw
          clear hw
          have b67 := b6.trans (b7.mono b6.size)
          have HT7 : Hid (One w7 base tb mb ob cO kb (K : Int) i b p ∧ Below base w w7 ∧ PlB w7 lb (b : Int) (p : Int)) := ⟨HT.out.1.below b67, belB HBS.out HT.out.2.1 b67, (b67.block lb (lt_of_block HT.out.2.2)).trans HT.out.2.2⟩
          have hb8 : b < 8 := by obtain ⟨_, _, _, _, _, _, _, _, h, _⟩ := HT.out.1; exact h
          have hp8 : p < 8 := by obtain ⟨_, _, _, _, _, _, _, _, _, h, _⟩ := HT.out.1; exact h
          clear b6 b7 b67 HT
          obtain ⟨l0, l1, _⟩ := pl_cells HT7.out.2.2
          obtain ⟨b2, hb2⟩ : ∃ b2 : Nat, b2 = (b + 1) % 8 := ⟨_, rfl⟩
          have hb7 : bits .and .i64 ((b : Int) + 1) 7 = (b2 : Int) := by rw [and7, hb2]; omega
          have HB2 : Hid (b2 < 8 ∧ p < 8 ∧ b2 ≠ b) := ⟨by omega, hp8, by omega⟩
          clear hb2
          generalize w6.heap.size = z7
          go_upto_region 25 with (fail)
          generalize hw : w7.alloc (.cells #[.int .i64 (b2 : Int), .int .i64 (p : Int)] 24 (0, 0)) = w8
          obtain ⟨J8, b8⟩ := newPl w7 w8 (b2 : Int) (p : Int) hw
          clear hw
          obtain ⟨xb, hxb⟩ : ∃ xb, xb = w7.heap.size := ⟨_, rfl⟩
          rw [← hxb] at J8 ⊢
          have HT8 : Hid (One w8 base tb mb ob cO kb (K : Int) i b p ∧ Below base w w8) := ⟨HT7.out.1.below b8, belB HBS.out HT7.out.2.1 b8⟩
          clear hb7 hb8 hp8 l0 l1 HT7 b8 hxb
          obtain ⟨x0, x1, _⟩ := pl_cells J8
          go_wp2_with fail
          refine (HT8.out.1.more (by omega) (by have := HN6.out; unfold maxLen; omega) (O := (O : Int) + 1024) (by have := HKO.out; omega) (by have := HKO.out; omega) HB2.out.1 HB2.out.2.1 HB2.out.2.2 0 0 0 0 0 0).mono ?_
          rintro e w9 ⟨rfl, T9, b9⟩
          have HT9 : Hid (Two w9 base tb mb ob cO kb (K : Int) b p ∧ Below base w w9) := ⟨T9, HT8.out.2.trans b9⟩
          clear T9 b9 HT8 x0 x1 J8
          go_upto_region 26 with (fail)
          generalize hw : w9.alloc (.cells #[.int .i64 0, .int .i64 0] 24 (0, 0)) = wA
          obtain ⟨_, bA⟩ := newPl w9 wA 0 0 hw
          clear hw
          have HTA : Hid (Two wA base tb mb ob cO kb (K : Int) b p ∧ Below base w wA) := ⟨HT9.out.1.below bA, belB HBS.out HT9.out.2 bA⟩
          generalize w9.heap.size = z9
          clear bA HT9
          have q1 : wA.cell? ⟨1, 0, none⟩ = some (errOf yo) := (HE.out wA HTA.out.2).1.1
          have eq1 : ∀ W, (binOp .eql 28 (errOf yo) (errOf yo)).run Tryd.prog W = .ok (.bool true) W := fun W => eql_err yo W
          have HL2 := Lib.hid HTA.out.1.len
          have HD2 := Lib.hid HTA.out.1.drop
          go_wp2_with (first
            | (go_at_call 18; (with_reducible refine Calls.mono HL2.out ?_); rintro e' w' ⟨rfl, rfl⟩)
            | (go_at_call 8; (with_reducible refine Calls.mono HD2.out ?_); rintro e' wB ⟨rfl, G0, bB⟩; have HG := Lib.hid (And.intro G0 (HTA.out.2.trans bB)); have HLG := Lib.hid G0.len; have HDG := Lib.hid G0.drop; clear G0 bB HL2 HD2 q1)
            | (go_at_call 18; (with_reducible refine Calls.mono HLG.out ?_); rintro e' w' ⟨rfl, rfl⟩)
            | (go_at_call 8; (with_reducible refine Calls.mono HDG.out ?_); rintro e' wC ⟨rfl, bC⟩))
          go_ret
          exact ⟨rfl, belB HBS.out HG.out.2 bC⟩
theorem walk (a0 a1 : Int) (a2 : Option Addr) (len2 cap2 : Nat) (z2 : Nat → Int × Int) (W : World) (w0 : (Lit.int .i64 a0).wf = true) (w1 : (Lit.int .i64 a1).wf = true) (w2 : RowPl W a2 len2 z2) (h : LaidTableMoves.Holds W) :
    Calls Tryd.prog 5 #[.int .i64 a0, .int .i64 a1, .slice a2 len2 cap2] W fun e w' => e = .returned (.bool true) ∧ Below W.heap.size W w' := by
  obtain ⟨f, ⟨EN, _, EO⟩, _⟩ := h
  exact core a0 a1 a2 len2 cap2 z2 W EO EN w2
end Go.Proofs.YtpbckjagiebmjaaDoor.walkTableMoves
