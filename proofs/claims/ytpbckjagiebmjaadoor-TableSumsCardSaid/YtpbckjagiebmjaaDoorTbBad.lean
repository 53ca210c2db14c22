/- A table's Set where key or place is none, whatever they are. By the verifier of shale. -/
import Derived.Test.YtpbckjagiebmjaaDoorTbNo
namespace Go.Proofs.YtpbckjagiebmjaaDoor.Tb
open Go Go.RowKit
set_option linter.unusedVariables false
set_option linter.unusedSimpArgs false
section
variable {w : World} {base tb mb ob B P cO : Nat} {kb : Nat → Nat} {kf : Nat → Nat → Int} {m : Int → Option Sl} {cnt nb : Nat}
set_option maxHeartbeats 1000000 in
theorem is_b1 (T : TabAt w base tb mb ob B P cO kb kf m cnt nb) {b p : Int} (h1 : b < 0) : Calls Tryd.prog 26 #[.pointer (some ⟨tb, 0, none⟩), .agg #[.int .i64 b, .int .i64 p]] w fun e w' => e = .returned (.bool false) ∧ Below w.heap.size w w' := by
  go_enter Tryd.func26, Tryd.ntmps26
  go_upto_region 1 with (fail)
  generalize hw : w.alloc (.cells #[.int .i64 b, .int .i64 p] 24 (0, 0)) = w1
  obtain ⟨K1, b1⟩ := newPl w w1 b p hw
  clear hw
  obtain ⟨x0, x1, _⟩ := pl_cells K1
  obtain ⟨xb, hxb⟩ : ∃ xb, xb = w.heap.size := ⟨_, rfl⟩
  rw [← hxb] at x0 x1 ⊢
  have T1 := T.below b1
  obtain ⟨k0, k1, _⟩ := T1.cells
  have k2 := T1.outer 0 T.pos.1
  have hP := T.pos
  have HX := Lib.hid (And.intro hxb b1)
  have y4 : (0 : Int) < (B : Int) := by omega
  obtain ⟨q1, q2, q3, q4, q5, q6⟩ := hP
  unfold maxLen at q6
  clear T T1 K1 b1 hxb
  have z0 : decide ((0 : Int) ≤ b) = false := decide_eq_false (by omega)
  go_quiet (fail)
  have HD : Hid (Below w.heap.size w (w1.drewN nq)) := HX.out.2.trans (((Drawn.mk w1 nq).below w1.heap.size).mono HX.out.2.size)
  generalize w1.drewN nq = w2 at HD ⊢
  go_wp2_with fail
  go_ret
  exact ⟨rfl, HD.out⟩
set_option maxHeartbeats 1000000 in
theorem is_b2 (T : TabAt w base tb mb ob B P cO kb kf m cnt nb) {b p : Int} (h1 : 0 ≤ b) (h2 : (B : Int) ≤ b) : Calls Tryd.prog 26 #[.pointer (some ⟨tb, 0, none⟩), .agg #[.int .i64 b, .int .i64 p]] w fun e w' => e = .returned (.bool false) ∧ Below w.heap.size w w' := by
  go_enter Tryd.func26, Tryd.ntmps26
  go_upto_region 1 with (fail)
  generalize hw : w.alloc (.cells #[.int .i64 b, .int .i64 p] 24 (0, 0)) = w1
  obtain ⟨K1, b1⟩ := newPl w w1 b p hw
  clear hw
  obtain ⟨x0, x1, _⟩ := pl_cells K1
  obtain ⟨xb, hxb⟩ : ∃ xb, xb = w.heap.size := ⟨_, rfl⟩
  rw [← hxb] at x0 x1 ⊢
  have T1 := T.below b1
  obtain ⟨k0, k1, _⟩ := T1.cells
  have k2 := T1.outer 0 T.pos.1
  have hP := T.pos
  have HX := Lib.hid (And.intro hxb b1)
  have y4 : (0 : Int) < (B : Int) := by omega
  obtain ⟨q1, q2, q3, q4, q5, q6⟩ := hP
  unfold maxLen at q6
  clear T T1 K1 b1 hxb
  have z0 : decide ((0 : Int) ≤ b) = true := decide_eq_true h1
  have z1 : decide (b < (B : Int)) = false := decide_eq_false (by omega)
  go_quiet (fail)
  have HD : Hid (Below w.heap.size w (w1.drewN nq)) := HX.out.2.trans (((Drawn.mk w1 nq).below w1.heap.size).mono HX.out.2.size)
  generalize w1.drewN nq = w2 at HD ⊢
  go_wp2_with fail
  go_ret
  exact ⟨rfl, HD.out⟩
set_option maxHeartbeats 1000000 in
theorem is_b3 (T : TabAt w base tb mb ob B P cO kb kf m cnt nb) {b p : Int} (h1 : 0 ≤ b) (h2 : b < (B : Int)) (h3 : p < 0) : Calls Tryd.prog 26 #[.pointer (some ⟨tb, 0, none⟩), .agg #[.int .i64 b, .int .i64 p]] w fun e w' => e = .returned (.bool false) ∧ Below w.heap.size w w' := by
  go_enter Tryd.func26, Tryd.ntmps26
  go_upto_region 1 with (fail)
  generalize hw : w.alloc (.cells #[.int .i64 b, .int .i64 p] 24 (0, 0)) = w1
  obtain ⟨K1, b1⟩ := newPl w w1 b p hw
  clear hw
  obtain ⟨x0, x1, _⟩ := pl_cells K1
  obtain ⟨xb, hxb⟩ : ∃ xb, xb = w.heap.size := ⟨_, rfl⟩
  rw [← hxb] at x0 x1 ⊢
  have T1 := T.below b1
  obtain ⟨k0, k1, _⟩ := T1.cells
  have k2 := T1.outer 0 T.pos.1
  have hP := T.pos
  have HX := Lib.hid (And.intro hxb b1)
  have y4 : (0 : Int) < (B : Int) := by omega
  obtain ⟨q1, q2, q3, q4, q5, q6⟩ := hP
  unfold maxLen at q6
  clear T T1 K1 b1 hxb
  have z0 : decide ((0 : Int) ≤ b) = true := decide_eq_true h1
  have z1 : decide (b < (B : Int)) = true := decide_eq_true h2
  have z2 : decide ((0 : Int) ≤ p) = false := decide_eq_false (by omega)
  go_quiet (fail)
  have HD : Hid (Below w.heap.size w (w1.drewN nq)) := HX.out.2.trans (((Drawn.mk w1 nq).below w1.heap.size).mono HX.out.2.size)
  generalize w1.drewN nq = w2 at HD ⊢
  go_wp2_with fail
  go_ret
  exact ⟨rfl, HD.out⟩
set_option maxHeartbeats 1000000 in
theorem is_b4 (T : TabAt w base tb mb ob B P cO kb kf m cnt nb) {b p : Int} (h1 : 0 ≤ b) (h2 : b < (B : Int)) (h3 : 0 ≤ p) (h4 : (P : Int) ≤ p) : Calls Tryd.prog 26 #[.pointer (some ⟨tb, 0, none⟩), .agg #[.int .i64 b, .int .i64 p]] w fun e w' => e = .returned (.bool false) ∧ Below w.heap.size w w' := by
  go_enter Tryd.func26, Tryd.ntmps26
  go_upto_region 1 with (fail)
  generalize hw : w.alloc (.cells #[.int .i64 b, .int .i64 p] 24 (0, 0)) = w1
  obtain ⟨K1, b1⟩ := newPl w w1 b p hw
  clear hw
  obtain ⟨x0, x1, _⟩ := pl_cells K1
  obtain ⟨xb, hxb⟩ : ∃ xb, xb = w.heap.size := ⟨_, rfl⟩
  rw [← hxb] at x0 x1 ⊢
  have T1 := T.below b1
  obtain ⟨k0, k1, _⟩ := T1.cells
  have k2 := T1.outer 0 T.pos.1
  have hP := T.pos
  have HX := Lib.hid (And.intro hxb b1)
  have y4 : (0 : Int) < (B : Int) := by omega
  obtain ⟨q1, q2, q3, q4, q5, q6⟩ := hP
  unfold maxLen at q6
  clear T T1 K1 b1 hxb
  have z0 : decide ((0 : Int) ≤ b) = true := decide_eq_true h1
  have z1 : decide (b < (B : Int)) = true := decide_eq_true h2
  have z2 : decide ((0 : Int) ≤ p) = true := decide_eq_true h3
  have z3 : decide (p < (P : Int)) = false := decide_eq_false (by omega)
  go_quiet (fail)
  have HD : Hid (Below w.heap.size w (w1.drewN nq)) := HX.out.2.trans (((Drawn.mk w1 nq).below w1.heap.size).mono HX.out.2.size)
  generalize w1.drewN nq = w2 at HD ⊢
  go_wp2_with fail
  go_ret
  exact ⟨rfl, HD.out⟩
theorem is_bad (T : TabAt w base tb mb ob B P cO kb kf m cnt nb) {b p : Int} (h : ¬ (0 ≤ b ∧ b < (B : Int) ∧ 0 ≤ p ∧ p < (P : Int))) : Calls Tryd.prog 26 #[.pointer (some ⟨tb, 0, none⟩), .agg #[.int .i64 b, .int .i64 p]] w fun e w' => e = .returned (.bool false) ∧ Below w.heap.size w w' := by
  by_cases h1 : 0 ≤ b
  · by_cases h2 : b < (B : Int)
    · by_cases h3 : 0 ≤ p
      · exact is_b4 T h1 h2 h3 (by omega)
      · exact is_b3 T h1 h2 (by omega)
    · exact is_b2 T h1 (by omega)
  · exact is_b1 T (by omega)
set_option maxRecDepth 100000 in
set_option maxHeartbeats 2000000 in
theorem set_badP (T : TabAt w base tb mb ob B P cO kb kf m cnt nb) {key : Int} (h0 : 0 ≤ key) (h1 : key ≤ 1073741824) {b p : Int} (hbB : ¬ (0 ≤ b ∧ b < (B : Int) ∧ 0 ≤ p ∧ p < (P : Int))) (m0 m1 m2 m3 m4 m5 : Int) {y : Addr} (E : ErrAt w 2 y) :
    Calls Tryd.prog 10 #[.pointer (some ⟨tb, 0, none⟩), .int .i64 key, .agg #[.int .i64 (b : Int), .int .i64 (p : Int)], .agg #[.int .i64 m0, .int .i64 m1, .int .i64 m2, .int .i64 m3, .int .i64 m4, .int .i64 m5]] w fun e w' => e = .returned (.tuple #[.agg #[.int .i64 0, .int .i64 0], .bool false, errOf y]) ∧ Below w.heap.size w w' := by
  have HT := Lib.hid (And.intro T hbB)
  have HY := Lib.hid E
  clear T E hbB
  go_enter Tryd.func10, Tryd.ntmps10
  go_upto_region 1 with (fail)
  generalize hw : w.alloc (.cells #[.int .i64 (b : Int), .int .i64 (p : Int)] 24 (0, 0)) = w1
  obtain ⟨J1, b1⟩ := newPl w w1 (b : Int) (p : Int) hw
  have hs1 : w1.heap.size = w.heap.size + 1 := by rw [← hw]; simp
  clear hw
  rw [← hs1]
  generalize hw : w1.alloc (.cells #[.int .i64 m0, .int .i64 m1, .int .i64 m2, .int .i64 m3, .int .i64 m4, .int .i64 m5] 36 (0, 0)) = w2
  obtain ⟨J2, b2⟩ := newMe w1 w2 m0 m1 m2 m3 m4 m5 hw
  have hs2 : w2.heap.size = w1.heap.size + 1 := by rw [← hw]; simp
  clear hw
  rw [← hs2]
  generalize hw : w2.alloc (.cells #[.int .i64 0, .int .i64 0] 24 (0, 0)) = w3
  obtain ⟨J3, b3⟩ := newPl w2 w3 0 0 hw
  clear hw
  have b13 := b2.trans (b3.mono b2.size)
  have b03 := b1.trans (b13.mono b1.size)
  have HB03 := Lib.hid b03
  obtain ⟨xb, hxb⟩ : ∃ xb, xb = w.heap.size := ⟨_, rfl⟩
  obtain ⟨yb, hyb⟩ : ∃ yb, yb = w1.heap.size := ⟨_, rfl⟩
  obtain ⟨rb, hrb⟩ : ∃ rb, rb = w2.heap.size := ⟨_, rfl⟩
  have HI : Hid (SetI w base tb mb ob B P cO kb kf m cnt nb xb yb rb (b : Int) (p : Int) m0 m1 m2 m3 m4 m5 w3) := by
    refine ⟨HT.out.1.below b03, ?_, ?_, ?_, Tn.below b03⟩
    · rw [hxb]; exact (b13.block _ (lt_of_block J1)).trans J1
    · rw [hyb]; exact (b3.block _ (lt_of_block J2)).trans J2
    · rw [hrb]; exact J3
  have HXY : Hid (w.heap.size ≤ xb ∧ w.heap.size ≤ yb ∧ w.heap.size ≤ rb) := ⟨by omega, by omega, by omega⟩
  rw [← hxb, ← hyb, ← hrb]
  clear J1 J2 J3 b1 b2 b3 b13 b03 hs1 hs2 hxb hyb hrb
  have z0 : decide (key < 0) = false := decide_eq_false (by omega)
  have z1 : decide ((1073741824 : Int) < key) = false := decide_eq_false (by omega)
  obtain ⟨x0, x1, _⟩ := pl_cells HI.out.2.1
  go_wp2_with fail
  refine (is_bad HI.out.1 HT.out.2).mono ?_
  rintro e w4 ⟨rfl, b4⟩
  have HBW0 : Hid (Below w.heap.size w w3) := HB03.out
  replace HI := Lib.hid (HI.out.below b4)
  have HBW4 : Hid (Below w.heap.size w w4) := HBW0.out.trans (b4.mono HBW0.out.size)
  clear b4 x0 x1 z0 z1
  have HBW := HBW4
  obtain ⟨_, _, _, r3, t3⟩ := HI.out
  obtain ⟨r0, r1, rf⟩ := pl_cells r3
  have f0 := rf 0
  have f1 := rf 1
  have q0 : w4.cell? ⟨2, 0, none⟩ = some (errOf y) := (HY.out.below HBW.out).1
  have hR : ((w4.setCell ⟨rb, 0, none⟩ (.int .i64 0)).setCell ⟨rb, 1, none⟩ (.int .i64 0)).drew.heap[rb]? = some (.cells #[.int .i64 0, .int .i64 0] 24 (0, 0)) := heap_setCell_same _ _ 1 _ _ _ (heap_setCell_same _ _ 0 _ _ _ r3)
  have oR : Only rb w4 ((w4.setCell ⟨rb, 0, none⟩ (.int .i64 0)).setCell ⟨rb, 1, none⟩ (.int .i64 0)).drew := ((Only.setCell w4 ⟨rb, 0, none⟩ _).trans (Only.setCell _ ⟨rb, 1, none⟩ _)).drew
  have HF : Hid (Below w.heap.size w ((w4.setCell ⟨rb, 0, none⟩ (.int .i64 0)).setCell ⟨rb, 1, none⟩ (.int .i64 0)).drew) := HBW.out.trans (oR.below HXY.out.2.2)
  have q1 : ((w4.setCell ⟨rb, 0, none⟩ (.int .i64 0)).setCell ⟨rb, 1, none⟩ (.int .i64 0)).cell? ⟨2, 0, none⟩ = some (errOf y) := (cell_heapT (((Only.setCell w4 ⟨rb, 0, none⟩ _).trans (Only.setCell _ ⟨rb, 1, none⟩ _)).block _ (by have hlt : 2 < w.heap.size := World.block_lt_of_cell? w _ HY.out.1; have := HXY.out.2.2; show 2 ≠ rb; omega))).trans q0
  have HR := Lib.hid hR
  clear r3 rf hR oR t3 HI
  go_upto_region 2 with (fail)
  go_region
  all_goals
    go_wp2_with fail
    obtain ⟨s0, s1, _⟩ := pl_cells HR.out
    have hF := HF.out
    generalize ((w4.setCell ⟨rb, 0, none⟩ (.int .i64 0)).setCell ⟨rb, 1, none⟩ (.int .i64 0)).drew = w12 at s0 s1 hF ⊢
    exact bodyPost_ret (v := .tuple #[.agg #[.int .i64 0, .int .i64 0], .bool false, errOf y]) (by simp [results, Tryd.results10, go_sem, s0, s1]) rfl ⟨rfl, hF⟩
set_option maxRecDepth 100000 in
set_option maxHeartbeats 2000000 in
theorem set_badK (T : TabAt w base tb mb ob B P cO kb kf m cnt nb) {key : Int} (hbB : key < 0 ∨ 1073741824 < key) {b p : Int} (m0 m1 m2 m3 m4 m5 : Int) {y : Addr} (E : ErrAt w 2 y) :
    Calls Tryd.prog 10 #[.pointer (some ⟨tb, 0, none⟩), .int .i64 key, .agg #[.int .i64 (b : Int), .int .i64 (p : Int)], .agg #[.int .i64 m0, .int .i64 m1, .int .i64 m2, .int .i64 m3, .int .i64 m4, .int .i64 m5]] w fun e w' => e = .returned (.tuple #[.agg #[.int .i64 0, .int .i64 0], .bool false, errOf y]) ∧ Below w.heap.size w w' := by
  have HT := Lib.hid (And.intro T hbB)
  have HY := Lib.hid E
  clear T E hbB
  go_enter Tryd.func10, Tryd.ntmps10
  go_upto_region 1 with (fail)
  generalize hw : w.alloc (.cells #[.int .i64 (b : Int), .int .i64 (p : Int)] 24 (0, 0)) = w1
  obtain ⟨J1, b1⟩ := newPl w w1 (b : Int) (p : Int) hw
  have hs1 : w1.heap.size = w.heap.size + 1 := by rw [← hw]; simp
  clear hw
  rw [← hs1]
  generalize hw : w1.alloc (.cells #[.int .i64 m0, .int .i64 m1, .int .i64 m2, .int .i64 m3, .int .i64 m4, .int .i64 m5] 36 (0, 0)) = w2
  obtain ⟨J2, b2⟩ := newMe w1 w2 m0 m1 m2 m3 m4 m5 hw
  have hs2 : w2.heap.size = w1.heap.size + 1 := by rw [← hw]; simp
  clear hw
  rw [← hs2]
  generalize hw : w2.alloc (.cells #[.int .i64 0, .int .i64 0] 24 (0, 0)) = w3
  obtain ⟨J3, b3⟩ := newPl w2 w3 0 0 hw
  clear hw
  have b13 := b2.trans (b3.mono b2.size)
  have b03 := b1.trans (b13.mono b1.size)
  have HB03 := Lib.hid b03
  obtain ⟨xb, hxb⟩ : ∃ xb, xb = w.heap.size := ⟨_, rfl⟩
  obtain ⟨yb, hyb⟩ : ∃ yb, yb = w1.heap.size := ⟨_, rfl⟩
  obtain ⟨rb, hrb⟩ : ∃ rb, rb = w2.heap.size := ⟨_, rfl⟩
  have HI : Hid (SetI w base tb mb ob B P cO kb kf m cnt nb xb yb rb (b : Int) (p : Int) m0 m1 m2 m3 m4 m5 w3) := by
    refine ⟨HT.out.1.below b03, ?_, ?_, ?_, Tn.below b03⟩
    · rw [hxb]; exact (b13.block _ (lt_of_block J1)).trans J1
    · rw [hyb]; exact (b3.block _ (lt_of_block J2)).trans J2
    · rw [hrb]; exact J3
  have HXY : Hid (w.heap.size ≤ xb ∧ w.heap.size ≤ yb ∧ w.heap.size ≤ rb) := ⟨by omega, by omega, by omega⟩
  rw [← hxb, ← hyb, ← hrb]
  clear J1 J2 J3 b1 b2 b3 b13 b03 hs1 hs2 hxb hyb hrb
  have HBW : Hid (Below w.heap.size w w3) := HB03.out
  obtain ⟨_, _, _, r3, t3⟩ := HI.out
  obtain ⟨r0, r1, rf⟩ := pl_cells r3
  have f0 := rf 0
  have f1 := rf 1
  have q0 : w3.cell? ⟨2, 0, none⟩ = some (errOf y) := (HY.out.below HBW.out).1
  have hR : ((w3.setCell ⟨rb, 0, none⟩ (.int .i64 0)).setCell ⟨rb, 1, none⟩ (.int .i64 0)).drew.heap[rb]? = some (.cells #[.int .i64 0, .int .i64 0] 24 (0, 0)) := heap_setCell_same _ _ 1 _ _ _ (heap_setCell_same _ _ 0 _ _ _ r3)
  have oR : Only rb w3 ((w3.setCell ⟨rb, 0, none⟩ (.int .i64 0)).setCell ⟨rb, 1, none⟩ (.int .i64 0)).drew := ((Only.setCell w3 ⟨rb, 0, none⟩ _).trans (Only.setCell _ ⟨rb, 1, none⟩ _)).drew
  have HF : Hid (Below w.heap.size w ((w3.setCell ⟨rb, 0, none⟩ (.int .i64 0)).setCell ⟨rb, 1, none⟩ (.int .i64 0)).drew) := HBW.out.trans (oR.below HXY.out.2.2)
  have q1 : ((w3.setCell ⟨rb, 0, none⟩ (.int .i64 0)).setCell ⟨rb, 1, none⟩ (.int .i64 0)).cell? ⟨2, 0, none⟩ = some (errOf y) := (cell_heapT (((Only.setCell w3 ⟨rb, 0, none⟩ _).trans (Only.setCell _ ⟨rb, 1, none⟩ _)).block _ (by have hlt : 2 < w.heap.size := World.block_lt_of_cell? w _ HY.out.1; have := HXY.out.2.2; show 2 ≠ rb; omega))).trans q0
  have HR := Lib.hid hR
  clear r3 rf hR oR t3 HI
  by_cases hk0 : key < 0
  · have z0 : decide (key < 0) = true := decide_eq_true hk0
    go_upto_region 2 with (fail)
    go_region
    all_goals
      go_wp2_with fail
      obtain ⟨s0, s1, _⟩ := pl_cells HR.out
      have hF := HF.out
      generalize ((w3.setCell ⟨rb, 0, none⟩ (.int .i64 0)).setCell ⟨rb, 1, none⟩ (.int .i64 0)).drew = w12 at s0 s1 hF ⊢
      exact bodyPost_ret (v := .tuple #[.agg #[.int .i64 0, .int .i64 0], .bool false, errOf y]) (by simp [results, Tryd.results10, go_sem, s0, s1]) rfl ⟨rfl, hF⟩
  · have z0 : decide (key < 0) = false := decide_eq_false hk0
    have z1 : decide ((1073741824 : Int) < key) = true := decide_eq_true (by have := HT.out.2; omega)
    go_upto_region 2 with (fail)
    go_region
    all_goals
      go_wp2_with fail
      obtain ⟨s0, s1, _⟩ := pl_cells HR.out
      have hF := HF.out
      generalize ((w3.setCell ⟨rb, 0, none⟩ (.int .i64 0)).setCell ⟨rb, 1, none⟩ (.int .i64 0)).drew = w12 at s0 s1 hF ⊢
      exact bodyPost_ret (v := .tuple #[.agg #[.int .i64 0, .int .i64 0], .bool false, errOf y]) (by simp [results, Tryd.results10, go_sem, s0, s1]) rfl ⟨rfl, hF⟩
end
end Go.Proofs.YtpbckjagiebmjaaDoor.Tb
