/- A table's Get. By the verifier of shale. -/
import Derived.Test.YtpbckjagiebmjaaDoorTbSure
import Derived.Test.YtpbckjagiebmjaaDoorTbColl
namespace Go.Proofs.YtpbckjagiebmjaaDoor.Tb
open Go Go.RowKit
set_option linter.unusedVariables false
set_option linter.unusedSimpArgs false
/-- a slot, written over another. -/
theorem set9 (w2 : World) (zb : Nat) (z s : Sl) (J : w2.heap[zb]? = some (.cells #[.int .i64 z.k, .int .i64 z.b, .int .i64 z.p, .int .i64 z.m0, .int .i64 z.m1, .int .i64 z.m2, .int .i64 z.m3, .int .i64 z.m4, .int .i64 z.m5] 47 (0, 0))) : (((((((((w2.setCell ⟨zb, 0, none⟩ (.int .i64 s.k)).setCell ⟨zb, 1, none⟩ (.int .i64 s.b)).setCell ⟨zb, 2, none⟩ (.int .i64 s.p)).setCell ⟨zb, 3, none⟩ (.int .i64 s.m0)).setCell ⟨zb, 4, none⟩ (.int .i64 s.m1)).setCell ⟨zb, 5, none⟩ (.int .i64 s.m2)).setCell ⟨zb, 6, none⟩ (.int .i64 s.m3)).setCell ⟨zb, 7, none⟩ (.int .i64 s.m4)).setCell ⟨zb, 8, none⟩ (.int .i64 s.m5)).heap[zb]? = some (.cells #[.int .i64 s.k, .int .i64 s.b, .int .i64 s.p, .int .i64 s.m0, .int .i64 s.m1, .int .i64 s.m2, .int .i64 s.m3, .int .i64 s.m4, .int .i64 s.m5] 47 (0, 0)) ∧ Only zb w2 (((((((((w2.setCell ⟨zb, 0, none⟩ (.int .i64 s.k)).setCell ⟨zb, 1, none⟩ (.int .i64 s.b)).setCell ⟨zb, 2, none⟩ (.int .i64 s.p)).setCell ⟨zb, 3, none⟩ (.int .i64 s.m0)).setCell ⟨zb, 4, none⟩ (.int .i64 s.m1)).setCell ⟨zb, 5, none⟩ (.int .i64 s.m2)).setCell ⟨zb, 6, none⟩ (.int .i64 s.m3)).setCell ⟨zb, 7, none⟩ (.int .i64 s.m4)).setCell ⟨zb, 8, none⟩ (.int .i64 s.m5)) := by
  have o0 : Only zb w2 w2 := Only.refl _ _
  have o1 := o0.trans (Only.setCell w2 ⟨zb, 0, none⟩ (.int .i64 s.k))
  have j0 : (w2.setCell ⟨zb, 0, none⟩ (.int .i64 s.k)).heap[zb]? = some (.cells #[.int .i64 s.k, .int .i64 z.b, .int .i64 z.p, .int .i64 z.m0, .int .i64 z.m1, .int .i64 z.m2, .int .i64 z.m3, .int .i64 z.m4, .int .i64 z.m5] 47 (0, 0)) := heap_setCell_same _ _ 0 _ _ _ J
  generalize w2.setCell ⟨zb, 0, none⟩ (.int .i64 s.k) = u1 at o1 j0 ⊢
  have o2 := o1.trans (Only.setCell u1 ⟨zb, 1, none⟩ (.int .i64 s.b))
  have j1 : (u1.setCell ⟨zb, 1, none⟩ (.int .i64 s.b)).heap[zb]? = some (.cells #[.int .i64 s.k, .int .i64 s.b, .int .i64 z.p, .int .i64 z.m0, .int .i64 z.m1, .int .i64 z.m2, .int .i64 z.m3, .int .i64 z.m4, .int .i64 z.m5] 47 (0, 0)) := heap_setCell_same _ _ 1 _ _ _ j0
  generalize u1.setCell ⟨zb, 1, none⟩ (.int .i64 s.b) = u2 at o2 j1 ⊢
  have o3 := o2.trans (Only.setCell u2 ⟨zb, 2, none⟩ (.int .i64 s.p))
  have j2 : (u2.setCell ⟨zb, 2, none⟩ (.int .i64 s.p)).heap[zb]? = some (.cells #[.int .i64 s.k, .int .i64 s.b, .int .i64 s.p, .int .i64 z.m0, .int .i64 z.m1, .int .i64 z.m2, .int .i64 z.m3, .int .i64 z.m4, .int .i64 z.m5] 47 (0, 0)) := heap_setCell_same _ _ 2 _ _ _ j1
  generalize u2.setCell ⟨zb, 2, none⟩ (.int .i64 s.p) = u3 at o3 j2 ⊢
  have o4 := o3.trans (Only.setCell u3 ⟨zb, 3, none⟩ (.int .i64 s.m0))
  have j3 : (u3.setCell ⟨zb, 3, none⟩ (.int .i64 s.m0)).heap[zb]? = some (.cells #[.int .i64 s.k, .int .i64 s.b, .int .i64 s.p, .int .i64 s.m0, .int .i64 z.m1, .int .i64 z.m2, .int .i64 z.m3, .int .i64 z.m4, .int .i64 z.m5] 47 (0, 0)) := heap_setCell_same _ _ 3 _ _ _ j2
  generalize u3.setCell ⟨zb, 3, none⟩ (.int .i64 s.m0) = u4 at o4 j3 ⊢
  have o5 := o4.trans (Only.setCell u4 ⟨zb, 4, none⟩ (.int .i64 s.m1))
  have j4 : (u4.setCell ⟨zb, 4, none⟩ (.int .i64 s.m1)).heap[zb]? = some (.cells #[.int .i64 s.k, .int .i64 s.b, .int .i64 s.p, .int .i64 s.m0, .int .i64 s.m1, .int .i64 z.m2, .int .i64 z.m3, .int .i64 z.m4, .int .i64 z.m5] 47 (0, 0)) := heap_setCell_same _ _ 4 _ _ _ j3
  generalize u4.setCell ⟨zb, 4, none⟩ (.int .i64 s.m1) = u5 at o5 j4 ⊢
  have o6 := o5.trans (Only.setCell u5 ⟨zb, 5, none⟩ (.int .i64 s.m2))
  have j5 : (u5.setCell ⟨zb, 5, none⟩ (.int .i64 s.m2)).heap[zb]? = some (.cells #[.int .i64 s.k, .int .i64 s.b, .int .i64 s.p, .int .i64 s.m0, .int .i64 s.m1, .int .i64 s.m2, .int .i64 z.m3, .int .i64 z.m4, .int .i64 z.m5] 47 (0, 0)) := heap_setCell_same _ _ 5 _ _ _ j4
  generalize u5.setCell ⟨zb, 5, none⟩ (.int .i64 s.m2) = u6 at o6 j5 ⊢
  have o7 := o6.trans (Only.setCell u6 ⟨zb, 6, none⟩ (.int .i64 s.m3))
  have j6 : (u6.setCell ⟨zb, 6, none⟩ (.int .i64 s.m3)).heap[zb]? = some (.cells #[.int .i64 s.k, .int .i64 s.b, .int .i64 s.p, .int .i64 s.m0, .int .i64 s.m1, .int .i64 s.m2, .int .i64 s.m3, .int .i64 z.m4, .int .i64 z.m5] 47 (0, 0)) := heap_setCell_same _ _ 6 _ _ _ j5
  generalize u6.setCell ⟨zb, 6, none⟩ (.int .i64 s.m3) = u7 at o7 j6 ⊢
  have o8 := o7.trans (Only.setCell u7 ⟨zb, 7, none⟩ (.int .i64 s.m4))
  have j7 : (u7.setCell ⟨zb, 7, none⟩ (.int .i64 s.m4)).heap[zb]? = some (.cells #[.int .i64 s.k, .int .i64 s.b, .int .i64 s.p, .int .i64 s.m0, .int .i64 s.m1, .int .i64 s.m2, .int .i64 s.m3, .int .i64 s.m4, .int .i64 z.m5] 47 (0, 0)) := heap_setCell_same _ _ 7 _ _ _ j6
  generalize u7.setCell ⟨zb, 7, none⟩ (.int .i64 s.m4) = u8 at o8 j7 ⊢
  have o9 := o8.trans (Only.setCell u8 ⟨zb, 8, none⟩ (.int .i64 s.m5))
  have j8 : (u8.setCell ⟨zb, 8, none⟩ (.int .i64 s.m5)).heap[zb]? = some (.cells #[.int .i64 s.k, .int .i64 s.b, .int .i64 s.p, .int .i64 s.m0, .int .i64 s.m1, .int .i64 s.m2, .int .i64 s.m3, .int .i64 s.m4, .int .i64 s.m5] 47 (0, 0)) := heap_setCell_same _ _ 8 _ _ _ j7
  generalize u8.setCell ⟨zb, 8, none⟩ (.int .i64 s.m5) = u9 at o9 j8 ⊢
  exact ⟨j8, o9⟩
set_option maxRecDepth 100000 in
set_option maxHeartbeats 2000000 in
theorem get_any {w : World} {base tb mb ob B P cO : Nat} {kb : Nat → Nat} {kf : Nat → Nat → Int} {m : Int → Option Sl} {cnt nb : Nat} (T : TabAt w base tb mb ob B P cO kb kf m cnt nb) {k : Int} (hk : (Lit.int .i64 k).wf = true) : Calls Tryd.prog 14 #[.pointer (some ⟨tb, 0, none⟩), .int .i64 k] w fun e w' => e = .returned (.tuple #[slV ((m k).getD zSl), .bool (m k).isSome]) ∧ Below w.heap.size w w' := by
  have HT := Lib.hid (And.intro T hk)
  obtain ⟨s, hs⟩ : ∃ s, s = (m k).getD zSl := ⟨_, rfl⟩
  obtain ⟨r, hr⟩ : ∃ r, r = (m k).isSome := ⟨_, rfl⟩
  rw [← hs, ← hr]
  have HSR := Lib.hid (And.intro hs hr)
  clear T hk hs hr
  go_enter Tryd.func14, Tryd.ntmps14
  go_upto_region 1 with (fail)
  generalize hw : w.alloc (.cells #[.int .i64 0, .int .i64 0, .int .i64 0, .int .i64 0, .int .i64 0, .int .i64 0, .int .i64 0, .int .i64 0, .int .i64 0] 47 (0, 0)) = w1
  obtain ⟨J1, b1⟩ := newSl w w1 zSl hw
  clear hw
  obtain ⟨zb, hzb⟩ : ∃ zb, zb = w.heap.size := ⟨_, rfl⟩
  rw [← hzb] at J1 ⊢
  have HZ : Hid (w.heap.size ≤ zb) := by rw [hzb]; exact Nat.le_refl _
  have T1 := HT.out.1.below b1
  have hl := T1.map.look HT.out.2
  obtain ⟨k0, _, _⟩ := T1.cells
  rw [← HSR.out.1, ← HSR.out.2] at hl
  clear hzb T1
  go_upto_region 2 with (fail)
  generalize hw : w1.alloc (.cells #[.int .i64 s.k, .int .i64 s.b, .int .i64 s.p, .int .i64 s.m0, .int .i64 s.m1, .int .i64 s.m2, .int .i64 s.m3, .int .i64 s.m4, .int .i64 s.m5] 47 (0, 0)) = w2
  obtain ⟨J2, b2⟩ := newSl w1 w2 s hw
  clear hw hl k0
  obtain ⟨yb, hyb⟩ : ∃ yb, yb = w1.heap.size := ⟨_, rfl⟩
  rw [← hyb] at J2 ⊢
  clear hyb
  replace J1 := (b2.block zb (lt_of_block J1)).trans J1
  have HB : Hid (Below w.heap.size w w2) := b1.trans (b2.mono b1.size)
  obtain ⟨z0, z1, z2, z3, z4, z5, z6, z7, z8⟩ := sl_cells9 (s := zSl) J1
  obtain ⟨y0, y1, y2, y3, y4, y5, y6, y7, y8⟩ := sl_cells9 (s := s) J2
  have fz : ∀ i, w2.frozen? ⟨zb, i, none⟩ = false := fun i => by unfold World.frozen?; simp only; rw [J1]; rfl
  have f0 := fz 0
  have f1 := fz 1
  have f2 := fz 2
  have f3 := fz 3
  have f4 := fz 4
  have f5 := fz 5
  have f6 := fz 6
  have f7 := fz 7
  have f8 := fz 8
  have HKO := Lib.hid (set9 w2 zb zSl s J1)
  have HBB := Lib.hid HB.out
  clear b1 b2 J1 J2 fz HB
  go_wp2_with fail
  have hO := HBB.out.trans (HKO.out.2.below HZ.out)
  obtain ⟨c0, c1, c2, c3, c4, c5, c6, c7, c8⟩ := sl_cells9 (s := s) HKO.out.1
  generalize (((((((((w2.setCell ⟨zb, 0, none⟩ (.int .i64 s.k)).setCell ⟨zb, 1, none⟩ (.int .i64 s.b)).setCell ⟨zb, 2, none⟩ (.int .i64 s.p)).setCell ⟨zb, 3, none⟩ (.int .i64 s.m0)).setCell ⟨zb, 4, none⟩ (.int .i64 s.m1)).setCell ⟨zb, 5, none⟩ (.int .i64 s.m2)).setCell ⟨zb, 6, none⟩ (.int .i64 s.m3)).setCell ⟨zb, 7, none⟩ (.int .i64 s.m4)).setCell ⟨zb, 8, none⟩ (.int .i64 s.m5)) = w3 at c0 c1 c2 c3 c4 c5 c6 c7 c8 hO ⊢
  exact bodyPost_ret (v := .tuple #[slV s, .bool r]) (by simp [results, Tryd.results14, go_sem, c0, c1, c2, c3, c4, c5, c6, c7, c8]) rfl ⟨rfl, hO⟩
end Go.Proofs.YtpbckjagiebmjaaDoor.Tb
