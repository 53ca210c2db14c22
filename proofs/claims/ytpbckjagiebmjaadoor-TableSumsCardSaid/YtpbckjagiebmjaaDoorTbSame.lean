/- Two slots alike. By the verifier of shale. -/
import Derived.Test.YtpbckjagiebmjaaDoorTbColl
namespace Go.Proofs.YtpbckjagiebmjaaDoor.Tb
open Go Go.RowKit
set_option linter.unusedVariables false
set_option linter.unusedSimpArgs false
/-- the same place, Seq and Kind. -/
def likeS (x y : Sl) : Bool := (x.b == y.b && x.p == y.p) && x.m2 == y.m2 && x.m0 == y.m0
set_option maxHeartbeats 2000000 in
set_option maxRecDepth 100000 in
theorem sameSl (x y : Sl) (w : World) : Calls Tryd.prog 39 #[slV x, slV y] w fun e w' => e = .returned (.bool (likeS x y)) ∧ Below w.heap.size w w' := by
  have key : ∀ c1 c2 c3 c4 : Bool, (x.b == y.b) = c1 → (x.p == y.p) = c2 → (x.m2 == y.m2) = c3 → (x.m0 == y.m0) = c4 → Calls Tryd.prog 39 #[slV x, slV y] w fun e w' => e = .returned (.bool ((c1 && c2) && c3 && c4)) ∧ Below w.heap.size w w' := by
    intro c1 c2 c3 c4 h1 h2 h3 h4
    go_enter Tryd.func39, Tryd.ntmps39
    go_upto_region 1 with (fail)
    generalize hw : w.alloc (.cells #[.int .i64 x.k, .int .i64 x.b, .int .i64 x.p, .int .i64 x.m0, .int .i64 x.m1, .int .i64 x.m2, .int .i64 x.m3, .int .i64 x.m4, .int .i64 x.m5] 47 (0, 0)) = w1
    obtain ⟨k1, b1⟩ := newSl w w1 x hw
    have hs1 : w1.heap.size = w.heap.size + 1 := by rw [← hw]; simp
    clear hw
    rw [← hs1]
    generalize hw : w1.alloc (.cells #[.int .i64 y.k, .int .i64 y.b, .int .i64 y.p, .int .i64 y.m0, .int .i64 y.m1, .int .i64 y.m2, .int .i64 y.m3, .int .i64 y.m4, .int .i64 y.m5] 47 (0, 0)) = w2
    obtain ⟨k2, b2⟩ := newSl w1 w2 y hw
    clear hw
    obtain ⟨xb, hxb⟩ : ∃ xb, xb = w.heap.size := ⟨_, rfl⟩
    obtain ⟨yb, hyb⟩ : ∃ yb, yb = w1.heap.size := ⟨_, rfl⟩
    have HB : Hid (Below w.heap.size w w2) := b1.trans (b2.mono b1.size)
    rw [← hxb] at k1
    rw [← hyb] at k2
    have k1' := (b2.block xb (lt_of_block k1)).trans k1
    rw [← hxb, ← hyb]
    clear hs1 hxb hyb b1 b2 k1
    obtain ⟨_, x1, x2, x3, _, x5, _⟩ := sl_cells9 (s := x) k1'
    obtain ⟨_, y1, y2, y3, _, y5, _⟩ := sl_cells9 (s := y) k2
    clear k1' k2
    cases c1 <;> cases c2 <;> cases c3 <;> cases c4 <;> (go_wp2_with fail; go_ret; exact ⟨rfl, HB.out⟩)
  exact key _ _ _ _ rfl rfl rfl rfl
def likeK (x y : Sl) : Bool := x.k == y.k && likeS x y
set_option maxHeartbeats 2000000 in
set_option maxRecDepth 100000 in
theorem sameK (x y : Sl) (w : World) : Calls Tryd.prog 38 #[slV x, slV y] w fun e w' => e = .returned (.bool (likeK x y)) ∧ Below w.heap.size w w' := by
  have key : ∀ c1 : Bool, (x.k == y.k) = c1 → Calls Tryd.prog 38 #[slV x, slV y] w fun e w' => e = .returned (.bool (c1 && likeS x y)) ∧ Below w.heap.size w w' := by
    intro c1 h1
    have HS := Lib.hid (fun W => sameSl x y W)
    generalize likeS x y = r at HS ⊢
    go_enter Tryd.func38, Tryd.ntmps38
    go_upto_region 1 with (fail)
    generalize hw : w.alloc (.cells #[.int .i64 x.k, .int .i64 x.b, .int .i64 x.p, .int .i64 x.m0, .int .i64 x.m1, .int .i64 x.m2, .int .i64 x.m3, .int .i64 x.m4, .int .i64 x.m5] 47 (0, 0)) = w1
    obtain ⟨k1, b1⟩ := newSl w w1 x hw
    have hs1 : w1.heap.size = w.heap.size + 1 := by rw [← hw]; simp
    clear hw
    rw [← hs1]
    generalize hw : w1.alloc (.cells #[.int .i64 y.k, .int .i64 y.b, .int .i64 y.p, .int .i64 y.m0, .int .i64 y.m1, .int .i64 y.m2, .int .i64 y.m3, .int .i64 y.m4, .int .i64 y.m5] 47 (0, 0)) = w2
    obtain ⟨k2, b2⟩ := newSl w1 w2 y hw
    clear hw
    obtain ⟨xb, hxb⟩ : ∃ xb, xb = w.heap.size := ⟨_, rfl⟩
    obtain ⟨yb, hyb⟩ : ∃ yb, yb = w1.heap.size := ⟨_, rfl⟩
    have HB : Hid (Below w.heap.size w w2) := b1.trans (b2.mono b1.size)
    rw [← hxb] at k1
    rw [← hyb] at k2
    have k1' := (b2.block xb (lt_of_block k1)).trans k1
    rw [← hxb, ← hyb]
    clear hs1 hxb hyb b1 b2 k1
    obtain ⟨x0, x1, x2, x3, x4, x5, x6, x7, x8⟩ := sl_cells9 (s := x) k1'
    obtain ⟨y0, y1, y2, y3, y4, y5, y6, y7, y8⟩ := sl_cells9 (s := y) k2
    clear k1' k2
    cases c1
    · go_wp2_with fail
      go_ret
      exact ⟨rfl, HB.out⟩
    · go_wp2_with (go_at_call 39; (with_reducible refine Calls.mono (HS.out _) ?_); rintro e' w3 ⟨rfl, b3⟩)
      go_ret
      exact ⟨by simp, HB.out.trans (b3.mono HB.out.size)⟩
  exact key _ rfl
end Go.Proofs.YtpbckjagiebmjaaDoor.Tb
