/- A table's Drop. By the verifier of shale. -/
import Derived.Test.YtpbckjagiebmjaaDoorTbOps
import Derived.StillTailTactics
namespace Go.Proofs.YtpbckjagiebmjaaDoor.Tb
open Go Go.RowKit
set_option linter.unusedVariables false
set_option linter.unusedSimpArgs false
theorem newSl (w W : World) (s : Sl) (h : w.alloc (.cells #[.int .i64 s.k, .int .i64 s.b, .int .i64 s.p, .int .i64 s.m0, .int .i64 s.m1, .int .i64 s.m2, .int .i64 s.m3, .int .i64 s.m4, .int .i64 s.m5] 47 (0, 0)) = W) : W.heap[w.heap.size]? = some (.cells #[.int .i64 s.k, .int .i64 s.b, .int .i64 s.p, .int .i64 s.m0, .int .i64 s.m1, .int .i64 s.m2, .int .i64 s.m3, .int .i64 s.m4, .int .i64 s.m5] 47 (0, 0)) ∧ Below w.heap.size w W := by
  subst h
  exact ⟨heap_alloc_new w _, (Below.refl _ _).alloc (Nat.le_refl _) _⟩
theorem sl_cells {w : World} {g : Nat} {s : Sl} (e : w.heap[g]? = some (.cells #[.int .i64 s.k, .int .i64 s.b, .int .i64 s.p, .int .i64 s.m0, .int .i64 s.m1, .int .i64 s.m2, .int .i64 s.m3, .int .i64 s.m4, .int .i64 s.m5] 47 (0, 0))) : w.cell? ⟨g, 1, none⟩ = some (.int .i64 s.b) ∧ w.cell? ⟨g, 2, none⟩ = some (.int .i64 s.p) := by
  refine ⟨?_, ?_⟩
  · unfold World.cell?; simp only; rw [e]; rfl
  · unfold World.cell?; simp only; rw [e]; rfl
section
variable {w : World} {base tb mb ob B P cO : Nat} {kb : Nat → Nat} {kf : Nat → Nat → Int} {m : Int → Option Sl} {cnt nb : Nat}
set_option maxRecDepth 100000 in
set_option maxHeartbeats 1000000 in
theorem drop_no (T : TabAt w base tb mb ob B P cO kb kf m cnt nb) {k : Int} (hk : (Lit.int .i64 k).wf = true) (hg : m k = none) : Calls Tryd.prog 8 #[.pointer (some ⟨tb, 0, none⟩), .int .i64 k] w fun e w' => e = .returned (.bool false) ∧ Below w.heap.size w w' := by
  obtain ⟨k0, k1, _⟩ := T.cells
  have hl := T.map.look hk
  rw [hg] at hl
  have hl' : (Instr.lookup 69 (.map (some mb)) (.int .i64 k) true).run Tryd.prog w = .ok (.tuple #[.agg #[.int .i64 0, .int .i64 0, .int .i64 0, .int .i64 0, .int .i64 0, .int .i64 0, .int .i64 0, .int .i64 0, .int .i64 0], .bool false]) w := hl
  have HB : Hid (Below w.heap.size w (w.alloc (.cells #[.int .i64 0, .int .i64 0, .int .i64 0, .int .i64 0, .int .i64 0, .int .i64 0, .int .i64 0, .int .i64 0, .int .i64 0] 47 (0, 0)))) := (Below.refl _ _).alloc (Nat.le_refl _) _
  clear T hl hk hg
  go_enter Tryd.func8, Tryd.ntmps8
  go_wp2_with fail
  go_ret
  exact ⟨rfl, HB.out⟩
/-- what Drop leaves. -/
def DropAt (w : World) (base tb mb ob B P cO : Nat) (kb : Nat → Nat) (kf : Nat → Nat → Int) (m : Int → Option Sl) (cnt nb : Nat) (w' : World) : Prop := TabAt w' base tb mb ob B P cO kb kf m cnt nb ∧ Tn (mb :: (List.range B).map kb) w w' (mb :: (List.range B).map kb)
set_option maxRecDepth 100000 in
set_option maxHeartbeats 1000000 in
theorem drop_yes (T : TabAt w base tb mb ob B P cO kb kf m cnt nb) {k : Int} (hk : (Lit.int .i64 k).wf = true) {s : Sl} (hs : m k = some s) {b p : Nat} (hb : s.b = (b : Int)) (hp : s.p = (p : Int)) (hbB : b < B) (hpP : p < P) (hkf : kf b p = k) :
    Calls Tryd.prog 8 #[.pointer (some ⟨tb, 0, none⟩), .int .i64 k] w fun e w' => e = .returned (.bool true) ∧ DropAt w base tb mb ob B P cO kb (kfD kf b p) (mD m k) (cnt - 1) nb w' := by
  obtain ⟨k0, k1, _⟩ := T.cells
  have hl := T.map.look hk
  rw [hs] at hl
  have hl' : (Instr.lookup 69 (.map (some mb)) (.int .i64 k) true).run Tryd.prog w = .ok (.tuple #[.agg #[.int .i64 s.k, .int .i64 s.b, .int .i64 s.p, .int .i64 s.m0, .int .i64 s.m1, .int .i64 s.m2, .int .i64 s.m3, .int .i64 s.m4, .int .i64 s.m5], .bool true]) w := hl
  have HT := Lib.hid (And.intro T (And.intro hk (And.intro hs (And.intro hb (And.intro hp (And.intro hbB (And.intro hpP hkf)))))))
  have hP := T.pos
  obtain ⟨q1, q2, q3, q4, q5, q6⟩ := hP
  unfold maxLen at q6
  have y0 : (0 : Int) ≤ (b : Int) := by omega
  have y1 : (b : Int) < (B : Int) := by omega
  have y2 : (0 : Int) ≤ (p : Int) := by omega
  have y3 : (p : Int) < (P : Int) := by omega
  clear T hl hk hs hb hp hbB hpP hkf
  go_enter Tryd.func8, Tryd.ntmps8
  go_upto_region 3 with (fail)
  generalize hw : w.alloc (.cells #[.int .i64 s.k, .int .i64 s.b, .int .i64 s.p, .int .i64 s.m0, .int .i64 s.m1, .int .i64 s.m2, .int .i64 s.m3, .int .i64 s.m4, .int .i64 s.m5] 47 (0, 0)) = w1
  obtain ⟨K1, b1⟩ := newSl w w1 s hw
  clear hw hl'
  obtain ⟨xb, hxb⟩ : ∃ xb, xb = w.heap.size := ⟨_, rfl⟩
  rw [← hxb] at K1 ⊢
  refine wp_region_still_tail 13 (by kernel_rfl) (by kernel_rfl) ?_
  simp only [List.take_succ_cons, List.take_zero, List.drop_succ_cons, List.drop_zero]
  change wpStill _ _ w1.drew (fun a' => wpList _ _ _ _ a' w1.drew) _ _
  have bd := (Drawn.mk w1 1).below w1.heap.size
  have bd' : Below w1.heap.size w1 w1.drew := bd
  generalize w1.drew = w2 at bd' ⊢
  have K2 := (bd'.block _ (lt_of_block K1)).trans K1
  have b12 := b1.trans (bd'.mono b1.size)
  have T2 := HT.out.1.below b12
  obtain ⟨x1, x2⟩ := sl_cells K2
  rw [HT.out.2.2.2.1] at x1
  rw [HT.out.2.2.2.2.1] at x2
  obtain ⟨z0, z1, _⟩ := T2.cells
  have z2 := T2.outer b HT.out.2.2.2.2.2.1
  obtain ⟨z3, z4⟩ := T2.page HT.out.2.2.2.2.2.1 HT.out.2.2.2.2.2.2.1
  have HK := Lib.hid (And.intro T2 b12)
  clear K1 K2 b1 bd bd' b12 k0 k1 T2 hxb
  iterate 13 still_step
  refine wpStill_nil ?_
  go_upto_region 4 with (fail)
  obtain ⟨T2, b12⟩ := HK.out
  have hmb : mb ≠ kb b := Ne.symm (T2.apart.2.2.2.2.2.2 b HT.out.2.2.2.2.2.1).2.2.1
  have htb : tb ≠ kb b := Ne.symm (T2.apart.2.2.2.2.2.2 b HT.out.2.2.2.2.2.1).2.1
  have o := Only.setCell w2 ⟨kb b, p, none⟩ (.int .i64 (-1))
  obtain ⟨w4, hd1, hd2, hd3⟩ := (T2.map.keep (o.block mb hmb)).del HT.out.2.1 HT.out.2.2.1 0
  have hD := T2.dropped HT.out.2.2.1 HT.out.2.2.2.1 HT.out.2.2.2.2.1 HT.out.2.2.2.2.2.1 HT.out.2.2.2.2.2.2.1 HT.out.2.2.2.2.2.2.2 hd2 hd3
  have v0 : (w2.setCell ⟨kb b, p, none⟩ (.int .i64 (-1))).cell? ⟨tb, 0, none⟩ = some (.map (some mb)) := (cell_heapT (o.block tb htb)).trans T2.cells.1
  have HF : Hid (DropAt w base tb mb ob B P cO kb (kfD kf b p) (mD m k) (cnt - 1) nb w4) := ⟨hD.1, (Tn.below b12).trans hD.2⟩
  clear hd2 hd3 hD T2 b12 hmb htb o x1 x2 z0 z1 z2 z3 z4 HT HK
  go_wp2_with fail
  go_ret
  exact ⟨rfl, HF.out⟩
end
end Go.Proofs.YtpbckjagiebmjaaDoor.Tb
