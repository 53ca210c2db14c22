/- A queue's Len, Less and Swap. By the verifier of shale. -/
import Derived.Test.YtaaegkjbmomjbaaDoorPoMem
import Derived.BigQuiet
import Derived.BigRegion
import Derived.Deep.Cut
namespace Go.Proofs.YtaaegkjbmomjbaaDoor.Po
open Go Go.RowKit Hp
set_option linter.unusedVariables false
set_option linter.unusedSimpArgs false
theorem qlen_any (a : Option Addr) (n c : Nat) (w : World) : Calls Tryd.prog 63 #[.slice a n c] w fun e w' => e = .returned (.int .i64 (n : Int)) ∧ w = w' := by
  go_enter Tryd.func63, Tryd.ntmps63
  go_wp2_with fail
  go_ret
  exact ⟨rfl, rfl⟩
set_option maxHeartbeats 1000000 in
theorem less_any {w : World} {g n c i j : Nat} {x y : It} (hi : i < n) (hj : j < n) (x0 : w.cell? ⟨g, i * 2, none⟩ = some (.int .i64 x.b)) (x1 : w.cell? ⟨g, i * 2 + 1, none⟩ = some (.int .i64 x.w)) (y0 : w.cell? ⟨g, j * 2, none⟩ = some (.int .i64 y.b)) (y1 : w.cell? ⟨g, j * 2 + 1, none⟩ = some (.int .i64 y.w)) :
    Calls Tryd.prog 64 #[.slice (some ⟨g, 0, none⟩) n c, .int .i64 (i : Int), .int .i64 (j : Int)] w fun e w' => e = .returned (.bool (itLt x y)) ∧ Drawn w w' := by
  have a1 : (0 : Int) ≤ (i : Int) := by omega
  have a2 : (i : Int) < (n : Int) := by omega
  have a3 : (0 : Int) ≤ (j : Int) := by omega
  have a4 : (j : Int) < (n : Int) := by omega
  have HW : Hid (∀ k, Drawn w (w.drewN k)) := fun k => Drawn.mk w k
  have HX := Lib.hid (And.intro x0 (And.intro x1 (And.intro y0 y1)))
  by_cases e1 : x.w = y.w
  · have t1 : (x.w == y.w) = true := by rw [e1]; exact beq_self_eq_true _
    have t3 : (x.w != y.w) = false := by unfold bne; rw [t1]; rfl
    have ht : itLt x y = decide (x.b < y.b) := by unfold itLt; rw [e1]; simp
    rw [ht]
    clear ht e1
    go_enter Tryd.func64, Tryd.ntmps64
    go_wp2_with fail
    go_quiet (fail)
    obtain ⟨x0, x1, y0, y1⟩ := HX.out
    go_wp2_with fail
    go_quiet (fail)
    go_wp2_with fail
    go_ret
    exact ⟨rfl, by rw [World.drewN_drewN]; exact HW.out _⟩
  · have t1 : (x.w == y.w) = false := by rw [beq_eq_false_iff_ne]; exact e1
    have t3 : (x.w != y.w) = true := by unfold bne; rw [t1]; rfl
    have ht : itLt x y = decide (x.w < y.w) := by unfold itLt; simp [e1]
    rw [ht]
    clear ht
    go_enter Tryd.func64, Tryd.ntmps64
    go_wp2_with fail
    go_quiet (fail)
    obtain ⟨x0, x1, y0, y1⟩ := HX.out
    go_wp2_with fail
    go_quiet (fail)
    go_wp2_with fail
    go_ret
    exact ⟨rfl, by rw [World.drewN_drewN]; exact HW.out _⟩
set_option maxHeartbeats 1000000 in
theorem swap_any {w : World} {g n c i j : Nat} {x y : It} (hi : i < n) (hj : j < n) (x0 : w.cell? ⟨g, i * 2, none⟩ = some (.int .i64 x.b)) (x1 : w.cell? ⟨g, i * 2 + 1, none⟩ = some (.int .i64 x.w)) (y0 : w.cell? ⟨g, j * 2, none⟩ = some (.int .i64 y.b)) (y1 : w.cell? ⟨g, j * 2 + 1, none⟩ = some (.int .i64 y.w)) (hf : ∀ k, w.frozen? ⟨g, k, none⟩ = false) :
    Calls Tryd.prog 65 #[.slice (some ⟨g, 0, none⟩) n c, .int .i64 (i : Int), .int .i64 (j : Int)] w fun e w' => e = .returned (.tuple #[]) ∧ w' = ((((w.setCell ⟨g, i * 2, none⟩ (.int .i64 y.b)).setCell ⟨g, i * 2 + 1, none⟩ (.int .i64 y.w)).setCell ⟨g, j * 2, none⟩ (.int .i64 x.b)).setCell ⟨g, j * 2 + 1, none⟩ (.int .i64 x.w)).drew := by
  have a1 : (0 : Int) ≤ (i : Int) := by omega
  have a2 : (i : Int) < (n : Int) := by omega
  have a3 : (0 : Int) ≤ (j : Int) := by omega
  have a4 : (j : Int) < (n : Int) := by omega
  have f0 := hf (i * 2)
  have f1 := hf (i * 2 + 1)
  have f2 := hf (j * 2)
  have f3 := hf (j * 2 + 1)
  clear hf
  obtain ⟨v1, hv1⟩ := cell?_setCell_some (w := w) (p := ⟨g, i * 2, none⟩) (x := .int .i64 y.b) (q := ⟨g, j * 2, none⟩) y0
  obtain ⟨v0, hv0⟩ := cell?_setCell_some (w := w) (p := ⟨g, i * 2, none⟩) (x := .int .i64 y.b) (q := ⟨g, j * 2 + 1, none⟩) y1
  obtain ⟨v2, hv2⟩ := cell?_setCell_some (w := w.setCell ⟨g, i * 2, none⟩ (.int .i64 y.b)) (p := ⟨g, i * 2 + 1, none⟩) (x := .int .i64 y.w) (q := ⟨g, j * 2 + 1, none⟩) hv0
  clear hv0
  go_enter Tryd.func65, Tryd.ntmps65
  go_wp2_with fail
  go_region
  all_goals
    go_wp2_with fail
    go_end0
    exact ⟨rfl, rfl⟩
end Go.Proofs.YtaaegkjbmomjbaaDoor.Po
