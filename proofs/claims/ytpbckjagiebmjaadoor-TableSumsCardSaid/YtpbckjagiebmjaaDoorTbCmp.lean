/- The orders of a table's slots. By the verifier of shale. -/
import Derived.Test.YtpbckjagiebmjaaDoorTbOps
import Derived.Sort.Statements
import Derived.Sort.Grow
namespace Go.Proofs.YtpbckjagiebmjaaDoor.Tb
open Go Go.RowKit Go.Sort
set_option linter.unusedVariables false
set_option linter.unusedSimpArgs false
def cmpI (x y : Int) : Int := if x < y then -1 else if y < x then 1 else 0
theorem nan_any (x : Int) (w : World) : Calls Tryd.prog 52 #[.int .i64 x] w fun e w' => e = .returned (.bool false) ∧ w = w' := by
  go_enter Tryd.func52, Tryd.ntmps52
  go_wp2_with fail
  go_ret
  exact ⟨rfl, rfl⟩
theorem cmp_any (x y : Int) (w : World) : Calls Tryd.prog 44 #[.int .i64 x, .int .i64 y] w fun e w' => e = .returned (.int .i64 (cmpI x y)) ∧ w = w' := by
  have H1 := Lib.hid (nan_any x w)
  have H2 := Lib.hid (nan_any y w)
  unfold cmpI
  by_cases h1 : x < y
  · have t1 : decide (x < y) = true := decide_eq_true h1
    rw [if_pos h1]
    go_enter Tryd.func44, Tryd.ntmps44
    go_wp2_with fail
    refine H1.out.mono ?_
    rintro e w' ⟨rfl, rfl⟩
    go_wp2_with fail
    refine H2.out.mono ?_
    rintro e w' ⟨rfl, rfl⟩
    go_wp2_with fail
    go_ret
    exact ⟨rfl, rfl⟩
  · have t1 : decide (x < y) = false := decide_eq_false h1
    rw [if_neg h1]
    by_cases h2 : y < x
    · have t2 : decide (y < x) = true := decide_eq_true h2
      rw [if_pos h2]
      go_enter Tryd.func44, Tryd.ntmps44
      go_wp2_with fail
      refine H1.out.mono ?_
      rintro e w' ⟨rfl, rfl⟩
      go_wp2_with fail
      refine H2.out.mono ?_
      rintro e w' ⟨rfl, rfl⟩
      go_wp2_with fail
      go_ret
      exact ⟨rfl, rfl⟩
    · have t2 : decide (y < x) = false := decide_eq_false h2
      rw [if_neg h2]
      go_enter Tryd.func44, Tryd.ntmps44
      go_wp2_with fail
      refine H1.out.mono ?_
      rintro e w' ⟨rfl, rfl⟩
      go_wp2_with fail
      refine H2.out.mono ?_
      rintro e w' ⟨rfl, rfl⟩
      go_wp2_with fail
      go_ret
      exact ⟨rfl, rfl⟩
theorem byKey_any (x y : Sl) (w : World) : Calls Tryd.prog 34 #[slV x, slV y] w fun e w' => e = .returned (.int .i64 (cmpI x.k y.k)) ∧ ∃ q os', w' = grow (w.drewN q) os' := by
  have HC := Lib.hid (cmp_any x.k y.k)
  generalize cmpI x.k y.k = r at HC ⊢
  go_enter Tryd.func34, Tryd.ntmps34
  go_wp2_with fail
  refine (HC.out _).mono ?_
  rintro e w' ⟨rfl, rfl⟩
  go_wp2_with fail
  go_ret
  exact ⟨rfl, 0, _, by rw [alloc_eq_grow, alloc_eq_grow, grow_grow]; rfl⟩
theorem byPage_any (x y : Sl) (w : World) : Calls Tryd.prog 32 #[slV x, slV y] w fun e w' => e = .returned (.int .i64 (cmpI x.p y.p)) ∧ ∃ q os', w' = grow (w.drewN q) os' := by
  have HC := Lib.hid (cmp_any x.p y.p)
  generalize cmpI x.p y.p = r at HC ⊢
  go_enter Tryd.func32, Tryd.ntmps32
  go_wp2_with fail
  refine (HC.out _).mono ?_
  rintro e w' ⟨rfl, rfl⟩
  go_wp2_with fail
  go_ret
  exact ⟨rfl, 0, _, by rw [alloc_eq_grow, alloc_eq_grow, grow_grow]; rfl⟩
theorem wantAll (s : Sl) (w : World) : Calls Tryd.prog 35 #[slV s] w fun e w' => e = .returned (.bool true) ∧ Below w.heap.size w w' := by
  go_enter Tryd.func35, Tryd.ntmps35
  go_wp2_with fail
  go_ret
  exact ⟨rfl, (Below.refl _ _).alloc (Nat.le_refl _) _⟩
theorem wantOf (s : Sl) (w : World) {cb : Nat} {B : Int} (hc : w.cell? ⟨cb, 0, none⟩ = some (.int .i64 B)) : Calls Tryd.prog 33 #[slV s, .pointer (some ⟨cb, 0, none⟩)] w fun e w' => e = .returned (.bool (decide (s.b = B))) ∧ Below w.heap.size w w' := by
  have hl := World.block_lt_of_cell? w _ hc
  have b1 : ∀ o : Obj, Below w.heap.size w (w.alloc o) := fun o => (Below.refl _ _).alloc (Nat.le_refl _) _
  have hc' : ∀ o : Obj, (w.alloc o).cell? ⟨cb, 0, none⟩ = some (.int .i64 B) := fun o => (cell_heapT ((b1 o).block cb hl)).trans hc
  have key : ∀ c : Bool, (s.b == B) = c → Calls Tryd.prog 33 #[slV s, .pointer (some ⟨cb, 0, none⟩)] w fun e w' => e = .returned (.bool c) ∧ Below w.heap.size w w' := by
    intro c h
    have HB := Lib.hid b1
    clear b1
    go_enter Tryd.func33, Tryd.ntmps33
    go_wp2_with fail
    go_ret
    exact ⟨rfl, HB.out _⟩
  have h := key _ rfl
  rwa [show (s.b == B) = decide (s.b = B) from rfl] at h
end Go.Proofs.YtpbckjagiebmjaaDoor.Tb
