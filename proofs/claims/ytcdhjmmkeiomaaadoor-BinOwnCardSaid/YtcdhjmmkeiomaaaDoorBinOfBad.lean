/- The walk over package binpoly's Of, where an exponent may not be. By the verifier of shale. -/
import Derived.Test.YtcdhjmmkeiomaaaDoorBinXp
namespace Go.Proofs.YtcdhjmmkeiomaaaDoor.Bin
open Go Go.RowKit
set_option linter.unusedVariables false
/-- ints that stand in a row. -/
def RowZ (w : World) (a : Option Addr) (n : Nat) (z : Nat → Int) : Prop :=
  ∀ i, i < n → ∃ bb off, a = some ⟨bb, off, none⟩ ∧ w.cell? ⟨bb, off + i, none⟩ = some (.int .i64 (z i)) ∧ bb < w.heap.size
set_option maxRecDepth 100000 in
set_option maxHeartbeats 1000000 in
theorem of_bad (a : Option Addr) (n cap : Nat) (z : Nat → Int) (j : Nat) (w : World) (h : RowZ w a n z) (hj : j < n) (hn : n ≤ 100000) (hgood : ∀ i, i < j → 0 ≤ z i ∧ z i ≤ 2048) (hbad : z j < 0 ∨ 2048 < z j) (p : Addr) (E : ErrAt w 2 p) :
    Calls Tryd.prog 35 #[.slice a n cap] w fun e w' => e = .returned (.tuple #[.slice none 0 0, errOf p]) ∧ Drawn w w' := by
  have HR := Lib.hid h
  have HGd := Lib.hid hgood
  have e1 := E.1
  unfold Sent at e1
  clear h hgood E
  have hb2 : (decide (z j < 0) = true) ∨ (decide (z j < 0) = false ∧ decide (2048 < z j) = true) := by
    by_cases h : z j < 0
    · exact Or.inl (decide_eq_true h)
    · exact Or.inr ⟨decide_eq_false h, decide_eq_true (by omega)⟩
  have HB := Lib.hid hb2
  clear hbad hb2
  go_enter Tryd.func35, Tryd.ntmps35
  go_wp2_with fail
  go_loopg [8] n (fun gh s8 wx => ∃ (k : Nat), gh = n - k ∧ k ≤ j ∧ s8 = .int .i64 (k : Int) ∧ w = wx)
  case atStart => exact ⟨0, rfl, by omega, rfl, rfl⟩
  case round =>
    obtain ⟨k, hg, hk, rfl, rfl⟩ := hrel
    have HG := Lib.hid hg
    clear hg
    have x1 : (k : Int) < (n : Int) := by omega
    have x0 : (0 : Int) ≤ (k : Int) := by omega
    obtain ⟨bb, off, rfl, c1, hb⟩ := HR.out k (by omega)
    by_cases hlt : k < j
    · obtain ⟨g1, g2⟩ := HGd.out k hlt
      have t1 : decide (z k < 0) = false := decide_eq_false (by omega)
      have t2 : decide (2048 < z k) = false := decide_eq_false (by omega)
      clear hb g1 g2
      go_wp2_with fail
      go_roundg (n - (k + 1))
      case measure => have := HG.out; omega
      case rel => exact ⟨k + 1, rfl, by omega, by go_num, rfl⟩
    · obtain rfl : k = j := by omega
      clear hb
      rcases HB.out with t1 | ⟨t1, t2⟩
      all_goals
        go_wp2_with fail
        go_quiet (fail)
        go_wp2_with fail
        go_ret2
        exact ⟨rfl, Drawn.mk _ _⟩
end Go.Proofs.YtcdhjmmkeiomaaaDoor.Bin
