/- The walk over BinSays. By the verifier of shale. -/
import Derived.Test.YtcdhjmmkeiomaaaDoorSayA
import Derived.Test.YtcdhjmmkeiomaaaDoorSayB
import Derived.Test.YtcdhjmmkeiomaaaDoorLaidBinSays
namespace Go.Proofs.YtcdhjmmkeiomaaaDoor.walkBinSays
open Go Go.RowKit Bin
set_option linter.unusedVariables false
set_option maxRecDepth 100000 in
set_option maxHeartbeats 1000000 in
theorem long (a0 : Option Addr) (n0 c0 : Nat) (a1 : Option Addr) (n1 c1 : Nat) (i2 i3 : Int) (w : World) (p : Addr) (E : ErrAt w 2 p) (h : 40 < n0 ∨ 40 < n1) :
    Calls Tryd.prog 3 #[.slice a0 n0 c0, .slice a1 n1 c1, .int .i64 i2, .int .i64 i3] w fun e w' => e = .returned (.bool true) ∧ Below w.heap.size w w' := by
  have t : decide ((40 : Int) < (n0 : Int)) = true ∨ (decide ((40 : Int) < (n0 : Int)) = false ∧ decide ((40 : Int) < (n1 : Int)) = true) := by
    by_cases h0 : 40 < n0
    · exact Or.inl (decide_eq_true (by omega))
    · exact Or.inr ⟨decide_eq_false (by omega), decide_eq_true (by omega)⟩
  clear h
  rcases t with t | ⟨t, t2⟩
  all_goals
    go_enter Tryd.func3, Tryd.ntmps3
    go_wp2_with fail
    refine (first_any w p E).mono ?_
    rintro e w1 ⟨rfl, b1⟩
    clear E
    go_wp2_with fail
    go_ret
    exact ⟨rfl, b1⟩
theorem walk (a0 : Option Addr) (len0 cap0 : Nat) (z0 : List Int) (a1 : Option Addr) (len1 cap1 : Nat) (z1 : List Int) (a2 a3 : Int) (W : World) (w0 : IsRow .u8 W a0 len0 cap0 z0) (w1 : IsRow .u8 W a1 len1 cap1 z1) (w2 : (Lit.int .i64 a2).wf = true) (w3 : (Lit.int .i64 a3).wf = true) (h : LaidBinSays.Holds W) :
    Calls Tryd.prog 3 #[.slice a0 len0 cap0, .slice a1 len1 cap1, .int .i64 a2, .int .i64 a3] W fun e w' => e = .returned (.bool true) ∧ Below W.heap.size W w' := by
  obtain ⟨f, ⟨E0, E1, E2⟩, _⟩ := h
  have hb2 := int64_bounds w2
  have hb3 := int64_bounds w3
  by_cases k0 : len0 ≤ 40
  · by_cases k1 : len1 ≤ 40
    · obtain ⟨X, PX⟩ := row_pol w0
      obtain ⟨Y, PY⟩ := row_pol w1
      by_cases hB : val Y = 0
      · by_cases hA : val X = 0
        · exact coreZ0 _ _ _ _ _ _ a2 a3 X Y W _ _ _ E0 E1 E2 PX PY k0 k1 hb3.2 hb2.1 hb2.2 hA hB
        · by_cases hS : a2 ≤ 4096 - degZ (val X)
          · exact coreS0 _ _ _ _ _ _ a2 a3 X Y W _ _ _ E0 E1 E2 PX PY k0 k1 hb3.2 hb2.1 hb2.2 hA hS hB
          · exact coreL0 _ _ _ _ _ _ a2 a3 X Y W _ _ _ E0 E1 E2 PX PY k0 k1 hb3.2 hb2.1 hb2.2 hA (by omega) hB
      · by_cases hA : val X = 0
        · exact coreZ1 _ _ _ _ _ _ a2 a3 X Y W _ _ _ E0 E1 E2 PX PY k0 k1 hb3.2 hb2.1 hb2.2 hA hB
        · by_cases hS : a2 ≤ 4096 - degZ (val X)
          · exact coreS1 _ _ _ _ _ _ a2 a3 X Y W _ _ _ E0 E1 E2 PX PY k0 k1 hb3.2 hb2.1 hb2.2 hA hS hB
          · exact coreL1 _ _ _ _ _ _ a2 a3 X Y W _ _ _ E0 E1 E2 PX PY k0 k1 hb3.2 hb2.1 hb2.2 hA (by omega) hB
    · exact long _ _ _ _ _ _ a2 a3 W _ E0 (by omega)
  · exact long _ _ _ _ _ _ a2 a3 W _ E0 (by omega)
end Go.Proofs.YtcdhjmmkeiomaaaDoor.walkBinSays
