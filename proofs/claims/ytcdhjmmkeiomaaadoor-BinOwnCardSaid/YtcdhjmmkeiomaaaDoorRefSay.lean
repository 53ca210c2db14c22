/- The statements' words same and bare; Shift, where it is not too long. By the verifier of shale. -/
import Derived.Test.YtcdhjmmkeiomaaaDoorRefXp
namespace Go.Proofs.YtcdhjmmkeiomaaaDoor.Bin
open Go Go.RowKit
set_option linter.unusedVariables false
set_option maxRecDepth 100000 in
set_option maxHeartbeats 1000000 in
theorem bare_any (a : Option Addr) (n cap : Nat) (l : List (BitVec 8)) (w : World) (h : Pol w a n cap l) (hb : Bare l) :
    Calls Tryd.prog 41 #[.slice a n cap] w fun e w' => e = .returned (.bool true) ∧ w = w' := by
  have hm : n ≤ maxLen := Nat.le_trans h.hcap h.hmost
  unfold maxLen at hm
  by_cases h0 : n = 0
  · subst h0
    clear h
    go_enter Tryd.func41, Tryd.ntmps41
    go_wp2_with fail
    go_ret
    exact ⟨rfl, rfl⟩
  · obtain ⟨j, rfl⟩ : ∃ j, n = j + 1 := ⟨n - 1, by omega⟩
    have hl := h.hlen
    obtain ⟨bb, off, rfl, hr, _⟩ : ∃ bb off, a = some ⟨bb, off, none⟩ ∧ Row8 w bb off l ∧ bb < w.heap.size := by
      rcases h.hrow with h | h
      · omega
      · exact h
    have c1 := hr j (by omega)
    have hnz : nth8 l j ≠ 0 := by
      have := hb (by omega)
      rwa [← hl, Nat.add_sub_cancel] at this
    have t := b_eq0 (nth8 l j)
    rw [decide_eq_false hnz] at t
    have t2 : (Bits32.b (nth8 l j) != 0) = true := by rw [bne, t]; rfl
    have t3 : (((j + 1 : Nat) : Int) == 0) = false := by rw [beq_eq_false_iff_ne]; omega
    have t4 : ((j : Int) + 1 == 0) = false := by rw [beq_eq_false_iff_ne]; omega
    have x1 : (j : Int) < (j : Int) + 1 := by omega
    clear h hl hr hnz hb
    go_enter Tryd.func41, Tryd.ntmps41
    go_wp2_with fail
    go_ret
    exact ⟨rfl, rfl⟩
set_option maxRecDepth 100000 in
set_option maxHeartbeats 1000000 in
theorem sayV {w0 w1 w : World} {K K' : Nat} {a a' : Option Addr} {n c n' c' u : Nat} (h : NewV w0 w K a n c u) (h' : NewV w1 w K' a' n' c' u) :
    Calls Tryd.prog 21 #[.slice a n c, .slice a' n' c'] w fun e w' => e = .returned (.bool true) ∧ w = w' := by
  obtain ⟨X, p1, b1, v1, _⟩ := h
  obtain ⟨Y, p2, b2, v2, _⟩ := h'
  have HE : Hid (decide (X = Y) = true) := decide_eq_true (bare_inj b1 b2 (v1.trans v2.symm))
  have HP := Lib.hid p1.pol
  have HQ := Lib.hid p2.pol
  have HB := Lib.hid b1
  clear p1 p2 v1 v2 b1 b2
  go_enter Tryd.func21, Tryd.ntmps21
  go_wp2_with fail
  refine (bare_any a n c X w HP.out HB.out).mono ?_
  rintro e w2 ⟨rfl, rfl⟩
  go_wp2_with fail
  refine (same_any X Y _ _ w (Str8.of HP.out.arg.1) (Str8.of HQ.out.arg.1)).mono ?_
  rintro e w2 ⟨rfl, rfl⟩
  rw [HE.out]
  go_wp2_with fail
  go_ret
  exact ⟨rfl, rfl⟩
/-- Shift, where it is not too long. -/
theorem shiftV {w : World} {k : Nat} {a : Option Addr} {n c u : Nat} (z : Int) (K : Nat) (h : PolV w k a n c u) (hk : k ≤ 200) (hK : shiftZ u (max z (-10000)) < room K) (hl : u = 0 ∨ z ≤ 4096 - degZ u) :
    Calls Tryd.prog 30 #[.slice a n c, .int .i64 z] w fun e w' => ∃ a n c, e = .returned (.tuple #[.slice a n c, .nilIface]) ∧ NewV w w' K a n c (shiftZ u (max z (-10000))) ∧ Below w.heap.size w w' := by
  obtain ⟨X, p1, rfl, n1⟩ := h
  by_cases h0 : val X = 0
  · refine (shift_none a n c X z w p1 (by omega) (Or.inl h0)).mono ?_
    rintro e w1 ⟨rfl, rfl⟩
    exact ⟨none, 0, 0, rfl, by rw [h0, shiftZ_zero]; exact newV_nil w K, Below.refl _ _⟩
  · have hd := degZ_ne h0
    have hdl := deg_len h0
    have hln := p1.hlen
    have hl : z ≤ 4096 - degZ (val X) := by rcases hl with h | h; exact absurd h h0; exact h
    have hD := deg_of h0
    by_cases hz : z < -degZ (val X)
    · refine (shift_none a n c X z w p1 (by omega) (Or.inr hz)).mono ?_
      rintro e w1 ⟨rfl, rfl⟩
      refine ⟨none, 0, 0, rfl, ?_, Below.refl _ _⟩
      rw [shiftZ_none hD.2 (by omega)]
      exact newV_nil w K
    · rw [show max z (-10000) = z by omega] at hK ⊢
      by_cases hz0 : 0 ≤ z
      · obtain ⟨q, rfl⟩ : ∃ q : Nat, z = (q : Int) := ⟨z.toNat, by omega⟩
        refine (shift_up a n c X q w p1 (by omega) h0 (by omega)).mono ?_
        rintro e w1 ⟨a', n', c', Y, rfl, hY, bY, vY, b⟩
        exact ⟨a', n', c', rfl, newV hY bY (by rw [vY]; unfold shiftZ; rw [if_pos hz0]; rfl) K hK, b⟩
      · obtain ⟨q, rfl⟩ : ∃ q : Nat, z = -(q : Int) := ⟨(-z).toNat, by omega⟩
        refine (shift_down a n c X q w p1 (by omega) h0 (by omega) (by omega)).mono ?_
        rintro e w1 ⟨a', n', c', Y, rfl, hY, bY, vY, b⟩
        exact ⟨a', n', c', rfl, newV hY bY (by rw [vY]; unfold shiftZ; rw [if_neg hz0]; congr 1; omega) K hK, b⟩
theorem longV {w : World} {k : Nat} {a : Option Addr} {n c u : Nat} (z : Int) (h : PolV w k a n c u) (hk : k ≤ 200) (h0 : u ≠ 0) (hz : 4096 - degZ u < z) (p : Addr) (E : ErrAt w 1 p) :
    Calls Tryd.prog 30 #[.slice a n c, .int .i64 z] w fun e w' => e = .returned (.tuple #[.slice none 0 0, errOf p]) ∧ Drawn w w' := by
  obtain ⟨X, p1, rfl, n1⟩ := h
  refine shift_long a n c X z w p1 (by omega) h0 hz ?_ p E
  have hd := degZ_ne h0
  have := deg_len h0
  have := p1.hlen
  omega
end Go.Proofs.YtcdhjmmkeiomaaaDoor.Bin
