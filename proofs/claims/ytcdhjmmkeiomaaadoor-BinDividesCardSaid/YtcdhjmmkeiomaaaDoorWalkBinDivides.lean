/- The walk over BinDivides. By the verifier of shale. -/
import Derived.Test.YtcdhjmmkeiomaaaDoorBinV
import Derived.Test.YtcdhjmmkeiomaaaDoorLaidBinDivides
namespace Go.Proofs.YtcdhjmmkeiomaaaDoor.walkBinDivides
open Go Go.RowKit Bin
set_option linter.unusedVariables false
theorem wrap_wide {z : Int} (h1 : -1 ≤ z) (h2 : z ≤ 10000) : wrap64 z = z := IntWalk.wrap64_in _ (by omega)
set_option maxRecDepth 100000 in
set_option maxHeartbeats 1000000 in
theorem long (a0 : Option Addr) (n0 c0 : Nat) (a1 : Option Addr) (n1 c1 : Nat) (a2 : Option Addr) (n2 c2 : Nat) (w : World) (p : Addr) (E : ErrAt w 2 p) (h : 3 < n0 ∨ 3 < n1 ∨ 3 < n2) :
    Calls Tryd.prog 6 #[.slice a0 n0 c0, .slice a1 n1 c1, .slice a2 n2 c2] w fun e w' => e = .returned (.bool true) ∧ Below w.heap.size w w' := by
  have t : decide ((3 : Int) < (n0 : Int)) = true ∨ (decide ((3 : Int) < (n0 : Int)) = false ∧ decide ((3 : Int) < (n1 : Int)) = true) ∨ (decide ((3 : Int) < (n0 : Int)) = false ∧ decide ((3 : Int) < (n1 : Int)) = false ∧ decide ((3 : Int) < (n2 : Int)) = true) := by
    by_cases h0 : 3 < n0
    · exact Or.inl (decide_eq_true (by omega))
    · by_cases h1 : 3 < n1
      · exact Or.inr (Or.inl ⟨decide_eq_false (by omega), decide_eq_true (by omega)⟩)
      · exact Or.inr (Or.inr ⟨decide_eq_false (by omega), decide_eq_false (by omega), decide_eq_true (by omega)⟩)
  clear h
  rcases t with t | ⟨t, t2⟩ | ⟨t, t2, t3⟩
  all_goals
    go_enter Tryd.func6, Tryd.ntmps6
    go_wp2_with fail
    refine (first_any w p E).mono ?_
    rintro e w1 ⟨rfl, b1⟩
    clear E
    go_wp2_with fail
    go_ret
    exact ⟨rfl, b1⟩
set_option maxRecDepth 100000 in
set_option maxHeartbeats 8000000 in
theorem coreC (a0 : Option Addr) (n0 c0 : Nat) (a1 : Option Addr) (n1 c1 : Nat) (a2 : Option Addr) (n2 c2 : Nat) (A B' C : Nat) (w : World) (p q : Addr) (E : ErrAt w 2 p) (E1 : ErrAt w 0 q) (P0 : PolV w 3 a0 n0 c0 A) (P1 : PolV w 3 a1 n1 c1 B') (P2 : PolV w 3 a2 n2 c2 C) (k0 : n0 ≤ 3) (k1 : n1 ≤ 3) (k2 : n2 ≤ 3) (hC : C = 0) :
    Calls Tryd.prog 6 #[.slice a0 n0 c0, .slice a1 n1 c1, .slice a2 n2 c2] w fun e w' => e = .returned (.bool true) ∧ Below w.heap.size w w' := by
  have t0 : decide ((3 : Int) < (n0 : Int)) = false := decide_eq_false (by omega)
  have t1 : decide ((3 : Int) < (n1 : Int)) = false := decide_eq_false (by omega)
  have t2 : decide ((3 : Int) < (n2 : Int)) = false := decide_eq_false (by omega)
  have HEC : Hid (degZ C = -1) := by show _ = _; rw [hC]; rfl
  have HC := Lib.hid hC
  clear hC
  go_enter Tryd.func6, Tryd.ntmps6
  go_wp2_with fail
  refine (first_any w p E).mono ?_
  rintro e w1 ⟨rfl, B⟩
  replace P0 := P0.below B
  replace P1 := P1.below B
  replace P2 := P2.below B
  have E2 := E1.below B
  clear E E1
  go_wp2_with fail
  refine (degV P2 (by decide)).mono ?_
  rintro e w' ⟨rfl, rfl⟩
  rw [HEC.out]
  go_wp2_with fail
  go_ret
  exact ⟨rfl, B⟩
set_option maxRecDepth 100000 in
set_option maxHeartbeats 8000000 in
theorem coreA (a0 : Option Addr) (n0 c0 : Nat) (a1 : Option Addr) (n1 c1 : Nat) (a2 : Option Addr) (n2 c2 : Nat) (A B' C : Nat) (w : World) (p q : Addr) (E : ErrAt w 2 p) (E1 : ErrAt w 0 q) (P0 : PolV w 3 a0 n0 c0 A) (P1 : PolV w 3 a1 n1 c1 B') (P2 : PolV w 3 a2 n2 c2 C) (k0 : n0 ≤ 3) (k1 : n1 ≤ 3) (k2 : n2 ≤ 3) (hC : C ≠ 0) (hA : A = 0) :
    Calls Tryd.prog 6 #[.slice a0 n0 c0, .slice a1 n1 c1, .slice a2 n2 c2] w fun e w' => e = .returned (.bool true) ∧ Below w.heap.size w w' := by
  have t0 : decide ((3 : Int) < (n0 : Int)) = false := decide_eq_false (by omega)
  have t1 : decide ((3 : Int) < (n1 : Int)) = false := decide_eq_false (by omega)
  have t2 : decide ((3 : Int) < (n2 : Int)) = false := decide_eq_false (by omega)
  have lC := degZ_room P2.lt
  have gC0 : 0 ≤ degZ C := by rw [degZ_ne hC]; omega
  have tC : decide (degZ C < 0) = false := decide_eq_false (by omega)
  have HC := Lib.hid hC
  have HEA : Hid (degZ A = -1) := by show _ = _; rw [hA]; rfl
  have HA := Lib.hid hA
  clear hC hA lC
  go_enter Tryd.func6, Tryd.ntmps6
  go_wp2_with fail
  refine (first_any w p E).mono ?_
  rintro e w1 ⟨rfl, B⟩
  replace P0 := P0.below B
  replace P1 := P1.below B
  replace P2 := P2.below B
  have E2 := E1.below B
  clear E E1
  go_wp2_with fail
  refine (degV P2 (by decide)).mono ?_
  rintro e w' ⟨rfl, rfl⟩
  go_wp2_with fail
  refine (degV P0 (by decide)).mono ?_
  rintro e w' ⟨rfl, rfl⟩
  rw [HEA.out]
  go_wp2_with fail
  go_ret
  exact ⟨rfl, B⟩
set_option maxRecDepth 100000 in
set_option maxHeartbeats 8000000 in
theorem coreB (a0 : Option Addr) (n0 c0 : Nat) (a1 : Option Addr) (n1 c1 : Nat) (a2 : Option Addr) (n2 c2 : Nat) (A B' C : Nat) (w : World) (p q : Addr) (E : ErrAt w 2 p) (E1 : ErrAt w 0 q) (P0 : PolV w 3 a0 n0 c0 A) (P1 : PolV w 3 a1 n1 c1 B') (P2 : PolV w 3 a2 n2 c2 C) (k0 : n0 ≤ 3) (k1 : n1 ≤ 3) (k2 : n2 ≤ 3) (hC : C ≠ 0) (hA : A ≠ 0) (hB : B' = 0) :
    Calls Tryd.prog 6 #[.slice a0 n0 c0, .slice a1 n1 c1, .slice a2 n2 c2] w fun e w' => e = .returned (.bool true) ∧ Below w.heap.size w w' := by
  have t0 : decide ((3 : Int) < (n0 : Int)) = false := decide_eq_false (by omega)
  have t1 : decide ((3 : Int) < (n1 : Int)) = false := decide_eq_false (by omega)
  have t2 : decide ((3 : Int) < (n2 : Int)) = false := decide_eq_false (by omega)
  have lC := degZ_room P2.lt
  have gC0 : 0 ≤ degZ C := by rw [degZ_ne hC]; omega
  have tC : decide (degZ C < 0) = false := decide_eq_false (by omega)
  have HC := Lib.hid hC
  have lA := degZ_room P0.lt
  have gA0 : 0 ≤ degZ A := by rw [degZ_ne hA]; omega
  have tA : decide (degZ A < 0) = false := decide_eq_false (by omega)
  have HA := Lib.hid hA
  have HEB : Hid (degZ B' = -1) := by show _ = _; rw [hB]; rfl
  have HB := Lib.hid hB
  clear hC hA hB lC lA
  go_enter Tryd.func6, Tryd.ntmps6
  go_wp2_with fail
  refine (first_any w p E).mono ?_
  rintro e w1 ⟨rfl, B⟩
  replace P0 := P0.below B
  replace P1 := P1.below B
  replace P2 := P2.below B
  have E2 := E1.below B
  clear E E1
  go_wp2_with fail
  refine (degV P2 (by decide)).mono ?_
  rintro e w' ⟨rfl, rfl⟩
  go_wp2_with fail
  refine (degV P0 (by decide)).mono ?_
  rintro e w' ⟨rfl, rfl⟩
  go_wp2_with fail
  refine (degV P1 (by decide)).mono ?_
  rintro e w' ⟨rfl, rfl⟩
  rw [HEB.out]
  go_wp2_with fail
  go_ret
  exact ⟨rfl, B⟩
set_option maxRecDepth 100000 in
set_option maxHeartbeats 8000000 in
theorem core0 (a0 : Option Addr) (n0 c0 : Nat) (a1 : Option Addr) (n1 c1 : Nat) (a2 : Option Addr) (n2 c2 : Nat) (A B' C : Nat) (w : World) (p q : Addr) (E : ErrAt w 2 p) (E1 : ErrAt w 0 q) (P0 : PolV w 3 a0 n0 c0 A) (P1 : PolV w 3 a1 n1 c1 B') (P2 : PolV w 3 a2 n2 c2 C) (k0 : n0 ≤ 3) (k1 : n1 ≤ 3) (k2 : n2 ≤ 3) (hC : C ≠ 0) (hA : A ≠ 0) (hB : B' ≠ 0) (g1 : A < 2) :
    Calls Tryd.prog 6 #[.slice a0 n0 c0, .slice a1 n1 c1, .slice a2 n2 c2] w fun e w' => e = .returned (.bool true) ∧ Below w.heap.size w w' := by
  have t0 : decide ((3 : Int) < (n0 : Int)) = false := decide_eq_false (by omega)
  have t1 : decide ((3 : Int) < (n1 : Int)) = false := decide_eq_false (by omega)
  have t2 : decide ((3 : Int) < (n2 : Int)) = false := decide_eq_false (by omega)
  have lC := degZ_room P2.lt
  have gC0 : 0 ≤ degZ C := by rw [degZ_ne hC]; omega
  have tC : decide (degZ C < 0) = false := decide_eq_false (by omega)
  have HC := Lib.hid hC
  have lA := degZ_room P0.lt
  have gA0 : 0 ≤ degZ A := by rw [degZ_ne hA]; omega
  have tA : decide (degZ A < 0) = false := decide_eq_false (by omega)
  have HA := Lib.hid hA
  have lB := degZ_room P1.lt
  have gB0 : 0 ≤ degZ B' := by rw [degZ_ne hB]; omega
  have tB : decide (degZ B' < 0) = false := decide_eq_false (by omega)
  have HB := Lib.hid hB
  have s1 : decide (degZ A < 1) = true := by rw [show A = 1 by omega]; rfl
  clear hC hA hB lC lA lB g1
  go_enter Tryd.func6, Tryd.ntmps6
  go_wp2_with fail
  refine (first_any w p E).mono ?_
  rintro e w1 ⟨rfl, B⟩
  replace P0 := P0.below B
  replace P1 := P1.below B
  replace P2 := P2.below B
  have E2 := E1.below B
  clear E E1
  go_wp2_with fail
  refine (degV P2 (by decide)).mono ?_
  rintro e w' ⟨rfl, rfl⟩
  go_wp2_with fail
  refine (degV P0 (by decide)).mono ?_
  rintro e w' ⟨rfl, rfl⟩
  go_wp2_with fail
  refine (degV P1 (by decide)).mono ?_
  rintro e w' ⟨rfl, rfl⟩
  clear t0 t1 t2 tA tB tC
  go_wp2_with fail
  refine (mulV 6 P0 P2 (by decide) (by decide) (by decide)).mono ?_
  rintro e w2 ⟨a_x, n_x, c_x, rfl, h, b⟩
  replace P0 := P0.below b
  replace P1 := P1.below b
  replace P2 := P2.below b
  replace E2 := E2.below b
  replace B := B.trans (b.mono B.size)
  have Px := h.pol
  clear h b
  go_wp2_with fail
  refine (mulV 6 P1 P2 (by decide) (by decide) (by decide)).mono ?_
  rintro e w3 ⟨a_y, n_y, c_y, rfl, h, b⟩
  replace P0 := P0.below b
  replace P1 := P1.below b
  replace P2 := P2.below b
  replace Px := Px.below b
  replace E2 := E2.below b
  replace B := B.trans (b.mono B.size)
  have Py := h.pol
  clear h b
  go_wp2_with fail
  refine (gcdV 6 Px Py (by decide) (by decide) (by decide)).mono ?_
  rintro e w4 ⟨a_g, n_g, c_g, rfl, h, b⟩
  replace P0 := P0.below b
  replace P1 := P1.below b
  replace P2 := P2.below b
  replace Px := Px.below b
  replace Py := Py.below b
  replace E2 := E2.below b
  replace B := B.trans (b.mono B.size)
  have Pg := h.pol
  clear h b
  go_wp2_with fail
  refine (divV 6 Pg P2 (by decide) (by decide) (by decide) HC.out).mono ?_
  rintro e w5 ⟨a_qq, n_qq, c_qq, a_m, n_m, c_m, Qqq, Rm, rfl, h, h2, hd, b⟩
  replace P0 := P0.below b
  replace P1 := P1.below b
  replace P2 := P2.below b
  replace Px := Px.below b
  replace Py := Py.below b
  replace Pg := Pg.below b
  replace E2 := E2.below b
  replace B := B.trans (b.mono B.size)
  have Pqq := h.pol
  have Pm := h2.pol
  have HDm := Lib.hid hd
  clear h h2 b hd
  go_wp2_with fail
  refine (mulV 6 P0 P1 (by decide) (by decide) (by decide)).mono ?_
  rintro e w6 ⟨a_pr, n_pr, c_pr, rfl, h, b⟩
  replace P0 := P0.below b
  replace P1 := P1.below b
  replace P2 := P2.below b
  replace Px := Px.below b
  replace Py := Py.below b
  replace Pg := Pg.below b
  replace Pqq := Pqq.below b
  replace Pm := Pm.below b
  replace E2 := E2.below b
  replace B := B.trans (b.mono B.size)
  have Ppr := h.pol
  clear h b
  go_wp2_with fail
  refine (degV Pm (by decide)).mono ?_
  rintro e w' ⟨rfl, rfl⟩
  rw [(IsDiv.zero_iff HC.out HDm.out).2 ((pgcd_is (pm A C) (pm B' C)).2.2 C ⟨A, rfl⟩ ⟨B', rfl⟩), degZ_zero]
  go_wp2_with fail
  refine (degV P0 (by decide)).mono ?_
  rintro e w' ⟨rfl, rfl⟩
  go_wp2_with fail
  go_ret
  exact ⟨rfl, B⟩
set_option maxRecDepth 100000 in
set_option maxHeartbeats 8000000 in
theorem core1 (a0 : Option Addr) (n0 c0 : Nat) (a1 : Option Addr) (n1 c1 : Nat) (a2 : Option Addr) (n2 c2 : Nat) (A B' C : Nat) (w : World) (p q : Addr) (E : ErrAt w 2 p) (E1 : ErrAt w 0 q) (P0 : PolV w 3 a0 n0 c0 A) (P1 : PolV w 3 a1 n1 c1 B') (P2 : PolV w 3 a2 n2 c2 C) (k0 : n0 ≤ 3) (k1 : n1 ≤ 3) (k2 : n2 ≤ 3) (hC : C ≠ 0) (hA : A ≠ 0) (hB : B' ≠ 0) (g1 : 2 ≤ A) (g2 : B' < 2) :
    Calls Tryd.prog 6 #[.slice a0 n0 c0, .slice a1 n1 c1, .slice a2 n2 c2] w fun e w' => e = .returned (.bool true) ∧ Below w.heap.size w w' := by
  have t0 : decide ((3 : Int) < (n0 : Int)) = false := decide_eq_false (by omega)
  have t1 : decide ((3 : Int) < (n1 : Int)) = false := decide_eq_false (by omega)
  have t2 : decide ((3 : Int) < (n2 : Int)) = false := decide_eq_false (by omega)
  have lC := degZ_room P2.lt
  have gC0 : 0 ≤ degZ C := by rw [degZ_ne hC]; omega
  have tC : decide (degZ C < 0) = false := decide_eq_false (by omega)
  have HC := Lib.hid hC
  have lA := degZ_room P0.lt
  have gA0 : 0 ≤ degZ A := by rw [degZ_ne hA]; omega
  have tA : decide (degZ A < 0) = false := decide_eq_false (by omega)
  have HA := Lib.hid hA
  have lB := degZ_room P1.lt
  have gB0 : 0 ≤ degZ B' := by rw [degZ_ne hB]; omega
  have tB : decide (degZ B' < 0) = false := decide_eq_false (by omega)
  have HB := Lib.hid hB
  have s1 : decide (degZ A < 1) = false := by rw [degZ_ne hA]; exact decide_eq_false (by have := (Nat.le_log2 hA (k := 1)).2 g1; omega)
  have s2 : decide (degZ B' < 1) = true := by rw [show B' = 1 by omega]; rfl
  clear hC hA hB lC lA lB g1 g2
  go_enter Tryd.func6, Tryd.ntmps6
  go_wp2_with fail
  refine (first_any w p E).mono ?_
  rintro e w1 ⟨rfl, B⟩
  replace P0 := P0.below B
  replace P1 := P1.below B
  replace P2 := P2.below B
  have E2 := E1.below B
  clear E E1
  go_wp2_with fail
  refine (degV P2 (by decide)).mono ?_
  rintro e w' ⟨rfl, rfl⟩
  go_wp2_with fail
  refine (degV P0 (by decide)).mono ?_
  rintro e w' ⟨rfl, rfl⟩
  go_wp2_with fail
  refine (degV P1 (by decide)).mono ?_
  rintro e w' ⟨rfl, rfl⟩
  clear t0 t1 t2 tA tB tC
  go_wp2_with fail
  refine (mulV 6 P0 P2 (by decide) (by decide) (by decide)).mono ?_
  rintro e w2 ⟨a_x, n_x, c_x, rfl, h, b⟩
  replace P0 := P0.below b
  replace P1 := P1.below b
  replace P2 := P2.below b
  replace E2 := E2.below b
  replace B := B.trans (b.mono B.size)
  have Px := h.pol
  clear h b
  go_wp2_with fail
  refine (mulV 6 P1 P2 (by decide) (by decide) (by decide)).mono ?_
  rintro e w3 ⟨a_y, n_y, c_y, rfl, h, b⟩
  replace P0 := P0.below b
  replace P1 := P1.below b
  replace P2 := P2.below b
  replace Px := Px.below b
  replace E2 := E2.below b
  replace B := B.trans (b.mono B.size)
  have Py := h.pol
  clear h b
  go_wp2_with fail
  refine (gcdV 6 Px Py (by decide) (by decide) (by decide)).mono ?_
  rintro e w4 ⟨a_g, n_g, c_g, rfl, h, b⟩
  replace P0 := P0.below b
  replace P1 := P1.below b
  replace P2 := P2.below b
  replace Px := Px.below b
  replace Py := Py.below b
  replace E2 := E2.below b
  replace B := B.trans (b.mono B.size)
  have Pg := h.pol
  clear h b
  go_wp2_with fail
  refine (divV 6 Pg P2 (by decide) (by decide) (by decide) HC.out).mono ?_
  rintro e w5 ⟨a_qq, n_qq, c_qq, a_m, n_m, c_m, Qqq, Rm, rfl, h, h2, hd, b⟩
  replace P0 := P0.below b
  replace P1 := P1.below b
  replace P2 := P2.below b
  replace Px := Px.below b
  replace Py := Py.below b
  replace Pg := Pg.below b
  replace E2 := E2.below b
  replace B := B.trans (b.mono B.size)
  have Pqq := h.pol
  have Pm := h2.pol
  have HDm := Lib.hid hd
  clear h h2 b hd
  go_wp2_with fail
  refine (mulV 6 P0 P1 (by decide) (by decide) (by decide)).mono ?_
  rintro e w6 ⟨a_pr, n_pr, c_pr, rfl, h, b⟩
  replace P0 := P0.below b
  replace P1 := P1.below b
  replace P2 := P2.below b
  replace Px := Px.below b
  replace Py := Py.below b
  replace Pg := Pg.below b
  replace Pqq := Pqq.below b
  replace Pm := Pm.below b
  replace E2 := E2.below b
  replace B := B.trans (b.mono B.size)
  have Ppr := h.pol
  clear h b
  go_wp2_with fail
  refine (degV Pm (by decide)).mono ?_
  rintro e w' ⟨rfl, rfl⟩
  rw [(IsDiv.zero_iff HC.out HDm.out).2 ((pgcd_is (pm A C) (pm B' C)).2.2 C ⟨A, rfl⟩ ⟨B', rfl⟩), degZ_zero]
  go_wp2_with fail
  refine (degV P0 (by decide)).mono ?_
  rintro e w' ⟨rfl, rfl⟩
  go_wp2_with fail
  refine (degV P1 (by decide)).mono ?_
  rintro e w' ⟨rfl, rfl⟩
  go_wp2_with fail
  go_ret
  exact ⟨rfl, B⟩
set_option maxRecDepth 100000 in
set_option maxHeartbeats 8000000 in
theorem core2 (a0 : Option Addr) (n0 c0 : Nat) (a1 : Option Addr) (n1 c1 : Nat) (a2 : Option Addr) (n2 c2 : Nat) (A B' C : Nat) (w : World) (p q : Addr) (E : ErrAt w 2 p) (E1 : ErrAt w 0 q) (P0 : PolV w 3 a0 n0 c0 A) (P1 : PolV w 3 a1 n1 c1 B') (P2 : PolV w 3 a2 n2 c2 C) (k0 : n0 ≤ 3) (k1 : n1 ≤ 3) (k2 : n2 ≤ 3) (hC : C ≠ 0) (hA : A ≠ 0) (hB : B' ≠ 0) (g1 : 2 ≤ A) (g2 : 2 ≤ B') :
    Calls Tryd.prog 6 #[.slice a0 n0 c0, .slice a1 n1 c1, .slice a2 n2 c2] w fun e w' => e = .returned (.bool true) ∧ Below w.heap.size w w' := by
  have t0 : decide ((3 : Int) < (n0 : Int)) = false := decide_eq_false (by omega)
  have t1 : decide ((3 : Int) < (n1 : Int)) = false := decide_eq_false (by omega)
  have t2 : decide ((3 : Int) < (n2 : Int)) = false := decide_eq_false (by omega)
  have lC := degZ_room P2.lt
  have gC0 : 0 ≤ degZ C := by rw [degZ_ne hC]; omega
  have tC : decide (degZ C < 0) = false := decide_eq_false (by omega)
  have HC := Lib.hid hC
  have lA := degZ_room P0.lt
  have gA0 : 0 ≤ degZ A := by rw [degZ_ne hA]; omega
  have tA : decide (degZ A < 0) = false := decide_eq_false (by omega)
  have HA := Lib.hid hA
  have lB := degZ_room P1.lt
  have gB0 : 0 ≤ degZ B' := by rw [degZ_ne hB]; omega
  have tB : decide (degZ B' < 0) = false := decide_eq_false (by omega)
  have HB := Lib.hid hB
  have s1 : decide (degZ A < 1) = false := by rw [degZ_ne hA]; exact decide_eq_false (by have := (Nat.le_log2 hA (k := 1)).2 g1; omega)
  have s2 : decide (degZ B' < 1) = false := by rw [degZ_ne hB]; exact decide_eq_false (by have := (Nat.le_log2 hB (k := 1)).2 g2; omega)
  have HI := Lib.hid (irrC_product g1 g2)
  clear hC hA hB lC lA lB g1 g2
  go_enter Tryd.func6, Tryd.ntmps6
  go_wp2_with fail
  refine (first_any w p E).mono ?_
  rintro e w1 ⟨rfl, B⟩
  replace P0 := P0.below B
  replace P1 := P1.below B
  replace P2 := P2.below B
  have E2 := E1.below B
  clear E E1
  go_wp2_with fail
  refine (degV P2 (by decide)).mono ?_
  rintro e w' ⟨rfl, rfl⟩
  go_wp2_with fail
  refine (degV P0 (by decide)).mono ?_
  rintro e w' ⟨rfl, rfl⟩
  go_wp2_with fail
  refine (degV P1 (by decide)).mono ?_
  rintro e w' ⟨rfl, rfl⟩
  clear t0 t1 t2 tA tB tC
  go_wp2_with fail
  refine (mulV 6 P0 P2 (by decide) (by decide) (by decide)).mono ?_
  rintro e w2 ⟨a_x, n_x, c_x, rfl, h, b⟩
  replace P0 := P0.below b
  replace P1 := P1.below b
  replace P2 := P2.below b
  replace E2 := E2.below b
  replace B := B.trans (b.mono B.size)
  have Px := h.pol
  clear h b
  go_wp2_with fail
  refine (mulV 6 P1 P2 (by decide) (by decide) (by decide)).mono ?_
  rintro e w3 ⟨a_y, n_y, c_y, rfl, h, b⟩
  replace P0 := P0.below b
  replace P1 := P1.below b
  replace P2 := P2.below b
  replace Px := Px.below b
  replace E2 := E2.below b
  replace B := B.trans (b.mono B.size)
  have Py := h.pol
  clear h b
  go_wp2_with fail
  refine (gcdV 6 Px Py (by decide) (by decide) (by decide)).mono ?_
  rintro e w4 ⟨a_g, n_g, c_g, rfl, h, b⟩
  replace P0 := P0.below b
  replace P1 := P1.below b
  replace P2 := P2.below b
  replace Px := Px.below b
  replace Py := Py.below b
  replace E2 := E2.below b
  replace B := B.trans (b.mono B.size)
  have Pg := h.pol
  clear h b
  go_wp2_with fail
  refine (divV 6 Pg P2 (by decide) (by decide) (by decide) HC.out).mono ?_
  rintro e w5 ⟨a_qq, n_qq, c_qq, a_m, n_m, c_m, Qqq, Rm, rfl, h, h2, hd, b⟩
  replace P0 := P0.below b
  replace P1 := P1.below b
  replace P2 := P2.below b
  replace Px := Px.below b
  replace Py := Py.below b
  replace Pg := Pg.below b
  replace E2 := E2.below b
  replace B := B.trans (b.mono B.size)
  have Pqq := h.pol
  have Pm := h2.pol
  have HDm := Lib.hid hd
  clear h h2 b hd
  go_wp2_with fail
  refine (mulV 6 P0 P1 (by decide) (by decide) (by decide)).mono ?_
  rintro e w6 ⟨a_pr, n_pr, c_pr, rfl, h, b⟩
  replace P0 := P0.below b
  replace P1 := P1.below b
  replace P2 := P2.below b
  replace Px := Px.below b
  replace Py := Py.below b
  replace Pg := Pg.below b
  replace Pqq := Pqq.below b
  replace Pm := Pm.below b
  replace E2 := E2.below b
  replace B := B.trans (b.mono B.size)
  have Ppr := h.pol
  clear h b
  go_wp2_with fail
  refine (degV Pm (by decide)).mono ?_
  rintro e w' ⟨rfl, rfl⟩
  rw [(IsDiv.zero_iff HC.out HDm.out).2 ((pgcd_is (pm A C) (pm B' C)).2.2 C ⟨A, rfl⟩ ⟨B', rfl⟩), degZ_zero]
  go_wp2_with fail
  refine (degV P0 (by decide)).mono ?_
  rintro e w' ⟨rfl, rfl⟩
  go_wp2_with fail
  refine (degV P1 (by decide)).mono ?_
  rintro e w' ⟨rfl, rfl⟩
  go_wp2_with fail
  refine (irrV Ppr (by decide)).mono ?_
  rintro e w' ⟨rfl, rfl⟩
  rw [HI.out]
  go_wp2_with fail
  go_ret
  exact ⟨rfl, B⟩
theorem walk (a0 : Option Addr) (len0 cap0 : Nat) (z0 : List Int) (a1 : Option Addr) (len1 cap1 : Nat) (z1 : List Int) (a2 : Option Addr) (len2 cap2 : Nat) (z2 : List Int) (W : World) (w0 : IsRow .u8 W a0 len0 cap0 z0) (w1 : IsRow .u8 W a1 len1 cap1 z1) (w2 : IsRow .u8 W a2 len2 cap2 z2) (h : LaidBinDivides.Holds W) :
    Calls Tryd.prog 6 #[.slice a0 len0 cap0, .slice a1 len1 cap1, .slice a2 len2 cap2] W fun e w' => e = .returned (.bool true) ∧ Below W.heap.size W w' := by
  obtain ⟨f, ⟨E0, E1, E2⟩, _⟩ := h
  by_cases k0 : len0 ≤ 3
  · by_cases k1 : len1 ≤ 3
    · by_cases k2 : len2 ≤ 3
      · obtain ⟨A, PA⟩ := row_polV w0 3 k0
        obtain ⟨B', PB⟩ := row_polV w1 3 k1
        obtain ⟨C, PC⟩ := row_polV w2 3 k2
        by_cases hC : C = 0
        · exact coreC _ _ _ _ _ _ _ _ _ A B' C W _ _ E0 E1 PA PB PC k0 k1 k2 hC
        · by_cases hA : A = 0
          · exact coreA _ _ _ _ _ _ _ _ _ A B' C W _ _ E0 E1 PA PB PC k0 k1 k2 hC hA
          · by_cases hB : B' = 0
            · exact coreB _ _ _ _ _ _ _ _ _ A B' C W _ _ E0 E1 PA PB PC k0 k1 k2 hC hA hB
            · by_cases g1 : A < 2
              · exact core0 _ _ _ _ _ _ _ _ _ A B' C W _ _ E0 E1 PA PB PC k0 k1 k2 hC hA hB g1
              · by_cases g2 : B' < 2
                · exact core1 _ _ _ _ _ _ _ _ _ A B' C W _ _ E0 E1 PA PB PC k0 k1 k2 hC hA hB (by omega) g2
                · exact core2 _ _ _ _ _ _ _ _ _ A B' C W _ _ E0 E1 PA PB PC k0 k1 k2 hC hA hB (by omega) (by omega)
      · exact long _ _ _ _ _ _ _ _ _ W _ E0 (by omega)
    · exact long _ _ _ _ _ _ _ _ _ W _ E0 (by omega)
  · exact long _ _ _ _ _ _ _ _ _ W _ E0 (by omega)
end Go.Proofs.YtcdhjmmkeiomaaaDoor.walkBinDivides
