/- The walk over BinRing. By the verifier of shale. -/
import Derived.Test.YtcdhjmmkeiomaaaDoorBinV
import Derived.Test.YtcdhjmmkeiomaaaDoorLaidBinRing
namespace Go.Proofs.YtcdhjmmkeiomaaaDoor.walkBinRing
open Go Go.RowKit Bin
set_option linter.unusedVariables false
theorem wrap_wide {z : Int} (h1 : -1 ≤ z) (h2 : z ≤ 10000) : wrap64 z = z := IntWalk.wrap64_in _ (by omega)
set_option maxRecDepth 100000 in
set_option maxHeartbeats 1000000 in
theorem long (a0 : Option Addr) (n0 c0 : Nat) (a1 : Option Addr) (n1 c1 : Nat) (a2 : Option Addr) (n2 c2 : Nat) (w : World) (p : Addr) (E : ErrAt w 2 p) (h : 40 < n0 ∨ 40 < n1 ∨ 40 < n2) :
    Calls Tryd.prog 5 #[.slice a0 n0 c0, .slice a1 n1 c1, .slice a2 n2 c2] w fun e w' => e = .returned (.bool true) ∧ Below w.heap.size w w' := by
  have t : decide ((40 : Int) < (n0 : Int)) = true ∨ (decide ((40 : Int) < (n0 : Int)) = false ∧ decide ((40 : Int) < (n1 : Int)) = true) ∨ (decide ((40 : Int) < (n0 : Int)) = false ∧ decide ((40 : Int) < (n1 : Int)) = false ∧ decide ((40 : Int) < (n2 : Int)) = true) := by
    by_cases h0 : 40 < n0
    · exact Or.inl (decide_eq_true (by omega))
    · by_cases h1 : 40 < n1
      · exact Or.inr (Or.inl ⟨decide_eq_false (by omega), decide_eq_true (by omega)⟩)
      · exact Or.inr (Or.inr ⟨decide_eq_false (by omega), decide_eq_false (by omega), decide_eq_true (by omega)⟩)
  clear h
  rcases t with t | ⟨t, t2⟩ | ⟨t, t2, t3⟩
  all_goals
    go_enter Tryd.func5, Tryd.ntmps5
    go_wp2_with fail
    refine (first_any w p E).mono ?_
    rintro e w1 ⟨rfl, b1⟩
    clear E
    go_wp2_with fail
    go_ret
    exact ⟨rfl, b1⟩
set_option maxRecDepth 100000 in
set_option maxHeartbeats 8000000 in
theorem core00 (a0 : Option Addr) (n0 c0 : Nat) (a1 : Option Addr) (n1 c1 : Nat) (a2 : Option Addr) (n2 c2 : Nat) (A B' C : Nat) (w : World) (p q : Addr) (E : ErrAt w 2 p) (E1 : ErrAt w 0 q) (P0 : PolV w 40 a0 n0 c0 A) (P1 : PolV w 40 a1 n1 c1 B') (P2 : PolV w 40 a2 n2 c2 C) (k0 : n0 ≤ 40) (k1 : n1 ≤ 40) (k2 : n2 ≤ 40) (hA : A = 0) (hB : B' = 0) :
    Calls Tryd.prog 5 #[.slice a0 n0 c0, .slice a1 n1 c1, .slice a2 n2 c2] w fun e w' => e = .returned (.bool true) ∧ Below w.heap.size w w' := by
  have t0 : decide ((40 : Int) < (n0 : Int)) = false := decide_eq_false (by omega)
  have t1 : decide ((40 : Int) < (n1 : Int)) = false := decide_eq_false (by omega)
  have t2 : decide ((40 : Int) < (n2 : Int)) = false := decide_eq_false (by omega)
  have lA := degZ_room P0.lt
  have lB := degZ_room P1.lt
  have eA : degZ A = -1 := by rw [hA]; rfl
  have eB : degZ B' = -1 := by rw [hB]; rfl
  have HA := Lib.hid hA
  have HB := Lib.hid hB
  clear hA hB lA lB
  have HEA := Lib.hid eA
  clear eA
  have HEB := Lib.hid eB
  clear eB
  go_enter Tryd.func5, Tryd.ntmps5
  go_wp2_with fail
  refine (first_any w p E).mono ?_
  rintro e w1 ⟨rfl, B⟩
  replace P0 := P0.below B
  replace P1 := P1.below B
  replace P2 := P2.below B
  have E2 := E1.below B
  clear E E1
  go_wp2_with fail
  refine (mulV 80 P0 P1 (by decide) (by decide) (by decide)).mono ?_
  rintro e w2 ⟨a_ab, n_ab, c_ab, rfl, h, b⟩
  replace P0 := P0.below b
  replace P1 := P1.below b
  replace P2 := P2.below b
  replace E2 := E2.below b
  replace B := B.trans (b.mono B.size)
  have Pab := h.pol
  clear h b
  go_wp2_with fail
  refine (mulV 80 P1 P0 (by decide) (by decide) (by decide)).mono ?_
  rintro e w3 ⟨a_ba, n_ba, c_ba, rfl, h, b⟩
  replace P0 := P0.below b
  replace P1 := P1.below b
  replace P2 := P2.below b
  replace Pab := Pab.below b
  replace E2 := E2.below b
  replace B := B.trans (b.mono B.size)
  have Pba := h.pol
  clear h b
  go_wp2_with fail
  refine (mulV 80 P0 P2 (by decide) (by decide) (by decide)).mono ?_
  rintro e w4 ⟨a_ac, n_ac, c_ac, rfl, h, b⟩
  replace P0 := P0.below b
  replace P1 := P1.below b
  replace P2 := P2.below b
  replace Pab := Pab.below b
  replace Pba := Pba.below b
  replace E2 := E2.below b
  replace B := B.trans (b.mono B.size)
  have Pac := h.pol
  clear h b
  go_wp2_with fail
  refine (addV 40 P1 P2 (by decide) (by decide) (by decide)).mono ?_
  rintro e w5 ⟨a_bc, n_bc, c_bc, rfl, h, b⟩
  replace P0 := P0.below b
  replace P1 := P1.below b
  replace P2 := P2.below b
  replace Pab := Pab.below b
  replace Pba := Pba.below b
  replace Pac := Pac.below b
  replace E2 := E2.below b
  replace B := B.trans (b.mono B.size)
  have Pbc := h.pol
  clear h b
  go_wp2_with fail
  refine (mulV 80 P0 Pbc (by decide) (by decide) (by decide)).mono ?_
  rintro e w6 ⟨a_l, n_l, c_l, rfl, h, b⟩
  replace P0 := P0.below b
  replace P1 := P1.below b
  replace P2 := P2.below b
  replace Pab := Pab.below b
  replace Pba := Pba.below b
  replace Pac := Pac.below b
  replace Pbc := Pbc.below b
  replace E2 := E2.below b
  replace B := B.trans (b.mono B.size)
  have Pl := h.pol
  clear h b
  clear t0 t1 t2
  go_wp2_with fail
  refine (sameV Pab Pba).mono ?_
  rintro e w' ⟨rfl, rfl⟩
  rw [decide_eq_true (pm_comm B' A)]
  go_wp2_with fail
  refine (addV 80 Pab Pac (by decide) (by decide) (by decide)).mono ?_
  rintro e w7 ⟨a_t, n_t, c_t, rfl, h, b⟩
  replace P0 := P0.below b
  replace P1 := P1.below b
  replace P2 := P2.below b
  replace Pab := Pab.below b
  replace Pba := Pba.below b
  replace Pac := Pac.below b
  replace Pbc := Pbc.below b
  replace Pl := Pl.below b
  replace E2 := E2.below b
  replace B := B.trans (b.mono B.size)
  have Pt := h.pol
  clear h b
  go_wp2_with fail
  refine (sameV Pl Pt).mono ?_
  rintro e w' ⟨rfl, rfl⟩
  rw [decide_eq_true (pm_xor_right A B' C)]
  clear Pba Pac Pbc Pl Pt
  go_wp2_with fail
  refine (addV 40 P0 P0 (by decide) (by decide) (by decide)).mono ?_
  rintro e w8 ⟨a_u, n_u, c_u, rfl, h, b⟩
  replace P0 := P0.below b
  replace P1 := P1.below b
  replace P2 := P2.below b
  replace Pab := Pab.below b
  replace E2 := E2.below b
  replace B := B.trans (b.mono B.size)
  have Pu := h.pol
  clear h b
  go_wp2_with fail
  refine (degV Pu (by decide)).mono ?_
  rintro e w' ⟨rfl, rfl⟩
  rw [Nat.xor_self, degZ_zero]
  go_wp2_with fail
  refine (addV 40 P0 P1 (by decide) (by decide) (by decide)).mono ?_
  rintro e w9 ⟨a_v, n_v, c_v, rfl, h, b⟩
  replace P0 := P0.below b
  replace P1 := P1.below b
  replace P2 := P2.below b
  replace Pab := Pab.below b
  replace Pu := Pu.below b
  replace E2 := E2.below b
  replace B := B.trans (b.mono B.size)
  have Pv := h.pol
  clear h b
  go_wp2_with fail
  refine (addV 40 P1 P0 (by decide) (by decide) (by decide)).mono ?_
  rintro e w10 ⟨a_x, n_x, c_x, rfl, h, b⟩
  replace P0 := P0.below b
  replace P1 := P1.below b
  replace P2 := P2.below b
  replace Pab := Pab.below b
  replace Pu := Pu.below b
  replace Pv := Pv.below b
  replace E2 := E2.below b
  replace B := B.trans (b.mono B.size)
  have Px := h.pol
  clear h b
  go_wp2_with fail
  refine (sameV Pv Px).mono ?_
  rintro e w' ⟨rfl, rfl⟩
  rw [decide_eq_true (Nat.xor_comm A B')]
  clear Pu Pv Px
  go_wp2_with fail
  refine (degV P0 (by decide)).mono ?_
  rintro e w' ⟨rfl, rfl⟩
  rw [HEA.out]
  go_wp2_with fail
  have HBZ : B' = 0 := HB.out
  have HP1 : PolV w10 40 a1 n1 c1 0 := by rw [HBZ] at P1; exact P1
  clear HBZ
  refine (divZ (k := 40) HP1 (by decide) q E2).mono ?_
  rintro e w11 ⟨rfl, d⟩
  replace P1 := P1.drawn d
  replace B := B.trans (d.below _)
  have e3 := (E2.drawn d).1
  unfold Sent at e3
  have q1 := eql_err q
  clear d
  go_wp2_with fail
  refine (degV P1 (by decide)).mono ?_
  rintro e w' ⟨rfl, rfl⟩
  rw [HEB.out]
  go_wp2_with fail
  go_ret
  exact ⟨rfl, B⟩
set_option maxRecDepth 100000 in
set_option maxHeartbeats 8000000 in
theorem core01 (a0 : Option Addr) (n0 c0 : Nat) (a1 : Option Addr) (n1 c1 : Nat) (a2 : Option Addr) (n2 c2 : Nat) (A B' C : Nat) (w : World) (p q : Addr) (E : ErrAt w 2 p) (E1 : ErrAt w 0 q) (P0 : PolV w 40 a0 n0 c0 A) (P1 : PolV w 40 a1 n1 c1 B') (P2 : PolV w 40 a2 n2 c2 C) (k0 : n0 ≤ 40) (k1 : n1 ≤ 40) (k2 : n2 ≤ 40) (hA : A = 0) (hB : B' ≠ 0) :
    Calls Tryd.prog 5 #[.slice a0 n0 c0, .slice a1 n1 c1, .slice a2 n2 c2] w fun e w' => e = .returned (.bool true) ∧ Below w.heap.size w w' := by
  have t0 : decide ((40 : Int) < (n0 : Int)) = false := decide_eq_false (by omega)
  have t1 : decide ((40 : Int) < (n1 : Int)) = false := decide_eq_false (by omega)
  have t2 : decide ((40 : Int) < (n2 : Int)) = false := decide_eq_false (by omega)
  have lA := degZ_room P0.lt
  have lB := degZ_room P1.lt
  have eA : degZ A = -1 := by rw [hA]; rfl
  have gB : 0 ≤ degZ B' ∧ degZ B' < 320 := by rw [degZ_ne hB] at lB ⊢; omega
  obtain ⟨gB0, gB1⟩ := gB
  have tB : decide (0 ≤ degZ B') = true := decide_eq_true gB0
  have tB2 : decide (degZ B' < 0) = false := decide_eq_false (by omega)
  have HA := Lib.hid hA
  have HB := Lib.hid hB
  clear hA hB lA lB
  have HEA := Lib.hid eA
  clear eA
  go_enter Tryd.func5, Tryd.ntmps5
  go_wp2_with fail
  refine (first_any w p E).mono ?_
  rintro e w1 ⟨rfl, B⟩
  replace P0 := P0.below B
  replace P1 := P1.below B
  replace P2 := P2.below B
  have E2 := E1.below B
  clear E E1
  go_wp2_with fail
  refine (mulV 80 P0 P1 (by decide) (by decide) (by decide)).mono ?_
  rintro e w2 ⟨a_ab, n_ab, c_ab, rfl, h, b⟩
  replace P0 := P0.below b
  replace P1 := P1.below b
  replace P2 := P2.below b
  replace E2 := E2.below b
  replace B := B.trans (b.mono B.size)
  have Pab := h.pol
  clear h b
  go_wp2_with fail
  refine (mulV 80 P1 P0 (by decide) (by decide) (by decide)).mono ?_
  rintro e w3 ⟨a_ba, n_ba, c_ba, rfl, h, b⟩
  replace P0 := P0.below b
  replace P1 := P1.below b
  replace P2 := P2.below b
  replace Pab := Pab.below b
  replace E2 := E2.below b
  replace B := B.trans (b.mono B.size)
  have Pba := h.pol
  clear h b
  go_wp2_with fail
  refine (mulV 80 P0 P2 (by decide) (by decide) (by decide)).mono ?_
  rintro e w4 ⟨a_ac, n_ac, c_ac, rfl, h, b⟩
  replace P0 := P0.below b
  replace P1 := P1.below b
  replace P2 := P2.below b
  replace Pab := Pab.below b
  replace Pba := Pba.below b
  replace E2 := E2.below b
  replace B := B.trans (b.mono B.size)
  have Pac := h.pol
  clear h b
  go_wp2_with fail
  refine (addV 40 P1 P2 (by decide) (by decide) (by decide)).mono ?_
  rintro e w5 ⟨a_bc, n_bc, c_bc, rfl, h, b⟩
  replace P0 := P0.below b
  replace P1 := P1.below b
  replace P2 := P2.below b
  replace Pab := Pab.below b
  replace Pba := Pba.below b
  replace Pac := Pac.below b
  replace E2 := E2.below b
  replace B := B.trans (b.mono B.size)
  have Pbc := h.pol
  clear h b
  go_wp2_with fail
  refine (mulV 80 P0 Pbc (by decide) (by decide) (by decide)).mono ?_
  rintro e w6 ⟨a_l, n_l, c_l, rfl, h, b⟩
  replace P0 := P0.below b
  replace P1 := P1.below b
  replace P2 := P2.below b
  replace Pab := Pab.below b
  replace Pba := Pba.below b
  replace Pac := Pac.below b
  replace Pbc := Pbc.below b
  replace E2 := E2.below b
  replace B := B.trans (b.mono B.size)
  have Pl := h.pol
  clear h b
  clear t0 t1 t2
  go_wp2_with fail
  refine (sameV Pab Pba).mono ?_
  rintro e w' ⟨rfl, rfl⟩
  rw [decide_eq_true (pm_comm B' A)]
  go_wp2_with fail
  refine (addV 80 Pab Pac (by decide) (by decide) (by decide)).mono ?_
  rintro e w7 ⟨a_t, n_t, c_t, rfl, h, b⟩
  replace P0 := P0.below b
  replace P1 := P1.below b
  replace P2 := P2.below b
  replace Pab := Pab.below b
  replace Pba := Pba.below b
  replace Pac := Pac.below b
  replace Pbc := Pbc.below b
  replace Pl := Pl.below b
  replace E2 := E2.below b
  replace B := B.trans (b.mono B.size)
  have Pt := h.pol
  clear h b
  go_wp2_with fail
  refine (sameV Pl Pt).mono ?_
  rintro e w' ⟨rfl, rfl⟩
  rw [decide_eq_true (pm_xor_right A B' C)]
  clear Pba Pac Pbc Pl Pt
  go_wp2_with fail
  refine (addV 40 P0 P0 (by decide) (by decide) (by decide)).mono ?_
  rintro e w8 ⟨a_u, n_u, c_u, rfl, h, b⟩
  replace P0 := P0.below b
  replace P1 := P1.below b
  replace P2 := P2.below b
  replace Pab := Pab.below b
  replace E2 := E2.below b
  replace B := B.trans (b.mono B.size)
  have Pu := h.pol
  clear h b
  go_wp2_with fail
  refine (degV Pu (by decide)).mono ?_
  rintro e w' ⟨rfl, rfl⟩
  rw [Nat.xor_self, degZ_zero]
  go_wp2_with fail
  refine (addV 40 P0 P1 (by decide) (by decide) (by decide)).mono ?_
  rintro e w9 ⟨a_v, n_v, c_v, rfl, h, b⟩
  replace P0 := P0.below b
  replace P1 := P1.below b
  replace P2 := P2.below b
  replace Pab := Pab.below b
  replace Pu := Pu.below b
  replace E2 := E2.below b
  replace B := B.trans (b.mono B.size)
  have Pv := h.pol
  clear h b
  go_wp2_with fail
  refine (addV 40 P1 P0 (by decide) (by decide) (by decide)).mono ?_
  rintro e w10 ⟨a_x, n_x, c_x, rfl, h, b⟩
  replace P0 := P0.below b
  replace P1 := P1.below b
  replace P2 := P2.below b
  replace Pab := Pab.below b
  replace Pu := Pu.below b
  replace Pv := Pv.below b
  replace E2 := E2.below b
  replace B := B.trans (b.mono B.size)
  have Px := h.pol
  clear h b
  go_wp2_with fail
  refine (sameV Pv Px).mono ?_
  rintro e w' ⟨rfl, rfl⟩
  rw [decide_eq_true (Nat.xor_comm A B')]
  clear Pu Pv Px
  go_wp2_with fail
  refine (degV P0 (by decide)).mono ?_
  rintro e w' ⟨rfl, rfl⟩
  rw [HEA.out]
  go_wp2_with fail
  refine (divV 40 P0 P1 (by decide) (by decide) (by decide) HB.out).mono ?_
  rintro e w11 ⟨a_d, n_d, c_d, a_m, n_m, c_m, Qd, Rm, rfl, h, h2, hd, b⟩
  replace P0 := P0.below b
  replace P1 := P1.below b
  replace P2 := P2.below b
  replace Pab := Pab.below b
  replace E2 := E2.below b
  replace B := B.trans (b.mono B.size)
  have Pd := h.pol
  have Pm := h2.pol
  have HDm := Lib.hid hd
  clear h h2 b hd
  go_wp2_with fail
  refine (degV P1 (by decide)).mono ?_
  rintro e w' ⟨rfl, rfl⟩
  go_wp2_with fail
  refine (mulV 80 Pd P1 (by decide) (by decide) (by decide)).mono ?_
  rintro e w12 ⟨a_k, n_k, c_k, rfl, h, b⟩
  replace P0 := P0.below b
  replace P1 := P1.below b
  replace P2 := P2.below b
  replace Pab := Pab.below b
  replace Pd := Pd.below b
  replace Pm := Pm.below b
  replace E2 := E2.below b
  replace B := B.trans (b.mono B.size)
  have Pk := h.pol
  clear h b
  go_wp2_with fail
  refine (gcdV 40 P0 P1 (by decide) (by decide) (by decide)).mono ?_
  rintro e w13 ⟨a_g, n_g, c_g, rfl, h, b⟩
  replace P0 := P0.below b
  replace P1 := P1.below b
  replace P2 := P2.below b
  replace Pab := Pab.below b
  replace Pd := Pd.below b
  replace Pm := Pm.below b
  replace Pk := Pk.below b
  replace E2 := E2.below b
  replace B := B.trans (b.mono B.size)
  have Pg := h.pol
  clear h b
  have HG : Hid (pgcd A B' ≠ 0) := fun h => HB.out (by obtain ⟨x, hx⟩ := (pgcd_is A B').2.1; rw [h, pm_zero] at hx; exact hx)
  go_wp2_with fail
  refine (divV 40 P0 Pg (by decide) (by decide) (by decide) HG.out).mono ?_
  rintro e w14 ⟨a_xq, n_xq, c_xq, a_x, n_x, c_x, Qxq, Rx, rfl, h, h2, hd, b⟩
  replace P0 := P0.below b
  replace P1 := P1.below b
  replace P2 := P2.below b
  replace Pab := Pab.below b
  replace Pd := Pd.below b
  replace Pm := Pm.below b
  replace Pk := Pk.below b
  replace Pg := Pg.below b
  replace E2 := E2.below b
  replace B := B.trans (b.mono B.size)
  have Pxq := h.pol
  have Px := h2.pol
  have HDx := Lib.hid hd
  clear h h2 b hd
  go_wp2_with fail
  refine (divV 40 P1 Pg (by decide) (by decide) (by decide) HG.out).mono ?_
  rintro e w15 ⟨a_yq, n_yq, c_yq, a_y, n_y, c_y, Qyq, Ry, rfl, h, h2, hd, b⟩
  replace P0 := P0.below b
  replace P1 := P1.below b
  replace P2 := P2.below b
  replace Pab := Pab.below b
  replace Pd := Pd.below b
  replace Pm := Pm.below b
  replace Pk := Pk.below b
  replace Pg := Pg.below b
  replace Pxq := Pxq.below b
  replace Px := Px.below b
  replace E2 := E2.below b
  replace B := B.trans (b.mono B.size)
  have Pyq := h.pol
  have Py := h2.pol
  have HDy := Lib.hid hd
  clear h h2 b hd
  clear Pxq
  clear Pyq
  clear Pg
  clear Pd
  clear P2
  have tm : decide (degZ Rm < degZ B') = true := decide_eq_true (degZ_rest HDm.out HB.out)
  have hm : -1 ≤ degZ Rm := by unfold degZ; split <;> omega
  go_wp2_with fail
  refine (degV Pm (by decide)).mono ?_
  rintro e w' ⟨rfl, rfl⟩
  go_wp2_with fail
  refine (degV P1 (by decide)).mono ?_
  rintro e w' ⟨rfl, rfl⟩
  go_wp2_with fail
  refine (addV 80 Pk Pm (by decide) (by decide) (by decide)).mono ?_
  rintro e w16 ⟨a_s, n_s, c_s, rfl, h, b⟩
  replace P0 := P0.below b
  replace P1 := P1.below b
  replace Pab := Pab.below b
  replace Pm := Pm.below b
  replace Pk := Pk.below b
  replace Px := Px.below b
  replace Py := Py.below b
  replace E2 := E2.below b
  replace B := B.trans (b.mono B.size)
  have Ps := h.pol
  clear h b
  go_wp2_with fail
  refine (sameV Ps P0).mono ?_
  rintro e w' ⟨rfl, rfl⟩
  rw [decide_eq_true (HDm.out.1.symm)]
  clear tm hm
  go_wp2_with fail
  refine (degV Px (by decide)).mono ?_
  rintro e w' ⟨rfl, rfl⟩
  rw [(IsDiv.zero_iff HG.out HDx.out).2 (pgcd_is A B').1, degZ_zero]
  go_wp2_with fail
  refine (degV Py (by decide)).mono ?_
  rintro e w' ⟨rfl, rfl⟩
  rw [(IsDiv.zero_iff HG.out HDy.out).2 (pgcd_is A B').2.1, degZ_zero]
  go_wp2_with fail
  refine (evalV P0).mono ?_
  rintro e w' ⟨rfl, rfl⟩
  go_wp2_with fail
  refine (evalV P1).mono ?_
  rintro e w' ⟨rfl, rfl⟩
  have px := par_xor_i64 A B'
  have py := par_and_i64 A B'
  go_wp2_with fail
  refine (addV 40 P0 P1 (by decide) (by decide) (by decide)).mono ?_
  rintro e w17 ⟨a_z, n_z, c_z, rfl, h, b⟩
  replace P0 := P0.below b
  replace P1 := P1.below b
  replace Pab := Pab.below b
  replace Pm := Pm.below b
  replace Pk := Pk.below b
  replace Px := Px.below b
  replace Py := Py.below b
  replace Ps := Ps.below b
  replace E2 := E2.below b
  replace B := B.trans (b.mono B.size)
  have Pz := h.pol
  clear h b
  go_wp2_with fail
  refine (evalV Pz).mono ?_
  rintro e w' ⟨rfl, rfl⟩
  go_wp2_with fail
  refine (evalV P0).mono ?_
  rintro e w' ⟨rfl, rfl⟩
  go_wp2_with fail
  refine (evalV P1).mono ?_
  rintro e w' ⟨rfl, rfl⟩
  go_wp2_with fail
  refine (evalV Pab).mono ?_
  rintro e w' ⟨rfl, rfl⟩
  go_wp2_with fail
  go_ret
  exact ⟨rfl, B⟩
set_option maxRecDepth 100000 in
set_option maxHeartbeats 8000000 in
theorem core10 (a0 : Option Addr) (n0 c0 : Nat) (a1 : Option Addr) (n1 c1 : Nat) (a2 : Option Addr) (n2 c2 : Nat) (A B' C : Nat) (w : World) (p q : Addr) (E : ErrAt w 2 p) (E1 : ErrAt w 0 q) (P0 : PolV w 40 a0 n0 c0 A) (P1 : PolV w 40 a1 n1 c1 B') (P2 : PolV w 40 a2 n2 c2 C) (k0 : n0 ≤ 40) (k1 : n1 ≤ 40) (k2 : n2 ≤ 40) (hA : A ≠ 0) (hB : B' = 0) :
    Calls Tryd.prog 5 #[.slice a0 n0 c0, .slice a1 n1 c1, .slice a2 n2 c2] w fun e w' => e = .returned (.bool true) ∧ Below w.heap.size w w' := by
  have t0 : decide ((40 : Int) < (n0 : Int)) = false := decide_eq_false (by omega)
  have t1 : decide ((40 : Int) < (n1 : Int)) = false := decide_eq_false (by omega)
  have t2 : decide ((40 : Int) < (n2 : Int)) = false := decide_eq_false (by omega)
  have lA := degZ_room P0.lt
  have lB := degZ_room P1.lt
  have gA : 0 ≤ degZ A ∧ degZ A < 320 := by rw [degZ_ne hA] at lA ⊢; omega
  obtain ⟨gA0, gA1⟩ := gA
  have tA : decide (0 ≤ degZ A) = true := decide_eq_true gA0
  have eB : degZ B' = -1 := by rw [hB]; rfl
  have HA := Lib.hid hA
  have HB := Lib.hid hB
  clear hA hB lA lB
  have HEB := Lib.hid eB
  clear eB
  go_enter Tryd.func5, Tryd.ntmps5
  go_wp2_with fail
  refine (first_any w p E).mono ?_
  rintro e w1 ⟨rfl, B⟩
  replace P0 := P0.below B
  replace P1 := P1.below B
  replace P2 := P2.below B
  have E2 := E1.below B
  clear E E1
  go_wp2_with fail
  refine (mulV 80 P0 P1 (by decide) (by decide) (by decide)).mono ?_
  rintro e w2 ⟨a_ab, n_ab, c_ab, rfl, h, b⟩
  replace P0 := P0.below b
  replace P1 := P1.below b
  replace P2 := P2.below b
  replace E2 := E2.below b
  replace B := B.trans (b.mono B.size)
  have Pab := h.pol
  clear h b
  go_wp2_with fail
  refine (mulV 80 P1 P0 (by decide) (by decide) (by decide)).mono ?_
  rintro e w3 ⟨a_ba, n_ba, c_ba, rfl, h, b⟩
  replace P0 := P0.below b
  replace P1 := P1.below b
  replace P2 := P2.below b
  replace Pab := Pab.below b
  replace E2 := E2.below b
  replace B := B.trans (b.mono B.size)
  have Pba := h.pol
  clear h b
  go_wp2_with fail
  refine (mulV 80 P0 P2 (by decide) (by decide) (by decide)).mono ?_
  rintro e w4 ⟨a_ac, n_ac, c_ac, rfl, h, b⟩
  replace P0 := P0.below b
  replace P1 := P1.below b
  replace P2 := P2.below b
  replace Pab := Pab.below b
  replace Pba := Pba.below b
  replace E2 := E2.below b
  replace B := B.trans (b.mono B.size)
  have Pac := h.pol
  clear h b
  go_wp2_with fail
  refine (addV 40 P1 P2 (by decide) (by decide) (by decide)).mono ?_
  rintro e w5 ⟨a_bc, n_bc, c_bc, rfl, h, b⟩
  replace P0 := P0.below b
  replace P1 := P1.below b
  replace P2 := P2.below b
  replace Pab := Pab.below b
  replace Pba := Pba.below b
  replace Pac := Pac.below b
  replace E2 := E2.below b
  replace B := B.trans (b.mono B.size)
  have Pbc := h.pol
  clear h b
  go_wp2_with fail
  refine (mulV 80 P0 Pbc (by decide) (by decide) (by decide)).mono ?_
  rintro e w6 ⟨a_l, n_l, c_l, rfl, h, b⟩
  replace P0 := P0.below b
  replace P1 := P1.below b
  replace P2 := P2.below b
  replace Pab := Pab.below b
  replace Pba := Pba.below b
  replace Pac := Pac.below b
  replace Pbc := Pbc.below b
  replace E2 := E2.below b
  replace B := B.trans (b.mono B.size)
  have Pl := h.pol
  clear h b
  clear t0 t1 t2
  go_wp2_with fail
  refine (sameV Pab Pba).mono ?_
  rintro e w' ⟨rfl, rfl⟩
  rw [decide_eq_true (pm_comm B' A)]
  go_wp2_with fail
  refine (addV 80 Pab Pac (by decide) (by decide) (by decide)).mono ?_
  rintro e w7 ⟨a_t, n_t, c_t, rfl, h, b⟩
  replace P0 := P0.below b
  replace P1 := P1.below b
  replace P2 := P2.below b
  replace Pab := Pab.below b
  replace Pba := Pba.below b
  replace Pac := Pac.below b
  replace Pbc := Pbc.below b
  replace Pl := Pl.below b
  replace E2 := E2.below b
  replace B := B.trans (b.mono B.size)
  have Pt := h.pol
  clear h b
  go_wp2_with fail
  refine (sameV Pl Pt).mono ?_
  rintro e w' ⟨rfl, rfl⟩
  rw [decide_eq_true (pm_xor_right A B' C)]
  clear Pba Pac Pbc Pl Pt
  go_wp2_with fail
  refine (addV 40 P0 P0 (by decide) (by decide) (by decide)).mono ?_
  rintro e w8 ⟨a_u, n_u, c_u, rfl, h, b⟩
  replace P0 := P0.below b
  replace P1 := P1.below b
  replace P2 := P2.below b
  replace Pab := Pab.below b
  replace E2 := E2.below b
  replace B := B.trans (b.mono B.size)
  have Pu := h.pol
  clear h b
  go_wp2_with fail
  refine (degV Pu (by decide)).mono ?_
  rintro e w' ⟨rfl, rfl⟩
  rw [Nat.xor_self, degZ_zero]
  go_wp2_with fail
  refine (addV 40 P0 P1 (by decide) (by decide) (by decide)).mono ?_
  rintro e w9 ⟨a_v, n_v, c_v, rfl, h, b⟩
  replace P0 := P0.below b
  replace P1 := P1.below b
  replace P2 := P2.below b
  replace Pab := Pab.below b
  replace Pu := Pu.below b
  replace E2 := E2.below b
  replace B := B.trans (b.mono B.size)
  have Pv := h.pol
  clear h b
  go_wp2_with fail
  refine (addV 40 P1 P0 (by decide) (by decide) (by decide)).mono ?_
  rintro e w10 ⟨a_x, n_x, c_x, rfl, h, b⟩
  replace P0 := P0.below b
  replace P1 := P1.below b
  replace P2 := P2.below b
  replace Pab := Pab.below b
  replace Pu := Pu.below b
  replace Pv := Pv.below b
  replace E2 := E2.below b
  replace B := B.trans (b.mono B.size)
  have Px := h.pol
  clear h b
  go_wp2_with fail
  refine (sameV Pv Px).mono ?_
  rintro e w' ⟨rfl, rfl⟩
  rw [decide_eq_true (Nat.xor_comm A B')]
  clear Pu Pv Px
  go_wp2_with fail
  refine (degV P0 (by decide)).mono ?_
  rintro e w' ⟨rfl, rfl⟩
  go_wp2_with fail
  refine (degV P1 (by decide)).mono ?_
  rintro e w' ⟨rfl, rfl⟩
  rw [HEB.out]
  go_wp2_with fail
  have HBZ : B' = 0 := HB.out
  have HP1 : PolV w10 40 a1 n1 c1 0 := by rw [HBZ] at P1; exact P1
  clear HBZ
  refine (divZ (k := 40) HP1 (by decide) q E2).mono ?_
  rintro e w11 ⟨rfl, d⟩
  replace P1 := P1.drawn d
  replace B := B.trans (d.below _)
  have e3 := (E2.drawn d).1
  unfold Sent at e3
  have q1 := eql_err q
  clear d
  go_wp2_with fail
  refine (degV P1 (by decide)).mono ?_
  rintro e w' ⟨rfl, rfl⟩
  rw [HEB.out]
  go_wp2_with fail
  go_ret
  exact ⟨rfl, B⟩
set_option maxRecDepth 100000 in
set_option maxHeartbeats 8000000 in
theorem core11 (a0 : Option Addr) (n0 c0 : Nat) (a1 : Option Addr) (n1 c1 : Nat) (a2 : Option Addr) (n2 c2 : Nat) (A B' C : Nat) (w : World) (p q : Addr) (E : ErrAt w 2 p) (E1 : ErrAt w 0 q) (P0 : PolV w 40 a0 n0 c0 A) (P1 : PolV w 40 a1 n1 c1 B') (P2 : PolV w 40 a2 n2 c2 C) (k0 : n0 ≤ 40) (k1 : n1 ≤ 40) (k2 : n2 ≤ 40) (hA : A ≠ 0) (hB : B' ≠ 0) :
    Calls Tryd.prog 5 #[.slice a0 n0 c0, .slice a1 n1 c1, .slice a2 n2 c2] w fun e w' => e = .returned (.bool true) ∧ Below w.heap.size w w' := by
  have t0 : decide ((40 : Int) < (n0 : Int)) = false := decide_eq_false (by omega)
  have t1 : decide ((40 : Int) < (n1 : Int)) = false := decide_eq_false (by omega)
  have t2 : decide ((40 : Int) < (n2 : Int)) = false := decide_eq_false (by omega)
  have lA := degZ_room P0.lt
  have lB := degZ_room P1.lt
  have gA : 0 ≤ degZ A ∧ degZ A < 320 := by rw [degZ_ne hA] at lA ⊢; omega
  obtain ⟨gA0, gA1⟩ := gA
  have tA : decide (0 ≤ degZ A) = true := decide_eq_true gA0
  have gB : 0 ≤ degZ B' ∧ degZ B' < 320 := by rw [degZ_ne hB] at lB ⊢; omega
  obtain ⟨gB0, gB1⟩ := gB
  have tB : decide (0 ≤ degZ B') = true := decide_eq_true gB0
  have tB2 : decide (degZ B' < 0) = false := decide_eq_false (by omega)
  have HS := Lib.hid (degZ_pm hA hB)
  have HA := Lib.hid hA
  have HB := Lib.hid hB
  clear hA hB lA lB
  go_enter Tryd.func5, Tryd.ntmps5
  go_wp2_with fail
  refine (first_any w p E).mono ?_
  rintro e w1 ⟨rfl, B⟩
  replace P0 := P0.below B
  replace P1 := P1.below B
  replace P2 := P2.below B
  have E2 := E1.below B
  clear E E1
  go_wp2_with fail
  refine (mulV 80 P0 P1 (by decide) (by decide) (by decide)).mono ?_
  rintro e w2 ⟨a_ab, n_ab, c_ab, rfl, h, b⟩
  replace P0 := P0.below b
  replace P1 := P1.below b
  replace P2 := P2.below b
  replace E2 := E2.below b
  replace B := B.trans (b.mono B.size)
  have Pab := h.pol
  clear h b
  go_wp2_with fail
  refine (mulV 80 P1 P0 (by decide) (by decide) (by decide)).mono ?_
  rintro e w3 ⟨a_ba, n_ba, c_ba, rfl, h, b⟩
  replace P0 := P0.below b
  replace P1 := P1.below b
  replace P2 := P2.below b
  replace Pab := Pab.below b
  replace E2 := E2.below b
  replace B := B.trans (b.mono B.size)
  have Pba := h.pol
  clear h b
  go_wp2_with fail
  refine (mulV 80 P0 P2 (by decide) (by decide) (by decide)).mono ?_
  rintro e w4 ⟨a_ac, n_ac, c_ac, rfl, h, b⟩
  replace P0 := P0.below b
  replace P1 := P1.below b
  replace P2 := P2.below b
  replace Pab := Pab.below b
  replace Pba := Pba.below b
  replace E2 := E2.below b
  replace B := B.trans (b.mono B.size)
  have Pac := h.pol
  clear h b
  go_wp2_with fail
  refine (addV 40 P1 P2 (by decide) (by decide) (by decide)).mono ?_
  rintro e w5 ⟨a_bc, n_bc, c_bc, rfl, h, b⟩
  replace P0 := P0.below b
  replace P1 := P1.below b
  replace P2 := P2.below b
  replace Pab := Pab.below b
  replace Pba := Pba.below b
  replace Pac := Pac.below b
  replace E2 := E2.below b
  replace B := B.trans (b.mono B.size)
  have Pbc := h.pol
  clear h b
  go_wp2_with fail
  refine (mulV 80 P0 Pbc (by decide) (by decide) (by decide)).mono ?_
  rintro e w6 ⟨a_l, n_l, c_l, rfl, h, b⟩
  replace P0 := P0.below b
  replace P1 := P1.below b
  replace P2 := P2.below b
  replace Pab := Pab.below b
  replace Pba := Pba.below b
  replace Pac := Pac.below b
  replace Pbc := Pbc.below b
  replace E2 := E2.below b
  replace B := B.trans (b.mono B.size)
  have Pl := h.pol
  clear h b
  clear t0 t1 t2
  go_wp2_with fail
  refine (sameV Pab Pba).mono ?_
  rintro e w' ⟨rfl, rfl⟩
  rw [decide_eq_true (pm_comm B' A)]
  go_wp2_with fail
  refine (addV 80 Pab Pac (by decide) (by decide) (by decide)).mono ?_
  rintro e w7 ⟨a_t, n_t, c_t, rfl, h, b⟩
  replace P0 := P0.below b
  replace P1 := P1.below b
  replace P2 := P2.below b
  replace Pab := Pab.below b
  replace Pba := Pba.below b
  replace Pac := Pac.below b
  replace Pbc := Pbc.below b
  replace Pl := Pl.below b
  replace E2 := E2.below b
  replace B := B.trans (b.mono B.size)
  have Pt := h.pol
  clear h b
  go_wp2_with fail
  refine (sameV Pl Pt).mono ?_
  rintro e w' ⟨rfl, rfl⟩
  rw [decide_eq_true (pm_xor_right A B' C)]
  clear Pba Pac Pbc Pl Pt
  go_wp2_with fail
  refine (addV 40 P0 P0 (by decide) (by decide) (by decide)).mono ?_
  rintro e w8 ⟨a_u, n_u, c_u, rfl, h, b⟩
  replace P0 := P0.below b
  replace P1 := P1.below b
  replace P2 := P2.below b
  replace Pab := Pab.below b
  replace E2 := E2.below b
  replace B := B.trans (b.mono B.size)
  have Pu := h.pol
  clear h b
  go_wp2_with fail
  refine (degV Pu (by decide)).mono ?_
  rintro e w' ⟨rfl, rfl⟩
  rw [Nat.xor_self, degZ_zero]
  go_wp2_with fail
  refine (addV 40 P0 P1 (by decide) (by decide) (by decide)).mono ?_
  rintro e w9 ⟨a_v, n_v, c_v, rfl, h, b⟩
  replace P0 := P0.below b
  replace P1 := P1.below b
  replace P2 := P2.below b
  replace Pab := Pab.below b
  replace Pu := Pu.below b
  replace E2 := E2.below b
  replace B := B.trans (b.mono B.size)
  have Pv := h.pol
  clear h b
  go_wp2_with fail
  refine (addV 40 P1 P0 (by decide) (by decide) (by decide)).mono ?_
  rintro e w10 ⟨a_x, n_x, c_x, rfl, h, b⟩
  replace P0 := P0.below b
  replace P1 := P1.below b
  replace P2 := P2.below b
  replace Pab := Pab.below b
  replace Pu := Pu.below b
  replace Pv := Pv.below b
  replace E2 := E2.below b
  replace B := B.trans (b.mono B.size)
  have Px := h.pol
  clear h b
  go_wp2_with fail
  refine (sameV Pv Px).mono ?_
  rintro e w' ⟨rfl, rfl⟩
  rw [decide_eq_true (Nat.xor_comm A B')]
  clear Pu Pv Px
  go_wp2_with fail
  refine (degV P0 (by decide)).mono ?_
  rintro e w' ⟨rfl, rfl⟩
  go_wp2_with fail
  refine (degV P1 (by decide)).mono ?_
  rintro e w' ⟨rfl, rfl⟩
  go_wp2_with fail
  refine (degV Pab (by decide)).mono ?_
  rintro e w' ⟨rfl, rfl⟩
  rw [HS.out]
  go_wp2_with fail
  refine (degV P0 (by decide)).mono ?_
  rintro e w' ⟨rfl, rfl⟩
  go_wp2_with fail
  refine (degV P1 (by decide)).mono ?_
  rintro e w' ⟨rfl, rfl⟩
  go_wp2_with fail
  refine (divV 40 P0 P1 (by decide) (by decide) (by decide) HB.out).mono ?_
  rintro e w11 ⟨a_d, n_d, c_d, a_m, n_m, c_m, Qd, Rm, rfl, h, h2, hd, b⟩
  replace P0 := P0.below b
  replace P1 := P1.below b
  replace P2 := P2.below b
  replace Pab := Pab.below b
  replace E2 := E2.below b
  replace B := B.trans (b.mono B.size)
  have Pd := h.pol
  have Pm := h2.pol
  have HDm := Lib.hid hd
  clear h h2 b hd
  go_wp2_with fail
  refine (degV P1 (by decide)).mono ?_
  rintro e w' ⟨rfl, rfl⟩
  go_wp2_with fail
  refine (mulV 80 Pd P1 (by decide) (by decide) (by decide)).mono ?_
  rintro e w12 ⟨a_k, n_k, c_k, rfl, h, b⟩
  replace P0 := P0.below b
  replace P1 := P1.below b
  replace P2 := P2.below b
  replace Pab := Pab.below b
  replace Pd := Pd.below b
  replace Pm := Pm.below b
  replace E2 := E2.below b
  replace B := B.trans (b.mono B.size)
  have Pk := h.pol
  clear h b
  go_wp2_with fail
  refine (gcdV 40 P0 P1 (by decide) (by decide) (by decide)).mono ?_
  rintro e w13 ⟨a_g, n_g, c_g, rfl, h, b⟩
  replace P0 := P0.below b
  replace P1 := P1.below b
  replace P2 := P2.below b
  replace Pab := Pab.below b
  replace Pd := Pd.below b
  replace Pm := Pm.below b
  replace Pk := Pk.below b
  replace E2 := E2.below b
  replace B := B.trans (b.mono B.size)
  have Pg := h.pol
  clear h b
  have HG : Hid (pgcd A B' ≠ 0) := fun h => HB.out (by obtain ⟨x, hx⟩ := (pgcd_is A B').2.1; rw [h, pm_zero] at hx; exact hx)
  go_wp2_with fail
  refine (divV 40 P0 Pg (by decide) (by decide) (by decide) HG.out).mono ?_
  rintro e w14 ⟨a_xq, n_xq, c_xq, a_x, n_x, c_x, Qxq, Rx, rfl, h, h2, hd, b⟩
  replace P0 := P0.below b
  replace P1 := P1.below b
  replace P2 := P2.below b
  replace Pab := Pab.below b
  replace Pd := Pd.below b
  replace Pm := Pm.below b
  replace Pk := Pk.below b
  replace Pg := Pg.below b
  replace E2 := E2.below b
  replace B := B.trans (b.mono B.size)
  have Pxq := h.pol
  have Px := h2.pol
  have HDx := Lib.hid hd
  clear h h2 b hd
  go_wp2_with fail
  refine (divV 40 P1 Pg (by decide) (by decide) (by decide) HG.out).mono ?_
  rintro e w15 ⟨a_yq, n_yq, c_yq, a_y, n_y, c_y, Qyq, Ry, rfl, h, h2, hd, b⟩
  replace P0 := P0.below b
  replace P1 := P1.below b
  replace P2 := P2.below b
  replace Pab := Pab.below b
  replace Pd := Pd.below b
  replace Pm := Pm.below b
  replace Pk := Pk.below b
  replace Pg := Pg.below b
  replace Pxq := Pxq.below b
  replace Px := Px.below b
  replace E2 := E2.below b
  replace B := B.trans (b.mono B.size)
  have Pyq := h.pol
  have Py := h2.pol
  have HDy := Lib.hid hd
  clear h h2 b hd
  clear Pxq
  clear Pyq
  clear Pg
  clear Pd
  clear P2
  have tm : decide (degZ Rm < degZ B') = true := decide_eq_true (degZ_rest HDm.out HB.out)
  have hm : -1 ≤ degZ Rm := by unfold degZ; split <;> omega
  go_wp2_with fail
  refine (degV Pm (by decide)).mono ?_
  rintro e w' ⟨rfl, rfl⟩
  go_wp2_with fail
  refine (degV P1 (by decide)).mono ?_
  rintro e w' ⟨rfl, rfl⟩
  go_wp2_with fail
  refine (addV 80 Pk Pm (by decide) (by decide) (by decide)).mono ?_
  rintro e w16 ⟨a_s, n_s, c_s, rfl, h, b⟩
  replace P0 := P0.below b
  replace P1 := P1.below b
  replace Pab := Pab.below b
  replace Pm := Pm.below b
  replace Pk := Pk.below b
  replace Px := Px.below b
  replace Py := Py.below b
  replace E2 := E2.below b
  replace B := B.trans (b.mono B.size)
  have Ps := h.pol
  clear h b
  go_wp2_with fail
  refine (sameV Ps P0).mono ?_
  rintro e w' ⟨rfl, rfl⟩
  rw [decide_eq_true (HDm.out.1.symm)]
  clear tm hm
  go_wp2_with fail
  refine (degV Px (by decide)).mono ?_
  rintro e w' ⟨rfl, rfl⟩
  rw [(IsDiv.zero_iff HG.out HDx.out).2 (pgcd_is A B').1, degZ_zero]
  go_wp2_with fail
  refine (degV Py (by decide)).mono ?_
  rintro e w' ⟨rfl, rfl⟩
  rw [(IsDiv.zero_iff HG.out HDy.out).2 (pgcd_is A B').2.1, degZ_zero]
  go_wp2_with fail
  refine (evalV P0).mono ?_
  rintro e w' ⟨rfl, rfl⟩
  go_wp2_with fail
  refine (evalV P1).mono ?_
  rintro e w' ⟨rfl, rfl⟩
  have px := par_xor_i64 A B'
  have py := par_and_i64 A B'
  go_wp2_with fail
  refine (addV 40 P0 P1 (by decide) (by decide) (by decide)).mono ?_
  rintro e w17 ⟨a_z, n_z, c_z, rfl, h, b⟩
  replace P0 := P0.below b
  replace P1 := P1.below b
  replace Pab := Pab.below b
  replace Pm := Pm.below b
  replace Pk := Pk.below b
  replace Px := Px.below b
  replace Py := Py.below b
  replace Ps := Ps.below b
  replace E2 := E2.below b
  replace B := B.trans (b.mono B.size)
  have Pz := h.pol
  clear h b
  go_wp2_with fail
  refine (evalV Pz).mono ?_
  rintro e w' ⟨rfl, rfl⟩
  go_wp2_with fail
  refine (evalV P0).mono ?_
  rintro e w' ⟨rfl, rfl⟩
  go_wp2_with fail
  refine (evalV P1).mono ?_
  rintro e w' ⟨rfl, rfl⟩
  go_wp2_with fail
  refine (evalV Pab).mono ?_
  rintro e w' ⟨rfl, rfl⟩
  go_wp2_with fail
  go_ret
  exact ⟨rfl, B⟩
theorem walk (a0 : Option Addr) (len0 cap0 : Nat) (z0 : List Int) (a1 : Option Addr) (len1 cap1 : Nat) (z1 : List Int) (a2 : Option Addr) (len2 cap2 : Nat) (z2 : List Int) (W : World) (w0 : IsRow .u8 W a0 len0 cap0 z0) (w1 : IsRow .u8 W a1 len1 cap1 z1) (w2 : IsRow .u8 W a2 len2 cap2 z2) (h : LaidBinRing.Holds W) :
    Calls Tryd.prog 5 #[.slice a0 len0 cap0, .slice a1 len1 cap1, .slice a2 len2 cap2] W fun e w' => e = .returned (.bool true) ∧ Below W.heap.size W w' := by
  obtain ⟨f, ⟨E0, E1, E2⟩, _⟩ := h
  by_cases k0 : len0 ≤ 40
  · by_cases k1 : len1 ≤ 40
    · by_cases k2 : len2 ≤ 40
      · obtain ⟨A, PA⟩ := row_polV w0 40 k0
        obtain ⟨B', PB⟩ := row_polV w1 40 k1
        obtain ⟨C, PC⟩ := row_polV w2 40 k2
        by_cases hA : A = 0 <;> by_cases hB : B' = 0
        · exact core00 _ _ _ _ _ _ _ _ _ A B' C W _ _ E0 E1 PA PB PC k0 k1 k2 hA hB
        · exact core01 _ _ _ _ _ _ _ _ _ A B' C W _ _ E0 E1 PA PB PC k0 k1 k2 hA hB
        · exact core10 _ _ _ _ _ _ _ _ _ A B' C W _ _ E0 E1 PA PB PC k0 k1 k2 hA hB
        · exact core11 _ _ _ _ _ _ _ _ _ A B' C W _ _ E0 E1 PA PB PC k0 k1 k2 hA hB
      · exact long _ _ _ _ _ _ _ _ _ W _ E0 (by omega)
    · exact long _ _ _ _ _ _ _ _ _ W _ E0 (by omega)
  · exact long _ _ _ _ _ _ _ _ _ W _ E0 (by omega)
end Go.Proofs.YtcdhjmmkeiomaaaDoor.walkBinRing
