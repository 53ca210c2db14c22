/- The walk over PolyRing. By the verifier of shale. -/
import Derived.Test.YtgfaaaeechgjmaaDoorPolyLaw
import Derived.Test.YtgfaaaeechgjmaaDoorLaidPolyRing
namespace Go.Proofs.YtgfaaaeechgjmaaDoor.walkPolyRing
open Go Go.RowKit Fld Bits16 Pl
set_option linter.unusedVariables false
set_option maxRecDepth 100000 in
set_option maxHeartbeats 1000000 in
theorem long (x0 : Int) (a1 : Option Addr) (n1 c1 : Nat) (a2 : Option Addr) (n2 c2 : Nat) (x3 : Int) (w : World) (h : 24 < n1 ∨ 24 < n2) :
    Calls Tryd.prog 5 #[.int .i64 x0, .slice a1 n1 c1, .slice a2 n2 c2, .int .i64 x3] w fun e w' => e = .returned (.bool true) ∧ Below w.heap.size w w' := by
  have t : (decide ((24 : Int) < (n1 : Int)) = true) ∨ (decide ((24 : Int) < (n1 : Int)) = false ∧ decide ((24 : Int) < (n2 : Int)) = true) := by
    by_cases h1 : 24 < n1
    · exact Or.inl (decide_eq_true (by omega))
    · skip
      exact Or.inr <| ⟨decide_eq_false (by omega), decide_eq_true (by omega)⟩
  clear h
  rcases t with t0 | ⟨t0, t1⟩
  all_goals
    go_enter Tryd.func5, Tryd.ntmps5
    go_wp2_with fail
    refine (first_any w).mono ?_
    rintro e w1 ⟨rfl, B⟩
    go_wp2_with fail
    refine (ring_any x0 w1).mono ?_
    rintro e w2 ⟨g, s, be, ce, bl, rfl, R, b⟩
    replace B := B.trans (b.mono B.size)
    clear b
    go_wp2_with fail
    go_ret
    exact ⟨rfl, B⟩
set_option maxRecDepth 100000 in
set_option maxHeartbeats 8000000 in
theorem coreN (x0 : Int) (a1 : Option Addr) (n1 c1 : Nat) (a2 : Option Addr) (n2 c2 : Nat) (x3 : Int) (p q : Ser (El (rm x0))) (w : World)  (P1 : PV (rm x0) w 24 a1 n1 c1 p) (P2 : PV (rm x0) w 24 a2 n2 c2 q) (k1 : n1 ≤ 24) (k2 : n2 ≤ 24) (h0 : q ≠ pz) :
    Calls Tryd.prog 5 #[.int .i64 x0, .slice a1 n1 c1, .slice a2 n2 c2, .int .i64 x3] w fun e w' => e = .returned (.bool true) ∧ Below w.heap.size w w' := by
  have t1 : decide ((24 : Int) < (n1 : Int)) = false := decide_eq_false (by omega)
  have t2 : decide ((24 : Int) < (n2 : Int)) = false := decide_eq_false (by omega)
  have H0 := Lib.hid h0
  obtain ⟨dp, hdp⟩ : ∃ d : Int, d = (Pl.top p 24 : Int) - 1 := ⟨_, rfl⟩
  obtain ⟨dq, hdq⟩ : ∃ d : Int, d = (Pl.top q 24 : Int) - 1 := ⟨_, rfl⟩
  have HDP := Lib.hid hdp
  have HDQ := Lib.hid hdq
  have tq : decide (dq < 0) = false := decide_eq_false (by have := top_nz P2.bd h0; omega)
  obtain ⟨X, hX⟩ : ∃ X, X = elm (rm x0) x3 := ⟨_, rfl⟩
  have HX := Lib.hid hX
  have zx : bits .xor .i64 (zn (ev 24 p X)) (zn (ev 24 q X)) = zn (ev 24 (padd p q) X) := by rw [zn_add, ev_add]
  clear h0 hdp hdq hX
  go_enter Tryd.func5, Tryd.ntmps5
  go_wp2_with fail
  refine (first_any w).mono ?_
  rintro e w1 ⟨rfl, B⟩
  replace P1 := P1.below B
  replace P2 := P2.below B
  go_wp2_with fail
  refine (ring_any x0 w1).mono ?_
  rintro e w2 ⟨g, s, be, ce, bl, rfl, R, b⟩
  replace P1 := P1.below b
  replace P2 := P2.below b
  replace B := B.trans (b.mono B.size)
  clear b
  go_wp2_with fail
  refine (mulV R 48 P1 P2 (by decide) (by decide)).mono ?_
  rintro e w3 ⟨a_x, n_x, c_x, rfl, h, b⟩
  replace P1 := P1.below b
  replace P2 := P2.below b
  replace R := R.below b
  replace B := B.trans (b.mono B.size)
  have Px := h
  clear h b
  go_wp2_with fail
  refine (mulV R 48 P2 P1 (by decide) (by decide)).mono ?_
  rintro e w4 ⟨a_y, n_y, c_y, rfl, h, b⟩
  replace P1 := P1.below b
  replace P2 := P2.below b
  replace Px := Px.below b
  replace R := R.below b
  replace B := B.trans (b.mono B.size)
  have Py := h
  clear h b
  clear t1 t2
  go_wp2_with fail
  refine (addV R 24 P1 P2 (by decide) (by decide) (by decide)).mono ?_
  rintro e w5 ⟨a_u, n_u, c_u, rfl, h, b⟩
  replace P1 := P1.below b
  replace P2 := P2.below b
  replace Px := Px.below b
  replace Py := Py.below b
  replace R := R.below b
  replace B := B.trans (b.mono B.size)
  have Pu := h
  clear h b
  go_wp2_with fail
  refine (evalV x3 R Pu.pol).mono ?_
  rintro e w6 ⟨rfl, d⟩
  rw [← HX.out]
  have b := d.below w5.heap.size
  replace P1 := P1.below b
  replace P2 := P2.below b
  replace Px := Px.below b
  replace Py := Py.below b
  replace Pu := Pu.below b
  replace R := R.below b
  replace B := B.trans (b.mono B.size)
  clear b d
  go_wp2_with fail
  refine (evalV x3 R P1).mono ?_
  rintro e w7 ⟨rfl, d⟩
  rw [← HX.out]
  have b := d.below w6.heap.size
  replace P1 := P1.below b
  replace P2 := P2.below b
  replace Px := Px.below b
  replace Py := Py.below b
  replace Pu := Pu.below b
  replace R := R.below b
  replace B := B.trans (b.mono B.size)
  clear b d
  go_wp2_with fail
  refine (evalV x3 R P2).mono ?_
  rintro e w8 ⟨rfl, d⟩
  rw [← HX.out]
  have b := d.below w7.heap.size
  replace P1 := P1.below b
  replace P2 := P2.below b
  replace Px := Px.below b
  replace Py := Py.below b
  replace Pu := Pu.below b
  replace R := R.below b
  replace B := B.trans (b.mono B.size)
  clear b d
  clear Pu
  obtain ⟨E3, hE3⟩ : ∃ E3, E3 = zn (ev 48 (cv p q) X) := ⟨_, rfl⟩
  have HE3 := Lib.hid hE3
  clear hE3
  go_wp2_with fail
  refine (evalV x3 R Px.pol).mono ?_
  rintro e w9 ⟨rfl, d⟩
  rw [← HX.out]
  rw [← HE3.out]
  have b := d.below w8.heap.size
  replace P1 := P1.below b
  replace P2 := P2.below b
  replace Px := Px.below b
  replace Py := Py.below b
  replace R := R.below b
  replace B := B.trans (b.mono B.size)
  clear b d
  go_wp2_with fail
  refine (evalV x3 R P1).mono ?_
  rintro e w10 ⟨rfl, d⟩
  rw [← HX.out]
  have b := d.below w9.heap.size
  replace P1 := P1.below b
  replace P2 := P2.below b
  replace Px := Px.below b
  replace Py := Py.below b
  replace R := R.below b
  replace B := B.trans (b.mono B.size)
  clear b d
  go_wp2_with fail
  refine (evalV x3 R P2).mono ?_
  rintro e w11 ⟨rfl, d⟩
  rw [← HX.out]
  have b := d.below w10.heap.size
  replace P1 := P1.below b
  replace P2 := P2.below b
  replace Px := Px.below b
  replace Py := Py.below b
  replace R := R.below b
  replace B := B.trans (b.mono B.size)
  clear b d
  clear zx
  go_wp2_with fail
  refine (rmul_zz (ev 24 p X) (ev 24 q X) w11).mono ?_
  rintro e w12 ⟨rfl, b⟩
  rw [← ev_mul P1.bd P2.bd (by decide : 24 + 24 ≤ 48), ← HE3.out]
  replace P1 := P1.below b
  replace P2 := P2.below b
  replace Px := Px.below b
  replace Py := Py.below b
  replace R := R.below b
  replace B := B.trans (b.mono B.size)
  clear b
  go_wp2_with fail
  refine (sameV Px Py (cv_comm p q)).mono ?_
  rintro e w13 ⟨rfl, d⟩
  have b := d.below w12.heap.size
  replace P1 := P1.below b
  replace P2 := P2.below b
  replace Px := Px.below b
  replace Py := Py.below b
  replace R := R.below b
  replace B := B.trans (b.mono B.size)
  clear b d
  clear Px Py
  go_wp2_with fail
  refine (rootsV_any R P1 (by decide)).mono ?_
  rintro e w14 ⟨a_r, n_r, c_r, rfl, h, b⟩
  replace P1 := P1.below b
  replace P2 := P2.below b
  replace R := R.below b
  replace B := B.trans (b.mono B.size)
  have Pr := h
  clear h b
  have hr := rootsV_le P1.bd
  rw [← Pr.hlen] at hr
  obtain ⟨mx, hmx⟩ : ∃ mx : Int, mx = if 0 < dp then dp else 0 := ⟨_, rfl⟩
  have tm : decide (mx < (n_r : Int)) = false := decide_eq_false (by have := HDP.out; rw [hmx]; split <;> omega)
  replace hmx := hmx.symm
  clear hr
  go_wp2_with fail
  refine (degV R P1).mono ?_
  rintro e w' ⟨rfl, rfl⟩
  rw [← HDP.out]
  clear Pr
  go_wp2_with fail
  refine (degV R P2).mono ?_
  rintro e w' ⟨rfl, rfl⟩
  rw [← HDQ.out]
  clear tm hmx
  go_wp2_with fail
  refine (divV R 24 P1 P2 (by decide) (by decide) (by decide) H0.out).mono ?_
  rintro e w15 ⟨a_d, n_d, c_d, a_s, n_s, c_s, Qd, Ls, rfl, h, h2, hd, b⟩
  replace P1 := P1.below b
  replace P2 := P2.below b
  replace R := R.below b
  replace B := B.trans (b.mono B.size)
  have Pd := h
  have Ps := h2
  have HDs := Lib.hid hd
  clear h h2 b hd
  go_wp2_with fail
  refine (mulV R 48 Pd.pol P2 (by decide) (by decide)).mono ?_
  rintro e w16 ⟨a_back, n_back, c_back, rfl, h, b⟩
  replace P1 := P1.below b
  replace P2 := P2.below b
  replace Pd := Pd.below b
  replace Ps := Ps.below b
  replace R := R.below b
  replace B := B.trans (b.mono B.size)
  have Pback := h
  clear h b
  clear Pd
  go_wp2_with fail
  refine (gcdV R 24 P1 P2 (by decide) (by decide) (by decide)).mono ?_
  rintro e w17 ⟨a_g, n_g, c_g, Gg, rfl, h, hgg, b⟩
  replace P1 := P1.below b
  replace P2 := P2.below b
  replace Ps := Ps.below b
  replace Pback := Pback.below b
  replace R := R.below b
  replace B := B.trans (b.mono B.size)
  have Pg := h
  clear h b
  have HGg := Lib.hid hgg
  clear hgg
  have HN_g : Hid (Gg ≠ pz) := fun e => H0.out (HGg.out.zero.1 e).2
  go_wp2_with fail
  refine (divV R 24 P1 Pg.pol (by decide) (by decide) (by decide) HN_g.out).mono ?_
  rintro e w18 ⟨a_xq, n_xq, c_xq, a_u, n_u, c_u, Qxq, Lu, rfl, h, h2, hd, b⟩
  replace P1 := P1.below b
  replace P2 := P2.below b
  replace Ps := Ps.below b
  replace Pback := Pback.below b
  replace Pg := Pg.below b
  replace R := R.below b
  replace B := B.trans (b.mono B.size)
  have Pxq := h
  have Pu := h2
  have HDu := Lib.hid hd
  clear h h2 b hd
  clear Pxq
  go_wp2_with fail
  refine (divV R 24 P2 Pg.pol (by decide) (by decide) (by decide) HN_g.out).mono ?_
  rintro e w19 ⟨a_yq, n_yq, c_yq, a_v, n_v, c_v, Qyq, Lv, rfl, h, h2, hd, b⟩
  replace P1 := P1.below b
  replace P2 := P2.below b
  replace Ps := Ps.below b
  replace Pback := Pback.below b
  replace Pg := Pg.below b
  replace Pu := Pu.below b
  replace R := R.below b
  replace B := B.trans (b.mono B.size)
  have Pyq := h
  have Pv := h2
  have HDv := Lib.hid hd
  clear h h2 b hd
  clear Pyq
  obtain ⟨ds, hds⟩ : ∃ d : Int, d = (Pl.top Ls 24 : Int) - 1 := ⟨_, rfl⟩
  have ts : decide (ds < dq) = true := decide_eq_true (by have := rest_lt (w := w) HDs.out P2.bd H0.out Ps.pol.bd; have := HDQ.out; omega)
  obtain rfl : n_u = 0 := nv_zero Pu ((rest_zero (top_deg Pg.pol.bd HN_g.out) HDu.out).2 HGg.out.1.1)
  obtain rfl : n_v = 0 := nv_zero Pv ((rest_zero (top_deg Pg.pol.bd HN_g.out) HDv.out).2 HGg.out.1.2.1)
  have HDS := Lib.hid hds
  clear hds
  clear Pu Pv
  go_wp2_with fail
  refine (degV R Ps.pol).mono ?_
  rintro e w' ⟨rfl, rfl⟩
  rw [← HDS.out]
  go_wp2_with fail
  refine (degV R P2).mono ?_
  rintro e w' ⟨rfl, rfl⟩
  rw [← HDQ.out]
  go_wp2_with fail
  refine (addV R 48 Pback.pol Ps.pol (by decide) (by decide) (by decide)).mono ?_
  rintro e w20 ⟨a_sm, n_sm, c_sm, rfl, h, b⟩
  replace P1 := P1.below b
  replace P2 := P2.below b
  replace Ps := Ps.below b
  replace Pback := Pback.below b
  replace Pg := Pg.below b
  replace R := R.below b
  replace B := B.trans (b.mono B.size)
  have Psm := h
  clear h b
  go_wp2_with fail
  refine (trimV R P1 (by decide)).mono ?_
  rintro e w21 ⟨a_tp, n_tp, c_tp, rfl, h, b⟩
  replace P1 := P1.below b
  replace P2 := P2.below b
  replace Ps := Ps.below b
  replace Pback := Pback.below b
  replace Pg := Pg.below b
  replace Psm := Psm.below b
  replace R := R.below b
  replace B := B.trans (b.mono B.size)
  have Ptp := h
  clear h b
  go_wp2_with fail
  refine (sameV Psm Ptp (HDs.out.sum.symm)).mono ?_
  rintro e w22 ⟨rfl, d⟩
  have b := d.below w21.heap.size
  replace P1 := P1.below b
  replace P2 := P2.below b
  replace Ps := Ps.below b
  replace Pback := Pback.below b
  replace Pg := Pg.below b
  replace Psm := Psm.below b
  replace Ptp := Ptp.below b
  replace R := R.below b
  replace B := B.trans (b.mono B.size)
  clear b d
  clear Psm Ptp Pback Ps
  have H1 : Hid (∀ k, Dg Gg k → Gg k = 1) := fun k hk => by obtain ⟨d, hd, h1⟩ := HGg.out.2.resolve_left HN_g.out; rw [hk.eq hd]; exact h1
  obtain ⟨k_g, rfl, HK_g⟩ := nv_pos Pg HN_g.out
  obtain ⟨bb, off, rfl, cT, _⟩ := Pg.row.row k_g (by omega)
  rw [nums_at _ _ _ (by omega)] at cT
  have hle := Pg.le
  have i1 : IntKind.i64.wrap (((k_g + 1 : Nat) : Int) - 1) = (k_g : Int) := by rw [show ((k_g + 1 : Nat) : Int) - 1 = (k_g : Int) by omega]; exact IntWalk.i64_in _ (by omega)
  have i2 : IntKind.i64.wrap ((k_g : Int) + 1 - 1) = (k_g : Int) := by rw [show (k_g : Int) + 1 - 1 = (k_g : Int) by omega]; exact IntWalk.i64_in _ (by omega)
  have i3 : (k_g : Int) < (k_g : Int) + 1 := by omega
  have i4 : IntKind.i64.wrap (k_g : Int) = (k_g : Int) := IntWalk.i64_in _ (by omega)
  have y0 : (0 : Int) ≤ (k_g : Int) := by omega
  rw [H1.out _ HK_g, show zn (1 : El (rm x0)) = 1 from rfl] at cT
  go_wp2_with fail
  go_ret
  exact ⟨rfl, B⟩
set_option maxRecDepth 100000 in
set_option maxHeartbeats 8000000 in
theorem coreZ (x0 : Int) (a1 : Option Addr) (n1 c1 : Nat) (a2 : Option Addr) (n2 c2 : Nat) (x3 : Int) (p q : Ser (El (rm x0))) (w : World)  (P1 : PV (rm x0) w 24 a1 n1 c1 p) (P2 : PV (rm x0) w 24 a2 n2 c2 q) (k1 : n1 ≤ 24) (k2 : n2 ≤ 24) (h0 : q = pz) :
    Calls Tryd.prog 5 #[.int .i64 x0, .slice a1 n1 c1, .slice a2 n2 c2, .int .i64 x3] w fun e w' => e = .returned (.bool true) ∧ Below w.heap.size w w' := by
  have t1 : decide ((24 : Int) < (n1 : Int)) = false := decide_eq_false (by omega)
  have t2 : decide ((24 : Int) < (n2 : Int)) = false := decide_eq_false (by omega)
  have H0 := Lib.hid h0
  obtain ⟨dp, hdp⟩ : ∃ d : Int, d = (Pl.top p 24 : Int) - 1 := ⟨_, rfl⟩
  obtain ⟨dq, hdq⟩ : ∃ d : Int, d = (Pl.top q 24 : Int) - 1 := ⟨_, rfl⟩
  have HDP := Lib.hid hdp
  have HDQ := Lib.hid hdq
  have tq : decide (dq < 0) = true := by rw [hdq, h0, top_pz]; rfl
  obtain ⟨X, hX⟩ : ∃ X, X = elm (rm x0) x3 := ⟨_, rfl⟩
  have HX := Lib.hid hX
  have zx : bits .xor .i64 (zn (ev 24 p X)) (zn (ev 24 q X)) = zn (ev 24 (padd p q) X) := by rw [zn_add, ev_add]
  clear h0 hdp hdq hX
  go_enter Tryd.func5, Tryd.ntmps5
  go_wp2_with fail
  refine (first_any w).mono ?_
  rintro e w1 ⟨rfl, B⟩
  replace P1 := P1.below B
  replace P2 := P2.below B
  go_wp2_with fail
  refine (ring_any x0 w1).mono ?_
  rintro e w2 ⟨g, s, be, ce, bl, rfl, R, b⟩
  replace P1 := P1.below b
  replace P2 := P2.below b
  replace B := B.trans (b.mono B.size)
  clear b
  go_wp2_with fail
  refine (mulV R 48 P1 P2 (by decide) (by decide)).mono ?_
  rintro e w3 ⟨a_x, n_x, c_x, rfl, h, b⟩
  replace P1 := P1.below b
  replace P2 := P2.below b
  replace R := R.below b
  replace B := B.trans (b.mono B.size)
  have Px := h
  clear h b
  go_wp2_with fail
  refine (mulV R 48 P2 P1 (by decide) (by decide)).mono ?_
  rintro e w4 ⟨a_y, n_y, c_y, rfl, h, b⟩
  replace P1 := P1.below b
  replace P2 := P2.below b
  replace Px := Px.below b
  replace R := R.below b
  replace B := B.trans (b.mono B.size)
  have Py := h
  clear h b
  clear t1 t2
  go_wp2_with fail
  refine (addV R 24 P1 P2 (by decide) (by decide) (by decide)).mono ?_
  rintro e w5 ⟨a_u, n_u, c_u, rfl, h, b⟩
  replace P1 := P1.below b
  replace P2 := P2.below b
  replace Px := Px.below b
  replace Py := Py.below b
  replace R := R.below b
  replace B := B.trans (b.mono B.size)
  have Pu := h
  clear h b
  go_wp2_with fail
  refine (evalV x3 R Pu.pol).mono ?_
  rintro e w6 ⟨rfl, d⟩
  rw [← HX.out]
  have b := d.below w5.heap.size
  replace P1 := P1.below b
  replace P2 := P2.below b
  replace Px := Px.below b
  replace Py := Py.below b
  replace Pu := Pu.below b
  replace R := R.below b
  replace B := B.trans (b.mono B.size)
  clear b d
  go_wp2_with fail
  refine (evalV x3 R P1).mono ?_
  rintro e w7 ⟨rfl, d⟩
  rw [← HX.out]
  have b := d.below w6.heap.size
  replace P1 := P1.below b
  replace P2 := P2.below b
  replace Px := Px.below b
  replace Py := Py.below b
  replace Pu := Pu.below b
  replace R := R.below b
  replace B := B.trans (b.mono B.size)
  clear b d
  go_wp2_with fail
  refine (evalV x3 R P2).mono ?_
  rintro e w8 ⟨rfl, d⟩
  rw [← HX.out]
  have b := d.below w7.heap.size
  replace P1 := P1.below b
  replace P2 := P2.below b
  replace Px := Px.below b
  replace Py := Py.below b
  replace Pu := Pu.below b
  replace R := R.below b
  replace B := B.trans (b.mono B.size)
  clear b d
  clear Pu
  obtain ⟨E3, hE3⟩ : ∃ E3, E3 = zn (ev 48 (cv p q) X) := ⟨_, rfl⟩
  have HE3 := Lib.hid hE3
  clear hE3
  go_wp2_with fail
  refine (evalV x3 R Px.pol).mono ?_
  rintro e w9 ⟨rfl, d⟩
  rw [← HX.out]
  rw [← HE3.out]
  have b := d.below w8.heap.size
  replace P1 := P1.below b
  replace P2 := P2.below b
  replace Px := Px.below b
  replace Py := Py.below b
  replace R := R.below b
  replace B := B.trans (b.mono B.size)
  clear b d
  go_wp2_with fail
  refine (evalV x3 R P1).mono ?_
  rintro e w10 ⟨rfl, d⟩
  rw [← HX.out]
  have b := d.below w9.heap.size
  replace P1 := P1.below b
  replace P2 := P2.below b
  replace Px := Px.below b
  replace Py := Py.below b
  replace R := R.below b
  replace B := B.trans (b.mono B.size)
  clear b d
  go_wp2_with fail
  refine (evalV x3 R P2).mono ?_
  rintro e w11 ⟨rfl, d⟩
  rw [← HX.out]
  have b := d.below w10.heap.size
  replace P1 := P1.below b
  replace P2 := P2.below b
  replace Px := Px.below b
  replace Py := Py.below b
  replace R := R.below b
  replace B := B.trans (b.mono B.size)
  clear b d
  clear zx
  go_wp2_with fail
  refine (rmul_zz (ev 24 p X) (ev 24 q X) w11).mono ?_
  rintro e w12 ⟨rfl, b⟩
  rw [← ev_mul P1.bd P2.bd (by decide : 24 + 24 ≤ 48), ← HE3.out]
  replace P1 := P1.below b
  replace P2 := P2.below b
  replace Px := Px.below b
  replace Py := Py.below b
  replace R := R.below b
  replace B := B.trans (b.mono B.size)
  clear b
  go_wp2_with fail
  refine (sameV Px Py (cv_comm p q)).mono ?_
  rintro e w13 ⟨rfl, d⟩
  have b := d.below w12.heap.size
  replace P1 := P1.below b
  replace P2 := P2.below b
  replace Px := Px.below b
  replace Py := Py.below b
  replace R := R.below b
  replace B := B.trans (b.mono B.size)
  clear b d
  clear Px Py
  go_wp2_with fail
  refine (rootsV_any R P1 (by decide)).mono ?_
  rintro e w14 ⟨a_r, n_r, c_r, rfl, h, b⟩
  replace P1 := P1.below b
  replace P2 := P2.below b
  replace R := R.below b
  replace B := B.trans (b.mono B.size)
  have Pr := h
  clear h b
  have hr := rootsV_le P1.bd
  rw [← Pr.hlen] at hr
  obtain ⟨mx, hmx⟩ : ∃ mx : Int, mx = if 0 < dp then dp else 0 := ⟨_, rfl⟩
  have tm : decide (mx < (n_r : Int)) = false := decide_eq_false (by have := HDP.out; rw [hmx]; split <;> omega)
  replace hmx := hmx.symm
  clear hr
  go_wp2_with fail
  refine (degV R P1).mono ?_
  rintro e w' ⟨rfl, rfl⟩
  rw [← HDP.out]
  clear Pr
  go_wp2_with fail
  refine (degV R P2).mono ?_
  rintro e w' ⟨rfl, rfl⟩
  rw [← HDQ.out]
  go_wp2_with fail
  go_ret
  exact ⟨rfl, B⟩
theorem walk (x0 : Int) (a1 : Option Addr) (len1 cap1 : Nat) (z1 : List Int) (a2 : Option Addr) (len2 cap2 : Nat) (z2 : List Int) (x3 : Int) (W : World) (w0 : (Lit.int .i64 x0).wf = true) (w1 : IsRow .i64 W a1 len1 cap1 z1) (w2 : IsRow .i64 W a2 len2 cap2 z2) (w3 : (Lit.int .i64 x3).wf = true) (h : LaidPolyRing.Holds W) :
    Calls Tryd.prog 5 #[.int .i64 x0, .slice a1 len1 cap1, .slice a2 len2 cap2, .int .i64 x3] W fun e w' => e = .returned (.bool true) ∧ Below W.heap.size W w' := by
  obtain ⟨f, ⟨E0, E1, E2⟩, _⟩ := h
  by_cases k1 : len1 ≤ 24
  rotate_left
  · exact long x0 a1 len1 cap1 a2 len2 cap2 x3 W (by omega)
  by_cases k2 : len2 ≤ 24
  rotate_left
  · exact long x0 a1 len1 cap1 a2 len2 cap2 x3 W (by omega)
  obtain ⟨p, P1⟩ := row_pv (m := rm x0) w1 24 k1
  obtain ⟨q, P2⟩ := row_pv (m := rm x0) w2 24 k2
  by_cases h0 : q = pz
  · exact coreZ x0 a1 len1 cap1 a2 len2 cap2 x3 p q W P1 P2 k1 k2 h0
  · exact coreN x0 a1 len1 cap1 a2 len2 cap2 x3 p q W P1 P2 k1 k2 h0
end Go.Proofs.YtgfaaaeechgjmaaDoor.walkPolyRing
