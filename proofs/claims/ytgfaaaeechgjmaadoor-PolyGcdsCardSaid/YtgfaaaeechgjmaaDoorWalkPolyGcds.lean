/- The walk over PolyGcds. By the verifier of shale. -/
import Derived.Test.YtgfaaaeechgjmaaDoorPolyLaw
import Derived.Test.YtgfaaaeechgjmaaDoorLaidPolyGcds
namespace Go.Proofs.YtgfaaaeechgjmaaDoor.walkPolyGcds
open Go Go.RowKit Fld Bits16 Pl
set_option linter.unusedVariables false
set_option maxRecDepth 100000 in
set_option maxHeartbeats 1000000 in
theorem long (x0 : Int) (a1 : Option Addr) (n1 c1 : Nat) (a2 : Option Addr) (n2 c2 : Nat) (a3 : Option Addr) (n3 c3 : Nat) (w : World) (h : 8 < n1 ∨ 8 < n2 ∨ 8 < n3) :
    Calls Tryd.prog 7 #[.int .i64 x0, .slice a1 n1 c1, .slice a2 n2 c2, .slice a3 n3 c3] w fun e w' => e = .returned (.bool true) ∧ Below w.heap.size w w' := by
  have t : (decide ((8 : Int) < (n1 : Int)) = true) ∨ (decide ((8 : Int) < (n1 : Int)) = false ∧ decide ((8 : Int) < (n2 : Int)) = true) ∨ (decide ((8 : Int) < (n1 : Int)) = false ∧ decide ((8 : Int) < (n2 : Int)) = false ∧ decide ((8 : Int) < (n3 : Int)) = true) := by
    by_cases h1 : 8 < n1
    · exact Or.inl (decide_eq_true (by omega))
    · skip
      by_cases h2 : 8 < n2
      · exact Or.inr <| Or.inl ⟨decide_eq_false (by omega), decide_eq_true (by omega)⟩
      · skip
        exact Or.inr <| Or.inr <| ⟨decide_eq_false (by omega), decide_eq_false (by omega), decide_eq_true (by omega)⟩
  clear h
  rcases t with t0 | ⟨t0, t1⟩ | ⟨t0, t1, t2⟩
  all_goals
    go_enter Tryd.func7, Tryd.ntmps7
    go_wp2_with fail
    refine (first_any w).mono ?_
    rintro e w1 ⟨rfl, B⟩
    go_wp2_with fail
    refine (ring_any x0 w1).mono ?_
    rintro e w2 ⟨g, s, be, ce, bl, rfl, R, b⟩
    replace B := B.trans (b.mono B.size)
    clear b
    go_wp2_with fail
    go_ret
    exact ⟨rfl, B⟩
set_option maxRecDepth 100000 in
set_option maxHeartbeats 8000000 in
theorem coreP (x0 : Int) (a1 : Option Addr) (n1 c1 : Nat) (a2 : Option Addr) (n2 c2 : Nat) (a3 : Option Addr) (n3 c3 : Nat) (p q c : Ser (El (rm x0))) (w : World)  (P1 : PV (rm x0) w 8 a1 n1 c1 p) (P2 : PV (rm x0) w 8 a2 n2 c2 q) (P3 : PV (rm x0) w 8 a3 n3 c3 c) (k1 : n1 ≤ 8) (k2 : n2 ≤ 8) (k3 : n3 ≤ 8) (h1 : p = pz) :
    Calls Tryd.prog 7 #[.int .i64 x0, .slice a1 n1 c1, .slice a2 n2 c2, .slice a3 n3 c3] w fun e w' => e = .returned (.bool true) ∧ Below w.heap.size w w' := by
  have t1 : decide ((8 : Int) < (n1 : Int)) = false := decide_eq_false (by omega)
  have t2 : decide ((8 : Int) < (n2 : Int)) = false := decide_eq_false (by omega)
  have t3 : decide ((8 : Int) < (n3 : Int)) = false := decide_eq_false (by omega)
  obtain ⟨dp, hdp⟩ : ∃ d : Int, d = (Pl.top p 8 : Int) - 1 := ⟨_, rfl⟩
  have HDp := Lib.hid hdp
  have tp : decide (dp < 0) = true := by rw [hdp, h1, top_pz]; rfl
  have H1 := Lib.hid h1
  clear h1 hdp
  go_enter Tryd.func7, Tryd.ntmps7
  go_wp2_with fail
  refine (first_any w).mono ?_
  rintro e w1 ⟨rfl, B⟩
  replace P1 := P1.below B
  replace P2 := P2.below B
  replace P3 := P3.below B
  go_wp2_with fail
  refine (ring_any x0 w1).mono ?_
  rintro e w2 ⟨g, s, be, ce, bl, rfl, R, b⟩
  replace P1 := P1.below b
  replace P2 := P2.below b
  replace P3 := P3.below b
  replace B := B.trans (b.mono B.size)
  clear b
  go_wp2_with fail
  refine (degV R P1).mono ?_
  rintro e w' ⟨rfl, rfl⟩
  rw [← HDp.out]
  go_wp2_with fail
  refine (gcdV R 0 (nilV w2) (nilV w2) (by decide) (by decide) (by decide)).mono ?_
  rintro e w3 ⟨a_g, n_g, c_g, Gg, rfl, h, hg, b⟩
  replace P1 := P1.below b
  replace P2 := P2.below b
  replace P3 := P3.below b
  replace R := R.below b
  replace B := B.trans (b.mono B.size)
  obtain rfl : n_g = 0 := by have := h.le; omega
  clear h b hg
  go_wp2_with fail
  go_ret
  exact ⟨rfl, B⟩
set_option maxRecDepth 100000 in
set_option maxHeartbeats 8000000 in
theorem coreQ (x0 : Int) (a1 : Option Addr) (n1 c1 : Nat) (a2 : Option Addr) (n2 c2 : Nat) (a3 : Option Addr) (n3 c3 : Nat) (p q c : Ser (El (rm x0))) (w : World)  (P1 : PV (rm x0) w 8 a1 n1 c1 p) (P2 : PV (rm x0) w 8 a2 n2 c2 q) (P3 : PV (rm x0) w 8 a3 n3 c3 c) (k1 : n1 ≤ 8) (k2 : n2 ≤ 8) (k3 : n3 ≤ 8) (h1 : p ≠ pz) (h2 : q = pz) :
    Calls Tryd.prog 7 #[.int .i64 x0, .slice a1 n1 c1, .slice a2 n2 c2, .slice a3 n3 c3] w fun e w' => e = .returned (.bool true) ∧ Below w.heap.size w w' := by
  have t1 : decide ((8 : Int) < (n1 : Int)) = false := decide_eq_false (by omega)
  have t2 : decide ((8 : Int) < (n2 : Int)) = false := decide_eq_false (by omega)
  have t3 : decide ((8 : Int) < (n3 : Int)) = false := decide_eq_false (by omega)
  obtain ⟨dp, hdp⟩ : ∃ d : Int, d = (Pl.top p 8 : Int) - 1 := ⟨_, rfl⟩
  have HDp := Lib.hid hdp
  have tp : decide (dp < 0) = false := decide_eq_false (by have := top_nz P1.bd h1; omega)
  have H1 := Lib.hid h1
  clear h1 hdp
  obtain ⟨dq, hdq⟩ : ∃ d : Int, d = (Pl.top q 8 : Int) - 1 := ⟨_, rfl⟩
  have HDq := Lib.hid hdq
  have tq : decide (dq < 0) = true := by rw [hdq, h2, top_pz]; rfl
  have H2 := Lib.hid h2
  clear h2 hdq
  go_enter Tryd.func7, Tryd.ntmps7
  go_wp2_with fail
  refine (first_any w).mono ?_
  rintro e w1 ⟨rfl, B⟩
  replace P1 := P1.below B
  replace P2 := P2.below B
  replace P3 := P3.below B
  go_wp2_with fail
  refine (ring_any x0 w1).mono ?_
  rintro e w2 ⟨g, s, be, ce, bl, rfl, R, b⟩
  replace P1 := P1.below b
  replace P2 := P2.below b
  replace P3 := P3.below b
  replace B := B.trans (b.mono B.size)
  clear b
  go_wp2_with fail
  refine (degV R P1).mono ?_
  rintro e w' ⟨rfl, rfl⟩
  rw [← HDp.out]
  go_wp2_with fail
  refine (degV R P2).mono ?_
  rintro e w' ⟨rfl, rfl⟩
  rw [← HDq.out]
  go_wp2_with fail
  refine (gcdV R 0 (nilV w2) (nilV w2) (by decide) (by decide) (by decide)).mono ?_
  rintro e w3 ⟨a_g, n_g, c_g, Gg, rfl, h, hg, b⟩
  replace P1 := P1.below b
  replace P2 := P2.below b
  replace P3 := P3.below b
  replace R := R.below b
  replace B := B.trans (b.mono B.size)
  obtain rfl : n_g = 0 := by have := h.le; omega
  clear h b hg
  go_wp2_with fail
  go_ret
  exact ⟨rfl, B⟩
set_option maxRecDepth 100000 in
set_option maxHeartbeats 8000000 in
theorem coreC (x0 : Int) (a1 : Option Addr) (n1 c1 : Nat) (a2 : Option Addr) (n2 c2 : Nat) (a3 : Option Addr) (n3 c3 : Nat) (p q c : Ser (El (rm x0))) (w : World)  (P1 : PV (rm x0) w 8 a1 n1 c1 p) (P2 : PV (rm x0) w 8 a2 n2 c2 q) (P3 : PV (rm x0) w 8 a3 n3 c3 c) (k1 : n1 ≤ 8) (k2 : n2 ≤ 8) (k3 : n3 ≤ 8) (h1 : p ≠ pz) (h2 : q ≠ pz) (h3 : c = pz) :
    Calls Tryd.prog 7 #[.int .i64 x0, .slice a1 n1 c1, .slice a2 n2 c2, .slice a3 n3 c3] w fun e w' => e = .returned (.bool true) ∧ Below w.heap.size w w' := by
  have t1 : decide ((8 : Int) < (n1 : Int)) = false := decide_eq_false (by omega)
  have t2 : decide ((8 : Int) < (n2 : Int)) = false := decide_eq_false (by omega)
  have t3 : decide ((8 : Int) < (n3 : Int)) = false := decide_eq_false (by omega)
  obtain ⟨dp, hdp⟩ : ∃ d : Int, d = (Pl.top p 8 : Int) - 1 := ⟨_, rfl⟩
  have HDp := Lib.hid hdp
  have tp : decide (dp < 0) = false := decide_eq_false (by have := top_nz P1.bd h1; omega)
  have H1 := Lib.hid h1
  clear h1 hdp
  obtain ⟨dq, hdq⟩ : ∃ d : Int, d = (Pl.top q 8 : Int) - 1 := ⟨_, rfl⟩
  have HDq := Lib.hid hdq
  have tq : decide (dq < 0) = false := decide_eq_false (by have := top_nz P2.bd h2; omega)
  have H2 := Lib.hid h2
  clear h2 hdq
  obtain ⟨dc, hdc⟩ : ∃ d : Int, d = (Pl.top c 8 : Int) - 1 := ⟨_, rfl⟩
  have HDc := Lib.hid hdc
  have tc : decide (dc < 0) = true := by rw [hdc, h3, top_pz]; rfl
  have H3 := Lib.hid h3
  clear h3 hdc
  go_enter Tryd.func7, Tryd.ntmps7
  go_wp2_with fail
  refine (first_any w).mono ?_
  rintro e w1 ⟨rfl, B⟩
  replace P1 := P1.below B
  replace P2 := P2.below B
  replace P3 := P3.below B
  go_wp2_with fail
  refine (ring_any x0 w1).mono ?_
  rintro e w2 ⟨g, s, be, ce, bl, rfl, R, b⟩
  replace P1 := P1.below b
  replace P2 := P2.below b
  replace P3 := P3.below b
  replace B := B.trans (b.mono B.size)
  clear b
  go_wp2_with fail
  refine (degV R P1).mono ?_
  rintro e w' ⟨rfl, rfl⟩
  rw [← HDp.out]
  go_wp2_with fail
  refine (degV R P2).mono ?_
  rintro e w' ⟨rfl, rfl⟩
  rw [← HDq.out]
  go_wp2_with fail
  refine (degV R P3).mono ?_
  rintro e w' ⟨rfl, rfl⟩
  rw [← HDc.out]
  go_wp2_with fail
  refine (gcdV R 0 (nilV w2) (nilV w2) (by decide) (by decide) (by decide)).mono ?_
  rintro e w3 ⟨a_g, n_g, c_g, Gg, rfl, h, hg, b⟩
  replace P1 := P1.below b
  replace P2 := P2.below b
  replace P3 := P3.below b
  replace R := R.below b
  replace B := B.trans (b.mono B.size)
  obtain rfl : n_g = 0 := by have := h.le; omega
  clear h b hg
  go_wp2_with fail
  go_ret
  exact ⟨rfl, B⟩
set_option maxRecDepth 100000 in
set_option maxHeartbeats 8000000 in
theorem coreN (x0 : Int) (a1 : Option Addr) (n1 c1 : Nat) (a2 : Option Addr) (n2 c2 : Nat) (a3 : Option Addr) (n3 c3 : Nat) (p q c : Ser (El (rm x0))) (w : World)  (P1 : PV (rm x0) w 8 a1 n1 c1 p) (P2 : PV (rm x0) w 8 a2 n2 c2 q) (P3 : PV (rm x0) w 8 a3 n3 c3 c) (k1 : n1 ≤ 8) (k2 : n2 ≤ 8) (k3 : n3 ≤ 8) (h1 : p ≠ pz) (h2 : q ≠ pz) (h3 : c ≠ pz) :
    Calls Tryd.prog 7 #[.int .i64 x0, .slice a1 n1 c1, .slice a2 n2 c2, .slice a3 n3 c3] w fun e w' => e = .returned (.bool true) ∧ Below w.heap.size w w' := by
  have t1 : decide ((8 : Int) < (n1 : Int)) = false := decide_eq_false (by omega)
  have t2 : decide ((8 : Int) < (n2 : Int)) = false := decide_eq_false (by omega)
  have t3 : decide ((8 : Int) < (n3 : Int)) = false := decide_eq_false (by omega)
  obtain ⟨dp, hdp⟩ : ∃ d : Int, d = (Pl.top p 8 : Int) - 1 := ⟨_, rfl⟩
  have HDp := Lib.hid hdp
  have tp : decide (dp < 0) = false := decide_eq_false (by have := top_nz P1.bd h1; omega)
  have H1 := Lib.hid h1
  clear h1 hdp
  obtain ⟨dq, hdq⟩ : ∃ d : Int, d = (Pl.top q 8 : Int) - 1 := ⟨_, rfl⟩
  have HDq := Lib.hid hdq
  have tq : decide (dq < 0) = false := decide_eq_false (by have := top_nz P2.bd h2; omega)
  have H2 := Lib.hid h2
  clear h2 hdq
  obtain ⟨dc, hdc⟩ : ∃ d : Int, d = (Pl.top c 8 : Int) - 1 := ⟨_, rfl⟩
  have HDc := Lib.hid hdc
  have tc : decide (dc < 0) = false := decide_eq_false (by have := top_nz P3.bd h3; omega)
  have H3 := Lib.hid h3
  clear h3 hdc
  go_enter Tryd.func7, Tryd.ntmps7
  go_wp2_with fail
  refine (first_any w).mono ?_
  rintro e w1 ⟨rfl, B⟩
  replace P1 := P1.below B
  replace P2 := P2.below B
  replace P3 := P3.below B
  go_wp2_with fail
  refine (ring_any x0 w1).mono ?_
  rintro e w2 ⟨g, s, be, ce, bl, rfl, R, b⟩
  replace P1 := P1.below b
  replace P2 := P2.below b
  replace P3 := P3.below b
  replace B := B.trans (b.mono B.size)
  clear b
  go_wp2_with fail
  refine (degV R P1).mono ?_
  rintro e w' ⟨rfl, rfl⟩
  rw [← HDp.out]
  go_wp2_with fail
  refine (degV R P2).mono ?_
  rintro e w' ⟨rfl, rfl⟩
  rw [← HDq.out]
  go_wp2_with fail
  refine (degV R P3).mono ?_
  rintro e w' ⟨rfl, rfl⟩
  rw [← HDc.out]
  clear t1 t2 t3
  go_wp2_with fail
  refine (mulV R 16 P1 P3 (by decide) (by decide)).mono ?_
  rintro e w3 ⟨a_x, n_x, c_x, rfl, h, b⟩
  replace P1 := P1.below b
  replace P2 := P2.below b
  replace P3 := P3.below b
  replace R := R.below b
  replace B := B.trans (b.mono B.size)
  have Px := h
  clear h b
  go_wp2_with fail
  refine (mulV R 16 P2 P3 (by decide) (by decide)).mono ?_
  rintro e w4 ⟨a_y, n_y, c_y, rfl, h, b⟩
  replace P1 := P1.below b
  replace P2 := P2.below b
  replace P3 := P3.below b
  replace Px := Px.below b
  replace R := R.below b
  replace B := B.trans (b.mono B.size)
  have Py := h
  clear h b
  go_wp2_with fail
  refine (gcdV R 16 Px.pol Py.pol (by decide) (by decide) (by decide)).mono ?_
  rintro e w5 ⟨a_g, n_g, c_g, Gg, rfl, h, hgg, b⟩
  replace P1 := P1.below b
  replace P2 := P2.below b
  replace P3 := P3.below b
  replace Px := Px.below b
  replace Py := Py.below b
  replace R := R.below b
  replace B := B.trans (b.mono B.size)
  have Pg := h
  clear h b
  have HGg := Lib.hid hgg
  clear hgg
  go_wp2_with fail
  refine (trimV R P3 (by decide)).mono ?_
  rintro e w6 ⟨a_t, n_t, c_t, rfl, h, b⟩
  replace P1 := P1.below b
  replace P2 := P2.below b
  replace P3 := P3.below b
  replace Px := Px.below b
  replace Py := Py.below b
  replace Pg := Pg.below b
  replace R := R.below b
  replace B := B.trans (b.mono B.size)
  have Pt := h
  clear h b
  have HN_t : Hid (c ≠ pz) := H3.out
  obtain ⟨k_t, rfl, HK_t⟩ := nv_pos Pt HN_t.out
  obtain ⟨bb, off, rfl, cT, _⟩ := Pt.row.row k_t (by omega)
  rw [nums_at _ _ _ (by omega)] at cT
  have hle := Pt.le
  have i1 : IntKind.i64.wrap (((k_t + 1 : Nat) : Int) - 1) = (k_t : Int) := by rw [show ((k_t + 1 : Nat) : Int) - 1 = (k_t : Int) by omega]; exact IntWalk.i64_in _ (by omega)
  have i2 : IntKind.i64.wrap ((k_t : Int) + 1 - 1) = (k_t : Int) := by rw [show (k_t : Int) + 1 - 1 = (k_t : Int) by omega]; exact IntWalk.i64_in _ (by omega)
  have i3 : (k_t : Int) < (k_t : Int) + 1 := by omega
  have i4 : IntKind.i64.wrap (k_t : Int) = (k_t : Int) := IntWalk.i64_in _ (by omega)
  have y0 : (0 : Int) ≤ (k_t : Int) := by omega
  go_wp2_with fail
  refine (rinv_zz (m := rm x0) (c k_t) HK_t.1 w6).mono ?_
  rintro e w7 ⟨rfl, b⟩
  clear cT
  replace P1 := P1.below b
  replace P2 := P2.below b
  replace P3 := P3.below b
  replace Px := Px.below b
  replace Py := Py.below b
  replace Pg := Pg.below b
  replace Pt := Pt.below b
  replace R := R.below b
  replace B := B.trans (b.mono B.size)
  clear b
  clear i1 i2 i3 i4 y0 hle
  go_wp2_with fail
  refine (scaleV (zn (c k_t)⁻¹) R Pt.pol (by decide)).mono ?_
  rintro e w8 ⟨a_mo, n_mo, c_mo, rfl, h, b⟩
  replace P1 := P1.below b
  replace P2 := P2.below b
  replace P3 := P3.below b
  replace Px := Px.below b
  replace Py := Py.below b
  replace Pg := Pg.below b
  replace Pt := Pt.below b
  replace R := R.below b
  replace B := B.trans (b.mono B.size)
  have Pmo := h
  clear h b
  rw [elm_zn] at Pmo
  clear Pt
  go_wp2_with fail
  refine (gcdV R 8 P1 P2 (by decide) (by decide) (by decide)).mono ?_
  rintro e w9 ⟨a_h, n_h, c_h, Gh, rfl, h, hgh, b⟩
  replace P1 := P1.below b
  replace P2 := P2.below b
  replace P3 := P3.below b
  replace Px := Px.below b
  replace Py := Py.below b
  replace Pg := Pg.below b
  replace Pmo := Pmo.below b
  replace R := R.below b
  replace B := B.trans (b.mono B.size)
  have Ph := h
  clear h b
  have HGh := Lib.hid hgh
  clear hgh
  go_wp2_with fail
  refine (mulV R 16 Ph.pol Pmo.pol (by decide) (by decide)).mono ?_
  rintro e w10 ⟨a_wa, n_wa, c_wa, rfl, h, b⟩
  replace P1 := P1.below b
  replace P2 := P2.below b
  replace P3 := P3.below b
  replace Px := Px.below b
  replace Py := Py.below b
  replace Pg := Pg.below b
  replace Pmo := Pmo.below b
  replace Ph := Ph.below b
  replace R := R.below b
  replace B := B.trans (b.mono B.size)
  have Pwa := h
  clear h b
  go_wp2_with fail
  refine (sameV Pg Pwa (gcd_times P1.bd P2.bd H1.out HK_t HGh.out HGg.out)).mono ?_
  rintro e w11 ⟨rfl, d⟩
  have b := d.below w10.heap.size
  replace P1 := P1.below b
  replace P2 := P2.below b
  replace P3 := P3.below b
  replace Px := Px.below b
  replace Py := Py.below b
  replace Pg := Pg.below b
  replace Pmo := Pmo.below b
  replace Ph := Ph.below b
  replace Pwa := Pwa.below b
  replace R := R.below b
  replace B := B.trans (b.mono B.size)
  clear b d
  clear Pwa Pmo Ph
  go_wp2_with fail
  refine (gcdV R 16 Py.pol Px.pol (by decide) (by decide) (by decide)).mono ?_
  rintro e w12 ⟨a_gg, n_gg, c_gg, Ggg, rfl, h, hggg, b⟩
  replace P1 := P1.below b
  replace P2 := P2.below b
  replace P3 := P3.below b
  replace Px := Px.below b
  replace Py := Py.below b
  replace Pg := Pg.below b
  replace R := R.below b
  replace B := B.trans (b.mono B.size)
  have Pgg := h
  clear h b
  have HGgg := Lib.hid hggg
  clear hggg
  go_wp2_with fail
  refine (sameV Pgg Pg (HGgg.out.comm.unique HGg.out)).mono ?_
  rintro e w13 ⟨rfl, d⟩
  have b := d.below w12.heap.size
  replace P1 := P1.below b
  replace P2 := P2.below b
  replace P3 := P3.below b
  replace Px := Px.below b
  replace Py := Py.below b
  replace Pg := Pg.below b
  replace Pgg := Pgg.below b
  replace R := R.below b
  replace B := B.trans (b.mono B.size)
  clear b d
  clear Pgg Pg Py
  have Pnil : PV (rm x0) w13 0 none 0 0 pz := nilV _
  go_wp2_with fail
  refine (gcdV R 16 Px.pol Pnil (by decide) (by decide) (by decide)).mono ?_
  rintro e w14 ⟨a_gn, n_gn, c_gn, Ggn, rfl, h, hggn, b⟩
  replace P1 := P1.below b
  replace P2 := P2.below b
  replace P3 := P3.below b
  replace Px := Px.below b
  replace Pnil := Pnil.below b
  replace R := R.below b
  replace B := B.trans (b.mono B.size)
  have Pgn := h
  clear h b
  have HGgn := Lib.hid hggn
  clear hggn
  go_wp2_with fail
  refine (trimV R Px.pol (by decide)).mono ?_
  rintro e w15 ⟨a_tx, n_tx, c_tx, rfl, h, b⟩
  replace P1 := P1.below b
  replace P2 := P2.below b
  replace P3 := P3.below b
  replace Px := Px.below b
  replace Pnil := Pnil.below b
  replace Pgn := Pgn.below b
  replace R := R.below b
  replace B := B.trans (b.mono B.size)
  have Ptx := h
  clear h b
  go_wp2_with fail
  refine (trimV R Px.pol (by decide)).mono ?_
  rintro e w16 ⟨a_z, n_z, c_z, rfl, h, b⟩
  replace P1 := P1.below b
  replace P2 := P2.below b
  replace P3 := P3.below b
  replace Px := Px.below b
  replace Pnil := Pnil.below b
  replace Pgn := Pgn.below b
  replace Ptx := Ptx.below b
  replace R := R.below b
  replace B := B.trans (b.mono B.size)
  have Pz := h
  clear h b
  have HN_z : Hid (cv p c ≠ pz) := fun e => by rcases dg_or P1.bd with h1 | ⟨d, _, hd⟩; exact H1.out h1; exact (hd.mul HK_t).ne e
  obtain ⟨k_z, rfl, HK_z⟩ := nv_pos Pz HN_z.out
  obtain ⟨bb, off, rfl, cT, _⟩ := Pz.row.row k_z (by omega)
  rw [nums_at _ _ _ (by omega)] at cT
  have hle := Pz.le
  have i1 : IntKind.i64.wrap (((k_z + 1 : Nat) : Int) - 1) = (k_z : Int) := by rw [show ((k_z + 1 : Nat) : Int) - 1 = (k_z : Int) by omega]; exact IntWalk.i64_in _ (by omega)
  have i2 : IntKind.i64.wrap ((k_z : Int) + 1 - 1) = (k_z : Int) := by rw [show (k_z : Int) + 1 - 1 = (k_z : Int) by omega]; exact IntWalk.i64_in _ (by omega)
  have i3 : (k_z : Int) < (k_z : Int) + 1 := by omega
  have i4 : IntKind.i64.wrap (k_z : Int) = (k_z : Int) := IntWalk.i64_in _ (by omega)
  have y0 : (0 : Int) ≤ (k_z : Int) := by omega
  have hdz : (Pl.top (cv p c) 16 : Int) - 1 = (k_z : Int) := by rw [top_dg' Px.pol.bd HK_z]; omega
  have HDZ := Lib.hid hdz
  clear hdz
  go_wp2_with fail
  refine (degV R Px.pol).mono ?_
  rintro e w' ⟨rfl, rfl⟩
  rw [HDZ.out]
  go_wp2_with fail
  refine (rinv_zz (m := rm x0) ((cv p c) k_z) HK_z.1 w16).mono ?_
  rintro e w17 ⟨rfl, b⟩
  clear cT
  replace P1 := P1.below b
  replace P2 := P2.below b
  replace P3 := P3.below b
  replace Px := Px.below b
  replace Pnil := Pnil.below b
  replace Pgn := Pgn.below b
  replace Ptx := Ptx.below b
  replace Pz := Pz.below b
  replace R := R.below b
  replace B := B.trans (b.mono B.size)
  clear b
  clear i1 i2 i3 i4 y0 hle
  go_wp2_with fail
  refine (scaleV (zn ((cv p c) k_z)⁻¹) R Ptx.pol (by decide)).mono ?_
  rintro e w18 ⟨a_sc, n_sc, c_sc, rfl, h, b⟩
  replace P1 := P1.below b
  replace P2 := P2.below b
  replace P3 := P3.below b
  replace Px := Px.below b
  replace Pnil := Pnil.below b
  replace Pgn := Pgn.below b
  replace Ptx := Ptx.below b
  replace Pz := Pz.below b
  replace R := R.below b
  replace B := B.trans (b.mono B.size)
  have Psc := h
  clear h b
  rw [elm_zn] at Psc
  go_wp2_with fail
  refine (sameV Pgn Psc (gcd_nil HK_z HGgn.out)).mono ?_
  rintro e w19 ⟨rfl, d⟩
  have b := d.below w18.heap.size
  replace P1 := P1.below b
  replace P2 := P2.below b
  replace P3 := P3.below b
  replace Px := Px.below b
  replace Pnil := Pnil.below b
  replace Pgn := Pgn.below b
  replace Ptx := Ptx.below b
  replace Pz := Pz.below b
  replace Psc := Psc.below b
  replace R := R.below b
  replace B := B.trans (b.mono B.size)
  clear b d
  go_wp2_with fail
  go_ret
  exact ⟨rfl, B⟩
theorem walk (x0 : Int) (a1 : Option Addr) (len1 cap1 : Nat) (z1 : List Int) (a2 : Option Addr) (len2 cap2 : Nat) (z2 : List Int) (a3 : Option Addr) (len3 cap3 : Nat) (z3 : List Int) (W : World) (w0 : (Lit.int .i64 x0).wf = true) (w1 : IsRow .i64 W a1 len1 cap1 z1) (w2 : IsRow .i64 W a2 len2 cap2 z2) (w3 : IsRow .i64 W a3 len3 cap3 z3) (h : LaidPolyGcds.Holds W) :
    Calls Tryd.prog 7 #[.int .i64 x0, .slice a1 len1 cap1, .slice a2 len2 cap2, .slice a3 len3 cap3] W fun e w' => e = .returned (.bool true) ∧ Below W.heap.size W w' := by
  obtain ⟨f, ⟨E0, E1, E2⟩, _⟩ := h
  by_cases k1 : len1 ≤ 8
  rotate_left
  · exact long x0 a1 len1 cap1 a2 len2 cap2 a3 len3 cap3 W (by omega)
  by_cases k2 : len2 ≤ 8
  rotate_left
  · exact long x0 a1 len1 cap1 a2 len2 cap2 a3 len3 cap3 W (by omega)
  by_cases k3 : len3 ≤ 8
  rotate_left
  · exact long x0 a1 len1 cap1 a2 len2 cap2 a3 len3 cap3 W (by omega)
  obtain ⟨p, P1⟩ := row_pv (m := rm x0) w1 8 k1
  obtain ⟨q, P2⟩ := row_pv (m := rm x0) w2 8 k2
  obtain ⟨c, P3⟩ := row_pv (m := rm x0) w3 8 k3
  by_cases h1 : p = pz
  · exact coreP x0 a1 len1 cap1 a2 len2 cap2 a3 len3 cap3 p q c W P1 P2 P3 k1 k2 k3 h1
  by_cases h2 : q = pz
  · exact coreQ x0 a1 len1 cap1 a2 len2 cap2 a3 len3 cap3 p q c W P1 P2 P3 k1 k2 k3 h1 h2
  by_cases h3 : c = pz
  · exact coreC x0 a1 len1 cap1 a2 len2 cap2 a3 len3 cap3 p q c W P1 P2 P3 k1 k2 k3 h1 h2 h3
  exact coreN x0 a1 len1 cap1 a2 len2 cap2 a3 len3 cap3 p q c W P1 P2 P3 k1 k2 k3 h1 h2 h3
end Go.Proofs.YtgfaaaeechgjmaaDoor.walkPolyGcds
