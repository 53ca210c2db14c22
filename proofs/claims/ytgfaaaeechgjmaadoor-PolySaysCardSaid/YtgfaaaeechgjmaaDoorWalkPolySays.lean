/- The walk over PolySays. By the verifier of shale. -/
import Derived.Test.YtgfaaaeechgjmaaDoorPolyLaw
import Derived.Test.YtgfaaaeechgjmaaDoorLaidPolySays
namespace Go.Proofs.YtgfaaaeechgjmaaDoor.walkPolySays
open Go Go.RowKit Fld Bits16 Pl
set_option linter.unusedVariables false
set_option maxRecDepth 100000 in
set_option maxHeartbeats 1000000 in
theorem long (x0 : Int) (a1 : Option Addr) (n1 c1 : Nat) (a2 : Option Addr) (n2 c2 : Nat) (x3 : Int) (w : World) (h : 24 < n1 ∨ 24 < n2) :
    Calls Tryd.prog 3 #[.int .i64 x0, .slice a1 n1 c1, .slice a2 n2 c2, .int .i64 x3] w fun e w' => e = .returned (.bool true) ∧ Below w.heap.size w w' := by
  have t : (decide ((24 : Int) < (n1 : Int)) = true) ∨ (decide ((24 : Int) < (n1 : Int)) = false ∧ decide ((24 : Int) < (n2 : Int)) = true) := by
    by_cases h1 : 24 < n1
    · exact Or.inl (decide_eq_true (by omega))
    · skip
      exact Or.inr <| ⟨decide_eq_false (by omega), decide_eq_true (by omega)⟩
  clear h
  rcases t with t0 | ⟨t0, t1⟩
  all_goals
    go_enter Tryd.func3, Tryd.ntmps3
    go_wp2_with fail
    refine (first_any w).mono ?_
    rintro e w1 ⟨rfl, B⟩
    go_wp2_with fail
    refine (ring_any x0 w1).mono ?_
    rintro e w2 ⟨g, s, be, ce, bl, rfl, R, b⟩
    replace B := B.trans (b.mono B.size)
    clear b
    go_wp2_with fail
    go_ret
    exact ⟨rfl, B⟩
set_option maxRecDepth 100000 in
set_option maxHeartbeats 8000000 in
theorem coreN (x0 : Int) (a1 : Option Addr) (n1 c1 : Nat) (a2 : Option Addr) (n2 c2 : Nat) (x3 : Int) (p q : Ser (El (rm x0))) (w : World) (yE : Addr) (E : ErrAt w 0 yE) (P1 : PV (rm x0) w 24 a1 n1 c1 p) (P2 : PV (rm x0) w 24 a2 n2 c2 q) (k1 : n1 ≤ 24) (k2 : n2 ≤ 24) (h0 : q ≠ pz) :
    Calls Tryd.prog 3 #[.int .i64 x0, .slice a1 n1 c1, .slice a2 n2 c2, .int .i64 x3] w fun e w' => e = .returned (.bool true) ∧ Below w.heap.size w w' := by
  have t1 : decide ((24 : Int) < (n1 : Int)) = false := decide_eq_false (by omega)
  have t2 : decide ((24 : Int) < (n2 : Int)) = false := decide_eq_false (by omega)
  have H0 := Lib.hid h0
  clear h0
  go_enter Tryd.func3, Tryd.ntmps3
  go_wp2_with fail
  refine (first_any w).mono ?_
  rintro e w1 ⟨rfl, B⟩
  replace P1 := P1.below B
  replace P2 := P2.below B
  replace E := E.below B
  go_wp2_with fail
  refine (ring_any x0 w1).mono ?_
  rintro e w2 ⟨g, s, be, ce, bl, rfl, R, b⟩
  replace P1 := P1.below b
  replace P2 := P2.below b
  replace E := E.below b
  replace B := B.trans (b.mono B.size)
  clear b
  go_wp2_with fail
  refine (mulV R 48 P1 P2 (by decide) (by decide)).mono ?_
  rintro e w3 ⟨a_x, n_x, c_x, rfl, h, b⟩
  replace P1 := P1.below b
  replace P2 := P2.below b
  replace E := E.below b
  replace R := R.below b
  replace B := B.trans (b.mono B.size)
  have Px := h
  clear h b
  clear t1 t2
  go_wp2_with fail
  refine (rtrimV P1 (by decide)).mono ?_
  rintro e w4 ⟨a_t, n_t, c_t, rfl, h, b⟩
  replace P1 := P1.below b
  replace P2 := P2.below b
  replace Px := Px.below b
  replace E := E.below b
  replace R := R.below b
  replace B := B.trans (b.mono B.size)
  have Pt := h
  clear h b
  go_wp2_with fail
  refine (trimV R P1 (by decide)).mono ?_
  rintro e w5 ⟨a_u, n_u, c_u, rfl, h, b⟩
  replace P1 := P1.below b
  replace P2 := P2.below b
  replace Px := Px.below b
  replace Pt := Pt.below b
  replace E := E.below b
  replace R := R.below b
  replace B := B.trans (b.mono B.size)
  have Pu := h
  clear h b
  go_wp2_with fail
  refine (sameV Pu Pt (rfl)).mono ?_
  rintro e w6 ⟨rfl, d⟩
  have b := d.below w5.heap.size
  replace P1 := P1.below b
  replace P2 := P2.below b
  replace Px := Px.below b
  replace Pt := Pt.below b
  replace Pu := Pu.below b
  replace E := E.below b
  replace R := R.below b
  replace B := B.trans (b.mono B.size)
  clear b d
  clear Pu
  have ht : Pl.top p 24 = n_t := by rw [← Pt.top]; exact top_same P1.bd Pt.bd
  have hn := Pt.le
  have hw : IntKind.i64.wrap ((n_t : Int) - 1) = (n_t : Int) - 1 := IntWalk.i64_in _ (by omega)
  go_wp2_with fail
  refine (degV R P1).mono ?_
  rintro e w' ⟨rfl, rfl⟩
  rw [ht]
  clear ht
  go_wp2_with fail
  refine (addV R 24 P1 P2 (by decide) (by decide) (by decide)).mono ?_
  rintro e w7 ⟨a_u, n_u, c_u, rfl, h, b⟩
  replace P1 := P1.below b
  replace P2 := P2.below b
  replace Px := Px.below b
  replace Pt := Pt.below b
  replace E := E.below b
  replace R := R.below b
  replace B := B.trans (b.mono B.size)
  have Pu := h
  clear h b
  clear hw hn
  clear Pt
  go_wp2_with fail
  refine (raddV 24 P1 P2 (by decide) (by decide) (by decide)).mono ?_
  rintro e w8 ⟨a_v, n_v, c_v, rfl, h, b⟩
  replace P1 := P1.below b
  replace P2 := P2.below b
  replace Px := Px.below b
  replace Pu := Pu.below b
  replace E := E.below b
  replace R := R.below b
  replace B := B.trans (b.mono B.size)
  have Pv := h
  clear h b
  go_wp2_with fail
  refine (sameV Pu Pv (rfl)).mono ?_
  rintro e w9 ⟨rfl, d⟩
  have b := d.below w8.heap.size
  replace P1 := P1.below b
  replace P2 := P2.below b
  replace Px := Px.below b
  replace Pu := Pu.below b
  replace Pv := Pv.below b
  replace E := E.below b
  replace R := R.below b
  replace B := B.trans (b.mono B.size)
  clear b d
  clear Pu Pv
  go_wp2_with fail
  refine (scaleV x3 R P1 (by decide)).mono ?_
  rintro e w10 ⟨a_u, n_u, c_u, rfl, h, b⟩
  replace P1 := P1.below b
  replace P2 := P2.below b
  replace Px := Px.below b
  replace E := E.below b
  replace R := R.below b
  replace B := B.trans (b.mono B.size)
  have Pu := h
  clear h b
  go_wp2_with fail
  generalize hw : w10.alloc (.cells #[.int .i64 x3] 3 (0, 0)) = w11
  obtain ⟨h, b, hs⟩ := lit_new w10 w11 [x3] 1 rfl (by decide) hw.symm
  clear hw
  replace P1 := P1.below b
  replace P2 := P2.below b
  replace Px := Px.below b
  replace Pu := Pu.below b
  replace E := E.below b
  replace R := R.below b
  replace B := B.trans (b.mono B.size)
  have Pl := h.pv (sr (rm x0) [x3]) rfl 1 (by decide)
  clear h b
  refine (rtimesV 25 P1 Pl (by decide) (by decide)).mono ?_
  rintro e w12 ⟨a_v, n_v, c_v, rfl, h, b⟩
  replace P1 := P1.below b
  replace P2 := P2.below b
  replace Px := Px.below b
  replace Pu := Pu.below b
  replace Pl := Pl.below b
  replace E := E.below b
  replace R := R.below b
  replace B := B.trans (b.mono B.size)
  have Pv := h
  clear h b
  go_wp2_with fail
  refine (sameV Pu Pv (psm_lit x3 p)).mono ?_
  rintro e w13 ⟨rfl, d⟩
  have b := d.below w12.heap.size
  replace P1 := P1.below b
  replace P2 := P2.below b
  replace Px := Px.below b
  replace Pu := Pu.below b
  replace Pl := Pl.below b
  replace Pv := Pv.below b
  replace E := E.below b
  replace R := R.below b
  replace B := B.trans (b.mono B.size)
  clear b d
  clear Pu Pv Pl
  go_wp2_with fail
  refine (rtimesV 48 P1 P2 (by decide) (by decide)).mono ?_
  rintro e w14 ⟨a_v, n_v, c_v, rfl, h, b⟩
  replace P1 := P1.below b
  replace P2 := P2.below b
  replace Px := Px.below b
  replace E := E.below b
  replace R := R.below b
  replace B := B.trans (b.mono B.size)
  have Pv := h
  clear h b
  go_wp2_with fail
  refine (sameV Px Pv (rfl)).mono ?_
  rintro e w15 ⟨rfl, d⟩
  have b := d.below w14.heap.size
  replace P1 := P1.below b
  replace P2 := P2.below b
  replace Px := Px.below b
  replace Pv := Pv.below b
  replace E := E.below b
  replace R := R.below b
  replace B := B.trans (b.mono B.size)
  clear b d
  clear Px Pv
  go_wp2_with fail
  refine (evalV x3 R P1).mono ?_
  rintro e w16 ⟨rfl, d⟩
  have b := d.below w15.heap.size
  replace P1 := P1.below b
  replace P2 := P2.below b
  replace E := E.below b
  replace R := R.below b
  replace B := B.trans (b.mono B.size)
  clear b d
  go_wp2_with fail
  refine (revalV x3 P1).mono ?_
  rintro e w17 ⟨rfl, b⟩
  replace P1 := P1.below b
  replace P2 := P2.below b
  replace E := E.below b
  replace R := R.below b
  replace B := B.trans (b.mono B.size)
  clear b
  go_wp2_with fail
  refine (derV R P1 (by decide)).mono ?_
  rintro e w18 ⟨a_u, n_u, c_u, rfl, h, b⟩
  replace P1 := P1.below b
  replace P2 := P2.below b
  replace E := E.below b
  replace R := R.below b
  replace B := B.trans (b.mono B.size)
  have Pu := h
  clear h b
  go_wp2_with fail
  refine (rderV P1 (by decide)).mono ?_
  rintro e w19 ⟨a_v, n_v, c_v, rfl, h, b⟩
  replace P1 := P1.below b
  replace P2 := P2.below b
  replace Pu := Pu.below b
  replace E := E.below b
  replace R := R.below b
  replace B := B.trans (b.mono B.size)
  have Pv := h
  clear h b
  go_wp2_with fail
  refine (sameV Pu Pv (rfl)).mono ?_
  rintro e w20 ⟨rfl, d⟩
  have b := d.below w19.heap.size
  replace P1 := P1.below b
  replace P2 := P2.below b
  replace Pu := Pu.below b
  replace Pv := Pv.below b
  replace E := E.below b
  replace R := R.below b
  replace B := B.trans (b.mono B.size)
  clear b d
  clear Pu Pv
  go_wp2_with fail
  refine (gcdV R 24 P1 P2 (by decide) (by decide) (by decide)).mono ?_
  rintro e w21 ⟨a_u, n_u, c_u, Gu, rfl, h, hgu, b⟩
  replace P1 := P1.below b
  replace P2 := P2.below b
  replace E := E.below b
  replace R := R.below b
  replace B := B.trans (b.mono B.size)
  have Pu := h
  clear h b
  have HGu := Lib.hid hgu
  clear hgu
  go_wp2_with fail
  refine (rgcdV 24 P1 P2 (by decide) (by decide) (by decide)).mono ?_
  rintro e w22 ⟨a_v, n_v, c_v, Gv, rfl, h, hgv, b⟩
  replace P1 := P1.below b
  replace P2 := P2.below b
  replace Pu := Pu.below b
  replace E := E.below b
  replace R := R.below b
  replace B := B.trans (b.mono B.size)
  have Pv := h
  clear h b
  have HGv := Lib.hid hgv
  clear hgv
  go_wp2_with fail
  refine (sameV Pu Pv (HGu.out.unique HGv.out)).mono ?_
  rintro e w23 ⟨rfl, d⟩
  have b := d.below w22.heap.size
  replace P1 := P1.below b
  replace P2 := P2.below b
  replace Pu := Pu.below b
  replace Pv := Pv.below b
  replace E := E.below b
  replace R := R.below b
  replace B := B.trans (b.mono B.size)
  clear b d
  clear Pu Pv
  go_wp2_with fail
  refine (rootsV_any R P1 (by decide)).mono ?_
  rintro e w24 ⟨a_u, n_u, c_u, rfl, h, b⟩
  replace P1 := P1.below b
  replace P2 := P2.below b
  replace E := E.below b
  replace R := R.below b
  replace B := B.trans (b.mono B.size)
  have Pu := h
  clear h b
  go_wp2_with fail
  refine (rrootsV P1 (by decide)).mono ?_
  rintro e w25 ⟨a_v, n_v, c_v, rfl, h, b⟩
  replace P1 := P1.below b
  replace P2 := P2.below b
  replace Pu := Pu.below b
  replace E := E.below b
  replace R := R.below b
  replace B := B.trans (b.mono B.size)
  have Pv := h
  clear h b
  go_wp2_with fail
  refine (sameZ_any _ _ _ _ _ _ _ _ w25 Pu Pv).mono ?_
  rintro e w26 ⟨rfl, d⟩
  rw [decide_eq_true (rfl)]
  have b := d.below w25.heap.size
  replace P1 := P1.below b
  replace P2 := P2.below b
  replace Pu := Pu.below b
  replace Pv := Pv.below b
  replace E := E.below b
  replace R := R.below b
  replace B := B.trans (b.mono B.size)
  clear b d
  clear Pu Pv
  go_wp2_with fail
  refine (divV R 24 P1 P2 (by decide) (by decide) (by decide) H0.out).mono ?_
  rintro e w27 ⟨a_d, n_d, c_d, a_s, n_s, c_s, Qd, Ls, rfl, h, h2, hd, b⟩
  replace P1 := P1.below b
  replace P2 := P2.below b
  replace E := E.below b
  replace R := R.below b
  replace B := B.trans (b.mono B.size)
  have Pd := h
  have Ps := h2
  have HDs := Lib.hid hd
  clear h h2 b hd
  go_wp2_with fail
  refine (rtrimV P2 (by decide)).mono ?_
  rintro e w28 ⟨a_t, n_t, c_t, rfl, h, b⟩
  replace P1 := P1.below b
  replace P2 := P2.below b
  replace Pd := Pd.below b
  replace Ps := Ps.below b
  replace E := E.below b
  replace R := R.below b
  replace B := B.trans (b.mono B.size)
  have Pt := h
  clear h b
  obtain ⟨kt, rfl, _⟩ := nv_pos Pt H0.out
  have tz : (((kt + 1 : Nat) : Int) == 0) = false := by rw [beq_eq_false_iff_ne]; omega
  have tz' : ((kt : Int) + 1 == 0) = false := by rw [beq_eq_false_iff_ne]; omega
  go_wp2_with fail
  refine (rdivV 24 P1 P2 (by decide) (by decide) (by decide) H0.out).mono ?_
  rintro e w29 ⟨a_u, n_u, c_u, a_v, n_v, c_v, Qu, Lv, rfl, h, h2, hd, b⟩
  replace P1 := P1.below b
  replace P2 := P2.below b
  replace Pd := Pd.below b
  replace Ps := Ps.below b
  replace Pt := Pt.below b
  replace E := E.below b
  replace R := R.below b
  replace B := B.trans (b.mono B.size)
  have Pu := h
  have Pv := h2
  have HDv := Lib.hid hd
  clear h h2 b hd
  have he := div_unique (top_deg P2.bd H0.out) HDs.out HDv.out
  have he1 := Lib.hid he.1
  have he2 := Lib.hid he.2
  clear he tz
  go_wp2_with fail
  refine (sameV Pd Pu (he1.out)).mono ?_
  rintro e w30 ⟨rfl, d⟩
  have b := d.below w29.heap.size
  replace P1 := P1.below b
  replace P2 := P2.below b
  replace Pd := Pd.below b
  replace Ps := Ps.below b
  replace Pt := Pt.below b
  replace Pu := Pu.below b
  replace Pv := Pv.below b
  replace E := E.below b
  replace R := R.below b
  replace B := B.trans (b.mono B.size)
  clear b d
  go_wp2_with fail
  refine (sameV Ps Pv (he2.out)).mono ?_
  rintro e w31 ⟨rfl, d⟩
  have b := d.below w30.heap.size
  replace P1 := P1.below b
  replace P2 := P2.below b
  replace Pd := Pd.below b
  replace Ps := Ps.below b
  replace Pt := Pt.below b
  replace Pu := Pu.below b
  replace Pv := Pv.below b
  replace E := E.below b
  replace R := R.below b
  replace B := B.trans (b.mono B.size)
  clear b d
  go_wp2_with fail
  go_ret
  exact ⟨rfl, B⟩
set_option maxRecDepth 100000 in
set_option maxHeartbeats 8000000 in
theorem coreZ (x0 : Int) (a1 : Option Addr) (n1 c1 : Nat) (a2 : Option Addr) (n2 c2 : Nat) (x3 : Int) (p q : Ser (El (rm x0))) (w : World) (yE : Addr) (E : ErrAt w 0 yE) (P1 : PV (rm x0) w 24 a1 n1 c1 p) (P2 : PV (rm x0) w 24 a2 n2 c2 q) (k1 : n1 ≤ 24) (k2 : n2 ≤ 24) (h0 : q = pz) :
    Calls Tryd.prog 3 #[.int .i64 x0, .slice a1 n1 c1, .slice a2 n2 c2, .int .i64 x3] w fun e w' => e = .returned (.bool true) ∧ Below w.heap.size w w' := by
  have t1 : decide ((24 : Int) < (n1 : Int)) = false := decide_eq_false (by omega)
  have t2 : decide ((24 : Int) < (n2 : Int)) = false := decide_eq_false (by omega)
  have H0 := Lib.hid h0
  clear h0
  go_enter Tryd.func3, Tryd.ntmps3
  go_wp2_with fail
  refine (first_any w).mono ?_
  rintro e w1 ⟨rfl, B⟩
  replace P1 := P1.below B
  replace P2 := P2.below B
  replace E := E.below B
  go_wp2_with fail
  refine (ring_any x0 w1).mono ?_
  rintro e w2 ⟨g, s, be, ce, bl, rfl, R, b⟩
  replace P1 := P1.below b
  replace P2 := P2.below b
  replace E := E.below b
  replace B := B.trans (b.mono B.size)
  clear b
  go_wp2_with fail
  refine (mulV R 48 P1 P2 (by decide) (by decide)).mono ?_
  rintro e w3 ⟨a_x, n_x, c_x, rfl, h, b⟩
  replace P1 := P1.below b
  replace P2 := P2.below b
  replace E := E.below b
  replace R := R.below b
  replace B := B.trans (b.mono B.size)
  have Px := h
  clear h b
  clear t1 t2
  go_wp2_with fail
  refine (rtrimV P1 (by decide)).mono ?_
  rintro e w4 ⟨a_t, n_t, c_t, rfl, h, b⟩
  replace P1 := P1.below b
  replace P2 := P2.below b
  replace Px := Px.below b
  replace E := E.below b
  replace R := R.below b
  replace B := B.trans (b.mono B.size)
  have Pt := h
  clear h b
  go_wp2_with fail
  refine (trimV R P1 (by decide)).mono ?_
  rintro e w5 ⟨a_u, n_u, c_u, rfl, h, b⟩
  replace P1 := P1.below b
  replace P2 := P2.below b
  replace Px := Px.below b
  replace Pt := Pt.below b
  replace E := E.below b
  replace R := R.below b
  replace B := B.trans (b.mono B.size)
  have Pu := h
  clear h b
  go_wp2_with fail
  refine (sameV Pu Pt (rfl)).mono ?_
  rintro e w6 ⟨rfl, d⟩
  have b := d.below w5.heap.size
  replace P1 := P1.below b
  replace P2 := P2.below b
  replace Px := Px.below b
  replace Pt := Pt.below b
  replace Pu := Pu.below b
  replace E := E.below b
  replace R := R.below b
  replace B := B.trans (b.mono B.size)
  clear b d
  clear Pu
  have ht : Pl.top p 24 = n_t := by rw [← Pt.top]; exact top_same P1.bd Pt.bd
  have hn := Pt.le
  have hw : IntKind.i64.wrap ((n_t : Int) - 1) = (n_t : Int) - 1 := IntWalk.i64_in _ (by omega)
  go_wp2_with fail
  refine (degV R P1).mono ?_
  rintro e w' ⟨rfl, rfl⟩
  rw [ht]
  clear ht
  go_wp2_with fail
  refine (addV R 24 P1 P2 (by decide) (by decide) (by decide)).mono ?_
  rintro e w7 ⟨a_u, n_u, c_u, rfl, h, b⟩
  replace P1 := P1.below b
  replace P2 := P2.below b
  replace Px := Px.below b
  replace Pt := Pt.below b
  replace E := E.below b
  replace R := R.below b
  replace B := B.trans (b.mono B.size)
  have Pu := h
  clear h b
  clear hw hn
  clear Pt
  go_wp2_with fail
  refine (raddV 24 P1 P2 (by decide) (by decide) (by decide)).mono ?_
  rintro e w8 ⟨a_v, n_v, c_v, rfl, h, b⟩
  replace P1 := P1.below b
  replace P2 := P2.below b
  replace Px := Px.below b
  replace Pu := Pu.below b
  replace E := E.below b
  replace R := R.below b
  replace B := B.trans (b.mono B.size)
  have Pv := h
  clear h b
  go_wp2_with fail
  refine (sameV Pu Pv (rfl)).mono ?_
  rintro e w9 ⟨rfl, d⟩
  have b := d.below w8.heap.size
  replace P1 := P1.below b
  replace P2 := P2.below b
  replace Px := Px.below b
  replace Pu := Pu.below b
  replace Pv := Pv.below b
  replace E := E.below b
  replace R := R.below b
  replace B := B.trans (b.mono B.size)
  clear b d
  clear Pu Pv
  go_wp2_with fail
  refine (scaleV x3 R P1 (by decide)).mono ?_
  rintro e w10 ⟨a_u, n_u, c_u, rfl, h, b⟩
  replace P1 := P1.below b
  replace P2 := P2.below b
  replace Px := Px.below b
  replace E := E.below b
  replace R := R.below b
  replace B := B.trans (b.mono B.size)
  have Pu := h
  clear h b
  go_wp2_with fail
  generalize hw : w10.alloc (.cells #[.int .i64 x3] 3 (0, 0)) = w11
  obtain ⟨h, b, hs⟩ := lit_new w10 w11 [x3] 1 rfl (by decide) hw.symm
  clear hw
  replace P1 := P1.below b
  replace P2 := P2.below b
  replace Px := Px.below b
  replace Pu := Pu.below b
  replace E := E.below b
  replace R := R.below b
  replace B := B.trans (b.mono B.size)
  have Pl := h.pv (sr (rm x0) [x3]) rfl 1 (by decide)
  clear h b
  refine (rtimesV 25 P1 Pl (by decide) (by decide)).mono ?_
  rintro e w12 ⟨a_v, n_v, c_v, rfl, h, b⟩
  replace P1 := P1.below b
  replace P2 := P2.below b
  replace Px := Px.below b
  replace Pu := Pu.below b
  replace Pl := Pl.below b
  replace E := E.below b
  replace R := R.below b
  replace B := B.trans (b.mono B.size)
  have Pv := h
  clear h b
  go_wp2_with fail
  refine (sameV Pu Pv (psm_lit x3 p)).mono ?_
  rintro e w13 ⟨rfl, d⟩
  have b := d.below w12.heap.size
  replace P1 := P1.below b
  replace P2 := P2.below b
  replace Px := Px.below b
  replace Pu := Pu.below b
  replace Pl := Pl.below b
  replace Pv := Pv.below b
  replace E := E.below b
  replace R := R.below b
  replace B := B.trans (b.mono B.size)
  clear b d
  clear Pu Pv Pl
  go_wp2_with fail
  refine (rtimesV 48 P1 P2 (by decide) (by decide)).mono ?_
  rintro e w14 ⟨a_v, n_v, c_v, rfl, h, b⟩
  replace P1 := P1.below b
  replace P2 := P2.below b
  replace Px := Px.below b
  replace E := E.below b
  replace R := R.below b
  replace B := B.trans (b.mono B.size)
  have Pv := h
  clear h b
  go_wp2_with fail
  refine (sameV Px Pv (rfl)).mono ?_
  rintro e w15 ⟨rfl, d⟩
  have b := d.below w14.heap.size
  replace P1 := P1.below b
  replace P2 := P2.below b
  replace Px := Px.below b
  replace Pv := Pv.below b
  replace E := E.below b
  replace R := R.below b
  replace B := B.trans (b.mono B.size)
  clear b d
  clear Px Pv
  go_wp2_with fail
  refine (evalV x3 R P1).mono ?_
  rintro e w16 ⟨rfl, d⟩
  have b := d.below w15.heap.size
  replace P1 := P1.below b
  replace P2 := P2.below b
  replace E := E.below b
  replace R := R.below b
  replace B := B.trans (b.mono B.size)
  clear b d
  go_wp2_with fail
  refine (revalV x3 P1).mono ?_
  rintro e w17 ⟨rfl, b⟩
  replace P1 := P1.below b
  replace P2 := P2.below b
  replace E := E.below b
  replace R := R.below b
  replace B := B.trans (b.mono B.size)
  clear b
  go_wp2_with fail
  refine (derV R P1 (by decide)).mono ?_
  rintro e w18 ⟨a_u, n_u, c_u, rfl, h, b⟩
  replace P1 := P1.below b
  replace P2 := P2.below b
  replace E := E.below b
  replace R := R.below b
  replace B := B.trans (b.mono B.size)
  have Pu := h
  clear h b
  go_wp2_with fail
  refine (rderV P1 (by decide)).mono ?_
  rintro e w19 ⟨a_v, n_v, c_v, rfl, h, b⟩
  replace P1 := P1.below b
  replace P2 := P2.below b
  replace Pu := Pu.below b
  replace E := E.below b
  replace R := R.below b
  replace B := B.trans (b.mono B.size)
  have Pv := h
  clear h b
  go_wp2_with fail
  refine (sameV Pu Pv (rfl)).mono ?_
  rintro e w20 ⟨rfl, d⟩
  have b := d.below w19.heap.size
  replace P1 := P1.below b
  replace P2 := P2.below b
  replace Pu := Pu.below b
  replace Pv := Pv.below b
  replace E := E.below b
  replace R := R.below b
  replace B := B.trans (b.mono B.size)
  clear b d
  clear Pu Pv
  go_wp2_with fail
  refine (gcdV R 24 P1 P2 (by decide) (by decide) (by decide)).mono ?_
  rintro e w21 ⟨a_u, n_u, c_u, Gu, rfl, h, hgu, b⟩
  replace P1 := P1.below b
  replace P2 := P2.below b
  replace E := E.below b
  replace R := R.below b
  replace B := B.trans (b.mono B.size)
  have Pu := h
  clear h b
  have HGu := Lib.hid hgu
  clear hgu
  go_wp2_with fail
  refine (rgcdV 24 P1 P2 (by decide) (by decide) (by decide)).mono ?_
  rintro e w22 ⟨a_v, n_v, c_v, Gv, rfl, h, hgv, b⟩
  replace P1 := P1.below b
  replace P2 := P2.below b
  replace Pu := Pu.below b
  replace E := E.below b
  replace R := R.below b
  replace B := B.trans (b.mono B.size)
  have Pv := h
  clear h b
  have HGv := Lib.hid hgv
  clear hgv
  go_wp2_with fail
  refine (sameV Pu Pv (HGu.out.unique HGv.out)).mono ?_
  rintro e w23 ⟨rfl, d⟩
  have b := d.below w22.heap.size
  replace P1 := P1.below b
  replace P2 := P2.below b
  replace Pu := Pu.below b
  replace Pv := Pv.below b
  replace E := E.below b
  replace R := R.below b
  replace B := B.trans (b.mono B.size)
  clear b d
  clear Pu Pv
  go_wp2_with fail
  refine (rootsV_any R P1 (by decide)).mono ?_
  rintro e w24 ⟨a_u, n_u, c_u, rfl, h, b⟩
  replace P1 := P1.below b
  replace P2 := P2.below b
  replace E := E.below b
  replace R := R.below b
  replace B := B.trans (b.mono B.size)
  have Pu := h
  clear h b
  go_wp2_with fail
  refine (rrootsV P1 (by decide)).mono ?_
  rintro e w25 ⟨a_v, n_v, c_v, rfl, h, b⟩
  replace P1 := P1.below b
  replace P2 := P2.below b
  replace Pu := Pu.below b
  replace E := E.below b
  replace R := R.below b
  replace B := B.trans (b.mono B.size)
  have Pv := h
  clear h b
  go_wp2_with fail
  refine (sameZ_any _ _ _ _ _ _ _ _ w25 Pu Pv).mono ?_
  rintro e w26 ⟨rfl, d⟩
  rw [decide_eq_true (rfl)]
  have b := d.below w25.heap.size
  replace P1 := P1.below b
  replace P2 := P2.below b
  replace Pu := Pu.below b
  replace Pv := Pv.below b
  replace E := E.below b
  replace R := R.below b
  replace B := B.trans (b.mono B.size)
  clear b d
  clear Pu Pv
  have HZ : q = pz := H0.out
  subst HZ
  go_wp2_with fail
  refine (divZ R P1 P2 (by decide) (by decide) yE E).mono ?_
  rintro e w27 ⟨rfl, b⟩
  replace P1 := P1.below b
  replace P2 := P2.below b
  replace E := E.below b
  replace R := R.below b
  replace B := B.trans (b.mono B.size)
  clear b
  go_wp2_with fail
  refine (rtrimV P2 (by decide)).mono ?_
  rintro e w28 ⟨a_t, n_t, c_t, rfl, h, b⟩
  replace P1 := P1.below b
  replace P2 := P2.below b
  replace E := E.below b
  replace R := R.below b
  replace B := B.trans (b.mono B.size)
  have Pt := h
  clear h b
  obtain rfl : n_t = 0 := nv_zero Pt rfl
  have e3 := E.1
  unfold Sent at e3
  have q1 := eql_err yE
  go_wp2_with fail
  go_ret
  exact ⟨rfl, B⟩
theorem walk (x0 : Int) (a1 : Option Addr) (len1 cap1 : Nat) (z1 : List Int) (a2 : Option Addr) (len2 cap2 : Nat) (z2 : List Int) (x3 : Int) (W : World) (w0 : (Lit.int .i64 x0).wf = true) (w1 : IsRow .i64 W a1 len1 cap1 z1) (w2 : IsRow .i64 W a2 len2 cap2 z2) (w3 : (Lit.int .i64 x3).wf = true) (h : LaidPolySays.Holds W) :
    Calls Tryd.prog 3 #[.int .i64 x0, .slice a1 len1 cap1, .slice a2 len2 cap2, .int .i64 x3] W fun e w' => e = .returned (.bool true) ∧ Below W.heap.size W w' := by
  obtain ⟨f, ⟨E0, E1, E2⟩, _⟩ := h
  by_cases k1 : len1 ≤ 24
  rotate_left
  · exact long x0 a1 len1 cap1 a2 len2 cap2 x3 W (by omega)
  by_cases k2 : len2 ≤ 24
  rotate_left
  · exact long x0 a1 len1 cap1 a2 len2 cap2 x3 W (by omega)
  obtain ⟨p, P1⟩ := row_pv (m := rm x0) w1 24 k1
  obtain ⟨q, P2⟩ := row_pv (m := rm x0) w2 24 k2
  by_cases h0 : q = pz
  · exact coreZ x0 a1 len1 cap1 a2 len2 cap2 x3 p q W _ E1 P1 P2 k1 k2 h0
  · exact coreN x0 a1 len1 cap1 a2 len2 cap2 x3 p q W _ E1 P1 P2 k1 k2 h0
end Go.Proofs.YtgfaaaeechgjmaaDoor.walkPolySays
