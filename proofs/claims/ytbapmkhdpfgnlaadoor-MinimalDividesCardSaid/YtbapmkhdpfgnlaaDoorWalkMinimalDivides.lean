/- The walk over MinimalDivides. By the verifier of shale. -/
import Derived.Test.YtbapmkhdpfgnlaaDoorGreat1
import Derived.Test.YtbapmkhdpfgnlaaDoorGreat2
import Derived.Test.YtbapmkhdpfgnlaaDoorGreat3
import Derived.Test.YtbapmkhdpfgnlaaDoorGreat4
import Derived.Test.YtbapmkhdpfgnlaaDoorGreat5
import Derived.Test.YtbapmkhdpfgnlaaDoorLaidMinimalDivides
namespace Go.Proofs.YtbapmkhdpfgnlaaDoor.walkMinimalDivides
open Go Go.RowKit Cos Bin
set_option linter.unusedVariables false
theorem xp_room (l : List Nat) (k : Nat) (h : ∀ e ∈ l, e < 8 * k) : xp l < room k := xp_lt l _ h
set_option maxRecDepth 100000 in
set_option maxHeartbeats 4000000 in
theorem core (x0 x1 : Int) (w : World) (y : Addr) (E : ErrAt w 1 y) :
    Calls Tryd.prog 6 #[.int .i64 x0, .int .i64 x1] w fun e w' => e = .returned (.bool true) ∧ Below w.heap.size w w' := by
  have hm3 : 3 ≤ mk7 x0 := Pl.Mid.lo
  have hm9 := mk7_hi x0
  have hf := rs_lt hm3 x1
  have hgood := good_all (m := mk7 x0) hm9 hf
  have hdeg := mpv_deg (m := mk7 x0) hf
  have hle := cos_len_le hm3 hf
  obtain ⟨f, hfe⟩ : ∃ f, f = rs (mk7 x0) x1 := ⟨_, rfl⟩
  rw [← hfe] at hf hgood hdeg hle
  have HFE := Lib.hid hfe
  obtain ⟨v, hv⟩ : ∃ v, v = mpv (mk7 x0) f := ⟨_, rfl⟩
  rw [← hv] at hgood hdeg
  have HV := Lib.hid hv
  obtain ⟨L, hL⟩ : ∃ L, L = (cos (mk7 x0) f).length := ⟨_, rfl⟩
  rw [← hL] at hdeg hle
  have HL := Lib.hid hL
  have HIr : Hid (irrC v = true) := hgood.1
  have HPm : Hid (pmod (xp [sz (mk7 x0), 0]) v = 0) := hgood.2
  have HV0 : Hid (v ≠ 0) := hdeg.1
  have HDg : Hid (degZ v = (L : Int)) := hdeg.2
  have HFs := Lib.hid hf
  clear hgood hdeg hfe hv hL hf
  have hm14 : ((mk7 x0 : Nat) : Int) ≤ 14 := by omega
  have ho := Fld.shl_one (mk7 x0) (by omega)
  have hn := sz_lo hm3
  have hn2 : sz (mk7 x0) ≤ 511 := by
    have := Nat.pow_le_pow_right (by decide : 0 < 2) hm9
    unfold sz; omega
  have hw : IntKind.i64.wrap ((Fld.els (mk7 x0) : Int) - 1) = (sz (mk7 x0) : Int) := by
    have : (Fld.els (mk7 x0) : Int) - 1 = (sz (mk7 x0) : Int) := by unfold Fld.els sz; have := Nat.two_pow_pos (mk7 x0); omega
    rw [this]; exact IntWalk.i64_in _ (by omega)
  obtain ⟨N, hN⟩ : ∃ N, N = sz (mk7 x0) := ⟨_, rfl⟩
  rw [← hN] at hn hn2 hw HPm
  have HN := Lib.hid hN
  clear hN
  go_enter Tryd.func6, Tryd.ntmps6
  go_wp2_with fail
  refine (first_any w y E).mono ?_
  rintro e w1 ⟨rfl, B⟩
  go_wp2_with fail
  refine (made_any x0 w1).mono ?_
  rintro e w2 ⟨s, be, ce, bl, rfl, F, b⟩
  replace B := B.trans (b.mono B.size)
  clear b E
  go_wp2_with fail
  refine (Cos.of_any (m := mk7 x0) x1 w2 F).mono ?_
  rintro e w3 ⟨ap, np, cp, rfl, P, b⟩
  rw [← HFE.out, ← HV.out] at P
  replace B := B.trans (b.mono B.size)
  replace F := F.below hm3 b
  clear b
  go_wp2_with fail
  refine (coset_any (mk7 x0) hm3 (by omega) x1 w3).mono ?_
  rintro e w4 ⟨ac, nc, cc, rfl, hO, b⟩
  rw [← HFE.out] at hO
  have hl := hO.len
  rw [ints_length, ← HL.out] at hl
  obtain rfl : nc = L := hl.symm
  have Rc := (Pl.own_rowz hO).1
  replace B := B.trans (b.mono B.size)
  replace F := F.below hm3 b
  replace P := newV_since P b
  clear b hO hl
  go_wp2_with fail
  obtain ⟨r1, b1⟩ := row_lit w4 [N, 0] 2 rfl
  unfold litN at r1 b1
  refine (Bin.of_any _ 2 2 [N, 0] _ r1 (by omega) (fun e he => by simp at he; omega)).mono ?_
  rintro e w5 ⟨ax, nx, cx, Y, rfl, hY, bY, vY, b2⟩
  have b := b1.trans (b2.mono b1.size)
  have hx64 : nx ≤ 64 := by
    have h := bare_len bY (k := 64) (by rw [vY]; exact xp_room [N, 0] 64 (fun e he => by simp at he; omega))
    have := hY.hlen
    omega
  have PX : PolV w5 64 ax nx cx (xp [N, 0]) := ⟨Y, hY.pol, vY, hx64⟩
  replace B := B.trans (b.mono B.size)
  replace F := F.below hm3 b
  replace P := newV_since P b
  replace Rc := Rc.below b
  clear r1 b1 b2 b hY bY vY hw
  go_wp2_with fail
  refine (degV P.pol (by decide)).mono ?_
  rintro e w' ⟨rfl, rfl⟩
  rw [HDg.out]
  go_wp2_with fail
  refine (irrV P.pol (by decide)).mono ?_
  rintro e w' ⟨rfl, rfl⟩
  rw [HIr.out]
  go_wp2_with fail
  refine (divV 64 PX P.pol (by decide) (by decide) (by decide) HV0.out).mono ?_
  rintro e w6 ⟨aq, nq, cq, ar, nr, cr, Q, Rm, rfl, _, hR, hd, b⟩
  have hR0 : Rm = 0 := by
    obtain ⟨q', h'⟩ := pmod_div (xp [N, 0]) HV0.out
    rw [(IsDiv.unique HV0.out hd h').2]; exact HPm.out
  rw [hR0] at hR
  have PR := hR.pol
  replace B := B.trans (b.mono B.size)
  replace F := F.below hm3 b
  replace P := newV_since P b
  replace Rc := Rc.below b
  have HS : Hid (Fld.FldAt (mk7 x0) w6 s be ce bl ∧ NewV w2 w6 2 ap np cp v ∧ Pl.RowZ w6 ac nc cc (Cos.ints (cos (mk7 x0) f)) ∧ PolV w6 64 ar nr cr 0 ∧ Below w.heap.size w w6) := ⟨F, P, Rc, PR, B⟩
  clear F P Rc PR B b hd hR0 hR PX
  go_wp2_with fail
  go_loopg [17] nc (fun gh s17 wx => ∃ (j : Nat), gh = nc - j ∧ j ≤ nc ∧ s17 = .int .i64 (j : Int) ∧ Hid (Fld.FldAt (mk7 x0) wx s be ce bl ∧ NewV w2 wx 2 ap np cp v ∧ Pl.RowZ wx ac nc cc (Cos.ints (cos (mk7 x0) f)) ∧ PolV wx 64 ar nr cr 0 ∧ Below w.heap.size w wx))
  case atStart => exact ⟨0, rfl, Nat.zero_le _, rfl, HS⟩
  case round =>
    clear HS
    obtain ⟨j, hg, hj, rfl, HS⟩ := hrel
    have HGh := Lib.hid hg
    clear hg
    by_cases hlt : j < nc
    · have x1' : (j : Int) < (nc : Int) := by omega
      have x0' : (0 : Int) ≤ (j : Int) := by omega
      have hjc : j < (cos (mk7 x0) f).length := by rw [← HL.out]; exact hlt
      obtain ⟨u, hu⟩ : ∃ u, u = (cos (mk7 x0) f).getD j 0 := ⟨_, rfl⟩
      have huc : u ∈ cos (mk7 x0) f := by rw [hu]; exact getD_lt hjc
      obtain ⟨bb, off, rfl, d1, _⟩ := HS.out.2.2.1.row j hlt
      have eu : (Cos.ints (cos (mk7 x0) f)).getD j 0 = (u : Int) := by
        rw [hu]
        unfold Cos.ints
        rw [List.getD_eq_getElem?_getD, List.getElem?_map, List.getD_eq_getElem?_getD, List.getElem?_eq_getElem hjc]; rfl
      rw [eu] at d1
      have HX : Hid (mpv (mk7 x0) (rs (mk7 x0) (u : Int)) = v) := by
        show _ = _
        rw [rs_nat ((mem_cos u).1 huc).1, mpv_same HFs.out huc, HV.out]
      clear hu huc eu hjc
      go_wp2_with fail
      refine (Cos.of_any (m := mk7 x0) (u : Int) wr HS.out.1).mono ?_
      rintro e w7 ⟨a7, n7, c7, rfl, h7, b7⟩
      rw [HX.out] at h7
      have HS7 : Hid (Fld.FldAt (mk7 x0) w7 s be ce bl ∧ NewV w2 w7 2 ap np cp v ∧ Pl.RowZ w7 (some ⟨bb, off, none⟩) nc cc (Cos.ints (cos (mk7 x0) f)) ∧ PolV w7 64 ar nr cr 0 ∧ Below w.heap.size w w7) := ⟨HS.out.1.below hm3 b7, newV_since HS.out.2.1 b7, HS.out.2.2.1.below b7, HS.out.2.2.2.1.below b7, HS.out.2.2.2.2.trans (b7.mono HS.out.2.2.2.2.size)⟩
      have P7 := HS7.out.2.1
      clear HS b7 d1
      go_wp2_with fail
      refine (sameNV h7 P7 rfl).mono ?_
      rintro e w' ⟨rfl, rfl⟩
      clear h7 P7
      go_wp2_with fail
      go_roundg (nc - (j + 1))
      case measure => have := HGh.out; omega
      case rel => exact ⟨j + 1, rfl, by omega, by go_num, HS7⟩
    · obtain rfl : j = nc := by omega
      have PR := HS.out.2.2.2.1
      have B := HS.out.2.2.2.2
      clear HS
      go_wp2_with fail
      refine (degV PR (by decide)).mono ?_
      rintro e w' ⟨rfl, rfl⟩
      rw [degZ_zero]
      go_wp2_with fail
      go_ret
      exact ⟨rfl, B⟩
theorem walk (x0 x1 : Int) (W : World) (w0 : (Lit.int .i64 x0).wf = true) (w1 : (Lit.int .i64 x1).wf = true) (h : LaidMinimalDivides.Holds W) :
    Calls Tryd.prog 6 #[.int .i64 x0, .int .i64 x1] W fun e w' => e = .returned (.bool true) ∧ Below W.heap.size W w' := by
  obtain ⟨f, ⟨E0, E1, E2, E3, E4⟩, _⟩ := h
  exact core x0 x1 W _ E4
end Go.Proofs.YtbapmkhdpfgnlaaDoor.walkMinimalDivides
