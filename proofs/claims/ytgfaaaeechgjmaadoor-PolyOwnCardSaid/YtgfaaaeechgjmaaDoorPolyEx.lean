/- The examples of chapter 4, as the statements ask them first of all. By the verifier of shale. -/
import Derived.Test.YtgfaaaeechgjmaaDoorPolyFirst
namespace Go.Proofs.YtgfaaaeechgjmaaDoor.Pl
open Go Go.RowKit Fld Bits16
set_option linter.unusedVariables false
set_option maxRecDepth 100000 in
set_option maxHeartbeats 4000000 in
theorem first_any (w : World) : Calls Tryd.prog 9 #[] w fun e w' => e = .returned (.bool true) ∧ Below w.heap.size w w' := by
  have HR := ring_any 1 w
  rw [rm1] at HR
  go_enter Tryd.func9, Tryd.ntmps9
  go_wp2_with fail
  refine HR.mono ?_
  rintro e w1 ⟨g, s, be, ce, bl, rfl, R, B⟩
  clear HR
  go_wp2_with fail
  generalize hw : w1.alloc (.cells #[.int .i64 1, .int .i64 1] 3 (0, 0)) = w2
  obtain ⟨h, b, hs⟩ := lit_new w1 w2 [1, 1] 2 rfl (by decide) hw.symm
  clear hw
  replace R := R.below b
  replace B := B.trans (b.mono B.size)
  have Px := h.pv (s4 [1, 1]) rfl 2 (by decide)
  clear h b
  generalize hw : w2.alloc (.cells #[.int .i64 1, .int .i64 1] 3 (0, 0)) = w3
  have hs1 := hs
  obtain ⟨h, b, hs⟩ := lit_new w2 w3 [1, 1] 2 rfl (by decide) hw.symm
  clear hw
  rw [hs1] at h
  clear hs1
  replace Px := Px.below b
  replace R := R.below b
  replace B := B.trans (b.mono B.size)
  have Py := h.pv (s4 [1, 1]) rfl 2 (by decide)
  clear h b
  refine (mulV R 4 Px Py (by decide) (by decide)).mono ?_
  rintro e w4 ⟨a_a, n_a, c_a, rfl, h, b⟩
  replace Px := Px.below b
  replace Py := Py.below b
  replace R := R.below b
  replace B := B.trans (b.mono B.size)
  have Pa := h
  clear h b
  clear Px Py
  go_wp2_with fail
  generalize hw : w4.alloc (.cells #[.int .i64 0, .int .i64 0, .int .i64 1] 3 (0, 0)) = w5
  obtain ⟨h, b, hs⟩ := lit_new w4 w5 [0, 0, 1] 3 rfl (by decide) hw.symm
  clear hw
  replace Pa := Pa.below b
  replace R := R.below b
  replace B := B.trans (b.mono B.size)
  have Px := h.pv (s4 [0, 0, 1]) rfl 3 (by decide)
  clear h b
  generalize hw : w5.alloc (.cells #[.int .i64 1, .int .i64 1] 3 (0, 0)) = w6
  have hs1 := hs
  obtain ⟨h, b, hs⟩ := lit_new w5 w6 [1, 1] 2 rfl (by decide) hw.symm
  clear hw
  rw [hs1] at h
  clear hs1
  replace Pa := Pa.below b
  replace Px := Px.below b
  replace R := R.below b
  replace B := B.trans (b.mono B.size)
  have Py := h.pv (s4 [1, 1]) rfl 2 (by decide)
  clear h b
  refine (divV R 3 Px Py (by decide) (by decide) (by decide) dg11.ne).mono ?_
  rintro e w7 ⟨a_q, n_q, c_q, a_r, n_r, c_r, Qq, Lr, rfl, h, h2, hd, b⟩
  replace Pa := Pa.below b
  replace Px := Px.below b
  replace Py := Py.below b
  replace R := R.below b
  replace B := B.trans (b.mono B.size)
  have Pq := h
  have Pr := h2
  have HDr := Lib.hid hd
  clear h h2 b hd
  have ht : Pl.top (s4 [1, 1]) 2 - 1 = 1 := by decide +kernel
  have he := div_unique dg11 (by have := HDr.out; rwa [ht] at this) y2
  obtain ⟨he1, he2⟩ := he
  subst he1; subst he2
  clear ht HDr
  clear Px Py
  go_wp2_with fail
  generalize hw : w7.alloc (.cells #[.int .i64 2, .int .i64 3] 3 (0, 0)) = w8
  obtain ⟨h, b, hs⟩ := lit_new w7 w8 [2, 3] 2 rfl (by decide) hw.symm
  clear hw
  replace Pa := Pa.below b
  replace Pq := Pq.below b
  replace Pr := Pr.below b
  replace R := R.below b
  replace B := B.trans (b.mono B.size)
  have Px := h
  clear h b
  refine (fromV R Px (by decide) 4 (by decide)).mono ?_
  rintro e w9 ⟨a_p, n_p, c_p, rfl, h, b⟩
  replace Pa := Pa.below b
  replace Pq := Pq.below b
  replace Pr := Pr.below b
  replace Px := Px.below b
  replace R := R.below b
  replace B := B.trans (b.mono B.size)
  have Pp := h
  clear h b
  clear Px
  go_wp2_with fail
  generalize hw : w9.alloc (.cells #[.int .i64 3, .int .i64 5] 3 (0, 0)) = w10
  obtain ⟨h, b, hs⟩ := lit_new w9 w10 [3, 5] 2 rfl (by decide) hw.symm
  clear hw
  replace Pa := Pa.below b
  replace Pq := Pq.below b
  replace Pr := Pr.below b
  replace Pp := Pp.below b
  replace R := R.below b
  replace B := B.trans (b.mono B.size)
  have Px := h
  clear h b
  refine (fromV R Px (by decide) 4 (by decide)).mono ?_
  rintro e w11 ⟨a_o, n_o, c_o, rfl, h, b⟩
  replace Pa := Pa.below b
  replace Pq := Pq.below b
  replace Pr := Pr.below b
  replace Pp := Pp.below b
  replace Px := Px.below b
  replace R := R.below b
  replace B := B.trans (b.mono B.size)
  have Po := h
  clear h b
  clear Px
  rw [y3] at Pp
  rw [y4] at Po
  rw [y1] at Pa
  go_wp2_with fail
  generalize hw : w11.alloc (.cells #[.int .i64 1, .int .i64 0, .int .i64 1] 3 (0, 0)) = w12
  obtain ⟨h, b, hs⟩ := lit_new w11 w12 [1, 0, 1] 3 rfl (by decide) hw.symm
  clear hw
  replace Pa := Pa.below b
  replace Pq := Pq.below b
  replace Pr := Pr.below b
  replace Pp := Pp.below b
  replace Po := Po.below b
  replace R := R.below b
  replace B := B.trans (b.mono B.size)
  have Px := h.nv (m := 4) (by decide +kernel) (by decide +kernel)
  clear h b
  refine (sameV Pa Px (rfl)).mono ?_
  rintro e w13 ⟨rfl, d⟩
  have b := d.below w12.heap.size
  replace Pa := Pa.below b
  replace Pq := Pq.below b
  replace Pr := Pr.below b
  replace Pp := Pp.below b
  replace Po := Po.below b
  replace Px := Px.below b
  replace R := R.below b
  replace B := B.trans (b.mono B.size)
  clear b d
  clear Px Pa
  go_wp2_with fail
  generalize hw : w13.alloc (.cells #[.int .i64 1, .int .i64 1, .int .i64 1] 3 (0, 0)) = w14
  obtain ⟨h, b, hs⟩ := lit_new w13 w14 [1, 1, 1] 3 rfl (by decide) hw.symm
  clear hw
  replace Pq := Pq.below b
  replace Pr := Pr.below b
  replace Pp := Pp.below b
  replace Po := Po.below b
  replace R := R.below b
  replace B := B.trans (b.mono B.size)
  have Px := h.pv (s4 [1, 1, 1]) rfl 3 (by decide)
  clear h b
  refine (evalV 2 R Px).mono ?_
  rintro e w15 ⟨rfl, d⟩
  rw [y7]
  have b := d.below w14.heap.size
  replace Pq := Pq.below b
  replace Pr := Pr.below b
  replace Pp := Pp.below b
  replace Po := Po.below b
  replace Px := Px.below b
  replace R := R.below b
  replace B := B.trans (b.mono B.size)
  clear b d
  clear Px
  go_wp2_with fail
  generalize hw : w15.alloc (.cells #[.int .i64 1, .int .i64 1] 3 (0, 0)) = w16
  obtain ⟨h, b, hs⟩ := lit_new w15 w16 [1, 1] 2 rfl (by decide) hw.symm
  clear hw
  replace Pq := Pq.below b
  replace Pr := Pr.below b
  replace Pp := Pp.below b
  replace Po := Po.below b
  replace R := R.below b
  replace B := B.trans (b.mono B.size)
  have Px := h.nv (m := 4) (by decide +kernel) (by decide +kernel)
  clear h b
  refine (sameV Pq Px (rfl)).mono ?_
  rintro e w17 ⟨rfl, d⟩
  have b := d.below w16.heap.size
  replace Pq := Pq.below b
  replace Pr := Pr.below b
  replace Pp := Pp.below b
  replace Po := Po.below b
  replace Px := Px.below b
  replace R := R.below b
  replace B := B.trans (b.mono B.size)
  clear b d
  clear Px Pq
  go_wp2_with fail
  generalize hw : w17.alloc (.cells #[.int .i64 1] 3 (0, 0)) = w18
  obtain ⟨h, b, hs⟩ := lit_new w17 w18 [1] 1 rfl (by decide) hw.symm
  clear hw
  replace Pr := Pr.below b
  replace Pp := Pp.below b
  replace Po := Po.below b
  replace R := R.below b
  replace B := B.trans (b.mono B.size)
  have Px := h.nv (m := 4) (by decide +kernel) (by decide +kernel)
  clear h b
  refine (sameV Pr Px (rfl)).mono ?_
  rintro e w19 ⟨rfl, d⟩
  have b := d.below w18.heap.size
  replace Pr := Pr.below b
  replace Pp := Pp.below b
  replace Po := Po.below b
  replace Px := Px.below b
  replace R := R.below b
  replace B := B.trans (b.mono B.size)
  clear b d
  clear Px Pr
  go_wp2_with fail
  generalize hw : w19.alloc (.cells #[.int .i64 6, .int .i64 1, .int .i64 1] 3 (0, 0)) = w20
  obtain ⟨h, b, hs⟩ := lit_new w19 w20 [6, 1, 1] 3 rfl (by decide) hw.symm
  clear hw
  replace Pp := Pp.below b
  replace Po := Po.below b
  replace R := R.below b
  replace B := B.trans (b.mono B.size)
  have Px := h.nv (m := 4) (by decide +kernel) (by decide +kernel)
  clear h b
  refine (sameV Pp Px (rfl)).mono ?_
  rintro e w21 ⟨rfl, d⟩
  have b := d.below w20.heap.size
  replace Pp := Pp.below b
  replace Po := Po.below b
  replace Px := Px.below b
  replace R := R.below b
  replace B := B.trans (b.mono B.size)
  clear b d
  clear Px
  go_wp2_with fail
  refine (gcdV R 4 Pp.pol Po.pol (by decide) (by decide) (by decide)).mono ?_
  rintro e w22 ⟨a_g, n_g, c_g, Gg, rfl, h, hgg, b⟩
  replace Pp := Pp.below b
  replace Po := Po.below b
  replace R := R.below b
  replace B := B.trans (b.mono B.size)
  have Pg := h
  clear h b
  have HGg := Lib.hid hgg
  clear hgg
  go_wp2_with fail
  generalize hw : w22.alloc (.cells #[.int .i64 3, .int .i64 1] 3 (0, 0)) = w23
  obtain ⟨h, b, hs⟩ := lit_new w22 w23 [3, 1] 2 rfl (by decide) hw.symm
  clear hw
  replace Pp := Pp.below b
  replace Po := Po.below b
  replace Pg := Pg.below b
  replace R := R.below b
  replace B := B.trans (b.mono B.size)
  have Px := h.nv (m := 4) (by decide +kernel) (by decide +kernel)
  clear h b
  refine (sameV Pg Px (IsG.unique HGg.out y5)).mono ?_
  rintro e w24 ⟨rfl, d⟩
  have b := d.below w23.heap.size
  replace Pp := Pp.below b
  replace Po := Po.below b
  replace Pg := Pg.below b
  replace Px := Px.below b
  replace R := R.below b
  replace B := B.trans (b.mono B.size)
  clear b d
  clear Px Pg Pp Po
  go_wp2_with fail
  generalize hw : w24.alloc (.cells #[.int .i64 1, .int .i64 2, .int .i64 3, .int .i64 4] 3 (0, 0)) = w25
  obtain ⟨h, b, hs⟩ := lit_new w24 w25 [1, 2, 3, 4] 4 rfl (by decide) hw.symm
  clear hw
  replace R := R.below b
  replace B := B.trans (b.mono B.size)
  have Px := h.pv (s4 [1, 2, 3, 4]) rfl 4 (by decide)
  clear h b
  refine (derV R Px (by decide)).mono ?_
  rintro e w26 ⟨a_d, n_d, c_d, rfl, h, b⟩
  replace Px := Px.below b
  replace R := R.below b
  replace B := B.trans (b.mono B.size)
  have Pd := h
  clear h b
  clear Px
  go_wp2_with fail
  generalize hw : w26.alloc (.cells #[.int .i64 2, .int .i64 0, .int .i64 4] 3 (0, 0)) = w27
  obtain ⟨h, b, hs⟩ := lit_new w26 w27 [2, 0, 4] 3 rfl (by decide) hw.symm
  clear hw
  replace Pd := Pd.below b
  replace R := R.below b
  replace B := B.trans (b.mono B.size)
  have Px := h.nv (m := 4) (by decide +kernel) (by decide +kernel)
  clear h b
  refine (sameV Pd Px (y6)).mono ?_
  rintro e w28 ⟨rfl, d⟩
  have b := d.below w27.heap.size
  replace Pd := Pd.below b
  replace Px := Px.below b
  replace R := R.below b
  replace B := B.trans (b.mono B.size)
  clear b d
  clear Px Pd
  go_wp2_with fail
  go_ret
  exact ⟨rfl, B⟩
end Go.Proofs.YtgfaaaeechgjmaaDoor.Pl
