/- The walk over EncodeDivides. By the verifier of shale. -/
import Derived.Test.YtnmallpimbpagaaDoorGreat1
import Derived.Test.YtnmallpimbpagaaDoorGreat2
import Derived.Test.YtnmallpimbpagaaDoorGreat3
import Derived.Test.YtnmallpimbpagaaDoorGreat4
import Derived.Test.YtnmallpimbpagaaDoorLaidEncodeDivides
namespace Go.Proofs.YtnmallpimbpagaaDoor.walkEncodeDivides
open Go Go.RowKit Bin Cos Enc
set_option linter.unusedVariables false
set_option maxRecDepth 100000 in
set_option maxHeartbeats 4000000 in
theorem core (z1 z2 z3 : Int) (a : Option Addr) (na ca : Nat) (l : List (BitVec 8)) (w : World) (yc : Addr) (EC : ErrAt w 2 yc) (PA : Pol w a na ca l) :
    Calls Tryd.prog 7 #[.int .i64 z1, .int .i64 z2, .int .i64 z3, .slice a na ca] w fun e w' => e = .returned (.bool true) ∧ Below w.heap.size w w' := by
  go_enter Tryd.func7, Tryd.ntmps7
  go_wp2_with fail
  refine (first_any w yc EC).mono ?_
  rintro e w1 ⟨rfl, b⟩
  have B := b
  replace EC := EC.below b
  replace PA := PA.below b
  clear b
  go_wp2_with fail
  refine (made_any z1 z2 z3 w1 yc EC).mono ?_
  rintro e w2 ⟨m, t, n, M, s, ga, gn, gc, hm6, hm10, ht6, hn24, hmay, rfl, C, G, b⟩
  haveI := M
  replace EC := EC.below b
  replace PA := PA.below b
  replace B := B.trans (b.mono B.size)
  clear b
  have ht1 := hmay.t1
  have ht40 := hmay.t2
  have hn1 := hmay.n1
  have hn2 := hmay.n2
  have hroom := hmay.room
  have hDpos := deg_pos M.lo ht1
  have hD60 : deg m t ≤ 60 := by
    have h1 := deg_le M.lo t
    have h2 : m * t ≤ 10 * 6 := Nat.mul_le_mul hm10 ht6
    omega
  have HG := Lib.hid (gen_deg (m := m) t)
  obtain ⟨D, hD⟩ : ∃ D, D = deg m t := ⟨_, rfl⟩
  have HD := Lib.hid hD
  rw [← hD] at hDpos hD60 hroom HG
  rw [← hD]
  clear hD
  go_wp2_with fail
  generalize hw : w2.alloc (.cells #[.int .i64 (m : Int), .int .i64 (t : Int), .int .i64 (n : Int), .slice ga gn gc, .int .i64 (D : Int)] 26 (0, 0)) = w3
  obtain ⟨K, b⟩ := newCd w2 w3 _ _ _ _ _ hw
  clear hw
  replace EC := EC.below b
  replace PA := PA.below b
  replace C := C.below b
  replace G := G.below b
  replace B := B.trans (b.mono B.size)
  clear b
  obtain ⟨bq, hbq⟩ : ∃ bq, bq = w2.heap.size := ⟨_, rfl⟩
  rw [← hbq] at K ⊢
  clear hbq
  refine (fit_any a na ca l n (by omega) w3 PA).mono ?_
  rintro e w4 ⟨rfl, Z1, b⟩
  have hfl := fitL_length l n
  generalize fitL l n = X at Z1 hfl
  obtain ⟨g1, hg1⟩ : ∃ g1, g1 = w3.heap.size := ⟨_, rfl⟩
  rw [← hg1] at Z1 ⊢
  clear hg1
  clear PA
  replace EC := EC.below b
  replace C := C.below b
  replace G := G.below b
  replace K := keepB K b
  replace B := B.trans (b.mono B.size)
  clear b
  obtain ⟨c0, c1, c2, c3, c4, _⟩ := cd_cells K
  go_wp2_with fail
  clear c0 c1 c2 c3 c4
  refine (fast_any (m := m) ht1 ht40 w4 s C _ n X (blk_pol Z1 hfl.symm (by omega)) hn2).mono ?_
  rintro e w5 ⟨g2, rfl, Z2, b, _⟩
  rw [← HD.out] at Z2 ⊢
  replace EC := EC.below b
  replace C := C.below b
  replace G := G.below b
  replace K := keepB K b
  replace Z1 := keepZ Z1 b
  replace B := B.trans (b.mono B.size)
  clear b
  obtain ⟨c0, c1, c2, c3, c4, _⟩ := cd_cells K
  go_wp2_with fail
  clear c0 c1 c2 c3 c4
  have hpl := prt_lt HG.out (val X)
  have hpb : pb D ≤ 8 := by unfold pb; omega
  have HDV := Lib.hid (wrd_dvd HG.out (val X))
  unfold wrd at HDV
  generalize prt (gen m t) D (val X) = R at Z2 hpl HDV
  refine (degree_code (m := m) w5 s C).mono ?_
  rintro e w' ⟨rfl, rfl⟩
  rw [← HD.out]
  obtain ⟨c0, c1, c2, c3, c4, _⟩ := cd_cells K
  go_wp2_with fail
  clear c0 c1 c2 c3 c4
  refine (shiftE D (blkV 24 Z1 hfl.symm (by omega) (by decide)) (by decide) (by omega) 32 (by omega)).mono ?_
  rintro e w6 ⟨a3, n3, k3, rfl, V3, b⟩
  replace EC := EC.below b
  replace C := C.below b
  replace G := G.below b
  replace K := keepB K b
  replace Z1 := keepZ Z1 b
  replace Z2 := keepZ Z2 b
  replace B := B.trans (b.mono B.size)
  clear b
  obtain ⟨c0, c1, c2, c3, c4, _⟩ := cd_cells K
  go_wp2_with fail
  clear c0 c1 c2 c3 c4
  refine (addV 32 V3.pol (parV 8 Z2 hpl hpb (by decide)) (by decide) (by decide) (by decide)).mono ?_
  rintro e w7 ⟨a4, n4, k4, rfl, V4, b⟩
  replace EC := EC.below b
  replace C := C.below b
  replace G := G.below b
  replace K := keepB K b
  replace Z1 := keepZ Z1 b
  replace Z2 := keepZ Z2 b
  replace V3 := newV_since V3 b
  replace B := B.trans (b.mono B.size)
  clear b
  obtain ⟨c0, c1, c2, c3, c4, _⟩ := cd_cells K
  go_wp2_with fail
  clear c0 c1 c2 c3 c4
  refine (generator_code (m := m) w7 s C).mono ?_
  rintro e w8 ⟨a5, n5, k5, rfl, V5, b⟩
  replace EC := EC.below b
  replace C := C.below b
  replace G := G.below b
  replace K := keepB K b
  replace Z1 := keepZ Z1 b
  replace Z2 := keepZ Z2 b
  replace V3 := newV_since V3 b
  replace V4 := newV_since V4 b
  replace B := B.trans (b.mono B.size)
  clear b
  obtain ⟨c0, c1, c2, c3, c4, _⟩ := cd_cells K
  go_wp2_with fail
  clear c0 c1 c2 c3 c4
  have hg0 : gen m t ≠ 0 := by have := HG.out.pos; omega
  refine (divV 81 V4.pol V5.pol (by decide) (by decide) (by decide) hg0).mono ?_
  rintro e w9 ⟨a6, n6, k6, a7, n7, k7, q, r, rfl, V6, V7, hdiv, b⟩
  obtain rfl : r = 0 := (hdiv.zero_iff hg0).2 HDV.out
  clear V6 hdiv
  replace EC := EC.below b
  replace C := C.below b
  replace G := G.below b
  replace K := keepB K b
  replace Z1 := keepZ Z1 b
  replace Z2 := keepZ Z2 b
  replace V3 := newV_since V3 b
  replace V4 := newV_since V4 b
  replace V5 := newV_since V5 b
  replace B := B.trans (b.mono B.size)
  clear b
  obtain ⟨c0, c1, c2, c3, c4, _⟩ := cd_cells K
  go_wp2_with fail
  clear c0 c1 c2 c3 c4
  refine (degV V7.pol (by decide)).mono ?_
  rintro e w' ⟨rfl, rfl⟩
  rw [degZ_zero]
  obtain ⟨c0, c1, c2, c3, c4, _⟩ := cd_cells K
  go_wp2_with fail
  clear c0 c1 c2 c3 c4
  refine (generator_code (m := m) w9 s C).mono ?_
  rintro e w10 ⟨a8, n8, k8, rfl, V8, b⟩
  replace EC := EC.below b
  replace C := C.below b
  replace G := G.below b
  replace K := keepB K b
  replace Z1 := keepZ Z1 b
  replace Z2 := keepZ Z2 b
  replace V3 := newV_since V3 b
  replace V4 := newV_since V4 b
  replace V5 := newV_since V5 b
  replace V7 := newV_since V7 b
  replace B := B.trans (b.mono B.size)
  clear b
  obtain ⟨c0, c1, c2, c3, c4, _⟩ := cd_cells K
  go_wp2_with fail
  clear c0 c1 c2 c3 c4
  refine (degV V8.pol (by decide)).mono ?_
  rintro e w' ⟨rfl, rfl⟩
  rw [deg_degZ HG.out]
  obtain ⟨c0, c1, c2, c3, c4, _⟩ := cd_cells K
  go_wp2_with fail
  clear c0 c1 c2 c3 c4
  refine (degree_code (m := m) w10 s C).mono ?_
  rintro e w' ⟨rfl, rfl⟩
  rw [← HD.out]
  clear K C G
  go_wp2_with fail
  go_ret
  exact ⟨rfl, B⟩
theorem walk (a0 a1 a2 : Int) (a3 : Option Addr) (len3 cap3 : Nat) (z3 : List Int) (W : World) (w0 : (Lit.int .i64 a0).wf = true) (w1 : (Lit.int .i64 a1).wf = true) (w2 : (Lit.int .i64 a2).wf = true) (w3 : IsRow .u8 W a3 len3 cap3 z3) (h : LaidEncodeDivides.Holds W) :
    Calls Tryd.prog 7 #[.int .i64 a0, .int .i64 a1, .int .i64 a2, .slice a3 len3 cap3] W fun e w' => e = .returned (.bool true) ∧ Below W.heap.size W w' := by
  obtain ⟨f, ⟨E0, E1, E2, E3, E4⟩, _⟩ := h
  obtain ⟨l, hl⟩ := row_pol w3
  exact core a0 a1 a2 a3 len3 cap3 l W _ E4 hl
end Go.Proofs.YtnmallpimbpagaaDoor.walkEncodeDivides
