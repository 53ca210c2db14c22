/- The walk over EncodeFlips. By the verifier of shale. -/
import Derived.Test.YtnmallpimbpagaaDoorGreat1
import Derived.Test.YtnmallpimbpagaaDoorGreat2
import Derived.Test.YtnmallpimbpagaaDoorGreat3
import Derived.Test.YtnmallpimbpagaaDoorGreat4
import Derived.Test.YtnmallpimbpagaaDoorLaidEncodeFlips
namespace Go.Proofs.YtnmallpimbpagaaDoor.walkEncodeFlips
open Go Go.RowKit Bin Cos Enc
set_option linter.unusedVariables false
set_option maxRecDepth 100000 in
set_option maxHeartbeats 4000000 in
theorem core (z1 z2 z3 : Int) (a : Option Addr) (na ca : Nat) (l : List (BitVec 8)) (zi zj : Int) (w : World) (yc yn : Addr) (EC : ErrAt w 2 yc) (EN : ErrAt w 1 yn) (A1 : Pol w a na ca l) :
    Calls Tryd.prog 8 #[.int .i64 z1, .int .i64 z2, .int .i64 z3, .slice a na ca, .int .i64 zi, .int .i64 zj] w fun e w' => e = .returned (.bool true) ∧ Below w.heap.size w w' := by
  go_enter Tryd.func8, Tryd.ntmps8
  go_wp2_with fail
  refine (first_any w yc EC).mono ?_
  rintro e w1 ⟨rfl, b⟩
  have B := b
  replace EC := EC.below b
  replace EN := EN.below b
  replace A1 := A1.below b
  clear b
  go_wp2_with fail
  refine (made_any z1 z2 z3 w1 yc EC).mono ?_
  rintro e w2 ⟨m, t, n, M, s, ga, gn, gc, hm6, hm10, ht6, hn24, hmay, rfl, C, G, b⟩
  haveI := M
  replace EC := EC.below b
  replace EN := EN.below b
  replace A1 := A1.below b
  replace B := B.trans (b.mono B.size)
  clear b
  have ht1 := hmay.t1
  have ht40 := hmay.t2
  have hn1 := hmay.n1
  have hn2 := hmay.n2
  have hroom := hmay.room
  have hDpos := deg_pos M.lo ht1
  have hD60 : deg m t ≤ 60 := by
    have h1 := deg_le M.lo t
    have h2 : m * t ≤ 10 * 6 := Nat.mul_le_mul hm10 ht6
    omega
  have HG := Lib.hid (gen_deg (m := m) t)
  obtain ⟨D, hD⟩ : ∃ D, D = deg m t := ⟨_, rfl⟩
  have HD := Lib.hid hD
  rw [← hD] at hDpos hD60 hroom HG
  rw [← hD]
  clear hD
  go_wp2_with fail
  generalize hw : w2.alloc (.cells #[.int .i64 (m : Int), .int .i64 (t : Int), .int .i64 (n : Int), .slice ga gn gc, .int .i64 (D : Int)] 26 (0, 0)) = w3
  obtain ⟨K, b⟩ := newCd w2 w3 _ _ _ _ _ hw
  clear hw
  replace EC := EC.below b
  replace EN := EN.below b
  replace A1 := A1.below b
  replace C := C.below b
  replace G := G.below b
  replace B := B.trans (b.mono B.size)
  clear b
  obtain ⟨bq, hbq⟩ : ∃ bq, bq = w2.heap.size := ⟨_, rfl⟩
  rw [← hbq] at K ⊢
  clear hbq
  refine (fit_any a na ca l n (by omega) w3 A1).mono ?_
  rintro e w4 ⟨rfl, Z1, b⟩
  have hf1 := fitL_length l n
  generalize fitL l n = X at Z1 hf1
  obtain ⟨g1, hg1⟩ : ∃ g1, g1 = w3.heap.size := ⟨_, rfl⟩
  rw [← hg1] at Z1 ⊢
  clear hg1
  clear A1
  replace EC := EC.below b
  replace EN := EN.below b
  replace C := C.below b
  replace G := G.below b
  replace K := keepB K b
  replace B := B.trans (b.mono B.size)
  clear b
  obtain ⟨c0, c1, c2, c3, c4, _⟩ := cd_cells K
  go_wp2_with fail
  clear c0 c1 c2 c3 c4
  refine (serial_any (m := m) ht1 ht40 w4 s C _ n X (blk_pol Z1 hf1.symm (by omega)) hn2).mono ?_
  rintro e w5 ⟨g2, rfl, Z2, b, _⟩
  rw [← HD.out] at Z2 ⊢
  have hZ2l := byN_length (prt (gen m t) D (val X)) (pb D)
  have hZ2v := val_byN (pb_room (prt_lt HG.out (val X)))
  obtain ⟨N, hN⟩ : ∃ N, N = 8 * n + D := ⟨_, rfl⟩
  have hN1 : 0 < N := by omega
  have hN2 : N ≤ 1000000 := by omega
  have HN := Lib.hid hN
  clear hN
  replace EC := EC.below b
  replace EN := EN.below b
  replace C := C.below b
  replace G := G.below b
  replace K := keepB K b
  replace Z1 := keepZ Z1 b
  replace B := B.trans (b.mono B.size)
  clear b
  obtain ⟨c0, c1, c2, c3, c4, _⟩ := cd_cells K
  go_wp2_with fail
  clear c0 c1 c2 c3 c4
  obtain ⟨c0, c1, c2, c3, c4, _⟩ := cd_cells K
  replace c0 := cell_regrown c0
  replace c1 := cell_regrown c1
  replace c2 := cell_regrown c2
  replace c3 := cell_regrown c3
  replace c4 := cell_regrown c4
  have HRB : Hid (∀ q os, Calls Tryd.prog 19 #[cdV m t n ga gn gc D] (Sort.grow (redrawn w5 q) os) fun e w'' => e = .returned (.int .i64 (N : Int)) ∧ ∃ p : Regrown, w'' = Sort.grow (redrawn w5 p.d) p.os) := fun q os => Calls.regrown_of (by rw [HN.out]; exact rbits_any m t n ga gn gc D (by omega) hn2 _)
  obtain ⟨r1, r2, ki, hki, r3⟩ := norm_var zi N hN1 hN2
  refine wp_region_quiet_below (by kernel_rfl) (by kernel_rfl) ?_
  repeat (go_big_quiet_step (first | (go_at_call 19; with_reducible exact HRB.out _ _)))
  refine wpQuiet_nil ?_
  intro _ hw'
  obtain ⟨⟨dq, osq⟩, hw''⟩ := hw'
  subst hw''
  have b := below_regrown w5 dq osq
  generalize Sort.grow (redrawn w5 dq) osq = w6 at b ⊢
  clear c0 c1 c2 c3 c4 HRB
  replace EC := EC.below b
  replace EN := EN.below b
  replace C := C.below b
  replace G := G.below b
  replace K := keepB K b
  replace Z1 := keepZ Z1 b
  replace Z2 := keepZ Z2 b
  replace B := B.trans (b.mono B.size)
  clear b

  clear r1 r2 r3
  obtain ⟨c0, c1, c2, c3, c4, _⟩ := cd_cells K
  go_wp2_with fail
  clear c0 c1 c2 c3 c4
  obtain ⟨c0, c1, c2, c3, c4, _⟩ := cd_cells K
  replace c0 := cell_regrown c0
  replace c1 := cell_regrown c1
  replace c2 := cell_regrown c2
  replace c3 := cell_regrown c3
  replace c4 := cell_regrown c4
  have HRB : Hid (∀ q os, Calls Tryd.prog 19 #[cdV m t n ga gn gc D] (Sort.grow (redrawn w6 q) os) fun e w'' => e = .returned (.int .i64 (N : Int)) ∧ ∃ p : Regrown, w'' = Sort.grow (redrawn w6 p.d) p.os) := fun q os => Calls.regrown_of (by rw [HN.out]; exact rbits_any m t n ga gn gc D (by omega) hn2 _)
  obtain ⟨r1, r2, kj, hkj, r3⟩ := norm_var zj N hN1 hN2
  refine wp_region_quiet_below (by kernel_rfl) (by kernel_rfl) ?_
  repeat (go_big_quiet_step (first | (go_at_call 19; with_reducible exact HRB.out _ _)))
  refine wpQuiet_nil ?_
  intro _ hw'
  obtain ⟨⟨dq, osq⟩, hw''⟩ := hw'
  subst hw''
  have b := below_regrown w6 dq osq
  generalize Sort.grow (redrawn w6 dq) osq = w7 at b ⊢
  clear c0 c1 c2 c3 c4 HRB
  replace EC := EC.below b
  replace EN := EN.below b
  replace C := C.below b
  replace G := G.below b
  replace K := keepB K b
  replace Z1 := keepZ Z1 b
  replace Z2 := keepZ Z2 b
  replace B := B.trans (b.mono B.size)
  clear b
  clear r1 r2 r3
  have hki2 : ki < 8 * n + deg m t := by have := HN.out; have := HD.out; omega
  have hkj2 : kj < 8 * n + deg m t := by have := HN.out; have := HD.out; omega
  have HNv : Hid ((8 * n + deg m t : Nat) = N) := by show _ = _; have := HN.out; have := HD.out; omega
  obtain ⟨R, hR⟩ : ∃ R, R = prt (gen m t) D (val X) := ⟨_, rfl⟩
  have HR := Lib.hid hR
  obtain ⟨Q, hQ⟩ : ∃ Q, Q = byN R (pb D) := ⟨_, rfl⟩
  rw [← hR] at Z2 hZ2l hZ2v
  rw [← hQ] at Z2 hZ2l hZ2v
  obtain ⟨P, hP⟩ : ∃ P, P = pb D := ⟨_, rfl⟩
  have HP := Lib.hid hP
  have hP8 : P ≤ 8 := by rw [hP]; unfold pb; omega
  rw [← hP] at hZ2l ⊢
  have HQ := Lib.hid hQ
  clear hR hQ hP
  obtain ⟨c0, c1, c2, c3, c4, _⟩ := cd_cells K
  go_wp2_with fail
  clear c0 c1 c2 c3 c4
  have HFl : Hid (Calls Tryd.prog 18 #[.pointer (some ⟨s, 0, none⟩), .slice (some ⟨g1, 0, none⟩) n n, .slice (some ⟨g2, 0, none⟩) P P, .int .i64 (ki : Int)] w7 (FlipAt D n P ki (val X) (val Q) w7)) := by
    have h := flip_any (m := m) ht1 ht40 w7 s C _ _ _ (blk_pol Z1 hf1.symm (by omega)) hn2 _ _ _ (by rw [← HD.out, ← HP.out]; exact blk_pol Z2 hZ2l.symm (by omega)) ki hki2
    rw [← HD.out, ← HP.out] at h
    exact h
  refine (HFl.out).mono ?_
  rintro e w8 ⟨u1, e1, X1, v1, f1, Y1, rfl, N1, NM1, hX1, hY1, b⟩
  clear HFl
  replace EC := EC.below b
  replace EN := EN.below b
  replace C := C.below b
  replace G := G.below b
  replace K := keepB K b
  replace Z1 := keepZ Z1 b
  replace Z2 := keepZ Z2 b
  replace B := B.trans (b.mono B.size)
  clear b
  obtain ⟨c0, c1, c2, c3, c4, _⟩ := cd_cells K
  go_wp2_with fail
  clear c0 c1 c2 c3 c4
  replace hX1 : val X1 = val X ^^^ ed D ki := hX1
  replace hY1 : val Y1 = val Q ^^^ ep D ki := hY1
  have HFl : Hid (Calls Tryd.prog 18 #[.pointer (some ⟨s, 0, none⟩), .slice u1 n e1, .slice v1 P f1, .int .i64 (ki : Int)] w8 (FlipAt D n P ki (val X1) (val Y1) w8)) := by
    have h := flip_any (m := m) ht1 ht40 w8 s C _ _ _ (N1.pol) hn2 _ _ _ (by rw [← HD.out, ← HP.out]; exact NM1.pol) ki hki2
    rw [← HD.out, ← HP.out] at h
    exact h
  refine (HFl.out).mono ?_
  rintro e w9 ⟨u2, e2, X2, v2, f2, Y2, rfl, N2, NM2, hX2, hY2, b⟩
  clear HFl
  replace EC := EC.below b
  replace EN := EN.below b
  replace C := C.below b
  replace G := G.below b
  replace K := keepB K b
  replace Z1 := keepZ Z1 b
  replace Z2 := keepZ Z2 b
  replace N1 := NewP.keep N1 b
  replace NM1 := NewP.keep NM1 b
  replace B := B.trans (b.mono B.size)
  clear b
  obtain ⟨c0, c1, c2, c3, c4, _⟩ := cd_cells K
  go_wp2_with fail
  clear c0 c1 c2 c3 c4
  replace hX2 : val X2 = val X1 ^^^ ed D ki := hX2
  replace hY2 : val Y2 = val Y1 ^^^ ep D ki := hY2
  rw [hX1, xor_back] at hX2
  rw [hY1, xor_back] at hY2
  obtain rfl : X2 = X := len_inj (by have := N2.hlen; omega) hX2
  obtain rfl : Y2 = Q := len_inj (by have := NM2.hlen; omega) hY2
  have HFl : Hid (Calls Tryd.prog 18 #[.pointer (some ⟨s, 0, none⟩), .slice (some ⟨g1, 0, none⟩) n n, .slice (some ⟨g2, 0, none⟩) P P, .int .i64 (kj : Int)] w9 (FlipAt D n P kj (val X2) (val Y2) w9)) := by
    have h := flip_any (m := m) ht1 ht40 w9 s C _ _ _ (blk_pol Z1 hf1.symm (by omega)) hn2 _ _ _ (by rw [← HD.out, ← HP.out]; exact blk_pol Z2 hZ2l.symm (by omega)) kj hkj2
    rw [← HD.out, ← HP.out] at h
    exact h
  refine (HFl.out).mono ?_
  rintro e w10 ⟨u3, e3, X3, v3, f3, Y3, rfl, N3, NM3, hX3, hY3, b⟩
  clear HFl
  replace EC := EC.below b
  replace EN := EN.below b
  replace C := C.below b
  replace G := G.below b
  replace K := keepB K b
  replace Z1 := keepZ Z1 b
  replace Z2 := keepZ Z2 b
  replace N1 := NewP.keep N1 b
  replace NM1 := NewP.keep NM1 b
  replace N2 := NewP.keep N2 b
  replace NM2 := NewP.keep NM2 b
  replace B := B.trans (b.mono B.size)
  clear b
  obtain ⟨c0, c1, c2, c3, c4, _⟩ := cd_cells K
  go_wp2_with fail
  clear c0 c1 c2 c3 c4
  replace hX3 : val X3 = val X2 ^^^ ed D kj := hX3
  replace hY3 : val Y3 = val Y2 ^^^ ep D kj := hY3
  refine (rbits_any m t n ga gn gc D (by omega) hn2 w10).mono ?_
  rintro e w11 ⟨rfl, b⟩
  rw [← HN.out]
  replace EC := EC.below b
  replace EN := EN.below b
  replace C := C.below b
  replace G := G.below b
  replace K := keepB K b
  replace Z1 := keepZ Z1 b
  replace Z2 := keepZ Z2 b
  replace N1 := NewP.keep N1 b
  replace NM1 := NewP.keep NM1 b
  replace N2 := NewP.keep N2 b
  replace NM2 := NewP.keep NM2 b
  replace N3 := NewP.keep N3 b
  replace NM3 := NewP.keep NM3 b
  replace B := B.trans (b.mono B.size)
  clear b
  obtain ⟨c0, c1, c2, c3, c4, _⟩ := cd_cells K
  go_wp2_with fail
  clear c0 c1 c2 c3 c4
  have HFl : Hid (Calls Tryd.prog 18 #[.pointer (some ⟨s, 0, none⟩), .slice (some ⟨g1, 0, none⟩) n n, .slice (some ⟨g2, 0, none⟩) P P, .int .i64 (N : Int)] w11 fun e w' => e = .returned (.tuple #[.slice none 0 0, .slice none 0 0, errOf yn]) ∧ Drawn w11 w') := by
    have h := flip_num (m := m) ht40 w11 s C (some ⟨g1, 0, none⟩) n hn2 (some ⟨g2, 0, none⟩) P (N : Int) (Or.inr (by rw [HNv.out]; exact Int.le_refl _)) yn EN
    rw [← HD.out, ← HP.out] at h
    exact h
  refine (HFl.out).mono ?_
  rintro e w12 ⟨rfl, d⟩
  clear HFl
  have b := d.below w11.heap.size
  clear d
  replace EC := EC.below b
  replace EN := EN.below b
  replace C := C.below b
  replace G := G.below b
  replace K := keepB K b
  replace Z1 := keepZ Z1 b
  replace Z2 := keepZ Z2 b
  replace N1 := NewP.keep N1 b
  replace NM1 := NewP.keep NM1 b
  replace N2 := NewP.keep N2 b
  replace NM2 := NewP.keep NM2 b
  replace N3 := NewP.keep N3 b
  replace NM3 := NewP.keep NM3 b
  replace B := B.trans (b.mono B.size)
  clear b
  obtain ⟨c0, c1, c2, c3, c4, _⟩ := cd_cells K
  go_wp2_with fail
  clear c0 c1 c2 c3 c4
  have hbad := turn_wrong (m := m) (t := t) (n := 8 * n) (k := ki) (X := val X2) (X' := val X1) (Y' := Y1) ht1 (by have := HD.out; omega) hki2 (by rw [← HD.out]; exact hX1) (by rw [← HD.out, ← HR.out]; rw [hY1, hZ2v])
  rw [← HD.out, ← HP.out] at hbad
  have hgood : byN (prt (gen m t) D (val X2)) P = Y2 := by rw [HQ.out, HR.out, HP.out]
  have hpop : pop (val X1 ^^^ val X2) (8 * n) + pop (val Y1 ^^^ val Y2) (8 * P) = 1 := by
    have h := pop_e (D := D) (k := ki) (n := n) (by have := HD.out; omega)
    rw [← HP.out] at h
    rw [hX1, hY1, Nat.xor_comm (val X2), Nat.xor_comm (val Y2), xor_back, xor_back]
    exact h
  have hinj : X1 = X3 → Y1 = Y3 → ki = kj := by
    intro h1 h2
    refine e_inj (D := D) ?_ ?_
    · have : val X2 ^^^ ed D ki = val X2 ^^^ ed D kj := by rw [← hX1, ← hX3, h1]
      exact xor_lc this
    · have : val Y2 ^^^ ep D ki = val Y2 ^^^ ep D kj := by rw [← hY1, ← hY3, h2]
      exact xor_lc this
  have hsame : ki = kj → X1 = X3 ∧ Y1 = Y3 := by
    intro h
    subst h
    exact ⟨len_inj (by have := N1.hlen; have := N3.hlen; omega) (by rw [hX1, hX3]), len_inj (by have := NM1.hlen; have := NM3.hlen; omega) (by rw [hY1, hY3])⟩
  have HBad := Lib.hid hbad
  have HGood := Lib.hid hgood
  have HPop := Lib.hid hpop
  clear hbad hgood hpop hX1 hY1 hX3 hY3 hX2 hY2 K G
  refine (same_blk (pol_bytes N1.pol) (pol_bytes N3.pol)).mono ?_
  rintro e w' ⟨rfl, rfl⟩
  by_cases hij : ki = kj
  · obtain ⟨s1, s2⟩ := hsame hij
    rw [decide_eq_true s1]
    have tij : ((ki : Int) == (kj : Int)) = true := by rw [beq_iff_eq]; omega
    have S2 := Lib.hid s2
    clear s1 s2 hij hsame hinj
    go_wp2_with fail
    refine (same_blk (pol_bytes NM1.pol) (pol_bytes NM3.pol)).mono ?_
    rintro e w' ⟨rfl, rfl⟩
    rw [decide_eq_true (show Y1 = Y3 from S2.out)]
    clear N3 NM3
    have e1n := EN.1
    unfold Sent at e1n
    have q1 := eql_err yn
    go_wp2_with fail
    clear e1n
    refine ((by have h := right_any (m := m) ht1 ht40 w12 s C _ _ X1 N1.pol hn2 _ _ _ Y1 NM1.pol; rw [← HD.out, ← HP.out, decide_eq_false HBad.out] at h; exact h : Calls Tryd.prog 13 #[.pointer (some ⟨s, 0, none⟩), .slice u1 n e1, .slice v1 P f1] w12 fun e w' => e = .returned (.bool false) ∧ Below (World.heap w12).size w12 w')).mono ?_
    rintro e w13 ⟨rfl, b⟩
    replace EN := EN.below b
    replace C := C.below b
    replace Z1 := keepZ Z1 b
    replace Z2 := keepZ Z2 b
    replace N1 := NewP.keep N1 b
    replace NM1 := NewP.keep NM1 b
    replace N2 := NewP.keep N2 b
    replace NM2 := NewP.keep NM2 b
    replace B := B.trans (b.mono B.size)
    clear b
    go_wp2_with fail
    refine ((by have h := right_any (m := m) ht1 ht40 w13 s C _ _ X2 N2.pol hn2 _ _ _ Y2 NM2.pol; rw [← HD.out, ← HP.out, decide_eq_true HGood.out] at h; exact h : Calls Tryd.prog 13 #[.pointer (some ⟨s, 0, none⟩), .slice u2 n e2, .slice v2 P f2] w13 fun e w' => e = .returned (.bool true) ∧ Below (World.heap w13).size w13 w')).mono ?_
    rintro e w14 ⟨rfl, b⟩
    replace EN := EN.below b
    replace C := C.below b
    replace Z1 := keepZ Z1 b
    replace Z2 := keepZ Z2 b
    replace N1 := NewP.keep N1 b
    replace NM1 := NewP.keep NM1 b
    replace N2 := NewP.keep N2 b
    replace NM2 := NewP.keep NM2 b
    replace B := B.trans (b.mono B.size)
    clear b
    go_wp2_with fail
    refine (same_blk (pol_bytes N2.pol) (blk_arg Z1 hf1.symm)).mono ?_
    rintro e w' ⟨rfl, rfl⟩
    rw [decide_eq_true rfl]
    go_wp2_with fail
    refine (same_blk (pol_bytes NM2.pol) (blk_arg Z2 hZ2l.symm)).mono ?_
    rintro e w' ⟨rfl, rfl⟩
    rw [decide_eq_true rfl]
    go_wp2_with fail
    refine (distance_any _ _ n _ _ X1 X2 (by omega) w14 N1.pol (blk_pol Z1 hf1.symm (by omega))).mono ?_
    rintro e w' ⟨rfl, rfl⟩
    go_wp2_with fail
    refine (distance_any _ _ P _ _ Y1 Y2 (by omega) w14 NM1.pol (blk_pol Z2 hZ2l.symm (by omega))).mono ?_
    rintro e w' ⟨rfl, rfl⟩
    have hp := HPop.out
    generalize pop (val X1 ^^^ val X2) (8 * n) = p1 at hp ⊢
    generalize pop (val Y1 ^^^ val Y2) (8 * P) = p2 at hp ⊢
    have hp2 : (p1 : Int) + (p2 : Int) = 1 := by omega
    have i1 : IntKind.i64.wrap 1 = 1 := rfl
    clear C Z1 Z2 N1 NM1 N2 NM2 HPop
    go_wp2_with fail
    go_ret
    exact ⟨rfl, B⟩
  · have tij : ((ki : Int) == (kj : Int)) = false := by rw [beq_eq_false_iff_ne]; omega
    by_cases s1 : X1 = X3
    · have s2 : Y1 ≠ Y3 := fun h => hij (hinj s1 h)
      rw [decide_eq_true s1]
      have S2 : Hid (Y1 ≠ Y3) := s2
      clear s1 s2 hij hsame hinj
      go_wp2_with fail
      refine (same_blk (pol_bytes NM1.pol) (pol_bytes NM3.pol)).mono ?_
      rintro e w' ⟨rfl, rfl⟩
      rw [decide_eq_false (show Y1 ≠ Y3 from S2.out)]
      clear N3 NM3
      have e1n := EN.1
      unfold Sent at e1n
      have q1 := eql_err yn
      go_wp2_with fail
      clear e1n
      refine ((by have h := right_any (m := m) ht1 ht40 w12 s C _ _ X1 N1.pol hn2 _ _ _ Y1 NM1.pol; rw [← HD.out, ← HP.out, decide_eq_false HBad.out] at h; exact h : Calls Tryd.prog 13 #[.pointer (some ⟨s, 0, none⟩), .slice u1 n e1, .slice v1 P f1] w12 fun e w' => e = .returned (.bool false) ∧ Below (World.heap w12).size w12 w')).mono ?_
      rintro e w13 ⟨rfl, b⟩
      replace EN := EN.below b
      replace C := C.below b
      replace Z1 := keepZ Z1 b
      replace Z2 := keepZ Z2 b
      replace N1 := NewP.keep N1 b
      replace NM1 := NewP.keep NM1 b
      replace N2 := NewP.keep N2 b
      replace NM2 := NewP.keep NM2 b
      replace B := B.trans (b.mono B.size)
      clear b
      go_wp2_with fail
      refine ((by have h := right_any (m := m) ht1 ht40 w13 s C _ _ X2 N2.pol hn2 _ _ _ Y2 NM2.pol; rw [← HD.out, ← HP.out, decide_eq_true HGood.out] at h; exact h : Calls Tryd.prog 13 #[.pointer (some ⟨s, 0, none⟩), .slice u2 n e2, .slice v2 P f2] w13 fun e w' => e = .returned (.bool true) ∧ Below (World.heap w13).size w13 w')).mono ?_
      rintro e w14 ⟨rfl, b⟩
      replace EN := EN.below b
      replace C := C.below b
      replace Z1 := keepZ Z1 b
      replace Z2 := keepZ Z2 b
      replace N1 := NewP.keep N1 b
      replace NM1 := NewP.keep NM1 b
      replace N2 := NewP.keep N2 b
      replace NM2 := NewP.keep NM2 b
      replace B := B.trans (b.mono B.size)
      clear b
      go_wp2_with fail
      refine (same_blk (pol_bytes N2.pol) (blk_arg Z1 hf1.symm)).mono ?_
      rintro e w' ⟨rfl, rfl⟩
      rw [decide_eq_true rfl]
      go_wp2_with fail
      refine (same_blk (pol_bytes NM2.pol) (blk_arg Z2 hZ2l.symm)).mono ?_
      rintro e w' ⟨rfl, rfl⟩
      rw [decide_eq_true rfl]
      go_wp2_with fail
      refine (distance_any _ _ n _ _ X1 X2 (by omega) w14 N1.pol (blk_pol Z1 hf1.symm (by omega))).mono ?_
      rintro e w' ⟨rfl, rfl⟩
      go_wp2_with fail
      refine (distance_any _ _ P _ _ Y1 Y2 (by omega) w14 NM1.pol (blk_pol Z2 hZ2l.symm (by omega))).mono ?_
      rintro e w' ⟨rfl, rfl⟩
      have hp := HPop.out
      generalize pop (val X1 ^^^ val X2) (8 * n) = p1 at hp ⊢
      generalize pop (val Y1 ^^^ val Y2) (8 * P) = p2 at hp ⊢
      have hp2 : (p1 : Int) + (p2 : Int) = 1 := by omega
      have i1 : IntKind.i64.wrap 1 = 1 := rfl
      clear C Z1 Z2 N1 NM1 N2 NM2 HPop
      go_wp2_with fail
      go_ret
      exact ⟨rfl, B⟩
    · rw [decide_eq_false s1]
      clear s1 hij hsame hinj N3 NM3
      have e1n := EN.1
      unfold Sent at e1n
      have q1 := eql_err yn
      go_wp2_with fail
      clear e1n
      refine ((by have h := right_any (m := m) ht1 ht40 w12 s C _ _ X1 N1.pol hn2 _ _ _ Y1 NM1.pol; rw [← HD.out, ← HP.out, decide_eq_false HBad.out] at h; exact h : Calls Tryd.prog 13 #[.pointer (some ⟨s, 0, none⟩), .slice u1 n e1, .slice v1 P f1] w12 fun e w' => e = .returned (.bool false) ∧ Below (World.heap w12).size w12 w')).mono ?_
      rintro e w13 ⟨rfl, b⟩
      replace EN := EN.below b
      replace C := C.below b
      replace Z1 := keepZ Z1 b
      replace Z2 := keepZ Z2 b
      replace N1 := NewP.keep N1 b
      replace NM1 := NewP.keep NM1 b
      replace N2 := NewP.keep N2 b
      replace NM2 := NewP.keep NM2 b
      replace B := B.trans (b.mono B.size)
      clear b
      go_wp2_with fail
      refine ((by have h := right_any (m := m) ht1 ht40 w13 s C _ _ X2 N2.pol hn2 _ _ _ Y2 NM2.pol; rw [← HD.out, ← HP.out, decide_eq_true HGood.out] at h; exact h : Calls Tryd.prog 13 #[.pointer (some ⟨s, 0, none⟩), .slice u2 n e2, .slice v2 P f2] w13 fun e w' => e = .returned (.bool true) ∧ Below (World.heap w13).size w13 w')).mono ?_
      rintro e w14 ⟨rfl, b⟩
      replace EN := EN.below b
      replace C := C.below b
      replace Z1 := keepZ Z1 b
      replace Z2 := keepZ Z2 b
      replace N1 := NewP.keep N1 b
      replace NM1 := NewP.keep NM1 b
      replace N2 := NewP.keep N2 b
      replace NM2 := NewP.keep NM2 b
      replace B := B.trans (b.mono B.size)
      clear b
      go_wp2_with fail
      refine (same_blk (pol_bytes N2.pol) (blk_arg Z1 hf1.symm)).mono ?_
      rintro e w' ⟨rfl, rfl⟩
      rw [decide_eq_true rfl]
      go_wp2_with fail
      refine (same_blk (pol_bytes NM2.pol) (blk_arg Z2 hZ2l.symm)).mono ?_
      rintro e w' ⟨rfl, rfl⟩
      rw [decide_eq_true rfl]
      go_wp2_with fail
      refine (distance_any _ _ n _ _ X1 X2 (by omega) w14 N1.pol (blk_pol Z1 hf1.symm (by omega))).mono ?_
      rintro e w' ⟨rfl, rfl⟩
      go_wp2_with fail
      refine (distance_any _ _ P _ _ Y1 Y2 (by omega) w14 NM1.pol (blk_pol Z2 hZ2l.symm (by omega))).mono ?_
      rintro e w' ⟨rfl, rfl⟩
      have hp := HPop.out
      generalize pop (val X1 ^^^ val X2) (8 * n) = p1 at hp ⊢
      generalize pop (val Y1 ^^^ val Y2) (8 * P) = p2 at hp ⊢
      have hp2 : (p1 : Int) + (p2 : Int) = 1 := by omega
      have i1 : IntKind.i64.wrap 1 = 1 := rfl
      clear C Z1 Z2 N1 NM1 N2 NM2 HPop
      go_wp2_with fail
      go_ret
      exact ⟨rfl, B⟩
theorem walk (a0 a1 a2 : Int) (a3 : Option Addr) (len3 cap3 : Nat) (z3 : List Int) (a4 a5 : Int) (W : World) (w0 : (Lit.int .i64 a0).wf = true) (w1 : (Lit.int .i64 a1).wf = true) (w2 : (Lit.int .i64 a2).wf = true) (w3 : IsRow .u8 W a3 len3 cap3 z3) (w4 : (Lit.int .i64 a4).wf = true) (w5 : (Lit.int .i64 a5).wf = true) (h : LaidEncodeFlips.Holds W) :
    Calls Tryd.prog 8 #[.int .i64 a0, .int .i64 a1, .int .i64 a2, .slice a3 len3 cap3, .int .i64 a4, .int .i64 a5] W fun e w' => e = .returned (.bool true) ∧ Below W.heap.size W w' := by
  obtain ⟨f, ⟨E0, E1, E2, E3⟩, _⟩ := h
  obtain ⟨l, hl⟩ := row_pol w3
  exact core a0 a1 a2 a3 len3 cap3 l a4 a5 W _ _ E3 E1 hl
end Go.Proofs.YtnmallpimbpagaaDoor.walkEncodeFlips
