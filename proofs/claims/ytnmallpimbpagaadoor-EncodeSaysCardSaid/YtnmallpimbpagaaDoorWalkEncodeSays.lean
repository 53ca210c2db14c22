/- The walk over EncodeSays. By the verifier of shale. -/
import Derived.Test.YtnmallpimbpagaaDoorGreat1
import Derived.Test.YtnmallpimbpagaaDoorGreat2
import Derived.Test.YtnmallpimbpagaaDoorGreat3
import Derived.Test.YtnmallpimbpagaaDoorGreat4
import Derived.Test.YtnmallpimbpagaaDoorLaidEncodeSays
namespace Go.Proofs.YtnmallpimbpagaaDoor.walkEncodeSays
open Go Go.RowKit Bin Cos Enc
set_option linter.unusedVariables false
theorem newP_from {w0 w1 w : World} {a : Option Addr} {n c : Nat} {X : List (BitVec 8)} (h : NewP w1 w a n c X) (b : w0.heap.size ≤ w1.heap.size) : NewP w0 w a n c X := by
  refine ⟨h.hlen, h.hcap, h.hmost, ?_⟩
  rcases h.own with h | ⟨g, e, hg, hx⟩
  · exact Or.inl h
  · exact Or.inr ⟨g, e, by omega, hx⟩
set_option maxRecDepth 100000 in
set_option maxHeartbeats 1000000 in
theorem core (z1 z2 z3 : Int) (a : Option Addr) (na ca : Nat) (l : List (BitVec 8)) (a' : Option Addr) (na' ca' : Nat) (l' : List (BitVec 8)) (at' : Int) (w : World) (yc yn yl : Addr) (EC : ErrAt w 2 yc) (EN : ErrAt w 1 yn) (EL : ErrAt w 0 yl) (A1 : Pol w a na ca l) (A2 : Pol w a' na' ca' l') (h1 : na ≤ 100) (h2 : na' ≤ 100) :
    Calls Tryd.prog 3 #[.int .i64 z1, .int .i64 z2, .int .i64 z3, .slice a na ca, .slice a' na' ca', .int .i64 at'] w fun e w' => e = .returned (.bool true) ∧ Below w.heap.size w w' := by
  have h100a : ¬ (100 : Int) < (na : Int) := by omega
  have h100b : ¬ (100 : Int) < (na' : Int) := by omega
  go_enter Tryd.func3, Tryd.ntmps3
  go_wp2_with fail
  refine (first_any w yc EC).mono ?_
  rintro e w1 ⟨rfl, b⟩
  have B := b
  replace EC := EC.below b
  replace EN := EN.below b
  replace EL := EL.below b
  replace A1 := A1.below b
  replace A2 := A2.below b
  clear b
  go_wp2_with fail
  refine (made_any z1 z2 z3 w1 yc EC).mono ?_
  rintro e w2 ⟨m, t, n, M, s, ga, gn, gc, hm6, hm10, ht6, hn24, hmay, rfl, C, G, b⟩
  haveI := M
  replace EC := EC.below b
  replace EN := EN.below b
  replace EL := EL.below b
  replace A1 := A1.below b
  replace A2 := A2.below b
  replace B := B.trans (b.mono B.size)
  clear b
  have ht1 := hmay.t1
  have ht40 := hmay.t2
  have hn1 := hmay.n1
  have hn2 := hmay.n2
  have hroom := hmay.room
  have hDpos := deg_pos M.lo ht1
  have hD60 : deg m t ≤ 60 := by
    have h1 := deg_le M.lo t
    have h2 : m * t ≤ 10 * 6 := Nat.mul_le_mul hm10 ht6
    omega
  have HG := Lib.hid (gen_deg (m := m) t)
  obtain ⟨D, hD⟩ : ∃ D, D = deg m t := ⟨_, rfl⟩
  have HD := Lib.hid hD
  rw [← hD] at hDpos hD60 hroom HG
  rw [← hD]
  clear hD
  go_wp2_with fail
  generalize hw : w2.alloc (.cells #[.int .i64 (m : Int), .int .i64 (t : Int), .int .i64 (n : Int), .slice ga gn gc, .int .i64 (D : Int)] 26 (0, 0)) = w3
  obtain ⟨K, b⟩ := newCd w2 w3 _ _ _ _ _ hw
  clear hw
  replace EC := EC.below b
  replace EN := EN.below b
  replace EL := EL.below b
  replace A1 := A1.below b
  replace A2 := A2.below b
  replace C := C.below b
  replace G := G.below b
  replace B := B.trans (b.mono B.size)
  clear b
  obtain ⟨bq, hbq⟩ : ∃ bq, bq = w2.heap.size := ⟨_, rfl⟩
  rw [← hbq] at K ⊢
  clear hbq
  clear EC
  by_cases hnd : na = n
  · obtain rfl : n = na := hnd.symm
    refine (serial_any (m := m) ht1 ht40 w3 s C a ca l A1 hn2).mono ?_
    rintro e w4 ⟨q1, rfl, Z1, b, _⟩
    rw [← HD.out] at Z1 ⊢
    clear Z1
    replace EN := EN.below b
    replace EL := EL.below b
    replace A1 := A1.below b
    replace A2 := A2.below b
    replace C := C.below b
    replace G := G.below b
    replace K := keepB K b
    replace B := B.trans (b.mono B.size)
    clear b
    obtain ⟨c0, c1, c2, c3, c4, _⟩ := cd_cells K
    go_wp2_with fail
    clear c0 c1 c2 c3 c4
    refine (fast_any (m := m) ht1 ht40 w4 s C a ca l A1 hn2).mono ?_
    rintro e w5 ⟨q2, rfl, Z1, b, _⟩
    rw [← HD.out] at Z1 ⊢
    clear Z1
    replace EN := EN.below b
    replace EL := EL.below b
    replace A1 := A1.below b
    replace A2 := A2.below b
    replace C := C.below b
    replace G := G.below b
    replace K := keepB K b
    replace B := B.trans (b.mono B.size)
    clear b
    obtain ⟨c0, c1, c2, c3, c4, _⟩ := cd_cells K
    go_wp2_with fail
    clear c0 c1 c2 c3 c4
    refine (fit_any a n ca l n (by omega) w5 A1).mono ?_
    rintro e w6 ⟨rfl, Z1, b⟩
    have hf1 := fitL_length l n
    obtain ⟨X, hXe⟩ : ∃ X, X = fitL l n := ⟨_, rfl⟩
    have HXe := Lib.hid hXe
    rw [← hXe] at Z1 hf1
    obtain ⟨g1, hg1⟩ : ∃ g1, g1 = w5.heap.size := ⟨_, rfl⟩
    rw [← hg1] at Z1 ⊢
    clear hg1 hXe
    replace EN := EN.below b
    replace EL := EL.below b
    replace A1 := A1.below b
    replace A2 := A2.below b
    replace C := C.below b
    replace G := G.below b
    replace K := keepB K b
    replace B := B.trans (b.mono B.size)
    clear b
    obtain ⟨c0, c1, c2, c3, c4, _⟩ := cd_cells K
    go_wp2_with fail
    clear c0 c1 c2 c3 c4
    refine (rserial_any m t n ga gn gc D (gen m t) HG.out (by omega) (by omega) hn2 w6 G.pol _ _ X (blk_pol Z1 hf1.symm (by omega))).mono ?_
    rintro e w7 ⟨g2, rfl, Z2, b, _⟩
    have hZ2l := byN_length (prt (gen m t) D (val X)) (pb D)
    have hZ2v := val_byN (pb_room (prt_lt HG.out (val X)))
    obtain ⟨P, hP⟩ : ∃ P, P = pb D := ⟨_, rfl⟩
    have HP := Lib.hid hP
    have hP8 : P ≤ 8 := by rw [hP]; unfold pb; omega
    rw [← hP] at Z2 hZ2l hZ2v ⊢
    obtain ⟨Q, hQ⟩ : ∃ Q, Q = byN (prt (gen m t) D (val X)) P := ⟨_, rfl⟩
    have HQ := Lib.hid hQ
    rw [← hQ] at Z2 hZ2l hZ2v
    clear hP hQ
    replace EN := EN.below b
    replace EL := EL.below b
    replace A1 := A1.below b
    replace A2 := A2.below b
    replace C := C.below b
    replace G := G.below b
    replace K := keepB K b
    replace Z1 := keepZ Z1 b
    replace B := B.trans (b.mono B.size)
    clear b
    obtain ⟨c0, c1, c2, c3, c4, _⟩ := cd_cells K
    go_wp2_with fail
    clear c0 c1 c2 c3 c4
    refine (serial_any (m := m) ht1 ht40 w7 s C _ n X (blk_pol Z1 hf1.symm (by omega)) hn2).mono ?_
    rintro e w8 ⟨g3, rfl, Z3, b, _⟩
    rw [← HD.out, ← HP.out, ← HQ.out] at Z3
    rw [← HD.out, ← HP.out]
    replace EN := EN.below b
    replace EL := EL.below b
    replace A1 := A1.below b
    replace A2 := A2.below b
    replace C := C.below b
    replace G := G.below b
    replace K := keepB K b
    replace Z1 := keepZ Z1 b
    replace Z2 := keepZ Z2 b
    replace B := B.trans (b.mono B.size)
    clear b
    obtain ⟨c0, c1, c2, c3, c4, _⟩ := cd_cells K
    go_wp2_with fail
    clear c0 c1 c2 c3 c4
    refine (fast_any (m := m) ht1 ht40 w8 s C _ n X (blk_pol Z1 hf1.symm (by omega)) hn2).mono ?_
    rintro e w9 ⟨g4, rfl, Z4, b, _⟩
    rw [← HD.out, ← HP.out, ← HQ.out] at Z4
    rw [← HD.out, ← HP.out]
    replace EN := EN.below b
    replace EL := EL.below b
    replace A1 := A1.below b
    replace A2 := A2.below b
    replace C := C.below b
    replace G := G.below b
    replace K := keepB K b
    replace Z1 := keepZ Z1 b
    replace Z2 := keepZ Z2 b
    replace Z3 := keepZ Z3 b
    replace B := B.trans (b.mono B.size)
    clear b
    obtain ⟨c0, c1, c2, c3, c4, _⟩ := cd_cells K
    go_wp2_with fail
    clear c0 c1 c2 c3 c4
    refine (rparity_any m t n ga gn gc D (by omega) w9).mono ?_
    rintro e w10 ⟨rfl, b⟩
    rw [← HP.out]
    replace EN := EN.below b
    replace EL := EL.below b
    replace A1 := A1.below b
    replace A2 := A2.below b
    replace C := C.below b
    replace G := G.below b
    replace K := keepB K b
    replace Z1 := keepZ Z1 b
    replace Z2 := keepZ Z2 b
    replace Z3 := keepZ Z3 b
    replace Z4 := keepZ Z4 b
    replace B := B.trans (b.mono B.size)
    clear b
    obtain ⟨c0, c1, c2, c3, c4, _⟩ := cd_cells K
    go_wp2_with fail
    clear c0 c1 c2 c3 c4
    refine (fit_any a' na' ca' l' P (by omega) w10 A2).mono ?_
    rintro e w11 ⟨rfl, Z5, b⟩
    have hf5 := fitL_length l' P
    generalize fitL l' P = Y at Z5 hf5
    obtain ⟨g5, hg5⟩ : ∃ g5, g5 = w10.heap.size := ⟨_, rfl⟩
    rw [← hg5] at Z5 ⊢
    clear hg5
    clear A2
    replace EN := EN.below b
    replace EL := EL.below b
    replace A1 := A1.below b
    replace C := C.below b
    replace G := G.below b
    replace K := keepB K b
    replace Z1 := keepZ Z1 b
    replace Z2 := keepZ Z2 b
    replace Z3 := keepZ Z3 b
    replace Z4 := keepZ Z4 b
    replace B := B.trans (b.mono B.size)
    clear b
    obtain ⟨c0, c1, c2, c3, c4, _⟩ := cd_cells K
    go_wp2_with fail
    clear c0 c1 c2 c3 c4
    refine (same_blk (blk_arg Z5 hf5.symm) (blk_arg Z2 hZ2l.symm)).mono ?_
    rintro e w' ⟨rfl, rfl⟩
    obtain ⟨rb, hrb⟩ : ∃ rb, rb = decide (Y = Q) := ⟨_, rfl⟩
    have HRB := Lib.hid hrb
    rw [← hrb]
    clear hrb
    obtain ⟨c0, c1, c2, c3, c4, _⟩ := cd_cells K
    go_wp2_with fail
    clear c0 c1 c2 c3 c4
    refine (same_blk (blk_arg Z3 hZ2l.symm) (blk_arg Z2 hZ2l.symm)).mono ?_
    rintro e w' ⟨rfl, rfl⟩
    rw [decide_eq_true rfl]
    obtain ⟨c0, c1, c2, c3, c4, _⟩ := cd_cells K
    go_wp2_with fail
    clear c0 c1 c2 c3 c4
    refine (same_blk (blk_arg Z4 hZ2l.symm) (blk_arg Z2 hZ2l.symm)).mono ?_
    rintro e w' ⟨rfl, rfl⟩
    rw [decide_eq_true rfl]
    obtain ⟨c0, c1, c2, c3, c4, _⟩ := cd_cells K
    go_wp2_with fail
    clear c0 c1 c2 c3 c4
    refine ((by have h := right_any (m := m) ht1 ht40 w11 s C _ _ X (blk_pol Z1 hf1.symm (by omega)) hn2 _ _ _ Q (blk_pol Z2 hZ2l.symm (by omega)); rw [← HD.out, ← HP.out, decide_eq_true (show _ = _ from HQ.out.symm)] at h; exact h : Calls Tryd.prog 13 #[.pointer (some ⟨s, 0, none⟩), .slice (some ⟨g1, 0, none⟩) n n, .slice (some ⟨g2, 0, none⟩) P P] w11 fun e w' => e = .returned (.bool true) ∧ Below (World.heap w11).size w11 w')).mono ?_
    rintro e w12 ⟨rfl, b⟩
    replace EN := EN.below b
    replace EL := EL.below b
    replace A1 := A1.below b
    replace C := C.below b
    replace G := G.below b
    replace K := keepB K b
    replace Z1 := keepZ Z1 b
    replace Z2 := keepZ Z2 b
    replace Z3 := keepZ Z3 b
    replace Z4 := keepZ Z4 b
    replace Z5 := keepZ Z5 b
    replace B := B.trans (b.mono B.size)
    clear b
    obtain ⟨c0, c1, c2, c3, c4, _⟩ := cd_cells K
    go_wp2_with fail
    clear c0 c1 c2 c3 c4
    refine ((by have h := right_any (m := m) ht1 ht40 w12 s C _ _ X (blk_pol Z1 hf1.symm (by omega)) hn2 _ _ _ Y (blk_pol Z5 hf5.symm (by omega)); rw [← HD.out, ← HP.out, ← HQ.out, show decide (Q = Y) = rb by rw [HRB.out]; exact decide_eq_decide.2 ⟨Eq.symm, Eq.symm⟩] at h; exact h : Calls Tryd.prog 13 #[.pointer (some ⟨s, 0, none⟩), .slice (some ⟨g1, 0, none⟩) n n, .slice (some ⟨g5, 0, none⟩) P P] w12 fun e w' => e = .returned (.bool rb) ∧ Below (World.heap w12).size w12 w')).mono ?_
    rintro e w13 ⟨rfl, b⟩
    replace EN := EN.below b
    replace EL := EL.below b
    replace A1 := A1.below b
    replace C := C.below b
    replace G := G.below b
    replace K := keepB K b
    replace Z1 := keepZ Z1 b
    replace Z2 := keepZ Z2 b
    replace Z3 := keepZ Z3 b
    replace Z4 := keepZ Z4 b
    replace Z5 := keepZ Z5 b
    replace B := B.trans (b.mono B.size)
    clear b
    obtain ⟨c0, c1, c2, c3, c4, _⟩ := cd_cells K
    go_wp2_with fail
    clear c0 c1 c2 c3 c4
    clear Z3 Z4 G
    have HNv : Hid (8 * n + deg m t = 8 * n + D) := by show _ = _; rw [← HD.out]
    obtain ⟨N, hN⟩ : ∃ N, N = 8 * n + D := ⟨_, rfl⟩
    have HN := Lib.hid hN
    have hNb : N ≤ 1000 := by omega
    clear hN
    by_cases hat : at' < 0
    · have HFl : Hid (Calls Tryd.prog 18 #[.pointer (some ⟨s, 0, none⟩), .slice (some ⟨g1, 0, none⟩) n n, .slice (some ⟨g5, 0, none⟩) P P, .int .i64 at'] w13 fun e w' => e = .returned (.tuple #[.slice none 0 0, .slice none 0 0, errOf yn]) ∧ Drawn w13 w') := by
        have h := flip_num (m := m) ht40 w13 s C (some ⟨g1, 0, none⟩) n hn2 (some ⟨g5, 0, none⟩) P at' (Or.inl hat) yn EN
        rw [← HD.out, ← HP.out] at h
        exact h
      refine HFl.out.mono ?_
      rintro e w14 ⟨rfl, d⟩
      clear HFl
      have b := d.below w13.heap.size
      clear d
      replace EN := EN.below b
      replace EL := EL.below b
      replace A1 := A1.below b
      replace C := C.below b
      replace K := keepB K b
      replace Z1 := keepZ Z1 b
      replace Z2 := keepZ Z2 b
      replace Z5 := keepZ Z5 b
      replace B := B.trans (b.mono B.size)
      clear b
      have e1n := EN.1
      unfold Sent at e1n
      have q1n := eql_err yn
      have ta : decide (at' < 0) = true := decide_eq_true hat
      clear A1 C K Z1 Z2 Z5 EL EN
      go_wp2_with fail
      go_ret
      exact ⟨rfl, B⟩
    · have ta : decide (at' < 0) = false := decide_eq_false hat
      by_cases hat2 : (N : Int) ≤ at'
      · have HFl : Hid (Calls Tryd.prog 18 #[.pointer (some ⟨s, 0, none⟩), .slice (some ⟨g1, 0, none⟩) n n, .slice (some ⟨g5, 0, none⟩) P P, .int .i64 at'] w13 fun e w' => e = .returned (.tuple #[.slice none 0 0, .slice none 0 0, errOf yn]) ∧ Drawn w13 w') := by
          have h := flip_num (m := m) ht40 w13 s C (some ⟨g1, 0, none⟩) n hn2 (some ⟨g5, 0, none⟩) P at' (Or.inr (by rw [HNv.out, ← HN.out]; exact hat2)) yn EN
          rw [← HD.out, ← HP.out] at h
          exact h
        refine HFl.out.mono ?_
        rintro e w14 ⟨rfl, d⟩
        clear HFl
        have b := d.below w13.heap.size
        clear d
        replace EN := EN.below b
        replace EL := EL.below b
        replace A1 := A1.below b
        replace C := C.below b
        replace K := keepB K b
        replace Z1 := keepZ Z1 b
        replace Z2 := keepZ Z2 b
        replace Z5 := keepZ Z5 b
        replace B := B.trans (b.mono B.size)
        clear b
        have tb : decide ((N : Int) ≤ at') = true := decide_eq_true hat2
        obtain ⟨c0, c1, c2, c3, c4, _⟩ := cd_cells K
        go_wp2_with fail
        clear c0 c1 c2 c3 c4
        refine (rbits_any m t n ga gn gc D (by omega) hn2 w14).mono ?_
        rintro e w15 ⟨rfl, b⟩
        rw [← HN.out]
        replace EN := EN.below b
        replace EL := EL.below b
        replace A1 := A1.below b
        replace C := C.below b
        replace K := keepB K b
        replace Z1 := keepZ Z1 b
        replace Z2 := keepZ Z2 b
        replace Z5 := keepZ Z5 b
        replace B := B.trans (b.mono B.size)
        clear b
        have e1n := EN.1
        unfold Sent at e1n
        have q1n := eql_err yn
        clear A1 C K Z1 Z2 Z5 EL EN
        go_wp2_with fail
        go_ret
        exact ⟨rfl, B⟩
      · obtain ⟨q, rfl⟩ : ∃ q : Nat, at' = (q : Int) := ⟨at'.toNat, by omega⟩
        have tb : decide ((N : Int) ≤ (q : Int)) = false := decide_eq_false hat2
        have hqN : q < N := by omega
        have hq2 : q < 8 * n + deg m t := by rw [HNv.out, ← HN.out]; exact hqN
        clear hat hat2
        have HFl : Hid (Calls Tryd.prog 18 #[.pointer (some ⟨s, 0, none⟩), .slice (some ⟨g1, 0, none⟩) n n, .slice (some ⟨g5, 0, none⟩) P P, .int .i64 (q : Int)] w13 (FlipAt D n P q (val X) (val Y) w13)) := by
          have h := flip_any (m := m) ht1 ht40 w13 s C _ _ _ (blk_pol Z1 hf1.symm (by omega)) hn2 _ _ _ (by rw [← HD.out, ← HP.out]; exact blk_pol Z5 hf5.symm (by omega)) q hq2
          rw [← HD.out, ← HP.out] at h
          exact h
        refine (HFl.out).mono ?_
        rintro e w14 ⟨u1, e1, X1, v1, f1, Y1, rfl, N1, NM1, hX1, hY1, b⟩
        clear HFl
        replace EN := EN.below b
        replace EL := EL.below b
        replace A1 := A1.below b
        replace C := C.below b
        replace K := keepB K b
        replace Z1 := keepZ Z1 b
        replace Z2 := keepZ Z2 b
        replace Z5 := keepZ Z5 b
        replace B := B.trans (b.mono B.size)
        clear b
        obtain ⟨c0, c1, c2, c3, c4, _⟩ := cd_cells K
        go_wp2_with fail
        clear c0 c1 c2 c3 c4
        replace hX1 : val X1 = val X ^^^ ed D q := hX1
        replace hY1 : val Y1 = val Y ^^^ ep D q := hY1
        have HX1 := Lib.hid hX1
        have HY1 := Lib.hid hY1
        clear hX1 hY1
        refine (rbits_any m t n ga gn gc D (by omega) hn2 w14).mono ?_
        rintro e w15 ⟨rfl, b⟩
        rw [← HN.out]
        replace EN := EN.below b
        replace EL := EL.below b
        replace A1 := A1.below b
        replace C := C.below b
        replace K := keepB K b
        replace Z1 := keepZ Z1 b
        replace Z2 := keepZ Z2 b
        replace Z5 := keepZ Z5 b
        replace N1 := NewP.keep N1 b
        replace NM1 := NewP.keep NM1 b
        replace B := B.trans (b.mono B.size)
        clear b
        obtain ⟨c0, c1, c2, c3, c4, _⟩ := cd_cells K
        go_wp2_with fail
        clear c0 c1 c2 c3 c4
        have HS : Hid (ErrAt w15 0 yl ∧ Pol w15 a n ca l ∧ CodeAt m t n w15 s ∧ Blk8 w15 g1 X ∧ Blk8 w15 g5 Y ∧ Below w.heap.size w w15) := ⟨EL, A1, C, Z1, Z5, B⟩
        have HS2 : Hid (NewP w13 w15 u1 n e1 X1 ∧ NewP w13 w15 v1 P f1 Y1) := ⟨N1, NM1⟩
        have HKb : Hid (w15.heap[bq]? = some (cdO (.int .i64 (m : Int)) (.int .i64 (t : Int)) (.int .i64 (n : Int)) (.slice ga gn gc) (.int .i64 (D : Int)))) := K
        have s1 := Z1.lt
        have s5 := Z5.lt
        refine (copy_of (Z1.arg hf1.symm (by unfold maxLen; omega)) (fun h => by cases h) (by omega)).mono ?_
        rintro e wb ⟨rfl, Zc, bb⟩
        obtain ⟨g6, hg6⟩ : ∃ g6, g6 = w15.heap.size := ⟨_, rfl⟩
        have HG6 := Lib.hid hg6
        rw [← hg6] at Zc bb s1 s5 ⊢
        have Z5b : Blk8 wb g5 Y := (bb.block g5 s5).trans Z5
        clear EN EL A1 C K Z1 Z2 Z5 N1 NM1 B hg6
        go_wp2_with fail
        refine (copy_of (Z5b.arg hf5.symm (by unfold maxLen; omega)) (fun h => by cases h) (by omega)).mono ?_
        rintro e wc ⟨rfl, Zd, bc⟩
        have hlt6 := Zc.lt
        obtain ⟨g7, hg7⟩ : ∃ g7, g7 = wb.heap.size := ⟨_, rfl⟩
        rw [← hg7] at Zd bc hlt6 ⊢
        have Zc2 : Blk8 wc g6 X := (bc.block g6 hlt6).trans Zc
        have bbc : Below g6 w15 wc := bb.trans (bc.mono (by omega))
        have Kc : wc.heap[bq]? = some (cdO (.int .i64 (m : Int)) (.int .i64 (t : Int)) (.int .i64 (n : Int)) (.slice ga gn gc) (.int .i64 (D : Int))) := by
          have h := HKb.out
          rw [HG6.out] at bbc
          exact keepB h bbc
        obtain ⟨c0, c1, c2, c3, c4, _⟩ := cd_cells Kc
        clear Zc Z5b bb bc hg7 Kc
        go_wp2_with fail
        clear c0 c1 c2 c3 c4
        refine (rflip_any m t n ga gn gc D P (by omega) HP.out g6 g7 X Y q (by rw [← HN.out]; exact hqN) hn2 wc Zc2 Zd hf1 hf5 (by omega) g6 (Nat.le_refl _) (Nat.le_of_lt hlt6)).mono ?_
        rintro e wd ⟨rfl, X', Y', hX'l, hY'l, hX'v, hY'v, Zx, Zy, bd⟩
        obtain rfl : X' = X1 := len_inj (by have := HS2.out.1.hlen; omega) (by rw [hX'v, show val X1 = val X ^^^ ed D q from HX1.out])
        obtain rfl : Y' = Y1 := len_inj (by have := HS2.out.2.hlen; omega) (by rw [hY'v, show val Y1 = val Y ^^^ ep D q from HY1.out])
        have b := bbc.trans bd
        rw [HG6.out] at b
        obtain ⟨EL, A1, C, Z1, Z5, B⟩ := HS.out
        obtain ⟨N1, NM1⟩ := HS2.out
        have K := HKb.out
        clear hX'v hY'v HX1 HY1 HS HS2 HKb Zc2 Zd bbc bd s1 s5 hlt6
        replace EL := EL.below b
        replace A1 := A1.below b
        replace C := C.below b
        replace Z1 := keepZ Z1 b
        replace Z5 := keepZ Z5 b
        replace N1 := NewP.keep N1 b
        replace NM1 := NewP.keep NM1 b
        replace K := keepB K b
        replace B := B.trans (b.mono B.size)
        clear b
        obtain ⟨w40, rfl⟩ : ∃ w40, w40 = wd := ⟨_, rfl⟩
        obtain ⟨c0, c1, c2, c3, c4, _⟩ := cd_cells K
        go_wp2_with fail
        clear c0 c1 c2 c3 c4
        refine (copy_of (Z5.arg hf5.symm (by unfold maxLen; omega)) (fun h => by cases h) (by omega)).mono ?_
        rintro e w41 ⟨rfl, Zq, bq'⟩
        have hown := Zq.own (base := w40.heap.size) (n := P) (Nat.le_refl _) hf5.symm (by unfold maxLen; omega)
        have hbs := bq'.size
        obtain ⟨i0, hi, hz0, hz1, hz2⟩ := info8
        have HQQ := Lib.hid (And.intro EL (And.intro A1 (And.intro C (And.intro Z1 (And.intro Z5 (And.intro N1 (And.intro NM1 (And.intro K (And.intro Zx (And.intro Zy B))))))))))
        clear EL A1 C Z1 Z5 N1 NM1 K Zx Zy B
        go_wp2_with (at_builtin; refine wpList_append_own _ rfl _ _ 22 rfl w40.heap.size 5 i0 (.int .u8 0) 1 1 Tryd.underlying22 hi hz0 hz1 hz2 rfl (by decide) _ P _ rfl (World.ownsRow.alloc hown _) ⟨w41.heap.size, 0, none⟩ 1 1 [.int .u8 1] rfl rfl (cell_one_new _ _ _) (ints_oneCell .u8 [_]) (by unfold maxLen; omega) (by omega) (by simp; omega) ?_; intro v8 w42 hown8 hgrow _)
        obtain ⟨g8, cap8, rfl⟩ := ownsRow_succ hown8
        have b : Below w40.heap.size w40 w42 := (bq'.alloc hbs _).grown hgrow (by simp; omega) (fun g hg => (hown.block g hg).1)
        obtain ⟨EL, A1, C, Z1, Z5, N1, NM1, K, Zx, Zy, B⟩ := HQQ.out
        clear HQQ hown hown8 hgrow Zq bq' hbs
        replace EL := EL.below b
        replace A1 := A1.below b
        replace C := C.below b
        replace Z1 := keepZ Z1 b
        replace Z5 := keepZ Z5 b
        replace N1 := NewP.keep N1 b
        replace NM1 := NewP.keep NM1 b
        replace K := keepB K b
        replace Zx := keepZ Zx b
        replace Zy := keepZ Zy b
        replace B := B.trans (b.mono B.size)
        clear b
        refine (flip_long (m := m) ht40 w42 s C _ _ _ (P + 1) cap8 (by rw [← HD.out, ← HP.out]; omega) _ yl EL).mono ?_
        rintro e w43 ⟨rfl, d⟩
        have b := d.below w42.heap.size
        clear d
        replace EL := EL.below b
        replace A1 := A1.below b
        replace C := C.below b
        replace Z1 := keepZ Z1 b
        replace Z5 := keepZ Z5 b
        replace N1 := NewP.keep N1 b
        replace NM1 := NewP.keep NM1 b
        replace K := keepB K b
        replace Zx := keepZ Zx b
        replace Zy := keepZ Zy b
        replace B := B.trans (b.mono B.size)
        clear b
        obtain ⟨c0, c1, c2, c3, c4, _⟩ := cd_cells K
        go_wp2_with fail
        clear c0 c1 c2 c3 c4
        refine (same_blk (pol_bytes N1.pol) (blk_arg Zx hX'l.symm)).mono ?_
        rintro e w' ⟨rfl, rfl⟩
        rw [decide_eq_true rfl]
        obtain ⟨c0, c1, c2, c3, c4, _⟩ := cd_cells K
        go_wp2_with fail
        clear c0 c1 c2 c3 c4
        have e1l := EL.1
        unfold Sent at e1l
        have q1l := eql_err yl
        refine (same_blk (pol_bytes NM1.pol) (blk_arg Zy hY'l.symm)).mono ?_
        rintro e w' ⟨rfl, rfl⟩
        rw [decide_eq_true rfl]
        obtain ⟨c0, c1, c2, c3, c4, _⟩ := cd_cells K
        go_wp2_with fail
        clear c0 c1 c2 c3 c4
        clear e1l q1l
        refine (fit_any a n ca l n (by omega) w43 A1).mono ?_
        rintro e w44 ⟨rfl, Z9, b⟩
        rw [show fitL l n = X from HXe.out.symm] at Z9
        clear A1
        replace EL := EL.below b
        replace C := C.below b
        replace Z1 := keepZ Z1 b
        replace Z5 := keepZ Z5 b
        replace N1 := NewP.keep N1 b
        replace NM1 := NewP.keep NM1 b
        replace K := keepB K b
        replace Zx := keepZ Zx b
        replace Zy := keepZ Zy b
        replace B := B.trans (b.mono B.size)
        clear b
        obtain ⟨c0, c1, c2, c3, c4, _⟩ := cd_cells K
        go_wp2_with fail
        clear c0 c1 c2 c3 c4
        refine (same_blk (blk_arg Z1 hf1.symm) (blk_arg Z9 hf1.symm)).mono ?_
        rintro e w' ⟨rfl, rfl⟩
        rw [decide_eq_true rfl]
        clear EL C Z1 Z5 N1 NM1 K Zx Zy Z9
        go_wp2_with fail
        go_ret
        exact ⟨rfl, B⟩
  · skip
    have tne : ((na : Int) == (n : Int)) = false := by rw [beq_eq_false_iff_ne]; omega
    refine (serial_bad (m := m) w3 s C a na ca hnd yl EL).mono ?_
    rintro e w4 ⟨rfl, d⟩
    have b := d.below w3.heap.size
    clear d
    replace EN := EN.below b
    replace EL := EL.below b
    replace A1 := A1.below b
    replace A2 := A2.below b
    replace C := C.below b
    replace G := G.below b
    replace K := keepB K b
    replace B := B.trans (b.mono B.size)
    clear b
    obtain ⟨c0, c1, c2, c3, c4, _⟩ := cd_cells K
    go_wp2_with fail
    clear c0 c1 c2 c3 c4
    refine (fast_bad (m := m) w4 s C a na ca hnd yl EL).mono ?_
    rintro e w5 ⟨rfl, d⟩
    have b := d.below w4.heap.size
    clear d
    replace EN := EN.below b
    replace EL := EL.below b
    replace A1 := A1.below b
    replace A2 := A2.below b
    replace C := C.below b
    replace G := G.below b
    replace K := keepB K b
    replace B := B.trans (b.mono B.size)
    clear b
    have e1l := EL.1
    unfold Sent at e1l
    have q1l := neq_err yl
    obtain ⟨c0, c1, c2, c3, c4, _⟩ := cd_cells K
    go_wp2_with fail
    clear c0 c1 c2 c3 c4
    clear e1l q1l
    refine (right_bad (m := m) w5 s C a na ca hnd _ yl EL).mono ?_
    rintro e w6 ⟨rfl, b⟩
    replace EN := EN.below b
    replace EL := EL.below b
    replace A1 := A1.below b
    replace A2 := A2.below b
    replace C := C.below b
    replace G := G.below b
    replace K := keepB K b
    replace B := B.trans (b.mono B.size)
    clear b
    obtain ⟨c0, c1, c2, c3, c4, _⟩ := cd_cells K
    go_wp2_with fail
    clear c0 c1 c2 c3 c4
    refine (fit_any a na ca l n (by omega) w6 A1).mono ?_
    rintro e w7 ⟨rfl, Z1, b⟩
    have hf1 := fitL_length l n
    obtain ⟨X, hXe⟩ : ∃ X, X = fitL l n := ⟨_, rfl⟩
    have HXe := Lib.hid hXe
    rw [← hXe] at Z1 hf1
    obtain ⟨g1, hg1⟩ : ∃ g1, g1 = w6.heap.size := ⟨_, rfl⟩
    rw [← hg1] at Z1 ⊢
    clear hg1 hXe
    replace EN := EN.below b
    replace EL := EL.below b
    replace A1 := A1.below b
    replace A2 := A2.below b
    replace C := C.below b
    replace G := G.below b
    replace K := keepB K b
    replace B := B.trans (b.mono B.size)
    clear b
    obtain ⟨c0, c1, c2, c3, c4, _⟩ := cd_cells K
    go_wp2_with fail
    clear c0 c1 c2 c3 c4
    refine (rserial_any m t n ga gn gc D (gen m t) HG.out (by omega) (by omega) hn2 w7 G.pol _ _ X (blk_pol Z1 hf1.symm (by omega))).mono ?_
    rintro e w8 ⟨g2, rfl, Z2, b, _⟩
    have hZ2l := byN_length (prt (gen m t) D (val X)) (pb D)
    have hZ2v := val_byN (pb_room (prt_lt HG.out (val X)))
    obtain ⟨P, hP⟩ : ∃ P, P = pb D := ⟨_, rfl⟩
    have HP := Lib.hid hP
    have hP8 : P ≤ 8 := by rw [hP]; unfold pb; omega
    rw [← hP] at Z2 hZ2l hZ2v ⊢
    obtain ⟨Q, hQ⟩ : ∃ Q, Q = byN (prt (gen m t) D (val X)) P := ⟨_, rfl⟩
    have HQ := Lib.hid hQ
    rw [← hQ] at Z2 hZ2l hZ2v
    clear hP hQ
    replace EN := EN.below b
    replace EL := EL.below b
    replace A1 := A1.below b
    replace A2 := A2.below b
    replace C := C.below b
    replace G := G.below b
    replace K := keepB K b
    replace Z1 := keepZ Z1 b
    replace B := B.trans (b.mono B.size)
    clear b
    obtain ⟨c0, c1, c2, c3, c4, _⟩ := cd_cells K
    go_wp2_with fail
    clear c0 c1 c2 c3 c4
    refine (serial_any (m := m) ht1 ht40 w8 s C _ n X (blk_pol Z1 hf1.symm (by omega)) hn2).mono ?_
    rintro e w9 ⟨g3, rfl, Z3, b, _⟩
    rw [← HD.out, ← HP.out, ← HQ.out] at Z3
    rw [← HD.out, ← HP.out]
    replace EN := EN.below b
    replace EL := EL.below b
    replace A1 := A1.below b
    replace A2 := A2.below b
    replace C := C.below b
    replace G := G.below b
    replace K := keepB K b
    replace Z1 := keepZ Z1 b
    replace Z2 := keepZ Z2 b
    replace B := B.trans (b.mono B.size)
    clear b
    obtain ⟨c0, c1, c2, c3, c4, _⟩ := cd_cells K
    go_wp2_with fail
    clear c0 c1 c2 c3 c4
    refine (fast_any (m := m) ht1 ht40 w9 s C _ n X (blk_pol Z1 hf1.symm (by omega)) hn2).mono ?_
    rintro e w10 ⟨g4, rfl, Z4, b, _⟩
    rw [← HD.out, ← HP.out, ← HQ.out] at Z4
    rw [← HD.out, ← HP.out]
    replace EN := EN.below b
    replace EL := EL.below b
    replace A1 := A1.below b
    replace A2 := A2.below b
    replace C := C.below b
    replace G := G.below b
    replace K := keepB K b
    replace Z1 := keepZ Z1 b
    replace Z2 := keepZ Z2 b
    replace Z3 := keepZ Z3 b
    replace B := B.trans (b.mono B.size)
    clear b
    obtain ⟨c0, c1, c2, c3, c4, _⟩ := cd_cells K
    go_wp2_with fail
    clear c0 c1 c2 c3 c4
    refine (rparity_any m t n ga gn gc D (by omega) w10).mono ?_
    rintro e w11 ⟨rfl, b⟩
    rw [← HP.out]
    replace EN := EN.below b
    replace EL := EL.below b
    replace A1 := A1.below b
    replace A2 := A2.below b
    replace C := C.below b
    replace G := G.below b
    replace K := keepB K b
    replace Z1 := keepZ Z1 b
    replace Z2 := keepZ Z2 b
    replace Z3 := keepZ Z3 b
    replace Z4 := keepZ Z4 b
    replace B := B.trans (b.mono B.size)
    clear b
    obtain ⟨c0, c1, c2, c3, c4, _⟩ := cd_cells K
    go_wp2_with fail
    clear c0 c1 c2 c3 c4
    refine (fit_any a' na' ca' l' P (by omega) w11 A2).mono ?_
    rintro e w12 ⟨rfl, Z5, b⟩
    have hf5 := fitL_length l' P
    generalize fitL l' P = Y at Z5 hf5
    obtain ⟨g5, hg5⟩ : ∃ g5, g5 = w11.heap.size := ⟨_, rfl⟩
    rw [← hg5] at Z5 ⊢
    clear hg5
    clear A2
    replace EN := EN.below b
    replace EL := EL.below b
    replace A1 := A1.below b
    replace C := C.below b
    replace G := G.below b
    replace K := keepB K b
    replace Z1 := keepZ Z1 b
    replace Z2 := keepZ Z2 b
    replace Z3 := keepZ Z3 b
    replace Z4 := keepZ Z4 b
    replace B := B.trans (b.mono B.size)
    clear b
    obtain ⟨c0, c1, c2, c3, c4, _⟩ := cd_cells K
    go_wp2_with fail
    clear c0 c1 c2 c3 c4
    refine (same_blk (blk_arg Z5 hf5.symm) (blk_arg Z2 hZ2l.symm)).mono ?_
    rintro e w' ⟨rfl, rfl⟩
    obtain ⟨rb, hrb⟩ : ∃ rb, rb = decide (Y = Q) := ⟨_, rfl⟩
    have HRB := Lib.hid hrb
    rw [← hrb]
    clear hrb
    obtain ⟨c0, c1, c2, c3, c4, _⟩ := cd_cells K
    go_wp2_with fail
    clear c0 c1 c2 c3 c4
    refine (same_blk (blk_arg Z3 hZ2l.symm) (blk_arg Z2 hZ2l.symm)).mono ?_
    rintro e w' ⟨rfl, rfl⟩
    rw [decide_eq_true rfl]
    obtain ⟨c0, c1, c2, c3, c4, _⟩ := cd_cells K
    go_wp2_with fail
    clear c0 c1 c2 c3 c4
    refine (same_blk (blk_arg Z4 hZ2l.symm) (blk_arg Z2 hZ2l.symm)).mono ?_
    rintro e w' ⟨rfl, rfl⟩
    rw [decide_eq_true rfl]
    obtain ⟨c0, c1, c2, c3, c4, _⟩ := cd_cells K
    go_wp2_with fail
    clear c0 c1 c2 c3 c4
    refine ((by have h := right_any (m := m) ht1 ht40 w12 s C _ _ X (blk_pol Z1 hf1.symm (by omega)) hn2 _ _ _ Q (blk_pol Z2 hZ2l.symm (by omega)); rw [← HD.out, ← HP.out, decide_eq_true (show _ = _ from HQ.out.symm)] at h; exact h : Calls Tryd.prog 13 #[.pointer (some ⟨s, 0, none⟩), .slice (some ⟨g1, 0, none⟩) n n, .slice (some ⟨g2, 0, none⟩) P P] w12 fun e w' => e = .returned (.bool true) ∧ Below (World.heap w12).size w12 w')).mono ?_
    rintro e w13 ⟨rfl, b⟩
    replace EN := EN.below b
    replace EL := EL.below b
    replace A1 := A1.below b
    replace C := C.below b
    replace G := G.below b
    replace K := keepB K b
    replace Z1 := keepZ Z1 b
    replace Z2 := keepZ Z2 b
    replace Z3 := keepZ Z3 b
    replace Z4 := keepZ Z4 b
    replace Z5 := keepZ Z5 b
    replace B := B.trans (b.mono B.size)
    clear b
    obtain ⟨c0, c1, c2, c3, c4, _⟩ := cd_cells K
    go_wp2_with fail
    clear c0 c1 c2 c3 c4
    refine ((by have h := right_any (m := m) ht1 ht40 w13 s C _ _ X (blk_pol Z1 hf1.symm (by omega)) hn2 _ _ _ Y (blk_pol Z5 hf5.symm (by omega)); rw [← HD.out, ← HP.out, ← HQ.out, show decide (Q = Y) = rb by rw [HRB.out]; exact decide_eq_decide.2 ⟨Eq.symm, Eq.symm⟩] at h; exact h : Calls Tryd.prog 13 #[.pointer (some ⟨s, 0, none⟩), .slice (some ⟨g1, 0, none⟩) n n, .slice (some ⟨g5, 0, none⟩) P P] w13 fun e w' => e = .returned (.bool rb) ∧ Below (World.heap w13).size w13 w')).mono ?_
    rintro e w14 ⟨rfl, b⟩
    replace EN := EN.below b
    replace EL := EL.below b
    replace A1 := A1.below b
    replace C := C.below b
    replace G := G.below b
    replace K := keepB K b
    replace Z1 := keepZ Z1 b
    replace Z2 := keepZ Z2 b
    replace Z3 := keepZ Z3 b
    replace Z4 := keepZ Z4 b
    replace Z5 := keepZ Z5 b
    replace B := B.trans (b.mono B.size)
    clear b
    obtain ⟨c0, c1, c2, c3, c4, _⟩ := cd_cells K
    go_wp2_with fail
    clear c0 c1 c2 c3 c4
    clear Z3 Z4 G
    have HNv : Hid (8 * n + deg m t = 8 * n + D) := by show _ = _; rw [← HD.out]
    obtain ⟨N, hN⟩ : ∃ N, N = 8 * n + D := ⟨_, rfl⟩
    have HN := Lib.hid hN
    have hNb : N ≤ 1000 := by omega
    clear hN
    by_cases hat : at' < 0
    · have HFl : Hid (Calls Tryd.prog 18 #[.pointer (some ⟨s, 0, none⟩), .slice (some ⟨g1, 0, none⟩) n n, .slice (some ⟨g5, 0, none⟩) P P, .int .i64 at'] w14 fun e w' => e = .returned (.tuple #[.slice none 0 0, .slice none 0 0, errOf yn]) ∧ Drawn w14 w') := by
        have h := flip_num (m := m) ht40 w14 s C (some ⟨g1, 0, none⟩) n hn2 (some ⟨g5, 0, none⟩) P at' (Or.inl hat) yn EN
        rw [← HD.out, ← HP.out] at h
        exact h
      refine HFl.out.mono ?_
      rintro e w15 ⟨rfl, d⟩
      clear HFl
      have b := d.below w14.heap.size
      clear d
      replace EN := EN.below b
      replace EL := EL.below b
      replace A1 := A1.below b
      replace C := C.below b
      replace K := keepB K b
      replace Z1 := keepZ Z1 b
      replace Z2 := keepZ Z2 b
      replace Z5 := keepZ Z5 b
      replace B := B.trans (b.mono B.size)
      clear b
      have e1n := EN.1
      unfold Sent at e1n
      have q1n := eql_err yn
      have ta : decide (at' < 0) = true := decide_eq_true hat
      clear A1 C K Z1 Z2 Z5 EL EN
      go_wp2_with fail
      go_ret
      exact ⟨rfl, B⟩
    · have ta : decide (at' < 0) = false := decide_eq_false hat
      by_cases hat2 : (N : Int) ≤ at'
      · have HFl : Hid (Calls Tryd.prog 18 #[.pointer (some ⟨s, 0, none⟩), .slice (some ⟨g1, 0, none⟩) n n, .slice (some ⟨g5, 0, none⟩) P P, .int .i64 at'] w14 fun e w' => e = .returned (.tuple #[.slice none 0 0, .slice none 0 0, errOf yn]) ∧ Drawn w14 w') := by
          have h := flip_num (m := m) ht40 w14 s C (some ⟨g1, 0, none⟩) n hn2 (some ⟨g5, 0, none⟩) P at' (Or.inr (by rw [HNv.out, ← HN.out]; exact hat2)) yn EN
          rw [← HD.out, ← HP.out] at h
          exact h
        refine HFl.out.mono ?_
        rintro e w15 ⟨rfl, d⟩
        clear HFl
        have b := d.below w14.heap.size
        clear d
        replace EN := EN.below b
        replace EL := EL.below b
        replace A1 := A1.below b
        replace C := C.below b
        replace K := keepB K b
        replace Z1 := keepZ Z1 b
        replace Z2 := keepZ Z2 b
        replace Z5 := keepZ Z5 b
        replace B := B.trans (b.mono B.size)
        clear b
        have tb : decide ((N : Int) ≤ at') = true := decide_eq_true hat2
        obtain ⟨c0, c1, c2, c3, c4, _⟩ := cd_cells K
        go_wp2_with fail
        clear c0 c1 c2 c3 c4
        refine (rbits_any m t n ga gn gc D (by omega) hn2 w15).mono ?_
        rintro e w16 ⟨rfl, b⟩
        rw [← HN.out]
        replace EN := EN.below b
        replace EL := EL.below b
        replace A1 := A1.below b
        replace C := C.below b
        replace K := keepB K b
        replace Z1 := keepZ Z1 b
        replace Z2 := keepZ Z2 b
        replace Z5 := keepZ Z5 b
        replace B := B.trans (b.mono B.size)
        clear b
        have e1n := EN.1
        unfold Sent at e1n
        have q1n := eql_err yn
        clear A1 C K Z1 Z2 Z5 EL EN
        go_wp2_with fail
        go_ret
        exact ⟨rfl, B⟩
      · obtain ⟨q, rfl⟩ : ∃ q : Nat, at' = (q : Int) := ⟨at'.toNat, by omega⟩
        have tb : decide ((N : Int) ≤ (q : Int)) = false := decide_eq_false hat2
        have hqN : q < N := by omega
        have hq2 : q < 8 * n + deg m t := by rw [HNv.out, ← HN.out]; exact hqN
        clear hat hat2
        have HFl : Hid (Calls Tryd.prog 18 #[.pointer (some ⟨s, 0, none⟩), .slice (some ⟨g1, 0, none⟩) n n, .slice (some ⟨g5, 0, none⟩) P P, .int .i64 (q : Int)] w14 (FlipAt D n P q (val X) (val Y) w14)) := by
          have h := flip_any (m := m) ht1 ht40 w14 s C _ _ _ (blk_pol Z1 hf1.symm (by omega)) hn2 _ _ _ (by rw [← HD.out, ← HP.out]; exact blk_pol Z5 hf5.symm (by omega)) q hq2
          rw [← HD.out, ← HP.out] at h
          exact h
        refine (HFl.out).mono ?_
        rintro e w15 ⟨u1, e1, X1, v1, f1, Y1, rfl, N1, NM1, hX1, hY1, b⟩
        clear HFl
        replace EN := EN.below b
        replace EL := EL.below b
        replace A1 := A1.below b
        replace C := C.below b
        replace K := keepB K b
        replace Z1 := keepZ Z1 b
        replace Z2 := keepZ Z2 b
        replace Z5 := keepZ Z5 b
        replace B := B.trans (b.mono B.size)
        clear b
        obtain ⟨c0, c1, c2, c3, c4, _⟩ := cd_cells K
        go_wp2_with fail
        clear c0 c1 c2 c3 c4
        replace hX1 : val X1 = val X ^^^ ed D q := hX1
        replace hY1 : val Y1 = val Y ^^^ ep D q := hY1
        have HX1 := Lib.hid hX1
        have HY1 := Lib.hid hY1
        clear hX1 hY1
        refine (rbits_any m t n ga gn gc D (by omega) hn2 w15).mono ?_
        rintro e w16 ⟨rfl, b⟩
        rw [← HN.out]
        replace EN := EN.below b
        replace EL := EL.below b
        replace A1 := A1.below b
        replace C := C.below b
        replace K := keepB K b
        replace Z1 := keepZ Z1 b
        replace Z2 := keepZ Z2 b
        replace Z5 := keepZ Z5 b
        replace N1 := NewP.keep N1 b
        replace NM1 := NewP.keep NM1 b
        replace B := B.trans (b.mono B.size)
        clear b
        obtain ⟨c0, c1, c2, c3, c4, _⟩ := cd_cells K
        go_wp2_with fail
        clear c0 c1 c2 c3 c4
        have HS : Hid (ErrAt w16 0 yl ∧ Pol w16 a na ca l ∧ CodeAt m t n w16 s ∧ Blk8 w16 g1 X ∧ Blk8 w16 g5 Y ∧ Below w.heap.size w w16) := ⟨EL, A1, C, Z1, Z5, B⟩
        have HS2 : Hid (NewP w14 w16 u1 n e1 X1 ∧ NewP w14 w16 v1 P f1 Y1) := ⟨N1, NM1⟩
        have HKb : Hid (w16.heap[bq]? = some (cdO (.int .i64 (m : Int)) (.int .i64 (t : Int)) (.int .i64 (n : Int)) (.slice ga gn gc) (.int .i64 (D : Int)))) := K
        have s1 := Z1.lt
        have s5 := Z5.lt
        refine (copy_of (Z1.arg hf1.symm (by unfold maxLen; omega)) (fun h => by cases h) (by omega)).mono ?_
        rintro e wb ⟨rfl, Zc, bb⟩
        obtain ⟨g6, hg6⟩ : ∃ g6, g6 = w16.heap.size := ⟨_, rfl⟩
        have HG6 := Lib.hid hg6
        rw [← hg6] at Zc bb s1 s5 ⊢
        have Z5b : Blk8 wb g5 Y := (bb.block g5 s5).trans Z5
        clear EN EL A1 C K Z1 Z2 Z5 N1 NM1 B hg6
        go_wp2_with fail
        refine (copy_of (Z5b.arg hf5.symm (by unfold maxLen; omega)) (fun h => by cases h) (by omega)).mono ?_
        rintro e wc ⟨rfl, Zd, bc⟩
        have hlt6 := Zc.lt
        obtain ⟨g7, hg7⟩ : ∃ g7, g7 = wb.heap.size := ⟨_, rfl⟩
        rw [← hg7] at Zd bc hlt6 ⊢
        have Zc2 : Blk8 wc g6 X := (bc.block g6 hlt6).trans Zc
        have bbc : Below g6 w16 wc := bb.trans (bc.mono (by omega))
        have Kc : wc.heap[bq]? = some (cdO (.int .i64 (m : Int)) (.int .i64 (t : Int)) (.int .i64 (n : Int)) (.slice ga gn gc) (.int .i64 (D : Int))) := by
          have h := HKb.out
          rw [HG6.out] at bbc
          exact keepB h bbc
        obtain ⟨c0, c1, c2, c3, c4, _⟩ := cd_cells Kc
        clear Zc Z5b bb bc hg7 Kc
        go_wp2_with fail
        clear c0 c1 c2 c3 c4
        refine (rflip_any m t n ga gn gc D P (by omega) HP.out g6 g7 X Y q (by rw [← HN.out]; exact hqN) hn2 wc Zc2 Zd hf1 hf5 (by omega) g6 (Nat.le_refl _) (Nat.le_of_lt hlt6)).mono ?_
        rintro e wd ⟨rfl, X', Y', hX'l, hY'l, hX'v, hY'v, Zx, Zy, bd⟩
        obtain rfl : X' = X1 := len_inj (by have := HS2.out.1.hlen; omega) (by rw [hX'v, show val X1 = val X ^^^ ed D q from HX1.out])
        obtain rfl : Y' = Y1 := len_inj (by have := HS2.out.2.hlen; omega) (by rw [hY'v, show val Y1 = val Y ^^^ ep D q from HY1.out])
        have b := bbc.trans bd
        rw [HG6.out] at b
        obtain ⟨EL, A1, C, Z1, Z5, B⟩ := HS.out
        obtain ⟨N1, NM1⟩ := HS2.out
        have K := HKb.out
        clear hX'v hY'v HX1 HY1 HS HS2 HKb Zc2 Zd bbc bd s1 s5 hlt6
        replace EL := EL.below b
        replace A1 := A1.below b
        replace C := C.below b
        replace Z1 := keepZ Z1 b
        replace Z5 := keepZ Z5 b
        replace N1 := NewP.keep N1 b
        replace NM1 := NewP.keep NM1 b
        replace K := keepB K b
        replace B := B.trans (b.mono B.size)
        clear b
        obtain ⟨w40, rfl⟩ : ∃ w40, w40 = wd := ⟨_, rfl⟩
        obtain ⟨c0, c1, c2, c3, c4, _⟩ := cd_cells K
        go_wp2_with fail
        clear c0 c1 c2 c3 c4
        refine (copy_of (Z5.arg hf5.symm (by unfold maxLen; omega)) (fun h => by cases h) (by omega)).mono ?_
        rintro e w41 ⟨rfl, Zq, bq'⟩
        have hown := Zq.own (base := w40.heap.size) (n := P) (Nat.le_refl _) hf5.symm (by unfold maxLen; omega)
        have hbs := bq'.size
        obtain ⟨i0, hi, hz0, hz1, hz2⟩ := info8
        have HQQ := Lib.hid (And.intro EL (And.intro A1 (And.intro C (And.intro Z1 (And.intro Z5 (And.intro N1 (And.intro NM1 (And.intro K (And.intro Zx (And.intro Zy B))))))))))
        clear EL A1 C Z1 Z5 N1 NM1 K Zx Zy B
        go_wp2_with (at_builtin; refine wpList_append_own _ rfl _ _ 22 rfl w40.heap.size 5 i0 (.int .u8 0) 1 1 Tryd.underlying22 hi hz0 hz1 hz2 rfl (by decide) _ P _ rfl (World.ownsRow.alloc hown _) ⟨w41.heap.size, 0, none⟩ 1 1 [.int .u8 1] rfl rfl (cell_one_new _ _ _) (ints_oneCell .u8 [_]) (by unfold maxLen; omega) (by omega) (by simp; omega) ?_; intro v8 w42 hown8 hgrow _)
        obtain ⟨g8, cap8, rfl⟩ := ownsRow_succ hown8
        have b : Below w40.heap.size w40 w42 := (bq'.alloc hbs _).grown hgrow (by simp; omega) (fun g hg => (hown.block g hg).1)
        obtain ⟨EL, A1, C, Z1, Z5, N1, NM1, K, Zx, Zy, B⟩ := HQQ.out
        clear HQQ hown hown8 hgrow Zq bq' hbs
        replace EL := EL.below b
        replace A1 := A1.below b
        replace C := C.below b
        replace Z1 := keepZ Z1 b
        replace Z5 := keepZ Z5 b
        replace N1 := NewP.keep N1 b
        replace NM1 := NewP.keep NM1 b
        replace K := keepB K b
        replace Zx := keepZ Zx b
        replace Zy := keepZ Zy b
        replace B := B.trans (b.mono B.size)
        clear b
        refine (flip_long (m := m) ht40 w42 s C _ _ _ (P + 1) cap8 (by rw [← HD.out, ← HP.out]; omega) _ yl EL).mono ?_
        rintro e w43 ⟨rfl, d⟩
        have b := d.below w42.heap.size
        clear d
        replace EL := EL.below b
        replace A1 := A1.below b
        replace C := C.below b
        replace Z1 := keepZ Z1 b
        replace Z5 := keepZ Z5 b
        replace N1 := NewP.keep N1 b
        replace NM1 := NewP.keep NM1 b
        replace K := keepB K b
        replace Zx := keepZ Zx b
        replace Zy := keepZ Zy b
        replace B := B.trans (b.mono B.size)
        clear b
        obtain ⟨c0, c1, c2, c3, c4, _⟩ := cd_cells K
        go_wp2_with fail
        clear c0 c1 c2 c3 c4
        refine (same_blk (pol_bytes N1.pol) (blk_arg Zx hX'l.symm)).mono ?_
        rintro e w' ⟨rfl, rfl⟩
        rw [decide_eq_true rfl]
        obtain ⟨c0, c1, c2, c3, c4, _⟩ := cd_cells K
        go_wp2_with fail
        clear c0 c1 c2 c3 c4
        have e1l := EL.1
        unfold Sent at e1l
        have q1l := eql_err yl
        refine (same_blk (pol_bytes NM1.pol) (blk_arg Zy hY'l.symm)).mono ?_
        rintro e w' ⟨rfl, rfl⟩
        rw [decide_eq_true rfl]
        obtain ⟨c0, c1, c2, c3, c4, _⟩ := cd_cells K
        go_wp2_with fail
        clear c0 c1 c2 c3 c4
        clear e1l q1l
        refine (fit_any a na ca l n (by omega) w43 A1).mono ?_
        rintro e w44 ⟨rfl, Z9, b⟩
        rw [show fitL l n = X from HXe.out.symm] at Z9
        clear A1
        replace EL := EL.below b
        replace C := C.below b
        replace Z1 := keepZ Z1 b
        replace Z5 := keepZ Z5 b
        replace N1 := NewP.keep N1 b
        replace NM1 := NewP.keep NM1 b
        replace K := keepB K b
        replace Zx := keepZ Zx b
        replace Zy := keepZ Zy b
        replace B := B.trans (b.mono B.size)
        clear b
        obtain ⟨c0, c1, c2, c3, c4, _⟩ := cd_cells K
        go_wp2_with fail
        clear c0 c1 c2 c3 c4
        refine (same_blk (blk_arg Z1 hf1.symm) (blk_arg Z9 hf1.symm)).mono ?_
        rintro e w' ⟨rfl, rfl⟩
        rw [decide_eq_true rfl]
        clear EL C Z1 Z5 N1 NM1 K Zx Zy Z9
        go_wp2_with fail
        go_ret
        exact ⟨rfl, B⟩
set_option maxRecDepth 100000 in
set_option maxHeartbeats 1000000 in
theorem long (z1 z2 z3 : Int) (a : Option Addr) (na ca : Nat) (a' : Option Addr) (na' ca' : Nat) (at' : Int) (w : World) (yc : Addr) (EC : ErrAt w 2 yc) (h : 100 < na ∨ (na ≤ 100 ∧ 100 < na')) :
    Calls Tryd.prog 3 #[.int .i64 z1, .int .i64 z2, .int .i64 z3, .slice a na ca, .slice a' na' ca', .int .i64 at'] w fun e w' => e = .returned (.bool true) ∧ Below w.heap.size w w' := by
  rcases h with h | ⟨h0, h⟩
  · have h100 : (100 : Int) < (na : Int) := by omega
    go_enter Tryd.func3, Tryd.ntmps3
    go_wp2_with fail
    refine (first_any w yc EC).mono ?_
    rintro e w1 ⟨rfl, b⟩
    have B := b
    replace EC := EC.below b
    clear b
    go_wp2_with fail
    refine (made_any z1 z2 z3 w1 yc EC).mono ?_
    rintro e w2 ⟨m, t, n, M, s, ga, gn, gc, hm6, hm10, ht6, hn24, hmay, rfl, C, G, b⟩
    replace B := B.trans (b.mono B.size)
    clear b EC C G
    go_wp2_with fail
    go_ret
    exact ⟨rfl, B.alloc B.size _⟩
  · have h100 : (100 : Int) < (na' : Int) := by omega
    have h100a : ¬ (100 : Int) < (na : Int) := by omega
    go_enter Tryd.func3, Tryd.ntmps3
    go_wp2_with fail
    refine (first_any w yc EC).mono ?_
    rintro e w1 ⟨rfl, b⟩
    have B := b
    replace EC := EC.below b
    clear b
    go_wp2_with fail
    refine (made_any z1 z2 z3 w1 yc EC).mono ?_
    rintro e w2 ⟨m, t, n, M, s, ga, gn, gc, hm6, hm10, ht6, hn24, hmay, rfl, C, G, b⟩
    replace B := B.trans (b.mono B.size)
    clear b EC C G
    go_wp2_with fail
    go_ret
    exact ⟨rfl, B.alloc B.size _⟩
theorem walk (a0 a1 a2 : Int) (a3 : Option Addr) (len3 cap3 : Nat) (z3 : List Int) (a4 : Option Addr) (len4 cap4 : Nat) (z4 : List Int) (a5 : Int) (W : World) (w0 : (Lit.int .i64 a0).wf = true) (w1 : (Lit.int .i64 a1).wf = true) (w2 : (Lit.int .i64 a2).wf = true) (w3 : IsRow .u8 W a3 len3 cap3 z3) (w4 : IsRow .u8 W a4 len4 cap4 z4) (w5 : (Lit.int .i64 a5).wf = true) (h : LaidEncodeSays.Holds W) :
    Calls Tryd.prog 3 #[.int .i64 a0, .int .i64 a1, .int .i64 a2, .slice a3 len3 cap3, .slice a4 len4 cap4, .int .i64 a5] W fun e w' => e = .returned (.bool true) ∧ Below W.heap.size W w' := by
  obtain ⟨f, ⟨E0, E1, E2, E3⟩, _⟩ := h
  obtain ⟨l, hl⟩ := row_pol w3
  obtain ⟨l', hl'⟩ := row_pol w4
  by_cases h1 : len3 ≤ 100
  · by_cases h2 : len4 ≤ 100
    · exact core a0 a1 a2 a3 len3 cap3 l a4 len4 cap4 l' a5 W _ _ _ E3 E1 E2 hl hl' h1 h2
    · exact long a0 a1 a2 a3 len3 cap3 a4 len4 cap4 a5 W _ E3 (Or.inr ⟨h1, by omega⟩)
  · exact long a0 a1 a2 a3 len3 cap3 a4 len4 cap4 a5 W _ E3 (Or.inl (by omega))
end Go.Proofs.YtnmallpimbpagaaDoor.walkEncodeSays
