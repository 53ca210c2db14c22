/- The walk over SyndromeSays. By the verifier of shale. -/
import Derived.Test.YthhhpaiednpdkaaGreatDoorGreat1
import Derived.Test.YthhhpaiednpdkaaGreatDoorGreat2
import Derived.Test.YthhhpaiednpdkaaGreatDoorGreat3
import Derived.Test.YthhhpaiednpdkaaGreatDoorGreat4
import Derived.Test.YthhhpaiednpdkaaGreatDoorLaidSyndromeSays
import Derived.Deep.Cut
namespace Go.Proofs.YthhhpaiednpdkaaGreatDoor.walkSyndromeSays
open Go Go.RowKit Bin Cos Enc Syn
set_option linter.unusedVariables false
set_option maxRecDepth 100000 in
set_option maxHeartbeats 4000000 in
theorem long0 (z1 z2 z3 : Int) (a : Option Addr) (na ca : Nat) (l : List (BitVec 8)) (p : Option Addr) (np cp : Nat) (l' : List (BitVec 8)) (at' : Option Addr) (nt ct : Nat) (z : Nat → Int) (s1 : Option Addr) (ns cs : Nat) (zs : Nat → Int) (u1 : Option Addr) (nu cu : Nat) (zu : Nat → Int)
    (h1 : 50 < nt) (w : World) (yc yn yl : Addr)
    (EC : ErrAt w 2 yc) (UN : ErrAt w 1 yn) (EL : ErrAt w 0 yl) (A1 : Pol w a na ca l) (A2 : Pol w p np cp l') (Y1 : RowZ w at' nt z) (Y2 : RowZ w s1 ns zs) (Y3 : RowZ w u1 nu zu) :
    Calls Tryz.prog 3 #[.int .i64 z1, .int .i64 z2, .int .i64 z3, .slice a na ca, .slice p np cp, .slice at' nt ct, .slice s1 ns cs, .slice u1 nu cu] w fun e w' => e = .returned (.bool true) ∧ Below w.heap.size w w' := by
  have t1 : decide ((50 : Int) < (nt : Int)) = true := decide_eq_true (by omega)
  go_enter Tryz.func3, Tryz.ntmps3
  go_wp2_with fail
  refine (first7_any w yc yn EC UN).mono ?_
  rintro e w1 ⟨rfl, b⟩
  have B := b
  replace EC := EC.below b
  replace UN := UN.below b
  replace EL := EL.below b
  replace A1 := A1.below b
  replace A2 := A2.below b
  replace Y1 := rowZ_below Y1 b
  replace Y2 := rowZ_below Y2 b
  replace Y3 := rowZ_below Y3 b
  clear b
  go_wp2_with fail
  refine (made7_any z1 z2 z3 w1 yc EC).mono ?_
  rintro e w2 ⟨m, t, n, M, s, ga, gn, gc, hm6, hm10, ht6, hn24, hmay, rfl, C, G, b⟩
  haveI := M
  replace Y1 := rowZ_below Y1 b
  replace Y2 := rowZ_below Y2 b
  replace Y3 := rowZ_below Y3 b
  replace EC := EC.below b
  replace UN := UN.below b
  replace EL := EL.below b
  replace A1 := A1.below b
  replace A2 := A2.below b
  replace B := B.trans (b.mono B.size)
  clear b
  clear G
  have ht1 := hmay.t1
  have ht40 := hmay.t2
  have hn1 := hmay.n1
  have hn2 := hmay.n2
  have hroom := hmay.room
  have hDpos := deg_pos M.lo ht1
  have hD60 : deg m t ≤ 60 := by
    have h1 := deg_le M.lo t
    have h2 : m * t ≤ 10 * 6 := Nat.mul_le_mul hm10 ht6
    omega
  obtain ⟨D, hD⟩ : ∃ D, D = deg m t := ⟨_, rfl⟩
  have HD := Lib.hid hD
  rw [← hD] at hDpos hD60 hroom
  rw [← hD]
  obtain ⟨P, hP⟩ : ∃ P, P = pb D := ⟨_, rfl⟩
  have HPB := Lib.hid hP
  have hP8 : P ≤ 8 := by rw [hP]; unfold pb; omega
  clear hD hP
  go_wp2_with fail
  have bz : Below w2.heap.size w2 (w2.alloc (.cells #[.int .i64 (m : Int), .int .i64 (t : Int), .int .i64 (n : Int), .slice ga gn gc, .int .i64 (D : Int)] 27 (0, 0))) := (Below.refl _ _).alloc (Nat.le_refl _) _
  replace B := B.trans (bz.mono B.size)
  go_ret
  exact ⟨rfl, B⟩
set_option maxRecDepth 100000 in
set_option maxHeartbeats 4000000 in
theorem long1 (z1 z2 z3 : Int) (a : Option Addr) (na ca : Nat) (l : List (BitVec 8)) (p : Option Addr) (np cp : Nat) (l' : List (BitVec 8)) (at' : Option Addr) (nt ct : Nat) (z : Nat → Int) (s1 : Option Addr) (ns cs : Nat) (zs : Nat → Int) (u1 : Option Addr) (nu cu : Nat) (zu : Nat → Int)
    (h1 : nt ≤ 50) (h2 : 50 < ns) (w : World) (yc yn yl : Addr)
    (EC : ErrAt w 2 yc) (UN : ErrAt w 1 yn) (EL : ErrAt w 0 yl) (A1 : Pol w a na ca l) (A2 : Pol w p np cp l') (Y1 : RowZ w at' nt z) (Y2 : RowZ w s1 ns zs) (Y3 : RowZ w u1 nu zu) :
    Calls Tryz.prog 3 #[.int .i64 z1, .int .i64 z2, .int .i64 z3, .slice a na ca, .slice p np cp, .slice at' nt ct, .slice s1 ns cs, .slice u1 nu cu] w fun e w' => e = .returned (.bool true) ∧ Below w.heap.size w w' := by
  have t1 : decide ((50 : Int) < (nt : Int)) = false := decide_eq_false (by omega)
  have t2 : decide ((50 : Int) < (ns : Int)) = true := decide_eq_true (by omega)
  go_enter Tryz.func3, Tryz.ntmps3
  go_wp2_with fail
  refine (first7_any w yc yn EC UN).mono ?_
  rintro e w1 ⟨rfl, b⟩
  have B := b
  replace EC := EC.below b
  replace UN := UN.below b
  replace EL := EL.below b
  replace A1 := A1.below b
  replace A2 := A2.below b
  replace Y1 := rowZ_below Y1 b
  replace Y2 := rowZ_below Y2 b
  replace Y3 := rowZ_below Y3 b
  clear b
  go_wp2_with fail
  refine (made7_any z1 z2 z3 w1 yc EC).mono ?_
  rintro e w2 ⟨m, t, n, M, s, ga, gn, gc, hm6, hm10, ht6, hn24, hmay, rfl, C, G, b⟩
  haveI := M
  replace Y1 := rowZ_below Y1 b
  replace Y2 := rowZ_below Y2 b
  replace Y3 := rowZ_below Y3 b
  replace EC := EC.below b
  replace UN := UN.below b
  replace EL := EL.below b
  replace A1 := A1.below b
  replace A2 := A2.below b
  replace B := B.trans (b.mono B.size)
  clear b
  clear G
  have ht1 := hmay.t1
  have ht40 := hmay.t2
  have hn1 := hmay.n1
  have hn2 := hmay.n2
  have hroom := hmay.room
  have hDpos := deg_pos M.lo ht1
  have hD60 : deg m t ≤ 60 := by
    have h1 := deg_le M.lo t
    have h2 : m * t ≤ 10 * 6 := Nat.mul_le_mul hm10 ht6
    omega
  obtain ⟨D, hD⟩ : ∃ D, D = deg m t := ⟨_, rfl⟩
  have HD := Lib.hid hD
  rw [← hD] at hDpos hD60 hroom
  rw [← hD]
  obtain ⟨P, hP⟩ : ∃ P, P = pb D := ⟨_, rfl⟩
  have HPB := Lib.hid hP
  have hP8 : P ≤ 8 := by rw [hP]; unfold pb; omega
  clear hD hP
  go_wp2_with fail
  have bz : Below w2.heap.size w2 (w2.alloc (.cells #[.int .i64 (m : Int), .int .i64 (t : Int), .int .i64 (n : Int), .slice ga gn gc, .int .i64 (D : Int)] 27 (0, 0))) := (Below.refl _ _).alloc (Nat.le_refl _) _
  replace B := B.trans (bz.mono B.size)
  go_ret
  exact ⟨rfl, B⟩
set_option maxRecDepth 100000 in
set_option maxHeartbeats 4000000 in
theorem long2 (z1 z2 z3 : Int) (a : Option Addr) (na ca : Nat) (l : List (BitVec 8)) (p : Option Addr) (np cp : Nat) (l' : List (BitVec 8)) (at' : Option Addr) (nt ct : Nat) (z : Nat → Int) (s1 : Option Addr) (ns cs : Nat) (zs : Nat → Int) (u1 : Option Addr) (nu cu : Nat) (zu : Nat → Int)
    (h1 : nt ≤ 50) (h2 : ns ≤ 50) (h3 : 50 < nu) (w : World) (yc yn yl : Addr)
    (EC : ErrAt w 2 yc) (UN : ErrAt w 1 yn) (EL : ErrAt w 0 yl) (A1 : Pol w a na ca l) (A2 : Pol w p np cp l') (Y1 : RowZ w at' nt z) (Y2 : RowZ w s1 ns zs) (Y3 : RowZ w u1 nu zu) :
    Calls Tryz.prog 3 #[.int .i64 z1, .int .i64 z2, .int .i64 z3, .slice a na ca, .slice p np cp, .slice at' nt ct, .slice s1 ns cs, .slice u1 nu cu] w fun e w' => e = .returned (.bool true) ∧ Below w.heap.size w w' := by
  have t1 : decide ((50 : Int) < (nt : Int)) = false := decide_eq_false (by omega)
  have t2 : decide ((50 : Int) < (ns : Int)) = false := decide_eq_false (by omega)
  have t3 : decide ((50 : Int) < (nu : Int)) = true := decide_eq_true (by omega)
  go_enter Tryz.func3, Tryz.ntmps3
  go_wp2_with fail
  refine (first7_any w yc yn EC UN).mono ?_
  rintro e w1 ⟨rfl, b⟩
  have B := b
  replace EC := EC.below b
  replace UN := UN.below b
  replace EL := EL.below b
  replace A1 := A1.below b
  replace A2 := A2.below b
  replace Y1 := rowZ_below Y1 b
  replace Y2 := rowZ_below Y2 b
  replace Y3 := rowZ_below Y3 b
  clear b
  go_wp2_with fail
  refine (made7_any z1 z2 z3 w1 yc EC).mono ?_
  rintro e w2 ⟨m, t, n, M, s, ga, gn, gc, hm6, hm10, ht6, hn24, hmay, rfl, C, G, b⟩
  haveI := M
  replace Y1 := rowZ_below Y1 b
  replace Y2 := rowZ_below Y2 b
  replace Y3 := rowZ_below Y3 b
  replace EC := EC.below b
  replace UN := UN.below b
  replace EL := EL.below b
  replace A1 := A1.below b
  replace A2 := A2.below b
  replace B := B.trans (b.mono B.size)
  clear b
  clear G
  have ht1 := hmay.t1
  have ht40 := hmay.t2
  have hn1 := hmay.n1
  have hn2 := hmay.n2
  have hroom := hmay.room
  have hDpos := deg_pos M.lo ht1
  have hD60 : deg m t ≤ 60 := by
    have h1 := deg_le M.lo t
    have h2 : m * t ≤ 10 * 6 := Nat.mul_le_mul hm10 ht6
    omega
  obtain ⟨D, hD⟩ : ∃ D, D = deg m t := ⟨_, rfl⟩
  have HD := Lib.hid hD
  rw [← hD] at hDpos hD60 hroom
  rw [← hD]
  obtain ⟨P, hP⟩ : ∃ P, P = pb D := ⟨_, rfl⟩
  have HPB := Lib.hid hP
  have hP8 : P ≤ 8 := by rw [hP]; unfold pb; omega
  clear hD hP
  go_wp2_with fail
  have bz : Below w2.heap.size w2 (w2.alloc (.cells #[.int .i64 (m : Int), .int .i64 (t : Int), .int .i64 (n : Int), .slice ga gn gc, .int .i64 (D : Int)] 27 (0, 0))) := (Below.refl _ _).alloc (Nat.le_refl _) _
  replace B := B.trans (bz.mono B.size)
  go_ret
  exact ⟨rfl, B⟩
set_option maxRecDepth 100000 in
set_option maxHeartbeats 16000000 in
theorem core (z1 z2 z3 : Int) (a : Option Addr) (na ca : Nat) (l : List (BitVec 8)) (p : Option Addr) (np cp : Nat) (l' : List (BitVec 8)) (at' : Option Addr) (nt ct : Nat) (z : Nat → Int) (s1 : Option Addr) (ns cs : Nat) (zs : Nat → Int) (u1 : Option Addr) (nu cu : Nat) (zu : Nat → Int)
    (h50 : nt ≤ 50) (hs50 : ns ≤ 50) (hu50 : nu ≤ 50) (hfit : Hid (∀ i, i < nu → -9223372036854775808 ≤ zu i ∧ zu i < 9223372036854775808)) (w : World) (yc yn yl : Addr)
    (EC : ErrAt w 2 yc) (UN : ErrAt w 1 yn) (EL : ErrAt w 0 yl) (A1 : Pol w a na ca l) (A2 : Pol w p np cp l') (Y1 : RowZ w at' nt z) (Y2 : RowZ w s1 ns zs) (Y3 : RowZ w u1 nu zu) :
    Calls Tryz.prog 3 #[.int .i64 z1, .int .i64 z2, .int .i64 z3, .slice a na ca, .slice p np cp, .slice at' nt ct, .slice s1 ns cs, .slice u1 nu cu] w fun e w' => e = .returned (.bool true) ∧ Below w.heap.size w w' := by
  go_enter Tryz.func3, Tryz.ntmps3
  go_wp2_with fail
  refine (first7_any w yc yn EC UN).mono ?_
  rintro e w1 ⟨rfl, b⟩
  have B := b
  replace EC := EC.below b
  replace UN := UN.below b
  replace EL := EL.below b
  replace A1 := A1.below b
  replace A2 := A2.below b
  replace Y1 := rowZ_below Y1 b
  replace Y2 := rowZ_below Y2 b
  replace Y3 := rowZ_below Y3 b
  clear b
  go_wp2_with fail
  refine (made7_any z1 z2 z3 w1 yc EC).mono ?_
  rintro e w2 ⟨m, t, n, M, s, ga, gn, gc, hm6, hm10, ht6, hn24, hmay, rfl, C, G, b⟩
  haveI := M
  replace Y1 := rowZ_below Y1 b
  replace Y2 := rowZ_below Y2 b
  replace Y3 := rowZ_below Y3 b
  replace EC := EC.below b
  replace UN := UN.below b
  replace EL := EL.below b
  replace A1 := A1.below b
  replace A2 := A2.below b
  replace B := B.trans (b.mono B.size)
  clear b
  clear G
  have ht1 := hmay.t1
  have ht40 := hmay.t2
  have hn1 := hmay.n1
  have hn2 := hmay.n2
  have hroom := hmay.room
  have hDpos := deg_pos M.lo ht1
  have hD60 : deg m t ≤ 60 := by
    have h1 := deg_le M.lo t
    have h2 : m * t ≤ 10 * 6 := Nat.mul_le_mul hm10 ht6
    omega
  obtain ⟨D, hD⟩ : ∃ D, D = deg m t := ⟨_, rfl⟩
  have HD := Lib.hid hD
  rw [← hD] at hDpos hD60 hroom
  rw [← hD]
  obtain ⟨P, hP⟩ : ∃ P, P = pb D := ⟨_, rfl⟩
  have HPB := Lib.hid hP
  have hP8 : P ≤ 8 := by rw [hP]; unfold pb; omega
  clear hD hP
  obtain ⟨N, hN⟩ : ∃ N, N = 8 * n + D := ⟨_, rfl⟩
  have HN := Lib.hid hN
  have hN0 : 8 * n + deg m t = N := by have := HD.out; omega
  have hNz : N ≤ sz m := by omega
  clear hN
  have t1 : decide ((50 : Int) < (nt : Int)) = false := decide_eq_false (by omega)
  have t2 : decide ((50 : Int) < (ns : Int)) = false := decide_eq_false (by omega)
  have t3 : decide ((50 : Int) < (nu : Int)) = false := decide_eq_false (by omega)
  by_cases hna : na = n
  · by_cases hnp : np = P
    · rcases first_bad z (N : Int) nt with hgood | ⟨j, hj, hgood, hbd⟩
      · as_aux_lemma =>
          have HGd := Lib.hid hgood
          clear hgood
          clear EC
          obtain rfl : n = na := hna.symm
          obtain rfl : P = np := hnp.symm
          go_wp2_with fail
          generalize hw : w2.alloc (.cells #[.int .i64 (m : Int), .int .i64 (t : Int), .int .i64 (n : Int), .slice ga gn gc, .int .i64 (D : Int)] 27 (0, 0)) = w3
          obtain ⟨K, b⟩ := newCd w2 w3 _ _ _ _ _ hw
          clear hw
          replace Y1 := rowZ_below Y1 b
          replace Y2 := rowZ_below Y2 b
          replace Y3 := rowZ_below Y3 b
          replace UN := UN.below b
          replace EL := EL.below b
          replace A1 := A1.below b
          replace A2 := A2.below b
          replace C := C.below b
          replace B := B.trans (b.mono B.size)
          clear b
          obtain ⟨bq, hbq⟩ : ∃ bq, bq = w2.heap.size := ⟨_, rfl⟩
          rw [← hbq] at K ⊢
          clear hbq
          refine (rparity_any m t n ga gn gc D (by omega) w3).mono ?_
          rintro e w4 ⟨rfl, b⟩
          rw [← HPB.out]
          replace Y1 := rowZ_below Y1 b
          replace Y2 := rowZ_below Y2 b
          replace Y3 := rowZ_below Y3 b
          replace UN := UN.below b
          replace EL := EL.below b
          replace A1 := A1.below b
          replace A2 := A2.below b
          replace C := C.below b
          replace K := keepB K b
          replace B := B.trans (b.mono B.size)
          clear b
          obtain ⟨c0, c1, c2, c3, c4, _⟩ := cd_cells K
          go_wp2_with fail
          clear c0 c1 c2 c3 c4
          clear EL
          refine (fit7_any a n ca l n (by omega) w4 A1).mono ?_
          rintro e w5 ⟨rfl, Z1, b⟩
          have hfZ1 := fitL_length l n
          generalize fitL l n = X at Z1 hfZ1
          obtain ⟨gZ1, hgZ1⟩ : ∃ gZ1, gZ1 = w4.heap.size := ⟨_, rfl⟩
          rw [← hgZ1] at Z1 ⊢
          clear hgZ1
          clear A1
          replace Y1 := rowZ_below Y1 b
          replace Y2 := rowZ_below Y2 b
          replace Y3 := rowZ_below Y3 b
          replace UN := UN.below b
          replace A2 := A2.below b
          replace C := C.below b
          replace K := keepB K b
          replace B := B.trans (b.mono B.size)
          clear b
          obtain ⟨c0, c1, c2, c3, c4, _⟩ := cd_cells K
          go_wp2_with fail
          clear c0 c1 c2 c3 c4
          refine (rparity_any m t n ga gn gc D (by omega) w5).mono ?_
          rintro e w6 ⟨rfl, b⟩
          rw [← HPB.out]
          replace Y1 := rowZ_below Y1 b
          replace Y2 := rowZ_below Y2 b
          replace Y3 := rowZ_below Y3 b
          replace UN := UN.below b
          replace A2 := A2.below b
          replace C := C.below b
          replace K := keepB K b
          replace Z1 := keepZ Z1 b
          replace B := B.trans (b.mono B.size)
          clear b
          obtain ⟨c0, c1, c2, c3, c4, _⟩ := cd_cells K
          go_wp2_with fail
          clear c0 c1 c2 c3 c4
          refine (fit7_any p P cp l' P (by omega) w6 A2).mono ?_
          rintro e w7 ⟨rfl, Z2, b⟩
          have hfZ2 := fitL_length l' P
          generalize fitL l' P = U at Z2 hfZ2
          obtain ⟨gZ2, hgZ2⟩ : ∃ gZ2, gZ2 = w6.heap.size := ⟨_, rfl⟩
          rw [← hgZ2] at Z2 ⊢
          clear hgZ2
          clear A2
          replace Y1 := rowZ_below Y1 b
          replace Y2 := rowZ_below Y2 b
          replace Y3 := rowZ_below Y3 b
          replace UN := UN.below b
          replace C := C.below b
          replace K := keepB K b
          replace Z1 := keepZ Z1 b
          replace B := B.trans (b.mono B.size)
          clear b
          obtain ⟨c0, c1, c2, c3, c4, _⟩ := cd_cells K
          go_wp2_with fail
          clear c0 c1 c2 c3 c4
          have HOf : Hid (Calls Tryz.prog 7 #[.pointer (some ⟨s, 0, none⟩), .slice (some ⟨gZ1, 0, none⟩) n n, .slice (some ⟨gZ2, 0, none⟩) P P] w7 (ValE m t (ev m t (val X) (val U) % 2 ^ deg m t) w7)) := by
            have h := of_any (m := m) ht1 ht40 w7 s C _ _ X (blk_pol Z1 hfZ1.symm (by omega)) hn2 _ _ U (by rw [← HD.out, ← HPB.out]; exact blk_pol Z2 hfZ2.symm (by omega))
            rw [show pb (deg m t) = P by rw [← HD.out, ← HPB.out]] at h
            exact h
          refine (HOf.out).mono ?_
          rintro e w8 ⟨g3, rfl, I3, b, _⟩
          clear HOf
          rw [syn_word, ← HD.out] at I3
          replace Y1 := rowZ_below Y1 b
          replace Y2 := rowZ_below Y2 b
          replace Y3 := rowZ_below Y3 b
          replace UN := UN.below b
          replace C := C.below b
          replace K := keepB K b
          replace Z1 := keepZ Z1 b
          replace Z2 := keepZ Z2 b
          replace B := B.trans (b.mono B.size)
          clear b
          obtain ⟨c0, c1, c2, c3, c4, _⟩ := cd_cells K
          go_wp2_with fail
          clear c0 c1 c2 c3 c4
          have hXv : val X < 2 ^ (8 * n) := by have := val_lt X; rwa [hfZ1] at this
          refine (rsyn_any (m := m) t n ga gn gc D ht40 hn2 hDpos (by omega) _ _ _ _ n _ _ _ _ P w8 (blkV n Z1 hfZ1.symm (Nat.le_refl _) (by omega)) hXv (blkV P Z2 hfZ2.symm (Nat.le_refl _) (by omega))).mono ?_
          rintro e w9 ⟨g4, rfl, I4, b, _⟩
          clear Z1
          clear Z2
          replace Y1 := rowZ_below Y1 b
          replace Y2 := rowZ_below Y2 b
          replace Y3 := rowZ_below Y3 b
          replace UN := UN.below b
          replace C := C.below b
          replace K := keepB K b
          replace I3 := keepI I3 b
          replace B := B.trans (b.mono B.size)
          clear b
          obtain ⟨c0, c1, c2, c3, c4, _⟩ := cd_cells K
          go_wp2_with fail
          clear c0 c1 c2 c3 c4
          refine (same_of (m := m) I3 I4 (by omega)).mono ?_
          rintro e w10 ⟨rfl, d⟩
          rw [decide_eq_true rfl]
          have b := d.below w9.heap.size
          clear d
          clear I3
          clear I4
          replace Y1 := rowZ_below Y1 b
          replace Y2 := rowZ_below Y2 b
          replace Y3 := rowZ_below Y3 b
          replace UN := UN.below b
          replace C := C.below b
          replace K := keepB K b
          replace B := B.trans (b.mono B.size)
          clear b
          obtain ⟨c0, c1, c2, c3, c4, _⟩ := cd_cells K
          go_wp2_with fail
          clear c0 c1 c2 c3 c4
          refine (bits_any (m := m) w10 s C hn2 ht40 at' nt ct (natL nt z) (rowN_of Y1 fun i hi => (HGd.out i hi).1) (by omega) (by rw [hN0]; exact natL_lt HGd.out)).mono ?_
          rintro e w11 ⟨g5, rfl, I5, b, _⟩
          replace Y1 := rowZ_below Y1 b
          replace Y2 := rowZ_below Y2 b
          replace Y3 := rowZ_below Y3 b
          replace UN := UN.below b
          replace C := C.below b
          replace K := keepB K b
          replace B := B.trans (b.mono B.size)
          clear b
          obtain ⟨c0, c1, c2, c3, c4, _⟩ := cd_cells K
          go_wp2_with fail
          clear c0 c1 c2 c3 c4
          clear UN
          have hmt : nt ≤ 50 := h50
          have HS : Hid (CodeAt m t n w11 s ∧ w11.heap[bq]? = some (cdO (.int .i64 (m : Int)) (.int .i64 (t : Int)) (.int .i64 (n : Int)) (.slice ga gn gc) (.int .i64 (D : Int))) ∧ RowZ w11 at' nt z ∧ Below w.heap.size w w11) := ⟨C, K, Y1, B⟩
          obtain ⟨WA, hWA⟩ : ∃ WA, WA = w11 := ⟨_, rfl⟩
          have HO0 : Hid (Below WA.heap.size WA w11) := by rw [hWA]; exact Below.refl _ _
          rw [← hWA] at HS
          have HL : Hid (RowZ w11 s1 ns zs ∧ RowZ w11 u1 nu zu ∧ Blk64 w11 g5 (Bin.ints (syn m (xs (natL nt z)) (2 * t)))) := ⟨Y2, Y3, I5⟩
          rw [← hWA] at HL
          clear hWA C K Y1 B Y2 Y3 I5
          go_loopg [29, 30] nt (fun gh s29 s30 wx => ∃ (i : Nat), gh = nt - i ∧ i ≤ nt ∧ s30 = .int .i64 (i : Int) ∧ s29 = .bool false ∧ Below WA.heap.size WA wx)
          case atStart => exact ⟨0, rfl, Nat.zero_le _, rfl, rfl, HO0.out⟩
          case round =>
            clear HO0
            obtain ⟨i, hg, hile, rfl, rfl, hO⟩ := hrel
            have HGh := Lib.hid hg
            clear hg
            by_cases hlt : i < nt
            · have x1 : (i : Int) < (nt : Int) := by omega
              have x0 : (0 : Int) ≤ (i : Int) := by omega
              have HI1 : Hid (i + 1 ≤ nt) := hlt
              obtain ⟨bb, off, ea, d1, hbb⟩ := rowZ_below HS.out.2.2.1 hO i hlt
              have K := keepB HS.out.2.1 hO
              obtain ⟨c0, c1, c2, c3, c4, _⟩ := cd_cells K
              subst ea
              have HO := Lib.hid hO
              clear K hO hbb
              obtain ⟨q1, q2⟩ := HGd.out i (by omega)
              have t1 : decide (z i < 0) = false := decide_eq_false (by omega)
              have t2 : decide ((N : Int) ≤ z i) = false := decide_eq_false (by omega)
              clear q1 q2
              go_upto_region 19 with (fail)
              replace c0 := cell_regrown c0
              replace c1 := cell_regrown c1
              replace c2 := cell_regrown c2
              replace c3 := cell_regrown c3
              replace c4 := cell_regrown c4
              replace d1 := cell_regrown d1
              have HRB : Hid (∀ q os, Calls Tryz.prog 12 #[cdV m t n ga gn gc D] (Sort.grow (redrawn wr q) os) fun e w'' => e = .returned (.int .i64 (N : Int)) ∧ ∃ p : Regrown, w'' = Sort.grow (redrawn wr p.d) p.os) := fun q os => Calls.regrown_of (by rw [HN.out]; exact rbits_any m t n ga gn gc D (by omega) hn2 _)
              refine wp_region_quiet_below (by kernel_rfl) (by kernel_rfl) ?_
              repeat (go_big_quiet_step (first | (go_at_call 12; with_reducible exact HRB.out _ _)))
              refine wpQuiet_nil ?_
              intro _ hw'
              obtain ⟨⟨dq, osq⟩, hw''⟩ := hw'
              subst hw''
              have b := below_regrown wr dq osq
              generalize Sort.grow (redrawn wr dq) osq = w60 at b ⊢
              have HO6 : Hid (Below WA.heap.size WA w60) := HO.out.trans (b.mono HO.out.size)
              clear c0 c1 c2 c3 c4 d1 HRB HO b
              go_wp2_with fail
              go_roundg (nt - (i + 1))
              case measure => have := HGh.out; have := HI1.out; omega
              case rel => exact ⟨i + 1, rfl, HI1.out, by go_num, rfl, HO6.out⟩
            · obtain rfl : i = nt := by omega
              obtain ⟨C, K, Y1, B⟩ := HS.out
              obtain ⟨Y2, Y3, I5⟩ := HL.out
              obtain ⟨w40, rfl⟩ : ∃ w40, w40 = wr := ⟨_, rfl⟩
              have b := hO
              clear hO hlt
              replace Y1 := rowZ_below Y1 b
              replace Y2 := rowZ_below Y2 b
              replace Y3 := rowZ_below Y3 b
              replace C := C.below b
              replace K := keepB K b
              replace I5 := keepI I5 b
              replace B := B.trans (b.mono B.size)
              clear b
              obtain ⟨c0, c1, c2, c3, c4, _⟩ := cd_cells K
              go_wp2_with fail
              clear c0 c1 c2 c3 c4
              refine (rof_any (m := m) t n ga gn gc D ht40 at' i ct (natL i z) w40 (rowN_of Y1 fun q hq => (HGd.out q hq).1) (by omega) (fun q hq => by have h1 := natL_lt HGd.out q hq; have h2 := HN.out; omega)).mono ?_
              rintro e w41 ⟨g6, rfl, I6, b, _⟩
              replace Y1 := rowZ_below Y1 b
              replace Y2 := rowZ_below Y2 b
              replace Y3 := rowZ_below Y3 b
              replace C := C.below b
              replace K := keepB K b
              replace I5 := keepI I5 b
              replace B := B.trans (b.mono B.size)
              clear b
              obtain ⟨c0, c1, c2, c3, c4, _⟩ := cd_cells K
              go_wp2_with fail
              clear c0 c1 c2 c3 c4
              refine (same_of (m := m) I5 I6 (by omega)).mono ?_
              rintro e w42 ⟨rfl, d⟩
              rw [decide_eq_true rfl]
              have b := d.below w41.heap.size
              clear d
              clear I5
              clear I6
              replace Y1 := rowZ_below Y1 b
              replace Y2 := rowZ_below Y2 b
              replace Y3 := rowZ_below Y3 b
              replace C := C.below b
              replace K := keepB K b
              replace B := B.trans (b.mono B.size)
              clear b
              obtain ⟨c0, c1, c2, c3, c4, _⟩ := cd_cells K
              go_wp2_with fail
              clear c0 c1 c2 c3 c4
              clear Y1
              refine (add_both s1 ns cs zs u1 nu cu zu w42 Y2 Y3 (by omega) (by omega) hfit.out).mono ?_
              rintro e w43 ⟨gs, L, rfl, IS, hLl, hLn, b⟩
              obtain ⟨NM, hNM⟩ : ∃ NM, NM = max ns nu := ⟨_, rfl⟩
              rw [← hNM] at hLl hLn ⊢
              have HNM := Lib.hid hNM
              have hNM1 : NM ≤ 50 := by omega
              have HLn : Hid (∀ i, i < NM → nth64 L i = wv ns nu zs zu i) := hLn
              clear hLn hNM
              replace Y2 := rowZ_below Y2 b
              replace Y3 := rowZ_below Y3 b
              replace C := C.below b
              replace K := keepB K b
              replace B := B.trans (b.mono B.size)
              clear b
              obtain ⟨c0, c1, c2, c3, c4, _⟩ := cd_cells K
              go_wp2_with fail
              clear c0 c1 c2 c3 c4
              obtain ⟨f, be, ce, bl, FF, hfield⟩ := field_fixed C
              have HField := Lib.hid hfield
              obtain ⟨bcl, hbcl⟩ : ∃ b, b = decide (∀ i, i < ns → zs i = 0) := ⟨_, rfl⟩
              obtain ⟨bft, hbft⟩ : ∃ b, b = decide (∀ i, i < ns → 2 * i + 1 < ns → Fld.fmul m (Fld.el m (zs i)) (Fld.el m (zs i)) = Fld.el m (zs (2 * i + 1))) := ⟨_, rfl⟩
              obtain ⟨WB, hWB⟩ : ∃ WB, WB = w43 := ⟨_, rfl⟩
              rw [← hWB] at C K Y2 Y3 IS B FF HField
              have HC1 : Hid (∀ q os, Calls Tryz.prog 15 #[.slice s1 ns cs] (Sort.grow (redrawn WB q) os) fun e w'' => e = .returned (.bool bcl) ∧ ∃ p : Regrown, w'' = Sort.grow (redrawn WB p.d) p.os) := fun q os => Calls.regrown_of (by rw [hbcl]; exact (clean_any s1 ns cs zs _ (rowZ_below Y2 (below_regrown WB q os)) (by omega)).mono fun _ _ h => ⟨h.1, by rw [← h.2]; exact Below.refl _ _⟩)
              have HC2 : Hid (∀ q os, Calls Tryz.prog 16 #[.slice s1 ns cs] (Sort.grow (redrawn WB q) os) fun e w'' => e = .returned (.bool bcl) ∧ ∃ p : Regrown, w'' = Sort.grow (redrawn WB p.d) p.os) := fun q os => Calls.regrown_of (by rw [hbcl]; exact (rclean_any s1 ns cs zs _ (rowZ_below Y2 (below_regrown WB q os)) (by omega)).mono fun _ _ h => ⟨h.1, by rw [← h.2]; exact Below.refl _ _⟩)
              have HF1 : Hid (∀ q os, Calls Tryz.prog 17 #[.pointer (some ⟨f, 0, none⟩), .slice s1 ns cs] (Sort.grow (redrawn WB q) os) fun e w'' => e = .returned (.bool bft) ∧ ∃ p : Regrown, w'' = Sort.grow (redrawn WB p.d) p.os) := fun q os => Calls.regrown_of (by rw [hbft]; exact (fits_any (m := m) s1 ns cs zs _ (FF.below M.lo (below_regrown WB q os)) (rowZ_below Y2 (below_regrown WB q os)) (by omega)).mono fun _ _ h => ⟨h.1, h.2.below _⟩)
              have HF2 : Hid (∀ q os, Calls Tryz.prog 19 #[.int .i64 (m : Int), .slice s1 ns cs] (Sort.grow (redrawn WB q) os) fun e w'' => e = .returned (.bool bft) ∧ ∃ p : Regrown, w'' = Sort.grow (redrawn WB p.d) p.os) := fun q os => Calls.regrown_of (by rw [hbft]; exact rfits_any (m := m) s1 ns cs zs _ (rowZ_below Y2 (below_regrown WB q os)) (by omega))
              have HS : Hid (WB.heap[bq]? = some (cdO (.int .i64 (m : Int)) (.int .i64 (t : Int)) (.int .i64 (n : Int)) (.slice ga gn gc) (.int .i64 (D : Int))) ∧ RowZ WB s1 ns zs ∧ RowZ WB u1 nu zu ∧ Blk64 WB gs L ∧ Below w.heap.size w WB) := ⟨K, Y2, Y3, IS, B⟩
              have tb : ∀ b : Bool, (b == b) = true := fun b => by cases b <;> rfl
              have tb1 := tb bcl
              have tb2 := tb bft
              have tnn : ((NM : Int) == (NM : Int)) = true := beq_iff_eq.2 rfl
              rw [← hWB]
              clear hWB C K Y2 Y3 IS B FF hfield hbcl hbft tb
              have hNM : max ns nu = NM := HNM.out.symm
              have tmx : (if (ns : Int) < (nu : Int) then (nu : Int) else (ns : Int)) = (NM : Int) := by split <;> omega
              have Tmx := Lib.hid tmx
              clear hNM tmx
              go_loopg [32] NM (fun gh s32 wx => ∃ (i : Nat), gh = NM - i ∧ i ≤ NM ∧ s32 = .int .i64 (i : Int) ∧ WB = wx)
              case atStart => exact ⟨0, rfl, Nat.zero_le _, rfl, rfl⟩
              case round =>
                obtain ⟨i, hg, hile, rfl, rfl⟩ := hrel
                have HGi := Lib.hid hg
                clear hg
                have tmx := Tmx.out
                have HB2 := Lib.hid HNM.out
                by_cases hlt : i < NM
                · have x1 : (i : Int) < (NM : Int) := by omega
                  have x0 : (0 : Int) ≤ (i : Int) := by omega
                  have HI1 : Hid (i + 1 ≤ NM) := hlt
                  have dL := Blk64.cell HS.out.2.2.2.1 (i := i) (by omega)
                  rw [HLn.out i hlt] at dL
                  have tg : decide ((NM : Int) ≤ (i : Int)) = false := decide_eq_false (by omega)
                  clear hlt
                  by_cases hs : i < ns
                  · by_cases hu : i < nu
                    · have y1 : (i : Int) < (ns : Int) := by omega
                      obtain ⟨b1, f1, e1, d1, _⟩ := HS.out.2.1 i (by omega)
                      subst e1
                      have y2 : (i : Int) < (nu : Int) := by omega
                      obtain ⟨b2, f2, e2, d2, _⟩ := HS.out.2.2.1 i (by omega)
                      subst e2
                      have hwv : wv ns nu zs zu i = bits .xor .i64 (zs i) (zu i) := by unfold wv; rw [if_pos hu, if_pos hs]
                      rw [hwv] at dL
                      clear hwv
                      generalize zs i = v1 at d1 dL
                      generalize zu i = v2 at d2 dL
                      generalize hv : bits .xor .i64 v1 v2 = v3 at dL
                      have tv : (v3 == v3) = true := beq_iff_eq.2 rfl
                      clear hs hu
                      go_wp2_with fail
                      go_roundg (NM - (i + 1))
                      case measure => have := HGi.out; have := HI1.out; omega
                      case rel => exact ⟨i + 1, rfl, HI1.out, by go_num, rfl⟩
                    · have y1 : (i : Int) < (ns : Int) := by omega
                      obtain ⟨b1, f1, e1, d1, _⟩ := HS.out.2.1 i (by omega)
                      subst e1
                      have y2 : ¬ ((i : Int) < (nu : Int)) := by omega
                      have y4 : decide ((i : Int) < (nu : Int)) = false := decide_eq_false (by omega)
                      have hwv : wv ns nu zs zu i = zs i := by unfold wv; rw [if_neg hu, if_pos hs]
                      rw [hwv] at dL
                      clear hwv
                      generalize zs i = v1 at d1 dL
                      have tv : (v1 == v1) = true := beq_iff_eq.2 rfl
                      clear hs hu
                      go_wp2_with fail
                      go_roundg (NM - (i + 1))
                      case measure => have := HGi.out; have := HI1.out; omega
                      case rel => exact ⟨i + 1, rfl, HI1.out, by go_num, rfl⟩
                  · have hu : i < nu := by omega
                    have y1 : ¬ ((i : Int) < (ns : Int)) := by omega
                    have y3 : decide ((i : Int) < (ns : Int)) = false := decide_eq_false (by omega)
                    have y2 : (i : Int) < (nu : Int) := by omega
                    obtain ⟨b2, f2, e2, d2, _⟩ := HS.out.2.2.1 i (by omega)
                    subst e2
                    have hwv : wv ns nu zs zu i = bits .xor .i64 0 (zu i) := by unfold wv; rw [if_pos hu, if_neg hs]
                    rw [hwv] at dL
                    clear hwv
                    generalize zu i = v2 at d2 dL
                    generalize hv : bits .xor .i64 0 v2 = v3 at dL
                    have tv : (v3 == v3) = true := beq_iff_eq.2 rfl
                    clear hs hu
                    go_wp2_with fail
                    go_roundg (NM - (i + 1))
                    case measure => have := HGi.out; have := HI1.out; omega
                    case rel => exact ⟨i + 1, rfl, HI1.out, by go_num, rfl⟩
                · obtain rfl : i = NM := by omega
                  obtain ⟨K, Y2, Y3, IS, B⟩ := HS.out
                  obtain ⟨c0, c1, c2, c3, c4, _⟩ := cd_cells K
                  have tmq : ((i : Int) == max (ns : Int) (nu : Int)) = true := by rw [beq_iff_eq]; have := HB2.out; omega
                  clear K Y2 Y3 IS HB2
                  go_upto_region 33 with (fail)
                  replace c0 := cell_regrown c0
                  replace c1 := cell_regrown c1
                  replace c2 := cell_regrown c2
                  replace c3 := cell_regrown c3
                  replace c4 := cell_regrown c4
                  refine wp_region_quiet_below (by kernel_rfl) (by kernel_rfl) ?_
                  repeat (go_big_quiet_step (first
                    | (go_at_call 15; with_reducible exact HC1.out _ _)
                    | (go_at_call 16; with_reducible exact HC2.out _ _)
                    | (go_at_call 18; with_reducible exact HField.out _ _)
                    | (go_at_call 17; with_reducible exact HF1.out _ _)
                    | (go_at_call 19; with_reducible exact HF2.out _ _)))
                  refine wpQuiet_nil ?_
                  intro _ hw'
                  obtain ⟨⟨dq, osq⟩, hw''⟩ := hw'
                  subst hw''
                  have B2 := B.trans ((below_regrown WB dq osq).mono B.size)
                  generalize Sort.grow (redrawn WB dq) osq = w99 at B2 ⊢
                  clear c0 c1 c2 c3 c4 B
                  go_wp2_with fail
                  go_ret
                  exact ⟨rfl, B2⟩
      · as_aux_lemma =>
          have HGd := Lib.hid hgood
          have HBd := Lib.hid hbd
          have HJ := Lib.hid hj
          clear hgood hbd hj
          clear EC
          obtain rfl : n = na := hna.symm
          obtain rfl : P = np := hnp.symm
          go_wp2_with fail
          generalize hw : w2.alloc (.cells #[.int .i64 (m : Int), .int .i64 (t : Int), .int .i64 (n : Int), .slice ga gn gc, .int .i64 (D : Int)] 27 (0, 0)) = w3
          obtain ⟨K, b⟩ := newCd w2 w3 _ _ _ _ _ hw
          clear hw
          replace Y1 := rowZ_below Y1 b
          replace Y2 := rowZ_below Y2 b
          replace Y3 := rowZ_below Y3 b
          replace UN := UN.below b
          replace EL := EL.below b
          replace A1 := A1.below b
          replace A2 := A2.below b
          replace C := C.below b
          replace B := B.trans (b.mono B.size)
          clear b
          obtain ⟨bq, hbq⟩ : ∃ bq, bq = w2.heap.size := ⟨_, rfl⟩
          rw [← hbq] at K ⊢
          clear hbq
          refine (rparity_any m t n ga gn gc D (by omega) w3).mono ?_
          rintro e w4 ⟨rfl, b⟩
          rw [← HPB.out]
          replace Y1 := rowZ_below Y1 b
          replace Y2 := rowZ_below Y2 b
          replace Y3 := rowZ_below Y3 b
          replace UN := UN.below b
          replace EL := EL.below b
          replace A1 := A1.below b
          replace A2 := A2.below b
          replace C := C.below b
          replace K := keepB K b
          replace B := B.trans (b.mono B.size)
          clear b
          obtain ⟨c0, c1, c2, c3, c4, _⟩ := cd_cells K
          go_wp2_with fail
          clear c0 c1 c2 c3 c4
          clear EL
          refine (fit7_any a n ca l n (by omega) w4 A1).mono ?_
          rintro e w5 ⟨rfl, Z1, b⟩
          have hfZ1 := fitL_length l n
          generalize fitL l n = X at Z1 hfZ1
          obtain ⟨gZ1, hgZ1⟩ : ∃ gZ1, gZ1 = w4.heap.size := ⟨_, rfl⟩
          rw [← hgZ1] at Z1 ⊢
          clear hgZ1
          clear A1
          replace Y1 := rowZ_below Y1 b
          replace Y2 := rowZ_below Y2 b
          replace Y3 := rowZ_below Y3 b
          replace UN := UN.below b
          replace A2 := A2.below b
          replace C := C.below b
          replace K := keepB K b
          replace B := B.trans (b.mono B.size)
          clear b
          obtain ⟨c0, c1, c2, c3, c4, _⟩ := cd_cells K
          go_wp2_with fail
          clear c0 c1 c2 c3 c4
          refine (rparity_any m t n ga gn gc D (by omega) w5).mono ?_
          rintro e w6 ⟨rfl, b⟩
          rw [← HPB.out]
          replace Y1 := rowZ_below Y1 b
          replace Y2 := rowZ_below Y2 b
          replace Y3 := rowZ_below Y3 b
          replace UN := UN.below b
          replace A2 := A2.below b
          replace C := C.below b
          replace K := keepB K b
          replace Z1 := keepZ Z1 b
          replace B := B.trans (b.mono B.size)
          clear b
          obtain ⟨c0, c1, c2, c3, c4, _⟩ := cd_cells K
          go_wp2_with fail
          clear c0 c1 c2 c3 c4
          refine (fit7_any p P cp l' P (by omega) w6 A2).mono ?_
          rintro e w7 ⟨rfl, Z2, b⟩
          have hfZ2 := fitL_length l' P
          generalize fitL l' P = U at Z2 hfZ2
          obtain ⟨gZ2, hgZ2⟩ : ∃ gZ2, gZ2 = w6.heap.size := ⟨_, rfl⟩
          rw [← hgZ2] at Z2 ⊢
          clear hgZ2
          clear A2
          replace Y1 := rowZ_below Y1 b
          replace Y2 := rowZ_below Y2 b
          replace Y3 := rowZ_below Y3 b
          replace UN := UN.below b
          replace C := C.below b
          replace K := keepB K b
          replace Z1 := keepZ Z1 b
          replace B := B.trans (b.mono B.size)
          clear b
          obtain ⟨c0, c1, c2, c3, c4, _⟩ := cd_cells K
          go_wp2_with fail
          clear c0 c1 c2 c3 c4
          have HOf : Hid (Calls Tryz.prog 7 #[.pointer (some ⟨s, 0, none⟩), .slice (some ⟨gZ1, 0, none⟩) n n, .slice (some ⟨gZ2, 0, none⟩) P P] w7 (ValE m t (ev m t (val X) (val U) % 2 ^ deg m t) w7)) := by
            have h := of_any (m := m) ht1 ht40 w7 s C _ _ X (blk_pol Z1 hfZ1.symm (by omega)) hn2 _ _ U (by rw [← HD.out, ← HPB.out]; exact blk_pol Z2 hfZ2.symm (by omega))
            rw [show pb (deg m t) = P by rw [← HD.out, ← HPB.out]] at h
            exact h
          refine (HOf.out).mono ?_
          rintro e w8 ⟨g3, rfl, I3, b, _⟩
          clear HOf
          rw [syn_word, ← HD.out] at I3
          replace Y1 := rowZ_below Y1 b
          replace Y2 := rowZ_below Y2 b
          replace Y3 := rowZ_below Y3 b
          replace UN := UN.below b
          replace C := C.below b
          replace K := keepB K b
          replace Z1 := keepZ Z1 b
          replace Z2 := keepZ Z2 b
          replace B := B.trans (b.mono B.size)
          clear b
          obtain ⟨c0, c1, c2, c3, c4, _⟩ := cd_cells K
          go_wp2_with fail
          clear c0 c1 c2 c3 c4
          have hXv : val X < 2 ^ (8 * n) := by have := val_lt X; rwa [hfZ1] at this
          refine (rsyn_any (m := m) t n ga gn gc D ht40 hn2 hDpos (by omega) _ _ _ _ n _ _ _ _ P w8 (blkV n Z1 hfZ1.symm (Nat.le_refl _) (by omega)) hXv (blkV P Z2 hfZ2.symm (Nat.le_refl _) (by omega))).mono ?_
          rintro e w9 ⟨g4, rfl, I4, b, _⟩
          clear Z1
          clear Z2
          replace Y1 := rowZ_below Y1 b
          replace Y2 := rowZ_below Y2 b
          replace Y3 := rowZ_below Y3 b
          replace UN := UN.below b
          replace C := C.below b
          replace K := keepB K b
          replace I3 := keepI I3 b
          replace B := B.trans (b.mono B.size)
          clear b
          obtain ⟨c0, c1, c2, c3, c4, _⟩ := cd_cells K
          go_wp2_with fail
          clear c0 c1 c2 c3 c4
          refine (same_of (m := m) I3 I4 (by omega)).mono ?_
          rintro e w10 ⟨rfl, d⟩
          rw [decide_eq_true rfl]
          have b := d.below w9.heap.size
          clear d
          clear I3
          clear I4
          replace Y1 := rowZ_below Y1 b
          replace Y2 := rowZ_below Y2 b
          replace Y3 := rowZ_below Y3 b
          replace UN := UN.below b
          replace C := C.below b
          replace K := keepB K b
          replace B := B.trans (b.mono B.size)
          clear b
          obtain ⟨c0, c1, c2, c3, c4, _⟩ := cd_cells K
          go_wp2_with fail
          clear c0 c1 c2 c3 c4
          refine (bits_bad (m := m) w10 s C hn2 ht40 at' nt ct z j Y1 (by omega) HJ.out (by rw [hN0]; exact HGd.out) (by rw [hN0]; exact HBd.out) yn UN).mono ?_
          rintro e w11 ⟨rfl, d⟩
          have b := d.below w10.heap.size
          clear d
          replace Y1 := rowZ_below Y1 b
          replace Y2 := rowZ_below Y2 b
          replace Y3 := rowZ_below Y3 b
          replace UN := UN.below b
          replace C := C.below b
          replace K := keepB K b
          replace B := B.trans (b.mono B.size)
          clear b
          obtain ⟨c0, c1, c2, c3, c4, _⟩ := cd_cells K
          go_wp2_with fail
          clear c0 c1 c2 c3 c4
          have hmt : nt ≤ 50 := h50
          have HS : Hid (CodeAt m t n w11 s ∧ w11.heap[bq]? = some (cdO (.int .i64 (m : Int)) (.int .i64 (t : Int)) (.int .i64 (n : Int)) (.slice ga gn gc) (.int .i64 (D : Int))) ∧ RowZ w11 at' nt z ∧ Below w.heap.size w w11) := ⟨C, K, Y1, B⟩
          obtain ⟨WA, hWA⟩ : ∃ WA, WA = w11 := ⟨_, rfl⟩
          have HO0 : Hid (Below WA.heap.size WA w11) := by rw [hWA]; exact Below.refl _ _
          rw [← hWA] at HS
          have HL : Hid (ErrAt w11 1 yn ∧ RowZ w11 s1 ns zs ∧ RowZ w11 u1 nu zu) := ⟨UN, Y2, Y3⟩
          rw [← hWA] at HL
          clear hWA C K Y1 B UN Y2 Y3
          go_loopg [29, 30] nt (fun gh s29 s30 wx => ∃ (i : Nat), gh = nt - i ∧ i ≤ nt ∧ s30 = .int .i64 (i : Int) ∧ s29 = .bool (decide (j < i)) ∧ Below WA.heap.size WA wx)
          case atStart => exact ⟨0, rfl, Nat.zero_le _, rfl, by rw [decide_eq_false (Nat.not_lt_zero j)], HO0.out⟩
          case round =>
            clear HO0
            obtain ⟨i, hg, hile, rfl, rfl, hO⟩ := hrel
            have HGh := Lib.hid hg
            clear hg
            by_cases hlt : i < nt
            · have x1 : (i : Int) < (nt : Int) := by omega
              have x0 : (0 : Int) ≤ (i : Int) := by omega
              have HI1 : Hid (i + 1 ≤ nt) := hlt
              obtain ⟨bb, off, ea, d1, hbb⟩ := rowZ_below HS.out.2.2.1 hO i hlt
              have K := keepB HS.out.2.1 hO
              obtain ⟨c0, c1, c2, c3, c4, _⟩ := cd_cells K
              subst ea
              have HO := Lib.hid hO
              clear K hO hbb
              by_cases e1 : j < i
              · rw [decide_eq_true e1]
                have HF : Hid (j < i + 1) := by show j < i + 1; omega
                go_upto_region 19 with (fail)
                replace c0 := cell_regrown c0
                replace c1 := cell_regrown c1
                replace c2 := cell_regrown c2
                replace c3 := cell_regrown c3
                replace c4 := cell_regrown c4
                replace d1 := cell_regrown d1
                have HRB : Hid (∀ q os, Calls Tryz.prog 12 #[cdV m t n ga gn gc D] (Sort.grow (redrawn wr q) os) fun e w'' => e = .returned (.int .i64 (N : Int)) ∧ ∃ p : Regrown, w'' = Sort.grow (redrawn wr p.d) p.os) := fun q os => Calls.regrown_of (by rw [HN.out]; exact rbits_any m t n ga gn gc D (by omega) hn2 _)
                refine wp_region_quiet_below (by kernel_rfl) (by kernel_rfl) ?_
                repeat (go_big_quiet_step (first | (go_at_call 12; with_reducible exact HRB.out _ _)))
                refine wpQuiet_nil ?_
                intro _ hw'
                obtain ⟨⟨dq, osq⟩, hw''⟩ := hw'
                subst hw''
                have b := below_regrown wr dq osq
                generalize Sort.grow (redrawn wr dq) osq = w60 at b ⊢
                have HO6 : Hid (Below WA.heap.size WA w60) := HO.out.trans (b.mono HO.out.size)
                clear c0 c1 c2 c3 c4 d1 HRB HO b
                go_wp2_with fail
                go_roundg (nt - (i + 1))
                case measure => have := HGh.out; have := HI1.out; omega
                case rel => exact ⟨i + 1, rfl, HI1.out, by go_num, by rw [decide_eq_true HF.out], HO6.out⟩
              · rw [decide_eq_false e1]
                by_cases e2 : i = j
                · subst e2
                  have HF : Hid (i < i + 1) := Nat.lt_succ_self i
                  by_cases q1 : z i < 0
                  · have t1 : decide (z i < 0) = true := decide_eq_true q1
                    clear e1
                    go_upto_region 19 with (fail)
                    replace c0 := cell_regrown c0
                    replace c1 := cell_regrown c1
                    replace c2 := cell_regrown c2
                    replace c3 := cell_regrown c3
                    replace c4 := cell_regrown c4
                    replace d1 := cell_regrown d1
                    have HRB : Hid (∀ q os, Calls Tryz.prog 12 #[cdV m t n ga gn gc D] (Sort.grow (redrawn wr q) os) fun e w'' => e = .returned (.int .i64 (N : Int)) ∧ ∃ p : Regrown, w'' = Sort.grow (redrawn wr p.d) p.os) := fun q os => Calls.regrown_of (by rw [HN.out]; exact rbits_any m t n ga gn gc D (by omega) hn2 _)
                    refine wp_region_quiet_below (by kernel_rfl) (by kernel_rfl) ?_
                    repeat (go_big_quiet_step (first | (go_at_call 12; with_reducible exact HRB.out _ _)))
                    refine wpQuiet_nil ?_
                    intro _ hw'
                    obtain ⟨⟨dq, osq⟩, hw''⟩ := hw'
                    subst hw''
                    have b := below_regrown wr dq osq
                    generalize Sort.grow (redrawn wr dq) osq = w60 at b ⊢
                    have HO6 : Hid (Below WA.heap.size WA w60) := HO.out.trans (b.mono HO.out.size)
                    clear c0 c1 c2 c3 c4 d1 HRB HO b
                    go_wp2_with fail
                    go_roundg (nt - (i + 1))
                    case measure => have := HGh.out; have := HI1.out; omega
                    case rel => exact ⟨i + 1, rfl, HI1.out, by go_num, by rw [decide_eq_true HF.out], HO6.out⟩
                  · have t1 : decide (z i < 0) = false := decide_eq_false q1
                    have t2 : decide ((N : Int) ≤ z i) = true := decide_eq_true (HBd.out.resolve_left q1)
                    clear e1 q1
                    go_upto_region 19 with (fail)
                    replace c0 := cell_regrown c0
                    replace c1 := cell_regrown c1
                    replace c2 := cell_regrown c2
                    replace c3 := cell_regrown c3
                    replace c4 := cell_regrown c4
                    replace d1 := cell_regrown d1
                    have HRB : Hid (∀ q os, Calls Tryz.prog 12 #[cdV m t n ga gn gc D] (Sort.grow (redrawn wr q) os) fun e w'' => e = .returned (.int .i64 (N : Int)) ∧ ∃ p : Regrown, w'' = Sort.grow (redrawn wr p.d) p.os) := fun q os => Calls.regrown_of (by rw [HN.out]; exact rbits_any m t n ga gn gc D (by omega) hn2 _)
                    refine wp_region_quiet_below (by kernel_rfl) (by kernel_rfl) ?_
                    repeat (go_big_quiet_step (first | (go_at_call 12; with_reducible exact HRB.out _ _)))
                    refine wpQuiet_nil ?_
                    intro _ hw'
                    obtain ⟨⟨dq, osq⟩, hw''⟩ := hw'
                    subst hw''
                    have b := below_regrown wr dq osq
                    generalize Sort.grow (redrawn wr dq) osq = w60 at b ⊢
                    have HO6 : Hid (Below WA.heap.size WA w60) := HO.out.trans (b.mono HO.out.size)
                    clear c0 c1 c2 c3 c4 d1 HRB HO b
                    go_wp2_with fail
                    go_roundg (nt - (i + 1))
                    case measure => have := HGh.out; have := HI1.out; omega
                    case rel => exact ⟨i + 1, rfl, HI1.out, by go_num, by rw [decide_eq_true HF.out], HO6.out⟩
                · have HF : Hid (¬ j < i + 1) := by show ¬ j < i + 1; omega
                  obtain ⟨q1, q2⟩ := HGd.out i (by omega)
                  have t1 : decide (z i < 0) = false := decide_eq_false (by omega)
                  have t2 : decide ((N : Int) ≤ z i) = false := decide_eq_false (by omega)
                  clear q1 q2
                  clear e1 e2
                  go_upto_region 19 with (fail)
                  replace c0 := cell_regrown c0
                  replace c1 := cell_regrown c1
                  replace c2 := cell_regrown c2
                  replace c3 := cell_regrown c3
                  replace c4 := cell_regrown c4
                  replace d1 := cell_regrown d1
                  have HRB : Hid (∀ q os, Calls Tryz.prog 12 #[cdV m t n ga gn gc D] (Sort.grow (redrawn wr q) os) fun e w'' => e = .returned (.int .i64 (N : Int)) ∧ ∃ p : Regrown, w'' = Sort.grow (redrawn wr p.d) p.os) := fun q os => Calls.regrown_of (by rw [HN.out]; exact rbits_any m t n ga gn gc D (by omega) hn2 _)
                  refine wp_region_quiet_below (by kernel_rfl) (by kernel_rfl) ?_
                  repeat (go_big_quiet_step (first | (go_at_call 12; with_reducible exact HRB.out _ _)))
                  refine wpQuiet_nil ?_
                  intro _ hw'
                  obtain ⟨⟨dq, osq⟩, hw''⟩ := hw'
                  subst hw''
                  have b := below_regrown wr dq osq
                  generalize Sort.grow (redrawn wr dq) osq = w60 at b ⊢
                  have HO6 : Hid (Below WA.heap.size WA w60) := HO.out.trans (b.mono HO.out.size)
                  clear c0 c1 c2 c3 c4 d1 HRB HO b
                  go_wp2_with fail
                  go_roundg (nt - (i + 1))
                  case measure => have := HGh.out; have := HI1.out; omega
                  case rel => exact ⟨i + 1, rfl, HI1.out, by go_num, by rw [decide_eq_false HF.out], HO6.out⟩
            · obtain rfl : i = nt := by omega
              obtain ⟨C, K, Y1, B⟩ := HS.out
              obtain ⟨UN, Y2, Y3⟩ := HL.out
              rw [decide_eq_true HJ.out]
              obtain ⟨w40, rfl⟩ : ∃ w40, w40 = wr := ⟨_, rfl⟩
              have b := hO
              clear hO hlt
              replace Y1 := rowZ_below Y1 b
              replace Y2 := rowZ_below Y2 b
              replace Y3 := rowZ_below Y3 b
              replace C := C.below b
              replace K := keepB K b
              replace UN := UN.below b
              replace B := B.trans (b.mono B.size)
              clear b
              have e1n := UN.1
              unfold Sent at e1n
              have q1n := neq_err yn
              obtain ⟨c0, c1, c2, c3, c4, _⟩ := cd_cells K
              go_wp2_with fail
              clear c0 c1 c2 c3 c4
              clear e1n q1n UN
              clear Y1
              refine (add_both s1 ns cs zs u1 nu cu zu w40 Y2 Y3 (by omega) (by omega) hfit.out).mono ?_
              rintro e w41 ⟨gs, L, rfl, IS, hLl, hLn, b⟩
              obtain ⟨NM, hNM⟩ : ∃ NM, NM = max ns nu := ⟨_, rfl⟩
              rw [← hNM] at hLl hLn ⊢
              have HNM := Lib.hid hNM
              have hNM1 : NM ≤ 50 := by omega
              have HLn : Hid (∀ i, i < NM → nth64 L i = wv ns nu zs zu i) := hLn
              clear hLn hNM
              replace Y2 := rowZ_below Y2 b
              replace Y3 := rowZ_below Y3 b
              replace C := C.below b
              replace K := keepB K b
              replace B := B.trans (b.mono B.size)
              clear b
              obtain ⟨c0, c1, c2, c3, c4, _⟩ := cd_cells K
              go_wp2_with fail
              clear c0 c1 c2 c3 c4
              obtain ⟨f, be, ce, bl, FF, hfield⟩ := field_fixed C
              have HField := Lib.hid hfield
              obtain ⟨bcl, hbcl⟩ : ∃ b, b = decide (∀ i, i < ns → zs i = 0) := ⟨_, rfl⟩
              obtain ⟨bft, hbft⟩ : ∃ b, b = decide (∀ i, i < ns → 2 * i + 1 < ns → Fld.fmul m (Fld.el m (zs i)) (Fld.el m (zs i)) = Fld.el m (zs (2 * i + 1))) := ⟨_, rfl⟩
              obtain ⟨WB, hWB⟩ : ∃ WB, WB = w41 := ⟨_, rfl⟩
              rw [← hWB] at C K Y2 Y3 IS B FF HField
              have HC1 : Hid (∀ q os, Calls Tryz.prog 15 #[.slice s1 ns cs] (Sort.grow (redrawn WB q) os) fun e w'' => e = .returned (.bool bcl) ∧ ∃ p : Regrown, w'' = Sort.grow (redrawn WB p.d) p.os) := fun q os => Calls.regrown_of (by rw [hbcl]; exact (clean_any s1 ns cs zs _ (rowZ_below Y2 (below_regrown WB q os)) (by omega)).mono fun _ _ h => ⟨h.1, by rw [← h.2]; exact Below.refl _ _⟩)
              have HC2 : Hid (∀ q os, Calls Tryz.prog 16 #[.slice s1 ns cs] (Sort.grow (redrawn WB q) os) fun e w'' => e = .returned (.bool bcl) ∧ ∃ p : Regrown, w'' = Sort.grow (redrawn WB p.d) p.os) := fun q os => Calls.regrown_of (by rw [hbcl]; exact (rclean_any s1 ns cs zs _ (rowZ_below Y2 (below_regrown WB q os)) (by omega)).mono fun _ _ h => ⟨h.1, by rw [← h.2]; exact Below.refl _ _⟩)
              have HF1 : Hid (∀ q os, Calls Tryz.prog 17 #[.pointer (some ⟨f, 0, none⟩), .slice s1 ns cs] (Sort.grow (redrawn WB q) os) fun e w'' => e = .returned (.bool bft) ∧ ∃ p : Regrown, w'' = Sort.grow (redrawn WB p.d) p.os) := fun q os => Calls.regrown_of (by rw [hbft]; exact (fits_any (m := m) s1 ns cs zs _ (FF.below M.lo (below_regrown WB q os)) (rowZ_below Y2 (below_regrown WB q os)) (by omega)).mono fun _ _ h => ⟨h.1, h.2.below _⟩)
              have HF2 : Hid (∀ q os, Calls Tryz.prog 19 #[.int .i64 (m : Int), .slice s1 ns cs] (Sort.grow (redrawn WB q) os) fun e w'' => e = .returned (.bool bft) ∧ ∃ p : Regrown, w'' = Sort.grow (redrawn WB p.d) p.os) := fun q os => Calls.regrown_of (by rw [hbft]; exact rfits_any (m := m) s1 ns cs zs _ (rowZ_below Y2 (below_regrown WB q os)) (by omega))
              have HS : Hid (WB.heap[bq]? = some (cdO (.int .i64 (m : Int)) (.int .i64 (t : Int)) (.int .i64 (n : Int)) (.slice ga gn gc) (.int .i64 (D : Int))) ∧ RowZ WB s1 ns zs ∧ RowZ WB u1 nu zu ∧ Blk64 WB gs L ∧ Below w.heap.size w WB) := ⟨K, Y2, Y3, IS, B⟩
              have tb : ∀ b : Bool, (b == b) = true := fun b => by cases b <;> rfl
              have tb1 := tb bcl
              have tb2 := tb bft
              have tnn : ((NM : Int) == (NM : Int)) = true := beq_iff_eq.2 rfl
              rw [← hWB]
              clear hWB C K Y2 Y3 IS B FF hfield hbcl hbft tb
              have hNM : max ns nu = NM := HNM.out.symm
              have tmx : (if (ns : Int) < (nu : Int) then (nu : Int) else (ns : Int)) = (NM : Int) := by split <;> omega
              have Tmx := Lib.hid tmx
              clear hNM tmx
              go_loopg [32] NM (fun gh s32 wx => ∃ (i : Nat), gh = NM - i ∧ i ≤ NM ∧ s32 = .int .i64 (i : Int) ∧ WB = wx)
              case atStart => exact ⟨0, rfl, Nat.zero_le _, rfl, rfl⟩
              case round =>
                obtain ⟨i, hg, hile, rfl, rfl⟩ := hrel
                have HGi := Lib.hid hg
                clear hg
                have tmx := Tmx.out
                have HB2 := Lib.hid HNM.out
                by_cases hlt : i < NM
                · have x1 : (i : Int) < (NM : Int) := by omega
                  have x0 : (0 : Int) ≤ (i : Int) := by omega
                  have HI1 : Hid (i + 1 ≤ NM) := hlt
                  have dL := Blk64.cell HS.out.2.2.2.1 (i := i) (by omega)
                  rw [HLn.out i hlt] at dL
                  have tg : decide ((NM : Int) ≤ (i : Int)) = false := decide_eq_false (by omega)
                  clear hlt
                  by_cases hs : i < ns
                  · by_cases hu : i < nu
                    · have y1 : (i : Int) < (ns : Int) := by omega
                      obtain ⟨b1, f1, e1, d1, _⟩ := HS.out.2.1 i (by omega)
                      subst e1
                      have y2 : (i : Int) < (nu : Int) := by omega
                      obtain ⟨b2, f2, e2, d2, _⟩ := HS.out.2.2.1 i (by omega)
                      subst e2
                      have hwv : wv ns nu zs zu i = bits .xor .i64 (zs i) (zu i) := by unfold wv; rw [if_pos hu, if_pos hs]
                      rw [hwv] at dL
                      clear hwv
                      generalize zs i = v1 at d1 dL
                      generalize zu i = v2 at d2 dL
                      generalize hv : bits .xor .i64 v1 v2 = v3 at dL
                      have tv : (v3 == v3) = true := beq_iff_eq.2 rfl
                      clear hs hu
                      go_wp2_with fail
                      go_roundg (NM - (i + 1))
                      case measure => have := HGi.out; have := HI1.out; omega
                      case rel => exact ⟨i + 1, rfl, HI1.out, by go_num, rfl⟩
                    · have y1 : (i : Int) < (ns : Int) := by omega
                      obtain ⟨b1, f1, e1, d1, _⟩ := HS.out.2.1 i (by omega)
                      subst e1
                      have y2 : ¬ ((i : Int) < (nu : Int)) := by omega
                      have y4 : decide ((i : Int) < (nu : Int)) = false := decide_eq_false (by omega)
                      have hwv : wv ns nu zs zu i = zs i := by unfold wv; rw [if_neg hu, if_pos hs]
                      rw [hwv] at dL
                      clear hwv
                      generalize zs i = v1 at d1 dL
                      have tv : (v1 == v1) = true := beq_iff_eq.2 rfl
                      clear hs hu
                      go_wp2_with fail
                      go_roundg (NM - (i + 1))
                      case measure => have := HGi.out; have := HI1.out; omega
                      case rel => exact ⟨i + 1, rfl, HI1.out, by go_num, rfl⟩
                  · have hu : i < nu := by omega
                    have y1 : ¬ ((i : Int) < (ns : Int)) := by omega
                    have y3 : decide ((i : Int) < (ns : Int)) = false := decide_eq_false (by omega)
                    have y2 : (i : Int) < (nu : Int) := by omega
                    obtain ⟨b2, f2, e2, d2, _⟩ := HS.out.2.2.1 i (by omega)
                    subst e2
                    have hwv : wv ns nu zs zu i = bits .xor .i64 0 (zu i) := by unfold wv; rw [if_pos hu, if_neg hs]
                    rw [hwv] at dL
                    clear hwv
                    generalize zu i = v2 at d2 dL
                    generalize hv : bits .xor .i64 0 v2 = v3 at dL
                    have tv : (v3 == v3) = true := beq_iff_eq.2 rfl
                    clear hs hu
                    go_wp2_with fail
                    go_roundg (NM - (i + 1))
                    case measure => have := HGi.out; have := HI1.out; omega
                    case rel => exact ⟨i + 1, rfl, HI1.out, by go_num, rfl⟩
                · obtain rfl : i = NM := by omega
                  obtain ⟨K, Y2, Y3, IS, B⟩ := HS.out
                  obtain ⟨c0, c1, c2, c3, c4, _⟩ := cd_cells K
                  have tmq : ((i : Int) == max (ns : Int) (nu : Int)) = true := by rw [beq_iff_eq]; have := HB2.out; omega
                  clear K Y2 Y3 IS HB2
                  go_upto_region 33 with (fail)
                  replace c0 := cell_regrown c0
                  replace c1 := cell_regrown c1
                  replace c2 := cell_regrown c2
                  replace c3 := cell_regrown c3
                  replace c4 := cell_regrown c4
                  refine wp_region_quiet_below (by kernel_rfl) (by kernel_rfl) ?_
                  repeat (go_big_quiet_step (first
                    | (go_at_call 15; with_reducible exact HC1.out _ _)
                    | (go_at_call 16; with_reducible exact HC2.out _ _)
                    | (go_at_call 18; with_reducible exact HField.out _ _)
                    | (go_at_call 17; with_reducible exact HF1.out _ _)
                    | (go_at_call 19; with_reducible exact HF2.out _ _)))
                  refine wpQuiet_nil ?_
                  intro _ hw'
                  obtain ⟨⟨dq, osq⟩, hw''⟩ := hw'
                  subst hw''
                  have B2 := B.trans ((below_regrown WB dq osq).mono B.size)
                  generalize Sort.grow (redrawn WB dq) osq = w99 at B2 ⊢
                  clear c0 c1 c2 c3 c4 B
                  go_wp2_with fail
                  go_ret
                  exact ⟨rfl, B2⟩
    · rcases first_bad z (N : Int) nt with hgood | ⟨j, hj, hgood, hbd⟩
      · as_aux_lemma =>
          have HGd := Lib.hid hgood
          clear hgood
          clear EC
          obtain rfl : n = na := hna.symm
          have q2 : ((np : Int) == (P : Int)) = false := beq_eq_false_iff_ne.2 (by omega)
          have q4 : ¬ ((np : Int) = (P : Int)) := by omega
          have hbad : n ≠ n ∨ np ≠ pb (deg m t) := .inr (by rw [← HD.out, ← HPB.out]; exact hnp)
          clear hnp
          go_wp2_with fail
          generalize hw : w2.alloc (.cells #[.int .i64 (m : Int), .int .i64 (t : Int), .int .i64 (n : Int), .slice ga gn gc, .int .i64 (D : Int)] 27 (0, 0)) = w3
          obtain ⟨K, b⟩ := newCd w2 w3 _ _ _ _ _ hw
          clear hw
          replace Y1 := rowZ_below Y1 b
          replace Y2 := rowZ_below Y2 b
          replace Y3 := rowZ_below Y3 b
          replace UN := UN.below b
          replace EL := EL.below b
          replace A1 := A1.below b
          replace A2 := A2.below b
          replace C := C.below b
          replace B := B.trans (b.mono B.size)
          clear b
          obtain ⟨bq, hbq⟩ : ∃ bq, bq = w2.heap.size := ⟨_, rfl⟩
          rw [← hbq] at K ⊢
          clear hbq
          refine (rparity_any m t n ga gn gc D (by omega) w3).mono ?_
          rintro e w4 ⟨rfl, b⟩
          rw [← HPB.out]
          replace Y1 := rowZ_below Y1 b
          replace Y2 := rowZ_below Y2 b
          replace Y3 := rowZ_below Y3 b
          replace UN := UN.below b
          replace EL := EL.below b
          replace A1 := A1.below b
          replace A2 := A2.below b
          replace C := C.below b
          replace K := keepB K b
          replace B := B.trans (b.mono B.size)
          clear b
          obtain ⟨c0, c1, c2, c3, c4, _⟩ := cd_cells K
          go_wp2_with fail
          clear c0 c1 c2 c3 c4
          refine (of_bad (m := m) ht40 w4 s C a n ca p np cp hbad yl EL).mono ?_
          rintro e w5 ⟨rfl, d⟩
          have b := d.below w4.heap.size
          clear d hbad
          replace Y1 := rowZ_below Y1 b
          replace Y2 := rowZ_below Y2 b
          replace Y3 := rowZ_below Y3 b
          replace UN := UN.below b
          replace EL := EL.below b
          replace A1 := A1.below b
          replace A2 := A2.below b
          replace C := C.below b
          replace K := keepB K b
          replace B := B.trans (b.mono B.size)
          clear b
          have e1l := EL.1
          unfold Sent at e1l
          have q1l := neq_err yl
          obtain ⟨c0, c1, c2, c3, c4, _⟩ := cd_cells K
          go_wp2_with fail
          clear c0 c1 c2 c3 c4
          clear e1l q1l q2 q4
          clear EL
          refine (fit7_any a n ca l n (by omega) w5 A1).mono ?_
          rintro e w6 ⟨rfl, Z1, b⟩
          have hfZ1 := fitL_length l n
          generalize fitL l n = X at Z1 hfZ1
          obtain ⟨gZ1, hgZ1⟩ : ∃ gZ1, gZ1 = w5.heap.size := ⟨_, rfl⟩
          rw [← hgZ1] at Z1 ⊢
          clear hgZ1
          clear A1
          replace Y1 := rowZ_below Y1 b
          replace Y2 := rowZ_below Y2 b
          replace Y3 := rowZ_below Y3 b
          replace UN := UN.below b
          replace A2 := A2.below b
          replace C := C.below b
          replace K := keepB K b
          replace B := B.trans (b.mono B.size)
          clear b
          obtain ⟨c0, c1, c2, c3, c4, _⟩ := cd_cells K
          go_wp2_with fail
          clear c0 c1 c2 c3 c4
          refine (rparity_any m t n ga gn gc D (by omega) w6).mono ?_
          rintro e w7 ⟨rfl, b⟩
          rw [← HPB.out]
          replace Y1 := rowZ_below Y1 b
          replace Y2 := rowZ_below Y2 b
          replace Y3 := rowZ_below Y3 b
          replace UN := UN.below b
          replace A2 := A2.below b
          replace C := C.below b
          replace K := keepB K b
          replace Z1 := keepZ Z1 b
          replace B := B.trans (b.mono B.size)
          clear b
          obtain ⟨c0, c1, c2, c3, c4, _⟩ := cd_cells K
          go_wp2_with fail
          clear c0 c1 c2 c3 c4
          refine (fit7_any p np cp l' P (by omega) w7 A2).mono ?_
          rintro e w8 ⟨rfl, Z2, b⟩
          have hfZ2 := fitL_length l' P
          generalize fitL l' P = U at Z2 hfZ2
          obtain ⟨gZ2, hgZ2⟩ : ∃ gZ2, gZ2 = w7.heap.size := ⟨_, rfl⟩
          rw [← hgZ2] at Z2 ⊢
          clear hgZ2
          clear A2
          replace Y1 := rowZ_below Y1 b
          replace Y2 := rowZ_below Y2 b
          replace Y3 := rowZ_below Y3 b
          replace UN := UN.below b
          replace C := C.below b
          replace K := keepB K b
          replace Z1 := keepZ Z1 b
          replace B := B.trans (b.mono B.size)
          clear b
          obtain ⟨c0, c1, c2, c3, c4, _⟩ := cd_cells K
          go_wp2_with fail
          clear c0 c1 c2 c3 c4
          have HOf : Hid (Calls Tryz.prog 7 #[.pointer (some ⟨s, 0, none⟩), .slice (some ⟨gZ1, 0, none⟩) n n, .slice (some ⟨gZ2, 0, none⟩) P P] w8 (ValE m t (ev m t (val X) (val U) % 2 ^ deg m t) w8)) := by
            have h := of_any (m := m) ht1 ht40 w8 s C _ _ X (blk_pol Z1 hfZ1.symm (by omega)) hn2 _ _ U (by rw [← HD.out, ← HPB.out]; exact blk_pol Z2 hfZ2.symm (by omega))
            rw [show pb (deg m t) = P by rw [← HD.out, ← HPB.out]] at h
            exact h
          refine (HOf.out).mono ?_
          rintro e w9 ⟨g3, rfl, I3, b, _⟩
          clear HOf
          rw [syn_word, ← HD.out] at I3
          replace Y1 := rowZ_below Y1 b
          replace Y2 := rowZ_below Y2 b
          replace Y3 := rowZ_below Y3 b
          replace UN := UN.below b
          replace C := C.below b
          replace K := keepB K b
          replace Z1 := keepZ Z1 b
          replace Z2 := keepZ Z2 b
          replace B := B.trans (b.mono B.size)
          clear b
          obtain ⟨c0, c1, c2, c3, c4, _⟩ := cd_cells K
          go_wp2_with fail
          clear c0 c1 c2 c3 c4
          have hXv : val X < 2 ^ (8 * n) := by have := val_lt X; rwa [hfZ1] at this
          refine (rsyn_any (m := m) t n ga gn gc D ht40 hn2 hDpos (by omega) _ _ _ _ n _ _ _ _ P w9 (blkV n Z1 hfZ1.symm (Nat.le_refl _) (by omega)) hXv (blkV P Z2 hfZ2.symm (Nat.le_refl _) (by omega))).mono ?_
          rintro e w10 ⟨g4, rfl, I4, b, _⟩
          clear Z1
          clear Z2
          replace Y1 := rowZ_below Y1 b
          replace Y2 := rowZ_below Y2 b
          replace Y3 := rowZ_below Y3 b
          replace UN := UN.below b
          replace C := C.below b
          replace K := keepB K b
          replace I3 := keepI I3 b
          replace B := B.trans (b.mono B.size)
          clear b
          obtain ⟨c0, c1, c2, c3, c4, _⟩ := cd_cells K
          go_wp2_with fail
          clear c0 c1 c2 c3 c4
          refine (same_of (m := m) I3 I4 (by omega)).mono ?_
          rintro e w11 ⟨rfl, d⟩
          rw [decide_eq_true rfl]
          have b := d.below w10.heap.size
          clear d
          clear I3
          clear I4
          replace Y1 := rowZ_below Y1 b
          replace Y2 := rowZ_below Y2 b
          replace Y3 := rowZ_below Y3 b
          replace UN := UN.below b
          replace C := C.below b
          replace K := keepB K b
          replace B := B.trans (b.mono B.size)
          clear b
          obtain ⟨c0, c1, c2, c3, c4, _⟩ := cd_cells K
          go_wp2_with fail
          clear c0 c1 c2 c3 c4
          refine (bits_any (m := m) w11 s C hn2 ht40 at' nt ct (natL nt z) (rowN_of Y1 fun i hi => (HGd.out i hi).1) (by omega) (by rw [hN0]; exact natL_lt HGd.out)).mono ?_
          rintro e w12 ⟨g5, rfl, I5, b, _⟩
          replace Y1 := rowZ_below Y1 b
          replace Y2 := rowZ_below Y2 b
          replace Y3 := rowZ_below Y3 b
          replace UN := UN.below b
          replace C := C.below b
          replace K := keepB K b
          replace B := B.trans (b.mono B.size)
          clear b
          obtain ⟨c0, c1, c2, c3, c4, _⟩ := cd_cells K
          go_wp2_with fail
          clear c0 c1 c2 c3 c4
          clear UN
          have hmt : nt ≤ 50 := h50
          have HS : Hid (CodeAt m t n w12 s ∧ w12.heap[bq]? = some (cdO (.int .i64 (m : Int)) (.int .i64 (t : Int)) (.int .i64 (n : Int)) (.slice ga gn gc) (.int .i64 (D : Int))) ∧ RowZ w12 at' nt z ∧ Below w.heap.size w w12) := ⟨C, K, Y1, B⟩
          obtain ⟨WA, hWA⟩ : ∃ WA, WA = w12 := ⟨_, rfl⟩
          have HO0 : Hid (Below WA.heap.size WA w12) := by rw [hWA]; exact Below.refl _ _
          rw [← hWA] at HS
          have HL : Hid (RowZ w12 s1 ns zs ∧ RowZ w12 u1 nu zu ∧ Blk64 w12 g5 (Bin.ints (syn m (xs (natL nt z)) (2 * t)))) := ⟨Y2, Y3, I5⟩
          rw [← hWA] at HL
          clear hWA C K Y1 B Y2 Y3 I5
          go_loopg [29, 30] nt (fun gh s29 s30 wx => ∃ (i : Nat), gh = nt - i ∧ i ≤ nt ∧ s30 = .int .i64 (i : Int) ∧ s29 = .bool false ∧ Below WA.heap.size WA wx)
          case atStart => exact ⟨0, rfl, Nat.zero_le _, rfl, rfl, HO0.out⟩
          case round =>
            clear HO0
            obtain ⟨i, hg, hile, rfl, rfl, hO⟩ := hrel
            have HGh := Lib.hid hg
            clear hg
            by_cases hlt : i < nt
            · have x1 : (i : Int) < (nt : Int) := by omega
              have x0 : (0 : Int) ≤ (i : Int) := by omega
              have HI1 : Hid (i + 1 ≤ nt) := hlt
              obtain ⟨bb, off, ea, d1, hbb⟩ := rowZ_below HS.out.2.2.1 hO i hlt
              have K := keepB HS.out.2.1 hO
              obtain ⟨c0, c1, c2, c3, c4, _⟩ := cd_cells K
              subst ea
              have HO := Lib.hid hO
              clear K hO hbb
              obtain ⟨q1, q2⟩ := HGd.out i (by omega)
              have t1 : decide (z i < 0) = false := decide_eq_false (by omega)
              have t2 : decide ((N : Int) ≤ z i) = false := decide_eq_false (by omega)
              clear q1 q2
              go_upto_region 19 with (fail)
              replace c0 := cell_regrown c0
              replace c1 := cell_regrown c1
              replace c2 := cell_regrown c2
              replace c3 := cell_regrown c3
              replace c4 := cell_regrown c4
              replace d1 := cell_regrown d1
              have HRB : Hid (∀ q os, Calls Tryz.prog 12 #[cdV m t n ga gn gc D] (Sort.grow (redrawn wr q) os) fun e w'' => e = .returned (.int .i64 (N : Int)) ∧ ∃ p : Regrown, w'' = Sort.grow (redrawn wr p.d) p.os) := fun q os => Calls.regrown_of (by rw [HN.out]; exact rbits_any m t n ga gn gc D (by omega) hn2 _)
              refine wp_region_quiet_below (by kernel_rfl) (by kernel_rfl) ?_
              repeat (go_big_quiet_step (first | (go_at_call 12; with_reducible exact HRB.out _ _)))
              refine wpQuiet_nil ?_
              intro _ hw'
              obtain ⟨⟨dq, osq⟩, hw''⟩ := hw'
              subst hw''
              have b := below_regrown wr dq osq
              generalize Sort.grow (redrawn wr dq) osq = w60 at b ⊢
              have HO6 : Hid (Below WA.heap.size WA w60) := HO.out.trans (b.mono HO.out.size)
              clear c0 c1 c2 c3 c4 d1 HRB HO b
              go_wp2_with fail
              go_roundg (nt - (i + 1))
              case measure => have := HGh.out; have := HI1.out; omega
              case rel => exact ⟨i + 1, rfl, HI1.out, by go_num, rfl, HO6.out⟩
            · obtain rfl : i = nt := by omega
              obtain ⟨C, K, Y1, B⟩ := HS.out
              obtain ⟨Y2, Y3, I5⟩ := HL.out
              obtain ⟨w40, rfl⟩ : ∃ w40, w40 = wr := ⟨_, rfl⟩
              have b := hO
              clear hO hlt
              replace Y1 := rowZ_below Y1 b
              replace Y2 := rowZ_below Y2 b
              replace Y3 := rowZ_below Y3 b
              replace C := C.below b
              replace K := keepB K b
              replace I5 := keepI I5 b
              replace B := B.trans (b.mono B.size)
              clear b
              obtain ⟨c0, c1, c2, c3, c4, _⟩ := cd_cells K
              go_wp2_with fail
              clear c0 c1 c2 c3 c4
              refine (rof_any (m := m) t n ga gn gc D ht40 at' i ct (natL i z) w40 (rowN_of Y1 fun q hq => (HGd.out q hq).1) (by omega) (fun q hq => by have h1 := natL_lt HGd.out q hq; have h2 := HN.out; omega)).mono ?_
              rintro e w41 ⟨g6, rfl, I6, b, _⟩
              replace Y1 := rowZ_below Y1 b
              replace Y2 := rowZ_below Y2 b
              replace Y3 := rowZ_below Y3 b
              replace C := C.below b
              replace K := keepB K b
              replace I5 := keepI I5 b
              replace B := B.trans (b.mono B.size)
              clear b
              obtain ⟨c0, c1, c2, c3, c4, _⟩ := cd_cells K
              go_wp2_with fail
              clear c0 c1 c2 c3 c4
              refine (same_of (m := m) I5 I6 (by omega)).mono ?_
              rintro e w42 ⟨rfl, d⟩
              rw [decide_eq_true rfl]
              have b := d.below w41.heap.size
              clear d
              clear I5
              clear I6
              replace Y1 := rowZ_below Y1 b
              replace Y2 := rowZ_below Y2 b
              replace Y3 := rowZ_below Y3 b
              replace C := C.below b
              replace K := keepB K b
              replace B := B.trans (b.mono B.size)
              clear b
              obtain ⟨c0, c1, c2, c3, c4, _⟩ := cd_cells K
              go_wp2_with fail
              clear c0 c1 c2 c3 c4
              clear Y1
              refine (add_both s1 ns cs zs u1 nu cu zu w42 Y2 Y3 (by omega) (by omega) hfit.out).mono ?_
              rintro e w43 ⟨gs, L, rfl, IS, hLl, hLn, b⟩
              obtain ⟨NM, hNM⟩ : ∃ NM, NM = max ns nu := ⟨_, rfl⟩
              rw [← hNM] at hLl hLn ⊢
              have HNM := Lib.hid hNM
              have hNM1 : NM ≤ 50 := by omega
              have HLn : Hid (∀ i, i < NM → nth64 L i = wv ns nu zs zu i) := hLn
              clear hLn hNM
              replace Y2 := rowZ_below Y2 b
              replace Y3 := rowZ_below Y3 b
              replace C := C.below b
              replace K := keepB K b
              replace B := B.trans (b.mono B.size)
              clear b
              obtain ⟨c0, c1, c2, c3, c4, _⟩ := cd_cells K
              go_wp2_with fail
              clear c0 c1 c2 c3 c4
              obtain ⟨f, be, ce, bl, FF, hfield⟩ := field_fixed C
              have HField := Lib.hid hfield
              obtain ⟨bcl, hbcl⟩ : ∃ b, b = decide (∀ i, i < ns → zs i = 0) := ⟨_, rfl⟩
              obtain ⟨bft, hbft⟩ : ∃ b, b = decide (∀ i, i < ns → 2 * i + 1 < ns → Fld.fmul m (Fld.el m (zs i)) (Fld.el m (zs i)) = Fld.el m (zs (2 * i + 1))) := ⟨_, rfl⟩
              obtain ⟨WB, hWB⟩ : ∃ WB, WB = w43 := ⟨_, rfl⟩
              rw [← hWB] at C K Y2 Y3 IS B FF HField
              have HC1 : Hid (∀ q os, Calls Tryz.prog 15 #[.slice s1 ns cs] (Sort.grow (redrawn WB q) os) fun e w'' => e = .returned (.bool bcl) ∧ ∃ p : Regrown, w'' = Sort.grow (redrawn WB p.d) p.os) := fun q os => Calls.regrown_of (by rw [hbcl]; exact (clean_any s1 ns cs zs _ (rowZ_below Y2 (below_regrown WB q os)) (by omega)).mono fun _ _ h => ⟨h.1, by rw [← h.2]; exact Below.refl _ _⟩)
              have HC2 : Hid (∀ q os, Calls Tryz.prog 16 #[.slice s1 ns cs] (Sort.grow (redrawn WB q) os) fun e w'' => e = .returned (.bool bcl) ∧ ∃ p : Regrown, w'' = Sort.grow (redrawn WB p.d) p.os) := fun q os => Calls.regrown_of (by rw [hbcl]; exact (rclean_any s1 ns cs zs _ (rowZ_below Y2 (below_regrown WB q os)) (by omega)).mono fun _ _ h => ⟨h.1, by rw [← h.2]; exact Below.refl _ _⟩)
              have HF1 : Hid (∀ q os, Calls Tryz.prog 17 #[.pointer (some ⟨f, 0, none⟩), .slice s1 ns cs] (Sort.grow (redrawn WB q) os) fun e w'' => e = .returned (.bool bft) ∧ ∃ p : Regrown, w'' = Sort.grow (redrawn WB p.d) p.os) := fun q os => Calls.regrown_of (by rw [hbft]; exact (fits_any (m := m) s1 ns cs zs _ (FF.below M.lo (below_regrown WB q os)) (rowZ_below Y2 (below_regrown WB q os)) (by omega)).mono fun _ _ h => ⟨h.1, h.2.below _⟩)
              have HF2 : Hid (∀ q os, Calls Tryz.prog 19 #[.int .i64 (m : Int), .slice s1 ns cs] (Sort.grow (redrawn WB q) os) fun e w'' => e = .returned (.bool bft) ∧ ∃ p : Regrown, w'' = Sort.grow (redrawn WB p.d) p.os) := fun q os => Calls.regrown_of (by rw [hbft]; exact rfits_any (m := m) s1 ns cs zs _ (rowZ_below Y2 (below_regrown WB q os)) (by omega))
              have HS : Hid (WB.heap[bq]? = some (cdO (.int .i64 (m : Int)) (.int .i64 (t : Int)) (.int .i64 (n : Int)) (.slice ga gn gc) (.int .i64 (D : Int))) ∧ RowZ WB s1 ns zs ∧ RowZ WB u1 nu zu ∧ Blk64 WB gs L ∧ Below w.heap.size w WB) := ⟨K, Y2, Y3, IS, B⟩
              have tb : ∀ b : Bool, (b == b) = true := fun b => by cases b <;> rfl
              have tb1 := tb bcl
              have tb2 := tb bft
              have tnn : ((NM : Int) == (NM : Int)) = true := beq_iff_eq.2 rfl
              rw [← hWB]
              clear hWB C K Y2 Y3 IS B FF hfield hbcl hbft tb
              have hNM : max ns nu = NM := HNM.out.symm
              have tmx : (if (ns : Int) < (nu : Int) then (nu : Int) else (ns : Int)) = (NM : Int) := by split <;> omega
              have Tmx := Lib.hid tmx
              clear hNM tmx
              go_loopg [32] NM (fun gh s32 wx => ∃ (i : Nat), gh = NM - i ∧ i ≤ NM ∧ s32 = .int .i64 (i : Int) ∧ WB = wx)
              case atStart => exact ⟨0, rfl, Nat.zero_le _, rfl, rfl⟩
              case round =>
                obtain ⟨i, hg, hile, rfl, rfl⟩ := hrel
                have HGi := Lib.hid hg
                clear hg
                have tmx := Tmx.out
                have HB2 := Lib.hid HNM.out
                by_cases hlt : i < NM
                · have x1 : (i : Int) < (NM : Int) := by omega
                  have x0 : (0 : Int) ≤ (i : Int) := by omega
                  have HI1 : Hid (i + 1 ≤ NM) := hlt
                  have dL := Blk64.cell HS.out.2.2.2.1 (i := i) (by omega)
                  rw [HLn.out i hlt] at dL
                  have tg : decide ((NM : Int) ≤ (i : Int)) = false := decide_eq_false (by omega)
                  clear hlt
                  by_cases hs : i < ns
                  · by_cases hu : i < nu
                    · have y1 : (i : Int) < (ns : Int) := by omega
                      obtain ⟨b1, f1, e1, d1, _⟩ := HS.out.2.1 i (by omega)
                      subst e1
                      have y2 : (i : Int) < (nu : Int) := by omega
                      obtain ⟨b2, f2, e2, d2, _⟩ := HS.out.2.2.1 i (by omega)
                      subst e2
                      have hwv : wv ns nu zs zu i = bits .xor .i64 (zs i) (zu i) := by unfold wv; rw [if_pos hu, if_pos hs]
                      rw [hwv] at dL
                      clear hwv
                      generalize zs i = v1 at d1 dL
                      generalize zu i = v2 at d2 dL
                      generalize hv : bits .xor .i64 v1 v2 = v3 at dL
                      have tv : (v3 == v3) = true := beq_iff_eq.2 rfl
                      clear hs hu
                      go_wp2_with fail
                      go_roundg (NM - (i + 1))
                      case measure => have := HGi.out; have := HI1.out; omega
                      case rel => exact ⟨i + 1, rfl, HI1.out, by go_num, rfl⟩
                    · have y1 : (i : Int) < (ns : Int) := by omega
                      obtain ⟨b1, f1, e1, d1, _⟩ := HS.out.2.1 i (by omega)
                      subst e1
                      have y2 : ¬ ((i : Int) < (nu : Int)) := by omega
                      have y4 : decide ((i : Int) < (nu : Int)) = false := decide_eq_false (by omega)
                      have hwv : wv ns nu zs zu i = zs i := by unfold wv; rw [if_neg hu, if_pos hs]
                      rw [hwv] at dL
                      clear hwv
                      generalize zs i = v1 at d1 dL
                      have tv : (v1 == v1) = true := beq_iff_eq.2 rfl
                      clear hs hu
                      go_wp2_with fail
                      go_roundg (NM - (i + 1))
                      case measure => have := HGi.out; have := HI1.out; omega
                      case rel => exact ⟨i + 1, rfl, HI1.out, by go_num, rfl⟩
                  · have hu : i < nu := by omega
                    have y1 : ¬ ((i : Int) < (ns : Int)) := by omega
                    have y3 : decide ((i : Int) < (ns : Int)) = false := decide_eq_false (by omega)
                    have y2 : (i : Int) < (nu : Int) := by omega
                    obtain ⟨b2, f2, e2, d2, _⟩ := HS.out.2.2.1 i (by omega)
                    subst e2
                    have hwv : wv ns nu zs zu i = bits .xor .i64 0 (zu i) := by unfold wv; rw [if_pos hu, if_neg hs]
                    rw [hwv] at dL
                    clear hwv
                    generalize zu i = v2 at d2 dL
                    generalize hv : bits .xor .i64 0 v2 = v3 at dL
                    have tv : (v3 == v3) = true := beq_iff_eq.2 rfl
                    clear hs hu
                    go_wp2_with fail
                    go_roundg (NM - (i + 1))
                    case measure => have := HGi.out; have := HI1.out; omega
                    case rel => exact ⟨i + 1, rfl, HI1.out, by go_num, rfl⟩
                · obtain rfl : i = NM := by omega
                  obtain ⟨K, Y2, Y3, IS, B⟩ := HS.out
                  obtain ⟨c0, c1, c2, c3, c4, _⟩ := cd_cells K
                  have tmq : ((i : Int) == max (ns : Int) (nu : Int)) = true := by rw [beq_iff_eq]; have := HB2.out; omega
                  clear K Y2 Y3 IS HB2
                  go_upto_region 33 with (fail)
                  replace c0 := cell_regrown c0
                  replace c1 := cell_regrown c1
                  replace c2 := cell_regrown c2
                  replace c3 := cell_regrown c3
                  replace c4 := cell_regrown c4
                  refine wp_region_quiet_below (by kernel_rfl) (by kernel_rfl) ?_
                  repeat (go_big_quiet_step (first
                    | (go_at_call 15; with_reducible exact HC1.out _ _)
                    | (go_at_call 16; with_reducible exact HC2.out _ _)
                    | (go_at_call 18; with_reducible exact HField.out _ _)
                    | (go_at_call 17; with_reducible exact HF1.out _ _)
                    | (go_at_call 19; with_reducible exact HF2.out _ _)))
                  refine wpQuiet_nil ?_
                  intro _ hw'
                  obtain ⟨⟨dq, osq⟩, hw''⟩ := hw'
                  subst hw''
                  have B2 := B.trans ((below_regrown WB dq osq).mono B.size)
                  generalize Sort.grow (redrawn WB dq) osq = w99 at B2 ⊢
                  clear c0 c1 c2 c3 c4 B
                  go_wp2_with fail
                  go_ret
                  exact ⟨rfl, B2⟩
      · as_aux_lemma =>
          have HGd := Lib.hid hgood
          have HBd := Lib.hid hbd
          have HJ := Lib.hid hj
          clear hgood hbd hj
          clear EC
          obtain rfl : n = na := hna.symm
          have q2 : ((np : Int) == (P : Int)) = false := beq_eq_false_iff_ne.2 (by omega)
          have q4 : ¬ ((np : Int) = (P : Int)) := by omega
          have hbad : n ≠ n ∨ np ≠ pb (deg m t) := .inr (by rw [← HD.out, ← HPB.out]; exact hnp)
          clear hnp
          go_wp2_with fail
          generalize hw : w2.alloc (.cells #[.int .i64 (m : Int), .int .i64 (t : Int), .int .i64 (n : Int), .slice ga gn gc, .int .i64 (D : Int)] 27 (0, 0)) = w3
          obtain ⟨K, b⟩ := newCd w2 w3 _ _ _ _ _ hw
          clear hw
          replace Y1 := rowZ_below Y1 b
          replace Y2 := rowZ_below Y2 b
          replace Y3 := rowZ_below Y3 b
          replace UN := UN.below b
          replace EL := EL.below b
          replace A1 := A1.below b
          replace A2 := A2.below b
          replace C := C.below b
          replace B := B.trans (b.mono B.size)
          clear b
          obtain ⟨bq, hbq⟩ : ∃ bq, bq = w2.heap.size := ⟨_, rfl⟩
          rw [← hbq] at K ⊢
          clear hbq
          refine (rparity_any m t n ga gn gc D (by omega) w3).mono ?_
          rintro e w4 ⟨rfl, b⟩
          rw [← HPB.out]
          replace Y1 := rowZ_below Y1 b
          replace Y2 := rowZ_below Y2 b
          replace Y3 := rowZ_below Y3 b
          replace UN := UN.below b
          replace EL := EL.below b
          replace A1 := A1.below b
          replace A2 := A2.below b
          replace C := C.below b
          replace K := keepB K b
          replace B := B.trans (b.mono B.size)
          clear b
          obtain ⟨c0, c1, c2, c3, c4, _⟩ := cd_cells K
          go_wp2_with fail
          clear c0 c1 c2 c3 c4
          refine (of_bad (m := m) ht40 w4 s C a n ca p np cp hbad yl EL).mono ?_
          rintro e w5 ⟨rfl, d⟩
          have b := d.below w4.heap.size
          clear d hbad
          replace Y1 := rowZ_below Y1 b
          replace Y2 := rowZ_below Y2 b
          replace Y3 := rowZ_below Y3 b
          replace UN := UN.below b
          replace EL := EL.below b
          replace A1 := A1.below b
          replace A2 := A2.below b
          replace C := C.below b
          replace K := keepB K b
          replace B := B.trans (b.mono B.size)
          clear b
          have e1l := EL.1
          unfold Sent at e1l
          have q1l := neq_err yl
          obtain ⟨c0, c1, c2, c3, c4, _⟩ := cd_cells K
          go_wp2_with fail
          clear c0 c1 c2 c3 c4
          clear e1l q1l q2 q4
          clear EL
          refine (fit7_any a n ca l n (by omega) w5 A1).mono ?_
          rintro e w6 ⟨rfl, Z1, b⟩
          have hfZ1 := fitL_length l n
          generalize fitL l n = X at Z1 hfZ1
          obtain ⟨gZ1, hgZ1⟩ : ∃ gZ1, gZ1 = w5.heap.size := ⟨_, rfl⟩
          rw [← hgZ1] at Z1 ⊢
          clear hgZ1
          clear A1
          replace Y1 := rowZ_below Y1 b
          replace Y2 := rowZ_below Y2 b
          replace Y3 := rowZ_below Y3 b
          replace UN := UN.below b
          replace A2 := A2.below b
          replace C := C.below b
          replace K := keepB K b
          replace B := B.trans (b.mono B.size)
          clear b
          obtain ⟨c0, c1, c2, c3, c4, _⟩ := cd_cells K
          go_wp2_with fail
          clear c0 c1 c2 c3 c4
          refine (rparity_any m t n ga gn gc D (by omega) w6).mono ?_
          rintro e w7 ⟨rfl, b⟩
          rw [← HPB.out]
          replace Y1 := rowZ_below Y1 b
          replace Y2 := rowZ_below Y2 b
          replace Y3 := rowZ_below Y3 b
          replace UN := UN.below b
          replace A2 := A2.below b
          replace C := C.below b
          replace K := keepB K b
          replace Z1 := keepZ Z1 b
          replace B := B.trans (b.mono B.size)
          clear b
          obtain ⟨c0, c1, c2, c3, c4, _⟩ := cd_cells K
          go_wp2_with fail
          clear c0 c1 c2 c3 c4
          refine (fit7_any p np cp l' P (by omega) w7 A2).mono ?_
          rintro e w8 ⟨rfl, Z2, b⟩
          have hfZ2 := fitL_length l' P
          generalize fitL l' P = U at Z2 hfZ2
          obtain ⟨gZ2, hgZ2⟩ : ∃ gZ2, gZ2 = w7.heap.size := ⟨_, rfl⟩
          rw [← hgZ2] at Z2 ⊢
          clear hgZ2
          clear A2
          replace Y1 := rowZ_below Y1 b
          replace Y2 := rowZ_below Y2 b
          replace Y3 := rowZ_below Y3 b
          replace UN := UN.below b
          replace C := C.below b
          replace K := keepB K b
          replace Z1 := keepZ Z1 b
          replace B := B.trans (b.mono B.size)
          clear b
          obtain ⟨c0, c1, c2, c3, c4, _⟩ := cd_cells K
          go_wp2_with fail
          clear c0 c1 c2 c3 c4
          have HOf : Hid (Calls Tryz.prog 7 #[.pointer (some ⟨s, 0, none⟩), .slice (some ⟨gZ1, 0, none⟩) n n, .slice (some ⟨gZ2, 0, none⟩) P P] w8 (ValE m t (ev m t (val X) (val U) % 2 ^ deg m t) w8)) := by
            have h := of_any (m := m) ht1 ht40 w8 s C _ _ X (blk_pol Z1 hfZ1.symm (by omega)) hn2 _ _ U (by rw [← HD.out, ← HPB.out]; exact blk_pol Z2 hfZ2.symm (by omega))
            rw [show pb (deg m t) = P by rw [← HD.out, ← HPB.out]] at h
            exact h
          refine (HOf.out).mono ?_
          rintro e w9 ⟨g3, rfl, I3, b, _⟩
          clear HOf
          rw [syn_word, ← HD.out] at I3
          replace Y1 := rowZ_below Y1 b
          replace Y2 := rowZ_below Y2 b
          replace Y3 := rowZ_below Y3 b
          replace UN := UN.below b
          replace C := C.below b
          replace K := keepB K b
          replace Z1 := keepZ Z1 b
          replace Z2 := keepZ Z2 b
          replace B := B.trans (b.mono B.size)
          clear b
          obtain ⟨c0, c1, c2, c3, c4, _⟩ := cd_cells K
          go_wp2_with fail
          clear c0 c1 c2 c3 c4
          have hXv : val X < 2 ^ (8 * n) := by have := val_lt X; rwa [hfZ1] at this
          refine (rsyn_any (m := m) t n ga gn gc D ht40 hn2 hDpos (by omega) _ _ _ _ n _ _ _ _ P w9 (blkV n Z1 hfZ1.symm (Nat.le_refl _) (by omega)) hXv (blkV P Z2 hfZ2.symm (Nat.le_refl _) (by omega))).mono ?_
          rintro e w10 ⟨g4, rfl, I4, b, _⟩
          clear Z1
          clear Z2
          replace Y1 := rowZ_below Y1 b
          replace Y2 := rowZ_below Y2 b
          replace Y3 := rowZ_below Y3 b
          replace UN := UN.below b
          replace C := C.below b
          replace K := keepB K b
          replace I3 := keepI I3 b
          replace B := B.trans (b.mono B.size)
          clear b
          obtain ⟨c0, c1, c2, c3, c4, _⟩ := cd_cells K
          go_wp2_with fail
          clear c0 c1 c2 c3 c4
          refine (same_of (m := m) I3 I4 (by omega)).mono ?_
          rintro e w11 ⟨rfl, d⟩
          rw [decide_eq_true rfl]
          have b := d.below w10.heap.size
          clear d
          clear I3
          clear I4
          replace Y1 := rowZ_below Y1 b
          replace Y2 := rowZ_below Y2 b
          replace Y3 := rowZ_below Y3 b
          replace UN := UN.below b
          replace C := C.below b
          replace K := keepB K b
          replace B := B.trans (b.mono B.size)
          clear b
          obtain ⟨c0, c1, c2, c3, c4, _⟩ := cd_cells K
          go_wp2_with fail
          clear c0 c1 c2 c3 c4
          refine (bits_bad (m := m) w11 s C hn2 ht40 at' nt ct z j Y1 (by omega) HJ.out (by rw [hN0]; exact HGd.out) (by rw [hN0]; exact HBd.out) yn UN).mono ?_
          rintro e w12 ⟨rfl, d⟩
          have b := d.below w11.heap.size
          clear d
          replace Y1 := rowZ_below Y1 b
          replace Y2 := rowZ_below Y2 b
          replace Y3 := rowZ_below Y3 b
          replace UN := UN.below b
          replace C := C.below b
          replace K := keepB K b
          replace B := B.trans (b.mono B.size)
          clear b
          obtain ⟨c0, c1, c2, c3, c4, _⟩ := cd_cells K
          go_wp2_with fail
          clear c0 c1 c2 c3 c4
          have hmt : nt ≤ 50 := h50
          have HS : Hid (CodeAt m t n w12 s ∧ w12.heap[bq]? = some (cdO (.int .i64 (m : Int)) (.int .i64 (t : Int)) (.int .i64 (n : Int)) (.slice ga gn gc) (.int .i64 (D : Int))) ∧ RowZ w12 at' nt z ∧ Below w.heap.size w w12) := ⟨C, K, Y1, B⟩
          obtain ⟨WA, hWA⟩ : ∃ WA, WA = w12 := ⟨_, rfl⟩
          have HO0 : Hid (Below WA.heap.size WA w12) := by rw [hWA]; exact Below.refl _ _
          rw [← hWA] at HS
          have HL : Hid (ErrAt w12 1 yn ∧ RowZ w12 s1 ns zs ∧ RowZ w12 u1 nu zu) := ⟨UN, Y2, Y3⟩
          rw [← hWA] at HL
          clear hWA C K Y1 B UN Y2 Y3
          go_loopg [29, 30] nt (fun gh s29 s30 wx => ∃ (i : Nat), gh = nt - i ∧ i ≤ nt ∧ s30 = .int .i64 (i : Int) ∧ s29 = .bool (decide (j < i)) ∧ Below WA.heap.size WA wx)
          case atStart => exact ⟨0, rfl, Nat.zero_le _, rfl, by rw [decide_eq_false (Nat.not_lt_zero j)], HO0.out⟩
          case round =>
            clear HO0
            obtain ⟨i, hg, hile, rfl, rfl, hO⟩ := hrel
            have HGh := Lib.hid hg
            clear hg
            by_cases hlt : i < nt
            · have x1 : (i : Int) < (nt : Int) := by omega
              have x0 : (0 : Int) ≤ (i : Int) := by omega
              have HI1 : Hid (i + 1 ≤ nt) := hlt
              obtain ⟨bb, off, ea, d1, hbb⟩ := rowZ_below HS.out.2.2.1 hO i hlt
              have K := keepB HS.out.2.1 hO
              obtain ⟨c0, c1, c2, c3, c4, _⟩ := cd_cells K
              subst ea
              have HO := Lib.hid hO
              clear K hO hbb
              by_cases e1 : j < i
              · rw [decide_eq_true e1]
                have HF : Hid (j < i + 1) := by show j < i + 1; omega
                go_upto_region 19 with (fail)
                replace c0 := cell_regrown c0
                replace c1 := cell_regrown c1
                replace c2 := cell_regrown c2
                replace c3 := cell_regrown c3
                replace c4 := cell_regrown c4
                replace d1 := cell_regrown d1
                have HRB : Hid (∀ q os, Calls Tryz.prog 12 #[cdV m t n ga gn gc D] (Sort.grow (redrawn wr q) os) fun e w'' => e = .returned (.int .i64 (N : Int)) ∧ ∃ p : Regrown, w'' = Sort.grow (redrawn wr p.d) p.os) := fun q os => Calls.regrown_of (by rw [HN.out]; exact rbits_any m t n ga gn gc D (by omega) hn2 _)
                refine wp_region_quiet_below (by kernel_rfl) (by kernel_rfl) ?_
                repeat (go_big_quiet_step (first | (go_at_call 12; with_reducible exact HRB.out _ _)))
                refine wpQuiet_nil ?_
                intro _ hw'
                obtain ⟨⟨dq, osq⟩, hw''⟩ := hw'
                subst hw''
                have b := below_regrown wr dq osq
                generalize Sort.grow (redrawn wr dq) osq = w60 at b ⊢
                have HO6 : Hid (Below WA.heap.size WA w60) := HO.out.trans (b.mono HO.out.size)
                clear c0 c1 c2 c3 c4 d1 HRB HO b
                go_wp2_with fail
                go_roundg (nt - (i + 1))
                case measure => have := HGh.out; have := HI1.out; omega
                case rel => exact ⟨i + 1, rfl, HI1.out, by go_num, by rw [decide_eq_true HF.out], HO6.out⟩
              · rw [decide_eq_false e1]
                by_cases e2 : i = j
                · subst e2
                  have HF : Hid (i < i + 1) := Nat.lt_succ_self i
                  by_cases q1 : z i < 0
                  · have t1 : decide (z i < 0) = true := decide_eq_true q1
                    clear e1
                    go_upto_region 19 with (fail)
                    replace c0 := cell_regrown c0
                    replace c1 := cell_regrown c1
                    replace c2 := cell_regrown c2
                    replace c3 := cell_regrown c3
                    replace c4 := cell_regrown c4
                    replace d1 := cell_regrown d1
                    have HRB : Hid (∀ q os, Calls Tryz.prog 12 #[cdV m t n ga gn gc D] (Sort.grow (redrawn wr q) os) fun e w'' => e = .returned (.int .i64 (N : Int)) ∧ ∃ p : Regrown, w'' = Sort.grow (redrawn wr p.d) p.os) := fun q os => Calls.regrown_of (by rw [HN.out]; exact rbits_any m t n ga gn gc D (by omega) hn2 _)
                    refine wp_region_quiet_below (by kernel_rfl) (by kernel_rfl) ?_
                    repeat (go_big_quiet_step (first | (go_at_call 12; with_reducible exact HRB.out _ _)))
                    refine wpQuiet_nil ?_
                    intro _ hw'
                    obtain ⟨⟨dq, osq⟩, hw''⟩ := hw'
                    subst hw''
                    have b := below_regrown wr dq osq
                    generalize Sort.grow (redrawn wr dq) osq = w60 at b ⊢
                    have HO6 : Hid (Below WA.heap.size WA w60) := HO.out.trans (b.mono HO.out.size)
                    clear c0 c1 c2 c3 c4 d1 HRB HO b
                    go_wp2_with fail
                    go_roundg (nt - (i + 1))
                    case measure => have := HGh.out; have := HI1.out; omega
                    case rel => exact ⟨i + 1, rfl, HI1.out, by go_num, by rw [decide_eq_true HF.out], HO6.out⟩
                  · have t1 : decide (z i < 0) = false := decide_eq_false q1
                    have t2 : decide ((N : Int) ≤ z i) = true := decide_eq_true (HBd.out.resolve_left q1)
                    clear e1 q1
                    go_upto_region 19 with (fail)
                    replace c0 := cell_regrown c0
                    replace c1 := cell_regrown c1
                    replace c2 := cell_regrown c2
                    replace c3 := cell_regrown c3
                    replace c4 := cell_regrown c4
                    replace d1 := cell_regrown d1
                    have HRB : Hid (∀ q os, Calls Tryz.prog 12 #[cdV m t n ga gn gc D] (Sort.grow (redrawn wr q) os) fun e w'' => e = .returned (.int .i64 (N : Int)) ∧ ∃ p : Regrown, w'' = Sort.grow (redrawn wr p.d) p.os) := fun q os => Calls.regrown_of (by rw [HN.out]; exact rbits_any m t n ga gn gc D (by omega) hn2 _)
                    refine wp_region_quiet_below (by kernel_rfl) (by kernel_rfl) ?_
                    repeat (go_big_quiet_step (first | (go_at_call 12; with_reducible exact HRB.out _ _)))
                    refine wpQuiet_nil ?_
                    intro _ hw'
                    obtain ⟨⟨dq, osq⟩, hw''⟩ := hw'
                    subst hw''
                    have b := below_regrown wr dq osq
                    generalize Sort.grow (redrawn wr dq) osq = w60 at b ⊢
                    have HO6 : Hid (Below WA.heap.size WA w60) := HO.out.trans (b.mono HO.out.size)
                    clear c0 c1 c2 c3 c4 d1 HRB HO b
                    go_wp2_with fail
                    go_roundg (nt - (i + 1))
                    case measure => have := HGh.out; have := HI1.out; omega
                    case rel => exact ⟨i + 1, rfl, HI1.out, by go_num, by rw [decide_eq_true HF.out], HO6.out⟩
                · have HF : Hid (¬ j < i + 1) := by show ¬ j < i + 1; omega
                  obtain ⟨q1, q2⟩ := HGd.out i (by omega)
                  have t1 : decide (z i < 0) = false := decide_eq_false (by omega)
                  have t2 : decide ((N : Int) ≤ z i) = false := decide_eq_false (by omega)
                  clear q1 q2
                  clear e1 e2
                  go_upto_region 19 with (fail)
                  replace c0 := cell_regrown c0
                  replace c1 := cell_regrown c1
                  replace c2 := cell_regrown c2
                  replace c3 := cell_regrown c3
                  replace c4 := cell_regrown c4
                  replace d1 := cell_regrown d1
                  have HRB : Hid (∀ q os, Calls Tryz.prog 12 #[cdV m t n ga gn gc D] (Sort.grow (redrawn wr q) os) fun e w'' => e = .returned (.int .i64 (N : Int)) ∧ ∃ p : Regrown, w'' = Sort.grow (redrawn wr p.d) p.os) := fun q os => Calls.regrown_of (by rw [HN.out]; exact rbits_any m t n ga gn gc D (by omega) hn2 _)
                  refine wp_region_quiet_below (by kernel_rfl) (by kernel_rfl) ?_
                  repeat (go_big_quiet_step (first | (go_at_call 12; with_reducible exact HRB.out _ _)))
                  refine wpQuiet_nil ?_
                  intro _ hw'
                  obtain ⟨⟨dq, osq⟩, hw''⟩ := hw'
                  subst hw''
                  have b := below_regrown wr dq osq
                  generalize Sort.grow (redrawn wr dq) osq = w60 at b ⊢
                  have HO6 : Hid (Below WA.heap.size WA w60) := HO.out.trans (b.mono HO.out.size)
                  clear c0 c1 c2 c3 c4 d1 HRB HO b
                  go_wp2_with fail
                  go_roundg (nt - (i + 1))
                  case measure => have := HGh.out; have := HI1.out; omega
                  case rel => exact ⟨i + 1, rfl, HI1.out, by go_num, by rw [decide_eq_false HF.out], HO6.out⟩
            · obtain rfl : i = nt := by omega
              obtain ⟨C, K, Y1, B⟩ := HS.out
              obtain ⟨UN, Y2, Y3⟩ := HL.out
              rw [decide_eq_true HJ.out]
              obtain ⟨w40, rfl⟩ : ∃ w40, w40 = wr := ⟨_, rfl⟩
              have b := hO
              clear hO hlt
              replace Y1 := rowZ_below Y1 b
              replace Y2 := rowZ_below Y2 b
              replace Y3 := rowZ_below Y3 b
              replace C := C.below b
              replace K := keepB K b
              replace UN := UN.below b
              replace B := B.trans (b.mono B.size)
              clear b
              have e1n := UN.1
              unfold Sent at e1n
              have q1n := neq_err yn
              obtain ⟨c0, c1, c2, c3, c4, _⟩ := cd_cells K
              go_wp2_with fail
              clear c0 c1 c2 c3 c4
              clear e1n q1n UN
              clear Y1
              refine (add_both s1 ns cs zs u1 nu cu zu w40 Y2 Y3 (by omega) (by omega) hfit.out).mono ?_
              rintro e w41 ⟨gs, L, rfl, IS, hLl, hLn, b⟩
              obtain ⟨NM, hNM⟩ : ∃ NM, NM = max ns nu := ⟨_, rfl⟩
              rw [← hNM] at hLl hLn ⊢
              have HNM := Lib.hid hNM
              have hNM1 : NM ≤ 50 := by omega
              have HLn : Hid (∀ i, i < NM → nth64 L i = wv ns nu zs zu i) := hLn
              clear hLn hNM
              replace Y2 := rowZ_below Y2 b
              replace Y3 := rowZ_below Y3 b
              replace C := C.below b
              replace K := keepB K b
              replace B := B.trans (b.mono B.size)
              clear b
              obtain ⟨c0, c1, c2, c3, c4, _⟩ := cd_cells K
              go_wp2_with fail
              clear c0 c1 c2 c3 c4
              obtain ⟨f, be, ce, bl, FF, hfield⟩ := field_fixed C
              have HField := Lib.hid hfield
              obtain ⟨bcl, hbcl⟩ : ∃ b, b = decide (∀ i, i < ns → zs i = 0) := ⟨_, rfl⟩
              obtain ⟨bft, hbft⟩ : ∃ b, b = decide (∀ i, i < ns → 2 * i + 1 < ns → Fld.fmul m (Fld.el m (zs i)) (Fld.el m (zs i)) = Fld.el m (zs (2 * i + 1))) := ⟨_, rfl⟩
              obtain ⟨WB, hWB⟩ : ∃ WB, WB = w41 := ⟨_, rfl⟩
              rw [← hWB] at C K Y2 Y3 IS B FF HField
              have HC1 : Hid (∀ q os, Calls Tryz.prog 15 #[.slice s1 ns cs] (Sort.grow (redrawn WB q) os) fun e w'' => e = .returned (.bool bcl) ∧ ∃ p : Regrown, w'' = Sort.grow (redrawn WB p.d) p.os) := fun q os => Calls.regrown_of (by rw [hbcl]; exact (clean_any s1 ns cs zs _ (rowZ_below Y2 (below_regrown WB q os)) (by omega)).mono fun _ _ h => ⟨h.1, by rw [← h.2]; exact Below.refl _ _⟩)
              have HC2 : Hid (∀ q os, Calls Tryz.prog 16 #[.slice s1 ns cs] (Sort.grow (redrawn WB q) os) fun e w'' => e = .returned (.bool bcl) ∧ ∃ p : Regrown, w'' = Sort.grow (redrawn WB p.d) p.os) := fun q os => Calls.regrown_of (by rw [hbcl]; exact (rclean_any s1 ns cs zs _ (rowZ_below Y2 (below_regrown WB q os)) (by omega)).mono fun _ _ h => ⟨h.1, by rw [← h.2]; exact Below.refl _ _⟩)
              have HF1 : Hid (∀ q os, Calls Tryz.prog 17 #[.pointer (some ⟨f, 0, none⟩), .slice s1 ns cs] (Sort.grow (redrawn WB q) os) fun e w'' => e = .returned (.bool bft) ∧ ∃ p : Regrown, w'' = Sort.grow (redrawn WB p.d) p.os) := fun q os => Calls.regrown_of (by rw [hbft]; exact (fits_any (m := m) s1 ns cs zs _ (FF.below M.lo (below_regrown WB q os)) (rowZ_below Y2 (below_regrown WB q os)) (by omega)).mono fun _ _ h => ⟨h.1, h.2.below _⟩)
              have HF2 : Hid (∀ q os, Calls Tryz.prog 19 #[.int .i64 (m : Int), .slice s1 ns cs] (Sort.grow (redrawn WB q) os) fun e w'' => e = .returned (.bool bft) ∧ ∃ p : Regrown, w'' = Sort.grow (redrawn WB p.d) p.os) := fun q os => Calls.regrown_of (by rw [hbft]; exact rfits_any (m := m) s1 ns cs zs _ (rowZ_below Y2 (below_regrown WB q os)) (by omega))
              have HS : Hid (WB.heap[bq]? = some (cdO (.int .i64 (m : Int)) (.int .i64 (t : Int)) (.int .i64 (n : Int)) (.slice ga gn gc) (.int .i64 (D : Int))) ∧ RowZ WB s1 ns zs ∧ RowZ WB u1 nu zu ∧ Blk64 WB gs L ∧ Below w.heap.size w WB) := ⟨K, Y2, Y3, IS, B⟩
              have tb : ∀ b : Bool, (b == b) = true := fun b => by cases b <;> rfl
              have tb1 := tb bcl
              have tb2 := tb bft
              have tnn : ((NM : Int) == (NM : Int)) = true := beq_iff_eq.2 rfl
              rw [← hWB]
              clear hWB C K Y2 Y3 IS B FF hfield hbcl hbft tb
              have hNM : max ns nu = NM := HNM.out.symm
              have tmx : (if (ns : Int) < (nu : Int) then (nu : Int) else (ns : Int)) = (NM : Int) := by split <;> omega
              have Tmx := Lib.hid tmx
              clear hNM tmx
              go_loopg [32] NM (fun gh s32 wx => ∃ (i : Nat), gh = NM - i ∧ i ≤ NM ∧ s32 = .int .i64 (i : Int) ∧ WB = wx)
              case atStart => exact ⟨0, rfl, Nat.zero_le _, rfl, rfl⟩
              case round =>
                obtain ⟨i, hg, hile, rfl, rfl⟩ := hrel
                have HGi := Lib.hid hg
                clear hg
                have tmx := Tmx.out
                have HB2 := Lib.hid HNM.out
                by_cases hlt : i < NM
                · have x1 : (i : Int) < (NM : Int) := by omega
                  have x0 : (0 : Int) ≤ (i : Int) := by omega
                  have HI1 : Hid (i + 1 ≤ NM) := hlt
                  have dL := Blk64.cell HS.out.2.2.2.1 (i := i) (by omega)
                  rw [HLn.out i hlt] at dL
                  have tg : decide ((NM : Int) ≤ (i : Int)) = false := decide_eq_false (by omega)
                  clear hlt
                  by_cases hs : i < ns
                  · by_cases hu : i < nu
                    · have y1 : (i : Int) < (ns : Int) := by omega
                      obtain ⟨b1, f1, e1, d1, _⟩ := HS.out.2.1 i (by omega)
                      subst e1
                      have y2 : (i : Int) < (nu : Int) := by omega
                      obtain ⟨b2, f2, e2, d2, _⟩ := HS.out.2.2.1 i (by omega)
                      subst e2
                      have hwv : wv ns nu zs zu i = bits .xor .i64 (zs i) (zu i) := by unfold wv; rw [if_pos hu, if_pos hs]
                      rw [hwv] at dL
                      clear hwv
                      generalize zs i = v1 at d1 dL
                      generalize zu i = v2 at d2 dL
                      generalize hv : bits .xor .i64 v1 v2 = v3 at dL
                      have tv : (v3 == v3) = true := beq_iff_eq.2 rfl
                      clear hs hu
                      go_wp2_with fail
                      go_roundg (NM - (i + 1))
                      case measure => have := HGi.out; have := HI1.out; omega
                      case rel => exact ⟨i + 1, rfl, HI1.out, by go_num, rfl⟩
                    · have y1 : (i : Int) < (ns : Int) := by omega
                      obtain ⟨b1, f1, e1, d1, _⟩ := HS.out.2.1 i (by omega)
                      subst e1
                      have y2 : ¬ ((i : Int) < (nu : Int)) := by omega
                      have y4 : decide ((i : Int) < (nu : Int)) = false := decide_eq_false (by omega)
                      have hwv : wv ns nu zs zu i = zs i := by unfold wv; rw [if_neg hu, if_pos hs]
                      rw [hwv] at dL
                      clear hwv
                      generalize zs i = v1 at d1 dL
                      have tv : (v1 == v1) = true := beq_iff_eq.2 rfl
                      clear hs hu
                      go_wp2_with fail
                      go_roundg (NM - (i + 1))
                      case measure => have := HGi.out; have := HI1.out; omega
                      case rel => exact ⟨i + 1, rfl, HI1.out, by go_num, rfl⟩
                  · have hu : i < nu := by omega
                    have y1 : ¬ ((i : Int) < (ns : Int)) := by omega
                    have y3 : decide ((i : Int) < (ns : Int)) = false := decide_eq_false (by omega)
                    have y2 : (i : Int) < (nu : Int) := by omega
                    obtain ⟨b2, f2, e2, d2, _⟩ := HS.out.2.2.1 i (by omega)
                    subst e2
                    have hwv : wv ns nu zs zu i = bits .xor .i64 0 (zu i) := by unfold wv; rw [if_pos hu, if_neg hs]
                    rw [hwv] at dL
                    clear hwv
                    generalize zu i = v2 at d2 dL
                    generalize hv : bits .xor .i64 0 v2 = v3 at dL
                    have tv : (v3 == v3) = true := beq_iff_eq.2 rfl
                    clear hs hu
                    go_wp2_with fail
                    go_roundg (NM - (i + 1))
                    case measure => have := HGi.out; have := HI1.out; omega
                    case rel => exact ⟨i + 1, rfl, HI1.out, by go_num, rfl⟩
                · obtain rfl : i = NM := by omega
                  obtain ⟨K, Y2, Y3, IS, B⟩ := HS.out
                  obtain ⟨c0, c1, c2, c3, c4, _⟩ := cd_cells K
                  have tmq : ((i : Int) == max (ns : Int) (nu : Int)) = true := by rw [beq_iff_eq]; have := HB2.out; omega
                  clear K Y2 Y3 IS HB2
                  go_upto_region 33 with (fail)
                  replace c0 := cell_regrown c0
                  replace c1 := cell_regrown c1
                  replace c2 := cell_regrown c2
                  replace c3 := cell_regrown c3
                  replace c4 := cell_regrown c4
                  refine wp_region_quiet_below (by kernel_rfl) (by kernel_rfl) ?_
                  repeat (go_big_quiet_step (first
                    | (go_at_call 15; with_reducible exact HC1.out _ _)
                    | (go_at_call 16; with_reducible exact HC2.out _ _)
                    | (go_at_call 18; with_reducible exact HField.out _ _)
                    | (go_at_call 17; with_reducible exact HF1.out _ _)
                    | (go_at_call 19; with_reducible exact HF2.out _ _)))
                  refine wpQuiet_nil ?_
                  intro _ hw'
                  obtain ⟨⟨dq, osq⟩, hw''⟩ := hw'
                  subst hw''
                  have B2 := B.trans ((below_regrown WB dq osq).mono B.size)
                  generalize Sort.grow (redrawn WB dq) osq = w99 at B2 ⊢
                  clear c0 c1 c2 c3 c4 B
                  go_wp2_with fail
                  go_ret
                  exact ⟨rfl, B2⟩
  · rcases first_bad z (N : Int) nt with hgood | ⟨j, hj, hgood, hbd⟩
    · as_aux_lemma =>
        have HGd := Lib.hid hgood
        clear hgood
        clear EC
        have q1 : ((na : Int) == (n : Int)) = false := beq_eq_false_iff_ne.2 (by omega)
        have q3 : ¬ ((na : Int) = (n : Int)) := by omega
        have hbad : na ≠ n ∨ np ≠ pb (deg m t) := .inl hna
        clear hna
        go_wp2_with fail
        generalize hw : w2.alloc (.cells #[.int .i64 (m : Int), .int .i64 (t : Int), .int .i64 (n : Int), .slice ga gn gc, .int .i64 (D : Int)] 27 (0, 0)) = w3
        obtain ⟨K, b⟩ := newCd w2 w3 _ _ _ _ _ hw
        clear hw
        replace Y1 := rowZ_below Y1 b
        replace Y2 := rowZ_below Y2 b
        replace Y3 := rowZ_below Y3 b
        replace UN := UN.below b
        replace EL := EL.below b
        replace A1 := A1.below b
        replace A2 := A2.below b
        replace C := C.below b
        replace B := B.trans (b.mono B.size)
        clear b
        obtain ⟨bq, hbq⟩ : ∃ bq, bq = w2.heap.size := ⟨_, rfl⟩
        rw [← hbq] at K ⊢
        clear hbq
        refine (of_bad (m := m) ht40 w3 s C a na ca p np cp hbad yl EL).mono ?_
        rintro e w4 ⟨rfl, d⟩
        have b := d.below w3.heap.size
        clear d hbad
        replace Y1 := rowZ_below Y1 b
        replace Y2 := rowZ_below Y2 b
        replace Y3 := rowZ_below Y3 b
        replace UN := UN.below b
        replace EL := EL.below b
        replace A1 := A1.below b
        replace A2 := A2.below b
        replace C := C.below b
        replace K := keepB K b
        replace B := B.trans (b.mono B.size)
        clear b
        have e1l := EL.1
        unfold Sent at e1l
        have q1l := neq_err yl
        obtain ⟨c0, c1, c2, c3, c4, _⟩ := cd_cells K
        go_wp2_with fail
        clear c0 c1 c2 c3 c4
        clear e1l q1l q1 q3
        clear EL
        refine (fit7_any a na ca l n (by omega) w4 A1).mono ?_
        rintro e w5 ⟨rfl, Z1, b⟩
        have hfZ1 := fitL_length l n
        generalize fitL l n = X at Z1 hfZ1
        obtain ⟨gZ1, hgZ1⟩ : ∃ gZ1, gZ1 = w4.heap.size := ⟨_, rfl⟩
        rw [← hgZ1] at Z1 ⊢
        clear hgZ1
        clear A1
        replace Y1 := rowZ_below Y1 b
        replace Y2 := rowZ_below Y2 b
        replace Y3 := rowZ_below Y3 b
        replace UN := UN.below b
        replace A2 := A2.below b
        replace C := C.below b
        replace K := keepB K b
        replace B := B.trans (b.mono B.size)
        clear b
        obtain ⟨c0, c1, c2, c3, c4, _⟩ := cd_cells K
        go_wp2_with fail
        clear c0 c1 c2 c3 c4
        refine (rparity_any m t n ga gn gc D (by omega) w5).mono ?_
        rintro e w6 ⟨rfl, b⟩
        rw [← HPB.out]
        replace Y1 := rowZ_below Y1 b
        replace Y2 := rowZ_below Y2 b
        replace Y3 := rowZ_below Y3 b
        replace UN := UN.below b
        replace A2 := A2.below b
        replace C := C.below b
        replace K := keepB K b
        replace Z1 := keepZ Z1 b
        replace B := B.trans (b.mono B.size)
        clear b
        obtain ⟨c0, c1, c2, c3, c4, _⟩ := cd_cells K
        go_wp2_with fail
        clear c0 c1 c2 c3 c4
        refine (fit7_any p np cp l' P (by omega) w6 A2).mono ?_
        rintro e w7 ⟨rfl, Z2, b⟩
        have hfZ2 := fitL_length l' P
        generalize fitL l' P = U at Z2 hfZ2
        obtain ⟨gZ2, hgZ2⟩ : ∃ gZ2, gZ2 = w6.heap.size := ⟨_, rfl⟩
        rw [← hgZ2] at Z2 ⊢
        clear hgZ2
        clear A2
        replace Y1 := rowZ_below Y1 b
        replace Y2 := rowZ_below Y2 b
        replace Y3 := rowZ_below Y3 b
        replace UN := UN.below b
        replace C := C.below b
        replace K := keepB K b
        replace Z1 := keepZ Z1 b
        replace B := B.trans (b.mono B.size)
        clear b
        obtain ⟨c0, c1, c2, c3, c4, _⟩ := cd_cells K
        go_wp2_with fail
        clear c0 c1 c2 c3 c4
        have HOf : Hid (Calls Tryz.prog 7 #[.pointer (some ⟨s, 0, none⟩), .slice (some ⟨gZ1, 0, none⟩) n n, .slice (some ⟨gZ2, 0, none⟩) P P] w7 (ValE m t (ev m t (val X) (val U) % 2 ^ deg m t) w7)) := by
          have h := of_any (m := m) ht1 ht40 w7 s C _ _ X (blk_pol Z1 hfZ1.symm (by omega)) hn2 _ _ U (by rw [← HD.out, ← HPB.out]; exact blk_pol Z2 hfZ2.symm (by omega))
          rw [show pb (deg m t) = P by rw [← HD.out, ← HPB.out]] at h
          exact h
        refine (HOf.out).mono ?_
        rintro e w8 ⟨g3, rfl, I3, b, _⟩
        clear HOf
        rw [syn_word, ← HD.out] at I3
        replace Y1 := rowZ_below Y1 b
        replace Y2 := rowZ_below Y2 b
        replace Y3 := rowZ_below Y3 b
        replace UN := UN.below b
        replace C := C.below b
        replace K := keepB K b
        replace Z1 := keepZ Z1 b
        replace Z2 := keepZ Z2 b
        replace B := B.trans (b.mono B.size)
        clear b
        obtain ⟨c0, c1, c2, c3, c4, _⟩ := cd_cells K
        go_wp2_with fail
        clear c0 c1 c2 c3 c4
        have hXv : val X < 2 ^ (8 * n) := by have := val_lt X; rwa [hfZ1] at this
        refine (rsyn_any (m := m) t n ga gn gc D ht40 hn2 hDpos (by omega) _ _ _ _ n _ _ _ _ P w8 (blkV n Z1 hfZ1.symm (Nat.le_refl _) (by omega)) hXv (blkV P Z2 hfZ2.symm (Nat.le_refl _) (by omega))).mono ?_
        rintro e w9 ⟨g4, rfl, I4, b, _⟩
        clear Z1
        clear Z2
        replace Y1 := rowZ_below Y1 b
        replace Y2 := rowZ_below Y2 b
        replace Y3 := rowZ_below Y3 b
        replace UN := UN.below b
        replace C := C.below b
        replace K := keepB K b
        replace I3 := keepI I3 b
        replace B := B.trans (b.mono B.size)
        clear b
        obtain ⟨c0, c1, c2, c3, c4, _⟩ := cd_cells K
        go_wp2_with fail
        clear c0 c1 c2 c3 c4
        refine (same_of (m := m) I3 I4 (by omega)).mono ?_
        rintro e w10 ⟨rfl, d⟩
        rw [decide_eq_true rfl]
        have b := d.below w9.heap.size
        clear d
        clear I3
        clear I4
        replace Y1 := rowZ_below Y1 b
        replace Y2 := rowZ_below Y2 b
        replace Y3 := rowZ_below Y3 b
        replace UN := UN.below b
        replace C := C.below b
        replace K := keepB K b
        replace B := B.trans (b.mono B.size)
        clear b
        obtain ⟨c0, c1, c2, c3, c4, _⟩ := cd_cells K
        go_wp2_with fail
        clear c0 c1 c2 c3 c4
        refine (bits_any (m := m) w10 s C hn2 ht40 at' nt ct (natL nt z) (rowN_of Y1 fun i hi => (HGd.out i hi).1) (by omega) (by rw [hN0]; exact natL_lt HGd.out)).mono ?_
        rintro e w11 ⟨g5, rfl, I5, b, _⟩
        replace Y1 := rowZ_below Y1 b
        replace Y2 := rowZ_below Y2 b
        replace Y3 := rowZ_below Y3 b
        replace UN := UN.below b
        replace C := C.below b
        replace K := keepB K b
        replace B := B.trans (b.mono B.size)
        clear b
        obtain ⟨c0, c1, c2, c3, c4, _⟩ := cd_cells K
        go_wp2_with fail
        clear c0 c1 c2 c3 c4
        clear UN
        have hmt : nt ≤ 50 := h50
        have HS : Hid (CodeAt m t n w11 s ∧ w11.heap[bq]? = some (cdO (.int .i64 (m : Int)) (.int .i64 (t : Int)) (.int .i64 (n : Int)) (.slice ga gn gc) (.int .i64 (D : Int))) ∧ RowZ w11 at' nt z ∧ Below w.heap.size w w11) := ⟨C, K, Y1, B⟩
        obtain ⟨WA, hWA⟩ : ∃ WA, WA = w11 := ⟨_, rfl⟩
        have HO0 : Hid (Below WA.heap.size WA w11) := by rw [hWA]; exact Below.refl _ _
        rw [← hWA] at HS
        have HL : Hid (RowZ w11 s1 ns zs ∧ RowZ w11 u1 nu zu ∧ Blk64 w11 g5 (Bin.ints (syn m (xs (natL nt z)) (2 * t)))) := ⟨Y2, Y3, I5⟩
        rw [← hWA] at HL
        clear hWA C K Y1 B Y2 Y3 I5
        go_loopg [29, 30] nt (fun gh s29 s30 wx => ∃ (i : Nat), gh = nt - i ∧ i ≤ nt ∧ s30 = .int .i64 (i : Int) ∧ s29 = .bool false ∧ Below WA.heap.size WA wx)
        case atStart => exact ⟨0, rfl, Nat.zero_le _, rfl, rfl, HO0.out⟩
        case round =>
          clear HO0
          obtain ⟨i, hg, hile, rfl, rfl, hO⟩ := hrel
          have HGh := Lib.hid hg
          clear hg
          by_cases hlt : i < nt
          · have x1 : (i : Int) < (nt : Int) := by omega
            have x0 : (0 : Int) ≤ (i : Int) := by omega
            have HI1 : Hid (i + 1 ≤ nt) := hlt
            obtain ⟨bb, off, ea, d1, hbb⟩ := rowZ_below HS.out.2.2.1 hO i hlt
            have K := keepB HS.out.2.1 hO
            obtain ⟨c0, c1, c2, c3, c4, _⟩ := cd_cells K
            subst ea
            have HO := Lib.hid hO
            clear K hO hbb
            obtain ⟨q1, q2⟩ := HGd.out i (by omega)
            have t1 : decide (z i < 0) = false := decide_eq_false (by omega)
            have t2 : decide ((N : Int) ≤ z i) = false := decide_eq_false (by omega)
            clear q1 q2
            go_upto_region 19 with (fail)
            replace c0 := cell_regrown c0
            replace c1 := cell_regrown c1
            replace c2 := cell_regrown c2
            replace c3 := cell_regrown c3
            replace c4 := cell_regrown c4
            replace d1 := cell_regrown d1
            have HRB : Hid (∀ q os, Calls Tryz.prog 12 #[cdV m t n ga gn gc D] (Sort.grow (redrawn wr q) os) fun e w'' => e = .returned (.int .i64 (N : Int)) ∧ ∃ p : Regrown, w'' = Sort.grow (redrawn wr p.d) p.os) := fun q os => Calls.regrown_of (by rw [HN.out]; exact rbits_any m t n ga gn gc D (by omega) hn2 _)
            refine wp_region_quiet_below (by kernel_rfl) (by kernel_rfl) ?_
            repeat (go_big_quiet_step (first | (go_at_call 12; with_reducible exact HRB.out _ _)))
            refine wpQuiet_nil ?_
            intro _ hw'
            obtain ⟨⟨dq, osq⟩, hw''⟩ := hw'
            subst hw''
            have b := below_regrown wr dq osq
            generalize Sort.grow (redrawn wr dq) osq = w60 at b ⊢
            have HO6 : Hid (Below WA.heap.size WA w60) := HO.out.trans (b.mono HO.out.size)
            clear c0 c1 c2 c3 c4 d1 HRB HO b
            go_wp2_with fail
            go_roundg (nt - (i + 1))
            case measure => have := HGh.out; have := HI1.out; omega
            case rel => exact ⟨i + 1, rfl, HI1.out, by go_num, rfl, HO6.out⟩
          · obtain rfl : i = nt := by omega
            obtain ⟨C, K, Y1, B⟩ := HS.out
            obtain ⟨Y2, Y3, I5⟩ := HL.out
            obtain ⟨w40, rfl⟩ : ∃ w40, w40 = wr := ⟨_, rfl⟩
            have b := hO
            clear hO hlt
            replace Y1 := rowZ_below Y1 b
            replace Y2 := rowZ_below Y2 b
            replace Y3 := rowZ_below Y3 b
            replace C := C.below b
            replace K := keepB K b
            replace I5 := keepI I5 b
            replace B := B.trans (b.mono B.size)
            clear b
            obtain ⟨c0, c1, c2, c3, c4, _⟩ := cd_cells K
            go_wp2_with fail
            clear c0 c1 c2 c3 c4
            refine (rof_any (m := m) t n ga gn gc D ht40 at' i ct (natL i z) w40 (rowN_of Y1 fun q hq => (HGd.out q hq).1) (by omega) (fun q hq => by have h1 := natL_lt HGd.out q hq; have h2 := HN.out; omega)).mono ?_
            rintro e w41 ⟨g6, rfl, I6, b, _⟩
            replace Y1 := rowZ_below Y1 b
            replace Y2 := rowZ_below Y2 b
            replace Y3 := rowZ_below Y3 b
            replace C := C.below b
            replace K := keepB K b
            replace I5 := keepI I5 b
            replace B := B.trans (b.mono B.size)
            clear b
            obtain ⟨c0, c1, c2, c3, c4, _⟩ := cd_cells K
            go_wp2_with fail
            clear c0 c1 c2 c3 c4
            refine (same_of (m := m) I5 I6 (by omega)).mono ?_
            rintro e w42 ⟨rfl, d⟩
            rw [decide_eq_true rfl]
            have b := d.below w41.heap.size
            clear d
            clear I5
            clear I6
            replace Y1 := rowZ_below Y1 b
            replace Y2 := rowZ_below Y2 b
            replace Y3 := rowZ_below Y3 b
            replace C := C.below b
            replace K := keepB K b
            replace B := B.trans (b.mono B.size)
            clear b
            obtain ⟨c0, c1, c2, c3, c4, _⟩ := cd_cells K
            go_wp2_with fail
            clear c0 c1 c2 c3 c4
            clear Y1
            refine (add_both s1 ns cs zs u1 nu cu zu w42 Y2 Y3 (by omega) (by omega) hfit.out).mono ?_
            rintro e w43 ⟨gs, L, rfl, IS, hLl, hLn, b⟩
            obtain ⟨NM, hNM⟩ : ∃ NM, NM = max ns nu := ⟨_, rfl⟩
            rw [← hNM] at hLl hLn ⊢
            have HNM := Lib.hid hNM
            have hNM1 : NM ≤ 50 := by omega
            have HLn : Hid (∀ i, i < NM → nth64 L i = wv ns nu zs zu i) := hLn
            clear hLn hNM
            replace Y2 := rowZ_below Y2 b
            replace Y3 := rowZ_below Y3 b
            replace C := C.below b
            replace K := keepB K b
            replace B := B.trans (b.mono B.size)
            clear b
            obtain ⟨c0, c1, c2, c3, c4, _⟩ := cd_cells K
            go_wp2_with fail
            clear c0 c1 c2 c3 c4
            obtain ⟨f, be, ce, bl, FF, hfield⟩ := field_fixed C
            have HField := Lib.hid hfield
            obtain ⟨bcl, hbcl⟩ : ∃ b, b = decide (∀ i, i < ns → zs i = 0) := ⟨_, rfl⟩
            obtain ⟨bft, hbft⟩ : ∃ b, b = decide (∀ i, i < ns → 2 * i + 1 < ns → Fld.fmul m (Fld.el m (zs i)) (Fld.el m (zs i)) = Fld.el m (zs (2 * i + 1))) := ⟨_, rfl⟩
            obtain ⟨WB, hWB⟩ : ∃ WB, WB = w43 := ⟨_, rfl⟩
            rw [← hWB] at C K Y2 Y3 IS B FF HField
            have HC1 : Hid (∀ q os, Calls Tryz.prog 15 #[.slice s1 ns cs] (Sort.grow (redrawn WB q) os) fun e w'' => e = .returned (.bool bcl) ∧ ∃ p : Regrown, w'' = Sort.grow (redrawn WB p.d) p.os) := fun q os => Calls.regrown_of (by rw [hbcl]; exact (clean_any s1 ns cs zs _ (rowZ_below Y2 (below_regrown WB q os)) (by omega)).mono fun _ _ h => ⟨h.1, by rw [← h.2]; exact Below.refl _ _⟩)
            have HC2 : Hid (∀ q os, Calls Tryz.prog 16 #[.slice s1 ns cs] (Sort.grow (redrawn WB q) os) fun e w'' => e = .returned (.bool bcl) ∧ ∃ p : Regrown, w'' = Sort.grow (redrawn WB p.d) p.os) := fun q os => Calls.regrown_of (by rw [hbcl]; exact (rclean_any s1 ns cs zs _ (rowZ_below Y2 (below_regrown WB q os)) (by omega)).mono fun _ _ h => ⟨h.1, by rw [← h.2]; exact Below.refl _ _⟩)
            have HF1 : Hid (∀ q os, Calls Tryz.prog 17 #[.pointer (some ⟨f, 0, none⟩), .slice s1 ns cs] (Sort.grow (redrawn WB q) os) fun e w'' => e = .returned (.bool bft) ∧ ∃ p : Regrown, w'' = Sort.grow (redrawn WB p.d) p.os) := fun q os => Calls.regrown_of (by rw [hbft]; exact (fits_any (m := m) s1 ns cs zs _ (FF.below M.lo (below_regrown WB q os)) (rowZ_below Y2 (below_regrown WB q os)) (by omega)).mono fun _ _ h => ⟨h.1, h.2.below _⟩)
            have HF2 : Hid (∀ q os, Calls Tryz.prog 19 #[.int .i64 (m : Int), .slice s1 ns cs] (Sort.grow (redrawn WB q) os) fun e w'' => e = .returned (.bool bft) ∧ ∃ p : Regrown, w'' = Sort.grow (redrawn WB p.d) p.os) := fun q os => Calls.regrown_of (by rw [hbft]; exact rfits_any (m := m) s1 ns cs zs _ (rowZ_below Y2 (below_regrown WB q os)) (by omega))
            have HS : Hid (WB.heap[bq]? = some (cdO (.int .i64 (m : Int)) (.int .i64 (t : Int)) (.int .i64 (n : Int)) (.slice ga gn gc) (.int .i64 (D : Int))) ∧ RowZ WB s1 ns zs ∧ RowZ WB u1 nu zu ∧ Blk64 WB gs L ∧ Below w.heap.size w WB) := ⟨K, Y2, Y3, IS, B⟩
            have tb : ∀ b : Bool, (b == b) = true := fun b => by cases b <;> rfl
            have tb1 := tb bcl
            have tb2 := tb bft
            have tnn : ((NM : Int) == (NM : Int)) = true := beq_iff_eq.2 rfl
            rw [← hWB]
            clear hWB C K Y2 Y3 IS B FF hfield hbcl hbft tb
            have hNM : max ns nu = NM := HNM.out.symm
            have tmx : (if (ns : Int) < (nu : Int) then (nu : Int) else (ns : Int)) = (NM : Int) := by split <;> omega
            have Tmx := Lib.hid tmx
            clear hNM tmx
            go_loopg [32] NM (fun gh s32 wx => ∃ (i : Nat), gh = NM - i ∧ i ≤ NM ∧ s32 = .int .i64 (i : Int) ∧ WB = wx)
            case atStart => exact ⟨0, rfl, Nat.zero_le _, rfl, rfl⟩
            case round =>
              obtain ⟨i, hg, hile, rfl, rfl⟩ := hrel
              have HGi := Lib.hid hg
              clear hg
              have tmx := Tmx.out
              have HB2 := Lib.hid HNM.out
              by_cases hlt : i < NM
              · have x1 : (i : Int) < (NM : Int) := by omega
                have x0 : (0 : Int) ≤ (i : Int) := by omega
                have HI1 : Hid (i + 1 ≤ NM) := hlt
                have dL := Blk64.cell HS.out.2.2.2.1 (i := i) (by omega)
                rw [HLn.out i hlt] at dL
                have tg : decide ((NM : Int) ≤ (i : Int)) = false := decide_eq_false (by omega)
                clear hlt
                by_cases hs : i < ns
                · by_cases hu : i < nu
                  · have y1 : (i : Int) < (ns : Int) := by omega
                    obtain ⟨b1, f1, e1, d1, _⟩ := HS.out.2.1 i (by omega)
                    subst e1
                    have y2 : (i : Int) < (nu : Int) := by omega
                    obtain ⟨b2, f2, e2, d2, _⟩ := HS.out.2.2.1 i (by omega)
                    subst e2
                    have hwv : wv ns nu zs zu i = bits .xor .i64 (zs i) (zu i) := by unfold wv; rw [if_pos hu, if_pos hs]
                    rw [hwv] at dL
                    clear hwv
                    generalize zs i = v1 at d1 dL
                    generalize zu i = v2 at d2 dL
                    generalize hv : bits .xor .i64 v1 v2 = v3 at dL
                    have tv : (v3 == v3) = true := beq_iff_eq.2 rfl
                    clear hs hu
                    go_wp2_with fail
                    go_roundg (NM - (i + 1))
                    case measure => have := HGi.out; have := HI1.out; omega
                    case rel => exact ⟨i + 1, rfl, HI1.out, by go_num, rfl⟩
                  · have y1 : (i : Int) < (ns : Int) := by omega
                    obtain ⟨b1, f1, e1, d1, _⟩ := HS.out.2.1 i (by omega)
                    subst e1
                    have y2 : ¬ ((i : Int) < (nu : Int)) := by omega
                    have y4 : decide ((i : Int) < (nu : Int)) = false := decide_eq_false (by omega)
                    have hwv : wv ns nu zs zu i = zs i := by unfold wv; rw [if_neg hu, if_pos hs]
                    rw [hwv] at dL
                    clear hwv
                    generalize zs i = v1 at d1 dL
                    have tv : (v1 == v1) = true := beq_iff_eq.2 rfl
                    clear hs hu
                    go_wp2_with fail
                    go_roundg (NM - (i + 1))
                    case measure => have := HGi.out; have := HI1.out; omega
                    case rel => exact ⟨i + 1, rfl, HI1.out, by go_num, rfl⟩
                · have hu : i < nu := by omega
                  have y1 : ¬ ((i : Int) < (ns : Int)) := by omega
                  have y3 : decide ((i : Int) < (ns : Int)) = false := decide_eq_false (by omega)
                  have y2 : (i : Int) < (nu : Int) := by omega
                  obtain ⟨b2, f2, e2, d2, _⟩ := HS.out.2.2.1 i (by omega)
                  subst e2
                  have hwv : wv ns nu zs zu i = bits .xor .i64 0 (zu i) := by unfold wv; rw [if_pos hu, if_neg hs]
                  rw [hwv] at dL
                  clear hwv
                  generalize zu i = v2 at d2 dL
                  generalize hv : bits .xor .i64 0 v2 = v3 at dL
                  have tv : (v3 == v3) = true := beq_iff_eq.2 rfl
                  clear hs hu
                  go_wp2_with fail
                  go_roundg (NM - (i + 1))
                  case measure => have := HGi.out; have := HI1.out; omega
                  case rel => exact ⟨i + 1, rfl, HI1.out, by go_num, rfl⟩
              · obtain rfl : i = NM := by omega
                obtain ⟨K, Y2, Y3, IS, B⟩ := HS.out
                obtain ⟨c0, c1, c2, c3, c4, _⟩ := cd_cells K
                have tmq : ((i : Int) == max (ns : Int) (nu : Int)) = true := by rw [beq_iff_eq]; have := HB2.out; omega
                clear K Y2 Y3 IS HB2
                go_upto_region 33 with (fail)
                replace c0 := cell_regrown c0
                replace c1 := cell_regrown c1
                replace c2 := cell_regrown c2
                replace c3 := cell_regrown c3
                replace c4 := cell_regrown c4
                refine wp_region_quiet_below (by kernel_rfl) (by kernel_rfl) ?_
                repeat (go_big_quiet_step (first
                  | (go_at_call 15; with_reducible exact HC1.out _ _)
                  | (go_at_call 16; with_reducible exact HC2.out _ _)
                  | (go_at_call 18; with_reducible exact HField.out _ _)
                  | (go_at_call 17; with_reducible exact HF1.out _ _)
                  | (go_at_call 19; with_reducible exact HF2.out _ _)))
                refine wpQuiet_nil ?_
                intro _ hw'
                obtain ⟨⟨dq, osq⟩, hw''⟩ := hw'
                subst hw''
                have B2 := B.trans ((below_regrown WB dq osq).mono B.size)
                generalize Sort.grow (redrawn WB dq) osq = w99 at B2 ⊢
                clear c0 c1 c2 c3 c4 B
                go_wp2_with fail
                go_ret
                exact ⟨rfl, B2⟩
    · as_aux_lemma =>
        have HGd := Lib.hid hgood
        have HBd := Lib.hid hbd
        have HJ := Lib.hid hj
        clear hgood hbd hj
        clear EC
        have q1 : ((na : Int) == (n : Int)) = false := beq_eq_false_iff_ne.2 (by omega)
        have q3 : ¬ ((na : Int) = (n : Int)) := by omega
        have hbad : na ≠ n ∨ np ≠ pb (deg m t) := .inl hna
        clear hna
        go_wp2_with fail
        generalize hw : w2.alloc (.cells #[.int .i64 (m : Int), .int .i64 (t : Int), .int .i64 (n : Int), .slice ga gn gc, .int .i64 (D : Int)] 27 (0, 0)) = w3
        obtain ⟨K, b⟩ := newCd w2 w3 _ _ _ _ _ hw
        clear hw
        replace Y1 := rowZ_below Y1 b
        replace Y2 := rowZ_below Y2 b
        replace Y3 := rowZ_below Y3 b
        replace UN := UN.below b
        replace EL := EL.below b
        replace A1 := A1.below b
        replace A2 := A2.below b
        replace C := C.below b
        replace B := B.trans (b.mono B.size)
        clear b
        obtain ⟨bq, hbq⟩ : ∃ bq, bq = w2.heap.size := ⟨_, rfl⟩
        rw [← hbq] at K ⊢
        clear hbq
        refine (of_bad (m := m) ht40 w3 s C a na ca p np cp hbad yl EL).mono ?_
        rintro e w4 ⟨rfl, d⟩
        have b := d.below w3.heap.size
        clear d hbad
        replace Y1 := rowZ_below Y1 b
        replace Y2 := rowZ_below Y2 b
        replace Y3 := rowZ_below Y3 b
        replace UN := UN.below b
        replace EL := EL.below b
        replace A1 := A1.below b
        replace A2 := A2.below b
        replace C := C.below b
        replace K := keepB K b
        replace B := B.trans (b.mono B.size)
        clear b
        have e1l := EL.1
        unfold Sent at e1l
        have q1l := neq_err yl
        obtain ⟨c0, c1, c2, c3, c4, _⟩ := cd_cells K
        go_wp2_with fail
        clear c0 c1 c2 c3 c4
        clear e1l q1l q1 q3
        clear EL
        refine (fit7_any a na ca l n (by omega) w4 A1).mono ?_
        rintro e w5 ⟨rfl, Z1, b⟩
        have hfZ1 := fitL_length l n
        generalize fitL l n = X at Z1 hfZ1
        obtain ⟨gZ1, hgZ1⟩ : ∃ gZ1, gZ1 = w4.heap.size := ⟨_, rfl⟩
        rw [← hgZ1] at Z1 ⊢
        clear hgZ1
        clear A1
        replace Y1 := rowZ_below Y1 b
        replace Y2 := rowZ_below Y2 b
        replace Y3 := rowZ_below Y3 b
        replace UN := UN.below b
        replace A2 := A2.below b
        replace C := C.below b
        replace K := keepB K b
        replace B := B.trans (b.mono B.size)
        clear b
        obtain ⟨c0, c1, c2, c3, c4, _⟩ := cd_cells K
        go_wp2_with fail
        clear c0 c1 c2 c3 c4
        refine (rparity_any m t n ga gn gc D (by omega) w5).mono ?_
        rintro e w6 ⟨rfl, b⟩
        rw [← HPB.out]
        replace Y1 := rowZ_below Y1 b
        replace Y2 := rowZ_below Y2 b
        replace Y3 := rowZ_below Y3 b
        replace UN := UN.below b
        replace A2 := A2.below b
        replace C := C.below b
        replace K := keepB K b
        replace Z1 := keepZ Z1 b
        replace B := B.trans (b.mono B.size)
        clear b
        obtain ⟨c0, c1, c2, c3, c4, _⟩ := cd_cells K
        go_wp2_with fail
        clear c0 c1 c2 c3 c4
        refine (fit7_any p np cp l' P (by omega) w6 A2).mono ?_
        rintro e w7 ⟨rfl, Z2, b⟩
        have hfZ2 := fitL_length l' P
        generalize fitL l' P = U at Z2 hfZ2
        obtain ⟨gZ2, hgZ2⟩ : ∃ gZ2, gZ2 = w6.heap.size := ⟨_, rfl⟩
        rw [← hgZ2] at Z2 ⊢
        clear hgZ2
        clear A2
        replace Y1 := rowZ_below Y1 b
        replace Y2 := rowZ_below Y2 b
        replace Y3 := rowZ_below Y3 b
        replace UN := UN.below b
        replace C := C.below b
        replace K := keepB K b
        replace Z1 := keepZ Z1 b
        replace B := B.trans (b.mono B.size)
        clear b
        obtain ⟨c0, c1, c2, c3, c4, _⟩ := cd_cells K
        go_wp2_with fail
        clear c0 c1 c2 c3 c4
        have HOf : Hid (Calls Tryz.prog 7 #[.pointer (some ⟨s, 0, none⟩), .slice (some ⟨gZ1, 0, none⟩) n n, .slice (some ⟨gZ2, 0, none⟩) P P] w7 (ValE m t (ev m t (val X) (val U) % 2 ^ deg m t) w7)) := by
          have h := of_any (m := m) ht1 ht40 w7 s C _ _ X (blk_pol Z1 hfZ1.symm (by omega)) hn2 _ _ U (by rw [← HD.out, ← HPB.out]; exact blk_pol Z2 hfZ2.symm (by omega))
          rw [show pb (deg m t) = P by rw [← HD.out, ← HPB.out]] at h
          exact h
        refine (HOf.out).mono ?_
        rintro e w8 ⟨g3, rfl, I3, b, _⟩
        clear HOf
        rw [syn_word, ← HD.out] at I3
        replace Y1 := rowZ_below Y1 b
        replace Y2 := rowZ_below Y2 b
        replace Y3 := rowZ_below Y3 b
        replace UN := UN.below b
        replace C := C.below b
        replace K := keepB K b
        replace Z1 := keepZ Z1 b
        replace Z2 := keepZ Z2 b
        replace B := B.trans (b.mono B.size)
        clear b
        obtain ⟨c0, c1, c2, c3, c4, _⟩ := cd_cells K
        go_wp2_with fail
        clear c0 c1 c2 c3 c4
        have hXv : val X < 2 ^ (8 * n) := by have := val_lt X; rwa [hfZ1] at this
        refine (rsyn_any (m := m) t n ga gn gc D ht40 hn2 hDpos (by omega) _ _ _ _ n _ _ _ _ P w8 (blkV n Z1 hfZ1.symm (Nat.le_refl _) (by omega)) hXv (blkV P Z2 hfZ2.symm (Nat.le_refl _) (by omega))).mono ?_
        rintro e w9 ⟨g4, rfl, I4, b, _⟩
        clear Z1
        clear Z2
        replace Y1 := rowZ_below Y1 b
        replace Y2 := rowZ_below Y2 b
        replace Y3 := rowZ_below Y3 b
        replace UN := UN.below b
        replace C := C.below b
        replace K := keepB K b
        replace I3 := keepI I3 b
        replace B := B.trans (b.mono B.size)
        clear b
        obtain ⟨c0, c1, c2, c3, c4, _⟩ := cd_cells K
        go_wp2_with fail
        clear c0 c1 c2 c3 c4
        refine (same_of (m := m) I3 I4 (by omega)).mono ?_
        rintro e w10 ⟨rfl, d⟩
        rw [decide_eq_true rfl]
        have b := d.below w9.heap.size
        clear d
        clear I3
        clear I4
        replace Y1 := rowZ_below Y1 b
        replace Y2 := rowZ_below Y2 b
        replace Y3 := rowZ_below Y3 b
        replace UN := UN.below b
        replace C := C.below b
        replace K := keepB K b
        replace B := B.trans (b.mono B.size)
        clear b
        obtain ⟨c0, c1, c2, c3, c4, _⟩ := cd_cells K
        go_wp2_with fail
        clear c0 c1 c2 c3 c4
        refine (bits_bad (m := m) w10 s C hn2 ht40 at' nt ct z j Y1 (by omega) HJ.out (by rw [hN0]; exact HGd.out) (by rw [hN0]; exact HBd.out) yn UN).mono ?_
        rintro e w11 ⟨rfl, d⟩
        have b := d.below w10.heap.size
        clear d
        replace Y1 := rowZ_below Y1 b
        replace Y2 := rowZ_below Y2 b
        replace Y3 := rowZ_below Y3 b
        replace UN := UN.below b
        replace C := C.below b
        replace K := keepB K b
        replace B := B.trans (b.mono B.size)
        clear b
        obtain ⟨c0, c1, c2, c3, c4, _⟩ := cd_cells K
        go_wp2_with fail
        clear c0 c1 c2 c3 c4
        have hmt : nt ≤ 50 := h50
        have HS : Hid (CodeAt m t n w11 s ∧ w11.heap[bq]? = some (cdO (.int .i64 (m : Int)) (.int .i64 (t : Int)) (.int .i64 (n : Int)) (.slice ga gn gc) (.int .i64 (D : Int))) ∧ RowZ w11 at' nt z ∧ Below w.heap.size w w11) := ⟨C, K, Y1, B⟩
        obtain ⟨WA, hWA⟩ : ∃ WA, WA = w11 := ⟨_, rfl⟩
        have HO0 : Hid (Below WA.heap.size WA w11) := by rw [hWA]; exact Below.refl _ _
        rw [← hWA] at HS
        have HL : Hid (ErrAt w11 1 yn ∧ RowZ w11 s1 ns zs ∧ RowZ w11 u1 nu zu) := ⟨UN, Y2, Y3⟩
        rw [← hWA] at HL
        clear hWA C K Y1 B UN Y2 Y3
        go_loopg [29, 30] nt (fun gh s29 s30 wx => ∃ (i : Nat), gh = nt - i ∧ i ≤ nt ∧ s30 = .int .i64 (i : Int) ∧ s29 = .bool (decide (j < i)) ∧ Below WA.heap.size WA wx)
        case atStart => exact ⟨0, rfl, Nat.zero_le _, rfl, by rw [decide_eq_false (Nat.not_lt_zero j)], HO0.out⟩
        case round =>
          clear HO0
          obtain ⟨i, hg, hile, rfl, rfl, hO⟩ := hrel
          have HGh := Lib.hid hg
          clear hg
          by_cases hlt : i < nt
          · have x1 : (i : Int) < (nt : Int) := by omega
            have x0 : (0 : Int) ≤ (i : Int) := by omega
            have HI1 : Hid (i + 1 ≤ nt) := hlt
            obtain ⟨bb, off, ea, d1, hbb⟩ := rowZ_below HS.out.2.2.1 hO i hlt
            have K := keepB HS.out.2.1 hO
            obtain ⟨c0, c1, c2, c3, c4, _⟩ := cd_cells K
            subst ea
            have HO := Lib.hid hO
            clear K hO hbb
            by_cases e1 : j < i
            · rw [decide_eq_true e1]
              have HF : Hid (j < i + 1) := by show j < i + 1; omega
              go_upto_region 19 with (fail)
              replace c0 := cell_regrown c0
              replace c1 := cell_regrown c1
              replace c2 := cell_regrown c2
              replace c3 := cell_regrown c3
              replace c4 := cell_regrown c4
              replace d1 := cell_regrown d1
              have HRB : Hid (∀ q os, Calls Tryz.prog 12 #[cdV m t n ga gn gc D] (Sort.grow (redrawn wr q) os) fun e w'' => e = .returned (.int .i64 (N : Int)) ∧ ∃ p : Regrown, w'' = Sort.grow (redrawn wr p.d) p.os) := fun q os => Calls.regrown_of (by rw [HN.out]; exact rbits_any m t n ga gn gc D (by omega) hn2 _)
              refine wp_region_quiet_below (by kernel_rfl) (by kernel_rfl) ?_
              repeat (go_big_quiet_step (first | (go_at_call 12; with_reducible exact HRB.out _ _)))
              refine wpQuiet_nil ?_
              intro _ hw'
              obtain ⟨⟨dq, osq⟩, hw''⟩ := hw'
              subst hw''
              have b := below_regrown wr dq osq
              generalize Sort.grow (redrawn wr dq) osq = w60 at b ⊢
              have HO6 : Hid (Below WA.heap.size WA w60) := HO.out.trans (b.mono HO.out.size)
              clear c0 c1 c2 c3 c4 d1 HRB HO b
              go_wp2_with fail
              go_roundg (nt - (i + 1))
              case measure => have := HGh.out; have := HI1.out; omega
              case rel => exact ⟨i + 1, rfl, HI1.out, by go_num, by rw [decide_eq_true HF.out], HO6.out⟩
            · rw [decide_eq_false e1]
              by_cases e2 : i = j
              · subst e2
                have HF : Hid (i < i + 1) := Nat.lt_succ_self i
                by_cases q1 : z i < 0
                · have t1 : decide (z i < 0) = true := decide_eq_true q1
                  clear e1
                  go_upto_region 19 with (fail)
                  replace c0 := cell_regrown c0
                  replace c1 := cell_regrown c1
                  replace c2 := cell_regrown c2
                  replace c3 := cell_regrown c3
                  replace c4 := cell_regrown c4
                  replace d1 := cell_regrown d1
                  have HRB : Hid (∀ q os, Calls Tryz.prog 12 #[cdV m t n ga gn gc D] (Sort.grow (redrawn wr q) os) fun e w'' => e = .returned (.int .i64 (N : Int)) ∧ ∃ p : Regrown, w'' = Sort.grow (redrawn wr p.d) p.os) := fun q os => Calls.regrown_of (by rw [HN.out]; exact rbits_any m t n ga gn gc D (by omega) hn2 _)
                  refine wp_region_quiet_below (by kernel_rfl) (by kernel_rfl) ?_
                  repeat (go_big_quiet_step (first | (go_at_call 12; with_reducible exact HRB.out _ _)))
                  refine wpQuiet_nil ?_
                  intro _ hw'
                  obtain ⟨⟨dq, osq⟩, hw''⟩ := hw'
                  subst hw''
                  have b := below_regrown wr dq osq
                  generalize Sort.grow (redrawn wr dq) osq = w60 at b ⊢
                  have HO6 : Hid (Below WA.heap.size WA w60) := HO.out.trans (b.mono HO.out.size)
                  clear c0 c1 c2 c3 c4 d1 HRB HO b
                  go_wp2_with fail
                  go_roundg (nt - (i + 1))
                  case measure => have := HGh.out; have := HI1.out; omega
                  case rel => exact ⟨i + 1, rfl, HI1.out, by go_num, by rw [decide_eq_true HF.out], HO6.out⟩
                · have t1 : decide (z i < 0) = false := decide_eq_false q1
                  have t2 : decide ((N : Int) ≤ z i) = true := decide_eq_true (HBd.out.resolve_left q1)
                  clear e1 q1
                  go_upto_region 19 with (fail)
                  replace c0 := cell_regrown c0
                  replace c1 := cell_regrown c1
                  replace c2 := cell_regrown c2
                  replace c3 := cell_regrown c3
                  replace c4 := cell_regrown c4
                  replace d1 := cell_regrown d1
                  have HRB : Hid (∀ q os, Calls Tryz.prog 12 #[cdV m t n ga gn gc D] (Sort.grow (redrawn wr q) os) fun e w'' => e = .returned (.int .i64 (N : Int)) ∧ ∃ p : Regrown, w'' = Sort.grow (redrawn wr p.d) p.os) := fun q os => Calls.regrown_of (by rw [HN.out]; exact rbits_any m t n ga gn gc D (by omega) hn2 _)
                  refine wp_region_quiet_below (by kernel_rfl) (by kernel_rfl) ?_
                  repeat (go_big_quiet_step (first | (go_at_call 12; with_reducible exact HRB.out _ _)))
                  refine wpQuiet_nil ?_
                  intro _ hw'
                  obtain ⟨⟨dq, osq⟩, hw''⟩ := hw'
                  subst hw''
                  have b := below_regrown wr dq osq
                  generalize Sort.grow (redrawn wr dq) osq = w60 at b ⊢
                  have HO6 : Hid (Below WA.heap.size WA w60) := HO.out.trans (b.mono HO.out.size)
                  clear c0 c1 c2 c3 c4 d1 HRB HO b
                  go_wp2_with fail
                  go_roundg (nt - (i + 1))
                  case measure => have := HGh.out; have := HI1.out; omega
                  case rel => exact ⟨i + 1, rfl, HI1.out, by go_num, by rw [decide_eq_true HF.out], HO6.out⟩
              · have HF : Hid (¬ j < i + 1) := by show ¬ j < i + 1; omega
                obtain ⟨q1, q2⟩ := HGd.out i (by omega)
                have t1 : decide (z i < 0) = false := decide_eq_false (by omega)
                have t2 : decide ((N : Int) ≤ z i) = false := decide_eq_false (by omega)
                clear q1 q2
                clear e1 e2
                go_upto_region 19 with (fail)
                replace c0 := cell_regrown c0
                replace c1 := cell_regrown c1
                replace c2 := cell_regrown c2
                replace c3 := cell_regrown c3
                replace c4 := cell_regrown c4
                replace d1 := cell_regrown d1
                have HRB : Hid (∀ q os, Calls Tryz.prog 12 #[cdV m t n ga gn gc D] (Sort.grow (redrawn wr q) os) fun e w'' => e = .returned (.int .i64 (N : Int)) ∧ ∃ p : Regrown, w'' = Sort.grow (redrawn wr p.d) p.os) := fun q os => Calls.regrown_of (by rw [HN.out]; exact rbits_any m t n ga gn gc D (by omega) hn2 _)
                refine wp_region_quiet_below (by kernel_rfl) (by kernel_rfl) ?_
                repeat (go_big_quiet_step (first | (go_at_call 12; with_reducible exact HRB.out _ _)))
                refine wpQuiet_nil ?_
                intro _ hw'
                obtain ⟨⟨dq, osq⟩, hw''⟩ := hw'
                subst hw''
                have b := below_regrown wr dq osq
                generalize Sort.grow (redrawn wr dq) osq = w60 at b ⊢
                have HO6 : Hid (Below WA.heap.size WA w60) := HO.out.trans (b.mono HO.out.size)
                clear c0 c1 c2 c3 c4 d1 HRB HO b
                go_wp2_with fail
                go_roundg (nt - (i + 1))
                case measure => have := HGh.out; have := HI1.out; omega
                case rel => exact ⟨i + 1, rfl, HI1.out, by go_num, by rw [decide_eq_false HF.out], HO6.out⟩
          · obtain rfl : i = nt := by omega
            obtain ⟨C, K, Y1, B⟩ := HS.out
            obtain ⟨UN, Y2, Y3⟩ := HL.out
            rw [decide_eq_true HJ.out]
            obtain ⟨w40, rfl⟩ : ∃ w40, w40 = wr := ⟨_, rfl⟩
            have b := hO
            clear hO hlt
            replace Y1 := rowZ_below Y1 b
            replace Y2 := rowZ_below Y2 b
            replace Y3 := rowZ_below Y3 b
            replace C := C.below b
            replace K := keepB K b
            replace UN := UN.below b
            replace B := B.trans (b.mono B.size)
            clear b
            have e1n := UN.1
            unfold Sent at e1n
            have q1n := neq_err yn
            obtain ⟨c0, c1, c2, c3, c4, _⟩ := cd_cells K
            go_wp2_with fail
            clear c0 c1 c2 c3 c4
            clear e1n q1n UN
            clear Y1
            refine (add_both s1 ns cs zs u1 nu cu zu w40 Y2 Y3 (by omega) (by omega) hfit.out).mono ?_
            rintro e w41 ⟨gs, L, rfl, IS, hLl, hLn, b⟩
            obtain ⟨NM, hNM⟩ : ∃ NM, NM = max ns nu := ⟨_, rfl⟩
            rw [← hNM] at hLl hLn ⊢
            have HNM := Lib.hid hNM
            have hNM1 : NM ≤ 50 := by omega
            have HLn : Hid (∀ i, i < NM → nth64 L i = wv ns nu zs zu i) := hLn
            clear hLn hNM
            replace Y2 := rowZ_below Y2 b
            replace Y3 := rowZ_below Y3 b
            replace C := C.below b
            replace K := keepB K b
            replace B := B.trans (b.mono B.size)
            clear b
            obtain ⟨c0, c1, c2, c3, c4, _⟩ := cd_cells K
            go_wp2_with fail
            clear c0 c1 c2 c3 c4
            obtain ⟨f, be, ce, bl, FF, hfield⟩ := field_fixed C
            have HField := Lib.hid hfield
            obtain ⟨bcl, hbcl⟩ : ∃ b, b = decide (∀ i, i < ns → zs i = 0) := ⟨_, rfl⟩
            obtain ⟨bft, hbft⟩ : ∃ b, b = decide (∀ i, i < ns → 2 * i + 1 < ns → Fld.fmul m (Fld.el m (zs i)) (Fld.el m (zs i)) = Fld.el m (zs (2 * i + 1))) := ⟨_, rfl⟩
            obtain ⟨WB, hWB⟩ : ∃ WB, WB = w41 := ⟨_, rfl⟩
            rw [← hWB] at C K Y2 Y3 IS B FF HField
            have HC1 : Hid (∀ q os, Calls Tryz.prog 15 #[.slice s1 ns cs] (Sort.grow (redrawn WB q) os) fun e w'' => e = .returned (.bool bcl) ∧ ∃ p : Regrown, w'' = Sort.grow (redrawn WB p.d) p.os) := fun q os => Calls.regrown_of (by rw [hbcl]; exact (clean_any s1 ns cs zs _ (rowZ_below Y2 (below_regrown WB q os)) (by omega)).mono fun _ _ h => ⟨h.1, by rw [← h.2]; exact Below.refl _ _⟩)
            have HC2 : Hid (∀ q os, Calls Tryz.prog 16 #[.slice s1 ns cs] (Sort.grow (redrawn WB q) os) fun e w'' => e = .returned (.bool bcl) ∧ ∃ p : Regrown, w'' = Sort.grow (redrawn WB p.d) p.os) := fun q os => Calls.regrown_of (by rw [hbcl]; exact (rclean_any s1 ns cs zs _ (rowZ_below Y2 (below_regrown WB q os)) (by omega)).mono fun _ _ h => ⟨h.1, by rw [← h.2]; exact Below.refl _ _⟩)
            have HF1 : Hid (∀ q os, Calls Tryz.prog 17 #[.pointer (some ⟨f, 0, none⟩), .slice s1 ns cs] (Sort.grow (redrawn WB q) os) fun e w'' => e = .returned (.bool bft) ∧ ∃ p : Regrown, w'' = Sort.grow (redrawn WB p.d) p.os) := fun q os => Calls.regrown_of (by rw [hbft]; exact (fits_any (m := m) s1 ns cs zs _ (FF.below M.lo (below_regrown WB q os)) (rowZ_below Y2 (below_regrown WB q os)) (by omega)).mono fun _ _ h => ⟨h.1, h.2.below _⟩)
            have HF2 : Hid (∀ q os, Calls Tryz.prog 19 #[.int .i64 (m : Int), .slice s1 ns cs] (Sort.grow (redrawn WB q) os) fun e w'' => e = .returned (.bool bft) ∧ ∃ p : Regrown, w'' = Sort.grow (redrawn WB p.d) p.os) := fun q os => Calls.regrown_of (by rw [hbft]; exact rfits_any (m := m) s1 ns cs zs _ (rowZ_below Y2 (below_regrown WB q os)) (by omega))
            have HS : Hid (WB.heap[bq]? = some (cdO (.int .i64 (m : Int)) (.int .i64 (t : Int)) (.int .i64 (n : Int)) (.slice ga gn gc) (.int .i64 (D : Int))) ∧ RowZ WB s1 ns zs ∧ RowZ WB u1 nu zu ∧ Blk64 WB gs L ∧ Below w.heap.size w WB) := ⟨K, Y2, Y3, IS, B⟩
            have tb : ∀ b : Bool, (b == b) = true := fun b => by cases b <;> rfl
            have tb1 := tb bcl
            have tb2 := tb bft
            have tnn : ((NM : Int) == (NM : Int)) = true := beq_iff_eq.2 rfl
            rw [← hWB]
            clear hWB C K Y2 Y3 IS B FF hfield hbcl hbft tb
            have hNM : max ns nu = NM := HNM.out.symm
            have tmx : (if (ns : Int) < (nu : Int) then (nu : Int) else (ns : Int)) = (NM : Int) := by split <;> omega
            have Tmx := Lib.hid tmx
            clear hNM tmx
            go_loopg [32] NM (fun gh s32 wx => ∃ (i : Nat), gh = NM - i ∧ i ≤ NM ∧ s32 = .int .i64 (i : Int) ∧ WB = wx)
            case atStart => exact ⟨0, rfl, Nat.zero_le _, rfl, rfl⟩
            case round =>
              obtain ⟨i, hg, hile, rfl, rfl⟩ := hrel
              have HGi := Lib.hid hg
              clear hg
              have tmx := Tmx.out
              have HB2 := Lib.hid HNM.out
              by_cases hlt : i < NM
              · have x1 : (i : Int) < (NM : Int) := by omega
                have x0 : (0 : Int) ≤ (i : Int) := by omega
                have HI1 : Hid (i + 1 ≤ NM) := hlt
                have dL := Blk64.cell HS.out.2.2.2.1 (i := i) (by omega)
                rw [HLn.out i hlt] at dL
                have tg : decide ((NM : Int) ≤ (i : Int)) = false := decide_eq_false (by omega)
                clear hlt
                by_cases hs : i < ns
                · by_cases hu : i < nu
                  · have y1 : (i : Int) < (ns : Int) := by omega
                    obtain ⟨b1, f1, e1, d1, _⟩ := HS.out.2.1 i (by omega)
                    subst e1
                    have y2 : (i : Int) < (nu : Int) := by omega
                    obtain ⟨b2, f2, e2, d2, _⟩ := HS.out.2.2.1 i (by omega)
                    subst e2
                    have hwv : wv ns nu zs zu i = bits .xor .i64 (zs i) (zu i) := by unfold wv; rw [if_pos hu, if_pos hs]
                    rw [hwv] at dL
                    clear hwv
                    generalize zs i = v1 at d1 dL
                    generalize zu i = v2 at d2 dL
                    generalize hv : bits .xor .i64 v1 v2 = v3 at dL
                    have tv : (v3 == v3) = true := beq_iff_eq.2 rfl
                    clear hs hu
                    go_wp2_with fail
                    go_roundg (NM - (i + 1))
                    case measure => have := HGi.out; have := HI1.out; omega
                    case rel => exact ⟨i + 1, rfl, HI1.out, by go_num, rfl⟩
                  · have y1 : (i : Int) < (ns : Int) := by omega
                    obtain ⟨b1, f1, e1, d1, _⟩ := HS.out.2.1 i (by omega)
                    subst e1
                    have y2 : ¬ ((i : Int) < (nu : Int)) := by omega
                    have y4 : decide ((i : Int) < (nu : Int)) = false := decide_eq_false (by omega)
                    have hwv : wv ns nu zs zu i = zs i := by unfold wv; rw [if_neg hu, if_pos hs]
                    rw [hwv] at dL
                    clear hwv
                    generalize zs i = v1 at d1 dL
                    have tv : (v1 == v1) = true := beq_iff_eq.2 rfl
                    clear hs hu
                    go_wp2_with fail
                    go_roundg (NM - (i + 1))
                    case measure => have := HGi.out; have := HI1.out; omega
                    case rel => exact ⟨i + 1, rfl, HI1.out, by go_num, rfl⟩
                · have hu : i < nu := by omega
                  have y1 : ¬ ((i : Int) < (ns : Int)) := by omega
                  have y3 : decide ((i : Int) < (ns : Int)) = false := decide_eq_false (by omega)
                  have y2 : (i : Int) < (nu : Int) := by omega
                  obtain ⟨b2, f2, e2, d2, _⟩ := HS.out.2.2.1 i (by omega)
                  subst e2
                  have hwv : wv ns nu zs zu i = bits .xor .i64 0 (zu i) := by unfold wv; rw [if_pos hu, if_neg hs]
                  rw [hwv] at dL
                  clear hwv
                  generalize zu i = v2 at d2 dL
                  generalize hv : bits .xor .i64 0 v2 = v3 at dL
                  have tv : (v3 == v3) = true := beq_iff_eq.2 rfl
                  clear hs hu
                  go_wp2_with fail
                  go_roundg (NM - (i + 1))
                  case measure => have := HGi.out; have := HI1.out; omega
                  case rel => exact ⟨i + 1, rfl, HI1.out, by go_num, rfl⟩
              · obtain rfl : i = NM := by omega
                obtain ⟨K, Y2, Y3, IS, B⟩ := HS.out
                obtain ⟨c0, c1, c2, c3, c4, _⟩ := cd_cells K
                have tmq : ((i : Int) == max (ns : Int) (nu : Int)) = true := by rw [beq_iff_eq]; have := HB2.out; omega
                clear K Y2 Y3 IS HB2
                go_upto_region 33 with (fail)
                replace c0 := cell_regrown c0
                replace c1 := cell_regrown c1
                replace c2 := cell_regrown c2
                replace c3 := cell_regrown c3
                replace c4 := cell_regrown c4
                refine wp_region_quiet_below (by kernel_rfl) (by kernel_rfl) ?_
                repeat (go_big_quiet_step (first
                  | (go_at_call 15; with_reducible exact HC1.out _ _)
                  | (go_at_call 16; with_reducible exact HC2.out _ _)
                  | (go_at_call 18; with_reducible exact HField.out _ _)
                  | (go_at_call 17; with_reducible exact HF1.out _ _)
                  | (go_at_call 19; with_reducible exact HF2.out _ _)))
                refine wpQuiet_nil ?_
                intro _ hw'
                obtain ⟨⟨dq, osq⟩, hw''⟩ := hw'
                subst hw''
                have B2 := B.trans ((below_regrown WB dq osq).mono B.size)
                generalize Sort.grow (redrawn WB dq) osq = w99 at B2 ⊢
                clear c0 c1 c2 c3 c4 B
                go_wp2_with fail
                go_ret
                exact ⟨rfl, B2⟩
theorem walk (a0 a1 a2 : Int) (a3 : Option Addr) (len3 cap3 : Nat) (z3 : List Int) (a4 : Option Addr) (len4 cap4 : Nat) (z4 : List Int) (a5 : Option Addr) (len5 cap5 : Nat) (z5 : List Int) (a6 : Option Addr) (len6 cap6 : Nat) (z6 : List Int) (a7 : Option Addr) (len7 cap7 : Nat) (z7 : List Int) (W : World) (w0 : (Lit.int .i64 a0).wf = true) (w1 : (Lit.int .i64 a1).wf = true) (w2 : (Lit.int .i64 a2).wf = true) (w3 : IsRow .u8 W a3 len3 cap3 z3) (w4 : IsRow .u8 W a4 len4 cap4 z4) (w5 : IsRow .i64 W a5 len5 cap5 z5) (w6 : IsRow .i64 W a6 len6 cap6 z6) (w7 : IsRow .i64 W a7 len7 cap7 z7) (h : LaidSyndromeSays.Holds W) :
    Calls Tryz.prog 3 #[.int .i64 a0, .int .i64 a1, .int .i64 a2, .slice a3 len3 cap3, .slice a4 len4 cap4, .slice a5 len5 cap5, .slice a6 len6 cap6, .slice a7 len7 cap7] W fun e w' => e = .returned (.bool true) ∧ Below W.heap.size W w' := by
  obtain ⟨f, ⟨E0, E1, E2, E3⟩, _⟩ := h
  obtain ⟨l3, h3⟩ := row_pol w3
  obtain ⟨l4, h4⟩ := row_pol w4
  obtain ⟨h5, m5⟩ := isrow_z w5
  obtain ⟨h6, m6⟩ := isrow_z w6
  have hfit := isrow_fit w7
  obtain ⟨h7, m7⟩ := isrow_z w7
  by_cases k5 : len5 ≤ 50
  · by_cases k6 : len6 ≤ 50
    · by_cases k7 : len7 ≤ 50
      · exact core a0 a1 a2 a3 len3 cap3 l3 a4 len4 cap4 l4 a5 len5 cap5 _ a6 len6 cap6 _ a7 len7 cap7 _ k5 k6 k7 hfit W _ _ _ E3 E1 E2 h3 h4 h5 h6 h7
      · exact long2 a0 a1 a2 a3 len3 cap3 l3 a4 len4 cap4 l4 a5 len5 cap5 _ a6 len6 cap6 _ a7 len7 cap7 _ k5 k6 (by omega) W _ _ _ E3 E1 E2 h3 h4 h5 h6 h7
    · exact long1 a0 a1 a2 a3 len3 cap3 l3 a4 len4 cap4 l4 a5 len5 cap5 _ a6 len6 cap6 _ a7 len7 cap7 _ k5 (by omega) W _ _ _ E3 E1 E2 h3 h4 h5 h6 h7
  · exact long0 a0 a1 a2 a3 len3 cap3 l3 a4 len4 cap4 l4 a5 len5 cap5 _ a6 len6 cap6 _ a7 len7 cap7 _ (by omega) W _ _ _ E3 E1 E2 h3 h4 h5 h6 h7
end Go.Proofs.YthhhpaiednpdkaaGreatDoor.walkSyndromeSays
