/- The walk over SyndromeAdds. By the verifier of shale. -/
import Derived.Test.YthhhpaiednpdkaaDoorGreat1
import Derived.Test.YthhhpaiednpdkaaDoorGreat2
import Derived.Test.YthhhpaiednpdkaaDoorGreat3
import Derived.Test.YthhhpaiednpdkaaDoorGreat4
import Derived.Test.YthhhpaiednpdkaaDoorLaidSyndromeAdds
import Derived.Deep.Cut
namespace Go.Proofs.YthhhpaiednpdkaaDoor.walkSyndromeAdds
open Go Go.RowKit Bin Cos Enc Syn
set_option linter.unusedVariables false
set_option maxRecDepth 100000 in
set_option maxHeartbeats 4000000 in
theorem core (z1 z2 z3 : Int) (a : Option Addr) (na ca : Nat) (l : List (BitVec 8)) (a' : Option Addr) (na' ca' : Nat) (l' : List (BitVec 8)) (p : Option Addr) (np cp : Nat) (q : List (BitVec 8)) (p' : Option Addr) (np' cp' : Nat) (q' : List (BitVec 8)) (w : World) (yc yn : Addr)
    (EC : ErrAt w 2 yc) (UN : ErrAt w 0 yn) (A1 : Pol w a na ca l) (A2 : Pol w a' na' ca' l') (A3 : Pol w p np cp q) (A4 : Pol w p' np' cp' q') :
    Calls Tryd.prog 5 #[.int .i64 z1, .int .i64 z2, .int .i64 z3, .slice a na ca, .slice a' na' ca', .slice p np cp, .slice p' np' cp'] w fun e w' => e = .returned (.bool true) ∧ Below w.heap.size w w' := by
  go_enter Tryd.func5, Tryd.ntmps5
  go_wp2_with fail
  refine (first7_any w yc yn EC UN).mono ?_
  rintro e w1 ⟨rfl, b⟩
  have B := b
  replace EC := EC.below b
  replace UN := UN.below b
  replace A1 := A1.below b
  replace A2 := A2.below b
  replace A3 := A3.below b
  replace A4 := A4.below b
  clear b
  go_wp2_with fail
  refine (made7_any z1 z2 z3 w1 yc EC).mono ?_
  rintro e w2 ⟨m, t, n, M, s, ga, gn, gc, hm6, hm10, ht6, hn24, hmay, rfl, C, G, b⟩
  haveI := M
  replace EC := EC.below b
  replace UN := UN.below b
  replace A1 := A1.below b
  replace A2 := A2.below b
  replace A3 := A3.below b
  replace A4 := A4.below b
  replace B := B.trans (b.mono B.size)
  clear b
  clear G
  have ht1 := hmay.t1
  have ht40 := hmay.t2
  have hn1 := hmay.n1
  have hn2 := hmay.n2
  have hroom := hmay.room
  have hDpos := deg_pos M.lo ht1
  have hD60 : deg m t ≤ 60 := by
    have h1 := deg_le M.lo t
    have h2 : m * t ≤ 10 * 6 := Nat.mul_le_mul hm10 ht6
    omega
  obtain ⟨D, hD⟩ : ∃ D, D = deg m t := ⟨_, rfl⟩
  have HD := Lib.hid hD
  rw [← hD] at hDpos hD60 hroom
  rw [← hD]
  obtain ⟨P, hP⟩ : ∃ P, P = pb D := ⟨_, rfl⟩
  have HPB := Lib.hid hP
  have hP8 : P ≤ 8 := by rw [hP]; unfold pb; omega
  clear hD hP
  go_wp2_with fail
  generalize hw : w2.alloc (.cells #[.int .i64 (m : Int), .int .i64 (t : Int), .int .i64 (n : Int), .slice ga gn gc, .int .i64 (D : Int)] 27 (0, 0)) = w3
  obtain ⟨K, b⟩ := newCd w2 w3 _ _ _ _ _ hw
  clear hw
  replace EC := EC.below b
  replace UN := UN.below b
  replace A1 := A1.below b
  replace A2 := A2.below b
  replace A3 := A3.below b
  replace A4 := A4.below b
  replace C := C.below b
  replace B := B.trans (b.mono B.size)
  clear b
  obtain ⟨bq, hbq⟩ : ∃ bq, bq = w2.heap.size := ⟨_, rfl⟩
  rw [← hbq] at K ⊢
  clear hbq
  refine (fit7_any a na ca l n (by omega) w3 A1).mono ?_
  rintro e w4 ⟨rfl, Z1, b⟩
  have hfZ1 := fitL_length l n
  generalize fitL l n = X at Z1 hfZ1
  obtain ⟨gZ1, hgZ1⟩ : ∃ gZ1, gZ1 = w3.heap.size := ⟨_, rfl⟩
  rw [← hgZ1] at Z1 ⊢
  clear hgZ1
  clear A1
  replace EC := EC.below b
  replace UN := UN.below b
  replace A2 := A2.below b
  replace A3 := A3.below b
  replace A4 := A4.below b
  replace C := C.below b
  replace K := keepB K b
  replace B := B.trans (b.mono B.size)
  clear b
  obtain ⟨c0, c1, c2, c3, c4, _⟩ := cd_cells K
  go_wp2_with fail
  clear c0 c1 c2 c3 c4
  refine (fit7_any a' na' ca' l' n (by omega) w4 A2).mono ?_
  rintro e w5 ⟨rfl, Z2, b⟩
  have hfZ2 := fitL_length l' n
  generalize fitL l' n = Y at Z2 hfZ2
  obtain ⟨gZ2, hgZ2⟩ : ∃ gZ2, gZ2 = w4.heap.size := ⟨_, rfl⟩
  rw [← hgZ2] at Z2 ⊢
  clear hgZ2
  clear A2
  replace EC := EC.below b
  replace UN := UN.below b
  replace A3 := A3.below b
  replace A4 := A4.below b
  replace C := C.below b
  replace K := keepB K b
  replace Z1 := keepZ Z1 b
  replace B := B.trans (b.mono B.size)
  clear b
  obtain ⟨c0, c1, c2, c3, c4, _⟩ := cd_cells K
  go_wp2_with fail
  clear c0 c1 c2 c3 c4
  refine (rparity_any m t n ga gn gc D (by omega) w5).mono ?_
  rintro e w6 ⟨rfl, b⟩
  rw [← HPB.out]
  replace EC := EC.below b
  replace UN := UN.below b
  replace A3 := A3.below b
  replace A4 := A4.below b
  replace C := C.below b
  replace K := keepB K b
  replace Z1 := keepZ Z1 b
  replace Z2 := keepZ Z2 b
  replace B := B.trans (b.mono B.size)
  clear b
  obtain ⟨c0, c1, c2, c3, c4, _⟩ := cd_cells K
  go_wp2_with fail
  clear c0 c1 c2 c3 c4
  refine (fit7_any p np cp q P (by omega) w6 A3).mono ?_
  rintro e w7 ⟨rfl, Z3, b⟩
  have hfZ3 := fitL_length q P
  generalize fitL q P = U at Z3 hfZ3
  obtain ⟨gZ3, hgZ3⟩ : ∃ gZ3, gZ3 = w6.heap.size := ⟨_, rfl⟩
  rw [← hgZ3] at Z3 ⊢
  clear hgZ3
  clear A3
  replace EC := EC.below b
  replace UN := UN.below b
  replace A4 := A4.below b
  replace C := C.below b
  replace K := keepB K b
  replace Z1 := keepZ Z1 b
  replace Z2 := keepZ Z2 b
  replace B := B.trans (b.mono B.size)
  clear b
  obtain ⟨c0, c1, c2, c3, c4, _⟩ := cd_cells K
  go_wp2_with fail
  clear c0 c1 c2 c3 c4
  refine (rparity_any m t n ga gn gc D (by omega) w7).mono ?_
  rintro e w8 ⟨rfl, b⟩
  rw [← HPB.out]
  replace EC := EC.below b
  replace UN := UN.below b
  replace A4 := A4.below b
  replace C := C.below b
  replace K := keepB K b
  replace Z1 := keepZ Z1 b
  replace Z2 := keepZ Z2 b
  replace Z3 := keepZ Z3 b
  replace B := B.trans (b.mono B.size)
  clear b
  obtain ⟨c0, c1, c2, c3, c4, _⟩ := cd_cells K
  go_wp2_with fail
  clear c0 c1 c2 c3 c4
  have hmk := fun w => made8 w n (by omega)
  refine (fit7_any p' np' cp' q' P (by omega) w8 A4).mono ?_
  rintro e w9 ⟨rfl, Z4, b⟩
  have hfZ4 := fitL_length q' P
  generalize fitL q' P = V at Z4 hfZ4
  obtain ⟨gZ4, hgZ4⟩ : ∃ gZ4, gZ4 = w8.heap.size := ⟨_, rfl⟩
  rw [← hgZ4] at Z4 ⊢
  clear hgZ4
  clear A4
  replace EC := EC.below b
  replace UN := UN.below b
  replace C := C.below b
  replace K := keepB K b
  replace Z1 := keepZ Z1 b
  replace Z2 := keepZ Z2 b
  replace Z3 := keepZ Z3 b
  replace B := B.trans (b.mono B.size)
  clear b
  obtain ⟨c0, c1, c2, c3, c4, _⟩ := cd_cells K
  go_upto_region 10 with (fail)
  clear c0 c1 c2 c3 c4
  clear hmk
  have HS : Hid (ErrAt w9 2 yc ∧ CodeAt m t n w9 s ∧ Blk8 w9 gZ1 X ∧ Blk8 w9 gZ2 Y ∧ Blk8 w9 gZ3 U ∧ Blk8 w9 gZ4 V ∧ Below w.heap.size w w9) := ⟨EC, C, Z1, Z2, Z3, Z4, B⟩
  have Q := Below.refl w9.heap.size w9
  have hl1 := Z1.lt
  have hl2 := Z2.lt
  have hl3 := Z3.lt
  have hl4 := Z4.lt
  generalize hw : w9.alloc (obj8 (List.replicate n 0)) = w10
  obtain ⟨Z5, b⟩ := lit8 w9 w10 _ hw.symm
  clear hw
  replace EC := EC.below b
  replace UN := UN.below b
  replace C := C.below b
  replace K := keepB K b
  replace Z1 := keepZ Z1 b
  replace Z2 := keepZ Z2 b
  replace Z3 := keepZ Z3 b
  replace Z4 := keepZ Z4 b
  replace Q := Q.trans (b.mono Q.size)
  replace B := B.trans (b.mono B.size)
  clear b
  obtain ⟨gZ5, hgZ5⟩ : ∃ gZ5, gZ5 = w9.heap.size := ⟨_, rfl⟩
  rw [← hgZ5] at Z5 hl1 hl2 hl3 hl4 ⊢
  have HG5 := Lib.hid hgZ5
  clear hgZ5
  obtain ⟨c0, c1, c2, c3, c4, _⟩ := cd_cells K
  go_wp2_with fail
  clear c0 c1 c2 c3 c4
  have hmk := fun w => made8 w P (by omega)
  refine (rparity_any m t n ga gn gc D (by omega) w10).mono ?_
  rintro e w11 ⟨rfl, b⟩
  rw [← HPB.out]
  replace EC := EC.below b
  replace UN := UN.below b
  replace C := C.below b
  replace K := keepB K b
  replace Z1 := keepZ Z1 b
  replace Z2 := keepZ Z2 b
  replace Z3 := keepZ Z3 b
  replace Z4 := keepZ Z4 b
  replace Q := Q.trans (b.mono Q.size)
  replace Z5 := keepZ Z5 b
  replace B := B.trans (b.mono B.size)
  clear b
  obtain ⟨c0, c1, c2, c3, c4, _⟩ := cd_cells K
  go_wp2_with fail
  clear c0 c1 c2 c3 c4
  clear hmk
  have hl5 := Z5.lt
  generalize hw : w11.alloc (obj8 (List.replicate P 0)) = w12
  obtain ⟨Z6, b⟩ := lit8 w11 w12 _ hw.symm
  clear hw
  replace EC := EC.below b
  replace UN := UN.below b
  replace C := C.below b
  replace K := keepB K b
  replace Z1 := keepZ Z1 b
  replace Z2 := keepZ Z2 b
  replace Z3 := keepZ Z3 b
  replace Z4 := keepZ Z4 b
  replace Q := Q.trans (b.mono Q.size)
  replace Z5 := keepZ Z5 b
  replace B := B.trans (b.mono B.size)
  clear b
  obtain ⟨gZ6, hgZ6⟩ : ∃ gZ6, gZ6 = w11.heap.size := ⟨_, rfl⟩
  rw [← hgZ6] at Z6 hl5 ⊢
  have hm5 : gZ5 ≠ gZ6 := by omega
  clear hgZ6
  have HZ : Hid (Blk8 w12 gZ5 (xrL X Y n 0) ∧ Blk8 w12 gZ6 (List.replicate P 0)) := ⟨by rw [xrL_zero]; exact Z5, Z6⟩
  clear EC UN C K Z1 Z2 Z3 Z4 Z5 Z6 B
  go_loopg [25] n (fun gh s25 wx => ∃ (k : Nat), gh = n - k ∧ k ≤ n ∧ s25 = .int .i64 (k : Int) ∧ Hid (Blk8 wx gZ5 (xrL X Y n k) ∧ Blk8 wx gZ6 (List.replicate P 0)) ∧ Below gZ5 w9 wx)
  case atStart => exact ⟨0, rfl, Nat.zero_le _, rfl, HZ, by rw [HG5.out]; exact Q⟩
  case round =>
    clear HZ Q
    obtain ⟨k, hg, hk, rfl, HZ, hO⟩ := hrel
    have HGk := Lib.hid hg
    clear hg
    obtain ⟨Z5, Z6⟩ := HZ.out
    have Z1 := (hO.block gZ1 hl1).trans HS.out.2.2.1
    have Z2 := (hO.block gZ2 hl2).trans HS.out.2.2.2.1
    by_cases hlt : k < n
    · have x1 : (k : Int) < (n : Int) := by omega
      have x0 : (0 : Int) ≤ (k : Int) := by omega
      have d1 := Blk8.cell Z1 (i := k) (by omega)
      have d2 := Blk8.cell Z2 (i := k) (by omega)
      have d3 := Z5.cell (i := k) (by rw [xrL_length]; exact hlt)
      have d4 := Z5.free k
      have hx := Bits32.bxor (nth8 X k) (nth8 Y k)
      have o4 := Only.setCell wr ⟨gZ5, k, none⟩ (.int .u8 (Bits32.b (nth8 X k ^^^ nth8 Y k)))
      have hs := Z5.set k (nth8 X k ^^^ nth8 Y k)
      rw [xrL_set X Y n k hlt] at hs
      have HN : Hid ((Blk8 (wr.setCell ⟨gZ5, k, none⟩ (.int .u8 (Bits32.b (nth8 X k ^^^ nth8 Y k)))).drew gZ5 (xrL X Y n (k + 1)) ∧ Blk8 (wr.setCell ⟨gZ5, k, none⟩ (.int .u8 (Bits32.b (nth8 X k ^^^ nth8 Y k)))).drew gZ6 (List.replicate P 0)) ∧ Below gZ5 w9 (wr.setCell ⟨gZ5, k, none⟩ (.int .u8 (Bits32.b (nth8 X k ^^^ nth8 Y k)))).drew) :=
        ⟨⟨hs, (o4.block gZ6 (fun e => hm5 e.symm)).trans Z6⟩, (hO.trans (o4.below (Nat.le_refl gZ5))).drew⟩
      generalize Bits32.b (nth8 X k ^^^ nth8 Y k) = nv at hx HN
      generalize Bits32.b (nth8 X k) = v1 at hx d1
      generalize Bits32.b (nth8 Y k) = v2 at hx d2
      clear Z1 Z2 Z5 Z6 HZ o4 hs hO
      go_wp2_with fail
      go_region
      go_wp2_with fail
      go_roundg (n - (k + 1))
      case measure => have := HGk.out; omega
      case rel => exact ⟨k + 1, rfl, by omega, by go_num, HN.out.1, HN.out.2⟩
    · obtain rfl : k = n := by omega
      clear Z1 Z2 HZ
      have hf5 := xrL_length X Y k k
      have hv5 := xrL_val X Y k hfZ1 hfZ2
      generalize xrL X Y k k = XY at Z5 hf5 hv5
      have HZ : Hid (Blk8 wr gZ5 XY ∧ Blk8 wr gZ6 (xrL U V P 0)) := ⟨Z5, by rw [xrL_zero]; exact Z6⟩
      have hl6 := Z6.lt
      obtain ⟨W0, rfl⟩ : ∃ W0, W0 = wr := ⟨_, rfl⟩
      have HO := Lib.hid hO
      clear Z5 Z6 hO
      go_wp2_with fail
      go_loopg [26] P (fun gh s26 wx => ∃ (i : Nat), gh = P - i ∧ i ≤ P ∧ s26 = .int .i64 (i : Int) ∧ Hid (Blk8 wx gZ5 XY ∧ Blk8 wx gZ6 (xrL U V P i)) ∧ Below gZ5 w9 wx)
      case atStart => exact ⟨0, rfl, Nat.zero_le _, rfl, HZ, HO.out⟩
      case round =>
        clear HZ
        obtain ⟨i, hg, hi, rfl, HZ, hO⟩ := hrel
        have HGi := Lib.hid hg
        clear hg
        obtain ⟨Z5, Z6⟩ := HZ.out
        have Z3 := (hO.block gZ3 hl3).trans HS.out.2.2.2.2.1
        have Z4 := (hO.block gZ4 hl4).trans HS.out.2.2.2.2.2.1
        by_cases hlt : i < P
        · have x1 : (i : Int) < (P : Int) := by omega
          have x0 : (0 : Int) ≤ (i : Int) := by omega
          have d1 := Blk8.cell Z3 (i := i) (by omega)
          have d2 := Blk8.cell Z4 (i := i) (by omega)
          have d3 := Z6.cell (i := i) (by rw [xrL_length]; exact hlt)
          have d4 := Z6.free i
          have hx := Bits32.bxor (nth8 U i) (nth8 V i)
          have o4 := Only.setCell wr ⟨gZ6, i, none⟩ (.int .u8 (Bits32.b (nth8 U i ^^^ nth8 V i)))
          have hs := Z6.set i (nth8 U i ^^^ nth8 V i)
          rw [xrL_set U V P i hlt] at hs
          have HN : Hid ((Blk8 (wr.setCell ⟨gZ6, i, none⟩ (.int .u8 (Bits32.b (nth8 U i ^^^ nth8 V i)))).drew gZ5 XY ∧ Blk8 (wr.setCell ⟨gZ6, i, none⟩ (.int .u8 (Bits32.b (nth8 U i ^^^ nth8 V i)))).drew gZ6 (xrL U V P (i + 1))) ∧ Below gZ5 w9 (wr.setCell ⟨gZ6, i, none⟩ (.int .u8 (Bits32.b (nth8 U i ^^^ nth8 V i)))).drew) :=
            ⟨⟨(o4.block gZ5 hm5).trans Z5, hs⟩, (hO.trans (o4.below (Nat.le_of_lt hl5))).drew⟩
          generalize Bits32.b (nth8 U i ^^^ nth8 V i) = nv at hx HN
          generalize Bits32.b (nth8 U i) = v1 at hx d1
          generalize Bits32.b (nth8 V i) = v2 at hx d2
          clear Z3 Z4 Z5 Z6 HZ o4 hs hO
          go_wp2_with fail
          go_region
          go_wp2_with fail
          go_roundg (P - (i + 1))
          case measure => have := HGi.out; omega
          case rel => exact ⟨i + 1, rfl, by omega, by go_num, HN.out.1, HN.out.2⟩
        · obtain rfl : i = P := by omega
          obtain ⟨EC, C, Z1, Z2, Z3, Z4, B⟩ := HS.out
          rw [HG5.out] at hO
          replace C := C.below hO
          replace Z1 := keepZ Z1 hO
          replace Z2 := keepZ Z2 hO
          replace Z3 := keepZ Z3 hO
          replace Z4 := keepZ Z4 hO
          replace B := B.trans (hO.mono B.size)
          have hf6 := xrL_length U V i i
          have hv6 := xrL_val U V i hfZ3 hfZ4
          generalize xrL U V i i = UV at Z6 hf6 hv6
          clear HZ hO HS EC
          obtain ⟨w12, rfl⟩ : ∃ w12, w12 = wr := ⟨_, rfl⟩
          go_wp2_with fail
          obtain rfl := HPB.out
          obtain rfl := HD.out
          have hE := ev_mod (m := m) (t := t) (X := val X) (Y := val Y) (U := val U) (V := val V)
          rw [← hv5, ← hv6] at hE
          refine (of_any (m := m) ht1 ht40 w12 s C _ k X (blk_pol Z1 hfZ1.symm (by omega)) hn2 _ (pb (deg m t)) U (blk_pol Z3 hfZ3.symm (by omega))).mono ?_
          rintro e w13 ⟨gI7, rfl, I7, b, _⟩
          replace C := C.below b
          replace Z1 := keepZ Z1 b
          replace Z2 := keepZ Z2 b
          replace Z3 := keepZ Z3 b
          replace Z4 := keepZ Z4 b
          replace Z5 := keepZ Z5 b
          replace Z6 := keepZ Z6 b
          replace B := B.trans (b.mono B.size)
          clear b
          go_wp2_with fail
          refine (of_any (m := m) ht1 ht40 w13 s C _ k Y (blk_pol Z2 hfZ2.symm (by omega)) hn2 _ (pb (deg m t)) V (blk_pol Z4 hfZ4.symm (by omega))).mono ?_
          rintro e w14 ⟨gI8, rfl, I8, b, _⟩
          replace C := C.below b
          replace Z1 := keepZ Z1 b
          replace Z2 := keepZ Z2 b
          replace Z3 := keepZ Z3 b
          replace Z4 := keepZ Z4 b
          replace Z5 := keepZ Z5 b
          replace Z6 := keepZ Z6 b
          replace I7 := keepI I7 b
          replace B := B.trans (b.mono B.size)
          clear b
          go_wp2_with fail
          refine (of_any (m := m) ht1 ht40 w14 s C _ k XY (blk_pol Z5 hf5.symm (by omega)) hn2 _ (pb (deg m t)) UV (blk_pol Z6 hf6.symm (by omega))).mono ?_
          rintro e w15 ⟨gI9, rfl, I9, b, _⟩
          replace C := C.below b
          replace Z1 := keepZ Z1 b
          replace Z2 := keepZ Z2 b
          replace Z3 := keepZ Z3 b
          replace Z4 := keepZ Z4 b
          replace Z5 := keepZ Z5 b
          replace Z6 := keepZ Z6 b
          replace I7 := keepI I7 b
          replace I8 := keepI I8 b
          replace B := B.trans (b.mono B.size)
          clear b
          go_wp2_with fail
          rw [hE] at I9
          generalize ev m t (val X) (val U) % 2 ^ deg m t = e1 at I7 I9
          generalize ev m t (val Y) (val V) % 2 ^ deg m t = e2 at I8 I9
          refine (add_of (m := m) I7 I8 (by omega)).mono ?_
          rintro e w16 ⟨g10, rfl, I10, b⟩
          replace C := C.below b
          replace Z1 := keepZ Z1 b
          replace Z2 := keepZ Z2 b
          replace Z3 := keepZ Z3 b
          replace Z4 := keepZ Z4 b
          replace Z5 := keepZ Z5 b
          replace Z6 := keepZ Z6 b
          replace I7 := keepI I7 b
          replace I8 := keepI I8 b
          replace I9 := keepI I9 b
          replace B := B.trans (b.mono B.size)
          clear b
          go_wp2_with fail
          refine (same_of (m := m) I10 I9 (by omega)).mono ?_
          rintro e w17 ⟨rfl, d⟩
          rw [decide_eq_true rfl]
          have b := d.below w16.heap.size
          clear d
          replace C := C.below b
          replace Z1 := keepZ Z1 b
          replace Z2 := keepZ Z2 b
          replace Z3 := keepZ Z3 b
          replace Z4 := keepZ Z4 b
          replace Z5 := keepZ Z5 b
          replace Z6 := keepZ Z6 b
          replace I7 := keepI I7 b
          replace I8 := keepI I8 b
          replace I9 := keepI I9 b
          replace I10 := keepI I10 b
          replace B := B.trans (b.mono B.size)
          clear b
          go_wp2_with fail
          refine (field_code (m := m) w17 s C).mono ?_
          rintro e w' ⟨⟨f, be, ce, bl, rfl, F⟩, rfl⟩
          go_wp2_with fail
          refine (fits_of (m := m) F I9 (by omega)).mono ?_
          rintro e w18 ⟨rfl, d⟩
          have b := d.below w17.heap.size
          clear d F
          replace C := C.below b
          replace Z1 := keepZ Z1 b
          replace Z2 := keepZ Z2 b
          replace Z3 := keepZ Z3 b
          replace Z4 := keepZ Z4 b
          replace Z5 := keepZ Z5 b
          replace Z6 := keepZ Z6 b
          replace I7 := keepI I7 b
          replace I8 := keepI I8 b
          replace I9 := keepI I9 b
          replace I10 := keepI I10 b
          replace B := B.trans (b.mono B.size)
          clear b
          go_wp2_with fail
          clear C Z1 Z2 Z3 Z4 Z5 Z6 I7 I8 I9 I10
          go_ret
          exact ⟨rfl, B⟩

theorem walk (a0 a1 a2 : Int) (a3 : Option Addr) (len3 cap3 : Nat) (z3 : List Int) (a4 : Option Addr) (len4 cap4 : Nat) (z4 : List Int) (a5 : Option Addr) (len5 cap5 : Nat) (z5 : List Int) (a6 : Option Addr) (len6 cap6 : Nat) (z6 : List Int) (W : World) (w0 : (Lit.int .i64 a0).wf = true) (w1 : (Lit.int .i64 a1).wf = true) (w2 : (Lit.int .i64 a2).wf = true) (w3 : IsRow .u8 W a3 len3 cap3 z3) (w4 : IsRow .u8 W a4 len4 cap4 z4) (w5 : IsRow .u8 W a5 len5 cap5 z5) (w6 : IsRow .u8 W a6 len6 cap6 z6) (h : LaidSyndromeAdds.Holds W) :
    Calls Tryd.prog 5 #[.int .i64 a0, .int .i64 a1, .int .i64 a2, .slice a3 len3 cap3, .slice a4 len4 cap4, .slice a5 len5 cap5, .slice a6 len6 cap6] W fun e w' => e = .returned (.bool true) ∧ Below W.heap.size W w' := by
  obtain ⟨f, ⟨E0, E1, E2, E3⟩, _⟩ := h
  obtain ⟨l3, h3⟩ := row_pol w3
  obtain ⟨l4, h4⟩ := row_pol w4
  obtain ⟨l5, h5⟩ := row_pol w5
  obtain ⟨l6, h6⟩ := row_pol w6
  exact core a0 a1 a2 a3 len3 cap3 l3 a4 len4 cap4 l4 a5 len5 cap5 l5 a6 len6 cap6 l6 W _ _ E3 E1 h3 h4 h5 h6
end Go.Proofs.YthhhpaiednpdkaaDoor.walkSyndromeAdds
