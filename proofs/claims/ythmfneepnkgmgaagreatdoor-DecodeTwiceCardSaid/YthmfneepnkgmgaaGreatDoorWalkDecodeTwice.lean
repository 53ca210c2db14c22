/- The walk over DecodeTwice. By the verifier of shale. -/
import Derived.Test.YthmfneepnkgmgaaGreatDoorGreat1
import Derived.Test.YthmfneepnkgmgaaGreatDoorGreat2
import Derived.Test.YthmfneepnkgmgaaGreatDoorGreat3
import Derived.Test.YthmfneepnkgmgaaGreatDoorGreat4
import Derived.Test.YthmfneepnkgmgaaGreatDoorGreat5
import Derived.Test.YthmfneepnkgmgaaGreatDoorGreat6
import Derived.Test.YthmfneepnkgmgaaGreatDoorLaidDecodeTwice
import Derived.Deep.Cut
namespace Go.Proofs.YthmfneepnkgmgaaGreatDoor.walkDecodeTwice
open Go Go.RowKit Bin Pl Cos Enc Syn Loc Sea Dec
set_option linter.unusedVariables false
set_option maxRecDepth 100000 in
set_option maxHeartbeats 4000000 in
theorem core (z1 z2 z3 : Int) (a : Option Addr) (na ca : Nat) (l : List (BitVec 8)) (a' : Option Addr) (nb cb : Nat) (l' : List (BitVec 8)) (w : World) (yc ym yz : Addr)
    (EC : ErrAt w 3 yc) (EM : ErrAt w 1 ym) (EZ : ErrAt w 5 yz) (A1 : Pol w a na ca l) (A2 : Pol w a' nb cb l') :
    Calls Tryz.prog 8 #[.int .i64 z1, .int .i64 z2, .int .i64 z3, .slice a na ca, .slice a' nb cb] w fun e w' => e = .returned (.bool true) ∧ Below w.heap.size w w' := by
  go_enter Tryz.func8, Tryz.ntmps8
  go_wp2_with fail
  refine (firstD_any w EC EM EZ).mono ?_
  rintro e w1 ⟨rfl, b⟩
  have B := b
  replace EC := EC.below b
  replace EM := EM.below b
  replace EZ := EZ.below b
  replace A1 := A1.below b
  replace A2 := A2.below b
  clear b
  go_wp2_with fail
  refine (madeD_any z1 z2 z3 w1 yc EC).mono ?_
  rintro e w2 ⟨m, t, n, M, s, db, ga, gn, gc, hm5, hm8, ht5, hn12, hmay, rfl, DA, C, G, b⟩
  haveI := M
  replace EC := EC.below b
  replace EM := EM.below b
  replace EZ := EZ.below b
  replace A1 := A1.below b
  replace A2 := A2.below b
  replace B := B.trans (b.mono B.size)
  clear b
  clear G EC
  have ht1 := hmay.t1
  have ht40 := hmay.t2
  have hn1 := hmay.n1
  have hn2 := hmay.n2
  have hroom := hmay.room
  have hDpos := deg_pos M.lo ht1
  have hD40 : deg m t ≤ 40 := by
    have h1 := deg_le M.lo t
    have h2 : m * t ≤ 8 * 5 := Nat.mul_le_mul hm8 ht5
    omega
  have hRm : 8 * n + deg m t ≤ Fld.size m := hroom
  have hP0 : pb (deg m t) = (deg m t + 7) / 8 := rfl
  have hP8 : pb (deg m t) ≤ 5 := by omega
  have hP1 : 0 < pb (deg m t) := by omega
  clear hP0
  go_wp2_with fail
  generalize hw : w2.alloc (.cells #[.int .i64 (m : Int), .int .i64 (t : Int), .int .i64 (n : Int), .slice ga gn gc, .int .i64 (deg m t : Int)] 26 (0, 0)) = w3
  obtain ⟨K, b⟩ := newCd w2 w3 _ _ _ _ _ hw
  clear hw
  replace DA := keepB DA b
  replace EM := EM.below b
  replace EZ := EZ.below b
  replace A1 := A1.below b
  replace A2 := A2.below b
  replace C := C.below b
  replace B := B.trans (b.mono B.size)
  clear b
  obtain ⟨bq, hbq⟩ : ∃ bq, bq = w2.heap.size := ⟨_, rfl⟩
  rw [← hbq] at K ⊢
  clear hbq
  refine (fitD_any a na ca l (n) (by omega) w3 A1).mono ?_
  rintro e w4 ⟨rfl, Z1, b⟩
  have hfZ1 := fitL_length l (n)
  obtain ⟨X, hX⟩ : ∃ X, X = fitL l (n) := ⟨_, rfl⟩
  rw [← hX] at Z1 hfZ1
  have HX := Lib.hid hX
  obtain ⟨gZ1, hgZ1⟩ : ∃ gZ1, gZ1 = w3.heap.size := ⟨_, rfl⟩
  rw [← hgZ1] at Z1 ⊢
  clear hgZ1 hX
  replace DA := keepB DA b
  replace EM := EM.below b
  replace EZ := EZ.below b
  replace A1 := A1.below b
  replace A2 := A2.below b
  replace C := C.below b
  replace K := keepB K b
  replace B := B.trans (b.mono B.size)
  clear b
  obtain ⟨c0, c1, c2, c3, c4, _⟩ := cd_cells K
  go_wp2_with fail
  clear c0 c1 c2 c3 c4
  refine (rparity_any m t n ga gn gc (deg m t) (by omega) w4).mono ?_
  rintro e w5 ⟨rfl, b⟩
  replace DA := keepB DA b
  replace EM := EM.below b
  replace EZ := EZ.below b
  replace A1 := A1.below b
  replace A2 := A2.below b
  replace C := C.below b
  replace K := keepB K b
  replace Z1 := keepZ Z1 b
  replace B := B.trans (b.mono B.size)
  clear b
  obtain ⟨c0, c1, c2, c3, c4, _⟩ := cd_cells K
  go_wp2_with fail
  clear c0 c1 c2 c3 c4
  refine (fitD_any a' nb cb l' (pb (deg m t)) (by omega) w5 A2).mono ?_
  rintro e w6 ⟨rfl, Z2, b⟩
  have hfZ2 := fitL_length l' (pb (deg m t))
  obtain ⟨Y, hY⟩ : ∃ Y, Y = fitL l' (pb (deg m t)) := ⟨_, rfl⟩
  rw [← hY] at Z2 hfZ2
  have HY := Lib.hid hY
  obtain ⟨gZ2, hgZ2⟩ : ∃ gZ2, gZ2 = w5.heap.size := ⟨_, rfl⟩
  rw [← hgZ2] at Z2 ⊢
  clear hgZ2 hY
  replace DA := keepB DA b
  replace EM := EM.below b
  replace EZ := EZ.below b
  replace A1 := A1.below b
  replace A2 := A2.below b
  replace C := C.below b
  replace K := keepB K b
  replace Z1 := keepZ Z1 b
  replace B := B.trans (b.mono B.size)
  clear b
  obtain ⟨c0, c1, c2, c3, c4, _⟩ := cd_cells K
  go_wp2_with fail
  clear c0 c1 c2 c3 c4
  cases hd : dec m t (8 * n + deg m t) (wd m t (val X) (val Y))
  case none =>
    refine (decode_any (m := m) ⟨DA, C, EM, EZ, ht1, ht40, hn1, hn2, hRm⟩ (blk_pol Z1 hfZ1.symm (by omega)) (blk_pol Z2 hfZ2.symm (by omega))).mono ?_
    rintro e w7 ⟨b, hq⟩
    rw [hd] at hq
    obtain rfl := hq
    replace DA := keepB DA b
    replace EM := EM.below b
    replace EZ := EZ.below b
    replace A1 := A1.below b
    replace A2 := A2.below b
    replace C := C.below b
    replace K := keepB K b
    replace Z1 := keepZ Z1 b
    replace Z2 := keepZ Z2 b
    replace B := B.trans (b.mono B.size)
    clear b
    obtain ⟨c0, c1, c2, c3, c4, _⟩ := cd_cells K
    go_wp2_with fail
    clear c0 c1 c2 c3 c4
    refine (decode_any (m := m) ⟨DA, C, EM, EZ, ht1, ht40, hn1, hn2, hRm⟩ (blk_pol Z1 hfZ1.symm (by omega)) (blk_pol Z2 hfZ2.symm (by omega))).mono ?_
    rintro e w8 ⟨b, hq⟩
    rw [hd] at hq
    obtain rfl := hq
    replace DA := keepB DA b
    replace EM := EM.below b
    replace EZ := EZ.below b
    replace A1 := A1.below b
    replace A2 := A2.below b
    replace C := C.below b
    replace K := keepB K b
    replace Z1 := keepZ Z1 b
    replace Z2 := keepZ Z2 b
    replace B := B.trans (b.mono B.size)
    clear b
    have em := EM.1
    unfold Sent at em
    have q1 := eql_err ym
    clear hd
    obtain ⟨c0, c1, c2, c3, c4, _⟩ := cd_cells K
    go_wp2_with fail
    go_ret
    exact ⟨rfl, B⟩
  case some l0 =>
    have hym : val Y % 2 ^ deg m t < 2 ^ deg m t := Nat.mod_lt _ (Nat.two_pow_pos _)
    obtain ⟨e0, V, he, hl, hp, hw⟩ := dec_right (m := m) (t := t) (X := val X) hRm ht40 hym hd
    clear hd hl
    have HNr := near_any (m := m) ⟨DA, C, EM, EZ, ht1, ht40, hn1, hn2, hRm⟩ (blk_pol Z1 hfZ1.symm (by omega)) (blk_pol Z2 hfZ2.symm (by omega)) (V := V) he hp hw
    clear he hp hw hym
    refine (HNr).mono ?_
    rintro e w7 ⟨b, d1, e1, X1, d2, e2, Y1, d3, e3, rfl, N1, N2, _, v1, v2⟩
    clear HNr
    have HV := Lib.hid (And.intro v1 v2)
    have HR : Hid (byN (par m t (val X1)) (pb (deg m t)) = Y1) := len_inj (by rw [byN_length]; exact N2.hlen) (by rw [val_byN (pb_room (par_lt t _)), v2, v1])
    clear v1 v2
    obtain ⟨pe, hpe⟩ : ∃ pe, pe = pop e0 (8 * n + deg m t) := ⟨_, rfl⟩
    rw [← hpe]
    clear hpe
    replace DA := keepB DA b
    replace EM := EM.below b
    replace EZ := EZ.below b
    replace A1 := A1.below b
    replace A2 := A2.below b
    replace C := C.below b
    replace K := keepB K b
    replace Z1 := keepZ Z1 b
    replace Z2 := keepZ Z2 b
    replace B := B.trans (b.mono B.size)
    clear b
    obtain ⟨c0, c1, c2, c3, c4, _⟩ := cd_cells K
    go_wp2_with fail
    clear c0 c1 c2 c3 c4
    have HNr := near_any (m := m) ⟨DA, C, EM, EZ, ht1, ht40, hn1, hn2, hRm⟩ N1.pol N2.pol (V := V) (e := 0) (Nat.two_pow_pos _) (by rw [pop_zero]; exact Nat.zero_le _) (by rw [HV.out.1, HV.out.2]; exact wd_right (Nat.mod_eq_of_lt (par_lt t V)))
    unfold NearPost at HNr
    rw [pop_zero] at HNr
    refine HNr.mono ?_
    obtain ⟨w60, hw60⟩ : ∃ w60, w60 = w7 := ⟨_, rfl⟩
    rintro e w50 ⟨b, f1, p1, X2, f2, p2, Y2, f3, p3, rfl, N3, N4, _, v1, v2⟩
    clear HNr
    obtain rfl : X2 = X1 := len_inj (by have := N3.hlen; have := N1.hlen; omega) (by rw [v1, HV.out.1])
    obtain rfl : Y2 = Y1 := len_inj (by have := N4.hlen; have := N2.hlen; omega) (by rw [v2, HV.out.2])
    clear v1 v2
    have hX2 := Lib.hid N3.hlen
    obtain ⟨gw, rfl, hgw, hBuf⟩ := newP_block N3 hn1
    have P1 := N1.pol
    have P2 := N2.pol
    have HSb : Hid (CodeAt m t n w7 s ∧ decAt w7 db s ∧ w7.heap[bq]? = some (cdO (.int .i64 (m : Int)) (.int .i64 (t : Int)) (.int .i64 (n : Int)) (.slice ga gn gc) (.int .i64 (deg m t : Int))) ∧ Blk8 w7 gZ1 X ∧ Blk8 w7 gZ2 Y ∧ Pol w7 d1 n e1 X2 ∧ Pol w7 d2 (pb (deg m t)) e2 Y2 ∧ Pol w7 a na ca l ∧ Pol w7 a' nb cb l' ∧ Below w.heap.size w w7 ∧ Below w7.heap.size w7 w50) := ⟨C, DA, K, Z1, Z2, P1, P2, A1, A2, B, b⟩
    rw [← hw60] at HSb hgw
    clear hw60 P1 P2
    replace DA := keepB DA b
    replace C := C.below b
    replace K := keepB K b
    replace EM := EM.below b
    replace EZ := EZ.below b
    replace A1 := A1.below b
    replace A2 := A2.below b
    replace Z1 := keepZ Z1 b
    replace Z2 := keepZ Z2 b
    replace N1 := NewP.keep N1 b
    replace N2 := NewP.keep N2 b
    replace B := B.trans (b.mono B.size)
    clear b
    clear EM EZ
    obtain ⟨c0, c1, c2, c3, c4, _⟩ := cd_cells K
    go_wp2_with fail
    clear c0 c1 c2 c3 c4
    refine (sameB (newP_bytes N3) (newP_bytes N1)).mono ?_
    rintro e w' ⟨rfl, rfl⟩
    rw [decide_eq_true rfl]
    obtain ⟨c0, c1, c2, c3, c4, _⟩ := cd_cells K
    go_wp2_with fail
    clear c0 c1 c2 c3 c4
    refine (sameB (newP_bytes N4) (newP_bytes N2)).mono ?_
    rintro e w' ⟨rfl, rfl⟩
    rw [decide_eq_true rfl]
    obtain ⟨c0, c1, c2, c3, c4, _⟩ := cd_cells K
    go_wp2_with fail
    clear c0 c1 c2 c3 c4
    clear C DA K A1 A2 Z1 Z2 N1 N2 N3 N4 B
    have HI0 : Hid (Buf8 w50 gw X2 ∧ X2.length = n ∧ Below w60.heap.size w50 w50) := ⟨hBuf, hX2.out.symm, Below.refl _ _⟩
    clear hBuf
    go_loopg [30] n (fun gh s30 wx => ∃ (i : Nat) (Xi : List (BitVec 8)), gh = n - i ∧ i ≤ n ∧ s30 = .int .i64 (i : Int) ∧ Hid (Buf8 wx gw Xi ∧ Xi.length = n ∧ Below w60.heap.size w50 wx))
    case atStart => exact ⟨0, X2, rfl, Nat.zero_le _, rfl, HI0⟩
    case round =>
      clear HI0
      obtain ⟨i, Xi, hg, hi, rfl, HI⟩ := hrel
      have HGh := Lib.hid hg
      clear hg
      obtain ⟨w51, rfl⟩ : ∃ w51, w51 = wr := ⟨_, rfl⟩
      by_cases hl : i < n
      · have y1 : (i : Int) < (n : Int) := by omega
        have y0 : (0 : Int) ≤ (i : Int) := by omega
        have y2 : decide ((i : Int) < (n : Int)) = true := decide_eq_true y1
        have HJ := Lib.hid hl
        have hBi := HI.out.1
        have q1 := hBi.cell i (by rw [HI.out.2.1]; exact hl)
        have q2 := hBi.free i
        generalize Bits32.b (nth8 Xi i) = z0 at q1
        have HI2 : Hid (Buf8 (w51.setCell ⟨gw, i, none⟩ (.int .u8 238)) gw (Xi.set i 238#8) ∧ (Xi.set i 238#8).length = n ∧ Below w60.heap.size w50 (w51.setCell ⟨gw, i, none⟩ (.int .u8 238))) :=
          ⟨hBi.set i (by rw [HI.out.2.1]; exact hl) 238#8, by rw [List.length_set]; exact HI.out.2.1, HI.out.2.2.setCell hgw _⟩
        clear hBi hl HI
        go_wp2_with fail
        go_roundg (n - (i + 1))
        case measure => have := HGh.out; have := HJ.out; omega
        case rel => exact ⟨i + 1, _, rfl, HJ.out, by go_num, HI2⟩
      · have y1 : ¬ (i : Int) < (n : Int) := by omega
        have y2 : decide ((i : Int) < (n : Int)) = false := decide_eq_false y1
        obtain ⟨C, DA, K, Z1, Z2, A3, A4, A1, A2, B, b⟩ := HSb.out
        replace b := b.trans (HI.out.2.2)
        clear hl HI HSb
        replace DA := keepB DA b
        replace C := C.below b
        replace K := keepB K b
        replace A1 := A1.below b
        replace A2 := A2.below b
        replace A3 := A3.below b
        replace A4 := A4.below b
        replace Z1 := keepZ Z1 b
        replace Z2 := keepZ Z2 b
        replace B := B.trans (b.mono B.size)
        clear b
        obtain ⟨c0, c1, c2, c3, c4, _⟩ := cd_cells K
        go_wp2_with fail
        clear c0 c1 c2 c3 c4
        refine (codeD_any DA).mono ?_
        rintro e w' ⟨rfl, rfl⟩
        obtain ⟨c0, c1, c2, c3, c4, _⟩ := cd_cells K
        go_wp2_with fail
        clear c0 c1 c2 c3 c4
        refine ((by have h := right_any (m := m) ht1 ht40 w51 s C _ _ X2 A3 hn2 _ _ _ Y2 A4; rw [decide_eq_true HR.out] at h; exact h : Calls Tryz.prog 27 #[.pointer (some ⟨s, 0, none⟩), .slice d1 n e1, .slice d2 (pb (deg m t)) e2] w51 fun e w' => e = .returned (.bool true) ∧ Below (World.heap w51).size w51 w')).mono ?_
        rintro e w52 ⟨rfl, b⟩
        replace DA := keepB DA b
        replace C := C.below b
        replace K := keepB K b
        replace A1 := A1.below b
        replace A2 := A2.below b
        replace A3 := A3.below b
        replace A4 := A4.below b
        replace Z1 := keepZ Z1 b
        replace Z2 := keepZ Z2 b
        replace B := B.trans (b.mono B.size)
        clear b
        obtain ⟨c0, c1, c2, c3, c4, _⟩ := cd_cells K
        go_wp2_with fail
        clear c0 c1 c2 c3 c4
        refine (fitD_any a na ca l n (by omega) w52 A1).mono ?_
        rintro e w53 ⟨rfl, Z3, b⟩
        rw [← HX.out] at Z3
        replace DA := keepB DA b
        replace C := C.below b
        replace K := keepB K b
        replace A1 := A1.below b
        replace A2 := A2.below b
        replace A3 := A3.below b
        replace A4 := A4.below b
        replace Z1 := keepZ Z1 b
        replace Z2 := keepZ Z2 b
        replace B := B.trans (b.mono B.size)
        clear b
        obtain ⟨c0, c1, c2, c3, c4, _⟩ := cd_cells K
        go_wp2_with fail
        clear c0 c1 c2 c3 c4
        refine (sameB (blk_arg Z1 hfZ1.symm) (blk_arg Z3 hfZ1.symm)).mono ?_
        rintro e w' ⟨rfl, rfl⟩
        rw [decide_eq_true rfl]
        obtain ⟨c0, c1, c2, c3, c4, _⟩ := cd_cells K
        go_wp2_with fail
        clear c0 c1 c2 c3 c4
        refine (rparity_any m t n ga gn gc (deg m t) (by omega) w53).mono ?_
        rintro e w54 ⟨rfl, b⟩
        replace DA := keepB DA b
        replace C := C.below b
        replace K := keepB K b
        replace A1 := A1.below b
        replace A2 := A2.below b
        replace A3 := A3.below b
        replace A4 := A4.below b
        replace Z1 := keepZ Z1 b
        replace Z2 := keepZ Z2 b
        replace Z3 := keepZ Z3 b
        replace B := B.trans (b.mono B.size)
        clear b
        obtain ⟨c0, c1, c2, c3, c4, _⟩ := cd_cells K
        go_wp2_with fail
        clear c0 c1 c2 c3 c4
        refine (fitD_any a' nb cb l' (pb (deg m t)) (by omega) w54 A2).mono ?_
        rintro e w55 ⟨rfl, Z4, b⟩
        rw [← HY.out] at Z4
        replace DA := keepB DA b
        replace C := C.below b
        replace K := keepB K b
        replace A1 := A1.below b
        replace A2 := A2.below b
        replace A3 := A3.below b
        replace A4 := A4.below b
        replace Z1 := keepZ Z1 b
        replace Z2 := keepZ Z2 b
        replace Z3 := keepZ Z3 b
        replace B := B.trans (b.mono B.size)
        clear b
        obtain ⟨c0, c1, c2, c3, c4, _⟩ := cd_cells K
        go_wp2_with fail
        clear c0 c1 c2 c3 c4
        refine (sameB (blk_arg Z2 hfZ2.symm) (blk_arg Z4 hfZ2.symm)).mono ?_
        rintro e w' ⟨rfl, rfl⟩
        rw [decide_eq_true rfl]
        go_wp2_with fail
        go_ret
        exact ⟨rfl, B⟩
theorem walk (a0 a1 a2 : Int) (a3 : Option Addr) (len3 cap3 : Nat) (z3 : List Int) (a4 : Option Addr) (len4 cap4 : Nat) (z4 : List Int) (W : World) (w0 : (Lit.int .i64 a0).wf = true) (w1 : (Lit.int .i64 a1).wf = true) (w2 : (Lit.int .i64 a2).wf = true) (w3 : IsRow .u8 W a3 len3 cap3 z3) (w4 : IsRow .u8 W a4 len4 cap4 z4) (h : LaidDecodeTwice.Holds W) :
    Calls Tryz.prog 8 #[.int .i64 a0, .int .i64 a1, .int .i64 a2, .slice a3 len3 cap3, .slice a4 len4 cap4] W fun e w' => e = .returned (.bool true) ∧ Below W.heap.size W w' := by
  obtain ⟨f, ⟨E0, E1, E2, E3, E4, E5⟩, _⟩ := h
  obtain ⟨l3, h3⟩ := row_pol w3
  obtain ⟨l4, h4⟩ := row_pol w4
  exact core a0 a1 a2 a3 len3 cap3 l3 a4 len4 cap4 l4 W _ _ _ E4 E5 E2 h3 h4
end Go.Proofs.YthmfneepnkgmgaaGreatDoor.walkDecodeTwice
