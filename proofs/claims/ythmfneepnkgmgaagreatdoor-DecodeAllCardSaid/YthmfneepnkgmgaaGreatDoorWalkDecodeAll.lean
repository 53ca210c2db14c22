/- The walk over DecodeAll. By the verifier of shale. -/
import Derived.Test.YthmfneepnkgmgaaGreatDoorGreat1
import Derived.Test.YthmfneepnkgmgaaGreatDoorGreat2
import Derived.Test.YthmfneepnkgmgaaGreatDoorGreat3
import Derived.Test.YthmfneepnkgmgaaGreatDoorGreat4
import Derived.Test.YthmfneepnkgmgaaGreatDoorGreat5
import Derived.Test.YthmfneepnkgmgaaGreatDoorGreat6
import Derived.Test.YthmfneepnkgmgaaGreatDoorLaidDecodeAll
import Derived.Deep.Cut
namespace Go.Proofs.YthmfneepnkgmgaaGreatDoor.walkDecodeAll
open Go Go.RowKit Bin Pl Cos Enc Syn Loc Sea Dec
set_option linter.unusedVariables false
set_option maxRecDepth 100000 in
set_option maxHeartbeats 4000000 in
theorem core (z1 z2 z3 : Int) (a : Option Addr) (na ca : Nat) (l : List (BitVec 8)) (w : World) (yc ym yz : Addr)
    (EC : ErrAt w 3 yc) (EM : ErrAt w 1 ym) (EZ : ErrAt w 5 yz) (A1 : Pol w a na ca l) :
    Calls Tryz.prog 9 #[.int .i64 z1, .int .i64 z2, .int .i64 z3, .slice a na ca] w fun e w' => e = .returned (.bool true) ∧ Below w.heap.size w w' := by
  go_enter Tryz.func9, Tryz.ntmps9
  go_wp2_with fail
  refine (firstD_any w EC EM EZ).mono ?_
  rintro e w1 ⟨rfl, b⟩
  have B := b
  replace EC := EC.below b
  replace EM := EM.below b
  replace EZ := EZ.below b
  replace A1 := A1.below b
  clear b
  go_wp2_with fail
  refine (madeD_any z1 z2 z3 w1 yc EC).mono ?_
  rintro e w2 ⟨m, t, n, M, s, db, ga, gn, gc, hm5, hm8, ht5, hn12, hmay, rfl, DA, C, G, b⟩
  haveI := M
  replace EC := EC.below b
  replace EM := EM.below b
  replace EZ := EZ.below b
  replace A1 := A1.below b
  replace B := B.trans (b.mono B.size)
  clear b
  clear G EC
  have ht1 := hmay.t1
  have ht40 := hmay.t2
  have hn1 := hmay.n1
  have hn2 := hmay.n2
  have hroom := hmay.room
  have hDpos := deg_pos M.lo ht1
  have hD40 : deg m t ≤ 40 := by
    have h1 := deg_le M.lo t
    have h2 : m * t ≤ 8 * 5 := Nat.mul_le_mul hm8 ht5
    omega
  have hRm : 8 * n + deg m t ≤ Fld.size m := hroom
  have hP0 : pb (deg m t) = (deg m t + 7) / 8 := rfl
  have hP8 : pb (deg m t) ≤ 5 := by omega
  have hP1 : 0 < pb (deg m t) := by omega
  clear hP0
  go_wp2_with fail
  generalize hw : w2.alloc (.cells #[.int .i64 (m : Int), .int .i64 (t : Int), .int .i64 (n : Int), .slice ga gn gc, .int .i64 (deg m t : Int)] 26 (0, 0)) = w3
  obtain ⟨K, b⟩ := newCd w2 w3 _ _ _ _ _ hw
  clear hw
  replace DA := keepB DA b
  replace EM := EM.below b
  replace EZ := EZ.below b
  replace A1 := A1.below b
  replace C := C.below b
  replace B := B.trans (b.mono B.size)
  clear b
  obtain ⟨bq, hbq⟩ : ∃ bq, bq = w2.heap.size := ⟨_, rfl⟩
  rw [← hbq] at K ⊢
  clear hbq
  refine (fitD_any a na ca l n (by omega) w3 A1).mono ?_
  rintro e w4 ⟨rfl, Z1, b⟩
  have hfZ1 := fitL_length l n
  generalize fitL l n = X at Z1 hfZ1
  obtain ⟨gZ1, hgZ1⟩ : ∃ gZ1, gZ1 = w3.heap.size := ⟨_, rfl⟩
  rw [← hgZ1] at Z1 ⊢
  clear hgZ1
  clear A1
  replace DA := keepB DA b
  replace EM := EM.below b
  replace EZ := EZ.below b
  replace C := C.below b
  replace K := keepB K b
  replace B := B.trans (b.mono B.size)
  clear b
  obtain ⟨c0, c1, c2, c3, c4, _⟩ := cd_cells K
  go_wp2_with fail
  clear c0 c1 c2 c3 c4
  refine (codeD_any DA).mono ?_
  rintro e w' ⟨rfl, rfl⟩
  obtain ⟨c0, c1, c2, c3, c4, _⟩ := cd_cells K
  go_wp2_with fail
  clear c0 c1 c2 c3 c4
  refine (fast_any (m := m) ht1 ht40 w4 s C _ n X (blk_pol Z1 hfZ1.symm (by omega)) hn2).mono ?_
  rintro e w5 ⟨g2, rfl, Z2, b, _⟩
  have hRl := par_lt (m := m) t (val X)
  have HQl := byN_length (par m t (val X)) (pb (deg m t))
  have HQv : val (byN (par m t (val X)) (pb (deg m t))) = par m t (val X) := val_byN (pb_room hRl)
  replace Z2 : Blk8 w5 g2 (byN (par m t (val X)) (pb (deg m t))) := Z2
  obtain ⟨Q, hQ⟩ : ∃ Q, Q = byN (par m t (val X)) (pb (deg m t)) := ⟨_, rfl⟩
  rw [← hQ] at Z2 HQl HQv
  clear hQ
  replace DA := keepB DA b
  replace EM := EM.below b
  replace EZ := EZ.below b
  replace C := C.below b
  replace K := keepB K b
  replace Z1 := keepZ Z1 b
  replace B := B.trans (b.mono B.size)
  clear b
  obtain ⟨c0, c1, c2, c3, c4, _⟩ := cd_cells K
  go_wp2_with fail
  clear c0 c1 c2 c3 c4
  obtain ⟨wa, rfl⟩ : ∃ wa, wa = w5 := ⟨_, rfl⟩
  obtain ⟨N, hN⟩ : ∃ N, N = 8 * n + deg m t := ⟨_, rfl⟩
  have HN := Lib.hid hN
  have hN2 : N ≤ 1000000 := by omega
  clear hN
  have HS : Hid (CodeAt m t n wa s ∧ decAt wa db s ∧ wa.heap[bq]? = some (cdO (.int .i64 (m : Int)) (.int .i64 (t : Int)) (.int .i64 (n : Int)) (.slice ga gn gc) (.int .i64 (deg m t : Int))) ∧ Blk8 wa gZ1 X ∧ Blk8 wa g2 Q ∧ ErrAt wa 1 ym ∧ ErrAt wa 5 yz ∧ Below w.heap.size w wa) := ⟨C, DA, K, Z1, Z2, EM, EZ, B⟩
  have HW0 : Hid (val Q < 2 ^ deg m t ∧ wrd (deg m t) (val X) (val Q) = wrd (deg m t) (val X) (par m t (val X)) ^^^ 0) := ⟨by rw [HQv]; exact hRl, by rw [HQv, Nat.xor_zero]⟩
  have HQ := Lib.hid HQv
  clear C DA K Z1 Z2 EM EZ B hRl HQv
  go_loopg [16] N (fun gh s16 wx => ∃ (k : Nat), gh = N - k ∧ k ≤ N ∧ s16 = .int .i64 (k : Int) ∧ Below wa.heap.size wa wx)
  case atStart => exact ⟨0, rfl, Nat.zero_le _, rfl, Below.refl _ _⟩
  case round =>
    obtain ⟨k, hg, hk, rfl, b⟩ := hrel
    have HGh := Lib.hid hg
    clear hg
    obtain ⟨C, DA, K, Z1, Z2, EM, EZ, B⟩ := HS.out
    have hb0 := b
    replace DA := keepB DA b
    replace C := C.below b
    replace K := keepB K b
    replace Z1 := keepZ Z1 b
    replace Z2 := keepZ Z2 b
    replace EM := EM.below b
    replace EZ := EZ.below b
    replace B := B.trans (b.mono B.size)
    clear b
    obtain ⟨w20, rfl⟩ : ∃ w20, w20 = wr := ⟨_, rfl⟩
    have B2 := hb0
    clear hb0
    obtain ⟨c0, c1, c2, c3, c4, _⟩ := cd_cells K
    go_wp2_with fail
    clear c0 c1 c2 c3 c4
    refine (rbits_any m t n ga gn gc (deg m t) (by omega) hn2 w20).mono ?_
    rintro e w21 ⟨rfl, b⟩
    rw [← HN.out]
    replace B2 := B2.trans (b.mono B2.size)
    replace DA := keepB DA b
    replace C := C.below b
    replace K := keepB K b
    replace Z1 := keepZ Z1 b
    replace Z2 := keepZ Z2 b
    replace EM := EM.below b
    replace EZ := EZ.below b
    replace B := B.trans (b.mono B.size)
    clear b
    by_cases hlt : k < N
    · have x1 : decide ((k : Int) < (N : Int)) = true := decide_eq_true (by omega)
      have hk2 : k < 8 * n + deg m t := by rw [← HN.out]; exact hlt
      have HI := Lib.hid hlt
      have y0 : (0 : Int) ≤ (k : Int) := by omega
      have y1 : (k : Int) < (N : Int) := by omega
      clear hlt
      obtain ⟨c0, c1, c2, c3, c4, _⟩ := cd_cells K
      go_wp2_with fail
      clear c0 c1 c2 c3 c4
      refine (codeD_any DA).mono ?_
      rintro e w' ⟨rfl, rfl⟩
      obtain ⟨c0, c1, c2, c3, c4, _⟩ := cd_cells K
      go_wp2_with fail
      clear c0 c1 c2 c3 c4
      refine (flip_any (m := m) ht1 ht40 w21 s C _ _ X (blk_pol Z1 hfZ1.symm (by omega)) hn2 _ _ Q (blk_pol Z2 HQl.symm (by omega)) k hk2).mono ?_
      rintro e w22 ⟨a1, p1, X1, a2, p2, Y1, rfl, N1, N2, hX1, hY1, b⟩
      have HW1 := Lib.hid (wd_turn (m := m) (k := k) HW0.out.1 HW0.out.2 (show val X1 = val X ^^^ ed (deg m t) k from hX1) (show val Y1 = val Q ^^^ ep (deg m t) k from hY1))
      clear hX1 hY1
      replace B2 := B2.trans (b.mono B2.size)
      replace DA := keepB DA b
      replace C := C.below b
      replace K := keepB K b
      replace Z1 := keepZ Z1 b
      replace Z2 := keepZ Z2 b
      replace EM := EM.below b
      replace EZ := EZ.below b
      replace B := B.trans (b.mono B.size)
      clear b
      by_cases h1t : t ≤ 1
      · have t1f : decide ((1 : Int) < (t : Int)) = false := decide_eq_false (by omega)
        have t1g : ¬ ((1 : Int) < (t : Int)) := by omega
        clear h1t
        obtain ⟨c0, c1, c2, c3, c4, _⟩ := cd_cells K
        go_wp2_with fail
        clear c0 c1 c2 c3 c4
        have hpl : plc (0 ^^^ 2 ^ k) (8 * n + deg m t) = [k] := by rw [Nat.zero_xor, plc_pow, if_pos hk2]
        have HPl := Lib.hid hpl
        have htc : [k].length ≤ t := ht1
        clear hpl
        refine (near_any (m := m) ⟨DA, C, EM, EZ, ht1, ht40, hn1, hn2, hRm⟩ N1.pol N2.pol (V := val X) (e := 0 ^^^ 2 ^ k) (by rw [Nat.zero_xor]; exact pow_lt2 hk2) (by rw [show pop _ _ = (plc _ _).length from rfl, HPl.out]; exact htc) (by rw [wd_of HW1.out.1]; exact HW1.out.2)).mono ?_
        rintro e w23 ⟨b, d1, e1, V1, d2, e2, V2, d3, e3, rfl, N5, N6, RL, v1, v2⟩
        obtain rfl : V1 = X := len_inj (by have := N5.hlen; omega) v1
        obtain rfl : V2 = Q := len_inj (by have := N6.hlen; omega) (by rw [HQ.out]; exact v2)
        clear v1 v2
        have hpe : pop (0 ^^^ 2 ^ k) (8 * n + deg m t) = 1 := by rw [show pop _ _ = (plc _ _).length from rfl, HPl.out]; rfl
        rw [hpe, HPl.out] at RL
        rw [hpe]
        clear hpe
        obtain ⟨lb, lo, rfl, l0, _⟩ := RL.row 0 (by decide)
        replace l0 : World.cell? w23 ⟨lb, lo, none⟩ = some (.int .i64 (k : Int)) := l0
        replace B2 := B2.trans (b.mono B2.size)
        replace DA := keepB DA b
        replace C := C.below b
        replace K := keepB K b
        replace Z1 := keepZ Z1 b
        replace Z2 := keepZ Z2 b
        replace EM := EM.below b
        replace EZ := EZ.below b
        replace N1 := NewP.keep N1 b
        replace N2 := NewP.keep N2 b
        replace B := B.trans (b.mono B.size)
        clear b
        obtain ⟨c0, c1, c2, c3, c4, _⟩ := cd_cells K
        go_wp2_with fail
        clear c0 c1 c2 c3 c4
        obtain ⟨c0, c1, c2, c3, c4, _⟩ := cd_cells K
        go_wp2_with fail
        clear c0 c1 c2 c3 c4
        refine (sameB (blk_arg Z1 hfZ1.symm) (newP_bytes N5)).mono ?_
        rintro e w' ⟨rfl, rfl⟩
        rw [decide_eq_true rfl]
        obtain ⟨c0, c1, c2, c3, c4, _⟩ := cd_cells K
        go_wp2_with fail
        clear c0 c1 c2 c3 c4
        refine (sameB (blk_arg Z2 HQl.symm) (newP_bytes N6)).mono ?_
        rintro e w' ⟨rfl, rfl⟩
        rw [decide_eq_true rfl]
        obtain ⟨c0, c1, c2, c3, c4, _⟩ := cd_cells K
        go_wp2_with fail
        clear c0 c1 c2 c3 c4
        go_roundg (N - (k + 1))
        case measure => have := HGh.out; have := HI.out; omega
        case rel => exact ⟨k + 1, rfl, HI.out, by go_num, B2⟩
      · skip
        have t1t : decide ((1 : Int) < (t : Int)) = true := decide_eq_true (by omega)
        have t1g : (1 : Int) < (t : Int) := by omega
        have HT := Lib.hid (show 2 ≤ t by omega)
        clear h1t
        obtain ⟨c0, c1, c2, c3, c4, _⟩ := cd_cells K
        go_wp2_with fail
        clear c0 c1 c2 c3 c4
        refine (rbits_any m t n ga gn gc (deg m t) (by omega) hn2 w22).mono ?_
        rintro e w23 ⟨rfl, b⟩
        rw [← HN.out]
        replace B2 := B2.trans (b.mono B2.size)
        replace DA := keepB DA b
        replace C := C.below b
        replace K := keepB K b
        replace Z1 := keepZ Z1 b
        replace Z2 := keepZ Z2 b
        replace EM := EM.below b
        replace EZ := EZ.below b
        replace N1 := NewP.keep N1 b
        replace N2 := NewP.keep N2 b
        replace B := B.trans (b.mono B.size)
        clear b
        by_cases hk1 : k + 1 < N
        · have z1 : decide (((k : Int) + 1) < (N : Int)) = true := decide_eq_true (by omega)
          have hk3 : k + 1 < 8 * n + deg m t := by rw [← HN.out]; exact hk1
          have e1 : (k : Int) + 1 = ((k + 1 : Nat) : Int) := by omega
          have HE := Lib.hid e1
          clear hk1 e1
          obtain ⟨c0, c1, c2, c3, c4, _⟩ := cd_cells K
          go_wp2_with fail
          clear c0 c1 c2 c3 c4
          refine (codeD_any DA).mono ?_
          rintro e w' ⟨rfl, rfl⟩
          obtain ⟨c0, c1, c2, c3, c4, _⟩ := cd_cells K
          go_wp2_with fail
          clear c0 c1 c2 c3 c4
          rw [HE.out]
          refine (flip_any (m := m) ht1 ht40 w23 s C _ _ X1 N1.pol hn2 _ _ Y1 N2.pol (k + 1) hk3).mono ?_
          rintro e w24 ⟨a3, p3, X2, a4, p4, Y2, rfl, N3, N4, hX2, hY2, b⟩
          have HW2 := Lib.hid (wd_turn (m := m) (k := k + 1) HW1.out.1 HW1.out.2 (show val X2 = val X1 ^^^ ed (deg m t) (k + 1) from hX2) (show val Y2 = val Y1 ^^^ ep (deg m t) (k + 1) from hY2))
          clear hX2 hY2
          clear N1
          clear N2
          replace B2 := B2.trans (b.mono B2.size)
          replace DA := keepB DA b
          replace C := C.below b
          replace K := keepB K b
          replace Z1 := keepZ Z1 b
          replace Z2 := keepZ Z2 b
          replace EM := EM.below b
          replace EZ := EZ.below b
          replace B := B.trans (b.mono B.size)
          clear b
          obtain ⟨c0, c1, c2, c3, c4, _⟩ := cd_cells K
          go_wp2_with fail
          clear c0 c1 c2 c3 c4
          have hpl : plc (0 ^^^ 2 ^ k ^^^ 2 ^ (k + 1)) (8 * n + deg m t) = [k, k + 1] := by rw [Nat.zero_xor, plc_two k _ hk3]
          have HPl := Lib.hid hpl
          have htc : [k, k + 1].length ≤ t := HT.out
          clear hpl
          refine (near_any (m := m) ⟨DA, C, EM, EZ, ht1, ht40, hn1, hn2, hRm⟩ N3.pol N4.pol (V := val X) (e := 0 ^^^ 2 ^ k ^^^ 2 ^ (k + 1)) (by rw [Nat.zero_xor]; exact Nat.xor_lt_two_pow (pow_lt2 hk2) (pow_lt2 hk3)) (by rw [show pop _ _ = (plc _ _).length from rfl, HPl.out]; exact htc) (by rw [wd_of HW2.out.1]; exact HW2.out.2)).mono ?_
          rintro e w25 ⟨b, d1, e1, V1, d2, e2, V2, d3, e3, rfl, N5, N6, RL, v1, v2⟩
          obtain rfl : V1 = X := len_inj (by have := N5.hlen; omega) v1
          obtain rfl : V2 = Q := len_inj (by have := N6.hlen; omega) (by rw [HQ.out]; exact v2)
          clear v1 v2
          have hpe : pop (0 ^^^ 2 ^ k ^^^ 2 ^ (k + 1)) (8 * n + deg m t) = 2 := by rw [show pop _ _ = (plc _ _).length from rfl, HPl.out]; rfl
          rw [hpe, HPl.out] at RL
          rw [hpe]
          clear hpe
          obtain ⟨lb, lo, rfl, l0, _⟩ := RL.row 0 (by decide)
          replace l0 : World.cell? w25 ⟨lb, lo, none⟩ = some (.int .i64 (k : Int)) := l0
          replace B2 := B2.trans (b.mono B2.size)
          replace DA := keepB DA b
          replace C := C.below b
          replace K := keepB K b
          replace Z1 := keepZ Z1 b
          replace Z2 := keepZ Z2 b
          replace EM := EM.below b
          replace EZ := EZ.below b
          replace N3 := NewP.keep N3 b
          replace N4 := NewP.keep N4 b
          replace B := B.trans (b.mono B.size)
          clear b
          obtain ⟨c0, c1, c2, c3, c4, _⟩ := cd_cells K
          go_wp2_with fail
          clear c0 c1 c2 c3 c4
          obtain ⟨c0, c1, c2, c3, c4, _⟩ := cd_cells K
          go_wp2_with fail
          clear c0 c1 c2 c3 c4
          refine (sameB (blk_arg Z1 hfZ1.symm) (newP_bytes N5)).mono ?_
          rintro e w' ⟨rfl, rfl⟩
          rw [decide_eq_true rfl]
          obtain ⟨c0, c1, c2, c3, c4, _⟩ := cd_cells K
          go_wp2_with fail
          clear c0 c1 c2 c3 c4
          refine (sameB (blk_arg Z2 HQl.symm) (newP_bytes N6)).mono ?_
          rintro e w' ⟨rfl, rfl⟩
          rw [decide_eq_true rfl]
          obtain ⟨c0, c1, c2, c3, c4, _⟩ := cd_cells K
          go_wp2_with fail
          clear c0 c1 c2 c3 c4
          go_roundg (N - (k + 1))
          case measure => have := HGh.out; have := HI.out; omega
          case rel => exact ⟨k + 1, rfl, HI.out, by go_num, B2⟩
        · have z1 : decide (((k : Int) + 1) < (N : Int)) = false := decide_eq_false (by omega)
          clear hk1
          obtain ⟨c0, c1, c2, c3, c4, _⟩ := cd_cells K
          go_wp2_with fail
          clear c0 c1 c2 c3 c4
          have hpl : plc (0 ^^^ 2 ^ k) (8 * n + deg m t) = [k] := by rw [Nat.zero_xor, plc_pow, if_pos hk2]
          have HPl := Lib.hid hpl
          have htc : [k].length ≤ t := ht1
          clear hpl
          refine (near_any (m := m) ⟨DA, C, EM, EZ, ht1, ht40, hn1, hn2, hRm⟩ N1.pol N2.pol (V := val X) (e := 0 ^^^ 2 ^ k) (by rw [Nat.zero_xor]; exact pow_lt2 hk2) (by rw [show pop _ _ = (plc _ _).length from rfl, HPl.out]; exact htc) (by rw [wd_of HW1.out.1]; exact HW1.out.2)).mono ?_
          rintro e w24 ⟨b, d1, e1, V1, d2, e2, V2, d3, e3, rfl, N5, N6, RL, v1, v2⟩
          obtain rfl : V1 = X := len_inj (by have := N5.hlen; omega) v1
          obtain rfl : V2 = Q := len_inj (by have := N6.hlen; omega) (by rw [HQ.out]; exact v2)
          clear v1 v2
          have hpe : pop (0 ^^^ 2 ^ k) (8 * n + deg m t) = 1 := by rw [show pop _ _ = (plc _ _).length from rfl, HPl.out]; rfl
          rw [hpe, HPl.out] at RL
          rw [hpe]
          clear hpe
          obtain ⟨lb, lo, rfl, l0, _⟩ := RL.row 0 (by decide)
          replace l0 : World.cell? w24 ⟨lb, lo, none⟩ = some (.int .i64 (k : Int)) := l0
          replace B2 := B2.trans (b.mono B2.size)
          replace DA := keepB DA b
          replace C := C.below b
          replace K := keepB K b
          replace Z1 := keepZ Z1 b
          replace Z2 := keepZ Z2 b
          replace EM := EM.below b
          replace EZ := EZ.below b
          replace N1 := NewP.keep N1 b
          replace N2 := NewP.keep N2 b
          replace B := B.trans (b.mono B.size)
          clear b
          obtain ⟨c0, c1, c2, c3, c4, _⟩ := cd_cells K
          go_wp2_with fail
          clear c0 c1 c2 c3 c4
          obtain ⟨c0, c1, c2, c3, c4, _⟩ := cd_cells K
          go_wp2_with fail
          clear c0 c1 c2 c3 c4
          refine (sameB (blk_arg Z1 hfZ1.symm) (newP_bytes N5)).mono ?_
          rintro e w' ⟨rfl, rfl⟩
          rw [decide_eq_true rfl]
          obtain ⟨c0, c1, c2, c3, c4, _⟩ := cd_cells K
          go_wp2_with fail
          clear c0 c1 c2 c3 c4
          refine (sameB (blk_arg Z2 HQl.symm) (newP_bytes N6)).mono ?_
          rintro e w' ⟨rfl, rfl⟩
          rw [decide_eq_true rfl]
          obtain ⟨c0, c1, c2, c3, c4, _⟩ := cd_cells K
          go_wp2_with fail
          clear c0 c1 c2 c3 c4
          go_roundg (N - (k + 1))
          case measure => have := HGh.out; have := HI.out; omega
          case rel => exact ⟨k + 1, rfl, HI.out, by go_num, B2⟩
    · have x1 : decide ((k : Int) < (N : Int)) = false := decide_eq_false (by omega)
      have x2 : ¬ ((k : Int) < (N : Int)) := by omega
      clear hlt C DA Z1 Z2 EM EZ
      obtain ⟨c0, c1, c2, c3, c4, _⟩ := cd_cells K
      go_wp2_with fail
      clear c0 c1 c2 c3 c4
      go_ret
      exact ⟨rfl, B⟩
theorem walk (a0 a1 a2 : Int) (a3 : Option Addr) (len3 cap3 : Nat) (z3 : List Int) (W : World) (w0 : (Lit.int .i64 a0).wf = true) (w1 : (Lit.int .i64 a1).wf = true) (w2 : (Lit.int .i64 a2).wf = true) (w3 : IsRow .u8 W a3 len3 cap3 z3) (h : LaidDecodeAll.Holds W) :
    Calls Tryz.prog 9 #[.int .i64 a0, .int .i64 a1, .int .i64 a2, .slice a3 len3 cap3] W fun e w' => e = .returned (.bool true) ∧ Below W.heap.size W w' := by
  obtain ⟨f, ⟨E0, E1, E2, E3, E4, E5⟩, _⟩ := h
  obtain ⟨l3, h3⟩ := row_pol w3
  exact core a0 a1 a2 a3 len3 cap3 l3 W _ _ _ E4 E5 E2 h3
end Go.Proofs.YthmfneepnkgmgaaGreatDoor.walkDecodeAll
