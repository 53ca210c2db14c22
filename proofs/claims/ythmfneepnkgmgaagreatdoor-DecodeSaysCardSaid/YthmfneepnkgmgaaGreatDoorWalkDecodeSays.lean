/- The walk over DecodeSays. By the verifier of shale. -/
import Derived.Test.YthmfneepnkgmgaaGreatDoorGreat1
import Derived.Test.YthmfneepnkgmgaaGreatDoorGreat2
import Derived.Test.YthmfneepnkgmgaaGreatDoorGreat3
import Derived.Test.YthmfneepnkgmgaaGreatDoorGreat4
import Derived.Test.YthmfneepnkgmgaaGreatDoorGreat5
import Derived.Test.YthmfneepnkgmgaaGreatDoorGreat6
import Derived.Test.YthmfneepnkgmgaaGreatDoorGreat7
import Derived.Test.YthmfneepnkgmgaaGreatDoorLaidDecodeSays
import Derived.Deep.Cut
namespace Go.Proofs.YthmfneepnkgmgaaGreatDoor.walkDecodeSays
open Go Go.RowKit Bin Pl Cos Enc Syn Loc Sea Dec
set_option linter.unusedVariables false
set_option maxRecDepth 100000 in
set_option maxHeartbeats 4000000 in
theorem core1 (z1 z2 z3 : Int) (a : Option Addr) (na ca : Nat) (l : List (BitVec 8)) (a' : Option Addr) (nb cb : Nat) (l' : List (BitVec 8)) (hl1 : 200 < na) (w : World) (f : Nat → Addr) (yc ym yz : Addr) (hfm : f 5 = ym)
    (EC : ErrAt w 3 yc) (EM : ErrAt w 1 ym) (EZ : ErrAt w 5 yz) (E : AllErrs w f) (A1 : Pol w a na ca l) (A2 : Pol w a' nb cb l') :
    Calls Tryz.prog 4 #[.int .i64 z1, .int .i64 z2, .int .i64 z3, .slice a na ca, .slice a' nb cb] w fun e w' => e = .returned (.bool true) ∧ Below w.heap.size w w' := by
  have x0 : (200 : Int) < (na : Int) := by omega
  have x1 : decide ((200 : Int) < (na : Int)) = true := decide_eq_true x0
  clear hl1
  go_enter Tryz.func4, Tryz.ntmps4
  go_wp2_with fail
  refine (firstD_any w EC EM EZ).mono ?_
  rintro e w1 ⟨rfl, b⟩
  have B := b
  replace EC := EC.below b
  replace EM := EM.below b
  replace EZ := EZ.below b
  replace E := E.below b
  replace A1 := A1.below b
  replace A2 := A2.below b
  clear b
  go_wp2_with fail
  refine (madeD_any z1 z2 z3 w1 yc EC).mono ?_
  rintro e w2 ⟨m, t, n, M, s, db, ga, gn, gc, hm5, hm8, ht5, hn12, hmay, rfl, DA, C, G, b⟩
  haveI := M
  replace EC := EC.below b
  replace EM := EM.below b
  replace EZ := EZ.below b
  replace E := E.below b
  replace A1 := A1.below b
  replace A2 := A2.below b
  replace B := B.trans (b.mono B.size)
  clear b
  clear G EC
  have ht1 := hmay.t1
  have ht40 := hmay.t2
  have hn1 := hmay.n1
  have hn2 := hmay.n2
  have hroom := hmay.room
  have hDpos := deg_pos M.lo ht1
  have hD40 : deg m t ≤ 40 := by
    have h1 := deg_le M.lo t
    have h2 : m * t ≤ 8 * 5 := Nat.mul_le_mul hm8 ht5
    omega
  have hRm : 8 * n + deg m t ≤ Fld.size m := hroom
  have hP0 : pb (deg m t) = (deg m t + 7) / 8 := rfl
  have hP8 : pb (deg m t) ≤ 5 := by omega
  have hP1 : 0 < pb (deg m t) := by omega
  clear hP0
  go_wp2_with fail
  generalize hw : w2.alloc (.cells #[.int .i64 (m : Int), .int .i64 (t : Int), .int .i64 (n : Int), .slice ga gn gc, .int .i64 (deg m t : Int)] 26 (0, 0)) = w3
  obtain ⟨K, b⟩ := newCd w2 w3 _ _ _ _ _ hw
  clear hw
  replace DA := keepB DA b
  replace EM := EM.below b
  replace EZ := EZ.below b
  replace E := E.below b
  replace A1 := A1.below b
  replace A2 := A2.below b
  replace C := C.below b
  replace B := B.trans (b.mono B.size)
  clear b
  obtain ⟨bq, hbq⟩ : ∃ bq, bq = w2.heap.size := ⟨_, rfl⟩
  rw [← hbq] at K ⊢
  clear hbq
  go_ret
  exact ⟨rfl, B⟩
set_option maxRecDepth 100000 in
set_option maxHeartbeats 4000000 in
theorem core2 (z1 z2 z3 : Int) (a : Option Addr) (na ca : Nat) (l : List (BitVec 8)) (a' : Option Addr) (nb cb : Nat) (l' : List (BitVec 8)) (hl1 : na ≤ 200) (hl2 : 200 < nb) (w : World) (f : Nat → Addr) (yc ym yz : Addr) (hfm : f 5 = ym)
    (EC : ErrAt w 3 yc) (EM : ErrAt w 1 ym) (EZ : ErrAt w 5 yz) (E : AllErrs w f) (A1 : Pol w a na ca l) (A2 : Pol w a' nb cb l') :
    Calls Tryz.prog 4 #[.int .i64 z1, .int .i64 z2, .int .i64 z3, .slice a na ca, .slice a' nb cb] w fun e w' => e = .returned (.bool true) ∧ Below w.heap.size w w' := by
  have x0 : ¬ (200 : Int) < (na : Int) := by omega
  have x1 : decide ((200 : Int) < (na : Int)) = false := decide_eq_false x0
  have y0 : (200 : Int) < (nb : Int) := by omega
  have y1 : decide ((200 : Int) < (nb : Int)) = true := decide_eq_true y0
  clear hl1 hl2
  go_enter Tryz.func4, Tryz.ntmps4
  go_wp2_with fail
  refine (firstD_any w EC EM EZ).mono ?_
  rintro e w1 ⟨rfl, b⟩
  have B := b
  replace EC := EC.below b
  replace EM := EM.below b
  replace EZ := EZ.below b
  replace E := E.below b
  replace A1 := A1.below b
  replace A2 := A2.below b
  clear b
  go_wp2_with fail
  refine (madeD_any z1 z2 z3 w1 yc EC).mono ?_
  rintro e w2 ⟨m, t, n, M, s, db, ga, gn, gc, hm5, hm8, ht5, hn12, hmay, rfl, DA, C, G, b⟩
  haveI := M
  replace EC := EC.below b
  replace EM := EM.below b
  replace EZ := EZ.below b
  replace E := E.below b
  replace A1 := A1.below b
  replace A2 := A2.below b
  replace B := B.trans (b.mono B.size)
  clear b
  clear G EC
  have ht1 := hmay.t1
  have ht40 := hmay.t2
  have hn1 := hmay.n1
  have hn2 := hmay.n2
  have hroom := hmay.room
  have hDpos := deg_pos M.lo ht1
  have hD40 : deg m t ≤ 40 := by
    have h1 := deg_le M.lo t
    have h2 : m * t ≤ 8 * 5 := Nat.mul_le_mul hm8 ht5
    omega
  have hRm : 8 * n + deg m t ≤ Fld.size m := hroom
  have hP0 : pb (deg m t) = (deg m t + 7) / 8 := rfl
  have hP8 : pb (deg m t) ≤ 5 := by omega
  have hP1 : 0 < pb (deg m t) := by omega
  clear hP0
  go_wp2_with fail
  generalize hw : w2.alloc (.cells #[.int .i64 (m : Int), .int .i64 (t : Int), .int .i64 (n : Int), .slice ga gn gc, .int .i64 (deg m t : Int)] 26 (0, 0)) = w3
  obtain ⟨K, b⟩ := newCd w2 w3 _ _ _ _ _ hw
  clear hw
  replace DA := keepB DA b
  replace EM := EM.below b
  replace EZ := EZ.below b
  replace E := E.below b
  replace A1 := A1.below b
  replace A2 := A2.below b
  replace C := C.below b
  replace B := B.trans (b.mono B.size)
  clear b
  obtain ⟨bq, hbq⟩ : ∃ bq, bq = w2.heap.size := ⟨_, rfl⟩
  rw [← hbq] at K ⊢
  clear hbq
  go_ret
  exact ⟨rfl, B⟩
set_option maxRecDepth 100000 in
set_option maxHeartbeats 4000000 in
theorem core (z1 z2 z3 : Int) (a : Option Addr) (na ca : Nat) (l : List (BitVec 8)) (a' : Option Addr) (nb cb : Nat) (l' : List (BitVec 8)) (hl1 : na ≤ 200) (hl2 : nb ≤ 200) (w : World) (f : Nat → Addr) (yc ym yz : Addr) (hfm : f 5 = ym)
    (EC : ErrAt w 3 yc) (EM : ErrAt w 1 ym) (EZ : ErrAt w 5 yz) (E : AllErrs w f) (A1 : Pol w a na ca l) (A2 : Pol w a' nb cb l') :
    Calls Tryz.prog 4 #[.int .i64 z1, .int .i64 z2, .int .i64 z3, .slice a na ca, .slice a' nb cb] w fun e w' => e = .returned (.bool true) ∧ Below w.heap.size w w' := by
  have x0 : ¬ (200 : Int) < (na : Int) := by omega
  have x1 : decide ((200 : Int) < (na : Int)) = false := decide_eq_false x0
  have y0 : ¬ (200 : Int) < (nb : Int) := by omega
  have y1 : decide ((200 : Int) < (nb : Int)) = false := decide_eq_false y0
  go_enter Tryz.func4, Tryz.ntmps4
  go_wp2_with fail
  refine (firstD_any w EC EM EZ).mono ?_
  rintro e w1 ⟨rfl, b⟩
  have B := b
  replace EC := EC.below b
  replace EM := EM.below b
  replace EZ := EZ.below b
  replace E := E.below b
  replace A1 := A1.below b
  replace A2 := A2.below b
  clear b
  go_wp2_with fail
  refine (madeD_any z1 z2 z3 w1 yc EC).mono ?_
  rintro e w2 ⟨m, t, n, M, s, db, ga, gn, gc, hm5, hm8, ht5, hn12, hmay, rfl, DA, C, G, b⟩
  haveI := M
  replace EC := EC.below b
  replace EM := EM.below b
  replace EZ := EZ.below b
  replace E := E.below b
  replace A1 := A1.below b
  replace A2 := A2.below b
  replace B := B.trans (b.mono B.size)
  clear b
  clear G EC
  have ht1 := hmay.t1
  have ht40 := hmay.t2
  have hn1 := hmay.n1
  have hn2 := hmay.n2
  have hroom := hmay.room
  have hDpos := deg_pos M.lo ht1
  have hD40 : deg m t ≤ 40 := by
    have h1 := deg_le M.lo t
    have h2 : m * t ≤ 8 * 5 := Nat.mul_le_mul hm8 ht5
    omega
  have hRm : 8 * n + deg m t ≤ Fld.size m := hroom
  have hP0 : pb (deg m t) = (deg m t + 7) / 8 := rfl
  have hP8 : pb (deg m t) ≤ 5 := by omega
  have hP1 : 0 < pb (deg m t) := by omega
  clear hP0
  go_wp2_with fail
  generalize hw : w2.alloc (.cells #[.int .i64 (m : Int), .int .i64 (t : Int), .int .i64 (n : Int), .slice ga gn gc, .int .i64 (deg m t : Int)] 26 (0, 0)) = w3
  obtain ⟨K, b⟩ := newCd w2 w3 _ _ _ _ _ hw
  clear hw
  replace DA := keepB DA b
  replace EM := EM.below b
  replace EZ := EZ.below b
  replace E := E.below b
  replace A1 := A1.below b
  replace A2 := A2.below b
  replace C := C.below b
  replace B := B.trans (b.mono B.size)
  clear b
  obtain ⟨bq, hbq⟩ : ∃ bq, bq = w2.heap.size := ⟨_, rfl⟩
  rw [← hbq] at K ⊢
  clear hbq
  clear x0 x1 y0 y1
  have HFM : Hid (f 5 = ym) := hfm
  clear hfm
  by_cases hna : na = n
  · by_cases hnb : nb = pb (deg m t)
    · skip
      have hna' := hna.symm
      subst hna'
      clear hna
      subst hnb
      have HA0 : Hid (∀ (W : World), Pol W a n ca l → Pol W a' (pb (deg m t)) cb l' → CodeAt m t n W s → decAt W db s → ErrAt W 1 ym → ErrAt W 5 yz → Calls Tryz.prog 16 #[.pointer (some ⟨db, 0, none⟩), .slice a n ca, .slice a' (pb (deg m t)) cb] W fun e w' => ∃ v1 v2 v3 v4, e = .returned (.tuple #[v1, v2, v3, v4]) ∧ Below W.heap.size W w') := fun W A1 A2 C DA EM EZ => by
        refine (decode_any (m := m) ⟨DA, C, EM, EZ, ht1, ht40, hn1, hn2, hRm⟩ A1 A2).mono fun e w' h => ?_
        obtain ⟨b, hq⟩ := h
        revert hq
        cases dec m t (8 * n + deg m t) (wd m t (val l) (val l')) with
        | none => intro hq; exact ⟨_, _, _, _, hq, b⟩
        | some l1 => intro hq; obtain ⟨a1, c1, X1, a2, c2, Y1, a3, c3, rfl, _⟩ := hq; exact ⟨_, _, _, _, rfl, b⟩
      refine (HA0.out w3 A1 A2 C DA EM EZ).mono ?_
      rintro e w4 ⟨v1, v2, v3, v4, rfl, b⟩
      replace DA := keepB DA b
      replace EM := EM.below b
      replace EZ := EZ.below b
      replace E := E.below b
      replace A1 := A1.below b
      replace A2 := A2.below b
      replace C := C.below b
      replace K := keepB K b
      replace B := B.trans (b.mono B.size)
      clear b
      clear HA0
      obtain ⟨c0, c1, c2, c3, c4, _⟩ := cd_cells K
      go_wp2_with fail
      clear c0 c1 c2 c3 c4
      refine (rparity_any m t n ga gn gc (deg m t) (by omega) w4).mono ?_
      rintro e w5 ⟨rfl, b⟩
      replace DA := keepB DA b
      replace EM := EM.below b
      replace EZ := EZ.below b
      replace E := E.below b
      replace A1 := A1.below b
      replace A2 := A2.below b
      replace C := C.below b
      replace K := keepB K b
      replace B := B.trans (b.mono B.size)
      clear b
      obtain ⟨c0, c1, c2, c3, c4, _⟩ := cd_cells K
      go_wp2_with fail
      clear c0 c1 c2 c3 c4
      refine (fitD_any a n ca l (n) (by omega) w5 A1).mono ?_
      rintro e w6 ⟨rfl, Z1, b⟩
      have hfZ1 := fitL_length l (n)
      obtain ⟨X, hX⟩ : ∃ X, X = fitL l (n) := ⟨_, rfl⟩
      rw [← hX] at Z1 hfZ1
      have HX := Lib.hid hX
      obtain ⟨gZ1, hgZ1⟩ : ∃ gZ1, gZ1 = w5.heap.size := ⟨_, rfl⟩
      rw [← hgZ1] at Z1 ⊢
      clear hgZ1 hX
      replace DA := keepB DA b
      replace EM := EM.below b
      replace EZ := EZ.below b
      replace E := E.below b
      replace A1 := A1.below b
      replace A2 := A2.below b
      replace C := C.below b
      replace K := keepB K b
      replace B := B.trans (b.mono B.size)
      clear b
      obtain ⟨c0, c1, c2, c3, c4, _⟩ := cd_cells K
      go_wp2_with fail
      clear c0 c1 c2 c3 c4
      refine (rparity_any m t n ga gn gc (deg m t) (by omega) w6).mono ?_
      rintro e w7 ⟨rfl, b⟩
      replace DA := keepB DA b
      replace EM := EM.below b
      replace EZ := EZ.below b
      replace E := E.below b
      replace A1 := A1.below b
      replace A2 := A2.below b
      replace C := C.below b
      replace K := keepB K b
      replace Z1 := keepZ Z1 b
      replace B := B.trans (b.mono B.size)
      clear b
      obtain ⟨c0, c1, c2, c3, c4, _⟩ := cd_cells K
      go_wp2_with fail
      clear c0 c1 c2 c3 c4
      refine (fitD_any a' (pb (deg m t)) cb l' (pb (deg m t)) (by omega) w7 A2).mono ?_
      rintro e w8 ⟨rfl, Z2, b⟩
      have hfZ2 := fitL_length l' (pb (deg m t))
      obtain ⟨Y, hY⟩ : ∃ Y, Y = fitL l' (pb (deg m t)) := ⟨_, rfl⟩
      rw [← hY] at Z2 hfZ2
      have HY := Lib.hid hY
      obtain ⟨gZ2, hgZ2⟩ : ∃ gZ2, gZ2 = w7.heap.size := ⟨_, rfl⟩
      rw [← hgZ2] at Z2 ⊢
      clear hgZ2 hY
      replace DA := keepB DA b
      replace EM := EM.below b
      replace EZ := EZ.below b
      replace E := E.below b
      replace A1 := A1.below b
      replace A2 := A2.below b
      replace C := C.below b
      replace K := keepB K b
      replace Z1 := keepZ Z1 b
      replace B := B.trans (b.mono B.size)
      clear b
      obtain ⟨c0, c1, c2, c3, c4, _⟩ := cd_cells K
      go_wp2_with fail
      clear c0 c1 c2 c3 c4
      cases hd : dec m t (8 * n + deg m t) (wd m t (val X) (val Y))
      case none => as_aux_lemma =>
        have HD := Lib.hid hd
        clear hd
        refine (decode_any (m := m) ⟨DA, C, EM, EZ, ht1, ht40, hn1, hn2, hRm⟩ (blk_pol Z1 hfZ1.symm (by omega)) (blk_pol Z2 hfZ2.symm (by omega))).mono ?_
        rintro e w9 ⟨b, hq⟩
        rw [HD.out] at hq
        obtain rfl := hq
        replace DA := keepB DA b
        replace EM := EM.below b
        replace EZ := EZ.below b
        replace E := E.below b
        replace A1 := A1.below b
        replace A2 := A2.below b
        replace C := C.below b
        replace K := keepB K b
        replace Z1 := keepZ Z1 b
        replace Z2 := keepZ Z2 b
        replace B := B.trans (b.mono B.size)
        clear b
        obtain ⟨c0, c1, c2, c3, c4, _⟩ := cd_cells K
        go_wp2_with fail
        clear c0 c1 c2 c3 c4
        refine (rdecode_any (m := m) t n ga gn gc ht1 ht40 hn1 hn2 hRm (blk_pol Z1 hfZ1.symm (by omega)) (blk_pol Z2 hfZ2.symm (by omega))).mono ?_
        rintro e w10 ⟨b, hq⟩
        rw [HD.out] at hq
        obtain rfl := hq
        replace DA := keepB DA b
        replace EM := EM.below b
        replace EZ := EZ.below b
        replace E := E.below b
        replace A1 := A1.below b
        replace A2 := A2.below b
        replace C := C.below b
        replace K := keepB K b
        replace Z1 := keepZ Z1 b
        replace Z2 := keepZ Z2 b
        replace B := B.trans (b.mono B.size)
        clear b
        obtain ⟨c0, c1, c2, c3, c4, _⟩ := cd_cells K
        go_wp2_with fail
        clear c0 c1 c2 c3 c4
        refine (sameB (X := []) (Y := []) (Or.inl ⟨rfl, _, _, rfl⟩) (Or.inl ⟨rfl, _, _, rfl⟩)).mono ?_
        rintro e w' ⟨rfl, rfl⟩
        rw [decide_eq_true rfl]
        obtain ⟨c0, c1, c2, c3, c4, _⟩ := cd_cells K
        go_wp2_with fail
        clear c0 c1 c2 c3 c4
        refine (sameB (X := []) (Y := []) (Or.inl ⟨rfl, _, _, rfl⟩) (Or.inl ⟨rfl, _, _, rfl⟩)).mono ?_
        rintro e w' ⟨rfl, rfl⟩
        rw [decide_eq_true rfl]
        obtain ⟨c0, c1, c2, c3, c4, _⟩ := cd_cells K
        go_wp2_with fail
        clear c0 c1 c2 c3 c4
        refine (sameInts_any none 0 0 [] none 0 0 [] w10 ⟨rfl, fun i hi => absurd hi (by simp)⟩ ⟨rfl, fun i hi => absurd hi (by simp)⟩ (by decide)).mono ?_
        rintro e w11 ⟨rfl, d⟩
        rw [decide_eq_true rfl]
        have b := d.below (World.heap w10).size
        clear d
        replace DA := keepB DA b
        replace EM := EM.below b
        replace EZ := EZ.below b
        replace E := E.below b
        replace A1 := A1.below b
        replace A2 := A2.below b
        replace C := C.below b
        replace K := keepB K b
        replace Z1 := keepZ Z1 b
        replace Z2 := keepZ Z2 b
        replace B := B.trans (b.mono B.size)
        clear b
        obtain ⟨c0, c1, c2, c3, c4, _⟩ := cd_cells K
        go_wp2_with fail
        clear c0 c1 c2 c3 c4
        refine (is_v E (v := errOf ym) (c := 106) (.inr ⟨5, by decide, by rw [HFM.out], rfl⟩)).mono ?_
        rintro e w12 ⟨rfl, b⟩
        replace DA := keepB DA b
        replace EM := EM.below b
        replace EZ := EZ.below b
        replace E := E.below b
        replace A1 := A1.below b
        replace A2 := A2.below b
        replace C := C.below b
        replace K := keepB K b
        replace Z1 := keepZ Z1 b
        replace Z2 := keepZ Z2 b
        replace B := B.trans (b.mono B.size)
        clear b
        obtain ⟨c0, c1, c2, c3, c4, _⟩ := cd_cells K
        go_wp2_with fail
        clear c0 c1 c2 c3 c4
        refine (dist_any a a' n (pb (deg m t)) ca cb l l' (by omega) (by omega) w12 A1 A2).mono ?_
        rintro e w' ⟨rfl, rfl⟩
        obtain ⟨c0, c1, c2, c3, c4, _⟩ := cd_cells K
        go_wp2_with fail
        clear c0 c1 c2 c3 c4
        refine (rdist_any a a' n (pb (deg m t)) ca cb l l' (by omega) (by omega) w12 A1 A2).mono ?_
        rintro e w' ⟨rfl, rfl⟩
        obtain ⟨c0, c1, c2, c3, c4, _⟩ := cd_cells K
        go_wp2_with fail
        clear c0 c1 c2 c3 c4
        refine (fitD_any a n ca l n (by omega) w12 A1).mono ?_
        rintro e w13 ⟨rfl, Z9, b⟩
        rw [← HX.out] at Z9
        replace DA := keepB DA b
        replace EM := EM.below b
        replace EZ := EZ.below b
        replace E := E.below b
        replace A1 := A1.below b
        replace A2 := A2.below b
        replace C := C.below b
        replace K := keepB K b
        replace Z1 := keepZ Z1 b
        replace Z2 := keepZ Z2 b
        replace B := B.trans (b.mono B.size)
        clear b
        obtain ⟨c0, c1, c2, c3, c4, _⟩ := cd_cells K
        go_wp2_with fail
        clear c0 c1 c2 c3 c4
        refine (sameB (blk_arg Z1 hfZ1.symm) (blk_arg Z9 hfZ1.symm)).mono ?_
        rintro e w' ⟨rfl, rfl⟩
        rw [decide_eq_true rfl]
        go_wp2_with fail
        go_ret
        exact ⟨rfl, B⟩
      case some l0 => as_aux_lemma =>
        have HD := Lib.hid hd
        have HDL : Hid (l0.length ≤ t) := by
          obtain ⟨e, _, hl, hp, _⟩ := dec_some (m := m) hRm ht40 hd
          show _ ≤ _
          rw [hl]
          exact hp
        clear hd
        refine (decode_any (m := m) ⟨DA, C, EM, EZ, ht1, ht40, hn1, hn2, hRm⟩ (blk_pol Z1 hfZ1.symm (by omega)) (blk_pol Z2 hfZ2.symm (by omega))).mono ?_
        rintro e w9 ⟨b, hq⟩
        rw [HD.out] at hq
        obtain ⟨d1, e1, X1, d2, e2, Y1, d3, e3, rfl, N1, N2, R3, v1, v2⟩ := hq
        have HVa := Lib.hid (And.intro v1 v2)
        have P1 := N1.pol
        have P2 := N2.pol
        clear v1 v2 N1 N2
        replace DA := keepB DA b
        replace EM := EM.below b
        replace EZ := EZ.below b
        replace E := E.below b
        replace A1 := A1.below b
        replace A2 := A2.below b
        replace C := C.below b
        replace K := keepB K b
        replace Z1 := keepZ Z1 b
        replace Z2 := keepZ Z2 b
        replace B := B.trans (b.mono B.size)
        clear b
        obtain ⟨c0, c1, c2, c3, c4, _⟩ := cd_cells K
        go_wp2_with fail
        clear c0 c1 c2 c3 c4
        refine (rdecode_any (m := m) t n ga gn gc ht1 ht40 hn1 hn2 hRm (blk_pol Z1 hfZ1.symm (by omega)) (blk_pol Z2 hfZ2.symm (by omega))).mono ?_
        rintro e w10 ⟨b, hq⟩
        rw [HD.out] at hq
        obtain ⟨g3, X2, g4, Y2, a3, c3, rfl, Z3, l3, Z4, l4, R5, v1, v2⟩ := hq
        have HXX : Hid (X2 = X1) := len_inj (by rw [l3]; exact P1.hlen) (by rw [v1, HVa.out.1])
        have HYY : Hid (Y2 = Y1) := len_inj (by rw [l4]; exact P2.hlen) (by rw [v2, HVa.out.2])
        rw [HXX.out] at Z3 l3
        rw [HYY.out] at Z4 l4
        clear v1 v2
        replace DA := keepB DA b
        replace EM := EM.below b
        replace EZ := EZ.below b
        replace E := E.below b
        replace A1 := A1.below b
        replace A2 := A2.below b
        replace C := C.below b
        replace K := keepB K b
        replace Z1 := keepZ Z1 b
        replace Z2 := keepZ Z2 b
        replace P1 := P1.below b
        replace P2 := P2.below b
        replace R3 := R3.below b
        replace B := B.trans (b.mono B.size)
        clear b
        obtain ⟨c0, c1, c2, c3, c4, _⟩ := cd_cells K
        go_wp2_with fail
        clear c0 c1 c2 c3 c4
        refine (sameB (pol_bytes P1) (blk_arg Z3 l3.symm)).mono ?_
        rintro e w' ⟨rfl, rfl⟩
        rw [decide_eq_true rfl]
        obtain ⟨c0, c1, c2, c3, c4, _⟩ := cd_cells K
        go_wp2_with fail
        clear c0 c1 c2 c3 c4
        refine (sameB (pol_bytes P2) (blk_arg Z4 l4.symm)).mono ?_
        rintro e w' ⟨rfl, rfl⟩
        rw [decide_eq_true rfl]
        obtain ⟨c0, c1, c2, c3, c4, _⟩ := cd_cells K
        go_wp2_with fail
        clear c0 c1 c2 c3 c4
        refine (sameInts_any d3 l0.length e3 l0 a3 l0.length c3 l0 w10 (rowz_n R3) (rowz_n R5) (by have := HDL.out; omega)).mono ?_
        rintro e w11 ⟨rfl, d⟩
        rw [decide_eq_true rfl]
        have b := d.below (World.heap w10).size
        clear d
        replace DA := keepB DA b
        replace EM := EM.below b
        replace EZ := EZ.below b
        replace E := E.below b
        replace A1 := A1.below b
        replace A2 := A2.below b
        replace C := C.below b
        replace K := keepB K b
        replace Z1 := keepZ Z1 b
        replace Z2 := keepZ Z2 b
        replace P1 := P1.below b
        replace P2 := P2.below b
        replace R3 := R3.below b
        replace Z3 := keepZ Z3 b
        replace Z4 := keepZ Z4 b
        replace R5 := R5.below b
        replace B := B.trans (b.mono B.size)
        clear b
        obtain ⟨c0, c1, c2, c3, c4, _⟩ := cd_cells K
        go_wp2_with fail
        clear c0 c1 c2 c3 c4
        refine (is_v E (v := .nilIface) (c := 0) (.inl ⟨rfl, rfl⟩)).mono ?_
        rintro e w12 ⟨rfl, b⟩
        replace DA := keepB DA b
        replace EM := EM.below b
        replace EZ := EZ.below b
        replace E := E.below b
        replace A1 := A1.below b
        replace A2 := A2.below b
        replace C := C.below b
        replace K := keepB K b
        replace Z1 := keepZ Z1 b
        replace Z2 := keepZ Z2 b
        replace P1 := P1.below b
        replace P2 := P2.below b
        replace R3 := R3.below b
        replace Z3 := keepZ Z3 b
        replace Z4 := keepZ Z4 b
        replace R5 := R5.below b
        replace B := B.trans (b.mono B.size)
        clear b
        obtain ⟨c0, c1, c2, c3, c4, _⟩ := cd_cells K
        go_wp2_with fail
        clear c0 c1 c2 c3 c4
        refine (dist_any a a' n (pb (deg m t)) ca cb l l' (by omega) (by omega) w12 A1 A2).mono ?_
        rintro e w' ⟨rfl, rfl⟩
        obtain ⟨c0, c1, c2, c3, c4, _⟩ := cd_cells K
        go_wp2_with fail
        clear c0 c1 c2 c3 c4
        refine (rdist_any a a' n (pb (deg m t)) ca cb l l' (by omega) (by omega) w12 A1 A2).mono ?_
        rintro e w' ⟨rfl, rfl⟩
        obtain ⟨c0, c1, c2, c3, c4, _⟩ := cd_cells K
        go_wp2_with fail
        clear c0 c1 c2 c3 c4
        refine (fitD_any a n ca l n (by omega) w12 A1).mono ?_
        rintro e w13 ⟨rfl, Z9, b⟩
        rw [← HX.out] at Z9
        replace DA := keepB DA b
        replace EM := EM.below b
        replace EZ := EZ.below b
        replace E := E.below b
        replace A1 := A1.below b
        replace A2 := A2.below b
        replace C := C.below b
        replace K := keepB K b
        replace Z1 := keepZ Z1 b
        replace Z2 := keepZ Z2 b
        replace P1 := P1.below b
        replace P2 := P2.below b
        replace R3 := R3.below b
        replace Z3 := keepZ Z3 b
        replace Z4 := keepZ Z4 b
        replace R5 := R5.below b
        replace B := B.trans (b.mono B.size)
        clear b
        obtain ⟨c0, c1, c2, c3, c4, _⟩ := cd_cells K
        go_wp2_with fail
        clear c0 c1 c2 c3 c4
        refine (sameB (blk_arg Z1 hfZ1.symm) (blk_arg Z9 hfZ1.symm)).mono ?_
        rintro e w' ⟨rfl, rfl⟩
        rw [decide_eq_true rfl]
        go_wp2_with fail
        go_ret
        exact ⟨rfl, B⟩
    · skip
      have HBd : Hid (na ≠ n ∨ nb ≠ pb (deg m t)) := .inr hnb
      have t2 : ((nb : Int) == ((pb (deg m t) : Nat) : Int)) = false := by rw [beq_eq_false_iff_ne]; omega
      have t2a : ¬ (nb : Int) = ((pb (deg m t) : Nat) : Int) := by omega
      have t2b : ¬ nb = pb (deg m t) := hnb
      have t2c : (nb == pb (deg m t)) = false := by rw [beq_eq_false_iff_ne]; exact hnb
      have t2d : ((nb : Int) != ((pb (deg m t) : Nat) : Int)) = true := by rw [bne_iff_ne]; omega
      have hna' := hna.symm
      subst hna'
      clear hna hnb
      refine (decode_long (m := m) DA C ht40 (E.1.2.2.2.1) A1 A2 (by omega) (by omega) HBd.out).mono ?_
      rintro e w4 ⟨rfl, b⟩
      replace DA := keepB DA b
      replace EM := EM.below b
      replace EZ := EZ.below b
      replace E := E.below b
      replace A1 := A1.below b
      replace A2 := A2.below b
      replace C := C.below b
      replace K := keepB K b
      replace B := B.trans (b.mono B.size)
      clear b
      obtain ⟨c0, c1, c2, c3, c4, _⟩ := cd_cells K
      go_wp2_with fail
      clear c0 c1 c2 c3 c4
      refine (rparity_any m t n ga gn gc (deg m t) (by omega) w4).mono ?_
      rintro e w5 ⟨rfl, b⟩
      replace DA := keepB DA b
      replace EM := EM.below b
      replace EZ := EZ.below b
      replace E := E.below b
      replace A1 := A1.below b
      replace A2 := A2.below b
      replace C := C.below b
      replace K := keepB K b
      replace B := B.trans (b.mono B.size)
      clear b
      have el := E.1.2.2.2.1.1
      unfold Sent at el
      have q1 := neq_err (f 3)
      obtain ⟨c0, c1, c2, c3, c4, _⟩ := cd_cells K
      go_wp2_with fail
      clear c0 c1 c2 c3 c4
      clear t2 t2a t2b t2c t2d el q1
      refine (fitD_any a n ca l (n) (by omega) w5 A1).mono ?_
      rintro e w6 ⟨rfl, Z1, b⟩
      have hfZ1 := fitL_length l (n)
      obtain ⟨X, hX⟩ : ∃ X, X = fitL l (n) := ⟨_, rfl⟩
      rw [← hX] at Z1 hfZ1
      have HX := Lib.hid hX
      obtain ⟨gZ1, hgZ1⟩ : ∃ gZ1, gZ1 = w5.heap.size := ⟨_, rfl⟩
      rw [← hgZ1] at Z1 ⊢
      clear hgZ1 hX
      replace DA := keepB DA b
      replace EM := EM.below b
      replace EZ := EZ.below b
      replace E := E.below b
      replace A1 := A1.below b
      replace A2 := A2.below b
      replace C := C.below b
      replace K := keepB K b
      replace B := B.trans (b.mono B.size)
      clear b
      obtain ⟨c0, c1, c2, c3, c4, _⟩ := cd_cells K
      go_wp2_with fail
      clear c0 c1 c2 c3 c4
      refine (rparity_any m t n ga gn gc (deg m t) (by omega) w6).mono ?_
      rintro e w7 ⟨rfl, b⟩
      replace DA := keepB DA b
      replace EM := EM.below b
      replace EZ := EZ.below b
      replace E := E.below b
      replace A1 := A1.below b
      replace A2 := A2.below b
      replace C := C.below b
      replace K := keepB K b
      replace Z1 := keepZ Z1 b
      replace B := B.trans (b.mono B.size)
      clear b
      obtain ⟨c0, c1, c2, c3, c4, _⟩ := cd_cells K
      go_wp2_with fail
      clear c0 c1 c2 c3 c4
      refine (fitD_any a' nb cb l' (pb (deg m t)) (by omega) w7 A2).mono ?_
      rintro e w8 ⟨rfl, Z2, b⟩
      have hfZ2 := fitL_length l' (pb (deg m t))
      obtain ⟨Y, hY⟩ : ∃ Y, Y = fitL l' (pb (deg m t)) := ⟨_, rfl⟩
      rw [← hY] at Z2 hfZ2
      have HY := Lib.hid hY
      obtain ⟨gZ2, hgZ2⟩ : ∃ gZ2, gZ2 = w7.heap.size := ⟨_, rfl⟩
      rw [← hgZ2] at Z2 ⊢
      clear hgZ2 hY
      replace DA := keepB DA b
      replace EM := EM.below b
      replace EZ := EZ.below b
      replace E := E.below b
      replace A1 := A1.below b
      replace A2 := A2.below b
      replace C := C.below b
      replace K := keepB K b
      replace Z1 := keepZ Z1 b
      replace B := B.trans (b.mono B.size)
      clear b
      obtain ⟨c0, c1, c2, c3, c4, _⟩ := cd_cells K
      go_wp2_with fail
      clear c0 c1 c2 c3 c4
      cases hd : dec m t (8 * n + deg m t) (wd m t (val X) (val Y))
      case none => as_aux_lemma =>
        have HD := Lib.hid hd
        clear hd
        refine (decode_any (m := m) ⟨DA, C, EM, EZ, ht1, ht40, hn1, hn2, hRm⟩ (blk_pol Z1 hfZ1.symm (by omega)) (blk_pol Z2 hfZ2.symm (by omega))).mono ?_
        rintro e w9 ⟨b, hq⟩
        rw [HD.out] at hq
        obtain rfl := hq
        replace DA := keepB DA b
        replace EM := EM.below b
        replace EZ := EZ.below b
        replace E := E.below b
        replace A1 := A1.below b
        replace A2 := A2.below b
        replace C := C.below b
        replace K := keepB K b
        replace Z1 := keepZ Z1 b
        replace Z2 := keepZ Z2 b
        replace B := B.trans (b.mono B.size)
        clear b
        obtain ⟨c0, c1, c2, c3, c4, _⟩ := cd_cells K
        go_wp2_with fail
        clear c0 c1 c2 c3 c4
        refine (rdecode_any (m := m) t n ga gn gc ht1 ht40 hn1 hn2 hRm (blk_pol Z1 hfZ1.symm (by omega)) (blk_pol Z2 hfZ2.symm (by omega))).mono ?_
        rintro e w10 ⟨b, hq⟩
        rw [HD.out] at hq
        obtain rfl := hq
        replace DA := keepB DA b
        replace EM := EM.below b
        replace EZ := EZ.below b
        replace E := E.below b
        replace A1 := A1.below b
        replace A2 := A2.below b
        replace C := C.below b
        replace K := keepB K b
        replace Z1 := keepZ Z1 b
        replace Z2 := keepZ Z2 b
        replace B := B.trans (b.mono B.size)
        clear b
        obtain ⟨c0, c1, c2, c3, c4, _⟩ := cd_cells K
        go_wp2_with fail
        clear c0 c1 c2 c3 c4
        refine (sameB (X := []) (Y := []) (Or.inl ⟨rfl, _, _, rfl⟩) (Or.inl ⟨rfl, _, _, rfl⟩)).mono ?_
        rintro e w' ⟨rfl, rfl⟩
        rw [decide_eq_true rfl]
        obtain ⟨c0, c1, c2, c3, c4, _⟩ := cd_cells K
        go_wp2_with fail
        clear c0 c1 c2 c3 c4
        refine (sameB (X := []) (Y := []) (Or.inl ⟨rfl, _, _, rfl⟩) (Or.inl ⟨rfl, _, _, rfl⟩)).mono ?_
        rintro e w' ⟨rfl, rfl⟩
        rw [decide_eq_true rfl]
        obtain ⟨c0, c1, c2, c3, c4, _⟩ := cd_cells K
        go_wp2_with fail
        clear c0 c1 c2 c3 c4
        refine (sameInts_any none 0 0 [] none 0 0 [] w10 ⟨rfl, fun i hi => absurd hi (by simp)⟩ ⟨rfl, fun i hi => absurd hi (by simp)⟩ (by decide)).mono ?_
        rintro e w11 ⟨rfl, d⟩
        rw [decide_eq_true rfl]
        have b := d.below (World.heap w10).size
        clear d
        replace DA := keepB DA b
        replace EM := EM.below b
        replace EZ := EZ.below b
        replace E := E.below b
        replace A1 := A1.below b
        replace A2 := A2.below b
        replace C := C.below b
        replace K := keepB K b
        replace Z1 := keepZ Z1 b
        replace Z2 := keepZ Z2 b
        replace B := B.trans (b.mono B.size)
        clear b
        obtain ⟨c0, c1, c2, c3, c4, _⟩ := cd_cells K
        go_wp2_with fail
        clear c0 c1 c2 c3 c4
        refine (is_v E (v := errOf ym) (c := 106) (.inr ⟨5, by decide, by rw [HFM.out], rfl⟩)).mono ?_
        rintro e w12 ⟨rfl, b⟩
        replace DA := keepB DA b
        replace EM := EM.below b
        replace EZ := EZ.below b
        replace E := E.below b
        replace A1 := A1.below b
        replace A2 := A2.below b
        replace C := C.below b
        replace K := keepB K b
        replace Z1 := keepZ Z1 b
        replace Z2 := keepZ Z2 b
        replace B := B.trans (b.mono B.size)
        clear b
        obtain ⟨c0, c1, c2, c3, c4, _⟩ := cd_cells K
        go_wp2_with fail
        clear c0 c1 c2 c3 c4
        refine (dist_any a a' n nb ca cb l l' (by omega) (by omega) w12 A1 A2).mono ?_
        rintro e w' ⟨rfl, rfl⟩
        obtain ⟨c0, c1, c2, c3, c4, _⟩ := cd_cells K
        go_wp2_with fail
        clear c0 c1 c2 c3 c4
        refine (rdist_any a a' n nb ca cb l l' (by omega) (by omega) w12 A1 A2).mono ?_
        rintro e w' ⟨rfl, rfl⟩
        obtain ⟨c0, c1, c2, c3, c4, _⟩ := cd_cells K
        go_wp2_with fail
        clear c0 c1 c2 c3 c4
        refine (fitD_any a n ca l n (by omega) w12 A1).mono ?_
        rintro e w13 ⟨rfl, Z9, b⟩
        rw [← HX.out] at Z9
        replace DA := keepB DA b
        replace EM := EM.below b
        replace EZ := EZ.below b
        replace E := E.below b
        replace A1 := A1.below b
        replace A2 := A2.below b
        replace C := C.below b
        replace K := keepB K b
        replace Z1 := keepZ Z1 b
        replace Z2 := keepZ Z2 b
        replace B := B.trans (b.mono B.size)
        clear b
        obtain ⟨c0, c1, c2, c3, c4, _⟩ := cd_cells K
        go_wp2_with fail
        clear c0 c1 c2 c3 c4
        refine (sameB (blk_arg Z1 hfZ1.symm) (blk_arg Z9 hfZ1.symm)).mono ?_
        rintro e w' ⟨rfl, rfl⟩
        rw [decide_eq_true rfl]
        go_wp2_with fail
        go_ret
        exact ⟨rfl, B⟩
      case some l0 => as_aux_lemma =>
        have HD := Lib.hid hd
        have HDL : Hid (l0.length ≤ t) := by
          obtain ⟨e, _, hl, hp, _⟩ := dec_some (m := m) hRm ht40 hd
          show _ ≤ _
          rw [hl]
          exact hp
        clear hd
        refine (decode_any (m := m) ⟨DA, C, EM, EZ, ht1, ht40, hn1, hn2, hRm⟩ (blk_pol Z1 hfZ1.symm (by omega)) (blk_pol Z2 hfZ2.symm (by omega))).mono ?_
        rintro e w9 ⟨b, hq⟩
        rw [HD.out] at hq
        obtain ⟨d1, e1, X1, d2, e2, Y1, d3, e3, rfl, N1, N2, R3, v1, v2⟩ := hq
        have HVa := Lib.hid (And.intro v1 v2)
        have P1 := N1.pol
        have P2 := N2.pol
        clear v1 v2 N1 N2
        replace DA := keepB DA b
        replace EM := EM.below b
        replace EZ := EZ.below b
        replace E := E.below b
        replace A1 := A1.below b
        replace A2 := A2.below b
        replace C := C.below b
        replace K := keepB K b
        replace Z1 := keepZ Z1 b
        replace Z2 := keepZ Z2 b
        replace B := B.trans (b.mono B.size)
        clear b
        obtain ⟨c0, c1, c2, c3, c4, _⟩ := cd_cells K
        go_wp2_with fail
        clear c0 c1 c2 c3 c4
        refine (rdecode_any (m := m) t n ga gn gc ht1 ht40 hn1 hn2 hRm (blk_pol Z1 hfZ1.symm (by omega)) (blk_pol Z2 hfZ2.symm (by omega))).mono ?_
        rintro e w10 ⟨b, hq⟩
        rw [HD.out] at hq
        obtain ⟨g3, X2, g4, Y2, a3, c3, rfl, Z3, l3, Z4, l4, R5, v1, v2⟩ := hq
        have HXX : Hid (X2 = X1) := len_inj (by rw [l3]; exact P1.hlen) (by rw [v1, HVa.out.1])
        have HYY : Hid (Y2 = Y1) := len_inj (by rw [l4]; exact P2.hlen) (by rw [v2, HVa.out.2])
        rw [HXX.out] at Z3 l3
        rw [HYY.out] at Z4 l4
        clear v1 v2
        replace DA := keepB DA b
        replace EM := EM.below b
        replace EZ := EZ.below b
        replace E := E.below b
        replace A1 := A1.below b
        replace A2 := A2.below b
        replace C := C.below b
        replace K := keepB K b
        replace Z1 := keepZ Z1 b
        replace Z2 := keepZ Z2 b
        replace P1 := P1.below b
        replace P2 := P2.below b
        replace R3 := R3.below b
        replace B := B.trans (b.mono B.size)
        clear b
        obtain ⟨c0, c1, c2, c3, c4, _⟩ := cd_cells K
        go_wp2_with fail
        clear c0 c1 c2 c3 c4
        refine (sameB (pol_bytes P1) (blk_arg Z3 l3.symm)).mono ?_
        rintro e w' ⟨rfl, rfl⟩
        rw [decide_eq_true rfl]
        obtain ⟨c0, c1, c2, c3, c4, _⟩ := cd_cells K
        go_wp2_with fail
        clear c0 c1 c2 c3 c4
        refine (sameB (pol_bytes P2) (blk_arg Z4 l4.symm)).mono ?_
        rintro e w' ⟨rfl, rfl⟩
        rw [decide_eq_true rfl]
        obtain ⟨c0, c1, c2, c3, c4, _⟩ := cd_cells K
        go_wp2_with fail
        clear c0 c1 c2 c3 c4
        refine (sameInts_any d3 l0.length e3 l0 a3 l0.length c3 l0 w10 (rowz_n R3) (rowz_n R5) (by have := HDL.out; omega)).mono ?_
        rintro e w11 ⟨rfl, d⟩
        rw [decide_eq_true rfl]
        have b := d.below (World.heap w10).size
        clear d
        replace DA := keepB DA b
        replace EM := EM.below b
        replace EZ := EZ.below b
        replace E := E.below b
        replace A1 := A1.below b
        replace A2 := A2.below b
        replace C := C.below b
        replace K := keepB K b
        replace Z1 := keepZ Z1 b
        replace Z2 := keepZ Z2 b
        replace P1 := P1.below b
        replace P2 := P2.below b
        replace R3 := R3.below b
        replace Z3 := keepZ Z3 b
        replace Z4 := keepZ Z4 b
        replace R5 := R5.below b
        replace B := B.trans (b.mono B.size)
        clear b
        obtain ⟨c0, c1, c2, c3, c4, _⟩ := cd_cells K
        go_wp2_with fail
        clear c0 c1 c2 c3 c4
        refine (is_v E (v := .nilIface) (c := 0) (.inl ⟨rfl, rfl⟩)).mono ?_
        rintro e w12 ⟨rfl, b⟩
        replace DA := keepB DA b
        replace EM := EM.below b
        replace EZ := EZ.below b
        replace E := E.below b
        replace A1 := A1.below b
        replace A2 := A2.below b
        replace C := C.below b
        replace K := keepB K b
        replace Z1 := keepZ Z1 b
        replace Z2 := keepZ Z2 b
        replace P1 := P1.below b
        replace P2 := P2.below b
        replace R3 := R3.below b
        replace Z3 := keepZ Z3 b
        replace Z4 := keepZ Z4 b
        replace R5 := R5.below b
        replace B := B.trans (b.mono B.size)
        clear b
        obtain ⟨c0, c1, c2, c3, c4, _⟩ := cd_cells K
        go_wp2_with fail
        clear c0 c1 c2 c3 c4
        refine (dist_any a a' n nb ca cb l l' (by omega) (by omega) w12 A1 A2).mono ?_
        rintro e w' ⟨rfl, rfl⟩
        obtain ⟨c0, c1, c2, c3, c4, _⟩ := cd_cells K
        go_wp2_with fail
        clear c0 c1 c2 c3 c4
        refine (rdist_any a a' n nb ca cb l l' (by omega) (by omega) w12 A1 A2).mono ?_
        rintro e w' ⟨rfl, rfl⟩
        obtain ⟨c0, c1, c2, c3, c4, _⟩ := cd_cells K
        go_wp2_with fail
        clear c0 c1 c2 c3 c4
        refine (fitD_any a n ca l n (by omega) w12 A1).mono ?_
        rintro e w13 ⟨rfl, Z9, b⟩
        rw [← HX.out] at Z9
        replace DA := keepB DA b
        replace EM := EM.below b
        replace EZ := EZ.below b
        replace E := E.below b
        replace A1 := A1.below b
        replace A2 := A2.below b
        replace C := C.below b
        replace K := keepB K b
        replace Z1 := keepZ Z1 b
        replace Z2 := keepZ Z2 b
        replace P1 := P1.below b
        replace P2 := P2.below b
        replace R3 := R3.below b
        replace Z3 := keepZ Z3 b
        replace Z4 := keepZ Z4 b
        replace R5 := R5.below b
        replace B := B.trans (b.mono B.size)
        clear b
        obtain ⟨c0, c1, c2, c3, c4, _⟩ := cd_cells K
        go_wp2_with fail
        clear c0 c1 c2 c3 c4
        refine (sameB (blk_arg Z1 hfZ1.symm) (blk_arg Z9 hfZ1.symm)).mono ?_
        rintro e w' ⟨rfl, rfl⟩
        rw [decide_eq_true rfl]
        go_wp2_with fail
        go_ret
        exact ⟨rfl, B⟩
  · skip
    have HBd : Hid (na ≠ n ∨ nb ≠ pb (deg m t)) := .inl hna
    have t1 : ((na : Int) == (n : Int)) = false := by rw [beq_eq_false_iff_ne]; omega
    have t1a : ¬ (na : Int) = (n : Int) := by omega
    have t1b : ¬ na = n := hna
    have t1c : (na == n) = false := by rw [beq_eq_false_iff_ne]; exact hna
    have t1d : ((na : Int) != (n : Int)) = true := by rw [bne_iff_ne]; omega
    clear hna
    refine (decode_long (m := m) DA C ht40 (E.1.2.2.2.1) A1 A2 (by omega) (by omega) HBd.out).mono ?_
    rintro e w4 ⟨rfl, b⟩
    replace DA := keepB DA b
    replace EM := EM.below b
    replace EZ := EZ.below b
    replace E := E.below b
    replace A1 := A1.below b
    replace A2 := A2.below b
    replace C := C.below b
    replace K := keepB K b
    replace B := B.trans (b.mono B.size)
    clear b
    have el := E.1.2.2.2.1.1
    unfold Sent at el
    have q1 := neq_err (f 3)
    obtain ⟨c0, c1, c2, c3, c4, _⟩ := cd_cells K
    go_wp2_with fail
    clear c0 c1 c2 c3 c4
    clear t1 t1a t1b t1c t1d el q1
    refine (fitD_any a na ca l (n) (by omega) w4 A1).mono ?_
    rintro e w5 ⟨rfl, Z1, b⟩
    have hfZ1 := fitL_length l (n)
    obtain ⟨X, hX⟩ : ∃ X, X = fitL l (n) := ⟨_, rfl⟩
    rw [← hX] at Z1 hfZ1
    have HX := Lib.hid hX
    obtain ⟨gZ1, hgZ1⟩ : ∃ gZ1, gZ1 = w4.heap.size := ⟨_, rfl⟩
    rw [← hgZ1] at Z1 ⊢
    clear hgZ1 hX
    replace DA := keepB DA b
    replace EM := EM.below b
    replace EZ := EZ.below b
    replace E := E.below b
    replace A1 := A1.below b
    replace A2 := A2.below b
    replace C := C.below b
    replace K := keepB K b
    replace B := B.trans (b.mono B.size)
    clear b
    obtain ⟨c0, c1, c2, c3, c4, _⟩ := cd_cells K
    go_wp2_with fail
    clear c0 c1 c2 c3 c4
    refine (rparity_any m t n ga gn gc (deg m t) (by omega) w5).mono ?_
    rintro e w6 ⟨rfl, b⟩
    replace DA := keepB DA b
    replace EM := EM.below b
    replace EZ := EZ.below b
    replace E := E.below b
    replace A1 := A1.below b
    replace A2 := A2.below b
    replace C := C.below b
    replace K := keepB K b
    replace Z1 := keepZ Z1 b
    replace B := B.trans (b.mono B.size)
    clear b
    obtain ⟨c0, c1, c2, c3, c4, _⟩ := cd_cells K
    go_wp2_with fail
    clear c0 c1 c2 c3 c4
    refine (fitD_any a' nb cb l' (pb (deg m t)) (by omega) w6 A2).mono ?_
    rintro e w7 ⟨rfl, Z2, b⟩
    have hfZ2 := fitL_length l' (pb (deg m t))
    obtain ⟨Y, hY⟩ : ∃ Y, Y = fitL l' (pb (deg m t)) := ⟨_, rfl⟩
    rw [← hY] at Z2 hfZ2
    have HY := Lib.hid hY
    obtain ⟨gZ2, hgZ2⟩ : ∃ gZ2, gZ2 = w6.heap.size := ⟨_, rfl⟩
    rw [← hgZ2] at Z2 ⊢
    clear hgZ2 hY
    replace DA := keepB DA b
    replace EM := EM.below b
    replace EZ := EZ.below b
    replace E := E.below b
    replace A1 := A1.below b
    replace A2 := A2.below b
    replace C := C.below b
    replace K := keepB K b
    replace Z1 := keepZ Z1 b
    replace B := B.trans (b.mono B.size)
    clear b
    obtain ⟨c0, c1, c2, c3, c4, _⟩ := cd_cells K
    go_wp2_with fail
    clear c0 c1 c2 c3 c4
    cases hd : dec m t (8 * n + deg m t) (wd m t (val X) (val Y))
    case none => as_aux_lemma =>
      have HD := Lib.hid hd
      clear hd
      refine (decode_any (m := m) ⟨DA, C, EM, EZ, ht1, ht40, hn1, hn2, hRm⟩ (blk_pol Z1 hfZ1.symm (by omega)) (blk_pol Z2 hfZ2.symm (by omega))).mono ?_
      rintro e w8 ⟨b, hq⟩
      rw [HD.out] at hq
      obtain rfl := hq
      replace DA := keepB DA b
      replace EM := EM.below b
      replace EZ := EZ.below b
      replace E := E.below b
      replace A1 := A1.below b
      replace A2 := A2.below b
      replace C := C.below b
      replace K := keepB K b
      replace Z1 := keepZ Z1 b
      replace Z2 := keepZ Z2 b
      replace B := B.trans (b.mono B.size)
      clear b
      obtain ⟨c0, c1, c2, c3, c4, _⟩ := cd_cells K
      go_wp2_with fail
      clear c0 c1 c2 c3 c4
      refine (rdecode_any (m := m) t n ga gn gc ht1 ht40 hn1 hn2 hRm (blk_pol Z1 hfZ1.symm (by omega)) (blk_pol Z2 hfZ2.symm (by omega))).mono ?_
      rintro e w9 ⟨b, hq⟩
      rw [HD.out] at hq
      obtain rfl := hq
      replace DA := keepB DA b
      replace EM := EM.below b
      replace EZ := EZ.below b
      replace E := E.below b
      replace A1 := A1.below b
      replace A2 := A2.below b
      replace C := C.below b
      replace K := keepB K b
      replace Z1 := keepZ Z1 b
      replace Z2 := keepZ Z2 b
      replace B := B.trans (b.mono B.size)
      clear b
      obtain ⟨c0, c1, c2, c3, c4, _⟩ := cd_cells K
      go_wp2_with fail
      clear c0 c1 c2 c3 c4
      refine (sameB (X := []) (Y := []) (Or.inl ⟨rfl, _, _, rfl⟩) (Or.inl ⟨rfl, _, _, rfl⟩)).mono ?_
      rintro e w' ⟨rfl, rfl⟩
      rw [decide_eq_true rfl]
      obtain ⟨c0, c1, c2, c3, c4, _⟩ := cd_cells K
      go_wp2_with fail
      clear c0 c1 c2 c3 c4
      refine (sameB (X := []) (Y := []) (Or.inl ⟨rfl, _, _, rfl⟩) (Or.inl ⟨rfl, _, _, rfl⟩)).mono ?_
      rintro e w' ⟨rfl, rfl⟩
      rw [decide_eq_true rfl]
      obtain ⟨c0, c1, c2, c3, c4, _⟩ := cd_cells K
      go_wp2_with fail
      clear c0 c1 c2 c3 c4
      refine (sameInts_any none 0 0 [] none 0 0 [] w9 ⟨rfl, fun i hi => absurd hi (by simp)⟩ ⟨rfl, fun i hi => absurd hi (by simp)⟩ (by decide)).mono ?_
      rintro e w10 ⟨rfl, d⟩
      rw [decide_eq_true rfl]
      have b := d.below (World.heap w9).size
      clear d
      replace DA := keepB DA b
      replace EM := EM.below b
      replace EZ := EZ.below b
      replace E := E.below b
      replace A1 := A1.below b
      replace A2 := A2.below b
      replace C := C.below b
      replace K := keepB K b
      replace Z1 := keepZ Z1 b
      replace Z2 := keepZ Z2 b
      replace B := B.trans (b.mono B.size)
      clear b
      obtain ⟨c0, c1, c2, c3, c4, _⟩ := cd_cells K
      go_wp2_with fail
      clear c0 c1 c2 c3 c4
      refine (is_v E (v := errOf ym) (c := 106) (.inr ⟨5, by decide, by rw [HFM.out], rfl⟩)).mono ?_
      rintro e w11 ⟨rfl, b⟩
      replace DA := keepB DA b
      replace EM := EM.below b
      replace EZ := EZ.below b
      replace E := E.below b
      replace A1 := A1.below b
      replace A2 := A2.below b
      replace C := C.below b
      replace K := keepB K b
      replace Z1 := keepZ Z1 b
      replace Z2 := keepZ Z2 b
      replace B := B.trans (b.mono B.size)
      clear b
      obtain ⟨c0, c1, c2, c3, c4, _⟩ := cd_cells K
      go_wp2_with fail
      clear c0 c1 c2 c3 c4
      refine (dist_any a a' na nb ca cb l l' (by omega) (by omega) w11 A1 A2).mono ?_
      rintro e w' ⟨rfl, rfl⟩
      obtain ⟨c0, c1, c2, c3, c4, _⟩ := cd_cells K
      go_wp2_with fail
      clear c0 c1 c2 c3 c4
      refine (rdist_any a a' na nb ca cb l l' (by omega) (by omega) w11 A1 A2).mono ?_
      rintro e w' ⟨rfl, rfl⟩
      obtain ⟨c0, c1, c2, c3, c4, _⟩ := cd_cells K
      go_wp2_with fail
      clear c0 c1 c2 c3 c4
      refine (fitD_any a na ca l n (by omega) w11 A1).mono ?_
      rintro e w12 ⟨rfl, Z9, b⟩
      rw [← HX.out] at Z9
      replace DA := keepB DA b
      replace EM := EM.below b
      replace EZ := EZ.below b
      replace E := E.below b
      replace A1 := A1.below b
      replace A2 := A2.below b
      replace C := C.below b
      replace K := keepB K b
      replace Z1 := keepZ Z1 b
      replace Z2 := keepZ Z2 b
      replace B := B.trans (b.mono B.size)
      clear b
      obtain ⟨c0, c1, c2, c3, c4, _⟩ := cd_cells K
      go_wp2_with fail
      clear c0 c1 c2 c3 c4
      refine (sameB (blk_arg Z1 hfZ1.symm) (blk_arg Z9 hfZ1.symm)).mono ?_
      rintro e w' ⟨rfl, rfl⟩
      rw [decide_eq_true rfl]
      go_wp2_with fail
      go_ret
      exact ⟨rfl, B⟩
    case some l0 => as_aux_lemma =>
      have HD := Lib.hid hd
      have HDL : Hid (l0.length ≤ t) := by
        obtain ⟨e, _, hl, hp, _⟩ := dec_some (m := m) hRm ht40 hd
        show _ ≤ _
        rw [hl]
        exact hp
      clear hd
      refine (decode_any (m := m) ⟨DA, C, EM, EZ, ht1, ht40, hn1, hn2, hRm⟩ (blk_pol Z1 hfZ1.symm (by omega)) (blk_pol Z2 hfZ2.symm (by omega))).mono ?_
      rintro e w8 ⟨b, hq⟩
      rw [HD.out] at hq
      obtain ⟨d1, e1, X1, d2, e2, Y1, d3, e3, rfl, N1, N2, R3, v1, v2⟩ := hq
      have HVa := Lib.hid (And.intro v1 v2)
      have P1 := N1.pol
      have P2 := N2.pol
      clear v1 v2 N1 N2
      replace DA := keepB DA b
      replace EM := EM.below b
      replace EZ := EZ.below b
      replace E := E.below b
      replace A1 := A1.below b
      replace A2 := A2.below b
      replace C := C.below b
      replace K := keepB K b
      replace Z1 := keepZ Z1 b
      replace Z2 := keepZ Z2 b
      replace B := B.trans (b.mono B.size)
      clear b
      obtain ⟨c0, c1, c2, c3, c4, _⟩ := cd_cells K
      go_wp2_with fail
      clear c0 c1 c2 c3 c4
      refine (rdecode_any (m := m) t n ga gn gc ht1 ht40 hn1 hn2 hRm (blk_pol Z1 hfZ1.symm (by omega)) (blk_pol Z2 hfZ2.symm (by omega))).mono ?_
      rintro e w9 ⟨b, hq⟩
      rw [HD.out] at hq
      obtain ⟨g3, X2, g4, Y2, a3, c3, rfl, Z3, l3, Z4, l4, R5, v1, v2⟩ := hq
      have HXX : Hid (X2 = X1) := len_inj (by rw [l3]; exact P1.hlen) (by rw [v1, HVa.out.1])
      have HYY : Hid (Y2 = Y1) := len_inj (by rw [l4]; exact P2.hlen) (by rw [v2, HVa.out.2])
      rw [HXX.out] at Z3 l3
      rw [HYY.out] at Z4 l4
      clear v1 v2
      replace DA := keepB DA b
      replace EM := EM.below b
      replace EZ := EZ.below b
      replace E := E.below b
      replace A1 := A1.below b
      replace A2 := A2.below b
      replace C := C.below b
      replace K := keepB K b
      replace Z1 := keepZ Z1 b
      replace Z2 := keepZ Z2 b
      replace P1 := P1.below b
      replace P2 := P2.below b
      replace R3 := R3.below b
      replace B := B.trans (b.mono B.size)
      clear b
      obtain ⟨c0, c1, c2, c3, c4, _⟩ := cd_cells K
      go_wp2_with fail
      clear c0 c1 c2 c3 c4
      refine (sameB (pol_bytes P1) (blk_arg Z3 l3.symm)).mono ?_
      rintro e w' ⟨rfl, rfl⟩
      rw [decide_eq_true rfl]
      obtain ⟨c0, c1, c2, c3, c4, _⟩ := cd_cells K
      go_wp2_with fail
      clear c0 c1 c2 c3 c4
      refine (sameB (pol_bytes P2) (blk_arg Z4 l4.symm)).mono ?_
      rintro e w' ⟨rfl, rfl⟩
      rw [decide_eq_true rfl]
      obtain ⟨c0, c1, c2, c3, c4, _⟩ := cd_cells K
      go_wp2_with fail
      clear c0 c1 c2 c3 c4
      refine (sameInts_any d3 l0.length e3 l0 a3 l0.length c3 l0 w9 (rowz_n R3) (rowz_n R5) (by have := HDL.out; omega)).mono ?_
      rintro e w10 ⟨rfl, d⟩
      rw [decide_eq_true rfl]
      have b := d.below (World.heap w9).size
      clear d
      replace DA := keepB DA b
      replace EM := EM.below b
      replace EZ := EZ.below b
      replace E := E.below b
      replace A1 := A1.below b
      replace A2 := A2.below b
      replace C := C.below b
      replace K := keepB K b
      replace Z1 := keepZ Z1 b
      replace Z2 := keepZ Z2 b
      replace P1 := P1.below b
      replace P2 := P2.below b
      replace R3 := R3.below b
      replace Z3 := keepZ Z3 b
      replace Z4 := keepZ Z4 b
      replace R5 := R5.below b
      replace B := B.trans (b.mono B.size)
      clear b
      obtain ⟨c0, c1, c2, c3, c4, _⟩ := cd_cells K
      go_wp2_with fail
      clear c0 c1 c2 c3 c4
      refine (is_v E (v := .nilIface) (c := 0) (.inl ⟨rfl, rfl⟩)).mono ?_
      rintro e w11 ⟨rfl, b⟩
      replace DA := keepB DA b
      replace EM := EM.below b
      replace EZ := EZ.below b
      replace E := E.below b
      replace A1 := A1.below b
      replace A2 := A2.below b
      replace C := C.below b
      replace K := keepB K b
      replace Z1 := keepZ Z1 b
      replace Z2 := keepZ Z2 b
      replace P1 := P1.below b
      replace P2 := P2.below b
      replace R3 := R3.below b
      replace Z3 := keepZ Z3 b
      replace Z4 := keepZ Z4 b
      replace R5 := R5.below b
      replace B := B.trans (b.mono B.size)
      clear b
      obtain ⟨c0, c1, c2, c3, c4, _⟩ := cd_cells K
      go_wp2_with fail
      clear c0 c1 c2 c3 c4
      refine (dist_any a a' na nb ca cb l l' (by omega) (by omega) w11 A1 A2).mono ?_
      rintro e w' ⟨rfl, rfl⟩
      obtain ⟨c0, c1, c2, c3, c4, _⟩ := cd_cells K
      go_wp2_with fail
      clear c0 c1 c2 c3 c4
      refine (rdist_any a a' na nb ca cb l l' (by omega) (by omega) w11 A1 A2).mono ?_
      rintro e w' ⟨rfl, rfl⟩
      obtain ⟨c0, c1, c2, c3, c4, _⟩ := cd_cells K
      go_wp2_with fail
      clear c0 c1 c2 c3 c4
      refine (fitD_any a na ca l n (by omega) w11 A1).mono ?_
      rintro e w12 ⟨rfl, Z9, b⟩
      rw [← HX.out] at Z9
      replace DA := keepB DA b
      replace EM := EM.below b
      replace EZ := EZ.below b
      replace E := E.below b
      replace A1 := A1.below b
      replace A2 := A2.below b
      replace C := C.below b
      replace K := keepB K b
      replace Z1 := keepZ Z1 b
      replace Z2 := keepZ Z2 b
      replace P1 := P1.below b
      replace P2 := P2.below b
      replace R3 := R3.below b
      replace Z3 := keepZ Z3 b
      replace Z4 := keepZ Z4 b
      replace R5 := R5.below b
      replace B := B.trans (b.mono B.size)
      clear b
      obtain ⟨c0, c1, c2, c3, c4, _⟩ := cd_cells K
      go_wp2_with fail
      clear c0 c1 c2 c3 c4
      refine (sameB (blk_arg Z1 hfZ1.symm) (blk_arg Z9 hfZ1.symm)).mono ?_
      rintro e w' ⟨rfl, rfl⟩
      rw [decide_eq_true rfl]
      go_wp2_with fail
      go_ret
      exact ⟨rfl, B⟩
theorem walk (a0 a1 a2 : Int) (a3 : Option Addr) (len3 cap3 : Nat) (z3 : List Int) (a4 : Option Addr) (len4 cap4 : Nat) (z4 : List Int) (W : World) (w0 : (Lit.int .i64 a0).wf = true) (w1 : (Lit.int .i64 a1).wf = true) (w2 : (Lit.int .i64 a2).wf = true) (w3 : IsRow .u8 W a3 len3 cap3 z3) (w4 : IsRow .u8 W a4 len4 cap4 z4) (h : LaidDecodeSays.Holds W) :
    Calls Tryz.prog 4 #[.int .i64 a0, .int .i64 a1, .int .i64 a2, .slice a3 len3 cap3, .slice a4 len4 cap4] W fun e w' => e = .returned (.bool true) ∧ Below W.heap.size W w' := by
  obtain ⟨f, hE⟩ := h
  have HE : AllErrs W f := hE
  obtain ⟨⟨E0, E1, E2, E3, E4, E5, _⟩, _⟩ := hE
  obtain ⟨l3, h3⟩ := row_pol w3
  obtain ⟨l4, h4⟩ := row_pol w4
  by_cases h1 : 200 < len3
  · exact core1 a0 a1 a2 a3 len3 cap3 l3 a4 len4 cap4 l4 h1 W f _ _ _ rfl E4 E5 E2 HE h3 h4
  · by_cases h2 : 200 < len4
    · exact core2 a0 a1 a2 a3 len3 cap3 l3 a4 len4 cap4 l4 (by omega) h2 W f _ _ _ rfl E4 E5 E2 HE h3 h4
    · exact core a0 a1 a2 a3 len3 cap3 l3 a4 len4 cap4 l4 (by omega) (by omega) W f _ _ _ rfl E4 E5 E2 HE h3 h4
end Go.Proofs.YthmfneepnkgmgaaGreatDoor.walkDecodeSays
