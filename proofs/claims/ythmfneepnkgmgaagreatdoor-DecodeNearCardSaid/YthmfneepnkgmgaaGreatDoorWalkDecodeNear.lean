/- The walk over DecodeNear. By the verifier of shale. -/
import Derived.Test.YthmfneepnkgmgaaGreatDoorGreat1
import Derived.Test.YthmfneepnkgmgaaGreatDoorGreat2
import Derived.Test.YthmfneepnkgmgaaGreatDoorGreat3
import Derived.Test.YthmfneepnkgmgaaGreatDoorGreat4
import Derived.Test.YthmfneepnkgmgaaGreatDoorGreat5
import Derived.Test.YthmfneepnkgmgaaGreatDoorGreat6
import Derived.Test.YthmfneepnkgmgaaGreatDoorGreat7
import Derived.Test.YthmfneepnkgmgaaGreatDoorLaidDecodeNear
import Derived.Deep.Cut
import Derived.Deep.RegionWith
import Derived.BigQuiet
namespace Go.Proofs.YthmfneepnkgmgaaGreatDoor.walkDecodeNear
open Go Go.RowKit Bin Pl Cos Enc Syn Loc Sea Dec
set_option linter.unusedVariables false
set_option maxRecDepth 100000 in
set_option maxHeartbeats 4000000 in
theorem core_long (z1 z2 z3 : Int) (a : Option Addr) (na ca : Nat) (l : List (BitVec 8)) (at' : Option Addr) (nt ct : Nat) (z : Nat → Int) (hnt : nt ≤ 9223372036854775807) (hlong : 60 < nt) (a' : Option Addr) (nb cb : Nat) (l' : List (BitVec 8)) (w : World) (yc ym yz : Addr)
    (EC : ErrAt w 3 yc) (EM : ErrAt w 1 ym) (EZ : ErrAt w 5 yz) (Y1 : Bin.RowZ w at' nt z) (A1 : Pol w a na ca l) (A2 : Pol w a' nb cb l') :
    Calls Tryz.prog 6 #[.int .i64 z1, .int .i64 z2, .int .i64 z3, .slice a na ca, .slice at' nt ct, .slice a' nb cb] w fun e w' => e = .returned (.bool true) ∧ Below w.heap.size w w' := by
  have x60 : (60 : Int) < (nt : Int) := by omega
  have x61 : decide ((60 : Int) < (nt : Int)) = true := decide_eq_true x60
  clear hlong
  go_enter Tryz.func6, Tryz.ntmps6
  go_wp2_with fail
  refine (firstD_any w EC EM EZ).mono ?_
  rintro e w1 ⟨rfl, b⟩
  have B := b
  replace EC := EC.below b
  replace EM := EM.below b
  replace EZ := EZ.below b
  replace Y1 := rowZ_below Y1 b
  replace A1 := A1.below b
  replace A2 := A2.below b
  clear b
  go_wp2_with fail
  refine (madeD_any z1 z2 z3 w1 yc EC).mono ?_
  rintro e w2 ⟨m, t, n, M, s, db, ga, gn, gc, hm5, hm8, ht5, hn12, hmay, rfl, DA, C, G, b⟩
  haveI := M
  replace Y1 := rowZ_below Y1 b
  replace EC := EC.below b
  replace EM := EM.below b
  replace EZ := EZ.below b
  replace A1 := A1.below b
  replace A2 := A2.below b
  replace B := B.trans (b.mono B.size)
  clear b
  clear G EC
  have ht1 := hmay.t1
  have ht40 := hmay.t2
  have hn1 := hmay.n1
  have hn2 := hmay.n2
  have hroom := hmay.room
  have hDpos := deg_pos M.lo ht1
  have hD40 : deg m t ≤ 40 := by
    have h1 := deg_le M.lo t
    have h2 : m * t ≤ 8 * 5 := Nat.mul_le_mul hm8 ht5
    omega
  have hRm : 8 * n + deg m t ≤ Fld.size m := hroom
  have hP0 : pb (deg m t) = (deg m t + 7) / 8 := rfl
  have hP8 : pb (deg m t) ≤ 5 := by omega
  have hP1 : 0 < pb (deg m t) := by omega
  clear hP0
  go_wp2_with fail
  generalize hw : w2.alloc (.cells #[.int .i64 (m : Int), .int .i64 (t : Int), .int .i64 (n : Int), .slice ga gn gc, .int .i64 (deg m t : Int)] 26 (0, 0)) = w3
  obtain ⟨K, b⟩ := newCd w2 w3 _ _ _ _ _ hw
  clear hw
  replace Y1 := rowZ_below Y1 b
  replace DA := keepB DA b
  replace EM := EM.below b
  replace EZ := EZ.below b
  replace A1 := A1.below b
  replace A2 := A2.below b
  replace C := C.below b
  replace B := B.trans (b.mono B.size)
  clear b
  obtain ⟨bq, hbq⟩ : ∃ bq, bq = w2.heap.size := ⟨_, rfl⟩
  rw [← hbq] at K ⊢
  clear hbq
  go_ret
  exact ⟨rfl, B⟩
set_option maxRecDepth 100000 in
set_option maxHeartbeats 4000000 in
theorem core (z1 z2 z3 : Int) (a : Option Addr) (na ca : Nat) (l : List (BitVec 8)) (at' : Option Addr) (nt ct : Nat) (z : Nat → Int) (hnt : nt ≤ 9223372036854775807) (hlong : nt ≤ 60) (a' : Option Addr) (nb cb : Nat) (l' : List (BitVec 8)) (w : World) (yc ym yz : Addr)
    (EC : ErrAt w 3 yc) (EM : ErrAt w 1 ym) (EZ : ErrAt w 5 yz) (Y1 : Bin.RowZ w at' nt z) (A1 : Pol w a na ca l) (A2 : Pol w a' nb cb l') :
    Calls Tryz.prog 6 #[.int .i64 z1, .int .i64 z2, .int .i64 z3, .slice a na ca, .slice at' nt ct, .slice a' nb cb] w fun e w' => e = .returned (.bool true) ∧ Below w.heap.size w w' := by
  have x60 : ¬ (60 : Int) < (nt : Int) := by omega
  have x61 : decide ((60 : Int) < (nt : Int)) = false := decide_eq_false x60
  clear hlong
  go_enter Tryz.func6, Tryz.ntmps6
  go_wp2_with fail
  refine (firstD_any w EC EM EZ).mono ?_
  rintro e w1 ⟨rfl, b⟩
  have B := b
  replace EC := EC.below b
  replace EM := EM.below b
  replace EZ := EZ.below b
  replace Y1 := rowZ_below Y1 b
  replace A1 := A1.below b
  replace A2 := A2.below b
  clear b
  go_wp2_with fail
  refine (madeD_any z1 z2 z3 w1 yc EC).mono ?_
  rintro e w2 ⟨m, t, n, M, s, db, ga, gn, gc, hm5, hm8, ht5, hn12, hmay, rfl, DA, C, G, b⟩
  haveI := M
  replace Y1 := rowZ_below Y1 b
  replace EC := EC.below b
  replace EM := EM.below b
  replace EZ := EZ.below b
  replace A1 := A1.below b
  replace A2 := A2.below b
  replace B := B.trans (b.mono B.size)
  clear b
  clear G EC
  have ht1 := hmay.t1
  have ht40 := hmay.t2
  have hn1 := hmay.n1
  have hn2 := hmay.n2
  have hroom := hmay.room
  have hDpos := deg_pos M.lo ht1
  have hD40 : deg m t ≤ 40 := by
    have h1 := deg_le M.lo t
    have h2 : m * t ≤ 8 * 5 := Nat.mul_le_mul hm8 ht5
    omega
  have hRm : 8 * n + deg m t ≤ Fld.size m := hroom
  have hP0 : pb (deg m t) = (deg m t + 7) / 8 := rfl
  have hP8 : pb (deg m t) ≤ 5 := by omega
  have hP1 : 0 < pb (deg m t) := by omega
  clear hP0
  go_wp2_with fail
  generalize hw : w2.alloc (.cells #[.int .i64 (m : Int), .int .i64 (t : Int), .int .i64 (n : Int), .slice ga gn gc, .int .i64 (deg m t : Int)] 26 (0, 0)) = w3
  obtain ⟨K, b⟩ := newCd w2 w3 _ _ _ _ _ hw
  clear hw
  replace Y1 := rowZ_below Y1 b
  replace DA := keepB DA b
  replace EM := EM.below b
  replace EZ := EZ.below b
  replace A1 := A1.below b
  replace A2 := A2.below b
  replace C := C.below b
  replace B := B.trans (b.mono B.size)
  clear b
  obtain ⟨bq, hbq⟩ : ∃ bq, bq = w2.heap.size := ⟨_, rfl⟩
  rw [← hbq] at K ⊢
  clear hbq
  clear x60 x61
  refine (fitD_any a na ca l n (by omega) w3 A1).mono ?_
  rintro e w4 ⟨rfl, Z1, b⟩
  have hfZ1 := fitL_length l n
  generalize fitL l n = X at Z1 hfZ1
  obtain ⟨gZ1, hgZ1⟩ : ∃ gZ1, gZ1 = w3.heap.size := ⟨_, rfl⟩
  rw [← hgZ1] at Z1 ⊢
  clear hgZ1
  clear A1
  replace Y1 := rowZ_below Y1 b
  replace DA := keepB DA b
  replace EM := EM.below b
  replace EZ := EZ.below b
  replace A2 := A2.below b
  replace C := C.below b
  replace K := keepB K b
  replace B := B.trans (b.mono B.size)
  clear b
  obtain ⟨c0, c1, c2, c3, c4, _⟩ := cd_cells K
  go_wp2_with fail
  clear c0 c1 c2 c3 c4
  refine (codeD_any DA).mono ?_
  rintro e w' ⟨rfl, rfl⟩
  obtain ⟨c0, c1, c2, c3, c4, _⟩ := cd_cells K
  go_wp2_with fail
  clear c0 c1 c2 c3 c4
  refine (fast_any (m := m) ht1 ht40 w4 s C _ n X (blk_pol Z1 hfZ1.symm (by omega)) hn2).mono ?_
  rintro e w5 ⟨g2, rfl, Z2, b, _⟩
  have hRl := par_lt (m := m) t (val X)
  have HQl := byN_length (par m t (val X)) (pb (deg m t))
  have HQv : val (byN (par m t (val X)) (pb (deg m t))) = par m t (val X) := val_byN (pb_room hRl)
  replace Z2 : Blk8 w5 g2 (byN (par m t (val X)) (pb (deg m t))) := Z2
  obtain ⟨Q, hQ⟩ : ∃ Q, Q = byN (par m t (val X)) (pb (deg m t)) := ⟨_, rfl⟩
  rw [← hQ] at Z2 HQl HQv
  clear hQ
  have HQ := Lib.hid (And.intro HQv hRl)
  clear HQv hRl
  obtain ⟨N, hN⟩ : ∃ N, N = 8 * n + deg m t := ⟨_, rfl⟩
  have HN := Lib.hid hN
  have hN2 : N ≤ 1000000 := by omega
  have hN1 : 0 < N := by omega
  clear hN
  replace Y1 := rowZ_below Y1 b
  replace DA := keepB DA b
  replace EM := EM.below b
  replace EZ := EZ.below b
  replace A2 := A2.below b
  replace C := C.below b
  replace K := keepB K b
  replace Z1 := keepZ Z1 b
  replace B := B.trans (b.mono B.size)
  clear b
  obtain ⟨c0, c1, c2, c3, c4, _⟩ := cd_cells K
  go_wp2_with fail
  clear c0 c1 c2 c3 c4
  refine (copy_any gZ1 0 n n X w5 Z1.row hfZ1.symm (by omega)).mono ?_
  rintro e w6 ⟨rfl, Z3, b⟩
  obtain ⟨g3, hg3⟩ : ∃ g3, g3 = w5.heap.size := ⟨_, rfl⟩
  rw [← hg3] at Z3 ⊢
  clear hg3
  replace Y1 := rowZ_below Y1 b
  replace DA := keepB DA b
  replace EM := EM.below b
  replace EZ := EZ.below b
  replace A2 := A2.below b
  replace C := C.below b
  replace K := keepB K b
  replace Z1 := keepZ Z1 b
  replace Z2 := keepZ Z2 b
  replace B := B.trans (b.mono B.size)
  clear b
  obtain ⟨c0, c1, c2, c3, c4, _⟩ := cd_cells K
  go_wp2_with fail
  clear c0 c1 c2 c3 c4
  refine (copy_any g2 0 (pb (deg m t)) (pb (deg m t)) Q w6 Z2.row HQl.symm (by omega)).mono ?_
  rintro e w7 ⟨rfl, Z4, b⟩
  obtain ⟨g4, hg4⟩ : ∃ g4, g4 = w6.heap.size := ⟨_, rfl⟩
  rw [← hg4] at Z4 ⊢
  clear hg4
  replace Y1 := rowZ_below Y1 b
  replace DA := keepB DA b
  replace EM := EM.below b
  replace EZ := EZ.below b
  replace A2 := A2.below b
  replace C := C.below b
  replace K := keepB K b
  replace Z1 := keepZ Z1 b
  replace Z2 := keepZ Z2 b
  replace Z3 := keepZ Z3 b
  replace B := B.trans (b.mono B.size)
  clear b
  obtain ⟨c0, c1, c2, c3, c4, _⟩ := cd_cells K
  go_wp2_with fail
  clear c0 c1 c2 c3 c4
  obtain ⟨wa, rfl⟩ : ∃ wa, wa = w7 := ⟨_, rfl⟩
  have HS : Hid (CodeAt m t n wa s ∧ decAt wa db s ∧ wa.heap[bq]? = some (cdO (.int .i64 (m : Int)) (.int .i64 (t : Int)) (.int .i64 (n : Int)) (.slice ga gn gc) (.int .i64 (deg m t : Int))) ∧ Blk8 wa gZ1 X ∧ Blk8 wa g2 Q ∧ ErrAt wa 1 ym ∧ ErrAt wa 5 yz ∧ Bin.RowZ wa at' nt z ∧ Pol wa a' nb cb l' ∧ Below w.heap.size w wa) := ⟨C, DA, K, Z1, Z2, EM, EZ, Y1, A2, B⟩
  have P1 : Pol wa (some ⟨g3, 0, none⟩) n n X := blk_pol Z3 hfZ1.symm (by omega)
  have P2 : Pol wa (some ⟨g4, 0, none⟩) (pb (deg m t)) (pb (deg m t)) Q := blk_pol Z4 HQl.symm (by omega)
  have HI0 : Hid (Pol wa (some ⟨g3, 0, none⟩) n n X ∧ Pol wa (some ⟨g4, 0, none⟩) (pb (deg m t)) (pb (deg m t)) Q ∧ Below wa.heap.size wa wa) := ⟨P1, P2, Below.refl _ _⟩
  clear Z3 Z4 Z1 Z2 C DA K EM EZ Y1 A2 B P1 P2
  go_loopg [20, 21, 22] nt (fun gh s20 s21 s22 wx => ∃ (i : Nat) (ad : Option Addr) (cd : Nat) (ap : Option Addr) (cp : Nat) (Xi Yi : List (BitVec 8)), gh = nt - i ∧ i ≤ nt ∧ s22 = .int .i64 (i : Int) ∧ s20 = .slice ad n cd ∧ s21 = .slice ap (pb (deg m t)) cp ∧ Hid (Pol wx ad n cd Xi ∧ Pol wx ap (pb (deg m t)) cp Yi ∧ Below wa.heap.size wa wx))
  case atStart => exact ⟨0, _, _, _, _, X, Q, rfl, Nat.zero_le _, rfl, rfl, rfl, HI0⟩
  case round =>
    clear HI0
    obtain ⟨i, ad, cd, ap, cp, Xi, Yi, hg, hile, rfl, rfl, rfl, HI⟩ := hrel
    have HGh := Lib.hid hg
    clear hg
    obtain ⟨w30, rfl⟩ : ∃ w30, w30 = wr := ⟨_, rfl⟩
    obtain ⟨C, DA, K, Z1, Z2, EM, EZ, Y1, A2, B⟩ := HS.out
    obtain ⟨PX, PY, hO⟩ := HI.out
    replace C := C.below hO
    replace DA := keepB DA hO
    replace K := keepB K hO
    replace Z1 := keepZ Z1 hO
    replace Z2 := keepZ Z2 hO
    replace EM := EM.below hO
    replace EZ := EZ.below hO
    replace Y1 := rowZ_below Y1 hO
    replace A2 := A2.below hO
    have BB := B.trans (hO.mono B.size)
    clear HI
    by_cases hlt : i < nt
    · have x1 : (i : Int) < (nt : Int) := by omega
      have x3 : decide ((i : Int) < (nt : Int)) = true := decide_eq_true x1
      have x0 : (0 : Int) ≤ (i : Int) := by omega
      obtain ⟨bb, off, ea, d1, hbb⟩ := Y1 i hlt
      subst ea
      have hlA := lt_of_block K
      have HS9 : Hid (∀ w', Below w30.heap.size w30 w' → (w'.cell? ⟨bb, off + i, none⟩ = some (.int .i64 (z i)) ∧ (w'.cell? ⟨bq, 0, none⟩ = some (.int .i64 (m : Int)) ∧ w'.cell? ⟨bq, 1, none⟩ = some (.int .i64 (t : Int)) ∧ w'.cell? ⟨bq, 2, none⟩ = some (.int .i64 (n : Int)) ∧ w'.cell? ⟨bq, 3, none⟩ = some (.slice ga gn gc) ∧ w'.cell? ⟨bq, 4, none⟩ = some (.int .i64 (deg m t : Int)) ∧ Below w30.heap.size w30 w'))) := fun w' b => by
        obtain ⟨c0, c1, c2, c3, c4, _⟩ := cd_cells ((b.block bq hlA).trans K)
        exact ⟨by rw [← d1]; exact b.cell (p := ⟨bb, off + i, none⟩) hbb, c0, c1, c2, c3, c4, b⟩
      obtain ⟨r1, r2, k, hk, r3⟩ := norm_var (z i) N hN1 hN2
      have r4 : IntKind.i64.wrap ((z i).tmod (N : Int) + (N : Int)) = (z i).tmod (N : Int) + (N : Int) := IntWalk.i64_in _ (by omega)
      have HC9 : Hid (∀ w' (_ : (w'.cell? ⟨bb, off + i, none⟩ = some (.int .i64 (z i)) ∧ (w'.cell? ⟨bq, 0, none⟩ = some (.int .i64 (m : Int)) ∧ w'.cell? ⟨bq, 1, none⟩ = some (.int .i64 (t : Int)) ∧ w'.cell? ⟨bq, 2, none⟩ = some (.int .i64 (n : Int)) ∧ w'.cell? ⟨bq, 3, none⟩ = some (.slice ga gn gc) ∧ w'.cell? ⟨bq, 4, none⟩ = some (.int .i64 (deg m t : Int)) ∧ Below w30.heap.size w30 w'))), Calls Tryz.prog 23 #[.pointer (some ⟨db, 0, none⟩)] w' fun e w'' => e = .returned (.pointer (some ⟨s, 0, none⟩)) ∧ w' = w'') := fun w' hs => codeD_any (keepB DA hs.2.2.2.2.2.2)
      have HB9 : Hid (∀ w' (_ : (w'.cell? ⟨bb, off + i, none⟩ = some (.int .i64 (z i)) ∧ (w'.cell? ⟨bq, 0, none⟩ = some (.int .i64 (m : Int)) ∧ w'.cell? ⟨bq, 1, none⟩ = some (.int .i64 (t : Int)) ∧ w'.cell? ⟨bq, 2, none⟩ = some (.int .i64 (n : Int)) ∧ w'.cell? ⟨bq, 3, none⟩ = some (.slice ga gn gc) ∧ w'.cell? ⟨bq, 4, none⟩ = some (.int .i64 (deg m t : Int)) ∧ Below w30.heap.size w30 w'))), Calls Tryz.prog 25 #[cdV m t n ga gn gc (deg m t)] w' fun e w'' => e = .returned (.int .i64 (N : Int)) ∧ (w''.cell? ⟨bb, off + i, none⟩ = some (.int .i64 (z i)) ∧ (w''.cell? ⟨bq, 0, none⟩ = some (.int .i64 (m : Int)) ∧ w''.cell? ⟨bq, 1, none⟩ = some (.int .i64 (t : Int)) ∧ w''.cell? ⟨bq, 2, none⟩ = some (.int .i64 (n : Int)) ∧ w''.cell? ⟨bq, 3, none⟩ = some (.slice ga gn gc) ∧ w''.cell? ⟨bq, 4, none⟩ = some (.int .i64 (deg m t : Int)) ∧ Below w30.heap.size w30 w''))) := fun w' hs => (rbits_any m t n ga gn gc (deg m t) (by omega) hn2 w').mono fun e w'' h => ⟨by rw [HN.out]; exact h.1, HS9.out w'' (hs.2.2.2.2.2.2.trans (h.2.mono hs.2.2.2.2.2.2.size))⟩
      have HF9 : Hid (∀ w' (_ : (w'.cell? ⟨bb, off + i, none⟩ = some (.int .i64 (z i)) ∧ (w'.cell? ⟨bq, 0, none⟩ = some (.int .i64 (m : Int)) ∧ w'.cell? ⟨bq, 1, none⟩ = some (.int .i64 (t : Int)) ∧ w'.cell? ⟨bq, 2, none⟩ = some (.int .i64 (n : Int)) ∧ w'.cell? ⟨bq, 3, none⟩ = some (.slice ga gn gc) ∧ w'.cell? ⟨bq, 4, none⟩ = some (.int .i64 (deg m t : Int)) ∧ Below w30.heap.size w30 w'))), Calls Tryz.prog 26 #[.pointer (some ⟨s, 0, none⟩), .slice ad n cd, .slice ap (pb (deg m t)) cp, .int .i64 (k : Int)] w' fun e w'' => ∃ a1 p1 X1 a2 p2 V1, e = .returned (.tuple #[.slice a1 n p1, .slice a2 (pb (deg m t)) p2, .nilIface]) ∧ Pol w'' a1 n p1 X1 ∧ Pol w'' a2 (pb (deg m t)) p2 V1 ∧ (w''.cell? ⟨bb, off + i, none⟩ = some (.int .i64 (z i)) ∧ (w''.cell? ⟨bq, 0, none⟩ = some (.int .i64 (m : Int)) ∧ w''.cell? ⟨bq, 1, none⟩ = some (.int .i64 (t : Int)) ∧ w''.cell? ⟨bq, 2, none⟩ = some (.int .i64 (n : Int)) ∧ w''.cell? ⟨bq, 3, none⟩ = some (.slice ga gn gc) ∧ w''.cell? ⟨bq, 4, none⟩ = some (.int .i64 (deg m t : Int)) ∧ Below w30.heap.size w30 w''))) := fun w' hs => (flip_any (m := m) ht1 ht40 w' s (C.below hs.2.2.2.2.2.2) ad cd Xi (PX.below hs.2.2.2.2.2.2) hn2 ap cp Yi (PY.below hs.2.2.2.2.2.2) k (by rw [← HN.out]; exact hk)).mono fun e w'' h => by
        obtain ⟨a1, p1, X1, a2, p2, V1, h1, N1, N2, _, _, b9⟩ := h
        exact ⟨a1, p1, X1, a2, p2, V1, h1, N1.pol, N2.pol, HS9.out w'' (hs.2.2.2.2.2.2.trans (b9.mono hs.2.2.2.2.2.2.size))⟩
      have r6 : ¬ (N : Int) = 0 := by omega
      have r7 : ((N : Int) == 0) = false := by rw [beq_eq_false_iff_ne]; exact r6
      have r8 : (0 : Int) < (N : Int) := by omega
      have r9 : ¬ N = 0 := by omega
      have hS0 := HS9.out w30.drew ((Drawn.mk w30 1).below _)
      have HO := Lib.hid hO
      have HI1 : Hid (i + 1 ≤ nt) := hlt
      generalize z i = zi at d1 r1 r2 r3 r4 HS9 HC9 HB9 HF9 hS0
      clear C DA K Z1 Z2 EM EZ Y1 A2 B BB PX PY hO hlA d1 hlt
      go_wp2_with fail
      go_region_held3 (fun w' => (w'.cell? ⟨bb, off + i, none⟩ = some (.int .i64 zi) ∧ (w'.cell? ⟨bq, 0, none⟩ = some (.int .i64 (m : Int)) ∧ w'.cell? ⟨bq, 1, none⟩ = some (.int .i64 (t : Int)) ∧ w'.cell? ⟨bq, 2, none⟩ = some (.int .i64 (n : Int)) ∧ w'.cell? ⟨bq, 3, none⟩ = some (.slice ga gn gc) ∧ w'.cell? ⟨bq, 4, none⟩ = some (.int .i64 (deg m t : Int)) ∧ Below w30.heap.size w30 w')))
        (first | assumption | exact ⟨by assumption, by assumption, by assumption, by assumption, by assumption, by assumption, by assumption⟩)
        (first
          | (go_at_call 23; refine Calls.mono (HC9.out _ (by assumption)) ?_; rintro e w1 ⟨rfl, rfl⟩)
          | (go_at_call 25; refine Calls.mono (HB9.out _ (by assumption)) ?_; rintro e w1 ⟨rfl, q1⟩)
          | (go_at_call 26; refine Calls.mono (HF9.out _ (by assumption)) ?_; rintro e w1 ⟨a1, p1, X1, a2, p2, V1, rfl, q4, q5, q6⟩))
      have bw := q6.2.2.2.2.2.2
      have HN9 : Hid (Pol w1 a1 n p1 X1 ∧ Pol w1 a2 (pb (deg m t)) p2 V1 ∧ Below wa.heap.size wa w1) := ⟨q4, q5, HO.out.trans (bw.mono HO.out.size)⟩
      clear q4 q5 q6 bw HS9 HC9 HB9 HF9 hS0 r6 r7 r8 r9
      go_wp2_with fail
      go_roundg (nt - (i + 1))
      case measure => have := HGh.out; have := HI1.out; omega
      case rel => exact ⟨i + 1, a1, p1, a2, p2, X1, V1, rfl, HI1.out, by go_num, rfl, rfl, HN9⟩
    · have x1 : ¬ (i : Int) < (nt : Int) := by omega
      have x3 : decide ((i : Int) < (nt : Int)) = false := decide_eq_false x1
      have HW := Lib.hid (And.intro C (And.intro DA (And.intro K (And.intro Z1 (And.intro Z2 (And.intro EM (And.intro EZ (And.intro A2 BB))))))))
      have HI0 : Hid (Pol w30 ap (pb (deg m t)) cp Yi ∧ Below w30.heap.size w30 w30) := ⟨PY, Below.refl _ _⟩
      have HPX := Lib.hid PX
      clear C DA K Z1 Z2 EM EZ Y1 A2 B BB PX PY hO hlt HS HGh
      go_wp2_with fail
      go_loopg [21, 23] 2 (fun gh s21 s23 wx => ∃ (r : Nat) (ap : Option Addr) (cp : Nat) (Yi : List (BitVec 8)), gh = 2 - r ∧ r ≤ 2 ∧ s23 = .int .i64 (r : Int) ∧ s21 = .slice ap (pb (deg m t)) cp ∧ Hid (Pol wx ap (pb (deg m t)) cp Yi ∧ Below w30.heap.size w30 wx))
      case atStart => exact ⟨0, ap, cp, Yi, rfl, Nat.zero_le _, rfl, rfl, HI0⟩
      case round =>
        clear HI0
        obtain ⟨r, ap, cp, Yi, hg, hr, rfl, rfl, HI⟩ := hrel
        have HGr := Lib.hid hg
        clear hg
        obtain ⟨w40, rfl⟩ : ∃ w40, w40 = wr := ⟨_, rfl⟩
        obtain ⟨C, DA, K, Z1, Z2, EM, EZ, A2, B⟩ := HW.out
        obtain ⟨PY, hO⟩ := HI.out
        have PX := HPX.out.below hO
        replace C := C.below hO
        replace DA := keepB DA hO
        replace K := keepB K hO
        replace Z1 := keepZ Z1 hO
        replace Z2 := keepZ Z2 hO
        replace EM := EM.below hO
        replace EZ := EZ.below hO
        replace A2 := A2.below hO
        replace B := B.trans (hO.mono B.size)
        by_cases hr2 : r < 2
        · have x5 : (r : Int) < 2 := by omega
          have x6 : decide ((r : Int) < 2) = true := decide_eq_true x5
          have x7 : (0 : Int) ≤ (r : Int) := by omega
          have HR2 : Hid (r + 1 ≤ 2) := hr2
          obtain ⟨Yc, hYc⟩ : ∃ Yc, Yc = byN (val Yi % 2 ^ deg m t) (pb (deg m t)) := ⟨_, rfl⟩
          have hYl : val Yi % 2 ^ deg m t < 2 ^ deg m t := Nat.mod_lt _ (Nat.two_pow_pos _)
          have hYcv : val Yc = val Yi % 2 ^ deg m t := by rw [hYc]; exact val_byN (pb_room hYl)
          have hYcl : Yc.length = (pb (deg m t)) := by rw [hYc, byN_length]
          have hXl : val Xi < 2 ^ (8 * n) := by have := val_lt Xi; rwa [← PX.hlen] at this
          have hX0 : val X < 2 ^ (8 * n) := by have := val_lt X; rwa [hfZ1] at this
          obtain ⟨q1, q2, q3⟩ := apart_word (n := n) hXl hX0 hYl HQ.out.2
          obtain ⟨e, he⟩ : ∃ e, e = wrd (deg m t) (val Xi ^^^ val X) (val Yi % 2 ^ deg m t ^^^ par m t (val X)) := ⟨_, rfl⟩
          rw [← he] at q1 q2 q3
          have HE : Hid (e < 2 ^ (8 * n + deg m t) ∧ wd m t (val Xi) (val Yi) = wrd (deg m t) (val X) (par m t (val X)) ^^^ e) := ⟨q1, q3⟩
          obtain ⟨nr, hnr⟩ : ∃ nr, nr = pop e (8 * n + deg m t) := ⟨_, rfl⟩
          obtain ⟨p1, hp1⟩ : ∃ p1, p1 = pop (val Xi ^^^ val X) (8 * n) := ⟨_, rfl⟩
          obtain ⟨p2, hp2⟩ : ∃ p2, p2 = pop (val Yc ^^^ val Q) (8 * (pb (deg m t))) := ⟨_, rfl⟩
          have hsum : nr = p1 + p2 := by rw [hnr, hp1, hp2, hYcv, HQ.out.1]; exact q2
          have hnl : nr ≤ 1000000 := by have := pop_le e (8 * n + deg m t); omega
          have HNR := Lib.hid (And.intro hnr (And.intro hXl (And.intro hYl hYcv)))
          have HYC := Lib.hid hYc
          have hlA := lt_of_block K
          have HS9 : Hid (∀ w', Below w40.heap.size w40 w' → (w'.cell? ⟨bq, 0, none⟩ = some (.int .i64 (m : Int)) ∧ w'.cell? ⟨bq, 1, none⟩ = some (.int .i64 (t : Int)) ∧ w'.cell? ⟨bq, 2, none⟩ = some (.int .i64 (n : Int)) ∧ w'.cell? ⟨bq, 3, none⟩ = some (.slice ga gn gc) ∧ w'.cell? ⟨bq, 4, none⟩ = some (.int .i64 (deg m t : Int)) ∧ Below w40.heap.size w40 w')) := fun w' b => by
            obtain ⟨c0, c1, c2, c3, c4, _⟩ := cd_cells ((b.block bq hlA).trans K)
            exact ⟨c0, c1, c2, c3, c4, b⟩
          have HA1 : Hid (∀ w' (_ : (w'.cell? ⟨bq, 0, none⟩ = some (.int .i64 (m : Int)) ∧ w'.cell? ⟨bq, 1, none⟩ = some (.int .i64 (t : Int)) ∧ w'.cell? ⟨bq, 2, none⟩ = some (.int .i64 (n : Int)) ∧ w'.cell? ⟨bq, 3, none⟩ = some (.slice ga gn gc) ∧ w'.cell? ⟨bq, 4, none⟩ = some (.int .i64 (deg m t : Int)) ∧ Below w40.heap.size w40 w')), Calls Tryz.prog 22 #[.slice ad n cd, .slice (some ⟨gZ1, 0, none⟩) n n] w' fun e w'' => e = .returned (.int .i64 (p1 : Int)) ∧ w' = w'') := fun w' hs => by rw [hp1]; exact distance_any _ _ n _ _ Xi X (by omega) w' (PX.below hs.2.2.2.2.2) ((blk_pol Z1 hfZ1.symm (by omega)).below hs.2.2.2.2.2)
          have HA2 : Hid (∀ w' (_ : (w'.cell? ⟨bq, 0, none⟩ = some (.int .i64 (m : Int)) ∧ w'.cell? ⟨bq, 1, none⟩ = some (.int .i64 (t : Int)) ∧ w'.cell? ⟨bq, 2, none⟩ = some (.int .i64 (n : Int)) ∧ w'.cell? ⟨bq, 3, none⟩ = some (.slice ga gn gc) ∧ w'.cell? ⟨bq, 4, none⟩ = some (.int .i64 (deg m t : Int)) ∧ Below w40.heap.size w40 w')), Calls Tryz.prog 13 #[cdV m t n ga gn gc (deg m t), .slice ap (pb (deg m t)) cp] w' fun e w'' => ∃ g9, e = .returned (.slice (some ⟨g9, 0, none⟩) (pb (deg m t)) (pb (deg m t))) ∧ (w''.cell? ⟨bq, 0, none⟩ = some (.int .i64 (m : Int)) ∧ w''.cell? ⟨bq, 1, none⟩ = some (.int .i64 (t : Int)) ∧ w''.cell? ⟨bq, 2, none⟩ = some (.int .i64 (n : Int)) ∧ w''.cell? ⟨bq, 3, none⟩ = some (.slice ga gn gc) ∧ w''.cell? ⟨bq, 4, none⟩ = some (.int .i64 (deg m t : Int)) ∧ Below w40.heap.size w40 w'') ∧ Blk8 w'' g9 Yc) := fun w' hs => (rclear_any m t n ga gn gc (deg m t) (pb (deg m t)) (by omega) rfl _ _ Yi w' (PY.below hs.2.2.2.2.2)).mono fun e w'' h => by
            obtain ⟨g9, Y2, h1, h2, h3, h4, _, h6⟩ := h
            obtain rfl : Y2 = Yc := len_inj (by rw [h3, hYcl]) (by rw [h4, hYcv])
            exact ⟨g9, h1, HS9.out w'' (hs.2.2.2.2.2.trans (h6.mono hs.2.2.2.2.2.size)), h2⟩
          have HA3 : Hid (∀ w' g9 (_ : (w'.cell? ⟨bq, 0, none⟩ = some (.int .i64 (m : Int)) ∧ w'.cell? ⟨bq, 1, none⟩ = some (.int .i64 (t : Int)) ∧ w'.cell? ⟨bq, 2, none⟩ = some (.int .i64 (n : Int)) ∧ w'.cell? ⟨bq, 3, none⟩ = some (.slice ga gn gc) ∧ w'.cell? ⟨bq, 4, none⟩ = some (.int .i64 (deg m t : Int)) ∧ Below w40.heap.size w40 w')) (_ : Blk8 w' g9 Yc), Calls Tryz.prog 22 #[.slice (some ⟨g9, 0, none⟩) (pb (deg m t)) (pb (deg m t)), .slice (some ⟨g2, 0, none⟩) (pb (deg m t)) (pb (deg m t))] w' fun e w'' => e = .returned (.int .i64 (p2 : Int)) ∧ w' = w'') := fun w' g9 hs hb => by rw [hp2]; exact distance_any _ _ (pb (deg m t)) _ _ Yc Q (by omega) w' (blk_pol hb hYcl.symm (by omega)) ((blk_pol Z2 HQl.symm (by omega)).below hs.2.2.2.2.2)
          have r4 : IntKind.i64.wrap ((p1 : Int) + (p2 : Int)) = (nr : Int) := by rw [IntWalk.i64_in _ (by omega)]; omega
          have hS0 := HS9.out w40.drew ((Drawn.mk w40 1).below _)
          have HW4 := Lib.hid (And.intro C (And.intro DA (And.intro K (And.intro Z1 (And.intro Z2 (And.intro EM (And.intro EZ (And.intro A2 (And.intro B (And.intro PX (And.intro PY hO)))))))))))
          clear C DA K Z1 Z2 EM EZ A2 B PX PY hO HI hp1 hp2 hsum hnr hYc hYcv hYl hXl hX0 q1 q2 q3 he hlA hr2
          go_wp2_with fail
          go_region_held3 (fun w' => (w'.cell? ⟨bq, 0, none⟩ = some (.int .i64 (m : Int)) ∧ w'.cell? ⟨bq, 1, none⟩ = some (.int .i64 (t : Int)) ∧ w'.cell? ⟨bq, 2, none⟩ = some (.int .i64 (n : Int)) ∧ w'.cell? ⟨bq, 3, none⟩ = some (.slice ga gn gc) ∧ w'.cell? ⟨bq, 4, none⟩ = some (.int .i64 (deg m t : Int)) ∧ Below w40.heap.size w40 w'))
            (first | assumption | exact ⟨by assumption, by assumption, by assumption, by assumption, by assumption, by assumption⟩)
            (first
              | (go_at_call 22; (with_reducible refine Calls.mono (HA1.out _ (by assumption)) ?_); rintro e w1 ⟨rfl, rfl⟩)
              | (go_at_call 13; (with_reducible refine Calls.mono (HA2.out _ (by assumption)) ?_); rintro e w1 ⟨g9, rfl, z1, z2⟩)
              | (go_at_call 22; (with_reducible refine Calls.mono (HA3.out _ _ (by assumption) (by assumption)) ?_); rintro e w1 ⟨rfl, rfl⟩))
          have bw := z1.2.2.2.2.2
          obtain ⟨C, DA, K, Z1, Z2, EM, EZ, A2, B, PX, PY, hO⟩ := HW4.out
          replace C := C.below bw
          replace DA := keepB DA bw
          replace K := keepB K bw
          replace Z1 := keepZ Z1 bw
          replace Z2 := keepZ Z2 bw
          replace EM := EM.below bw
          replace EZ := EZ.below bw
          replace A2 := A2.below bw
          replace PX := PX.below bw
          replace PY := PY.below bw
          replace hO := hO.trans (bw.mono hO.size)
          replace B := B.trans (bw.mono B.size)
          clear z1 z2 bw HW4 HS9 HA1 HA2 HA3 hS0 r4
          obtain ⟨w41, rfl⟩ : ∃ w41, w41 = w1 := ⟨_, rfl⟩
          go_wp2_with fail
          cases hd : dec m t (8 * n + deg m t) (wd m t (val Xi) (val Yi))
          case none =>
            have hfar : t < nr := by
              refine Nat.lt_of_not_le fun hle => ?_
              have := dec_near (m := m) hRm ht40 (X := val X) HE.out.1 (by rw [← HNR.out.1]; exact hle)
              rw [← HE.out.2, hd] at this
              cases this
            have t1 : ¬ (nr : Int) ≤ (t : Int) := by omega
            have t2 : decide ((nr : Int) ≤ (t : Int)) = false := decide_eq_false t1
            have t3 : ¬ nr ≤ t := by omega
            have t4 : decide (nr ≤ t) = false := decide_eq_false t3
            clear hfar
            refine (decode_any (m := m) ⟨DA, C, EM, EZ, ht1, ht40, hn1, hn2, hRm⟩ PX PY).mono ?_
            rintro en w42 ⟨b, hq⟩
            rw [hd] at hq
            obtain rfl := hq
            replace hO := hO.trans (b.mono hO.size)
            replace DA := keepB DA b
            replace C := C.below b
            replace K := keepB K b
            replace Z1 := keepZ Z1 b
            replace Z2 := keepZ Z2 b
            replace EM := EM.below b
            replace EZ := EZ.below b
            replace A2 := A2.below b
            replace PX := PX.below b
            replace PY := PY.below b
            replace B := B.trans (b.mono B.size)
            clear b
            have em := EM.1
            unfold Sent at em
            have q1 := neq_err ym
            clear hd
            obtain ⟨c0, c1, c2, c3, c4, _⟩ := cd_cells K
            go_wp2_with fail
            clear c0 c1 c2 c3 c4
            clear em q1 t1 t2 t3 t4
            refine (rparity_any m t n ga gn gc (deg m t) (by omega) w42).mono ?_
            rintro e w43 ⟨rfl, b⟩
            replace hO := hO.trans (b.mono hO.size)
            replace DA := keepB DA b
            replace C := C.below b
            replace K := keepB K b
            replace Z1 := keepZ Z1 b
            replace Z2 := keepZ Z2 b
            replace EM := EM.below b
            replace EZ := EZ.below b
            replace A2 := A2.below b
            replace PX := PX.below b
            replace PY := PY.below b
            replace B := B.trans (b.mono B.size)
            clear b
            obtain ⟨c0, c1, c2, c3, c4, _⟩ := cd_cells K
            go_wp2_with fail
            clear c0 c1 c2 c3 c4
            refine (fitD_any a' nb cb l' (pb (deg m t)) (by omega) w43 A2).mono ?_
            rintro e w60 ⟨rfl, Z9, b⟩
            have hZ9 := fitL_length l' (pb (deg m t))
            have HI9 : Hid (Pol w60 (some ⟨w43.heap.size, 0, none⟩) (pb (deg m t)) (pb (deg m t)) (fitL l' (pb (deg m t))) ∧ Below w30.heap.size w30 w60) := ⟨blk_pol Z9 hZ9.symm (by omega), hO.trans (b.mono hO.size)⟩
            obtain ⟨g9, hg9⟩ : ∃ g9, g9 = w43.heap.size := ⟨_, rfl⟩
            rw [← hg9] at HI9 ⊢
            clear hg9 Z9 b C DA K Z1 Z2 EM EZ A2 PX PY hO B
            go_wp2_with fail
            go_roundg (2 - (r + 1))
            case measure => have := HGr.out; have := HR2.out; omega
            case rel => exact ⟨r + 1, _, _, _, rfl, HR2.out, by go_num, rfl, HI9⟩
          case some l0 =>
            have hX0 : val X < 2 ^ (8 * n) := by have := val_lt X; rwa [hfZ1] at this
            obtain ⟨e0, V, he0, hl0, hp0, hw0, hV0, hs0⟩ := dec_parts (m := m) (n := n) hRm ht40 HNR.out.2.1 HNR.out.2.2.1 hd
            have hone : nr ≤ t → V = val X := fun hle => (near_one (m := m) hRm ht40 HE.out.1 he0 (by rw [← HNR.out.1]; exact hle) HE.out.2 hw0 hd hl0).1
            have HNr := near_any (m := m) ⟨DA, C, EM, EZ, ht1, ht40, hn1, hn2, hRm⟩ PX PY (V := V) he0 hp0 hw0
            unfold NearPost at HNr
            obtain ⟨fr, hfr⟩ : ∃ fr, fr = pop e0 (8 * n + deg m t) := ⟨_, rfl⟩
            rw [← hfr] at HNr hs0 hp0
            have HON := Lib.hid hone
            have HSU := Lib.hid hs0
            clear hd hl0 he0 hw0 hX0 hone hs0 hfr
            refine HNr.mono ?_
            rintro en w42 ⟨b, d1, e1, X1, d2, e2, Y1, d3, e3, rfl, N1, N2, _, v1, v2⟩
            clear HNr
            replace N1 := N1.pol
            replace N2 := N2.pol
            replace hO := hO.trans (b.mono hO.size)
            replace DA := keepB DA b
            replace C := C.below b
            replace K := keepB K b
            replace Z1 := keepZ Z1 b
            replace Z2 := keepZ Z2 b
            replace EM := EM.below b
            replace EZ := EZ.below b
            replace A2 := A2.below b
            replace PX := PX.below b
            replace PY := PY.below b
            replace B := B.trans (b.mono B.size)
            clear b
            obtain ⟨p1', hp1⟩ : ∃ p1', p1' = pop (val Xi ^^^ val X1) (8 * n) := ⟨_, rfl⟩
            obtain ⟨p2', hp2⟩ : ∃ p2', p2' = pop (val Yc ^^^ val Y1) (8 * (pb (deg m t))) := ⟨_, rfl⟩
            have hsum : p1' + p2' = fr := by rw [hp1, hp2, HNR.out.2.2.2, v1, v2]; exact HSU.out
            have hlA := lt_of_block K
            have HS9 : Hid (∀ w', Below w42.heap.size w42 w' → (w'.cell? ⟨bq, 0, none⟩ = some (.int .i64 (m : Int)) ∧ w'.cell? ⟨bq, 1, none⟩ = some (.int .i64 (t : Int)) ∧ w'.cell? ⟨bq, 2, none⟩ = some (.int .i64 (n : Int)) ∧ w'.cell? ⟨bq, 3, none⟩ = some (.slice ga gn gc) ∧ w'.cell? ⟨bq, 4, none⟩ = some (.int .i64 (deg m t : Int)) ∧ Below w42.heap.size w42 w')) := fun w' b => by
              obtain ⟨c0, c1, c2, c3, c4, _⟩ := cd_cells ((b.block bq hlA).trans K)
              exact ⟨c0, c1, c2, c3, c4, b⟩
            have HA1 : Hid (∀ w' (_ : (w'.cell? ⟨bq, 0, none⟩ = some (.int .i64 (m : Int)) ∧ w'.cell? ⟨bq, 1, none⟩ = some (.int .i64 (t : Int)) ∧ w'.cell? ⟨bq, 2, none⟩ = some (.int .i64 (n : Int)) ∧ w'.cell? ⟨bq, 3, none⟩ = some (.slice ga gn gc) ∧ w'.cell? ⟨bq, 4, none⟩ = some (.int .i64 (deg m t : Int)) ∧ Below w42.heap.size w42 w')), Calls Tryz.prog 22 #[.slice ad n cd, .slice d1 n e1] w' fun e w'' => e = .returned (.int .i64 (p1' : Int)) ∧ w' = w'') := fun w' hs => by rw [hp1]; exact distance_any _ _ n _ _ Xi X1 (by omega) w' (PX.below hs.2.2.2.2.2) (N1.below hs.2.2.2.2.2)
            have HA2 : Hid (∀ w' (_ : (w'.cell? ⟨bq, 0, none⟩ = some (.int .i64 (m : Int)) ∧ w'.cell? ⟨bq, 1, none⟩ = some (.int .i64 (t : Int)) ∧ w'.cell? ⟨bq, 2, none⟩ = some (.int .i64 (n : Int)) ∧ w'.cell? ⟨bq, 3, none⟩ = some (.slice ga gn gc) ∧ w'.cell? ⟨bq, 4, none⟩ = some (.int .i64 (deg m t : Int)) ∧ Below w42.heap.size w42 w')), Calls Tryz.prog 13 #[cdV m t n ga gn gc (deg m t), .slice ap (pb (deg m t)) cp] w' fun e w'' => ∃ g9, e = .returned (.slice (some ⟨g9, 0, none⟩) (pb (deg m t)) (pb (deg m t))) ∧ (w''.cell? ⟨bq, 0, none⟩ = some (.int .i64 (m : Int)) ∧ w''.cell? ⟨bq, 1, none⟩ = some (.int .i64 (t : Int)) ∧ w''.cell? ⟨bq, 2, none⟩ = some (.int .i64 (n : Int)) ∧ w''.cell? ⟨bq, 3, none⟩ = some (.slice ga gn gc) ∧ w''.cell? ⟨bq, 4, none⟩ = some (.int .i64 (deg m t : Int)) ∧ Below w42.heap.size w42 w'') ∧ Blk8 w'' g9 Yc) := fun w' hs => (rclear_any m t n ga gn gc (deg m t) (pb (deg m t)) (by omega) rfl _ _ Yi w' (PY.below hs.2.2.2.2.2)).mono fun e w'' h => by
              obtain ⟨g9, Y2, h1, h2, h3, h4, _, h6⟩ := h
              obtain rfl : Y2 = Yc := len_inj (by rw [h3, hYcl]) (by rw [h4, HNR.out.2.2.2])
              exact ⟨g9, h1, HS9.out w'' (hs.2.2.2.2.2.trans (h6.mono hs.2.2.2.2.2.size)), h2⟩
            have HA3 : Hid (∀ w' g9 (_ : (w'.cell? ⟨bq, 0, none⟩ = some (.int .i64 (m : Int)) ∧ w'.cell? ⟨bq, 1, none⟩ = some (.int .i64 (t : Int)) ∧ w'.cell? ⟨bq, 2, none⟩ = some (.int .i64 (n : Int)) ∧ w'.cell? ⟨bq, 3, none⟩ = some (.slice ga gn gc) ∧ w'.cell? ⟨bq, 4, none⟩ = some (.int .i64 (deg m t : Int)) ∧ Below w42.heap.size w42 w')) (_ : Blk8 w' g9 Yc), Calls Tryz.prog 22 #[.slice (some ⟨g9, 0, none⟩) (pb (deg m t)) (pb (deg m t)), .slice d2 (pb (deg m t)) e2] w' fun e w'' => e = .returned (.int .i64 (p2' : Int)) ∧ w' = w'') := fun w' g9 hs hb => by rw [hp2]; exact distance_any _ _ (pb (deg m t)) _ _ Yc Y1 (by omega) w' (blk_pol hb hYcl.symm (by omega)) (N2.below hs.2.2.2.2.2)
            have r4 : IntKind.i64.wrap ((p1' : Int) + (p2' : Int)) = (fr : Int) := by rw [IntWalk.i64_in _ (by omega)]; omega
            have hS0 := HS9.out w42.drew ((Drawn.mk w42 1).below _)
            have HV := Lib.hid (And.intro v1 v2)
            have HW5 := Lib.hid (And.intro C (And.intro DA (And.intro K (And.intro Z1 (And.intro Z2 (And.intro EM (And.intro EZ (And.intro A2 (And.intro B (And.intro PX (And.intro PY (And.intro hO (And.intro N1 N2)))))))))))))
            clear C DA K Z1 Z2 EM EZ A2 B PX PY hO hp1 hp2 hsum hlA N1 N2 v1 v2
            go_wp2_with fail
            go_region_held3 (fun w' => (w'.cell? ⟨bq, 0, none⟩ = some (.int .i64 (m : Int)) ∧ w'.cell? ⟨bq, 1, none⟩ = some (.int .i64 (t : Int)) ∧ w'.cell? ⟨bq, 2, none⟩ = some (.int .i64 (n : Int)) ∧ w'.cell? ⟨bq, 3, none⟩ = some (.slice ga gn gc) ∧ w'.cell? ⟨bq, 4, none⟩ = some (.int .i64 (deg m t : Int)) ∧ Below w42.heap.size w42 w'))
              (first | assumption | exact ⟨by assumption, by assumption, by assumption, by assumption, by assumption, by assumption⟩)
              (first
                | (go_at_call 22; (with_reducible refine Calls.mono (HA1.out _ (by assumption)) ?_); rintro e w1 ⟨rfl, rfl⟩)
                | (go_at_call 13; (with_reducible refine Calls.mono (HA2.out _ (by assumption)) ?_); rintro e w1 ⟨g9, rfl, z1, z2⟩)
                | (go_at_call 22; (with_reducible refine Calls.mono (HA3.out _ _ (by assumption) (by assumption)) ?_); rintro e w1 ⟨rfl, rfl⟩))
            have b := z1.2.2.2.2.2
            obtain ⟨C, DA, K, Z1, Z2, EM, EZ, A2, B, PX, PY, hO, N1, N2⟩ := HW5.out
            obtain ⟨w43, rfl⟩ : ∃ w43, w43 = w1 := ⟨_, rfl⟩
            clear z1 z2 HW5 HS9 HA1 HA2 HA3 hS0 r4
            have P1 := N1
            have P2 := N2
            clear N1 N2
            replace hO := hO.trans (b.mono hO.size)
            replace DA := keepB DA b
            replace C := C.below b
            replace K := keepB K b
            replace Z1 := keepZ Z1 b
            replace Z2 := keepZ Z2 b
            replace EM := EM.below b
            replace EZ := EZ.below b
            replace A2 := A2.below b
            replace PX := PX.below b
            replace PY := PY.below b
            replace P1 := P1.below b
            replace P2 := P2.below b
            replace B := B.trans (b.mono B.size)
            clear b
            have t1 : ¬ (t : Int) < (fr : Int) := by omega
            have t2 : decide ((t : Int) < (fr : Int)) = false := decide_eq_false t1
            have t3 : ¬ t < fr := by omega
            have t4 : decide (t < fr) = false := decide_eq_false t3
            have hR : byN (prt (gen m t) (deg m t) (val X1)) (pb (deg m t)) = Y1 := len_inj (by rw [byN_length]; exact P2.hlen) (by rw [val_byN (pb_room (par_lt (m := m) t _)), HV.out.1, HV.out.2])
            have HR := Lib.hid (decide_eq_true hR)
            clear hR
            by_cases hle : nr ≤ t
            · skip
              have t5 : (nr : Int) ≤ (t : Int) := by omega
              have t6 : decide ((nr : Int) ≤ (t : Int)) = true := decide_eq_true t5
              have t7 : decide (nr ≤ t) = true := decide_eq_true hle
              have HXX : Hid (X = X1) := len_inj (by rw [hfZ1]; exact P1.hlen) (by rw [HV.out.1, HON.out hle])
              obtain ⟨c0, c1, c2, c3, c4, _⟩ := cd_cells K
              go_wp2_with fail
              clear c0 c1 c2 c3 c4
              refine (codeD_any DA).mono ?_
              rintro e w' ⟨rfl, rfl⟩
              obtain ⟨c0, c1, c2, c3, c4, _⟩ := cd_cells K
              go_wp2_with fail
              clear c0 c1 c2 c3 c4
              refine (right_any (m := m) ht1 ht40 w43 s C _ _ X1 P1 hn2 _ _ _ Y1 P2).mono ?_
              rintro e w44 ⟨rfl, b⟩
              rw [HR.out]
              replace hO := hO.trans (b.mono hO.size)
              replace DA := keepB DA b
              replace C := C.below b
              replace K := keepB K b
              replace Z1 := keepZ Z1 b
              replace Z2 := keepZ Z2 b
              replace EM := EM.below b
              replace EZ := EZ.below b
              replace A2 := A2.below b
              replace PX := PX.below b
              replace PY := PY.below b
              replace P1 := P1.below b
              replace P2 := P2.below b
              replace B := B.trans (b.mono B.size)
              clear b
              obtain ⟨c0, c1, c2, c3, c4, _⟩ := cd_cells K
              go_wp2_with fail
              clear c0 c1 c2 c3 c4
              refine (sameB (blk_arg Z1 hfZ1.symm) (pol_bytes P1)).mono ?_
              rintro e w' ⟨rfl, rfl⟩
              rw [decide_eq_true HXX.out]
              obtain ⟨c0, c1, c2, c3, c4, _⟩ := cd_cells K
              go_wp2_with fail
              clear c0 c1 c2 c3 c4
              clear t1 t2 t3 t4 t5 t6 t7 P1 P2
              refine (rparity_any m t n ga gn gc (deg m t) (by omega) w44).mono ?_
              rintro e w45 ⟨rfl, b⟩
              replace hO := hO.trans (b.mono hO.size)
              replace DA := keepB DA b
              replace C := C.below b
              replace K := keepB K b
              replace Z1 := keepZ Z1 b
              replace Z2 := keepZ Z2 b
              replace EM := EM.below b
              replace EZ := EZ.below b
              replace A2 := A2.below b
              replace PX := PX.below b
              replace PY := PY.below b
              replace B := B.trans (b.mono B.size)
              clear b
              obtain ⟨c0, c1, c2, c3, c4, _⟩ := cd_cells K
              go_wp2_with fail
              clear c0 c1 c2 c3 c4
              refine (fitD_any a' nb cb l' (pb (deg m t)) (by omega) w45 A2).mono ?_
              rintro e w60 ⟨rfl, Z9, b⟩
              have hZ9 := fitL_length l' (pb (deg m t))
              have HI9 : Hid (Pol w60 (some ⟨w45.heap.size, 0, none⟩) (pb (deg m t)) (pb (deg m t)) (fitL l' (pb (deg m t))) ∧ Below w30.heap.size w30 w60) := ⟨blk_pol Z9 hZ9.symm (by omega), hO.trans (b.mono hO.size)⟩
              obtain ⟨g9, hg9⟩ : ∃ g9, g9 = w45.heap.size := ⟨_, rfl⟩
              rw [← hg9] at HI9 ⊢
              clear hg9 Z9 b C DA K Z1 Z2 EM EZ A2 PX PY hO B
              go_wp2_with fail
              go_roundg (2 - (r + 1))
              case measure => have := HGr.out; have := HR2.out; omega
              case rel => exact ⟨r + 1, _, _, _, rfl, HR2.out, by go_num, rfl, HI9⟩
            · skip
              have t5 : ¬ (nr : Int) ≤ (t : Int) := by omega
              have t6 : decide ((nr : Int) ≤ (t : Int)) = false := decide_eq_false t5
              have t7 : decide (nr ≤ t) = false := decide_eq_false hle
              obtain ⟨c0, c1, c2, c3, c4, _⟩ := cd_cells K
              go_wp2_with fail
              clear c0 c1 c2 c3 c4
              refine (codeD_any DA).mono ?_
              rintro e w' ⟨rfl, rfl⟩
              obtain ⟨c0, c1, c2, c3, c4, _⟩ := cd_cells K
              go_wp2_with fail
              clear c0 c1 c2 c3 c4
              refine (right_any (m := m) ht1 ht40 w43 s C _ _ X1 P1 hn2 _ _ _ Y1 P2).mono ?_
              rintro e w44 ⟨rfl, b⟩
              rw [HR.out]
              replace hO := hO.trans (b.mono hO.size)
              replace DA := keepB DA b
              replace C := C.below b
              replace K := keepB K b
              replace Z1 := keepZ Z1 b
              replace Z2 := keepZ Z2 b
              replace EM := EM.below b
              replace EZ := EZ.below b
              replace A2 := A2.below b
              replace PX := PX.below b
              replace PY := PY.below b
              replace P1 := P1.below b
              replace P2 := P2.below b
              replace B := B.trans (b.mono B.size)
              clear b
              obtain ⟨c0, c1, c2, c3, c4, _⟩ := cd_cells K
              go_wp2_with fail
              clear c0 c1 c2 c3 c4
              clear t1 t2 t3 t4 t5 t6 t7 P1 P2
              refine (rparity_any m t n ga gn gc (deg m t) (by omega) w44).mono ?_
              rintro e w45 ⟨rfl, b⟩
              replace hO := hO.trans (b.mono hO.size)
              replace DA := keepB DA b
              replace C := C.below b
              replace K := keepB K b
              replace Z1 := keepZ Z1 b
              replace Z2 := keepZ Z2 b
              replace EM := EM.below b
              replace EZ := EZ.below b
              replace A2 := A2.below b
              replace PX := PX.below b
              replace PY := PY.below b
              replace B := B.trans (b.mono B.size)
              clear b
              obtain ⟨c0, c1, c2, c3, c4, _⟩ := cd_cells K
              go_wp2_with fail
              clear c0 c1 c2 c3 c4
              refine (fitD_any a' nb cb l' (pb (deg m t)) (by omega) w45 A2).mono ?_
              rintro e w60 ⟨rfl, Z9, b⟩
              have hZ9 := fitL_length l' (pb (deg m t))
              have HI9 : Hid (Pol w60 (some ⟨w45.heap.size, 0, none⟩) (pb (deg m t)) (pb (deg m t)) (fitL l' (pb (deg m t))) ∧ Below w30.heap.size w30 w60) := ⟨blk_pol Z9 hZ9.symm (by omega), hO.trans (b.mono hO.size)⟩
              obtain ⟨g9, hg9⟩ : ∃ g9, g9 = w45.heap.size := ⟨_, rfl⟩
              rw [← hg9] at HI9 ⊢
              clear hg9 Z9 b C DA K Z1 Z2 EM EZ A2 PX PY hO B
              go_wp2_with fail
              go_roundg (2 - (r + 1))
              case measure => have := HGr.out; have := HR2.out; omega
              case rel => exact ⟨r + 1, _, _, _, rfl, HR2.out, by go_num, rfl, HI9⟩
        · have x5 : ¬ (r : Int) < 2 := by omega
          have x6 : decide ((r : Int) < 2) = false := decide_eq_false x5
          clear HI
          go_wp2_with fail
          go_ret
          exact ⟨rfl, B⟩
theorem walk (a0 a1 a2 : Int) (a3 : Option Addr) (len3 cap3 : Nat) (z3 : List Int) (a4 : Option Addr) (len4 cap4 : Nat) (z4 : List Int) (a5 : Option Addr) (len5 cap5 : Nat) (z5 : List Int) (W : World) (w0 : (Lit.int .i64 a0).wf = true) (w1 : (Lit.int .i64 a1).wf = true) (w2 : (Lit.int .i64 a2).wf = true) (w3 : IsRow .u8 W a3 len3 cap3 z3) (w4 : IsRow .i64 W a4 len4 cap4 z4) (w5 : IsRow .u8 W a5 len5 cap5 z5) (h : LaidDecodeNear.Holds W) :
    Calls Tryz.prog 6 #[.int .i64 a0, .int .i64 a1, .int .i64 a2, .slice a3 len3 cap3, .slice a4 len4 cap4, .slice a5 len5 cap5] W fun e w' => e = .returned (.bool true) ∧ Below W.heap.size W w' := by
  obtain ⟨f, ⟨E0, E1, E2, E3, E4, E5⟩, _⟩ := h
  obtain ⟨l3, h3⟩ := row_pol w3
  obtain ⟨h4, m4⟩ := isrow_z w4
  obtain ⟨l5, h5⟩ := row_pol w5
  by_cases hl : 60 < len4
  · exact core_long a0 a1 a2 a3 len3 cap3 l3 a4 len4 cap4 _ (by unfold maxLen at m4; omega) hl a5 len5 cap5 l5 W _ _ _ E4 E5 E2 h4 h3 h5
  · exact core a0 a1 a2 a3 len3 cap3 l3 a4 len4 cap4 _ (by unfold maxLen at m4; omega) (by omega) a5 len5 cap5 l5 W _ _ _ E4 E5 E2 h4 h3 h5
end Go.Proofs.YthmfneepnkgmgaaGreatDoor.walkDecodeNear
