/- The walk over DecodeMends. By the verifier of shale. -/
import Derived.Test.YthmfneepnkgmgaaGreatDoorGreat1
import Derived.Test.YthmfneepnkgmgaaGreatDoorGreat2
import Derived.Test.YthmfneepnkgmgaaGreatDoorGreat3
import Derived.Test.YthmfneepnkgmgaaGreatDoorGreat4
import Derived.Test.YthmfneepnkgmgaaGreatDoorGreat5
import Derived.Test.YthmfneepnkgmgaaGreatDoorGreat6
import Derived.Test.YthmfneepnkgmgaaGreatDoorLaidDecodeMends
import Derived.Deep.Cut
import Derived.BigQuiet
namespace Go.Proofs.YthmfneepnkgmgaaGreatDoor.walkDecodeMends
open Go Go.RowKit Bin Pl Cos Enc Syn Loc Sea Dec
set_option linter.unusedVariables false
set_option maxRecDepth 100000 in
set_option maxHeartbeats 4000000 in
theorem core (z1 z2 z3 : Int) (a : Option Addr) (na ca : Nat) (l : List (BitVec 8)) (at' : Option Addr) (nt ct : Nat) (z : Nat → Int) (hnt : nt ≤ 9223372036854775807) (w : World) (yc ym yz : Addr)
    (EC : ErrAt w 3 yc) (EM : ErrAt w 1 ym) (EZ : ErrAt w 5 yz) (Y1 : Bin.RowZ w at' nt z) (A1 : Pol w a na ca l) :
    Calls Tryz.prog 5 #[.int .i64 z1, .int .i64 z2, .int .i64 z3, .slice a na ca, .slice at' nt ct] w fun e w' => e = .returned (.bool true) ∧ Below w.heap.size w w' := by
  go_enter Tryz.func5, Tryz.ntmps5
  go_wp2_with fail
  refine (firstD_any w EC EM EZ).mono ?_
  rintro e w1 ⟨rfl, b⟩
  have B := b
  replace EC := EC.below b
  replace EM := EM.below b
  replace EZ := EZ.below b
  replace Y1 := rowZ_below Y1 b
  replace A1 := A1.below b
  clear b
  go_wp2_with fail
  refine (madeD_any z1 z2 z3 w1 yc EC).mono ?_
  rintro e w2 ⟨m, t, n, M, s, db, ga, gn, gc, hm5, hm8, ht5, hn12, hmay, rfl, DA, C, G, b⟩
  haveI := M
  replace Y1 := rowZ_below Y1 b
  replace EC := EC.below b
  replace EM := EM.below b
  replace EZ := EZ.below b
  replace A1 := A1.below b
  replace B := B.trans (b.mono B.size)
  clear b
  clear G EC
  have ht1 := hmay.t1
  have ht40 := hmay.t2
  have hn1 := hmay.n1
  have hn2 := hmay.n2
  have hroom := hmay.room
  have hDpos := deg_pos M.lo ht1
  have hD40 : deg m t ≤ 40 := by
    have h1 := deg_le M.lo t
    have h2 : m * t ≤ 8 * 5 := Nat.mul_le_mul hm8 ht5
    omega
  have hRm : 8 * n + deg m t ≤ Fld.size m := hroom
  have hP0 : pb (deg m t) = (deg m t + 7) / 8 := rfl
  have hP8 : pb (deg m t) ≤ 5 := by omega
  have hP1 : 0 < pb (deg m t) := by omega
  clear hP0
  go_wp2_with fail
  generalize hw : w2.alloc (.cells #[.int .i64 (m : Int), .int .i64 (t : Int), .int .i64 (n : Int), .slice ga gn gc, .int .i64 (deg m t : Int)] 26 (0, 0)) = w3
  obtain ⟨K, b⟩ := newCd w2 w3 _ _ _ _ _ hw
  clear hw
  replace Y1 := rowZ_below Y1 b
  replace DA := keepB DA b
  replace EM := EM.below b
  replace EZ := EZ.below b
  replace A1 := A1.below b
  replace C := C.below b
  replace B := B.trans (b.mono B.size)
  clear b
  obtain ⟨bq, hbq⟩ : ∃ bq, bq = w2.heap.size := ⟨_, rfl⟩
  rw [← hbq] at K ⊢
  clear hbq
  refine (fitD_any a na ca l n (by omega) w3 A1).mono ?_
  rintro e w4 ⟨rfl, Z1, b⟩
  have hfZ1 := fitL_length l n
  generalize fitL l n = X at Z1 hfZ1
  obtain ⟨gZ1, hgZ1⟩ : ∃ gZ1, gZ1 = w3.heap.size := ⟨_, rfl⟩
  rw [← hgZ1] at Z1 ⊢
  clear hgZ1
  clear A1
  replace Y1 := rowZ_below Y1 b
  replace DA := keepB DA b
  replace EM := EM.below b
  replace EZ := EZ.below b
  replace C := C.below b
  replace K := keepB K b
  replace B := B.trans (b.mono B.size)
  clear b
  obtain ⟨c0, c1, c2, c3, c4, _⟩ := cd_cells K
  go_wp2_with fail
  clear c0 c1 c2 c3 c4
  refine (codeD_any DA).mono ?_
  rintro e w' ⟨rfl, rfl⟩
  obtain ⟨c0, c1, c2, c3, c4, _⟩ := cd_cells K
  go_wp2_with fail
  clear c0 c1 c2 c3 c4
  refine (fast_any (m := m) ht1 ht40 w4 s C _ n X (blk_pol Z1 hfZ1.symm (by omega)) hn2).mono ?_
  rintro e w5 ⟨g2, rfl, Z2, b, _⟩
  have hRl := par_lt (m := m) t (val X)
  have HQl := byN_length (par m t (val X)) (pb (deg m t))
  have HQv : val (byN (par m t (val X)) (pb (deg m t))) = par m t (val X) := val_byN (pb_room hRl)
  replace Z2 : Blk8 w5 g2 (byN (par m t (val X)) (pb (deg m t))) := Z2
  obtain ⟨Q, hQ⟩ : ∃ Q, Q = byN (par m t (val X)) (pb (deg m t)) := ⟨_, rfl⟩
  rw [← hQ] at Z2 HQl HQv
  clear hQ
  obtain ⟨N, hN⟩ : ∃ N, N = 8 * n + deg m t := ⟨_, rfl⟩
  have HN := Lib.hid hN
  have hN2 : N ≤ 1000000 := by omega
  have hN1 : 0 < N := by omega
  clear hN
  have hmk := fun w => madeB w N (by omega)
  replace Y1 := rowZ_below Y1 b
  replace DA := keepB DA b
  replace EM := EM.below b
  replace EZ := EZ.below b
  replace C := C.below b
  replace K := keepB K b
  replace Z1 := keepZ Z1 b
  replace B := B.trans (b.mono B.size)
  clear b
  obtain ⟨c0, c1, c2, c3, c4, _⟩ := cd_cells K
  go_wp2_with fail
  clear c0 c1 c2 c3 c4
  refine (rbits_any m t n ga gn gc (deg m t) (by omega) hn2 w5).mono ?_
  rintro e w6 ⟨rfl, b⟩
  rw [← HN.out]
  replace Y1 := rowZ_below Y1 b
  replace DA := keepB DA b
  replace EM := EM.below b
  replace EZ := EZ.below b
  replace C := C.below b
  replace K := keepB K b
  replace Z1 := keepZ Z1 b
  replace Z2 := keepZ Z2 b
  replace B := B.trans (b.mono B.size)
  clear b
  obtain ⟨c0, c1, c2, c3, c4, _⟩ := cd_cells K
  go_wp2_with fail
  clear c0 c1 c2 c3 c4
  obtain ⟨wa, rfl⟩ : ∃ wa, wa = w6 := ⟨_, rfl⟩
  clear hmk
  have HS : Hid (CodeAt m t n wa s ∧ decAt wa db s ∧ wa.heap[bq]? = some (cdO (.int .i64 (m : Int)) (.int .i64 (t : Int)) (.int .i64 (n : Int)) (.slice ga gn gc) (.int .i64 (deg m t : Int))) ∧ Blk8 wa gZ1 X ∧ Blk8 wa g2 Q ∧ ErrAt wa 1 ym ∧ ErrAt wa 5 yz ∧ Bin.RowZ wa at' nt z ∧ Below w.heap.size w wa) := ⟨C, DA, K, Z1, Z2, EM, EZ, Y1, B⟩
  have b0 : Below wa.heap.size wa (wa.alloc (objB (List.replicate N false))) := (Below.refl _ _).alloc (Nat.le_refl _) _
  have F0 := BF.new wa N
  have hbq : bq < wa.heap.size := lt_of_block K
  obtain ⟨gb, hgb⟩ : ∃ gb, gb = wa.heap.size := ⟨_, rfl⟩
  have HGb := Lib.hid hgb
  replace Z1 := keepZ Z1 b0
  replace Z2 := keepZ Z2 b0
  have hs1 : gb < (wa.alloc (objB (List.replicate N false))).heap.size := by rw [hgb]; simp
  rw [← hgb] at b0 F0 hbq ⊢
  have F1 : BF (wa.alloc (objB (List.replicate N false))) gb N (fun q => (0 : Nat).testBit q) := F0.of fun i _ => by show _ = (0 : Nat).testBit i; rw [Nat.zero_testBit]
  generalize wa.alloc (objB (List.replicate N false)) = w30 at b0 F1 Z1 Z2 hs1 ⊢
  clear hgb C DA K EM EZ Y1 B F0
  refine (copy_any gZ1 0 n n X w30 Z1.row hfZ1.symm (by omega)).mono ?_
  rintro e w31 ⟨rfl, Z3, b⟩
  replace F1 : BF w31 gb N (fun q => (0 : Nat).testBit q) := (b.block gb hs1).trans F1
  replace Z2 := keepZ Z2 b
  replace b0 := b0.trans (b.mono (Nat.le_of_lt hs1))
  have hs2 : gb < w31.heap.size := Nat.lt_of_lt_of_le hs1 b.size
  obtain ⟨g3, hg3⟩ : ∃ g3, g3 = w30.heap.size := ⟨_, rfl⟩
  rw [← hg3] at Z3 hs1 ⊢
  clear hg3 b Z1
  go_wp2_with fail
  refine (copy_any g2 0 (pb (deg m t)) (pb (deg m t)) Q w31 Z2.row HQl.symm (by omega)).mono ?_
  rintro e w32 ⟨rfl, Z4, b⟩
  replace F1 : BF w32 gb N (fun q => (0 : Nat).testBit q) := (b.block gb hs2).trans F1
  replace Z3 := keepZ Z3 b
  replace b0 := b0.trans (b.mono (Nat.le_of_lt hs2))
  obtain ⟨g4, hg4⟩ : ∃ g4, g4 = w31.heap.size := ⟨_, rfl⟩
  rw [← hg4] at Z4 hs2 ⊢
  clear hg4 b Z2
  have P1 : Pol w32 (some ⟨g3, 0, none⟩) n n X := blk_pol Z3 hfZ1.symm (by omega)
  have P2 : Pol w32 (some ⟨g4, 0, none⟩) (pb (deg m t)) (pb (deg m t)) Q := blk_pol Z4 HQl.symm (by omega)
  have HI0 : Hid (Pol w32 (some ⟨g3, 0, none⟩) n n X ∧ Pol w32 (some ⟨g4, 0, none⟩) (pb (deg m t)) (pb (deg m t)) Q ∧ val Q < 2 ^ deg m t ∧ wrd (deg m t) (val X) (val Q) = wrd (deg m t) (val X) (par m t (val X)) ^^^ 0 ∧ 0 < 2 ^ N ∧ pop 0 N ≤ t ∧ Apart7 gb (.slice none 0 0) (some ⟨g3, 0, none⟩) ∧ Apart7 gb (.slice none 0 0) (some ⟨g4, 0, none⟩) ∧ BF w32 gb N (fun q => (0 : Nat).testBit q) ∧ Below gb wa w32) :=
    ⟨P1, P2, by rw [HQv]; exact hRl, by rw [HQv, Nat.xor_zero], Nat.two_pow_pos _, by rw [pop_zero]; exact Nat.zero_le _, (fun q hq => by cases hq; exact ⟨by show g3 ≠ gb; omega, by simp [Value.ownBlock]⟩), (fun q hq => by cases hq; exact ⟨by show g4 ≠ gb; omega, by simp [Value.ownBlock]⟩), F1, b0⟩
  have HQ := Lib.hid HQv
  clear F1 Z3 Z4 P1 P2 hs1 hs2 b0 HQv hRl
  go_wp2_with fail
  go_loopg [19, 20, 21, 22] nt (fun gh s19 s20 s21 s22 wx => ∃ (i e : Nat) (ad : Option Addr) (cd : Nat) (ap : Option Addr) (cp : Nat) (Xi Yi : List (BitVec 8)), gh = nt - i ∧ i ≤ nt ∧ s22 = .int .i64 (i : Int) ∧ s19 = .int .i64 (pop e N : Int) ∧ s20 = .slice ad n cd ∧ s21 = .slice ap (pb (deg m t)) cp ∧ Hid (Pol wx ad n cd Xi ∧ Pol wx ap (pb (deg m t)) cp Yi ∧ val Yi < 2 ^ deg m t ∧ wrd (deg m t) (val Xi) (val Yi) = wrd (deg m t) (val X) (par m t (val X)) ^^^ e ∧ e < 2 ^ N ∧ pop e N ≤ t ∧ Apart7 gb (.slice none 0 0) ad ∧ Apart7 gb (.slice none 0 0) ap ∧ BF wx gb N (fun q => e.testBit q) ∧ Below gb wa wx))
  case atStart => exact ⟨0, 0, _, _, _, _, X, Q, rfl, Nat.zero_le _, rfl, by rw [pop_zero]; rfl, rfl, rfl, HI0⟩
  case round =>
    clear HI0
    obtain ⟨i, e, ad, cd, ap, cp, Xi, Yi, hg, hile, rfl, rfl, rfl, rfl, HI⟩ := hrel
    have HGh := Lib.hid hg
    have hpt := HI.out.2.2.2.2.2.1
    obtain ⟨pc, hpc⟩ : ∃ pc, pc = pop e N := ⟨_, rfl⟩
    rw [← hpc] at hpt ⊢
    have HPc := Lib.hid hpc
    clear hg hpc
    by_cases hlt : i < nt ∧ pc < t
    · obtain ⟨hlt, hct⟩ := hlt
      have x1 : (i : Int) < (nt : Int) := by omega
      have x2 : (pc : Int) < (t : Int) := by omega
      have x3 : decide ((i : Int) < (nt : Int)) = true := decide_eq_true x1
      have x4 : decide ((pc : Int) < (t : Int)) = true := decide_eq_true x2
      have x0 : (0 : Int) ≤ (i : Int) := by omega
      obtain ⟨C0, DA0, K0, Z10, Z20, EM0, EZ0, R0, B0⟩ := HS.out
      have hO := HI.out.2.2.2.2.2.2.2.2.2
      have K := (hO.block bq hbq).trans K0
      have hO2 := hO
      rw [HGb.out] at hO2
      have hsz : gb < wr.heap.size := HI.out.2.2.2.2.2.2.2.2.1.lt
      obtain ⟨bb, off, ea, d1, hbb⟩ := rowZ_below R0 hO2 i hlt
      obtain ⟨c0, c1, c2, c3, c4, _⟩ := cd_cells K
      subst ea
      clear K0 R0 B0 hO2 K hO C0 DA0 Z10 Z20 EM0 EZ0
      go_upto_region 14 with (fail)
      replace c0 := cell_regrown c0
      replace c1 := cell_regrown c1
      replace c2 := cell_regrown c2
      replace c3 := cell_regrown c3
      replace c4 := cell_regrown c4
      replace d1 := cell_regrown d1
      have HRB : Hid (∀ q os, Calls Tryz.prog 25 #[cdV m t n ga gn gc (deg m t)] (Sort.grow (redrawn wr q) os) fun e w'' => e = .returned (.int .i64 (N : Int)) ∧ ∃ p : Regrown, w'' = Sort.grow (redrawn wr p.d) p.os) := fun q os => Calls.regrown_of (by rw [HN.out]; exact rbits_any m t n ga gn gc (deg m t) (by omega) hn2 _)
      obtain ⟨r1, r2, k, hk, r3⟩ := norm_var (z i) N hN1 hN2
      generalize z i = zi at d1 r1 r2 r3
      refine wp_region_quiet_below (by kernel_rfl) (by kernel_rfl) ?_
      repeat (go_big_quiet_step (first | (go_at_call 25; with_reducible exact HRB.out _ _)))
      refine wpQuiet_nil ?_
      intro _ hw'
      obtain ⟨⟨dq, osq⟩, hw''⟩ := hw'
      subst hw''
      have b := below_regrown wr dq osq
      generalize Sort.grow (redrawn wr dq) osq = w6 at b ⊢
      obtain ⟨PX, PY, hYl, hW, heN, hpT, AX, AY, hF, hO⟩ := HI.out
      replace hO := hO.trans (b.mono (Nat.le_of_lt hsz))
      replace PX := PX.below b
      replace PY := PY.below b
      have F6 : BF w6 gb N (fun q => e.testBit q) := (b.block gb hsz).trans hF
      have d5 := F6.cell (i := k) hk
      have d6 := F6.free k
      have hs6 : gb < w6.heap.size := F6.lt
      have y0 : (0 : Int) ≤ (k : Int) := by omega
      have y1 : (k : Int) < (N : Int) := by omega
      have HI1 : Hid (i + 1 ≤ nt) := hlt
      clear c0 c1 c2 c3 c4 d1 HRB hF b r1 r2 r3 HI
      cases hb : e.testBit k
      · rw [hb] at d5
        have HE : Hid (e ^^^ 2 ^ k < 2 ^ N ∧ pop (e ^^^ 2 ^ k) N = pc + 1) := ⟨Nat.xor_lt_two_pow heN (pow_lt2 hk), by rw [HPc.out]; exact pop_turn hb _ hk⟩
        have F8 := bf_put F6 k true
        replace F8 := F8.of (q := fun q => (e ^^^ 2 ^ k).testBit q) fun q _ => by
          have h := flip_bit e k q
          rw [hb] at h
          exact h
        have o8 := Only.setCell w6 ⟨gb, k, none⟩ (.bool true)
        have PX8 : Pol (w6.setCell ⟨gb, k, none⟩ (.bool true)) ad n cd Xi := pol_keep PX (fun q hq _ => o8.block q.block (AX q hq).1) (by rw [o8.size]; exact Nat.le_refl _)
        have PY8 : Pol (w6.setCell ⟨gb, k, none⟩ (.bool true)) ap (pb (deg m t)) cp Yi := pol_keep PY (fun q hq _ => o8.block q.block (AY q hq).1) (by rw [o8.size]; exact Nat.le_refl _)
        have hO8 := hO.trans (o8.below (Nat.le_refl gb))
        have hz8 : gb < (w6.setCell ⟨gb, k, none⟩ (.bool true)).heap.size := by rw [o8.size]; exact hs6
        have H8 := Lib.hid (And.intro PX8 (And.intro PY8 (And.intro F8 (And.intro hO8 hz8))))
        have H9 := Lib.hid (And.intro hYl hW)
        clear PX PY F6 hO hYl hW AX AY hs6 F8 o8 PX8 PY8 hO8 hz8 heN hb hpT
        go_upto_region 17 with (fail)
        generalize w6.setCell ⟨gb, k, none⟩ (.bool true) = w8 at H8 ⊢
        clear d5 d6
        obtain ⟨PX8, PY8, F8, hO8, hz8⟩ := H8.out
        have hO82 := hO8
        rw [HGb.out] at hO82
        have C8 := HS.out.1.below hO82
        have DA := keepB HS.out.2.1 hO82
        have HFl := Lib.hid (flip_any (m := m) ht1 ht40 w8 s C8 ad cd Xi PX8 hn2 ap cp Yi PY8 k (by rw [← HN.out]; exact hk))
        clear hO82 C8 PX8 PY8 F8 hO8 hz8
        go_wp2_with fail
        refine (codeD_any DA).mono ?_
        rintro e' w' ⟨rfl, rfl⟩
        go_wp2_with fail
        refine HFl.out.mono ?_
        rintro e' w9 ⟨a1, p1, X1, a2, p2, V1, rfl, N1, N2, hX1, hV1, b9⟩
        obtain ⟨PX8, PY8, F8, hO8, hz8⟩ := H8.out
        have HW1 := wd_turn (m := m) (k := k) H9.out.1 H9.out.2 (show val X1 = val Xi ^^^ ed (deg m t) k from hX1) (show val V1 = val Yi ^^^ ep (deg m t) k from hV1)
        have HN9 : Hid (Pol w9 a1 n p1 X1 ∧ Pol w9 a2 (pb (deg m t)) p2 V1 ∧ val V1 < 2 ^ deg m t ∧ wrd (deg m t) (val X1) (val V1) = wrd (deg m t) (val X) (par m t (val X)) ^^^ (e ^^^ 2 ^ k) ∧ (e ^^^ 2 ^ k) < 2 ^ N ∧ pop (e ^^^ 2 ^ k) N ≤ t ∧ Apart7 gb (.slice none 0 0) a1 ∧ Apart7 gb (.slice none 0 0) a2 ∧ BF w9 gb N (fun q => (e ^^^ 2 ^ k).testBit q) ∧ Below gb wa w9) :=
          ⟨N1.pol, N2.pol, HW1.1, HW1.2, HE.out.1, by rw [HE.out.2]; exact hct, newP_aside N1 hz8 (fun g hg => by simp [Value.ownBlock] at hg), newP_aside N2 hz8 (fun g hg => by simp [Value.ownBlock] at hg), (b9.block gb hz8).trans F8, hO8.trans (b9.mono (Nat.le_of_lt hz8))⟩
        clear PX8 PY8 F8 hO8 hz8 hX1 hV1 N1 N2 b9 HFl H8 H9 HW1 DA
        go_wp2_with fail
        go_roundg (nt - (i + 1))
        case measure => have := HGh.out; have := HI1.out; omega
        case rel => exact ⟨i + 1, e ^^^ 2 ^ k, a1, p1, a2, p2, X1, V1, rfl, HI1.out, by go_num, by rw [HE.out.2]; go_num, rfl, rfl, HN9⟩
      · rw [hb] at d5
        have HN9 : Hid (Pol w6 ad n cd Xi ∧ Pol w6 ap (pb (deg m t)) cp Yi ∧ val Yi < 2 ^ deg m t ∧ wrd (deg m t) (val Xi) (val Yi) = wrd (deg m t) (val X) (par m t (val X)) ^^^ e ∧ e < 2 ^ N ∧ pop e N ≤ t ∧ Apart7 gb (.slice none 0 0) ad ∧ Apart7 gb (.slice none 0 0) ap ∧ BF w6 gb N (fun q => e.testBit q) ∧ Below gb wa w6) := ⟨PX, PY, hYl, hW, heN, hpT, AX, AY, F6, hO⟩
        clear PX PY F6 hO hYl hW AX AY hs6 heN hb hpT
        go_wp2_with fail
        go_roundg (nt - (i + 1))
        case measure => have := HGh.out; have := HI1.out; omega
        case rel => exact ⟨i + 1, e, ad, cd, ap, cp, Xi, Yi, rfl, HI1.out, by go_num, by rw [HPc.out], rfl, rfl, HN9⟩
    · obtain ⟨C, DA, K, Z1, Z2, EM, EZ, Y1, B⟩ := HS.out
      obtain ⟨PX, PY, hYl, hW, heN, hpT, _, _, F, hO⟩ := HI.out
      have hgb2 := F.lt
      rw [HGb.out] at hO
      replace C := C.below hO
      replace DA := keepB DA hO
      replace K := keepB K hO
      replace Z1 := keepZ Z1 hO
      replace Z2 := keepZ Z2 hO
      replace EM := EM.below hO
      replace EZ := EZ.below hO
      replace B := B.trans (hO.mono B.size)
      have HNr := near_any (m := m) ⟨DA, C, EM, EZ, ht1, ht40, hn1, hn2, hRm⟩ PX PY (V := val X) (e := e) (by rw [← HN.out]; exact heN) (by rw [← HN.out]; exact hpT) (by rw [wd_of hYl]; exact hW)
      unfold NearPost at HNr
      rw [← HN.out, ← HPc.out] at HNr
      replace HNr := Lib.hid HNr
      have HL := Lib.hid (plc_facts e N)
      obtain ⟨w40, rfl⟩ : ∃ w40, w40 = wr := ⟨_, rfl⟩
      clear HS HI C DA EM EZ Y1 PX PY hYl hW heN hO
      by_cases hi : i < nt
      · have x1 : (i : Int) < (nt : Int) := by omega
        have x3 : decide ((i : Int) < (nt : Int)) = true := decide_eq_true x1
        have x2 : ¬ ((pc : Int) < (t : Int)) := by omega
        have x4 : decide ((pc : Int) < (t : Int)) = false := decide_eq_false x2
        clear hlt hi
        obtain ⟨c0, c1, c2, c3, c4, _⟩ := cd_cells K
        go_wp2_with fail
        clear c0 c1 c2 c3 c4
        refine HNr.out.mono ?_
        rintro en w41 ⟨b, d1, e1, V1, d2, e2, V2, d3, e3, rfl, N5, N6, RL, v1, v2⟩
        have F := (b.block gb hgb2).trans (show w40.heap[gb]? = _ from F)
        replace F : BF w41 gb N (fun q => e.testBit q) := F
        clear HNr hgb2
        replace K := keepB K b
        replace Z1 := keepZ Z1 b
        replace Z2 := keepZ Z2 b
        replace B := B.trans (b.mono B.size)
        clear b
        obtain rfl : V1 = X := len_inj (by have := N5.hlen; omega) v1
        obtain rfl : V2 = Q := len_inj (by have := N6.hlen; omega) (by rw [HQ.out]; exact v2)
        clear v1 v2
        obtain ⟨c0, c1, c2, c3, c4, _⟩ := cd_cells K
        go_wp2_with fail
        clear c0 c1 c2 c3 c4
        refine (sameB (newP_bytes N5) (blk_arg Z1 hfZ1.symm)).mono ?_
        rintro e w' ⟨rfl, rfl⟩
        rw [decide_eq_true rfl]
        obtain ⟨c0, c1, c2, c3, c4, _⟩ := cd_cells K
        go_wp2_with fail
        clear c0 c1 c2 c3 c4
        refine (sameB (newP_bytes N6) (blk_arg Z2 HQl.symm)).mono ?_
        rintro e w' ⟨rfl, rfl⟩
        rw [decide_eq_true rfl]
        obtain ⟨c0, c1, c2, c3, c4, _⟩ := cd_cells K
        go_wp2_with fail
        clear c0 c1 c2 c3 c4
        clear K Z1 Z2 N5 N6
        have b3 := Below.refl w41.heap.size w41
        obtain ⟨w42, hw42⟩ : ∃ w42, w42 = w41 := ⟨_, rfl⟩
        have HG42 := Lib.hid hw42
        go_loopg [28] pc (fun gh s28 wx => ∃ (j : Nat), gh = pc - j ∧ j ≤ pc ∧ s28 = .int .i64 (j : Int) ∧ Below w41.heap.size w41 wx)
        case atStart => exact ⟨0, rfl, Nat.zero_le _, rfl, b3⟩
        case round =>
          obtain ⟨j, hg, hj, rfl, b⟩ := hrel
          have HGj := Lib.hid hg
          obtain ⟨w43, rfl⟩ : ∃ w43, w43 = wr := ⟨_, rfl⟩
          have HB4 : Hid (∀ nq, Below w41.heap.size w41 (w43.drewN nq)) := fun nq => b.trans (((Drawn.mk w43 nq).below _).mono b.size)
          clear hg b3
          by_cases hl : j < pc
          · have y1 : (j : Int) < (pc : Int) := by omega
            have y2 : decide ((j : Int) < (pc : Int)) = true := decide_eq_true y1
            have y0 : (0 : Int) ≤ (j : Int) := by omega
            obtain ⟨hp1, hp2, hp3⟩ := HL.out j (by rw [← HPc.out]; exact hl)
            have RL' := RL.below b
            obtain ⟨rb, ro, ea, q1, _⟩ := RL'.row j hl
            have d5 := BF.cell (show BF w43 gb N (fun q => e.testBit q) from (b.block gb F.lt).trans F) hp1
            rw [hp2] at d5
            obtain ⟨p, hp⟩ : ∃ p, p = (plc e N).getD j 0 := ⟨_, rfl⟩
            rw [← hp] at hp1 hp3 d5 q1
            have p0 : (0 : Int) ≤ (p : Int) := by omega
            have p1 : (p : Int) < (N : Int) := by omega
            have t1 : decide ((p : Int) < 0) = false := decide_eq_false (by omega)
            have t2 : decide ((N : Int) ≤ (p : Int)) = false := decide_eq_false (by omega)
            have t2n : decide (N ≤ p) = false := decide_eq_false (by omega)
            have t2m : ¬ N ≤ p := by omega
            have HJ := Lib.hid hl
            by_cases hj0 : j = 0
            · have t3 : decide ((0 : Int) < (j : Int)) = false := decide_eq_false (by omega)
              have t3' : ¬ (0 : Int) < (j : Int) := by omega
              have t3n : decide (0 < j) = false := decide_eq_false (by omega)
              subst ea
              clear hp1 hp2 hp3 RL' hp hl hj0 b
              go_wp2_with fail
              go_quiet (fail)
              go_wp2_with fail
              go_roundg (pc - (j + 1))
              case measure => have := HGj.out; have := HJ.out; omega
              case rel => exact ⟨j + 1, rfl, HJ.out, by go_num, HB4.out _⟩
            · obtain ⟨jj, hjj⟩ : ∃ jj, jj + 1 = j := ⟨j - 1, by omega⟩
              have t3 : decide ((0 : Int) < (j : Int)) = true := decide_eq_true (by omega)
              have t3' : (0 : Int) < (j : Int) := by omega
              have t3n : decide (0 < j) = true := decide_eq_true (by omega)
              obtain ⟨rb2, ro2, ea2, q2, _⟩ := RL'.row jj (by omega)
              have hp4 := hp3 jj hjj
              obtain ⟨q, hq⟩ : ∃ q, q = (plc e N).getD jj 0 := ⟨_, rfl⟩
              rw [← hq] at hp4 q2
              have y5 : (j : Int) - 1 = (jj : Int) := by omega
              have y6 : (0 : Int) ≤ (jj : Int) := by omega
              have y7 : (jj : Int) < (pc : Int) := by omega
              have t4 : decide ((p : Int) ≤ (q : Int)) = false := decide_eq_false (by omega)
              have t4n : decide (p ≤ q) = false := decide_eq_false (by omega)
              have t4m : ¬ p ≤ q := by omega
              subst ea
              cases ea2
              clear hp1 hp2 hp3 hp4 RL' hp hq hl hj0 hjj b
              go_wp2_with fail
              go_quiet (fail)
              go_wp2_with fail
              go_roundg (pc - (j + 1))
              case measure => have := HGj.out; have := HJ.out; omega
              case rel => exact ⟨j + 1, rfl, HJ.out, by go_num, HB4.out _⟩
          · have y1 : ¬ (j : Int) < (pc : Int) := by omega
            have y2 : decide ((j : Int) < (pc : Int)) = false := decide_eq_false y1
            have BB := B.trans (b.mono B.size)
            clear hl b RL F
            go_wp2_with fail
            go_ret
            exact ⟨rfl, BB⟩
      · have x1 : ¬ ((i : Int) < (nt : Int)) := by omega
        have x3 : decide ((i : Int) < (nt : Int)) = false := decide_eq_false x1
        clear hlt hi
        obtain ⟨c0, c1, c2, c3, c4, _⟩ := cd_cells K
        go_wp2_with fail
        clear c0 c1 c2 c3 c4
        refine HNr.out.mono ?_
        rintro en w41 ⟨b, d1, e1, V1, d2, e2, V2, d3, e3, rfl, N5, N6, RL, v1, v2⟩
        have F := (b.block gb hgb2).trans (show w40.heap[gb]? = _ from F)
        replace F : BF w41 gb N (fun q => e.testBit q) := F
        clear HNr hgb2
        replace K := keepB K b
        replace Z1 := keepZ Z1 b
        replace Z2 := keepZ Z2 b
        replace B := B.trans (b.mono B.size)
        clear b
        obtain rfl : V1 = X := len_inj (by have := N5.hlen; omega) v1
        obtain rfl : V2 = Q := len_inj (by have := N6.hlen; omega) (by rw [HQ.out]; exact v2)
        clear v1 v2
        obtain ⟨c0, c1, c2, c3, c4, _⟩ := cd_cells K
        go_wp2_with fail
        clear c0 c1 c2 c3 c4
        refine (sameB (newP_bytes N5) (blk_arg Z1 hfZ1.symm)).mono ?_
        rintro e w' ⟨rfl, rfl⟩
        rw [decide_eq_true rfl]
        obtain ⟨c0, c1, c2, c3, c4, _⟩ := cd_cells K
        go_wp2_with fail
        clear c0 c1 c2 c3 c4
        refine (sameB (newP_bytes N6) (blk_arg Z2 HQl.symm)).mono ?_
        rintro e w' ⟨rfl, rfl⟩
        rw [decide_eq_true rfl]
        obtain ⟨c0, c1, c2, c3, c4, _⟩ := cd_cells K
        go_wp2_with fail
        clear c0 c1 c2 c3 c4
        clear K Z1 Z2 N5 N6
        have b3 := Below.refl w41.heap.size w41
        obtain ⟨w42, hw42⟩ : ∃ w42, w42 = w41 := ⟨_, rfl⟩
        have HG42 := Lib.hid hw42
        go_loopg [28] pc (fun gh s28 wx => ∃ (j : Nat), gh = pc - j ∧ j ≤ pc ∧ s28 = .int .i64 (j : Int) ∧ Below w41.heap.size w41 wx)
        case atStart => exact ⟨0, rfl, Nat.zero_le _, rfl, b3⟩
        case round =>
          obtain ⟨j, hg, hj, rfl, b⟩ := hrel
          have HGj := Lib.hid hg
          obtain ⟨w43, rfl⟩ : ∃ w43, w43 = wr := ⟨_, rfl⟩
          have HB4 : Hid (∀ nq, Below w41.heap.size w41 (w43.drewN nq)) := fun nq => b.trans (((Drawn.mk w43 nq).below _).mono b.size)
          clear hg b3
          by_cases hl : j < pc
          · have y1 : (j : Int) < (pc : Int) := by omega
            have y2 : decide ((j : Int) < (pc : Int)) = true := decide_eq_true y1
            have y0 : (0 : Int) ≤ (j : Int) := by omega
            obtain ⟨hp1, hp2, hp3⟩ := HL.out j (by rw [← HPc.out]; exact hl)
            have RL' := RL.below b
            obtain ⟨rb, ro, ea, q1, _⟩ := RL'.row j hl
            have d5 := BF.cell (show BF w43 gb N (fun q => e.testBit q) from (b.block gb F.lt).trans F) hp1
            rw [hp2] at d5
            obtain ⟨p, hp⟩ : ∃ p, p = (plc e N).getD j 0 := ⟨_, rfl⟩
            rw [← hp] at hp1 hp3 d5 q1
            have p0 : (0 : Int) ≤ (p : Int) := by omega
            have p1 : (p : Int) < (N : Int) := by omega
            have t1 : decide ((p : Int) < 0) = false := decide_eq_false (by omega)
            have t2 : decide ((N : Int) ≤ (p : Int)) = false := decide_eq_false (by omega)
            have t2n : decide (N ≤ p) = false := decide_eq_false (by omega)
            have t2m : ¬ N ≤ p := by omega
            have HJ := Lib.hid hl
            by_cases hj0 : j = 0
            · have t3 : decide ((0 : Int) < (j : Int)) = false := decide_eq_false (by omega)
              have t3' : ¬ (0 : Int) < (j : Int) := by omega
              have t3n : decide (0 < j) = false := decide_eq_false (by omega)
              subst ea
              clear hp1 hp2 hp3 RL' hp hl hj0 b
              go_wp2_with fail
              go_quiet (fail)
              go_wp2_with fail
              go_roundg (pc - (j + 1))
              case measure => have := HGj.out; have := HJ.out; omega
              case rel => exact ⟨j + 1, rfl, HJ.out, by go_num, HB4.out _⟩
            · obtain ⟨jj, hjj⟩ : ∃ jj, jj + 1 = j := ⟨j - 1, by omega⟩
              have t3 : decide ((0 : Int) < (j : Int)) = true := decide_eq_true (by omega)
              have t3' : (0 : Int) < (j : Int) := by omega
              have t3n : decide (0 < j) = true := decide_eq_true (by omega)
              obtain ⟨rb2, ro2, ea2, q2, _⟩ := RL'.row jj (by omega)
              have hp4 := hp3 jj hjj
              obtain ⟨q, hq⟩ : ∃ q, q = (plc e N).getD jj 0 := ⟨_, rfl⟩
              rw [← hq] at hp4 q2
              have y5 : (j : Int) - 1 = (jj : Int) := by omega
              have y6 : (0 : Int) ≤ (jj : Int) := by omega
              have y7 : (jj : Int) < (pc : Int) := by omega
              have t4 : decide ((p : Int) ≤ (q : Int)) = false := decide_eq_false (by omega)
              have t4n : decide (p ≤ q) = false := decide_eq_false (by omega)
              have t4m : ¬ p ≤ q := by omega
              subst ea
              cases ea2
              clear hp1 hp2 hp3 hp4 RL' hp hq hl hj0 hjj b
              go_wp2_with fail
              go_quiet (fail)
              go_wp2_with fail
              go_roundg (pc - (j + 1))
              case measure => have := HGj.out; have := HJ.out; omega
              case rel => exact ⟨j + 1, rfl, HJ.out, by go_num, HB4.out _⟩
          · have y1 : ¬ (j : Int) < (pc : Int) := by omega
            have y2 : decide ((j : Int) < (pc : Int)) = false := decide_eq_false y1
            have BB := B.trans (b.mono B.size)
            clear hl b RL F
            go_wp2_with fail
            go_ret
            exact ⟨rfl, BB⟩
theorem walk (a0 a1 a2 : Int) (a3 : Option Addr) (len3 cap3 : Nat) (z3 : List Int) (a4 : Option Addr) (len4 cap4 : Nat) (z4 : List Int) (W : World) (w0 : (Lit.int .i64 a0).wf = true) (w1 : (Lit.int .i64 a1).wf = true) (w2 : (Lit.int .i64 a2).wf = true) (w3 : IsRow .u8 W a3 len3 cap3 z3) (w4 : IsRow .i64 W a4 len4 cap4 z4) (h : LaidDecodeMends.Holds W) :
    Calls Tryz.prog 5 #[.int .i64 a0, .int .i64 a1, .int .i64 a2, .slice a3 len3 cap3, .slice a4 len4 cap4] W fun e w' => e = .returned (.bool true) ∧ Below W.heap.size W w' := by
  obtain ⟨f, ⟨E0, E1, E2, E3, E4, E5⟩, _⟩ := h
  obtain ⟨l3, h3⟩ := row_pol w3
  obtain ⟨h4, m4⟩ := isrow_z w4
  exact core a0 a1 a2 a3 len3 cap3 l3 a4 len4 cap4 _ (by unfold maxLen at m4; omega) W _ _ _ E4 E5 E2 h4 h3
end Go.Proofs.YthmfneepnkgmgaaGreatDoor.walkDecodeMends
