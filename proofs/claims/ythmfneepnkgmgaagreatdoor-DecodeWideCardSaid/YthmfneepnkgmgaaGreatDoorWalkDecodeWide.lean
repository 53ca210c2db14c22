/- The walk over DecodeWide. By the verifier of shale. -/
import Derived.Test.YthmfneepnkgmgaaGreatDoorGreat1
import Derived.Test.YthmfneepnkgmgaaGreatDoorGreat2
import Derived.Test.YthmfneepnkgmgaaGreatDoorGreat3
import Derived.Test.YthmfneepnkgmgaaGreatDoorGreat4
import Derived.Test.YthmfneepnkgmgaaGreatDoorGreat5
import Derived.Test.YthmfneepnkgmgaaGreatDoorGreat6
import Derived.Test.YthmfneepnkgmgaaGreatDoorLaidDecodeWide
import Derived.Deep.Cut
import Derived.BigQuiet
namespace Go.Proofs.YthmfneepnkgmgaaGreatDoor.walkDecodeWide
open Go Go.RowKit Bin Pl Cos Enc Syn Loc Sea Dec
set_option linter.unusedVariables false
def wT8 (z : Int) : Nat := (z % 8).toNat + 8
theorem wT8_go (z : Int) : z.tmod 8 % 8 + 8 = (wT8 z : Int) := by
  unfold wT8
  have : z.tmod 8 % 8 = z % 8 := by rw [Int.tmod_eq_emod]; split <;> omega
  omega
theorem byte_any (x : Int) : ∃ c : BitVec 8, x % 256 = Bits32.b c := ⟨BitVec.ofInt 8 (x % 256), by unfold Bits32.b; rw [BitVec.toNat_ofInt]; omega⟩
theorem cnt_go (z : Int) (t : Nat) : ∃ c : Nat, c ≤ t + 1 ∧ -((t : Int) + 2) < z.tmod ((t : Int) + 2) ∧ z.tmod ((t : Int) + 2) < (t : Int) + 2 ∧ (z.tmod ((t : Int) + 2) + (t : Int) + 2) % ((t : Int) + 2) = (c : Int) := by
  have h1 := Int.tmod_lt_of_pos z (b := (t : Int) + 2) (by omega)
  have h2 : -((t : Int) + 2) < z.tmod ((t : Int) + 2) := by
    have := Int.tmod_lt_of_pos (-z) (b := (t : Int) + 2) (by omega)
    rw [Int.neg_tmod] at this
    omega
  have h3 := Int.emod_lt_of_pos (z.tmod ((t : Int) + 2) + (t : Int) + 2) (b := (t : Int) + 2) (by omega)
  have h4 := Int.emod_nonneg (z.tmod ((t : Int) + 2) + (t : Int) + 2) (b := (t : Int) + 2) (by omega)
  exact ⟨((z.tmod ((t : Int) + 2) + (t : Int) + 2) % ((t : Int) + 2)).toNat, by omega, h2, h1, by omega⟩
theorem wT8_in (z : Int) : 8 ≤ wT8 z ∧ wT8 z ≤ 15 := by unfold wT8; omega
set_option maxRecDepth 100000 in
set_option maxHeartbeats 4000000 in
theorem core (z1 z2 z3 z4 : Int) (w : World) (yc ym yz : Addr)
    (EC : ErrAt w 3 yc) (EM : ErrAt w 1 ym) (EZ : ErrAt w 5 yz) :
    Calls Tryz.prog 7 #[.int .i64 z1, .int .i64 z2, .int .i64 z3, .int .i64 z4] w fun e w' => e = .returned (.bool true) ∧ Below w.heap.size w w' := by
  go_enter Tryz.func7, Tryz.ntmps7
  go_wp2_with fail
  refine (firstD_any w EC EM EZ).mono ?_
  rintro e w1 ⟨rfl, b⟩
  have B := b
  replace EC := EC.below b
  replace EM := EM.below b
  replace EZ := EZ.below b
  clear b
  have a1 : -8 < z1.tmod 8 := by rw [Int.tmod_eq_emod]; split <;> omega
  have a2 : z1.tmod 8 < 8 := by rw [Int.tmod_eq_emod]; split <;> omega
  have HQ1 := Lib.hid (wT8_go z1)
  go_wp2_with fail
  rw [HQ1.out]
  have l2 := wT8_in z1
  generalize wT8 z1 = t at l2 ⊢
  clear HQ1 a1 a2
  obtain ⟨m, hm⟩ : ∃ m, m = 14 := ⟨_, rfl⟩
  have HM := Lib.hid hm
  have HMid : Hid (Pl.Mid m) := by show Pl.Mid m; rw [hm]; exact ⟨by omega, by omega⟩
  haveI M := HMid.out
  obtain ⟨n, hn⟩ : ∃ n, n = 1024 := ⟨_, rfl⟩
  have HN0 := Lib.hid hn
  have ht1 : 1 ≤ t := by omega
  have ht40 : t ≤ 40 := by omega
  have hn1 : 1 ≤ n := by omega
  have hn2 : n ≤ 2048 := by omega
  have hD210 : deg m t ≤ 210 := by
    have h1 := deg_le (m := m) (by omega) t
    have h2 : m * t ≤ 14 * 15 := Nat.mul_le_mul (by omega) l2.2
    omega
  have hsz : sz m = 16383 := by rw [hm]; rfl
  have hDpos := deg_pos (m := m) M.lo ht1
  have hmay : May m t n := ⟨ht1, ht40, hn1, hn2, by omega, by omega⟩
  have hRm : 8 * n + deg m t ≤ Fld.size m := hmay.room
  have e14 : (14 : Int) = (m : Int) := by omega
  have e24 : (1024 : Int) = (n : Int) := by omega
  rw [e14, e24]
  have HE24 := Lib.hid e24
  clear e14 e24 hsz hn hm
  refine (new_any (m := m) hmay w1 yc EC).mono ?_
  rintro e w2 ⟨s, rfl, C, b, _⟩
  replace EM := EM.below b
  replace EZ := EZ.below b
  replace B := B.trans (b.mono B.size)
  clear b
  clear EC hmay
  go_wp2_with fail
  refine (newD_any s w2).mono ?_
  rintro e w3 ⟨db, rfl, DA, b, _⟩
  replace EM := EM.below b
  replace EZ := EZ.below b
  replace C := C.below b
  replace B := B.trans (b.mono B.size)
  clear b
  have hmk := fun w => made8 w n (by omega)
  rw [← HE24.out] at hmk
  go_wp2_with fail
  clear hmk
  generalize hw : w3.alloc (obj8 (List.replicate n 0)) = w10
  obtain ⟨Z3, b6⟩ := lit8 w3 w10 _ hw.symm
  clear hw
  obtain ⟨g3, hg3⟩ : ∃ g3, g3 = w3.heap.size := ⟨_, rfl⟩
  have HG3 := Lib.hid hg3
  rw [← hg3] at Z3 b6 ⊢
  have HZ : Hid (∃ Y : List (BitVec 8), Y.length = n ∧ Blk8 w10 g3 Y) := ⟨_, by simp, Z3⟩
  have HS : Hid (CodeAt m t n w3 s ∧ decAt w3 db s ∧ ErrAt w3 1 ym ∧ ErrAt w3 5 yz ∧ Below w.heap.size w w3) := ⟨C, DA, EM, EZ, B⟩
  clear Z3 C B DA EM EZ hg3
  go_loopg [14] n (fun gh s14 wx => ∃ (k : Nat), gh = n - k ∧ k ≤ n ∧ s14 = .int .i64 (k : Int) ∧ Hid (∃ Y : List (BitVec 8), Y.length = n ∧ Blk8 wx g3 Y) ∧ Below g3 w3 wx)
  case atStart => exact ⟨0, rfl, Nat.zero_le _, rfl, HZ, b6⟩
  case round =>
    clear HZ b6
    obtain ⟨k, hg, hk, rfl, HZ, hO⟩ := hrel
    have HGk := Lib.hid hg
    clear hg
    obtain ⟨Y, hY, Z3⟩ := HZ.out
    by_cases hlt : k < n
    · have x1 : (k : Int) < (n : Int) := by omega
      have x0 : (0 : Int) ≤ (k : Int) := by omega
      have d1 := Z3.cell (i := k) (by omega)
      have d2 := Z3.free k
      obtain ⟨c, hc⟩ : ∃ c : BitVec 8, wrap64 (wrap64 (z2 * ((k : Int) + 7)) + (k : Int) / 8) % 256 = Bits32.b c := byte_any _
      have o4 := Only.setCell wr ⟨g3, k, none⟩ (.int .u8 (Bits32.b c))
      have hs := Z3.set k c
      have HNx : Hid ((∃ Y' : List (BitVec 8), Y'.length = n ∧ Blk8 (wr.setCell ⟨g3, k, none⟩ (.int .u8 (Bits32.b c))) g3 Y') ∧ Below g3 w3 (wr.setCell ⟨g3, k, none⟩ (.int .u8 (Bits32.b c)))) :=
        ⟨⟨_, by rw [List.length_set]; exact hY, hs⟩, hO.trans (o4.below (Nat.le_refl g3))⟩
      clear Z3 HZ o4 hs hO
      go_wp2_with fail
      go_roundg (n - (k + 1))
      case measure => have := HGk.out; omega
      case rel => exact ⟨k + 1, rfl, by omega, by go_num, Lib.hid HNx.out.1, HNx.out.2⟩
    · have x1 : ¬ (k : Int) < (n : Int) := by omega
      have x2 : decide ((k : Int) < (n : Int)) = false := decide_eq_false x1
      obtain ⟨C, DA, EM, EZ, B⟩ := HS.out
      rw [HG3.out] at hO
      replace C := C.below hO
      replace DA := keepB DA hO
      replace EM := EM.below hO
      replace EZ := EZ.below hO
      replace B := B.trans (hO.mono B.size)
      clear HZ hO HS hlt
      obtain ⟨w20, rfl⟩ : ∃ w20, w20 = wr := ⟨_, rfl⟩
      go_wp2_with fail
      refine (fast_any (m := m) ht1 ht40 w20 s C _ n Y (blk_pol Z3 hY.symm (by omega)) hn2).mono ?_
      rintro e w21 ⟨g2, rfl, Z2, b, _⟩
      have hRl := par_lt (m := m) t (val Y)
      have HQl := byN_length (par m t (val Y)) (pb (deg m t))
      have HQv : val (byN (par m t (val Y)) (pb (deg m t))) = par m t (val Y) := val_byN (pb_room hRl)
      replace Z2 : Blk8 w21 g2 (byN (par m t (val Y)) (pb (deg m t))) := Z2
      obtain ⟨Q, hQ⟩ : ∃ Q, Q = byN (par m t (val Y)) (pb (deg m t)) := ⟨_, rfl⟩
      rw [← hQ] at Z2 HQl HQv
      clear hQ
      have hP8 : (pb (deg m t)) ≤ 30 := by unfold pb; omega
      obtain ⟨N, hN⟩ : ∃ N, N = 8 * n + deg m t := ⟨_, rfl⟩
      have HN := Lib.hid hN
      have hN3 : 8192 ≤ N ∧ N ≤ 8402 := by have := HN0.out; omega
      have hN2 : N ≤ 1000000 := by omega
      have hN1 : 0 < N := by omega
      clear hN
      replace DA := keepB DA b
      replace C := C.below b
      replace EM := EM.below b
      replace EZ := EZ.below b
      replace Z3 := keepZ Z3 b
      replace B := B.trans (b.mono B.size)
      clear b
      go_wp2_with fail
      refine (copy_any g3 0 n n Y w21 Z3.row hY.symm (by omega)).mono ?_
      rintro e w22 ⟨rfl, Z4, b⟩
      obtain ⟨g4, hg4⟩ : ∃ g4, g4 = w21.heap.size := ⟨_, rfl⟩
      rw [← hg4] at Z4 ⊢
      clear hg4
      replace DA := keepB DA b
      replace C := C.below b
      replace EM := EM.below b
      replace EZ := EZ.below b
      replace Z3 := keepZ Z3 b
      replace Z2 := keepZ Z2 b
      replace B := B.trans (b.mono B.size)
      clear b
      go_wp2_with fail
      obtain ⟨st, hst, hst2⟩ := Bits32.andMask z3 1023 (by decide)
      obtain ⟨at0, hat, hat2⟩ := Bits32.andMask z2 8191 (by decide)
      obtain ⟨cn, hcn, y1, y2, y3⟩ := cnt_go z4 t
      have hst3 : bits .and .i64 z3 1023 = (st : Int) := hst2
      have hat3 : bits .and .i64 z2 8191 = (at0 : Int) := hat2
      clear hst2 hat2
      have HY3 := Lib.hid y3
      clear y3
      have hmk := fun w => madeB w N (by omega)
      refine (copy_any g2 0 (pb (deg m t)) (pb (deg m t)) Q w22 Z2.row HQl.symm (by omega)).mono ?_
      rintro e w23 ⟨rfl, Z5, b⟩
      obtain ⟨g5, hg5⟩ : ∃ g5, g5 = w22.heap.size := ⟨_, rfl⟩
      rw [← hg5] at Z5 ⊢
      clear hg5
      replace DA := keepB DA b
      replace C := C.below b
      replace EM := EM.below b
      replace EZ := EZ.below b
      replace Z3 := keepZ Z3 b
      replace Z2 := keepZ Z2 b
      replace Z4 := keepZ Z4 b
      replace B := B.trans (b.mono B.size)
      clear b
      go_wp2_with fail
      rw [HY3.out]
      refine (bits_code (m := m) w23 s C hn2 ht40).mono ?_
      rintro e w24 ⟨rfl, d⟩
      rw [← HN.out]
      have b := d.below (World.heap w23).size
      clear d
      replace DA := keepB DA b
      replace C := C.below b
      replace EM := EM.below b
      replace EZ := EZ.below b
      replace Z3 := keepZ Z3 b
      replace Z2 := keepZ Z2 b
      replace Z4 := keepZ Z4 b
      replace Z5 := keepZ Z5 b
      replace B := B.trans (b.mono B.size)
      clear b
      go_wp2_with fail
      clear hmk
      obtain ⟨wa, rfl⟩ : ∃ wa, wa = w24 := ⟨_, rfl⟩
      have HS : Hid (CodeAt m t n wa s ∧ decAt wa db s ∧ Blk8 wa g3 Y ∧ Blk8 wa g2 Q ∧ ErrAt wa 1 ym ∧ ErrAt wa 5 yz ∧ Below w.heap.size w wa) := ⟨C, DA, Z3, Z2, EM, EZ, B⟩
      have b0 : Below wa.heap.size wa (wa.alloc (objB (List.replicate N false))) := (Below.refl _ _).alloc (Nat.le_refl _) _
      have F0 := BF.new wa N
      have hl4 := Z4.lt
      have hl5 := Z5.lt
      obtain ⟨gb, hgb⟩ : ∃ gb, gb = wa.heap.size := ⟨_, rfl⟩
      have HGb := Lib.hid hgb
      replace Z4 := keepZ Z4 b0
      replace Z5 := keepZ Z5 b0
      have hs1 : gb < (wa.alloc (objB (List.replicate N false))).heap.size := by rw [hgb]; simp
      rw [← hgb] at b0 F0 hl4 hl5 ⊢
      have F1 : BF (wa.alloc (objB (List.replicate N false))) gb N (fun q => (0 : Nat).testBit q) := F0.of fun i _ => by show _ = (0 : Nat).testBit i; rw [Nat.zero_testBit]
      generalize wa.alloc (objB (List.replicate N false)) = w30 at b0 F1 Z4 Z5 hs1 ⊢
      have P1 : Pol w30 (some ⟨g4, 0, none⟩) n n Y := blk_pol Z4 hY.symm (by omega)
      have P2 : Pol w30 (some ⟨g5, 0, none⟩) (pb (deg m t)) (pb (deg m t)) Q := blk_pol Z5 HQl.symm (by omega)
      have HI0 : Hid (Pol w30 (some ⟨g4, 0, none⟩) n n Y ∧ Pol w30 (some ⟨g5, 0, none⟩) (pb (deg m t)) (pb (deg m t)) Q ∧ val Q < 2 ^ deg m t ∧ wrd (deg m t) (val Y) (val Q) = wrd (deg m t) (val Y) (par m t (val Y)) ^^^ (0 : Nat) ∧ (0 : Nat) < 2 ^ N ∧ pop (0 : Nat) N ≤ 0 ∧ Apart7 gb (.slice none 0 0) (some ⟨g4, 0, none⟩) ∧ Apart7 gb (.slice none 0 0) (some ⟨g5, 0, none⟩) ∧ BF w30 gb N (fun q => (0 : Nat).testBit q) ∧ Below gb wa w30) :=
        ⟨P1, P2, by rw [HQv]; exact hRl, by rw [HQv, Nat.xor_zero], Nat.two_pow_pos _, by rw [pop_zero]; exact Nat.le_refl _, (fun q hq => by cases hq; exact ⟨by show g4 ≠ gb; omega, by simp [Value.ownBlock]⟩), (fun q hq => by cases hq; exact ⟨by show g5 ≠ gb; omega, by simp [Value.ownBlock]⟩), F1, b0⟩
      have HQ := Lib.hid HQv
      clear hgb C DA EM EZ B F0 F1 Z2 Z3 Z4 Z5 P1 P2 hs1 b0 HQv hRl hl4 hl5 hst3 hat3 y1 y2
      go_loopg [17, 18, 20, 21, 22] cn (fun gh s17 s18 s20 s21 s22 wx => ∃ (i e ai : Nat) (ad : Option Addr) (cd : Nat) (ap : Option Addr) (cp : Nat) (Xi Yi : List (BitVec 8)), gh = cn - i ∧ i ≤ cn ∧ ai ≤ 8500 ∧ s22 = .int .i64 (i : Int) ∧ s20 = .int .i64 (ai : Int) ∧ s21 = .int .i64 (pop e N : Int) ∧ s17 = .slice ad n cd ∧ s18 = .slice ap (pb (deg m t)) cp ∧ Hid (Pol wx ad n cd Xi ∧ Pol wx ap (pb (deg m t)) cp Yi ∧ val Yi < 2 ^ deg m t ∧ wrd (deg m t) (val Xi) (val Yi) = wrd (deg m t) (val Y) (par m t (val Y)) ^^^ e ∧ e < 2 ^ N ∧ pop e N ≤ i ∧ Apart7 gb (.slice none 0 0) ad ∧ Apart7 gb (.slice none 0 0) ap ∧ BF wx gb N (fun q => e.testBit q) ∧ Below gb wa wx))
      case atStart => exact ⟨0, 0, at0, _, _, _, _, Y, Q, rfl, Nat.zero_le _, by omega, rfl, rfl, by rw [pop_zero]; rfl, rfl, rfl, HI0⟩
      case round =>
        clear HI0
        obtain ⟨i, e, ai, ad, cd, ap, cp, Xi, Yi, hg, hile, hai, rfl, rfl, rfl, rfl, rfl, HI⟩ := hrel
        have HGh := Lib.hid hg
        have hpt := HI.out.2.2.2.2.2.1
        obtain ⟨pc, hpc⟩ : ∃ pc, pc = pop e N := ⟨_, rfl⟩
        rw [← hpc] at hpt ⊢
        have HPc := Lib.hid hpc
        clear hg hpc
        obtain ⟨w40, rfl⟩ : ∃ w40, w40 = wr := ⟨_, rfl⟩
        obtain ⟨C, DA, Z3, Z2, EM, EZ, B⟩ := HS.out
        by_cases hlt : i < cn
        · have x1 : (i : Int) < (cn : Int) := by omega
          have x3 : decide ((i : Int) < (cn : Int)) = true := decide_eq_true x1
          obtain ⟨PX, PY, hYl, hW, heN, hpT, AX, AY, hF, hO⟩ := HI.out
          have hO2 := hO
          rw [HGb.out] at hO2
          replace C := C.below hO2
          have hsz : gb < w40.heap.size := hF.lt
          obtain ⟨k, hk⟩ : ∃ k, k = (ai + (st * 2 + 1)) % N := ⟨_, rfl⟩
          have hkN : k < N := by rw [hk]; exact Nat.mod_lt _ hN1
          have hk3 : ((ai : Int) + ((st : Int) * 2 + 1)) % (N : Int) = (k : Int) := by rw [hk, Int.natCast_emod]; congr 1
          have HI1 : Hid (i + 1 ≤ cn) := hlt
          have HK : Hid (k ≤ 8500) := by show k ≤ 8500; omega
          clear DA Z3 Z2 EM EZ B HI hlt hO2 hk
          go_wp2_with fail
          refine (bits_code (m := m) w40 s C hn2 ht40).mono ?_
          rintro e' w41 ⟨rfl, d⟩
          rw [← HN.out]
          have b := d.below w40.heap.size
          clear d
          replace hO := hO.trans (b.mono (Nat.le_of_lt hsz))
          replace C := C.below b
          replace PX := PX.below b
          replace PY := PY.below b
          have F6 : BF w41 gb N (fun q => e.testBit q) := (b.block gb hsz).trans hF
          have d5 := F6.cell (i := k) hkN
          have d6 := F6.free k
          have hs6 : gb < w41.heap.size := F6.lt
          have y0 : (0 : Int) ≤ (k : Int) := by omega
          have y1 : (k : Int) < (N : Int) := by omega
          have n0 : ¬ (N : Int) = 0 := by omega
          clear hF b
          cases hb : e.testBit k
          · rw [hb] at d5
            have HE : Hid (e ^^^ 2 ^ k < 2 ^ N ∧ pop (e ^^^ 2 ^ k) N = pc + 1) := ⟨Nat.xor_lt_two_pow heN (pow_lt2 hkN), by rw [HPc.out]; exact pop_turn hb _ hkN⟩
            have F8 := bf_put F6 k true
            replace F8 := F8.of (q := fun q => (e ^^^ 2 ^ k).testBit q) fun q _ => by
              have h := flip_bit e k q
              rw [hb] at h
              exact h
            have o8 := Only.setCell w41 ⟨gb, k, none⟩ (.bool true)
            have PX8 : Pol (w41.setCell ⟨gb, k, none⟩ (.bool true)) ad n cd Xi := pol_keep PX (fun q hq _ => o8.block q.block (AX q hq).1) (by rw [o8.size]; exact Nat.le_refl _)
            have PY8 : Pol (w41.setCell ⟨gb, k, none⟩ (.bool true)) ap (pb (deg m t)) cp Yi := pol_keep PY (fun q hq _ => o8.block q.block (AY q hq).1) (by rw [o8.size]; exact Nat.le_refl _)
            have hO8 := hO.trans (o8.below (Nat.le_refl gb))
            have hz8 : gb < (w41.setCell ⟨gb, k, none⟩ (.bool true)).heap.size := by rw [o8.size]; exact hs6
            have H8 := Lib.hid (And.intro PX8 (And.intro PY8 (And.intro F8 (And.intro hO8 hz8))))
            have H9 := Lib.hid (And.intro hYl hW)
            clear PX PY F6 hO hYl hW AX AY hs6 F8 o8 PX8 PY8 hO8 hz8 heN hb hpT C
            go_upto_region 27 with (fail)
            generalize w41.setCell ⟨gb, k, none⟩ (.bool true) = w8 at H8 ⊢
            clear d5 d6
            obtain ⟨PX8, PY8, F8, hO8, hz8⟩ := H8.out
            have hO82 := hO8
            rw [HGb.out] at hO82
            have C8 := HS.out.1.below hO82
            have HFl := Lib.hid (flip_any (m := m) ht1 ht40 w8 s C8 ad cd Xi PX8 hn2 ap cp Yi PY8 k (by rw [← HN.out]; exact hkN))
            clear hO82 C8 PX8 PY8 F8 hO8 hz8
            go_wp2_with fail
            rw [hk3]
            clear hk3
            refine HFl.out.mono ?_
            rintro e' w9 ⟨a1, p1, X1, a2, p2, V1, rfl, N1, N2, hX1, hV1, b9⟩
            obtain ⟨PX8, PY8, F8, hO8, hz8⟩ := H8.out
            have HW1 := wd_turn (m := m) (k := k) H9.out.1 H9.out.2 (show val X1 = val Xi ^^^ ed (deg m t) k from hX1) (show val V1 = val Yi ^^^ ep (deg m t) k from hV1)
            have HN9 : Hid (Pol w9 a1 n p1 X1 ∧ Pol w9 a2 (pb (deg m t)) p2 V1 ∧ val V1 < 2 ^ deg m t ∧ wrd (deg m t) (val X1) (val V1) = wrd (deg m t) (val Y) (par m t (val Y)) ^^^ (e ^^^ 2 ^ k) ∧ (e ^^^ 2 ^ k) < 2 ^ N ∧ pop (e ^^^ 2 ^ k) N ≤ (i + 1) ∧ Apart7 gb (.slice none 0 0) a1 ∧ Apart7 gb (.slice none 0 0) a2 ∧ BF w9 gb N (fun q => (e ^^^ 2 ^ k).testBit q) ∧ Below gb wa w9) :=
              ⟨N1.pol, N2.pol, HW1.1, HW1.2, HE.out.1, by rw [HE.out.2]; omega, newP_aside N1 hz8 (fun g hg => by simp [Value.ownBlock] at hg), newP_aside N2 hz8 (fun g hg => by simp [Value.ownBlock] at hg), (b9.block gb hz8).trans F8, hO8.trans (b9.mono (Nat.le_of_lt hz8))⟩
            clear PX8 PY8 F8 hO8 hz8 hX1 hV1 N1 N2 b9 HFl H8 H9 HW1
            go_wp2_with fail
            go_roundg (cn - (i + 1))
            case measure => have := HGh.out; have := HI1.out; omega
            case rel => exact ⟨i + 1, e ^^^ 2 ^ k, k, a1, p1, a2, p2, X1, V1, rfl, HI1.out, HK.out, by go_num, rfl, by rw [HE.out.2]; go_num, rfl, rfl, HN9⟩
          · rw [hb] at d5
            have HN9 : Hid (Pol w41 ad n cd Xi ∧ Pol w41 ap (pb (deg m t)) cp Yi ∧ val Yi < 2 ^ deg m t ∧ wrd (deg m t) (val Xi) (val Yi) = wrd (deg m t) (val Y) (par m t (val Y)) ^^^ e ∧ e < 2 ^ N ∧ pop e N ≤ (i + 1) ∧ Apart7 gb (.slice none 0 0) ad ∧ Apart7 gb (.slice none 0 0) ap ∧ BF w41 gb N (fun q => e.testBit q) ∧ Below gb wa w41) := ⟨PX, PY, hYl, hW, heN, Nat.le_succ_of_le hpT, AX, AY, F6, hO⟩
            clear PX PY F6 hO hYl hW AX AY hs6 heN hb hpT C
            go_wp2_with fail
            rw [hk3]
            clear hk3
            go_roundg (cn - (i + 1))
            case measure => have := HGh.out; have := HI1.out; omega
            case rel => exact ⟨i + 1, e, k, ad, cd, ap, cp, Xi, Yi, rfl, HI1.out, HK.out, by go_num, rfl, by rw [HPc.out], rfl, rfl, HN9⟩
        · have x1 : ¬ (i : Int) < (cn : Int) := by omega
          have x3 : decide ((i : Int) < (cn : Int)) = false := decide_eq_false x1
          obtain ⟨PX, PY, hYl, hW, heN, hpT, _, _, F, hO⟩ := HI.out
          rw [HGb.out] at hO
          replace C := C.below hO
          replace DA := keepB DA hO
          replace Z2 := keepZ Z2 hO
          replace Z3 := keepZ Z3 hO
          replace EM := EM.below hO
          replace EZ := EZ.below hO
          replace B := B.trans (hO.mono B.size)
          have hwd := wd_of (m := m) (t := t) (X := val Xi) hYl
          by_cases hle : pc ≤ t
          · have t1 : (pc : Int) ≤ (t : Int) := by omega
            have t2 : decide ((pc : Int) ≤ (t : Int)) = true := decide_eq_true t1
            have t3 : decide (pc ≤ t) = true := decide_eq_true hle
            have HNr := near_any (m := m) ⟨DA, C, EM, EZ, ht1, ht40, hn1, hn2, hRm⟩ PX PY (V := val Y) (e := e) (by rw [← HN.out]; exact heN) (by rw [← HN.out, ← HPc.out]; exact hle) (by rw [hwd]; exact hW)
            unfold NearPost at HNr
            rw [← HN.out, ← HPc.out] at HNr
            replace HNr := Lib.hid HNr
            clear HS HI C DA EM EZ PX PY hYl hW heN hO hlt hwd hle hpT F
            go_wp2_with fail
            refine HNr.out.mono ?_
            rintro en w41 ⟨b, d1, e1, V1, d2, e2, V2, d3, e3, rfl, N5, N6, _, v1, v2⟩
            clear HNr
            replace Z2 := keepZ Z2 b
            replace Z3 := keepZ Z3 b
            replace B := B.trans (b.mono B.size)
            clear b
            obtain rfl : V1 = Y := len_inj (by have := N5.hlen; omega) v1
            obtain rfl : V2 = Q := len_inj (by have := N6.hlen; omega) (by rw [HQ.out]; exact v2)
            clear v1 v2
            go_wp2_with fail
            refine (sameB (newP_bytes N5) (blk_arg Z3 hY.symm)).mono ?_
            rintro e w' ⟨rfl, rfl⟩
            rw [decide_eq_true rfl]
            go_wp2_with fail
            refine (sameB (newP_bytes N6) (blk_arg Z2 HQl.symm)).mono ?_
            rintro e w' ⟨rfl, rfl⟩
            rw [decide_eq_true rfl]
            go_wp2_with fail
            go_ret
            exact ⟨rfl, B⟩
          · have t1 : ¬ (pc : Int) ≤ (t : Int) := by omega
            have t2 : decide ((pc : Int) ≤ (t : Int)) = false := decide_eq_false t1
            have t3 : decide (pc ≤ t) = false := decide_eq_false hle
            have HDe := Lib.hid (decode_any (m := m) ⟨DA, C, EM, EZ, ht1, ht40, hn1, hn2, hRm⟩ PX PY)
            have HMa : Hid (∀ l0, dec m t (8 * n + deg m t) (wd m t (val Xi) (val Yi)) = some l0 → ∃ e0 V, V ≠ val Y ∧ Calls Tryz.prog 16 #[.pointer (some ⟨db, 0, none⟩), .slice ad n cd, .slice ap (pb (deg m t)) cp] w40 (NearPost m t n V e0 w40)) := fun l0 hd => by
              rw [hwd] at hd
              obtain ⟨e0, V, he0, hl0, hp0, hw0⟩ := dec_right (m := m) hRm ht40 hYl hd
              refine ⟨e0, V, fun hv => ?_, near_any (m := m) ⟨DA, C, EM, EZ, ht1, ht40, hn1, hn2, hRm⟩ PX PY he0 hp0 (by rw [hwd]; exact hw0)⟩
              subst hv
              have h1 := hw0.symm.trans hW
              have h2 : e0 = e := by
                have h3 := congrArg (wrd (deg m t) (val Y) (par m t (val Y)) ^^^ ·) h1
                try simp only at h3
                rwa [← Nat.xor_assoc, Nat.xor_self, Nat.zero_xor, ← Nat.xor_assoc, Nat.xor_self, Nat.zero_xor] at h3
              rw [h2, ← HN.out, ← HPc.out] at hp0
              exact hle hp0
            have em := EM.1
            unfold Sent at em
            have q1 := eql_err ym
            clear HS HI hYl hW heN hO hlt hwd hle hpT F
            clear DA Z2 EZ PX PY
            go_wp2_with fail
            cases hd : dec m t (8 * n + deg m t) (wd m t (val Xi) (val Yi))
            case none =>
              refine HDe.out.mono ?_
              rintro en w41 ⟨b, hq⟩
              rw [hd] at hq
              obtain rfl := hq
              replace EM := EM.below b
              have em := EM.1
              unfold Sent at em
              replace B := B.trans (b.mono B.size)
              clear b hd HDe HMa C Z3
              go_wp2_with fail
              go_ret
              exact ⟨rfl, B⟩
            case some l0 =>
              obtain ⟨e0, V, hne, HNr⟩ := HMa.out l0 hd
              unfold NearPost at HNr
              obtain ⟨fr, hfr⟩ : ∃ fr, fr = pop e0 (8 * n + deg m t) := ⟨_, rfl⟩
              rw [← hfr] at HNr
              clear hd HMa HDe hfr em
              have HV := Lib.hid hne
              clear hne
              refine HNr.mono ?_
              rintro en w41 ⟨b, d1, e1, X1, d2, e2, Y1, d3, e3, rfl, N5, N6, _, v1, v2⟩
              clear HNr
              replace EM := EM.below b
              have em := EM.1
              unfold Sent at em
              have q2 : (binOp .eql 35 .nilIface (errOf ym)).run Tryz.prog w41 = .ok (.bool false) w41 := run_eql_iface_nil_left _ _ _ Tryz.underlying35
              replace B := B.trans (b.mono B.size)
              replace C := C.below b
              replace Z3 := keepZ Z3 b
              have hR : byN (prt (gen m t) (deg m t) (val X1)) (pb (deg m t)) = Y1 := len_inj (by rw [byN_length]; exact N6.hlen) (by rw [val_byN (pb_room (par_lt (m := m) t _)), v1, v2])
              have HR := Lib.hid (decide_eq_true hR)
              have HX : Hid (decide (X1 = Y) = false) := decide_eq_false fun h => HV.out (by rw [← v1, h])
              clear b hR v1 v2
              go_wp2_with fail
              refine (sameB (newP_bytes N5) (blk_arg Z3 hY.symm)).mono ?_
              rintro e w' ⟨rfl, rfl⟩
              rw [HX.out]
              go_wp2_with fail
              refine (right_any (m := m) ht1 ht40 w41 s C _ _ X1 N5.pol hn2 _ _ _ Y1 N6.pol).mono ?_
              rintro e w42 ⟨rfl, b⟩
              rw [HR.out]
              replace B := B.trans (b.mono B.size)
              clear b
              go_wp2_with fail
              go_ret
              exact ⟨rfl, B⟩
theorem walk (a0 a1 a2 a3 : Int) (W : World) (w0 : (Lit.int .i64 a0).wf = true) (w1 : (Lit.int .i64 a1).wf = true) (w2 : (Lit.int .i64 a2).wf = true) (w3 : (Lit.int .i64 a3).wf = true) (h : LaidDecodeWide.Holds W) :
    Calls Tryz.prog 7 #[.int .i64 a0, .int .i64 a1, .int .i64 a2, .int .i64 a3] W fun e w' => e = .returned (.bool true) ∧ Below W.heap.size W w' := by
  obtain ⟨f, ⟨E0, E1, E2, E3, E4, E5⟩, _⟩ := h
  exact core a0 a1 a2 a3 W _ _ _ E4 E5 E2
end Go.Proofs.YthmfneepnkgmgaaGreatDoor.walkDecodeWide
