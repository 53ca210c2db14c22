/- The walk over MinimalZeros. By the verifier of shale. -/
import Derived.Test.YtbapmkhdpfgnlaaDoorGreat1
import Derived.Test.YtbapmkhdpfgnlaaDoorGreat2
import Derived.Test.YtbapmkhdpfgnlaaDoorGreat3
import Derived.Test.YtbapmkhdpfgnlaaDoorGreat4
import Derived.Test.YtbapmkhdpfgnlaaDoorGreat5
import Derived.Test.YtbapmkhdpfgnlaaDoorGreat6
import Derived.Test.YtbapmkhdpfgnlaaDoorLaidMinimalZeros
namespace Go.Proofs.YtbapmkhdpfgnlaaDoor.walkMinimalZeros
open Go Go.RowKit Cos Bin
set_option linter.unusedVariables false
theorem and7 (z : Int) : bits .and .i64 z 7 = (((z % 8).toNat : Nat) : Int) := by
  show IntKind.i64.wrap ((BitVec.ofInt 64 z &&& BitVec.ofInt 64 7).toNat : Int) = _
  rw [BitVec.toNat_and, show (BitVec.ofInt 64 7).toNat = 2 ^ 3 - 1 by decide, Nat.and_two_pow_sub_one_eq_mod, BitVec.toNat_ofInt]
  rw [show (((z % ((2 ^ 64 : Nat) : Int)).toNat % 2 ^ 3 : Nat) : Int) = ((z % 8).toNat : Int) by omega]
  exact IntWalk.i64_in _ (by omega)
theorem exps_lt (v : Nat) : ∀ k e, e ∈ exps v k → e < k
  | 0, e, h => by simp [exps] at h
  | k + 1, e, h => by
    rw [exps] at h
    rcases List.mem_append.1 h with h | h
    · split at h
      · simp at h; omega
      · simp at h
    · have := exps_lt v k e h; omega
theorem bitV0 {w : World} {K : Nat} {a : Option Addr} {n c v : Nat} (P : PolV w K a n c v) (h : v.testBit 0 = true) : Calls Tryd.prog 32 #[.slice a n c, .int .i64 0] w fun e w' => e = .returned (.int .i64 1) ∧ w = w' := by
  obtain ⟨X, hX, rfl, _⟩ := P
  refine (bit_any a n c X 0 w hX (by decide)).mono ?_
  rintro e w' ⟨rfl, rfl⟩
  have e : bitZ X 0 = 1 := by
    unfold bitZ
    rw [if_neg (by decide)]
    show (if (val X).testBit 0 = true then (1 : Int) else 0) = 1
    rw [if_pos h]
  exact ⟨by rw [e], rfl⟩
set_option maxRecDepth 100000 in
set_option maxHeartbeats 4000000 in
theorem core (x0 x1 : Int) (w : World) (y : Addr) (E : ErrAt w 1 y) :
    Calls Tryd.prog 7 #[.int .i64 x0, .int .i64 x1] w fun e w' => e = .returned (.bool true) ∧ Below w.heap.size w w' := by
  have hm3 : 3 ≤ mk7 x0 := Pl.Mid.lo
  have hm9 := mk7_hi x0
  obtain ⟨T0, hT0⟩ : ∃ T0 : Nat, T0 = (x1 % 8).toNat := ⟨_, rfl⟩
  have hb7 : bits .and .i64 x1 7 = (T0 : Int) := by rw [and7, hT0]
  have hT7 : T0 ≤ 7 := by omega
  obtain ⟨T, hT⟩ : ∃ T, T = T0 + 1 := ⟨_, rfl⟩
  have hTi : Hid ((T0 : Int) + 1 = (T : Int)) := by show _ = _; omega
  have hT1 : 1 ≤ T := by omega
  have hT8 : T ≤ 8 := by omega
  clear hT0 hT
  have hm14 : ((mk7 x0 : Nat) : Int) ≤ 14 := by omega
  have ho := Fld.shl_one (mk7 x0) (by omega)
  have hn := sz_lo hm3
  have hn2 : sz (mk7 x0) ≤ 511 := by
    have := Nat.pow_le_pow_right (by decide : 0 < 2) hm9
    unfold sz; omega
  have hmin : Hid ((min (Fld.els (mk7 x0) : Int) ((sz (mk7 x0) : Int) - 1)).toNat = sz (mk7 x0) - 1) := by
    show _ = _
    have : (Fld.els (mk7 x0) : Int) = (sz (mk7 x0) : Int) + 1 := by unfold Fld.els sz; have := Nat.two_pow_pos (mk7 x0); omega
    omega
  go_enter Tryd.func7, Tryd.ntmps7
  go_wp2_with fail
  refine (first_any w y E).mono ?_
  rintro e w1 ⟨rfl, B⟩
  replace E := E.below B
  go_wp2_with fail
  refine (made_any x0 w1).mono ?_
  rintro e w2 ⟨s, be, ce, bl, rfl, F, b⟩
  replace B := B.trans (b.mono B.size)
  replace E := E.below b
  clear b
  go_wp2_with fail
  rw [hTi.out]
  refine (generator_any (m := mk7 x0) T hT1 (by omega) w2 F y E).mono ?_
  rintro e w3 (⟨hd, ag, ng, cg, rfl, G, b⟩ | ⟨hd, rfl, b⟩)
  rotate_left
  · replace B := B.trans (b.mono B.size)
    replace E := E.below b
    clear b F
    go_wp2_with fail
    refine (least_any (mk7 x0) T hm3 (by omega) hT1 (by omega) w3 y E).mono ?_
    rintro e w4 (⟨hd2, _⟩ | ⟨_, rfl, b⟩)
    · exact absurd hd2 (by omega)
    replace B := B.trans (b.mono B.size)
    replace E := E.below b
    clear b hd
    have e1 := E.1
    unfold Sent at e1
    have q1 := eql_err y
    go_wp2_with fail
    go_ret
    exact ⟨rfl, B⟩
  · have GG := goodG_is (m := mk7 x0) hm9 hT1 hT8 hd
    obtain ⟨g, hg⟩ : ∃ g, g = gpr (mk7 x0) (leads (mk7 x0) 1 2 T) := ⟨_, rfl⟩
    rw [← hg] at GG G
    replace B := B.trans (b.mono B.size)
    replace E := E.below b
    replace F := F.below hm3 b
    clear b hg
    go_wp2_with fail
    refine (least_any (mk7 x0) T hm3 (by omega) hT1 (by omega) w3 y E).mono ?_
    rintro e w4 (⟨_, rfl, b⟩ | ⟨hd2, _⟩)
    rotate_left
    · exact absurd hd2 (by omega)
    obtain ⟨D, hD⟩ : ∃ D, D = dgs (mk7 x0) (leads (mk7 x0) 1 2 T) := ⟨_, rfl⟩
    have g1 := GG.deg
    have g2 := GG.le
    rw [← hD] at g1 g2 hd ⊢
    have HG1 := Lib.hid g1
    have HBit := Lib.hid GG.bit
    have HDv := Lib.hid GG.div
    have hes : ∀ e ∈ exps g (topE g), e ≤ 2000 := fun e he => by
      have h1 := exps_lt g (topE g) e he
      have h2 := degZ_top g
      rw [g1] at h2
      omega
    have hz := zrs_first (m := mk7 x0) (exps g (topE g)) GG.two GG.zer
    replace B := B.trans (b.mono B.size)
    replace F := F.below hm3 b
    replace G := newV_since G b
    clear b hD E g1 GG
    go_wp2_with fail
    refine (zeros_any (m := mk7 x0) (Fld.els (mk7 x0) : Int) w4 F G.pol (by decide) hes).mono ?_
    rintro e w5 ⟨az, nz, cz, rfl, hO, b⟩
    rw [hmin.out] at hO
    have hlz := hO.len
    rw [ints_length] at hlz
    have Rz := (Pl.own_rowz hO).1
    rw [hlz] at hz
    have HZ := Lib.hid hz.2
    have hnz : 2 * T ≤ nz := hz.1
    replace B := B.trans (b.mono B.size)
    replace F := F.below hm3 b
    replace G := newV_since G b
    clear b hO hz hes
    obtain ⟨MT, hMT⟩ : ∃ MT, MT = mk7 x0 * T := ⟨_, rfl⟩
    rw [← hMT] at g2
    have hmul : ((mk7 x0 : Nat) : Int) * (T : Int) = (MT : Int) := by rw [hMT, Int.natCast_mul]
    have hMTb : MT ≤ 72 := by rw [hMT]; exact Nat.mul_le_mul hm9 hT8
    have i1 : IntKind.i64.wrap (MT : Int) = (MT : Int) := IntWalk.i64_in _ (by omega)
    have t1 : decide ((MT : Int) < (D : Int)) = false := decide_eq_false (by omega)
    have t2 : decide ((nz : Int) < 2 * (T : Int)) = false := decide_eq_false (by omega)
    have t1' : ¬ MT < D := by omega
    clear hMT
    go_wp2_with fail
    refine (degV G.pol (by decide)).mono ?_
    rintro e w' ⟨rfl, rfl⟩
    rw [HG1.out]
    have HS : Hid (Fld.FldAt (mk7 x0) w5 s be ce bl ∧ NewV w2 w5 81 ag ng cg g ∧ Below w.heap.size w w5) := ⟨F, G, B⟩
    clear F G B
    go_wp2_with fail
    go_loopg [13] (2 * T) (fun gh s13 wx => ∃ (i : Nat), gh = 2 * T - i ∧ i ≤ 2 * T ∧ s13 = .int .i64 (i : Int) ∧ w5 = wx)
    case atStart => exact ⟨0, rfl, Nat.zero_le _, rfl, rfl⟩
    case round =>
      obtain ⟨i, hg, hi, rfl, rfl⟩ := hrel
      have HGh := Lib.hid hg
      clear hg
      by_cases hlt : i < 2 * T
      · have v1 : decide ((i : Int) < 2 * (T : Int)) = true := decide_eq_true (by omega)
        have v0 : (0 : Int) ≤ (i : Int) := by omega
        have v2 : (i : Int) < (nz : Int) := by omega
        have hin : i < nz := by omega
        obtain ⟨bb, off, rfl, d1, _⟩ := Rz.row i hin
        have ez : (Cos.ints (zrs (mk7 x0) (exps g (topE g)) (sz (mk7 x0) - 1))).getD i 0 = (i : Int) + 1 := by
          unfold Cos.ints
          rw [List.getD_eq_getElem?_getD, List.getElem?_map]
          have h1 := HZ.out i hlt
          rw [List.getD_eq_getElem?_getD] at h1
          have h2 : i < (zrs (mk7 x0) (exps g (topE g)) (sz (mk7 x0) - 1)).length := by rw [hlz]; exact hin
          rw [List.getElem?_eq_getElem h2] at h1 ⊢
          simp only [Option.getD_some] at h1
          simp [h1]
        rw [ez] at d1
        clear ez
        go_wp2_with fail
        go_roundg (2 * T - (i + 1))
        case measure => have := HGh.out; omega
        case rel => exact ⟨i + 1, rfl, by omega, by go_num, rfl⟩
      · obtain rfl : i = 2 * T := by omega
        have v1 : ¬ (((2 * T : Nat) : Int) < 2 * (T : Int)) := by omega
        clear Rz HZ hlz hnz
        go_wp2_with fail
        go_loopg [14] T (fun gh s14 wx => ∃ (k : Nat), gh = T - k ∧ k ≤ T ∧ s14 = .int .i64 (1 + 2 * (k : Int)) ∧ Hid (Fld.FldAt (mk7 x0) wx s be ce bl ∧ NewV w2 wx 81 ag ng cg g ∧ Below w.heap.size w wx))
        case atStart => exact ⟨0, rfl, Nat.zero_le _, rfl, HS⟩
        case round =>
          clear HS
          obtain ⟨k, hg, hk, rfl, HS⟩ := hrel
          have HGh2 := Lib.hid hg
          clear hg
          by_cases hlt2 : k < T
          · have v3 : decide (1 + 2 * (k : Int) < 2 * (T : Int)) = true := decide_eq_true (by omega)
            have hrs : rs (mk7 x0) (1 + 2 * (k : Int)) = (1 + 2 * k) % sz (mk7 x0) := by
              unfold rs
              rw [show 1 + 2 * (k : Int) = ((1 + 2 * k : Nat) : Int) by omega, ← Int.natCast_emod]
              exact Int.toNat_natCast _
            have HX := Lib.hid hrs
            have HDk := Lib.hid (HDv.out k hlt2)
            have hxs : (1 + 2 * k) % sz (mk7 x0) < sz (mk7 x0) := Nat.mod_lt _ (by omega)
            have HV0 := Lib.hid (mpv_deg0 (m := mk7 x0) hxs)
            clear hrs hxs
            go_wp2_with fail
            refine (Cos.of_any (m := mk7 x0) (1 + 2 * (k : Int)) wr HS.out.1).mono ?_
            rintro e w7 ⟨a7, n7, c7, rfl, h7, b7⟩
            rw [HX.out] at h7
            have HS7 : Hid (Fld.FldAt (mk7 x0) w7 s be ce bl ∧ NewV w2 w7 81 ag ng cg g ∧ Below w.heap.size w w7) := ⟨HS.out.1.below hm3 b7, newV_since HS.out.2.1 b7, HS.out.2.2.trans (b7.mono HS.out.2.2.size)⟩
            have P7 := HS7.out.2.1.pol
            clear HS b7
            go_wp2_with fail
            refine (divV 81 P7 h7.pol (by decide) (by decide) (by decide) HV0.out).mono ?_
            rintro e w8 ⟨aq, nq, cq, ar, nr, cr, Q, Rm, rfl, _, hR, hd8, b8⟩
            have hR0 : Rm = 0 := by
              obtain ⟨q', h'⟩ := pmod_div g HV0.out
              rw [(IsDiv.unique HV0.out hd8 h').2]; exact HDk.out
            rw [hR0] at hR
            have PR := hR.pol
            have HS8 : Hid (Fld.FldAt (mk7 x0) w8 s be ce bl ∧ NewV w2 w8 81 ag ng cg g ∧ Below w.heap.size w w8) := ⟨HS7.out.1.below hm3 b8, newV_since HS7.out.2.1 b8, HS7.out.2.2.trans (b8.mono HS7.out.2.2.size)⟩
            clear HS7 P7 h7 hR hd8 b8 hR0
            go_wp2_with fail
            refine (degV PR (by decide)).mono ?_
            rintro e w' ⟨rfl, rfl⟩
            rw [degZ_zero]
            clear PR
            go_wp2_with fail
            go_roundg (T - (k + 1))
            case measure => have := HGh2.out; omega
            case rel => exact ⟨k + 1, rfl, by omega, by go_num, HS8⟩
          · obtain rfl : k = T := by omega
            have v3 : decide (1 + 2 * (k : Int) < 2 * (k : Int)) = false := decide_eq_false (by omega)
            have PG := HS.out.2.1.pol
            have B := HS.out.2.2
            clear HS
            go_wp2_with fail
            refine (bitV0 PG HBit.out).mono ?_
            rintro e w' ⟨rfl, rfl⟩
            go_wp2_with fail
            go_ret
            exact ⟨rfl, B⟩
theorem walk (x0 x1 : Int) (W : World) (w0 : (Lit.int .i64 x0).wf = true) (w1 : (Lit.int .i64 x1).wf = true) (h : LaidMinimalZeros.Holds W) :
    Calls Tryd.prog 7 #[.int .i64 x0, .int .i64 x1] W fun e w' => e = .returned (.bool true) ∧ Below W.heap.size W w' := by
  obtain ⟨f, ⟨E0, E1, E2, E3, E4⟩, _⟩ := h
  exact core x0 x1 W _ E4
end Go.Proofs.YtbapmkhdpfgnlaaDoor.walkMinimalZeros
