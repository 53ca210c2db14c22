/- The walk over MinimalOf. By the verifier of shale. -/
import Derived.Test.YtbapmkhdpfgnlaaDoorGreat1
import Derived.Test.YtbapmkhdpfgnlaaDoorGreat2
import Derived.Test.YtbapmkhdpfgnlaaDoorGreat3
import Derived.Test.YtbapmkhdpfgnlaaDoorGreat4
import Derived.Test.YtbapmkhdpfgnlaaDoorGreat5
import Derived.Test.YtbapmkhdpfgnlaaDoorGreat6
import Derived.Test.YtbapmkhdpfgnlaaDoorGreat7
import Derived.Test.YtbapmkhdpfgnlaaDoorGreat8
import Derived.Test.YtbapmkhdpfgnlaaDoorLaidMinimalOf
import Derived.Lib.QuietBelow
import Derived.Deep.Cut
namespace Go.Proofs.YtbapmkhdpfgnlaaDoor.walkMinimalOf
open Go Go.RowKit Go.Sort Cos Bin
set_option linter.unusedVariables false
set_option maxRecDepth 100000 in
set_option maxHeartbeats 1000000 in
theorem long (x0 x1 : Int) (a : Option Addr) (n cap : Nat) (most : Int) (w : World) (y : Addr) (E : ErrAt w 1 y) (h : 10 < n) :
    Calls Tryd.prog 4 #[.int .i64 x0, .int .i64 x1, .slice a n cap, .int .i64 most] w fun e w' => e = .returned (.bool true) ∧ Below w.heap.size w w' := by
  have t : decide ((10 : Int) < (n : Int)) = true := decide_eq_true (by omega)
  go_enter Tryd.func4, Tryd.ntmps4
  go_wp2_with fail
  refine (first_any w y E).mono ?_
  rintro e w1 ⟨rfl, B⟩
  clear E
  go_wp2_with fail
  refine (made_any x0 w1).mono ?_
  rintro e w2 ⟨s, be, ce, bl, rfl, F, b⟩
  replace B := B.trans (b.mono B.size)
  clear b F
  go_wp2_with fail
  go_ret
  exact ⟨rfl, B⟩
set_option maxRecDepth 100000 in
set_option maxHeartbeats 2000000 in
theorem core (x0 x1 : Int) (a : Option Addr) (n cap v : Nat) (most : Int) (w : World) (y : Addr) (E : ErrAt w 1 y) (P : PolV w 10 a n cap v) :
    Calls Tryd.prog 4 #[.int .i64 x0, .int .i64 x1, .slice a n cap, .int .i64 most] w fun e w' => e = .returned (.bool true) ∧ Below w.heap.size w w' := by
  obtain ⟨i0, hi, hz0, hz1, hz2⟩ := info64
  have hn10 : n ≤ 10 := by obtain ⟨X, _, _, h⟩ := P; exact h
  have t : decide ((10 : Int) < (n : Int)) = false := decide_eq_false (by omega)
  have t' : ¬ 10 < n := by omega
  have hm3 : 3 ≤ mk7 x0 := Pl.Mid.lo
  have hm9 := mk7_hi x0
  have hm14 : ((mk7 x0 : Nat) : Int) ≤ 14 := by omega
  have ho := Fld.shl_one (mk7 x0) (by omega)
  have hn := sz_lo hm3
  have hn2 : sz (mk7 x0) ≤ 511 := by
    have := Nat.pow_le_pow_right (by decide : 0 < 2) hm9
    unfold sz; omega
  have hels : (Fld.els (mk7 x0) : Int) = (sz (mk7 x0) : Int) + 1 := by unfold Fld.els sz; have := Nat.two_pow_pos (mk7 x0); omega
  have hw : IntKind.i64.wrap ((Fld.els (mk7 x0) : Int) - 2) = (sz (mk7 x0) : Int) - 1 := by
    rw [hels, show (sz (mk7 x0) : Int) + 1 - 2 = (sz (mk7 x0) : Int) - 1 by omega]; exact IntWalk.i64_in _ (by omega)
  have HTop := Lib.hid (top_len P)
  obtain ⟨N, hN⟩ : ∃ N, N = sz (mk7 x0) := ⟨_, rfl⟩
  rw [← hN] at hw hn hn2
  have HN := Lib.hid hN
  clear hN hels
  go_enter Tryd.func4, Tryd.ntmps4
  go_wp2_with fail
  refine (first_any w y E).mono ?_
  rintro e w1 ⟨rfl, B⟩
  clear E
  go_wp2_with fail
  refine (made_any x0 w1).mono ?_
  rintro e w2 ⟨s, be, ce, bl, rfl, F, b⟩
  replace B := B.trans (b.mono B.size)
  clear b
  go_wp2_with fail
  refine (Cos.of_any (m := mk7 x0) x1 w2 F).mono ?_
  rintro e w3 ⟨a3, n3, c3, rfl, h3, b⟩
  replace B := B.trans (b.mono B.size)
  replace F := F.below hm3 b
  clear b
  go_wp2_with fail
  refine (rminimal_any (m := mk7 x0) x1 w3).mono ?_
  rintro e w4 ⟨a4, n4, c4, rfl, h4, b⟩
  replace B := B.trans (b.mono B.size)
  replace F := F.below hm3 b
  replace h3 := newV_since h3 b
  clear b
  go_wp2_with fail
  refine (sameNV h3 h4 rfl).mono ?_
  rintro e w' ⟨rfl, rfl⟩
  replace P := P.below B
  have HS : Hid (Fld.FldAt (mk7 x0) w4 s be ce bl ∧ PolV w4 10 a n cap v ∧ Below w.heap.size w w4) := ⟨F, P, B⟩
  clear h3 h4 F P B
  obtain ⟨T, hT⟩ : ∃ T : Nat, T = (min most ((N : Int) - 1)).toNat := ⟨_, rfl⟩
  have hTN : T ≤ N := by omega
  have HT := Lib.hid hT
  obtain ⟨es, hE⟩ : ∃ es, es = Bin.exps v (Bin.topE v) := ⟨_, rfl⟩
  have HE := Lib.hid hE
  clear hT hE
  obtain ⟨W4, rfl⟩ : ∃ W4, W4 = w4 := ⟨_, rfl⟩
  go_wp2_with fail
  go_loopg [12, 13] T (fun gh s12 s13 wx => ∃ (k n2 : Nat), gh = T - k ∧ k ≤ T ∧ n2 ≤ k ∧ s13 = .int .i64 ((k : Int) + 1) ∧ Own64 wx W4.heap.size s12 n2 (Cos.ints (zrs (mk7 x0) es k)) ∧ Below W4.heap.size W4 wx)
  case atStart => exact ⟨0, 0, rfl, Nat.zero_le _, Nat.le_refl _, rfl, Own64.nil _ _, Below.refl _ _⟩
  case round =>
    obtain ⟨k, n2, hg, hk, hnk, rfl, hO, hB⟩ := hrel
    have HG := Lib.hid hg
    clear hg
    obtain ⟨av, cv, rfl⟩ := own_slice hO
    have HO := Lib.hid hO
    have HB := Lib.hid hB
    clear hO hB
    by_cases hlt : k < T
    · have t1 : decide ((k : Int) + 1 ≤ min most ((N : Int) - 1)) = true := decide_eq_true (by have := HT.out; omega)
      have j1 : ((8 * n : Nat) : Int) - 1 = 8 * (n : Int) - 1 := by omega
      obtain ⟨W0, rfl⟩ : ∃ W0, W0 = wr := ⟨_, rfl⟩
      have PW := HS.out.2.1.below HB.out
      go_wp2_with fail
      rw [ho]
      go_loopg [14, 15] (8 * n) (fun gh s14 s15 wx => ∃ (d : Nat) (X : BitVec 16), gh = d ∧ d ≤ 8 * n ∧ s15 = .int .i64 ((d : Int) - 1) ∧ s14 = .int .i64 (Bits16.h X) ∧ Hid (X.toNat < 2 ^ mk7 x0 ∧ Fld.fmul (mk7 x0) X (Fld.pwZ (mk7 x0) (((k + 1) * d : Nat) : Int)) ^^^ evx (mk7 x0) (Bin.exps v d) (k + 1) = evx (mk7 x0) es (k + 1)) ∧ Below W0.heap.size W0 wx)
      case atStart =>
        refine ⟨8 * n, 0, rfl, Nat.le_refl _, by rw [j1], rfl, ⟨Nat.two_pow_pos _, ?_⟩, Below.refl _ _⟩
        rw [HE.out]
        exact hor_start hm3 (by omega) v (8 * n) (k + 1) HTop.out
      case round =>
        obtain ⟨d, X, hgd, hd, rfl, rfl, HI, hB2⟩ := hrel
        have HGd := Lib.hid hgd
        clear hgd
        rcases d with _ | d
        · have t2 : decide ((((0 : Nat) : Int) - 1) ≥ 0) = false := by decide
          have hX : X = evx (mk7 x0) es (k + 1) := hor_end hm3 (by omega) v (k + 1) X _ HI.out.1 HI.out.2
          have hzz := h_zero X
          by_cases h0 : X = 0
          · rw [decide_eq_true h0] at hzz
            have HF : Hid (Cos.ints (zrs (mk7 x0) es (k + 1)) = Cos.ints (zrs (mk7 x0) es k) ++ [(k : Int) + 1]) := by
              show _ = _
              rw [zrs, if_pos (by rw [← hX]; exact h0), ints_snoc]; rfl
            have hbs := HB.out.size
            have ho5 : Own64 wr W4.heap.size (.slice av n2 cv) n2 (Cos.ints (zrs (mk7 x0) es k)) := HO.out.keep (fun g hg => hB2.block g (HO.out.block g hg).2)
            have HB5 : Hid (Below W4.heap.size W4 wr) := HB.out.trans (hB2.mono hbs)
            have hbs5 := HB5.out.size
            clear hX h0 HI hB2
            generalize Bits16.h X = zv at hzz ⊢
            go_wp2_with (at_builtin; refine wpList_append_own _ rfl _ _ 23 rfl W4.heap.size 3 i0 (.int .i64 0) 1 8 Tryd.underlying23 hi hz0 hz1 hz2 rfl (by decide) _ n2 _ rfl (World.ownsRow.alloc ho5 _) ⟨wr.heap.size, 0, none⟩ 1 1 [.int .i64 ((k : Int) + 1)] rfl rfl (cell_one_new _ _ _) (ints_oneCell .i64 [_]) (by unfold maxLen; omega) (by omega) (by simp; omega) ?_; intro v7 w7 hown7 hgrow _)
            have ho7 : Own64 w7 W4.heap.size v7 (n2 + 1) (Cos.ints (zrs (mk7 x0) es (k + 1))) := by
              unfold Own64
              rw [HF.out, ← cells64_append]
              exact hown7
            have b7 : Below W4.heap.size W4 w7 := (HB5.out.alloc hbs5 _).grown hgrow (by simp; omega) (fun g hg => (ho5.block g hg).1)
            clear hown7 hgrow ho5
            go_wp2_with fail
            go_roundg (T - (k + 1))
            case measure => have := HG.out; omega
            case rel => exact ⟨k + 1, n2 + 1, rfl, by omega, by omega, by go_num, ho7, b7⟩
          · rw [decide_eq_false h0] at hzz
            have hbs := HB.out.size
            have HO2 : Hid (Own64 wr W4.heap.size (.slice av n2 cv) n2 (Cos.ints (zrs (mk7 x0) es (k + 1)))) := by
              show Own64 _ _ _ _ _
              rw [zrs, if_neg (by rw [← hX]; exact h0), List.append_nil]; exact HO.out.keep (fun g hg => hB2.block g (HO.out.block g hg).2)
            have HB5 : Hid (Below W4.heap.size W4 wr) := HB.out.trans (hB2.mono hbs)
            clear hX h0 HI hB2
            generalize Bits16.h X = zv at hzz ⊢
            go_wp2_with fail
            go_roundg (T - (k + 1))
            case measure => have := HG.out; omega
            case rel => exact ⟨k + 1, n2, rfl, by omega, by omega, by go_num, HO2.out, HB5.out⟩
        · have t2 : decide ((((d + 1 : Nat) : Int) - 1) ≥ 0) = true := decide_eq_true (by omega)
          have j2 : ((d + 1 : Nat) : Int) - 1 = (d : Int) := by omega
          have k1 : (k : Int) + 1 = ((k + 1 : Nat) : Int) := by omega
          have HN2 := Lib.hid (hor_step hm3 (by omega) v d (k + 1) X _ HI.out.1 HI.out.2)
          have y0 : (0 : Int) ≤ (d : Int) := by omega
          have HB2 := Lib.hid hB2
          have PR := PW.below hB2
          have HX := Lib.hid HI.out.1
          clear HI hB2 PW
          have hx := Fld.rxor (Fld.fmul (mk7 x0) X (Fld.pwZ (mk7 x0) ((k : Int) + 1))) (bitE v d)
          rw [k1] at hx
          obtain ⟨Y, hY⟩ : ∃ Y, Y = Fld.fmul (mk7 x0) X (Fld.pwZ (mk7 x0) ((k + 1 : Nat) : Int)) ^^^ bitE v d := ⟨_, rfl⟩
          rw [← hY] at hx HN2
          have HXR := Lib.hid hx
          clear hY
          have cE : Hid (∀ W, Calls Tryd.prog 19 #[.int .i64 ((mk7 x0 : Nat) : Int), .int .i64 ((k : Int) + 1)] W fun e w'' => e = .returned (.int .i64 (Bits16.h (Fld.pwZ (mk7 x0) ((k + 1 : Nat) : Int)))) ∧ Below W.heap.size W w'') := fun W => by
            have this := Fld.rexp_any (mk7 x0) hm3 (by omega) ((k : Int) + 1) W
            rw [← k1]
            exact this
          have cM : Hid (∀ W, Calls Tryd.prog 18 #[.int .i64 ((mk7 x0 : Nat) : Int), .int .i64 (Bits16.h X), .int .i64 (Bits16.h (Fld.pwZ (mk7 x0) ((k + 1 : Nat) : Int)))] W fun e w'' => e = .returned (.int .i64 (Bits16.h (Fld.fmul (mk7 x0) X (Fld.pwZ (mk7 x0) ((k + 1 : Nat) : Int))))) ∧ Below W.heap.size W w'') := fun W => Fld.rmul_at (mk7 x0) hm3 (by omega) X _ HX.out (Fld.pwZ_lt (mk7 x0) hm3 (by omega) _) _
          clear hx HX
          rw [j2]
          clear k1 j2
          generalize Bits16.h (Fld.fmul (mk7 x0) X (Fld.pwZ (mk7 x0) ((k + 1 : Nat) : Int))) = pv at cM HXR
          generalize Bits16.h (Fld.pwZ (mk7 x0) ((k + 1 : Nat) : Int)) = ev at cE cM
          go_wp2_with fail
          go_at_call 19
          with_reducible refine (cE.out _).mono ?_
          rintro e w5 ⟨rfl, b5⟩
          go_wp2_with fail
          go_at_call 18
          with_reducible refine (cM.out _).mono ?_
          rintro e w6 ⟨rfl, b6⟩
          have P6 := (PR.below b5).below b6
          have HB6 : Hid (Below W0.heap.size W0 w6) := (HB2.out.trans (b5.mono HB2.out.size)).trans (b6.mono (Nat.le_trans HB2.out.size b5.size))
          clear b5 b6 PR cE cM HB2
          go_wp2_with fail
          go_at_call 20
          with_reducible refine (rBitE P6 d (by omega)).mono ?_
          rintro e w7 ⟨rfl, rfl⟩
          replace HXR := HXR.out
          clear P6
          go_wp2_with fail
          go_roundg d
          case measure => have := HGd.out; omega
          case rel => exact ⟨d, _, rfl, by omega, by go_num, rfl, HN2, HB6.out⟩
    · obtain rfl : k = T := by omega
      have t1 : decide ((k : Int) + 1 ≤ min most ((N : Int) - 1)) = false := decide_eq_false (by have := HT.out; omega)
      have HBf : Hid (Below w.heap.size w wr) := HS.out.2.2.trans (HB.out.mono HS.out.2.2.size)
      have FR := HS.out.1.below hm3 HB.out
      have PR := HS.out.2.1.below HB.out
      have Rw := (Pl.own_rowz HO.out).1
      clear HS HO HB
      obtain ⟨XX, pX, vX, lX⟩ := PR
      go_wp2_with fail
      refine (copy_of pX.arg pX.hnil (by omega)).mono ?_
      rintro e w5 ⟨rfl, hk5, b5⟩
      have PC : PolV w5 10 (some ⟨wr.heap.size, 0, none⟩) n n v := ⟨XX, ⟨pX.hlen, Nat.le_refl _, by unfold maxLen; omega, (fun h => by cases h), Or.inr ⟨_, 0, rfl, hk5.row, hk5.lt⟩⟩, vX, lX⟩
      have hes : ∀ e ∈ Bin.exps v (Bin.topE v), e ≤ 2000 := fun e he => by
        have h1 := exps_lt v (Bin.topE v) e he
        have := HTop.out
        omega
      replace FR := FR.below hm3 b5
      replace Rw := Rw.below b5
      have HB5 : Hid (Below w.heap.size w w5) := HBf.out.trans (b5.mono HBf.out.size)
      clear hk5 b5 HBf pX
      go_wp2_with fail
      refine (zeros_any (m := mk7 x0) most w5 FR PC (by decide) hes).mono ?_
      rintro e w6 ⟨az, nz, cz, rfl, hO, b⟩
      have Rz := (Pl.own_rowz hO).1
      rw [← HE.out, ← HN.out, ← HT.out] at Rz
      replace Rw := Rw.below b
      have HB6 : Hid (Below w.heap.size w w6) := HB5.out.trans (b.mono HB5.out.size)
      clear b hO HB5 FR PC
      go_wp2_with fail
      refine (Pl.sameZ_any _ _ _ _ _ _ _ _ w6 Rz Rw).mono ?_
      rintro e w7 ⟨rfl, d⟩
      rw [decide_eq_true rfl]
      have HB7 : Hid (Below w.heap.size w w7) := HB6.out.trans (d.below _)
      clear d
      go_wp2_with fail
      go_ret
      exact ⟨rfl, HB7.out⟩
theorem walk (x0 x1 : Int) (a2 : Option Addr) (len2 cap2 : Nat) (z2 : List Int) (x3 : Int) (W : World) (w0 : (Lit.int .i64 x0).wf = true) (w1 : (Lit.int .i64 x1).wf = true) (w2 : IsRow .u8 W a2 len2 cap2 z2) (w3 : (Lit.int .i64 x3).wf = true) (h : LaidMinimalOf.Holds W) :
    Calls Tryd.prog 4 #[.int .i64 x0, .int .i64 x1, .slice a2 len2 cap2, .int .i64 x3] W fun e w' => e = .returned (.bool true) ∧ Below W.heap.size W w' := by
  obtain ⟨f, ⟨E0, E1, E2, E3⟩, _⟩ := h
  by_cases hn : len2 ≤ 10
  · obtain ⟨v, PV⟩ := row_polV w2 10 hn
    exact core x0 x1 a2 len2 cap2 v x3 W _ E3 PV
  · exact long x0 x1 a2 len2 cap2 x3 W _ E3 (by omega)
end Go.Proofs.YtbapmkhdpfgnlaaDoor.walkMinimalOf
