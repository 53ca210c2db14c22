/- The walk over MinimalWhole. By the verifier of shale. -/
import Derived.Test.YtbapmkhdpfgnlaaDoorGreat1
import Derived.Test.YtbapmkhdpfgnlaaDoorGreat2
import Derived.Test.YtbapmkhdpfgnlaaDoorGreat3
import Derived.Test.YtbapmkhdpfgnlaaDoorGreat4
import Derived.Test.YtbapmkhdpfgnlaaDoorLaidMinimalWhole
namespace Go.Proofs.YtbapmkhdpfgnlaaDoor.walkMinimalWhole
open Go Go.RowKit Cos Bin
set_option linter.unusedVariables false
/-- the m that the statement makes. -/
def mk5 (z : Int) : Nat := (z % 5).toNat
theorem mk5_go (z : Int) : z.tmod 5 % 5 = (mk5 z : Int) := by
  unfold mk5
  have : z.tmod 5 % 5 = z % 5 := by rw [Int.tmod_eq_emod]; split <;> omega
  omega
theorem mk5_hi (z : Int) : mk5 z ≤ 4 := by unfold mk5; omega
theorem whole {m : Nat} [M : Pl.Mid m] (h : m ≤ 7) : gpr m (leads m 0 1 (sz m)) = xp [sz m, 0] := by
  rw [gprN_is, leads_fast M.lo]
  have := M.lo
  rcases (by omega : m = 3 ∨ m = 4 ∨ m = 5 ∨ m = 6 ∨ m = 7) with rfl | rfl | rfl | rfl | rfl
  · exact w3
  · exact w4
  · exact w5
  · exact w6
  · exact w7
theorem few {m : Nat} [M : Pl.Mid m] (h : m ≤ 7) : (leads m 0 1 (sz m)).length ≤ 20 := by
  rw [leads_fast M.lo]
  have := M.lo
  rcases (by omega : m = 3 ∨ m = 4 ∨ m = 5 ∨ m = 6 ∨ m = 7) with rfl | rfl | rfl | rfl | rfl <;> decide +kernel
set_option maxRecDepth 100000 in
set_option maxHeartbeats 4000000 in
theorem core (x0 : Int) (w : World) (y : Addr) (E : ErrAt w 1 y) :
    Calls Tryd.prog 8 #[.int .i64 x0] w fun e w' => e = .returned (.bool true) ∧ Below w.heap.size w w' := by
  have HQ := Lib.hid (mk5_go x0)
  have a1 := Int.tmod_lt_of_pos x0 (b := 5) (by omega)
  have a2 : -5 < x0.tmod 5 := by
    have := Int.tmod_lt_of_pos (-x0) (b := 5) (by omega)
    rw [Int.neg_tmod] at this
    omega
  have hm5 := mk5_hi x0
  obtain ⟨q, hq⟩ : ∃ q, q = mk5 x0 := ⟨_, rfl⟩
  rw [← hq] at HQ hm5
  clear hq
  go_enter Tryd.func8, Tryd.ntmps8
  go_wp2_with fail
  refine (first_any w y E).mono ?_
  rintro e w1 ⟨rfl, B⟩
  go_wp2_with fail
  rw [HQ.out]
  have hmq : mk7 (q : Int) = q + 3 := by unfold mk7; omega
  rw [show (q : Int) + 3 = ((mk7 (q : Int) : Nat) : Int) by rw [hmq]; omega]
  have HM := Lib.hid (whole (m := mk7 (q : Int)) (by omega))
  have HFew := Lib.hid (few (m := mk7 (q : Int)) (by omega))
  have hm3 : 3 ≤ mk7 (q : Int) := Pl.Mid.lo
  have hm9 := mk7_hi (q : Int)
  have hm7 : mk7 (q : Int) ≤ 7 := by omega
  clear hmq
  refine (made_any (q : Int) w1).mono ?_
  rintro e w2 ⟨s, be, ce, bl, rfl, F, b⟩
  replace B := B.trans (b.mono B.size)
  clear b E
  have hm14 : ((mk7 (q : Int) : Nat) : Int) ≤ 14 := by omega
  have ho := Fld.shl_one (mk7 (q : Int)) (by omega)
  have hn := sz_lo hm3
  have hn2 : sz (mk7 (q : Int)) ≤ 127 := by
    have := Nat.pow_le_pow_right (by decide : 0 < 2) hm7
    unfold sz; omega
  have hw : IntKind.i64.wrap ((Fld.els (mk7 (q : Int)) : Int) - 1) = (sz (mk7 (q : Int)) : Int) := by
    have : (Fld.els (mk7 (q : Int)) : Int) - 1 = (sz (mk7 (q : Int)) : Int) := by unfold Fld.els sz; have := Nat.two_pow_pos (mk7 (q : Int)); omega
    rw [this]; exact IntWalk.i64_in _ (by omega)
  obtain ⟨N, hN⟩ : ∃ N, N = sz (mk7 (q : Int)) := ⟨_, rfl⟩
  rw [← hN] at hn hn2 hw HM HFew
  have HN := Lib.hid hN
  clear hN
  go_wp2_with fail
  refine (all_any (mk7 (q : Int)) hm3 (by omega) w2).mono ?_
  rintro e w5 ⟨v, n, vs, rfl, hC, b⟩
  rw [← HN.out] at hC
  replace B := B.trans (b.mono B.size)
  replace F := F.below hm3 b
  clear b
  have hnl := hC.len
  have hn0 : 0 < n := by
    rw [← hnl]
    obtain ⟨N', rfl⟩ : ∃ N', N = N' + 1 := ⟨N - 1, by omega⟩
    exact leads_pos _ 0 1 N'
  have hnN : n ≤ 20 := by rw [← hnl]; exact HFew.out
  have HLT : Hid (∀ f ∈ leads (mk7 (q : Int)) 0 1 N, f < sz (mk7 (q : Int))) := leads_lt hm3 0 1 N
  have HNE : Hid (∀ k, k < n → cos (mk7 (q : Int)) ((leads (mk7 (q : Int)) 0 1 N).getD k 0) ≠ []) := fun k hk => cos_ne hm3 (HLT.out _ (getD_lt (by rw [hnl]; exact hk)))
  have HNL := Lib.hid hnl
  obtain ⟨g9, cap, rfl, hnc, hcm, _⟩ := hC.open hn0
  have tz : ((n : Int) == 0) = false := by rw [beq_eq_false_iff_ne]; omega
  have tz2 : ¬ (n : Int) = 0 := by omega
  have tz3 : ¬ n = 0 := by omega
  clear hnl
  go_wp2_with fail
  obtain ⟨r1, b1⟩ := row_lit w5 [0] 1 rfl
  unfold litN at r1 b1
  refine (Bin.of_any _ 1 1 [0] _ r1 (by omega) (by decide)).mono ?_
  rintro e w6 ⟨a, na, ca, P, rfl, hP, bP, vP, b2⟩
  have b := b1.trans (b2.mono b1.size)
  have hG : NewV w5 w6 1 a na ca (gpr (mk7 (q : Int)) ((leads (mk7 (q : Int)) 0 1 N).take 0)) := newV (hP.from b1.size) bP (vP.trans (by rfl)) 1 (show (1 : Nat) < room 1 by decide)
  have HS : Hid (CRow w6 w2.heap.size (mk7 (q : Int)) (.slice (some ⟨g9, 0, none⟩) n cap) n (leads (mk7 (q : Int)) 0 1 N) vs ∧ Fld.FldAt (mk7 (q : Int)) w6 s be ce bl ∧ Below w.heap.size w w6) := ⟨hC.below b HNE.out, F.below hm3 b, B.trans (b.mono B.size)⟩
  have HG := Lib.hid hG.pol
  clear r1 b1 b2 b hP bP vP hG hC F B
  go_wp2_with fail
  go_loopg [8, 10] n (fun gh s8 s10 wx => ∃ (k : Nat) (ax : Option Addr) (nx cx : Nat), gh = n - k ∧ k ≤ n ∧ s10 = .int .i64 (k : Int) ∧ s8 = .slice ax nx cx ∧ Hid (PolV wx (1 + 2 * k) ax nx cx (gpr (mk7 (q : Int)) ((leads (mk7 (q : Int)) 0 1 N).take k))) ∧ Hid (CRow wx w2.heap.size (mk7 (q : Int)) (.slice (some ⟨g9, 0, none⟩) n cap) n (leads (mk7 (q : Int)) 0 1 N) vs ∧ Fld.FldAt (mk7 (q : Int)) wx s be ce bl ∧ Below w.heap.size w wx))
  case atStart => exact ⟨0, a, na, ca, rfl, Nat.zero_le _, rfl, rfl, HG, HS⟩
  case round =>
    clear HG HS
    obtain ⟨k, ax, nx, cx, hg, hk, rfl, rfl, HP, HS⟩ := hrel
    have HGh := Lib.hid hg
    clear hg
    by_cases hlt : k < n
    · have x1 : (k : Int) < (n : Int) := by omega
      have x0 : (0 : Int) ≤ (k : Int) := by omega
      obtain ⟨g, c, e, hr, _, _⟩ := HS.out.1.each k hlt
      obtain ⟨g9', cap', hv, _, _, hcell⟩ := HS.out.1.open hn0
      simp only [Value.slice.injEq, Option.some.injEq, Addr.mk.injEq, true_and, and_true] at hv
      obtain ⟨rfl, rfl⟩ := hv
      have d1 := (hcell k hlt).trans e
      obtain ⟨f, hfe⟩ : ∃ f, f = (leads (mk7 (q : Int)) 0 1 N).getD k 0 := ⟨_, rfl⟩
      rw [← hfe] at hr d1
      have hf : f < sz (mk7 (q : Int)) := by rw [hfe]; exact HLT.out _ (getD_lt (by rw [HNL.out]; exact hlt))
      have HT : Hid (gpr (mk7 (q : Int)) ((leads (mk7 (q : Int)) 0 1 N).take (k + 1)) = pm (gpr (mk7 (q : Int)) ((leads (mk7 (q : Int)) 0 1 N).take k)) (mpv (mk7 (q : Int)) f)) := by
        show _ = _
        rw [take_snocN _ k (by rw [HNL.out]; exact hlt), gpr_snoc, ← hfe]
      have hxm := hd_mem (m := mk7 (q : Int)) hf
      obtain ⟨x, hxe⟩ : ∃ x, x = (cos (mk7 (q : Int)) f).getD 0 0 := ⟨_, rfl⟩
      have hpos : 0 < (cos (mk7 (q : Int)) f).length := List.length_pos_iff.2 (cos_ne hm3 hf)
      have d2 : wr.cell? ⟨g, 0, none⟩ = some (.int .i64 (x : Int)) := by
        obtain ⟨b', o', e', hc', _⟩ := hr.row 0 hpos
        simp only [Option.some.injEq, Addr.mk.injEq] at e'
        obtain ⟨rfl, rfl, _⟩ := e'
        rw [Nat.zero_add] at hc'
        rw [hc', hxe]
        unfold Cos.ints
        rw [List.getD_eq_getElem?_getD, List.getElem?_map, List.getD_eq_getElem?_getD, List.getElem?_eq_getElem hpos]
        rfl
      rw [← hxe] at hxm
      have hx : mpv (mk7 (q : Int)) (rs (mk7 (q : Int)) (x : Int)) = mpv (mk7 (q : Int)) f := by rw [rs_nat ((mem_cos x).1 hxm).1, mpv_same hf hxm]
      have HX := Lib.hid hx
      obtain ⟨L, hLe⟩ : ∃ L, L = (cos (mk7 (q : Int)) f).length := ⟨_, rfl⟩
      rw [← hLe] at d1 hpos
      have z1 : (0 : Int) < (L : Int) := by omega
      have z2 : ((L : Int) == 0) = false := by rw [beq_eq_false_iff_ne]; omega
      have z3 : ¬ L = 0 := by omega
      clear hr hcell e hfe hf hxm hxe hx hLe
      go_wp2_with fail
      refine (Cos.of_any (m := mk7 (q : Int)) (x : Int) wr HS.out.2.1).mono ?_
      rintro e w7 ⟨a5, n5, c5, rfl, h5, b5⟩
      rw [HX.out] at h5
      have P1 := HP.out.below b5
      have HS5 : Hid (CRow w7 w2.heap.size (mk7 (q : Int)) (.slice (some ⟨g9, 0, none⟩) n cap) n (leads (mk7 (q : Int)) 0 1 N) vs ∧ Fld.FldAt (mk7 (q : Int)) w7 s be ce bl ∧ Below w.heap.size w w7) := ⟨HS.out.1.below b5 HNE.out, HS.out.2.1.below hm3 b5, HS.out.2.2.trans (b5.mono HS.out.2.2.size)⟩
      have P2 := h5.pol
      clear HS HP h5 b5 d1 d2
      go_wp2_with fail
      refine (mulV (1 + 2 * (k + 1)) P1 P2 (by omega) (by omega) (by omega)).mono ?_
      rintro e w8 ⟨a6, n6, c6, rfl, h6, b6⟩
      have HP6 : Hid (PolV w8 (1 + 2 * (k + 1)) a6 n6 c6 (gpr (mk7 (q : Int)) ((leads (mk7 (q : Int)) 0 1 N).take (k + 1)))) := by
        show PolV _ _ _ _ _ _
        rw [HT.out]
        exact h6.pol
      have HS6 : Hid (CRow w8 w2.heap.size (mk7 (q : Int)) (.slice (some ⟨g9, 0, none⟩) n cap) n (leads (mk7 (q : Int)) 0 1 N) vs ∧ Fld.FldAt (mk7 (q : Int)) w8 s be ce bl ∧ Below w.heap.size w w8) := ⟨HS5.out.1.below b6 HNE.out, HS5.out.2.1.below hm3 b6, HS5.out.2.2.trans (b6.mono HS5.out.2.2.size)⟩
      clear HS5 h6 b6 P1 P2
      go_wp2_with fail
      go_roundg (n - (k + 1))
      case measure => have := HGh.out; omega
      case rel => exact ⟨k + 1, a6, n6, c6, rfl, by omega, by go_num, rfl, HP6, HS6⟩
    · obtain rfl : k = n := by omega
      have P1 := HP.out
      rw [List.take_of_length_le (by rw [HNL.out]; exact Nat.le_refl _), HM.out] at P1
      have B := HS.out.2.2
      clear HP HS
      go_wp2_with fail
      obtain ⟨r1, b1⟩ := row_lit wr [N, 0] 2 rfl
      unfold litN at r1 b1
      refine (Bin.of_any _ 2 2 [N, 0] _ r1 (by omega) (fun e he => by simp at he; omega)).mono ?_
      rintro e w9 ⟨a9, n9, c9, Y, rfl, hY, bY, vY, b2⟩
      have b := b1.trans (b2.mono b1.size)
      replace P1 := P1.below b
      replace B := B.trans (b.mono B.size)
      have P2 : PolV w9 n9 a9 n9 c9 (xp [N, 0]) := ⟨Y, hY.pol, vY, Nat.le_refl _⟩
      clear r1 b1 b2 b hY bY vY
      go_wp2_with fail
      refine (sameV P1 P2).mono ?_
      rintro e w' ⟨rfl, rfl⟩
      rw [decide_eq_true rfl]
      go_wp2_with fail
      go_ret
      exact ⟨rfl, B⟩
theorem walk (x0 : Int) (W : World) (w0 : (Lit.int .i64 x0).wf = true) (h : LaidMinimalWhole.Holds W) :
    Calls Tryd.prog 8 #[.int .i64 x0] W fun e w' => e = .returned (.bool true) ∧ Below W.heap.size W w' := by
  obtain ⟨f, ⟨E0, E1, E2, E3⟩, _⟩ := h
  exact core x0 W _ E3
end Go.Proofs.YtbapmkhdpfgnlaaDoor.walkMinimalWhole
