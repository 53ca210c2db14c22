/- The walk over SearchFew. By the verifier of shale. -/
import Derived.Test.YtbgegnoenceflaaDoorGreat1
import Derived.Test.YtbgegnoenceflaaDoorGreat2
import Derived.Test.YtbgegnoenceflaaDoorLaidSearchFew
import Derived.Deep.Cut
namespace Go.Proofs.YtbgegnoenceflaaDoor.walkSearchFew
open Go Go.RowKit Fld Bits16 Pl Loc Sea
set_option linter.unusedVariables false
set_option maxHeartbeats 1000000 in
theorem long (x0 : Int) (a1 : Option Addr) (n1 c1 : Nat) (x2 : Int) (w : World) {y : Addr} (E : ErrAt w 2 y) (h : 60 < n1) :
    Calls Tryd.prog 5 #[.int .i64 x0, .slice a1 n1 c1, .int .i64 x2] w fun e w' => e = .returned (.bool true) ∧ Below w.heap.size w w' := by
  have t1 : decide ((60 : Int) < (n1 : Int)) = true := decide_eq_true (by omega)
  clear h
  go_enter Tryd.func5, Tryd.ntmps5
  go_wp2_with fail
  refine (first_any w E).mono ?_
  rintro e w1 ⟨rfl, B⟩
  go_wp2_with fail
  refine (made_any x0 w1).mono ?_
  rintro e w2 ⟨s, be, ce, bl, rfl, F, b⟩
  replace B := B.trans (b.mono B.size)
  clear b
  go_wp2_with fail
  go_ret
  exact ⟨rfl, B⟩
set_option maxRecDepth 100000 in
set_option maxHeartbeats 2000000 in
theorem core (x0 : Int) (a1 : Option Addr) (n1 c1 : Nat) (l : List Int) (x2 : Int) (w : World) {y : Addr} (E : ErrAt w 2 y) (P1 : RowZ w a1 n1 c1 l) (k1 : n1 ≤ 60) :
    Calls Tryd.prog 5 #[.int .i64 x0, .slice a1 n1 c1, .int .i64 x2] w fun e w' => e = .returned (.bool true) ∧ Below w.heap.size w w' := by
  have t1 : decide ((60 : Int) < (n1 : Int)) = false := decide_eq_false (by omega)
  have k0 := k1
  clear k1
  go_enter Tryd.func5, Tryd.ntmps5
  go_wp2_with fail
  refine (first_any w E).mono ?_
  rintro e w1 ⟨rfl, B⟩
  replace P1 := P1.below B
  replace E := E.below B
  go_wp2_with fail
  refine (made_any x0 w1).mono ?_
  rintro e w2 ⟨s, be, ce, bl, rfl, F, b⟩
  replace P1 := P1.below b
  replace E := E.below b
  replace B := B.trans (b.mono B.size)
  clear b
  obtain ⟨m, hm⟩ : ∃ m, m = mk9 x0 := ⟨_, rfl⟩
  haveI M : Mid m := by rw [hm]; infer_instance
  have hm14 : (m : Int) ≤ 14 := by have := M.hi; omega
  have hm0 : (0 : Int) ≤ (m : Int) := by omega
  rw [← hm] at F ⊢
  clear hm
  go_wp2_with fail
  have Q := P1.pv (m := m) (sr m l) rfl n1 (Nat.le_refl _)
  refine (searchZ x2 w2 F Q (by omega) E).mono ?_
  rintro e w3 ⟨a3, c3, rfl, R3, b⟩
  replace P1 := P1.below b
  replace F := F.below M.lo b
  replace B := B.trans (b.mono B.size)
  replace Q := Q.below b
  clear b E
  have HLen : Hid (∀ d, Dg (sr m l) d → (hits (zAt (sr m l) n1) (lim m x2)).length ≤ d) := fun d hd => by
    have hd1 := hd.lt Q.bd
    rw [zAt_more hd.2 (by omega : d + 1 ≤ n1)]
    exact hits_few hd (lim_le m x2)
  obtain ⟨L, hL⟩ : ∃ L, L = hits (zAt (sr m l) n1) (lim m x2) := ⟨_, rfl⟩
  obtain ⟨nl, hnl⟩ : ∃ nl, nl = L.length := ⟨_, rfl⟩
  rw [← hL, ← hnl] at R3 ⊢
  rw [← hL, ← hnl] at HLen
  have HL := Lib.hid (And.intro hL hnl)
  clear hL hnl
  go_wp2_with fail
  refine (rtrimV Q (by omega)).mono ?_
  rintro e w4 ⟨a4, n4, c4, rfl, N4, b⟩
  replace P1 := P1.below b
  replace F := F.below M.lo b
  replace B := B.trans (b.mono B.size)
  replace R3 := R3.below b
  clear b
  have hn4 : n4 ≤ 60 := Nat.le_trans N4.le k0
  have hz : (n4 = 0 ∧ ((nl : Int) == (lim m x2 : Int)) = true ∧ (nl == lim m x2) = true) ∨ (∃ d : Nat, n4 = d + 1 ∧ decide ((d : Int) < (nl : Int)) = false ∧ decide (d < nl) = false) := by
    rcases n4 with _ | d
    · left
      have hp : sr m l = pz := top_none N4.bd N4.top
      have hLL : L = List.range (lim m x2) := by
        rw [HL.out.1, hp]
        exact hits_all fun i => zAt_pz n1 i
      have : nl = lim m x2 := by rw [HL.out.2, hLL, List.length_range]
      refine ⟨rfl, by simp [this], by simp [this]⟩
    · right
      have hd : Dg (sr m l) d := dg_top N4.bd (by rw [N4.top])
      have := HLen.out d hd
      exact ⟨d, rfl, decide_eq_false (by omega), decide_eq_false (by omega)⟩
  have HF := Lib.hid (And.intro F (And.intro P1 (And.intro R3 B)))
  have ho := shl_one m M.hi
  have eo : (els m : Int) - 1 = (size m : Int) := by rw [els_eq]; omega
  obtain ⟨mn, e1⟩ : ∃ mn, (if (size m : Int) < x2 then (size m : Int) else x2) = mn := ⟨_, rfl⟩
  have e2 : (if (0 : Int) < mn then mn else 0) = (lim m x2 : Int) := by rw [← e1]; exact lim_max m x2
  have hsz := size_hi m M.hi
  have hnlm : nl ≤ maxLen := Nat.le_trans R3.hcap R3.hmost
  unfold maxLen at hnlm
  clear F P1 R3 B N4 Q HLen
  rcases hz with ⟨rfl, y2, y3⟩ | ⟨d, rfl, y1, y2⟩
  all_goals
    go_wp2_with fail
    go_loopg [12] nl (fun gh s12 wx => ∃ i : Nat, gh = nl - i ∧ i ≤ nl ∧ s12 = .int .i64 (i : Int) ∧ Drawn w4 wx)
    case atStart => exact ⟨0, rfl, Nat.zero_le _, rfl, Drawn.refl _⟩
    case round =>
      obtain ⟨i, hg, hin, rfl, hD⟩ := hrel
      have HG := Lib.hid hg
      clear hg
      by_cases hlt : i < nl
      · have u1 : (i : Int) < (nl : Int) := by omega
        have u2 : (0 : Int) ≤ (i : Int) := by omega
        obtain ⟨bb, off, rfl, cc, _⟩ := (HF.out.2.2.1.below (hD.below _)).row i hlt
        have hat := hits_at (f := zAt (sr m l) n1) (n := lim m x2) (i := i) (by rw [← HL.out.1, ← HL.out.2]; exact hlt)
        rw [← HL.out.1] at hat
        have hv := intsN_at L i (by rw [← HL.out.2]; exact hlt)
        unfold nth64 at hv
        rw [hv] at cc
        have hrise : ∀ q, q + 1 = i → L.getD q 0 < L.getD i 0 := by
          rintro q rfl
          rw [HL.out.1]
          exact hits_rise (by rw [← HL.out.1, ← HL.out.2]; exact hlt)
        obtain ⟨v, hvv⟩ : ∃ v, v = L.getD i 0 := ⟨_, rfl⟩
        rw [← hvv] at cc hat hrise
        have hvl := lim_pos hat.1
        have u3 : (0 : Int) ≤ (v : Int) := by omega
        have u4 : decide (x2 ≤ (v : Int)) = false := decide_eq_false (by omega)
        have u5 : decide ((v : Int) < 0) = false := decide_eq_false (by omega)
        have hwr : IntKind.i64.wrap (-(v : Int)) = -(v : Int) := IntWalk.i64_in _ (by omega)
        have HV := Lib.hid (zAt_zero hat.2)
        have HI1 : Hid (i + 1 ≤ nl) := hlt
        have hcase : (decide ((0 : Int) < (i : Int)) = false ∧ decide (0 < i) = false) ∨ ∃ q u : Nat, i = q + 1 ∧ wr.cell? ⟨bb, off + q, none⟩ = some (.int .i64 (u : Int)) ∧ decide ((v : Int) ≤ (u : Int)) = false ∧ decide (v ≤ u) = false := by
          rcases i with _ | q
          · exact .inl ⟨by simp, by simp⟩
          · right
            obtain ⟨bb', off', e', cc', _⟩ := (HF.out.2.2.1.below (hD.below _)).row q (by omega)
            cases e'
            have hv' := intsN_at L q (by rw [← HL.out.2]; omega)
            unfold nth64 at hv'
            rw [hv'] at cc'
            have := hrise q rfl
            exact ⟨q, L.getD q 0, rfl, cc', decide_eq_false (by omega), decide_eq_false (by omega)⟩
        replace hvv := Lib.hid hvv
        clear hat hv hrise hlt hin hvl
        rcases hcase with ⟨g1, g2⟩ | ⟨q, u, rfl, cu, g1, g2⟩
        · have HI2 := HI1
          go_wp2_with fail
          go_quiet (fail)
          have hD5 : Drawn w4 (wr.drewN nq) := hD.trans (Drawn.mk _ _)
          have cc5 := drewn_cell cc nq
          clear cc hD g1 g2 u4 u5
          generalize wr.drewN nq = W5 at hD5 cc5 ⊢
          go_wp2_with fail
          go_loopg [13, 14] n1 (fun gh s13 s14 wx => ∃ k j : Nat, gh = k ∧ k + j = n1 ∧ s14 = .int .i64 ((k : Int) - 1) ∧ s13 = .int .i64 (zn (ev j (dr (sr m l) k) (pt m v))) ∧ Drawn w4 wx)
          case atStart => exact ⟨n1, 0, rfl, by omega, rfl, rfl, hD5⟩
          case round =>
            clear hD5 cc5
            obtain ⟨k, j, hg, hkj, rfl, rfl, hD6⟩ := hrel
            have HG2 := Lib.hid hg
            clear hg
            obtain ⟨W6, hW6⟩ : ∃ W6, W6 = wr := ⟨_, rfl⟩
            rw [← hW6] at hD6 ⊢
            clear hW6
            rcases k with _ | k
            · have hez : zn (ev j (dr (sr m l) 0) (pt m v)) = 0 := by
                obtain rfl : j = n1 := by omega
                have : dr (sr m l) 0 = sr m l := funext fun i => by show sr m l (0 + i) = _; rw [Nat.zero_add]
                rw [this]; exact HV.out
              rw [hez]
              clear hez hkj
              go_wp2_with fail
              go_roundg (nl - (i + 1))
              case measure => have := HG.out; have := HI1.out; omega
              case rel => exact ⟨i + 1, rfl, HI1.out, by have := HI1.out; go_num, hD6⟩
            · have x0' : (0 : Int) ≤ (k : Int) := by omega
              have x1' : (k : Int) < (n1 : Int) := by omega
              rw [show ((k + 1 : Nat) : Int) - 1 = (k : Int) by omega]
              obtain ⟨bb2, off2, rfl, c1, hb2⟩ := (HF.out.2.1.below (hD6.below _)).row k (by omega)
              obtain ⟨bb, off, ea, cc, _⟩ := (HF.out.2.2.1.below (hD6.below _)).row i HI1.out
              cases ea
              have hv := intsN_at L (i) (by rw [← HL.out.2]; exact HI1.out)
              unfold nth64 at hv
              rw [hv, ← hvv.out] at cc
              have HFw := Lib.hid (HF.out.1.drawn M.lo hD6)
              have HE : Hid (∀ nn, Calls Tryd.prog 20 #[.pointer (some ⟨s, 0, none⟩), .int .i64 (-(v : Int))] (W6.drewN nn) fun e w' => e = .returned (.int .i64 (zn (pt m v))) ∧ W6.drewN nn = w') := fun nn =>
                fexp_any M.lo M.hi (-(v : Int)) (W6.drewN nn) (HFw.out.drawn M.lo (Drawn.mk W6 nn))
              have HM : Hid (∀ nn, Calls Tryd.prog 19 #[.pointer (some ⟨s, 0, none⟩), .int .i64 (zn (ev j (dr (sr m l) (k + 1)) (pt m v))), .int .i64 (zn (pt m v))] (W6.drewN nn) fun e w' => e = .returned (.int .i64 (zn (ev j (dr (sr m l) (k + 1)) (pt m v) * pt m v))) ∧ Drawn (W6.drewN nn) w') := fun nn => by
                have := mul_any M.lo M.hi (zn (ev j (dr (sr m l) (k + 1)) (pt m v))) (zn (pt m v)) (W6.drewN nn) (HFw.out.drawn M.lo (Drawn.mk W6 nn))
                rw [mul_zz, elm_zn] at this
                exact this
              have HA : Hid (∀ nn, Calls Tryd.prog 18 #[.pointer (some ⟨s, 0, none⟩), .int .i64 (zn (ev j (dr (sr m l) (k + 1)) (pt m v) * pt m v)), .int .i64 (l.getD k 0)] (W6.drewN nn) fun e w' => e = .returned (.int .i64 (zn (ev (j + 1) (dr (sr m l) k) (pt m v)))) ∧ (W6.drewN nn) = w') := fun nn =>
                have := add_any M.lo M.hi (zn (ev j (dr (sr m l) (k + 1)) (pt m v) * pt m v)) (l.getD k 0) (W6.drewN nn) (HFw.out.drawn M.lo (Drawn.mk W6 nn))
                by rw [add_zz, sr_at, ← ev_dr] at this; exact this
              have hD7 : Hid (Drawn w4 W6) := hD6
              generalize zn (ev j (dr (sr m l) (k + 1)) (pt m v)) = q1 at HM ⊢
              generalize zn (ev j (dr (sr m l) (k + 1)) (pt m v) * pt m v) = q2 at HM HA
              generalize hz3 : zn (ev (j + 1) (dr (sr m l) k) (pt m v)) = q3 at HA
              generalize zn (pt m v) = q4 at HM HE
              have HZ3 := Lib.hid hz3
              clear hz3 hb2 hD6 hv
              generalize l.getD k 0 = z4 at c1 HA
              go_wp2_with fail
              go_quiet ((first | (go_at_call 20; exact quiet_same (HE.out _)) | (go_at_call 19; exact quiet_drawn (HM.out _)) | (go_at_call 18; exact quiet_same (HA.out _))))
              have hd8 : Drawn w4 (W6.drewN nq) := hD7.out.trans (Drawn.mk _ _)
              generalize W6.drewN nq = W8 at hd8 ⊢
              clear c1 cc
              go_wp2_with fail
              go_roundg k
              case measure => have := HG2.out; omega
              case rel => exact ⟨k, j + 1, rfl, by omega, by go_num, by rw [HZ3.out], hd8⟩
        · have q0 : (0 : Int) ≤ (q : Int) := by omega
          have q1' : (q : Int) < (nl : Int) := by omega
          go_wp2_with fail
          go_quiet (fail)
          have hD5 : Drawn w4 (wr.drewN nq) := hD.trans (Drawn.mk _ _)
          have cc5 := drewn_cell cc nq
          clear cc hD g1 g2 cu u4 u5 q1'
          generalize wr.drewN nq = W5 at hD5 cc5 ⊢
          go_wp2_with fail
          go_loopg [13, 14] n1 (fun gh s13 s14 wx => ∃ k j : Nat, gh = k ∧ k + j = n1 ∧ s14 = .int .i64 ((k : Int) - 1) ∧ s13 = .int .i64 (zn (ev j (dr (sr m l) k) (pt m v))) ∧ Drawn w4 wx)
          case atStart => exact ⟨n1, 0, rfl, by omega, rfl, rfl, hD5⟩
          case round =>
            clear hD5 cc5
            obtain ⟨k, j, hg, hkj, rfl, rfl, hD6⟩ := hrel
            have HG2 := Lib.hid hg
            clear hg
            obtain ⟨W6, hW6⟩ : ∃ W6, W6 = wr := ⟨_, rfl⟩
            rw [← hW6] at hD6 ⊢
            clear hW6
            rcases k with _ | k
            · have hez : zn (ev j (dr (sr m l) 0) (pt m v)) = 0 := by
                obtain rfl : j = n1 := by omega
                have : dr (sr m l) 0 = sr m l := funext fun i => by show sr m l (0 + i) = _; rw [Nat.zero_add]
                rw [this]; exact HV.out
              rw [hez]
              clear hez hkj
              go_wp2_with fail
              go_roundg (nl - ((q + 1) + 1))
              case measure => have := HG.out; have := HI1.out; omega
              case rel => exact ⟨(q + 1) + 1, rfl, HI1.out, by have := HI1.out; go_num, hD6⟩
            · have x0' : (0 : Int) ≤ (k : Int) := by omega
              have x1' : (k : Int) < (n1 : Int) := by omega
              rw [show ((k + 1 : Nat) : Int) - 1 = (k : Int) by omega]
              obtain ⟨bb2, off2, rfl, c1, hb2⟩ := (HF.out.2.1.below (hD6.below _)).row k (by omega)
              obtain ⟨bb, off, ea, cc, _⟩ := (HF.out.2.2.1.below (hD6.below _)).row (q + 1) HI1.out
              cases ea
              have hv := intsN_at L ((q + 1)) (by rw [← HL.out.2]; exact HI1.out)
              unfold nth64 at hv
              rw [hv, ← hvv.out] at cc
              have HFw := Lib.hid (HF.out.1.drawn M.lo hD6)
              have HE : Hid (∀ nn, Calls Tryd.prog 20 #[.pointer (some ⟨s, 0, none⟩), .int .i64 (-(v : Int))] (W6.drewN nn) fun e w' => e = .returned (.int .i64 (zn (pt m v))) ∧ W6.drewN nn = w') := fun nn =>
                fexp_any M.lo M.hi (-(v : Int)) (W6.drewN nn) (HFw.out.drawn M.lo (Drawn.mk W6 nn))
              have HM : Hid (∀ nn, Calls Tryd.prog 19 #[.pointer (some ⟨s, 0, none⟩), .int .i64 (zn (ev j (dr (sr m l) (k + 1)) (pt m v))), .int .i64 (zn (pt m v))] (W6.drewN nn) fun e w' => e = .returned (.int .i64 (zn (ev j (dr (sr m l) (k + 1)) (pt m v) * pt m v))) ∧ Drawn (W6.drewN nn) w') := fun nn => by
                have := mul_any M.lo M.hi (zn (ev j (dr (sr m l) (k + 1)) (pt m v))) (zn (pt m v)) (W6.drewN nn) (HFw.out.drawn M.lo (Drawn.mk W6 nn))
                rw [mul_zz, elm_zn] at this
                exact this
              have HA : Hid (∀ nn, Calls Tryd.prog 18 #[.pointer (some ⟨s, 0, none⟩), .int .i64 (zn (ev j (dr (sr m l) (k + 1)) (pt m v) * pt m v)), .int .i64 (l.getD k 0)] (W6.drewN nn) fun e w' => e = .returned (.int .i64 (zn (ev (j + 1) (dr (sr m l) k) (pt m v)))) ∧ (W6.drewN nn) = w') := fun nn =>
                have := add_any M.lo M.hi (zn (ev j (dr (sr m l) (k + 1)) (pt m v) * pt m v)) (l.getD k 0) (W6.drewN nn) (HFw.out.drawn M.lo (Drawn.mk W6 nn))
                by rw [add_zz, sr_at, ← ev_dr] at this; exact this
              have hD7 : Hid (Drawn w4 W6) := hD6
              generalize zn (ev j (dr (sr m l) (k + 1)) (pt m v)) = q1 at HM ⊢
              generalize zn (ev j (dr (sr m l) (k + 1)) (pt m v) * pt m v) = q2 at HM HA
              generalize hz3 : zn (ev (j + 1) (dr (sr m l) k) (pt m v)) = q3 at HA
              generalize zn (pt m v) = q4 at HM HE
              have HZ3 := Lib.hid hz3
              clear hz3 hb2 hD6 hv
              generalize l.getD k 0 = z4 at c1 HA
              go_wp2_with fail
              go_quiet ((first | (go_at_call 20; exact quiet_same (HE.out _)) | (go_at_call 19; exact quiet_drawn (HM.out _)) | (go_at_call 18; exact quiet_same (HA.out _))))
              have hd8 : Drawn w4 (W6.drewN nq) := hD7.out.trans (Drawn.mk _ _)
              generalize W6.drewN nq = W8 at hd8 ⊢
              clear c1 cc
              go_wp2_with fail
              go_roundg k
              case measure => have := HG2.out; omega
              case rel => exact ⟨k, j + 1, rfl, by omega, by go_num, by rw [HZ3.out], hd8⟩
      · obtain rfl : i = nl := by omega
        have HB : Hid (Below w.heap.size w wr) := HF.out.2.2.2.trans (hD.below _)
        clear hlt
        go_wp2_with fail
        go_ret
        exact ⟨rfl, HB.out⟩
theorem walk (x0 : Int) (a1 : Option Addr) (len1 cap1 : Nat) (z1 : List Int) (x2 : Int) (W : World) (w0 : (Lit.int .i64 x0).wf = true) (w1 : IsRow .i64 W a1 len1 cap1 z1) (w2 : (Lit.int .i64 x2).wf = true) (h : LaidSearchFew.Holds W) :
    Calls Tryd.prog 5 #[.int .i64 x0, .slice a1 len1 cap1, .int .i64 x2] W fun e w' => e = .returned (.bool true) ∧ Below W.heap.size W w' := by
  obtain ⟨f, ⟨E0, E1⟩, _⟩ := h
  by_cases k1 : len1 ≤ 60
  · exact core x0 a1 len1 cap1 _ x2 W E1 (row_rowz w1) k1
  · exact long x0 a1 len1 cap1 x2 W E1 (by omega)
end Go.Proofs.YtbgegnoenceflaaDoor.walkSearchFew
