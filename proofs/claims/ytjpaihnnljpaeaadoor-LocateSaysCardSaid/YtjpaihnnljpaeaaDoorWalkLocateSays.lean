/- The walk over LocateSays. By the verifier of shale. -/
import Derived.Test.YtjpaihnnljpaeaaDoorGreat1
import Derived.Test.YtjpaihnnljpaeaaDoorGreat2
import Derived.Test.YtjpaihnnljpaeaaDoorGreat3
import Derived.Test.YtjpaihnnljpaeaaDoorLaidLocateSays
import Derived.Deep.Cut
namespace Go.Proofs.YtjpaihnnljpaeaaDoor.walkLocateSays
open Go Go.RowKit Fld Bits16 Pl Loc
set_option linter.unusedVariables false
set_option maxRecDepth 100000 in
theorem neq_err (a : Addr) (w : World) : (binOp .neq 35 (errOf a) (errOf a)).run Tryd.prog w = .ok (.bool false) w := by
  obtain ⟨i, hi, hc⟩ := Option.map_eq_some_iff.1 compErr
  obtain ⟨j, hj, _⟩ := Option.map_eq_some_iff.1 sizeErr
  simp only [binOp]
  simp [Op.equal, Op.maxDepth, run_equalIn_iface_ptr_same w 9998 a Tryd.underlying35 Tryd.underlying74 hi hc hj]
section
variable {m : Nat} [M : Mid m]
/-- both sides of Makes. -/
theorem both_makes {s be ce bl : Nat} (a : Option Addr) (n c : Nat) (l : List Int) (b : Option Addr) (n2 c2 : Nat) (l2 : List Int) (L : Int) (w : World) (F : FldAt m w s be ce bl) (r : RowZ w a n c l) (r2 : RowZ w b n2 c2 l2) (hn : n ≤ 1000) (hn2 : n2 ≤ 1000) :
    ∃ v : Bool, Calls Tryd.prog 19 #[.pointer (some ⟨s, 0, none⟩), .slice a n c, .int .i64 L, .slice b n2 c2] w (fun e w' => e = .returned (.bool v) ∧ Below w.heap.size w w') ∧
      ∀ w', Below w.heap.size w w' → Calls Tryd.prog 20 #[.int .i64 (m : Int), .slice a n c, .int .i64 L, .slice b n2 c2] w' fun e w'' => e = .returned (.bool v) ∧ Below w'.heap.size w' w'' := by
  by_cases h : MakesNo m l n L n2
  · refine ⟨false, (makes_no a n c l b n2 c2 L w F r h).mono ?_, fun w' b' => (rmakes_no a n c l b n2 c2 L w' (r.below b') h).mono ?_⟩
    · rintro e w' ⟨rfl, rfl⟩; exact ⟨rfl, Below.refl _ _⟩
    · rintro e w' ⟨rfl, rfl⟩; exact ⟨rfl, Below.refl _ _⟩
  · unfold MakesNo at h
    have h1 : n ≠ 0 := fun e => h (.inl e)
    have h2 : sr m l 0 ≠ 0 := fun e => h (.inr (.inl e))
    have h3 : ¬ L < 0 := fun e => h (.inr (.inr (.inl e)))
    have h4 : ¬ (n2 : Int) < L := fun e => h (.inr (.inr (.inr e)))
    obtain ⟨k, rfl⟩ : ∃ k : Nat, L = (k : Int) := ⟨L.toNat, by omega⟩
    refine ⟨makesB (sr m l) (sr m l2) k n2, (makes_any a n c l b n2 c2 l2 k w F r r2 (by omega) h2 (by omega) (by omega)).mono ?_, fun w' b' => rmakes_any a n c l b n2 c2 l2 k w' (r.below b') (r2.below b') (by omega) h2 (by omega) (by omega) (by omega)⟩
    rintro e w' ⟨rfl, d⟩
    exact ⟨rfl, d.below _⟩
theorem sm_len {w w2 : World} {K K' : Nat} {a a' : Option Addr} {n c n' c' : Nat} {p : Ser (El m)} {x : El m} (hx : x ≠ 0) (h : NV m w K a n c p) (h' : NV m w2 K' a' n' c' (psm x p)) (h0 : p ≠ pz) : n = n' ∧ 0 < n := by
  obtain ⟨k, rfl, hd⟩ := nv_pos h h0
  have d2 : Dg (psm x p) k := ⟨mul_ne hx hd.1, hd.2.sm x⟩
  obtain ⟨k', rfl, hd'⟩ := nv_pos h' d2.ne
  rcases Nat.lt_trichotomy k k' with e | e | e
  · exact absurd (d2.2 k' (by omega)) hd'.1
  · exact ⟨by rw [e], by omega⟩
  · exact absurd (hd'.2 k (by omega)) d2.1
end
set_option maxRecDepth 100000 in
set_option maxHeartbeats 1000000 in
theorem long (x0 : Int) (a : Option Addr) (n c : Nat) (a2 : Option Addr) (n2 c2 : Nat) (x3 : Int) (a4 : Option Addr) (n4 c4 : Nat) (w : World) (h : 90 < n ∨ 90 < n2 ∨ 50 < n4) :
    Calls Tryd.prog 4 #[.int .i64 x0, .slice a n c, .slice a2 n2 c2, .int .i64 x3, .slice a4 n4 c4] w fun e w' => e = .returned (.bool true) ∧ Below w.heap.size w w' := by
  have t : (decide ((90 : Int) < (n : Int)) = true) ∨ (decide ((90 : Int) < (n : Int)) = false ∧ decide ((90 : Int) < (n2 : Int)) = true) ∨ (decide ((90 : Int) < (n : Int)) = false ∧ decide ((90 : Int) < (n2 : Int)) = false ∧ decide ((50 : Int) < (n4 : Int)) = true) := by
    by_cases h1 : 90 < n
    · exact Or.inl (decide_eq_true (by omega))
    · by_cases h2 : 90 < n2
      · exact Or.inr <| Or.inl ⟨decide_eq_false (by omega), decide_eq_true (by omega)⟩
      · exact Or.inr <| Or.inr <| ⟨decide_eq_false (by omega), decide_eq_false (by omega), decide_eq_true (by omega)⟩
  clear h
  rcases t with t0 | ⟨t0, t1⟩ | ⟨t0, t1, t2⟩
  all_goals
    go_enter Tryd.func4, Tryd.ntmps4
    go_wp2_with fail
    refine (first_any w).mono ?_
    rintro e w1 ⟨rfl, B⟩
    go_wp2_with fail
    refine (made_any x0 w1).mono ?_
    rintro e w2 ⟨s, be, ce, bl, rfl, F, b⟩
    replace B := B.trans (b.mono B.size)
    clear b
    go_wp2_with fail
    go_ret
    exact ⟨rfl, B⟩
set_option maxRecDepth 100000 in
set_option maxHeartbeats 4000000 in
theorem core (x0 : Int) (a : Option Addr) (n c : Nat) (l : List Int) (a2 : Option Addr) (n2 c2 : Nat) (l2 : List Int) (x3 : Int) (a4 : Option Addr) (n4 c4 : Nat) (l4 : List Int) (w : World) (yl : Addr) (EL : ErrAt w 0 yl)
    (r : RowZ w a n c l) (r2 : RowZ w a2 n2 c2 l2) (r4 : RowZ w a4 n4 c4 l4) (hn : n ≤ 90) (hn2 : n2 ≤ 90) (hn4 : n4 ≤ 50) :
    Calls Tryd.prog 4 #[.int .i64 x0, .slice a n c, .slice a2 n2 c2, .int .i64 x3, .slice a4 n4 c4] w fun e w' => e = .returned (.bool true) ∧ Below w.heap.size w w' := by
  have t0 : decide ((90 : Int) < (n : Int)) = false := decide_eq_false (by omega)
  have t1 : decide ((90 : Int) < (n2 : Int)) = false := decide_eq_false (by omega)
  have t2 : decide ((50 : Int) < (n4 : Int)) = false := decide_eq_false (by omega)
  go_enter Tryd.func4, Tryd.ntmps4
  go_wp2_with fail
  refine (first_any w).mono ?_
  rintro e w1 ⟨rfl, B⟩
  replace EL := EL.below B
  replace r := r.below B
  replace r2 := r2.below B
  replace r4 := r4.below B
  go_wp2_with fail
  refine (made_any x0 w1).mono ?_
  rintro e w2 ⟨s, be, ce, bl, rfl, F, b⟩
  replace EL := EL.below b
  replace r := r.below b
  replace r2 := r2.below b
  replace r4 := r4.below b
  replace B := B.trans (b.mono B.size)
  clear b
  obtain ⟨m, hm⟩ : ∃ m, m = mk8 x0 := ⟨_, rfl⟩
  haveI M : Mid m := by rw [hm]; infer_instance
  rw [← hm] at F ⊢
  clear hm
  go_wp2_with fail
  clear t0 t1 t2
  obtain ⟨N, hN⟩ : ∃ N, N = min n 80 := ⟨_, rfl⟩
  have H1 := locate_any a n c l w2 F r (sr m l) N hN fun i _ => rfl
  obtain ⟨t, ht⟩ : ∃ t, t = bm (sr m l) N := ⟨_, rfl⟩
  obtain ⟨tF, htF⟩ : ∃ tF, tF = bmF (sr m l) N := ⟨_, rfl⟩
  have hlk := like_bm (sr m l) N
  have hone := (bm_inv (sr m l) N).one
  rw [← ht] at H1 hlk hone
  rw [← htF] at hlk
  obtain ⟨x, y, hx, hy, e1, e2, e3, e4, e5⟩ := hlk
  clear e2 e4 e5 hy
  have HT := Lib.hid (And.intro ht (And.intro htF (And.intro hN (And.intro e1 (And.intro hone hx)))))
  clear ht htF e1 hN hx
  refine (H1).mono ?_
  rintro e w3 ⟨p1, m1, k1, rfl, P1, b⟩
  replace EL := EL.below b
  replace r := r.below b
  replace r2 := r2.below b
  replace r4 := r4.below b
  replace F := F.below (Pl.Mid.lo (m := m)) b
  replace B := B.trans (b.mono B.size)
  clear b
  clear H1
  have H2 := rlocate_any (m := m) a n c l w3 r N HT.out.2.2.1
  rw [← HT.out.1] at H2
  go_wp2_with fail
  refine (H2).mono ?_
  rintro e w4 ⟨p2, m2, k2, rfl, P2, b⟩
  replace EL := EL.below b
  replace r := r.below b
  replace r2 := r2.below b
  replace r4 := r4.below b
  replace F := F.below (Pl.Mid.lo (m := m)) b
  replace P1 := P1.below b
  replace B := B.trans (b.mono B.size)
  clear b
  clear H2
  have H3 := lfast_any a n c l w4 F r (sr m l) N HT.out.2.2.1 fun i _ => rfl
  rw [← HT.out.2.1, e3] at H3
  go_wp2_with fail
  refine (H3).mono ?_
  rintro e w5 ⟨p3, m3, k3, rfl, P3, b⟩
  replace EL := EL.below b
  replace r := r.below b
  replace r2 := r2.below b
  replace r4 := r4.below b
  replace F := F.below (Pl.Mid.lo (m := m)) b
  replace P1 := P1.below b
  replace P2 := P2.below b
  replace B := B.trans (b.mono B.size)
  clear b
  clear H3 e3
  rw [HT.out.2.2.2.1] at P3
  obtain ⟨hl3, hpos⟩ := sm_len HT.out.2.2.2.2.2 P2 P3 (fun e => Fl.one_ne (K := El m) (HT.out.2.2.2.2.1 ▸ congrFun e 0))
  subst hl3
  go_wp2_with fail
  refine (sameV P1 P2 rfl).mono ?_
  rintro e w6 ⟨rfl, d⟩
  have b := d.below w5.heap.size
  replace EL := EL.below b
  replace r := r.below b
  replace r2 := r2.below b
  replace r4 := r4.below b
  replace F := F.below (Pl.Mid.lo (m := m)) b
  replace P1 := P1.below b
  replace P2 := P2.below b
  replace P3 := P3.below b
  replace B := B.trans (b.mono B.size)
  clear b d
  clear P1
  have u1 : ((m2 : Int) == 0) = false := by rw [beq_eq_false_iff_ne]; omega
  have hm100 : m2 ≤ 100 := P2.le
  go_wp2_with fail
  have H6 := Lib.hid (And.intro EL (And.intro r (And.intro r2 (And.intro r4 (And.intro F (And.intro P2 (And.intro P3 B)))))))
  clear EL r r2 r4 F P2 P3 B u1
  go_loopg [20] m2 (fun gh s20 wx => ∃ j : Nat, gh = m2 - j ∧ j ≤ m2 ∧ s20 = .int .i64 (j : Int) ∧ Below w6.heap.size w6 wx)
  case atStart => exact ⟨0, rfl, Nat.zero_le _, rfl, Below.refl _ _⟩
  case round =>
    obtain ⟨j, hg, hj, rfl, hB⟩ := hrel
    have HG := Lib.hid hg
    clear hg
    by_cases hlt : j < m2
    · have v1 : (j : Int) < (m2 : Int) := by omega
      have v2 : (0 : Int) ≤ (j : Int) := by omega
      have v3 : (0 : Int) < (m2 : Int) := by omega
      have P2 := H6.out.2.2.2.2.2.1.row.below hB
      have P3 := H6.out.2.2.2.2.2.2.1.row.below hB
      obtain ⟨b1, o1, rfl, cc1, _⟩ := P3.row j hlt
      obtain ⟨b2, o2, rfl, cc2, _⟩ := P2.row j hlt
      obtain ⟨b3, o3, eq3, cc3, _⟩ := P3.row 0 (by omega)
      simp only [Option.some.injEq, Addr.mk.injEq] at eq3
      obtain ⟨rfl, rfl, _⟩ := eq3
      rw [nums_at _ _ _ hlt] at cc1 cc2
      rw [nums_at _ _ _ (by omega)] at cc3
      have e0 : psm x t.c 0 = x := by
        show x * t.c 0 = x
        rw [HT.out.2.2.2.2.1, Fl.mul_one]
      rw [e0, Nat.add_zero] at cc3
      have hx0 := (zn_eq0 x).trans (decide_eq_false HT.out.2.2.2.2.2)
      have HM : Hid (∀ q os, Calls Tryd.prog 16 #[.int .i64 (m : Int), .int .i64 (zn x), .int .i64 (zn (t.c j))] (Sort.grow (redrawn wr q) os) fun e w'' => e = .returned (.int .i64 (zn (psm x t.c j))) ∧ ∃ p : Regrown, w'' = Sort.grow (redrawn wr p.d) p.os) := fun q os => Calls.regrown_of (rmul_zz x (t.c j) (Sort.grow (redrawn wr q) os))
      generalize zn (psm x t.c j) = z1 at cc1 HM
      generalize zn (t.c j) = z2 at cc2 HM
      generalize zn x = z3 at cc3 HM hx0
      have HBk := Lib.hid hB
      replace cc1 := cell_regrown cc1
      replace cc2 := cell_regrown cc2
      replace cc3 := cell_regrown cc3
      clear hB P2 P3 e0
      go_wp2_with fail
      refine wp_region_quiet_below (by kernel_rfl) (by kernel_rfl) ?_
      repeat (go_big_quiet_step (first | (go_at_call 16; with_reducible exact HM.out _ _)))
      refine wpQuiet_nil ?_
      intro _ hw'
      obtain ⟨⟨dq, osq⟩, hw''⟩ := hw'
      subst hw''
      have hB2 : Below w6.heap.size w6 (Sort.grow (redrawn wr dq) osq) := HBk.out.trans ((below_regrown wr dq osq).mono HBk.out.size)
      generalize Sort.grow (redrawn wr dq) osq = w9 at hB2 ⊢
      clear cc1 cc2 cc3 HM hx0
      go_wp2_with fail
      go_roundg (m2 - (j + 1))
      case measure => have := HG.out; omega
      case rel => exact ⟨j + 1, rfl, hlt, by go_num, hB2⟩
    · obtain rfl : j = m2 := by omega
      obtain ⟨EL, r, r2, r4, F, _, _, B⟩ := H6.out
      replace EL := EL.below hB
      replace r := r.below hB
      replace r2 := r2.below hB
      replace r4 := r4.below hB
      replace F := F.below M.lo hB
      replace B := B.trans (hB.mono B.size)
      clear H6 hB HG HT
      by_cases h40 : 40 < n4
      · have t3 : (40 : Int) < (n4 : Int) := by omega
        go_wp2_with fail
        refine (of_long (s := s) a4 n4 c4 wr h40 yl EL).mono ?_
        rintro e w7 ⟨rfl, d⟩
        have b := d.below wr.heap.size
        replace EL := EL.below b
        replace r := r.below b
        replace r2 := r2.below b
        replace F := F.below M.lo b
        replace B := B.trans (b.mono B.size)
        clear b d
        have q1 := neq_err yl
        have g1 := EL.1
        unfold Sent at g1
        obtain ⟨v, HM1, HM2⟩ := both_makes (m := m) a2 n2 c2 l2 a n c l x3 w7 F r2 r (by omega) (by omega)
        have HMM := Lib.hid HM2
        clear EL r r2 r4 F HM2
        go_wp2_with fail
        refine HM1.mono ?_
        rintro e w8 ⟨rfl, b⟩
        replace B := B.trans (b.mono B.size)
        clear HM1 q1 g1
        go_wp2_with fail
        refine (HMM.out w8 b).mono ?_
        rintro e w9 ⟨rfl, b⟩
        replace B := B.trans (b.mono B.size)
        clear b HMM
        go_wp2_with fail
        go_ret
        exact ⟨rfl, B⟩
      · have t3 : ¬ ((40 : Int) < (n4 : Int)) := by omega
        go_wp2_with fail
        refine (of_any a4 n4 c4 l4 wr F r4 (by omega)).mono ?_
        rintro e w7 ⟨a7, n7, c7, rfl, P7, b⟩
        replace r := r.below b
        replace r2 := r2.below b
        replace r4 := r4.below b
        replace F := F.below M.lo b
        replace B := B.trans (b.mono B.size)
        clear b EL
        go_wp2_with fail
        refine (rplaces_any (m := m) a4 n4 c4 l4 w7 r4 (by omega)).mono ?_
        rintro e w8 ⟨a8, n8, c8, rfl, P8, b⟩
        replace P7 := P7.below b
        replace r := r.below b
        replace r2 := r2.below b
        replace F := F.below M.lo b
        replace B := B.trans (b.mono B.size)
        clear b r4
        go_wp2_with fail
        refine (sameV P7 P8 rfl).mono ?_
        rintro e w9 ⟨rfl, d⟩
        have b := d.below w8.heap.size
        replace r := r.below b
        replace r2 := r2.below b
        replace F := F.below M.lo b
        replace B := B.trans (b.mono B.size)
        clear b d P7 P8
        obtain ⟨v, HM1, HM2⟩ := both_makes (m := m) a2 n2 c2 l2 a n c l x3 w9 F r2 r (by omega) (by omega)
        have HMM := Lib.hid HM2
        clear r r2 F HM2
        go_wp2_with fail
        refine HM1.mono ?_
        rintro e w10 ⟨rfl, b⟩
        replace B := B.trans (b.mono B.size)
        clear HM1
        go_wp2_with fail
        refine (HMM.out w10 b).mono ?_
        rintro e w11 ⟨rfl, b⟩
        replace B := B.trans (b.mono B.size)
        clear b HMM
        go_wp2_with fail
        go_ret
        exact ⟨rfl, B⟩
theorem walk (x0 : Int) (a1 : Option Addr) (len1 cap1 : Nat) (z1 : List Int) (a2 : Option Addr) (len2 cap2 : Nat) (z2 : List Int) (x3 : Int) (a4 : Option Addr) (len4 cap4 : Nat) (z4 : List Int) (W : World) (w0 : (Lit.int .i64 x0).wf = true) (w1 : IsRow .i64 W a1 len1 cap1 z1) (w2 : IsRow .i64 W a2 len2 cap2 z2) (w3 : (Lit.int .i64 x3).wf = true) (w4 : IsRow .i64 W a4 len4 cap4 z4) (h : LaidLocateSays.Holds W) :
    Calls Tryd.prog 4 #[.int .i64 x0, .slice a1 len1 cap1, .slice a2 len2 cap2, .int .i64 x3, .slice a4 len4 cap4] W fun e w' => e = .returned (.bool true) ∧ Below W.heap.size W w' := by
  obtain ⟨f, ⟨E0, E1, E2⟩, _⟩ := h
  by_cases k1 : len1 ≤ 90 ∧ len2 ≤ 90 ∧ len4 ≤ 50
  · exact core x0 a1 len1 cap1 _ a2 len2 cap2 _ x3 a4 len4 cap4 _ W (f 2) E2 (row_rowz w1) (row_rowz w2) (row_rowz w4) k1.1 k1.2.1 k1.2.2
  · exact long x0 a1 len1 cap1 a2 len2 cap2 x3 a4 len4 cap4 W (by omega)
end Go.Proofs.YtjpaihnnljpaeaaDoor.walkLocateSays
