/- The walk over LocateGrows. By the verifier of shale. -/
import Derived.Test.YtjpaihnnljpaeaaDoorGreat1
import Derived.Test.YtjpaihnnljpaeaaDoorGreat2
import Derived.Test.YtjpaihnnljpaeaaDoorLaidLocateGrows
namespace Go.Proofs.YtjpaihnnljpaeaaDoor.walkLocateGrows
open Go Go.RowKit Fld Bits16 Pl Loc
set_option linter.unusedVariables false
section
variable {m : Nat} [M : Mid m]
/-- c but for its first. -/
def tailS (c : Ser (El m)) : Ser (El m) := fun i => if i = 0 then 0 else c i
theorem tail_bd {c : Ser (El m)} {n : Nat} (h : Bd c n) : Bd (tailS c) n := fun i hi => by
  unfold tailS
  split
  · rfl
  · exact h i hi
/-- the value that the polynomial foretells. -/
def told (c S : Ser (El m)) (n : Nat) : El m := cv (tailS c) S n
theorem told_cv {c S T : Ser (El m)} {n : Nat} (h1 : c 0 = 1) (hST : ∀ i, i < n → T i = S i) : cv c T n = T n + told c S n := by
  have e : c = padd (mono 0 1) (tailS c) := funext fun i => by
    show c i = (if i = 0 then 1 else 0) + (if i = 0 then 0 else c i)
    by_cases hi : i = 0
    · rw [if_pos hi, if_pos hi, Fl.add_zero, hi, h1]
    · rw [if_neg hi, if_neg hi, zero_add]
  have e2 : cv (tailS c) T n = told c S n := by
    have h := cv_none (padd T S) n (tailS c) fun i hi => by
      by_cases h0 : i = 0
      · exact .inl (if_pos h0)
      · refine .inr ?_
        show T (n - i) + S (n - i) = 0
        rw [hST _ (by omega)]; exact Fl.add_self _
    rw [cv_padd] at h
    have h : cv (tailS c) T n + cv (tailS c) S n = 0 := h
    have h2 : cv (tailS c) T n + cv (tailS c) S n + cv (tailS c) S n = cv (tailS c) S n := by rw [h, zero_add]
    rwa [Fl.add_assoc, Fl.add_self, Fl.add_zero] at h2
  rw [← e2]
  conv => lhs; rw [e]
  rw [cv_add_left, cv_mono, if_neg (by omega), one_mul, Nat.sub_zero]
theorem told_sum (c S : Ser (El m)) (n L n1 k : Nat) (hc : Bd c (L + 1)) (hn : Bd c n1) (hk : k = L + 1 ∨ k = n1) : Loc.part (tailS c) S n k = told c S n := by
  unfold told
  rcases hk with rfl | rfl
  · exact part_cv _ _ _ (tail_bd hc) (Nat.le_refl _)
  · exact part_cv _ _ _ (tail_bd hn) (Nat.le_refl _)
theorem own_rowz {w : World} {base n : Nat} {v : Value} {l : List Int} (h : Own64 w base v n l) (h0 : 0 < n) : ∃ a c, v = .slice a n c ∧ RowZ w a n c l := by
  obtain ⟨g, cap, rfl, _, _, hnc, _⟩ := h.cells h0
  exact ⟨_, _, rfl, own_row h rfl hnc (own_room h).2⟩
theorem snoc_lo (l : List Int) (x : Int) (i : Nat) (hi : i < l.length) : sr m (l ++ [x]) i = sr m l i := by
  show elm m ((l ++ [x]).getD i 0) = elm m (l.getD i 0)
  rw [List.getD_eq_getElem?_getD, List.getD_eq_getElem?_getD, List.getElem?_append_left hi]
theorem snoc_at (l : List Int) (x : Int) : sr m (l ++ [x]) l.length = elm m x := by
  show elm m ((l ++ [x]).getD l.length 0) = elm m x
  rw [List.getD_eq_getElem?_getD, List.getElem?_append_right (Nat.le_refl _), Nat.sub_self]; rfl
end
set_option maxRecDepth 100000 in
set_option maxHeartbeats 1000000 in
theorem long (x0 : Int) (a1 : Option Addr) (n1 c1 : Nat) (x2 : Int) (w : World) (h : 40 < n1) :
    Calls Tryd.prog 7 #[.int .i64 x0, .slice a1 n1 c1, .int .i64 x2] w fun e w' => e = .returned (.bool true) ∧ Below w.heap.size w w' := by
  have t : decide ((40 : Int) < (n1 : Int)) = true := decide_eq_true (by omega)
  clear h
  go_enter Tryd.func7, Tryd.ntmps7
  go_wp2_with fail
  refine (first_any w).mono ?_
  rintro e w1 ⟨rfl, B⟩
  go_wp2_with fail
  refine (made_any x0 w1).mono ?_
  rintro e w2 ⟨s, be, ce, bl, rfl, F, b⟩
  replace B := B.trans (b.mono B.size)
  clear b
  go_wp2_with fail
  go_ret
  exact ⟨rfl, B⟩
set_option maxRecDepth 100000 in
set_option maxHeartbeats 4000000 in
theorem core (x0 : Int) (a : Option Addr) (n c : Nat) (l : List Int) (x2 : Int) (w : World) (r : RowZ w a n c l) (hn : n ≤ 40) :
    Calls Tryd.prog 7 #[.int .i64 x0, .slice a n c, .int .i64 x2] w fun e w' => e = .returned (.bool true) ∧ Below w.heap.size w w' := by
  obtain ⟨i0, hi, hz0, hz1, hz2⟩ := info64
  have t1 : decide ((40 : Int) < (n : Int)) = false := decide_eq_false (by omega)
  have HLN := Lib.hid r.hlen
  go_enter Tryd.func7, Tryd.ntmps7
  go_wp2_with fail
  refine (first_any w).mono ?_
  rintro e w1 ⟨rfl, B⟩
  replace r := r.below B
  go_wp2_with fail
  refine (made_any x0 w1).mono ?_
  rintro e w2 ⟨s, be, ce, bl, rfl, F, b⟩
  replace r := r.below b
  replace B := B.trans (b.mono B.size)
  clear b
  obtain ⟨m, hm⟩ : ∃ m, m = mk8 x0 := ⟨_, rfl⟩
  haveI M : Mid m := by rw [hm]; infer_instance
  rw [← hm] at F ⊢
  clear hm
  go_wp2_with fail
  clear t1
  refine (locate_any a n c l w2 F r (sr m l) n (by omega) fun i _ => rfl).mono ?_
  rintro e w3 ⟨a3, n3, c3, rfl, P, b⟩
  replace r := r.below b
  replace F := F.below M.lo b
  replace B := B.trans (b.mono B.size)
  clear b
  go_wp2_with fail
  refine (ints_any a n c l w3 r (by omega)).mono ?_
  rintro e w4 ⟨a4, c4, rfl, ho, b⟩
  have hs3 := b.size
  have HB34 := Lib.hid b
  have H3 := Lib.hid (And.intro r (And.intro F (And.intro B P)))
  clear r F B P b
  go_wp2_with (at_builtin; refine wpList_append_own _ rfl _ _ 22 rfl w3.heap.size 3 i0 (.int .i64 0) 1 8 Tryd.underlying22 hi hz0 hz1 hz2 rfl (by decide) _ n _ rfl (World.ownsRow.alloc ho _) ⟨w4.heap.size, 0, none⟩ 1 1 [.int .i64 x2] rfl rfl (cell_one_new _ _ _) (ints_oneCell .i64 [_]) (by unfold maxLen; omega) (by omega) (by simp; omega) ?_; intro v5 w5 hown5 hgrow _)
  have ho5 : Own64 w5 w3.heap.size v5 (n + 1) (l ++ [x2]) := by unfold Own64; rw [← cells64_append]; exact hown5
  have b5 : Below w3.heap.size w3 w5 := (HB34.out.alloc hs3 _).grown hgrow (by simp; omega) (fun g hg => (ho.block g hg).1)
  obtain ⟨a5, c5, rfl, r5⟩ := own_rowz ho5 (by omega)
  obtain ⟨r, F, B, P⟩ := H3.out
  replace r := r.below b5
  replace F := F.below M.lo b5
  replace B := B.trans (b5.mono B.size)
  replace P := P.below b5
  clear hown5 hgrow ho ho5 b5 HB34 hs3 H3
  have hcE : (bm (sr m (l ++ [x2])) n) = bm (sr m l) n := bm_ext fun i hi' => snoc_lo l x2 i (by rw [← HLN.out]; exact hi')
  have hgr : (bm (sr m l) n).L ≤ (bm (sr m (l ++ [x2])) (n + 1)).L := by rw [← hcE]; exact bm_grows _ _
  have hlen : cv (bm (sr m l) n).c (sr m (l ++ [x2])) n ≠ 0 → (bm (sr m (l ++ [x2])) (n + 1)).L = max (bm (sr m l) n).L (n + 1 - (bm (sr m l) n).L) := by rw [← hcE]; exact bm_len
  have HI := bm_inv (sr m l) n
  have hL : (bm (sr m l) n).L ≤ n := HI.le
  have hL5 : (bm (sr m (l ++ [x2])) (n + 1)).L ≤ n + 1 := (bm_inv _ _).le
  have H5 := locate_any a5 (n + 1) c5 (l ++ [x2]) w5 F r5 (sr m (l ++ [x2])) (n + 1) (by omega) fun i _ => rfl
  have H6 : Hid (∀ wx, Below w5.heap.size w5 wx → Calls Tryd.prog 12 #[.pointer (some ⟨s, 0, none⟩), .slice a n c] wx fun e w' => ∃ a n' c, e = .returned (.tuple #[.slice a n' c, .int .i64 ((bm (sr m l) n).L : Int)]) ∧ NV m w' 100 a n' c (bm (sr m l) n).c ∧ Below wx.heap.size wx w') := fun wx b => locate_any a n c l wx (F.below M.lo b) (r.below b) (sr m l) n (by omega) fun i _ => rfl
  obtain ⟨X, hX⟩ : ∃ X, X = told (bm (sr m l) n).c (sr m l) n := ⟨_, rfl⟩
  have hex : cv (bm (sr m l) n).c (sr m (l ++ [x2])) n = elm m x2 + X := by
    rw [hX, told_cv HI.one (S := sr m l) (fun i hi' => snoc_lo l x2 i (by rw [← HLN.out]; exact hi'))]
    congr 1
    have := snoc_at (m := m) l x2
    rwa [← HLN.out] at this
  rw [hex] at hlen
  have hst : (bm (sr m (l ++ [zn X])) (n + 1)).c = (bm (sr m l) n).c ∧ (bm (sr m (l ++ [zn X])) (n + 1)).L = (bm (sr m l) n).L := by
    have e2 : bm (sr m (l ++ [zn X])) n = bm (sr m l) n := bm_ext fun i hi' => snoc_lo l (zn X) i (by rw [← HLN.out]; exact hi')
    have e3 := bm_stays (S := sr m (l ++ [zn X])) (n := n) (by
      rw [e2, told_cv HI.one (S := sr m l) (fun i hi' => snoc_lo l (zn X) i (by rw [← HLN.out]; exact hi')), ← hX]
      have := snoc_at (m := m) l (zn X)
      rw [← HLN.out, elm_zn] at this
      rw [this]; exact Fl.add_self X)
    rw [e2] at e3
    exact e3
  have HST := Lib.hid hst
  have HX := Lib.hid hX
  have HLE := Lib.hid hlen
  have hone := HI.one
  have hbd := HI.bd
  clear hcE hex hst hX hlen HI
  generalize (bm (sr m (l ++ [x2])) (n + 1)).L = L5 at H5 hgr HLE hL5
  generalize (bm (sr m (l ++ [x2])) (n + 1)).c = C5 at H5
  obtain ⟨t, ht⟩ : ∃ t, t = bm (sr m l) n := ⟨_, rfl⟩
  rw [← ht] at P H6 HST HX HLE hgr hL hone hbd ⊢
  obtain ⟨k3, hk3, _⟩ := nv_pos P (fun e => Fl.one_ne (K := El m) (hone ▸ congrFun e 0))
  have hn3 : n3 ≤ t.L + 1 := (NV.tight P hbd).le
  have hn30 : 0 < n3 := by omega
  clear hk3
  have H55 := Lib.hid (And.intro r (And.intro F (And.intro B P)))
  have HBD := Lib.hid hbd
  clear r F B P hone hbd ht
  refine H5.mono ?_
  rintro e w6 ⟨a6, n6, c6, rfl, P6, b⟩
  clear H5 P6 r5
  have v1 : decide ((L5 : Int) < (t.L : Int)) = false := decide_eq_false (by omega)
  have v2 : decide (L5 < t.L) = false := decide_eq_false (by omega)
  go_wp2_with fail
  refine (H6.out w6 b).mono ?_
  rintro e w7 ⟨a7, n7, c7, rfl, P7, b7⟩
  have b57 := b.trans (b7.mono b.size)
  have P := H55.out.2.2.2.below b57
  clear H6 b b7
  go_wp2_with fail
  refine (sameV P7 P rfl).mono ?_
  rintro e w8 ⟨rfl, d⟩
  have b8 := b57.trans ((d.below w7.heap.size).mono b57.size)
  clear v1 v2 P7 P b57 d
  go_wp2_with fail
  have H8 : Hid (RowZ w8 a n c l ∧ FldAt m w8 s be ce bl ∧ Below w.heap.size w w8 ∧ NV m w8 100 a3 n3 c3 t.c) := ⟨H55.out.1.below b8, H55.out.2.1.below M.lo b8, H55.out.2.2.1.trans (b8.mono H55.out.2.2.1.size), H55.out.2.2.2.below b8⟩
  clear H55 b8
  obtain ⟨T, hT⟩ : ∃ T, T = min (t.L + 1) n3 := ⟨_, rfl⟩
  have hT1 : 1 ≤ T := by omega
  have hT2 : T ≤ t.L + 1 := by omega
  have hT3 : T ≤ n3 := by omega
  have HT := Lib.hid hT
  have HTT : Hid (Loc.part (tailS t.c) (sr m l) n T = X) := by
    show _ = _
    rw [HX.out]
    exact told_sum t.c (sr m l) n t.L n3 T HBD.out H8.out.2.2.2.bd (by omega)
  clear hT
  go_loopg [17, 18] T (fun gh s17 s18 wx => ∃ k : Nat, gh = T - k + 1 ∧ 1 ≤ k ∧ k ≤ T ∧ s18 = .int .i64 (k : Int) ∧ s17 = .int .i64 (zn (Loc.part (tailS t.c) (sr m l) n k)) ∧ Below w8.heap.size w8 wx)
  case atStart =>
    refine ⟨1, by omega, Nat.le_refl _, hT1, rfl, ?_, Below.refl _ _⟩
    rw [part_succ _ _ _ _ (Nat.zero_le _), part_zero, show tailS t.c 0 = 0 from if_pos rfl, zero_mul, Fl.add_zero]; rfl
  case round =>
    obtain ⟨k, hg, hk1, hk, rfl, rfl, hB⟩ := hrel
    have HG := Lib.hid hg
    clear hg
    by_cases hlt : k < T
    · have u1 : (k : Int) ≤ (t.L : Int) := by omega
      have u2 : k ≤ t.L := by omega
      have u3 : (k : Int) < (n3 : Int) := by omega
      have u4 : (0 : Int) ≤ (k : Int) := by omega
      have u5 : (0 : Int) ≤ (n : Int) - (k : Int) := by omega
      have u6 : (n : Int) - (k : Int) < (n : Int) := by omega
      have u7 : ((n : Int) - (k : Int)).toNat = n - k := by omega
      have u8 : IntKind.i64.wrap ((n : Int) - (k : Int)) = (n : Int) - (k : Int) := IntWalk.i64_in _ (by omega)
      obtain ⟨b1, o1, rfl, cc1, _⟩ := (H8.out.2.2.2.row.below hB).row k (by omega)
      obtain ⟨b2, o2, rfl, cc2, _⟩ := (H8.out.1.below hB).row (n - k) (by omega)
      rw [nums_at _ _ _ (by omega)] at cc1
      have hx := zn_add (Loc.part (tailS t.c) (sr m l) n k) (t.c k * sr m l (n - k))
      rw [show t.c k = tailS t.c k from (if_neg (by omega)).symm, ← part_succ _ _ _ _ (by omega)] at hx
      rw [show tailS t.c k = t.c k from if_neg (by omega)] at hx
      have HM : Hid (∀ q os, Calls Tryd.prog 16 #[.int .i64 (m : Int), .int .i64 (zn (t.c k)), .int .i64 (l.getD (n - k) 0)] (Sort.grow (redrawn wr q) os) fun e w'' => e = .returned (.int .i64 (zn (t.c k * sr m l (n - k)))) ∧ ∃ p : Regrown, w'' = Sort.grow (redrawn wr p.d) p.os) := fun q os => Calls.regrown_of (by
        have := rmul_any m M.lo M.hi (zn (t.c k)) (l.getD (n - k) 0) (Sort.grow (redrawn wr q) os)
        rw [mul_zz] at this
        exact this)
      generalize zn (t.c k * sr m l (n - k)) = z1 at HM hx
      generalize zn (Loc.part (tailS t.c) (sr m l) n k) = z2 at hx ⊢
      generalize hz3 : zn (Loc.part (tailS t.c) (sr m l) n (k + 1)) = z3 at hx
      have HZ3 := Lib.hid hz3
      generalize zn (t.c k) = z4 at cc1 HM
      generalize l.getD (n - k) 0 = z5 at cc2 HM
      have HBk := Lib.hid hB
      replace cc1 := cell_regrown cc1
      replace cc2 := cell_regrown cc2
      clear hz3 hB
      go_wp2_with fail
      refine wp_region_quiet_below (by kernel_rfl) (by kernel_rfl) ?_
      repeat (go_big_quiet_step (first | (go_at_call 16; with_reducible exact HM.out _ _)))
      refine wpQuiet_nil ?_
      intro _ hw'
      obtain ⟨⟨dq, osq⟩, hw''⟩ := hw'
      subst hw''
      have hB2 : Below w8.heap.size w8 (Sort.grow (redrawn wr dq) osq) := HBk.out.trans ((below_regrown wr dq osq).mono HBk.out.size)
      generalize Sort.grow (redrawn wr dq) osq = w9 at hB2 ⊢
      clear cc1 cc2 HM hx
      go_wp2_with fail
      go_roundg (T - (k + 1) + 1)
      case measure => have := HG.out; omega
      case rel => exact ⟨k + 1, rfl, by omega, hlt, by go_num, by rw [HZ3.out], hB2⟩
    · obtain rfl : k = T := by omega
      rw [HTT.out]
      have w1 : ((k : Int) ≤ (t.L : Int) ∧ k ≤ t.L ∧ decide ((k : Int) < (n3 : Int)) = false ∧ decide (k < n3) = false) ∨ (decide ((k : Int) ≤ (t.L : Int)) = false ∧ decide (k ≤ t.L) = false) := by
        by_cases h : k ≤ t.L
        · have := HT.out
          exact .inl ⟨by omega, h, decide_eq_false (by omega), decide_eq_false (by omega)⟩
        · exact .inr ⟨decide_eq_false (by omega), decide_eq_false h⟩
      obtain ⟨r, F, B, P⟩ := H8.out
      replace r := r.below hB
      replace F := F.below M.lo hB
      replace B := B.trans (hB.mono B.size)
      replace P := P.below hB
      have r9 := Lib.hid r
      have HF9 := Lib.hid (And.intro F (And.intro B P))
      clear H8 hB r F B P HTT HT HG hlt hT1 hT2 hT3
      rcases w1 with ⟨e1, e2, e3, e4⟩ | ⟨e1, e2⟩
      all_goals
        go_wp2_with fail
        refine (ints_any a n c l wr r9.out (by omega)).mono ?_
        rintro e w9 ⟨a9, c9, rfl, ho, b⟩
        have hs9 := b.size
        have HB9 := Lib.hid b
        clear b
        go_wp2_with (at_builtin; refine wpList_append_own _ rfl _ _ 22 rfl wr.heap.size 3 i0 (.int .i64 0) 1 8 Tryd.underlying22 hi hz0 hz1 hz2 rfl (by decide) _ n _ rfl (World.ownsRow.alloc ho _) ⟨w9.heap.size, 0, none⟩ 1 1 [.int .i64 (zn X)] rfl rfl (cell_one_new _ _ _) (ints_oneCell .i64 [_]) (by unfold maxLen; omega) (by omega) (by simp; omega) ?_; intro v10 w10 hown10 hgrow _)
        have ho10 : Own64 w10 wr.heap.size v10 (n + 1) (l ++ [zn X]) := by unfold Own64; rw [← cells64_append]; exact hown10
        have b10 : Below wr.heap.size wr w10 := (HB9.out.alloc hs9 _).grown hgrow (by simp; omega) (fun g hg => (ho.block g hg).1)
        obtain ⟨a10, c10, rfl, r10⟩ := own_rowz ho10 (by omega)
        have F10 := HF9.out.1.below M.lo b10
        have P10 := HF9.out.2.2.below b10
        have B10 := HF9.out.2.1.trans (b10.mono HF9.out.2.1.size)
        have H10 := locate_any a10 (n + 1) c10 (l ++ [zn X]) w10 F10 r10 (sr m (l ++ [zn X])) (n + 1) (by omega) fun i _ => rfl
        rw [HST.out.1, HST.out.2] at H10
        clear hown10 hgrow ho10 b10 ho HB9 hs9 r10 F10 HF9 r9 HST
        refine H10.mono ?_
        rintro e w11 ⟨a11, n11, c11, rfl, P11, b⟩
        replace P10 := P10.below b
        replace B10 := B10.trans (b.mono B10.size)
        clear H10 b
        go_wp2_with fail
        refine (sameV P11 P10 rfl).mono ?_
        rintro e w12 ⟨rfl, d⟩
        replace B10 := B10.trans (d.below _)
        clear d P10 P11
        go_wp2_with fail
        refine (rlow_any (m := m) x2 w12).mono ?_
        rintro e w13 ⟨rfl, rfl⟩
        by_cases hX : elm m x2 = X
        · have hz : (zn (elm m x2) == zn X) = true := by rw [hX]; exact beq_self_eq_true _
          clear hX
          go_wp2_with fail
          go_ret
          exact ⟨rfl, B10⟩
        · have hz : (zn (elm m x2) == zn X) = false := by
            rw [beq_eq_false_iff_ne]
            exact fun e => hX (zn_inj e)
          have hmx := HLE.out fun e => hX (by
            have h2 : elm m x2 + X + X = X := by rw [e, zero_add]
            rwa [Fl.add_assoc, Fl.add_self, Fl.add_zero] at h2)
          have hm1 : (if (t.L : Int) < (n : Int) + 1 - (t.L : Int) then (n : Int) + 1 - (t.L : Int) else (t.L : Int)) = (L5 : Int) := by
            rw [hmx]; split <;> omega
          clear hX hmx
          go_wp2_with fail
          go_ret
          exact ⟨rfl, B10⟩
theorem walk (x0 : Int) (a1 : Option Addr) (len1 cap1 : Nat) (z1 : List Int) (x2 : Int) (W : World) (w0 : (Lit.int .i64 x0).wf = true) (w1 : IsRow .i64 W a1 len1 cap1 z1) (w2 : (Lit.int .i64 x2).wf = true) (h : LaidLocateGrows.Holds W) :
    Calls Tryd.prog 7 #[.int .i64 x0, .slice a1 len1 cap1, .int .i64 x2] W fun e w' => e = .returned (.bool true) ∧ Below W.heap.size W w' := by
  by_cases k1 : len1 ≤ 40
  · exact core x0 a1 len1 cap1 _ x2 W (row_rowz w1) k1
  · exact long x0 a1 len1 cap1 x2 W (by omega)
end Go.Proofs.YtjpaihnnljpaeaaDoor.walkLocateGrows
