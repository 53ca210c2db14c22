/- The walk over LocateScales. By the verifier of shale. -/
import Derived.Test.YtjpaihnnljpaeaaDoorGreat1
import Derived.Test.YtjpaihnnljpaeaaDoorGreat2
import Derived.Test.YtjpaihnnljpaeaaDoorLaidLocateScales
namespace Go.Proofs.YtjpaihnnljpaeaaDoor.walkLocateScales
open Go Go.RowKit Fld Bits16 Pl Loc
set_option linter.unusedVariables false
section
variable {m : Nat} [M : Mid m]
/-- powers. -/
theorem powZ_zn (b : El m) (hb : b ≠ 0) (i : Nat) : h (powZ m (el m (zn b)) (i : Int)) = zn (pwK b i) := by
  have e0 : el m (zn b) = b.val := congrArg Subtype.val (elm_zn b)
  obtain ⟨k, _, hk⟩ := reach m M.lo M.hi b.val b.2 (fun e => hb (El.ext e))
  have hv : ∀ i : Nat, (pwK b i).val = pw m (k * i) := by
    intro i
    induction i with
    | zero => rfl
    | succ i ih =>
      show fmul m b.val (pwK b i).val = _
      rw [ih, ← hk, fmul_pw m M.lo M.hi, Nat.mul_succ, Nat.add_comm]
  show h _ = h (pwK b i).val
  rw [hv, e0, ← hk, powZ_pw m M.lo M.hi, show (k : Int) * (i : Int) = ((k * i : Nat) : Int) by rw [Int.natCast_mul], pwZ_nat m M.lo M.hi]
/-- numbers of a series. -/
def fs (p : Ser (El m)) : Nat → Int := fun i => zn (p i)
theorem fs_sr (p : Ser (El m)) (N i : Nat) (hi : i < N) : p i = sr m (upN (fs p) N N) i := by
  show p i = elm m ((upN (fs p) N N).getD i 0)
  rw [List.getD_eq_getElem?_getD, List.getElem?_eq_getElem (by rw [upN_length]; exact hi)]
  simp only [upN, List.getElem_map, List.getElem_range, Option.getD_some]
  rw [if_pos hi]
  exact (elm_zn _).symm
theorem nv_len {w : World} {K K' : Nat} {a a' : Option Addr} {n c n' c' : Nat} {p : Ser (El m)} {b : El m} (hb : b ≠ 0) (h : NV m w K a n c p) (h' : NV m w K' a' n' c' (tw b p)) (h0 : p ≠ pz) : n = n' := by
  obtain ⟨k, rfl, hd⟩ := nv_pos h h0
  have d2 : Dg (tw b p) k := ⟨mul_ne hd.1 (pwK_ne hb k), tw_bd hd.2⟩
  obtain ⟨k', rfl, hd'⟩ := nv_pos h' d2.ne
  rcases Nat.lt_trichotomy k k' with e | e | e
  · exact absurd (d2.2 k' (by omega)) hd'.1
  · rw [e]
  · exact absurd (hd'.2 k (by omega)) d2.1
end
set_option maxRecDepth 100000 in
set_option maxHeartbeats 1000000 in
theorem long (x0 : Int) (a1 : Option Addr) (n1 c1 : Nat) (x2 x3 : Int) (w : World) (h : 40 < n1) :
    Calls Tryd.prog 8 #[.int .i64 x0, .slice a1 n1 c1, .int .i64 x2, .int .i64 x3] w fun e w' => e = .returned (.bool true) ∧ Below w.heap.size w w' := by
  have t : decide ((40 : Int) < (n1 : Int)) = true := decide_eq_true (by omega)
  clear h
  go_enter Tryd.func8, Tryd.ntmps8
  go_wp2_with fail
  refine (first_any w).mono ?_
  rintro e w1 ⟨rfl, B⟩
  go_wp2_with fail
  refine (made_any x0 w1).mono ?_
  rintro e w2 ⟨s, be, ce, bl, rfl, F, b⟩
  replace B := B.trans (b.mono B.size)
  clear b
  go_wp2_with fail
  go_ret
  exact ⟨rfl, B⟩
set_option maxRecDepth 100000 in
set_option maxHeartbeats 4000000 in
theorem core (x0 : Int) (a : Option Addr) (n c : Nat) (l : List Int) (x2 x3 : Int) (w : World) (r : RowZ w a n c l) (hn : n ≤ 40) :
    Calls Tryd.prog 8 #[.int .i64 x0, .slice a n c, .int .i64 x2, .int .i64 x3] w fun e w' => e = .returned (.bool true) ∧ Below w.heap.size w w' := by
  have t1 : decide ((40 : Int) < (n : Int)) = false := decide_eq_false (by omega)
  go_enter Tryd.func8, Tryd.ntmps8
  go_wp2_with fail
  refine (first_any w).mono ?_
  rintro e w1 ⟨rfl, B⟩
  replace r := r.below B
  go_wp2_with fail
  refine (made_any x0 w1).mono ?_
  rintro e w2 ⟨s, be, ce, bl, rfl, F, b⟩
  replace r := r.below b
  replace B := B.trans (b.mono B.size)
  clear b
  obtain ⟨m, hm⟩ : ∃ m, m = mk8 x0 := ⟨_, rfl⟩
  haveI M : Mid m := by rw [hm]; infer_instance
  rw [← hm] at F ⊢
  clear hm
  go_wp2_with fail
  clear t1
  refine (rlow_any (m := m) x2 w2).mono ?_
  rintro e w3 ⟨rfl, rfl⟩
  go_wp2_with fail
  refine (rlow_any (m := m) x3 w2).mono ?_
  rintro e w3 ⟨rfl, rfl⟩
  generalize elm m x2 = A
  generalize elm m x3 = Q
  have za := zn_eq0 A
  have zq := zn_eq0 Q
  by_cases h0 : A = 0 ∨ Q = 0
  · have v : (zn A == 0) = true ∨ ((zn A == 0) = false ∧ (zn Q == 0) = true) := by
      by_cases h1 : A = 0
      · exact .inl (za.trans (decide_eq_true h1))
      · exact .inr ⟨za.trans (decide_eq_false h1), zq.trans (decide_eq_true (h0.resolve_left h1))⟩
    clear za zq h0
    generalize zn A = zA at v ⊢
    generalize zn Q = zQ at v ⊢
    rcases v with v1 | ⟨v1, v2⟩
    all_goals
      go_wp2_with fail
      go_ret
      exact ⟨rfl, B⟩
  have hA : A ≠ 0 := fun e => h0 (.inl e)
  have hQ : Q ≠ 0 := fun e => h0 (.inr e)
  replace za : (zn A == 0) = false := za.trans (decide_eq_false hA)
  replace zq : (zn Q == 0) = false := zq.trans (decide_eq_false hQ)
  have HA := Lib.hid (And.intro hA hQ)
  clear h0 hA hQ
  go_wp2_with fail
  clear za zq
  refine (locate_any a n c l w2 F r (sr m l) n (by omega) fun i _ => rfl).mono ?_
  rintro e w3 ⟨a3, n3, c3, rfl, P, b⟩
  replace r := r.below b
  replace F := F.below M.lo b
  replace B := B.trans (b.mono B.size)
  clear b
  have hmk := fun w => made64 w n (by omega)
  have hb1 : Below w3.heap.size w3 (w3.alloc (obj64 (List.replicate n 0))) := (Below.refl _ _).alloc (Nat.le_refl _) _
  have hk1 := Blk64.new w3 (List.replicate n 0)
  have hs1 : (w3.alloc (obj64 (List.replicate n 0))).heap.size = w3.heap.size + 1 := Array.size_push _
  have hk2 := Blk64.new (w3.alloc (obj64 (List.replicate n 0))) (List.replicate n 0)
  rw [hs1] at hk2
  have hb2 : Below (w3.alloc (obj64 (List.replicate n 0))).heap.size (w3.alloc (obj64 (List.replicate n 0))) ((w3.alloc (obj64 (List.replicate n 0))).alloc (obj64 (List.replicate n 0))) := (Below.refl _ _).alloc (Nat.le_refl _) _
  have H0 : Hid (Blk64 ((w3.alloc (obj64 (List.replicate n 0))).alloc (obj64 (List.replicate n 0))) w3.heap.size (upN (fs (psm A (sr m l))) n 0) ∧ Blk64 ((w3.alloc (obj64 (List.replicate n 0))).alloc (obj64 (List.replicate n 0))) (w3.heap.size + 1) (upN (fs (tw Q (sr m l))) n 0) ∧ Below w3.heap.size w3 ((w3.alloc (obj64 (List.replicate n 0))).alloc (obj64 (List.replicate n 0)))) := by
    rw [← upN_zero, ← upN_zero]
    exact ⟨(hb2.block _ hk1.lt).trans hk1, hk2, hb1.trans (hb2.mono hb1.size)⟩
  have H3 := Lib.hid (And.intro r (And.intro F (And.intro B P)))
  clear r F B P hb1 hk1 hk2 hb2 hs1
  go_wp2_with fail
  clear hmk
  go_loopg [16] n (fun gh s16 wx => ∃ k : Nat, gh = n - k ∧ k ≤ n ∧ s16 = .int .i64 (k : Int) ∧ Blk64 wx w3.heap.size (upN (fs (psm A (sr m l))) n k) ∧ Blk64 wx (w3.heap.size + 1) (upN (fs (tw Q (sr m l))) n k) ∧ Below w3.heap.size w3 wx)
  case atStart => exact ⟨0, rfl, Nat.zero_le _, rfl, H0.out.1, H0.out.2.1, H0.out.2.2⟩
  case round =>
    clear H0
    obtain ⟨k, hg, hk, rfl, hX, hY, hB⟩ := hrel
    have HG := Lib.hid hg
    clear hg
    by_cases hlt : k < n
    · have x0 : (k : Int) < (n : Int) := by omega
      have x1 : (0 : Int) ≤ (k : Int) := by omega
      have x2 : ((k : Int)).toNat = k := by omega
      obtain ⟨bb, off, rfl, cc, hbb⟩ := (H3.out.1.below hB).row k hlt
      have hv := hX.cell (i := k) (by rw [upN_length]; exact hlt)
      have fr := hX.free k
      rw [upN_at _ _ _ _ hlt (Nat.le_refl _)] at hv
      have HM : Hid (Calls Tryd.prog 11 #[.pointer (some ⟨s, 0, none⟩), .int .i64 (l.getD k 0), .int .i64 (zn A)] wr fun e w' => e = .returned (.int .i64 (fs (psm A (sr m l)) k)) ∧ Drawn wr w') := by
        have h1 := mul_any M.lo M.hi (l.getD k 0) (zn A) wr (H3.out.2.1.below M.lo hB)
        have e1 : h (fmul m (el m (l.getD k 0)) (el m (zn A))) = fs (psm A (sr m l)) k := by
          show zn (elm m (l.getD k 0) * elm m (zn A)) = zn (A * sr m l k)
          rw [elm_zn, Fl.mul_comm]; rfl
        rw [e1] at h1
        exact h1
      have HX := Lib.hid hX
      have HK := Lib.hid (And.intro hY hB)
      have hrow : Hid (∀ w', Below w3.heap.size w3 w' → ∃ bb' off', (some ⟨bb, off, none⟩ : Option Addr) = some ⟨bb', off', none⟩ ∧ w'.cell? ⟨bb', off' + k, none⟩ = some (.int .i64 (l.getD k 0)) ∧ bb' < w'.heap.size) := fun w' b => (H3.out.1.below b).row k hlt
      have HM2 : Hid (∀ w', Below w3.heap.size w3 w' → Calls Tryd.prog 11 #[.pointer (some ⟨s, 0, none⟩), .int .i64 (l.getD k 0), .int .i64 (zn (pwK Q k))] w' fun e w'' => e = .returned (.int .i64 (fs (tw Q (sr m l)) k)) ∧ Drawn w' w'') := fun w' b => by
        have h1 := mul_any M.lo M.hi (l.getD k 0) (zn (pwK Q k)) w' (H3.out.2.1.below M.lo b)
        have e1 : h (fmul m (el m (l.getD k 0)) (el m (zn (pwK Q k)))) = fs (tw Q (sr m l)) k := by
          show zn (elm m (l.getD k 0) * elm m (zn (pwK Q k))) = zn (sr m l k * pwK Q k)
          rw [elm_zn]; rfl
        rw [e1] at h1
        exact h1
      have HP2 : Hid (∀ w', Below w3.heap.size w3 w' → Calls Tryd.prog 24 #[.pointer (some ⟨s, 0, none⟩), .int .i64 (zn Q), .int .i64 (k : Int)] w' fun e w'' => e = .returned (.int .i64 (zn (pwK Q k))) ∧ Drawn w' w'') := fun w' b => by
        have h1 := pow_some M.lo M.hi (zn Q) (k : Int) w' (H3.out.2.1.below M.lo b) (zn_el Q HA.out.2)
        rw [powZ_zn Q HA.out.2] at h1
        exact h1
      clear hX hY hB
      generalize l.getD k 0 = u at cc HM hrow HM2
      generalize zn (pwK Q k) = pq at HM2 HP2
      go_wp2_with fail
      refine HM.out.mono ?_
      rintro e w4 ⟨rfl, d⟩
      have b4 := d.below wr.heap.size
      have hX4 := (b4.block _ HX.out.lt).trans HX.out
      have hY4 := (b4.block _ HK.out.1.lt).trans HK.out.1
      have hB4 := HK.out.2.trans (b4.mono HK.out.2.size)
      replace hX4 : Blk64 w4 w3.heap.size (upN (fs (psm A (sr m l))) n k) := hX4
      replace hY4 : Blk64 w4 (w3.heap.size + 1) (upN (fs (tw Q (sr m l))) n k) := hY4
      have hv4 := hX4.cell (i := k) (by rw [upN_length]; exact hlt)
      have fr4 := hX4.free k
      rw [upN_at _ _ _ _ hlt (Nat.le_refl _)] at hv4
      have hX5 := hX4.set k (fs (psm A (sr m l)) k)
      rw [upN_set] at hX5
      have hY5 : Blk64 (w4.setCell ⟨w3.heap.size, k, none⟩ (.int .i64 (fs (psm A (sr m l)) k))) (w3.heap.size + 1) (upN (fs (tw Q (sr m l))) n k) := ((Only.setCell w4 ⟨w3.heap.size, k, none⟩ (.int .i64 (fs (psm A (sr m l)) k))).block _ (by show w3.heap.size + 1 ≠ w3.heap.size; omega)).trans hY4
      have hB5 := hB4.setCell (p := ⟨w3.heap.size, k, none⟩) (Nat.le_refl _) (.int .i64 (fs (psm A (sr m l)) k))
      have H5 := Lib.hid (And.intro hX5 (And.intro hY5 hB5))
      clear HM cc hv fr hX4 hY4 hB4 hX5 hY5 hB5 HX HK d b4
      generalize fs (psm A (sr m l)) k = v1 at H5 ⊢
      go_upto_region 16 with (fail)
      generalize w4.setCell ⟨w3.heap.size, k, none⟩ (.int .i64 v1) = w5 at H5 ⊢
      clear hv4 fr4
      obtain ⟨hX, hY, hB⟩ := H5.out
      obtain ⟨b5, o5, e5, cc, _⟩ := hrow.out w5 hB
      simp only [Option.some.injEq, Addr.mk.injEq] at e5
      obtain ⟨rfl, rfl, _⟩ := e5
      have hv := hY.cell (i := k) (by rw [upN_length]; exact hlt)
      have fr := hY.free k
      rw [upN_at _ _ _ _ hlt (Nat.le_refl _)] at hv
      have HMn : Hid (∀ nn, Calls Tryd.prog 11 #[.pointer (some ⟨s, 0, none⟩), .int .i64 u, .int .i64 pq] (w5.drewN nn) fun e w'' => e = .returned (.int .i64 (fs (tw Q (sr m l)) k)) ∧ Drawn (w5.drewN nn) w'') := fun nn => HM2.out _ (hB.trans ((Drawn.mk w5 nn).below _))
      have HPn : Hid (∀ nn, Calls Tryd.prog 24 #[.pointer (some ⟨s, 0, none⟩), .int .i64 (zn Q), .int .i64 (k : Int)] (w5.drewN nn) fun e w'' => e = .returned (.int .i64 pq) ∧ Drawn (w5.drewN nn) w'') := fun nn => HP2.out _ (hB.trans ((Drawn.mk w5 nn).below _))
      have HN : Hid (∀ nq, Blk64 ((w5.drewN nq).setCell ⟨w3.heap.size + 1, k, none⟩ (.int .i64 (fs (tw Q (sr m l)) k))) w3.heap.size (upN (fs (psm A (sr m l))) n (k + 1)) ∧ Blk64 ((w5.drewN nq).setCell ⟨w3.heap.size + 1, k, none⟩ (.int .i64 (fs (tw Q (sr m l)) k))) (w3.heap.size + 1) (upN (fs (tw Q (sr m l))) n (k + 1)) ∧ Below w3.heap.size w3 ((w5.drewN nq).setCell ⟨w3.heap.size + 1, k, none⟩ (.int .i64 (fs (tw Q (sr m l)) k)))) := fun nq => by
        have hX2 : Blk64 (w5.drewN nq) w3.heap.size (upN (fs (psm A (sr m l))) n (k + 1)) := hX
        have hY2 : Blk64 (w5.drewN nq) (w3.heap.size + 1) (upN (fs (tw Q (sr m l))) n k) := hY
        have h1 := hY2.set k (fs (tw Q (sr m l)) k)
        rw [upN_set] at h1
        exact ⟨((Only.setCell (w5.drewN nq) ⟨w3.heap.size + 1, k, none⟩ (.int .i64 (fs (tw Q (sr m l)) k))).block _ (by show w3.heap.size ≠ w3.heap.size + 1; omega)).trans hX2, h1, (hB.trans ((Drawn.mk w5 nq).below _)).setCell (by show _ ≤ w3.heap.size + 1; omega) _⟩
      clear hX hY hB H5 HM2 HP2 hrow
      generalize fs (tw Q (sr m l)) k = v2 at HMn HN ⊢
      go_wp2_with fail
      refine wp_region_quiet_tail (C := fun w' => ∃ nn, w' = w5.drewN nn) 12 (by kernel_rfl) (by kernel_rfl) ⟨1, rfl⟩ ?_
      simp only [List.take_succ_cons, List.take_zero, List.drop_succ_cons, List.drop_zero]
      repeat (go_big_quiet_step (first | (go_at_call 11; exact quiet_drawn (HMn.out _)) | (go_at_call 24; exact quiet_drawn (HPn.out _))))
      refine wpQuiet_nil ?_
      rintro _ ⟨nq, rfl⟩
      have HN2 := Lib.hid (HN.out nq)
      have hv2 : (w5.drewN nq).cell? ⟨w3.heap.size + 1, k, none⟩ = some (.int .i64 0) := hv
      have fr2 : (w5.drewN nq).frozen? ⟨w3.heap.size + 1, k, none⟩ = false := fr
      clear HMn HPn HN hv fr cc
      generalize w5.drewN nq = w6 at HN2 hv2 fr2 ⊢
      go_wp2_with fail
      go_roundg (n - (k + 1))
      case measure => have := HG.out; omega
      case rel => exact ⟨k + 1, rfl, hlt, by go_num, HN2.out.1, HN2.out.2.1, HN2.out.2.2⟩
    · obtain rfl : k = n := by omega
      obtain ⟨r, F, B, P⟩ := H3.out
      replace F := F.below M.lo hB
      replace B := B.trans (hB.mono B.size)
      replace P := P.below hB
      have rx := Blk64.rowz hX (by rw [upN_length]; omega)
      have ry := Blk64.rowz hY (by rw [upN_length]; omega)
      rw [upN_length] at rx ry
      have HR := Lib.hid (And.intro rx ry)
      clear r hX hY rx ry HG hlt hk
      have H1 := locate_any (some ⟨w3.heap.size, 0, none⟩) k k _ wr F HR.out.1 (psm A (sr m l)) k (by omega) fun i hi => fs_sr _ _ _ hi
      rw [bm_sm_len HA.out.1] at H1
      go_wp2_with fail
      refine H1.mono ?_
      rintro e w4 ⟨a4, n4, c4, rfl, P4, b⟩
      have H2 := locate_any (some ⟨w3.heap.size + 1, 0, none⟩) k k _ w4 (F.below M.lo b) (HR.out.2.below b) (tw Q (sr m l)) k (by omega) fun i hi => fs_sr _ _ _ hi
      rw [bm_tw_len HA.out.2] at H2
      replace F := F.below M.lo b
      replace B := B.trans (b.mono B.size)
      replace P := P.below b
      clear b H1 HR hB
      go_wp2_with fail
      refine H2.mono ?_
      rintro e w5 ⟨a5, n5, c5, rfl, P5, b⟩
      replace F := F.below M.lo b
      replace B := B.trans (b.mono B.size)
      replace P := P.below b
      replace P4 := P4.below b
      clear b H2
      have hone := (bm_inv (sr m l) k).one
      have hL : (bm (sr m l) k).L ≤ k := (bm_inv (sr m l) k).le
      by_cases h2 : k < 2 * (bm (sr m l) k).L
      · have g1 : (k : Int) < 2 * ((bm (sr m l) k).L : Int) := by omega
        clear P P4 P5 F h2
        generalize (bm (sr m l) k).L = L at g1 hL ⊢
        go_wp2_with fail
        go_ret
        exact ⟨rfl, B⟩
      · have g1 : ¬ ((k : Int) < 2 * ((bm (sr m l) k).L : Int)) := by omega
        rw [bm_sm HA.out.1 (by omega)] at P4
        rw [bm_tw HA.out.2 (by omega)] at P5
        obtain ⟨t, ht⟩ : ∃ t, t = bm (sr m l) k := ⟨_, rfl⟩
        rw [← ht] at P P4 P5 hone hL g1 ⊢
        clear ht h2
        have hne : t.c ≠ pz := fun e => Fl.one_ne (K := El m) (hone ▸ congrFun e 0)
        obtain rfl : n3 = n5 := nv_len HA.out.2 P P5 hne
        have HP := Lib.hid (And.intro P (And.intro P5 (And.intro F B)))
        clear hne hone F P5
        go_wp2_with fail
        refine (sameV P P4 rfl).mono ?_
        rintro e w6 ⟨rfl, d⟩
        have b6 := d.below w5.heap.size
        clear d P P4 B
        go_wp2_with fail
        go_loopg [21] n3 (fun gh s21 wx => ∃ j : Nat, gh = n3 - j ∧ j ≤ n3 ∧ s21 = .int .i64 (j : Int) ∧ Below w5.heap.size w5 wx)
        case atStart => exact ⟨0, rfl, Nat.zero_le _, rfl, b6⟩
        case round =>
          clear b6
          obtain ⟨j, hg, hj, rfl, hB⟩ := hrel
          have HG := Lib.hid hg
          clear hg
          have hm3 : n3 ≤ 100 := HP.out.1.le
          by_cases hlt : j < n3
          · have y0 : (j : Int) < (n3 : Int) := by omega
            have y1 : (0 : Int) ≤ (j : Int) := by omega
            obtain ⟨P, P5, F, B⟩ := HP.out
            obtain ⟨b1, o1, rfl, cc1, _⟩ := (P.row.below hB).row j hlt
            obtain ⟨b2, o2, rfl, cc2, _⟩ := (P5.row.below hB).row j hlt
            rw [nums_at _ _ _ hlt] at cc1 cc2
            have HM : Hid (∀ nn, Calls Tryd.prog 11 #[.pointer (some ⟨s, 0, none⟩), .int .i64 (zn (t.c j)), .int .i64 (zn (pwK Q j))] (wr.drewN nn) fun e w'' => e = .returned (.int .i64 (zn (tw Q t.c j))) ∧ Drawn (wr.drewN nn) w'') := fun nn => by
              have h1 := mul_any M.lo M.hi (zn (t.c j)) (zn (pwK Q j)) (wr.drewN nn) ((F.below M.lo hB).drawn M.lo (Drawn.mk wr nn))
              have e1 : h (fmul m (el m (zn (t.c j))) (el m (zn (pwK Q j)))) = zn (tw Q t.c j) := by
                show zn (elm m (zn (t.c j)) * elm m (zn (pwK Q j))) = zn (t.c j * pwK Q j)
                rw [elm_zn, elm_zn]
              rw [e1] at h1
              exact h1
            have HPn : Hid (∀ nn, Calls Tryd.prog 24 #[.pointer (some ⟨s, 0, none⟩), .int .i64 (zn Q), .int .i64 (j : Int)] (wr.drewN nn) fun e w'' => e = .returned (.int .i64 (zn (pwK Q j))) ∧ Drawn (wr.drewN nn) w'') := fun nn => by
              have h1 := pow_some M.lo M.hi (zn Q) (j : Int) (wr.drewN nn) ((F.below M.lo hB).drawn M.lo (Drawn.mk wr nn)) (zn_el Q HA.out.2)
              rw [powZ_zn Q HA.out.2] at h1
              exact h1
            have HBj := Lib.hid hB
            clear P P5 F B hB
            generalize zn (tw Q t.c j) = z1 at cc2 HM
            generalize zn (t.c j) = z2 at cc1 HM
            generalize zn (pwK Q j) = z3 at HM HPn
            go_wp2_with fail
            go_quiet ((first | (go_at_call 11; exact quiet_drawn (HM.out _)) | (go_at_call 24; exact quiet_drawn (HPn.out _))))
            have hB2 := HBj.out.trans ((Drawn.mk wr nq).below w5.heap.size)
            generalize wr.drewN nq = w8 at hB2 ⊢
            clear cc1 cc2 HM HPn
            go_wp2_with fail
            go_roundg (n3 - (j + 1))
            case measure => have := HG.out; omega
            case rel => exact ⟨j + 1, rfl, hlt, by go_num, hB2⟩
          · have y0 : ¬ ((j : Int) < (n3 : Int)) := by omega
            have hB2 := HP.out.2.2.2.trans (hB.mono HP.out.2.2.2.size)
            clear hB
            go_wp2_with fail
            go_ret
            exact ⟨rfl, hB2⟩
theorem walk (x0 : Int) (a1 : Option Addr) (len1 cap1 : Nat) (z1 : List Int) (x2 x3 : Int) (W : World) (w0 : (Lit.int .i64 x0).wf = true) (w1 : IsRow .i64 W a1 len1 cap1 z1) (w2 : (Lit.int .i64 x2).wf = true) (w3 : (Lit.int .i64 x3).wf = true) (h : LaidLocateScales.Holds W) :
    Calls Tryd.prog 8 #[.int .i64 x0, .slice a1 len1 cap1, .int .i64 x2, .int .i64 x3] W fun e w' => e = .returned (.bool true) ∧ Below W.heap.size W w' := by
  by_cases k1 : len1 ≤ 40
  · exact core x0 a1 len1 cap1 _ x2 x3 W (row_rowz w1) k1
  · exact long x0 a1 len1 cap1 x2 x3 W (by omega)
end Go.Proofs.YtjpaihnnljpaeaaDoor.walkLocateScales
