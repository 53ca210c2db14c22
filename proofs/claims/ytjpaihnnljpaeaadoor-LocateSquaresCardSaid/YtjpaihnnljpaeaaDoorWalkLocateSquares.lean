/- The walk over LocateSquares. By the verifier of shale. -/
import Derived.Test.YtjpaihnnljpaeaaDoorGreat1
import Derived.Test.YtjpaihnnljpaeaaDoorGreat2
import Derived.Test.YtjpaihnnljpaeaaDoorLaidLocateSquares
namespace Go.Proofs.YtjpaihnnljpaeaaDoor.walkLocateSquares
open Go Go.RowKit Fld Bits16 Pl Loc
set_option linter.unusedVariables false
section
variable {m : Nat} [M : Mid m]
/-- the values, as numbers: each second one the square of the one at its half. -/
def raw (m : Nat) [M : Mid m] (l : List Int) (k : Nat) : Int := if h : k % 2 = 0 then l.getD (k / 2) 0 else zn (elm m (raw m l (k / 2)) * elm m (raw m l (k / 2)))
termination_by k
decreasing_by omega
def rs (m : Nat) [M : Mid m] (l : List Int) : Ser (El m) := fun k => elm m (raw m l k)
theorem raw_even (l : List Int) (j : Nat) : raw m l (2 * j) = l.getD j 0 := by
  rw [raw, dif_pos (by omega), show 2 * j / 2 = j by omega]
theorem raw_odd (l : List Int) (j : Nat) : raw m l (2 * j + 1) = zn (rs m l j * rs m l j) := by
  rw [raw, dif_neg (by omega), show (2 * j + 1) / 2 = j by omega]; rfl
theorem rs_odd (l : List Int) (j : Nat) : rs m l (2 * j + 1) = rs m l j * rs m l j := by
  show elm m (raw m l (2 * j + 1)) = _
  rw [raw_odd, elm_zn]
/-- the first k of N laid. -/
def xs (m : Nat) [M : Mid m] (l : List Int) (N k : Nat) : List Int := (List.range N).map fun i => if i < k then raw m l i else 0
theorem xs_length (l : List Int) (N k : Nat) : (xs m l N k).length = N := by simp [xs]
theorem xs_at (l : List Int) (N k i : Nat) (hi : i < N) (hk : i < k) : (xs m l N k).getD i 0 = raw m l i := by simp [xs, hi, hk]
theorem xs_zero (l : List Int) (N : Nat) : xs m l N 0 = List.replicate N 0 := by
  apply List.ext_getElem
  · simp [xs]
  · intro i h1 h2; simp [xs]
theorem xs_set (l : List Int) (N k : Nat) (hk : k < N) : (xs m l N k).set k (raw m l k) = xs m l N (k + 1) := by
  apply List.ext_getElem
  · simp [xs]
  · intro i h1 h2
    rw [List.getElem_set]
    simp only [xs, List.getElem_map, List.getElem_range]
    by_cases e : k = i
    · subst e; rw [if_pos rfl, if_pos (by omega)]
    · rw [if_neg e]
      by_cases h : i < k
      · rw [if_pos h, if_pos (by omega)]
      · rw [if_neg h, if_neg (by omega)]
theorem xs_cut (l : List Int) (N n i : Nat) (hi : i < n) (hn : n ≤ N) : rs m l i = sr m ((xs m l N N).take n) i := by
  show elm m (raw m l i) = elm m (((xs m l N N).take n).getD i 0)
  rw [List.getD_eq_getElem?_getD, List.getElem?_take_of_lt hi, ← List.getD_eq_getElem?_getD, xs_at l N N i (by omega) (by omega)]
end
set_option maxRecDepth 100000 in
set_option maxHeartbeats 1000000 in
theorem long (x0 : Int) (a1 : Option Addr) (n1 c1 : Nat) (w : World) (h : 20 < n1) :
    Calls Tryd.prog 3 #[.int .i64 x0, .slice a1 n1 c1] w fun e w' => e = .returned (.bool true) ∧ Below w.heap.size w w' := by
  have t : decide ((20 : Int) < (n1 : Int)) = true := decide_eq_true (by omega)
  clear h
  go_enter Tryd.func3, Tryd.ntmps3
  go_wp2_with fail
  refine (first_any w).mono ?_
  rintro e w1 ⟨rfl, B⟩
  go_wp2_with fail
  refine (made_any x0 w1).mono ?_
  rintro e w2 ⟨s, be, ce, bl, rfl, F, b⟩
  replace B := B.trans (b.mono B.size)
  clear b
  go_wp2_with fail
  go_ret
  exact ⟨rfl, B⟩
set_option maxRecDepth 100000 in
set_option maxHeartbeats 4000000 in
theorem core (x0 : Int) (a : Option Addr) (n c : Nat) (l : List Int) (w : World) (r : RowZ w a n c l) (hn : n ≤ 20) :
    Calls Tryd.prog 3 #[.int .i64 x0, .slice a n c] w fun e w' => e = .returned (.bool true) ∧ Below w.heap.size w w' := by
  have t : decide ((20 : Int) < (n : Int)) = false := decide_eq_false (by omega)
  go_enter Tryd.func3, Tryd.ntmps3
  go_wp2_with fail
  refine (first_any w).mono ?_
  rintro e w1 ⟨rfl, B⟩
  replace r := r.below B
  go_wp2_with fail
  refine (made_any x0 w1).mono ?_
  rintro e w2 ⟨s, be, ce, bl, rfl, F, b⟩
  replace r := r.below b
  replace B := B.trans (b.mono B.size)
  clear b
  obtain ⟨m, hm⟩ : ∃ m, m = mk8 x0 := ⟨_, rfl⟩
  haveI M : Mid m := by rw [hm]; infer_instance
  rw [← hm] at F
  clear hm
  obtain ⟨N, hN⟩ : ∃ N, N = 2 * n := ⟨_, rfl⟩
  have hmk := fun w => made64 w N (by omega)
  have eN : 2 * (n : Int) = (N : Int) := by omega
  have hN40 : N ≤ 40 := by omega
  have hg : (w2.alloc (obj64 (List.replicate N 0))).heap[w2.heap.size]? = _ := heap_alloc_new w2 _
  have H0 : Hid (Blk64 (w2.alloc (obj64 (List.replicate N 0))) w2.heap.size (xs m l N 0) ∧ Below w2.heap.size w2 (w2.alloc (obj64 (List.replicate N 0)))) := ⟨by rw [xs_zero]; exact Blk64.new _ _, (Below.refl _ _).alloc (Nat.le_refl _) _⟩
  clear hg
  have HF := Lib.hid F
  have HR := Lib.hid r
  have HB := Lib.hid B
  have hNN := Lib.hid hN
  clear F r B hN
  go_wp2_with fail
  clear hmk eN t
  go_loopg [9] N (fun gh s9 wx => ∃ k : Nat, gh = N - k ∧ k ≤ N ∧ s9 = .int .i64 (k : Int) ∧ Blk64 wx w2.heap.size (xs m l N k) ∧ Below w2.heap.size w2 wx)
  case atStart => exact ⟨0, rfl, Nat.zero_le _, rfl, H0.out.1, H0.out.2⟩
  case round =>
    clear H0
    obtain ⟨k, hg, hk, rfl, hK, hB⟩ := hrel
    have HG := Lib.hid hg
    clear hg
    by_cases hlt : k < N
    · have x0 : (k : Int) < (N : Int) := by omega
      have x1 : (0 : Int) ≤ (k : Int) := by omega
      have x2 : ((k : Int)).toNat = k := by omega
      have hv := hK.cell (i := k) (by rw [xs_length]; exact hlt)
      have fr := hK.free k
      generalize nth64 (xs m l N k) k = v0 at hv
      have hsz : w2.heap.size < wr.heap.size := hK.lt
      obtain ⟨j, hj⟩ : ∃ j, j = k / 2 := ⟨_, rfl⟩
      have q1 : (k : Int) / 2 = (j : Int) := by omega
      have q1' : IntKind.i64.wrap ((k : Int).tdiv 2) = (j : Int) := by
        rw [Int.tdiv_eq_ediv_of_nonneg (by omega), q1]; exact IntWalk.i64_in _ (by omega)
      have q3 : (0 : Int) ≤ (j : Int) := by omega
      have HJ := Lib.hid hj
      have HK := Lib.hid (And.intro hK hB)
      by_cases hev : k % 2 = 0
      · have q2 : ((k : Int) % 2 == 0) = true := by rw [beq_iff_eq]; omega
        have q4 : (j : Int) < (n : Int) := by have := hNN.out; omega
        obtain ⟨bb, off, rfl, cc, hbb⟩ := (HR.out.below hB).row j (by have := hNN.out; omega)
        have HN : Hid (Blk64 (wr.setCell ⟨w2.heap.size, k, none⟩ (.int .i64 (l.getD j 0))) w2.heap.size (xs m l N (k + 1)) ∧ Below w2.heap.size w2 (wr.setCell ⟨w2.heap.size, k, none⟩ (.int .i64 (l.getD j 0)))) := by
          have h1 := hK.set k (l.getD j 0)
          rw [← raw_even (m := m), show 2 * j = k by omega, xs_set _ _ _ hlt, ← show 2 * j = k by omega, raw_even] at h1
          rw [show 2 * j = k by omega] at h1
          exact ⟨h1, hB.setCell (Nat.le_refl _) _⟩
        generalize l.getD j 0 = u at cc HN
        clear hK hB hj hev HK
        go_wp2_with fail
        go_roundg (N - (k + 1))
        case measure => have := HG.out; omega
        case rel => exact ⟨k + 1, rfl, hlt, by go_num, HN.out.1, HN.out.2⟩
      · have q2 : ((k : Int) % 2 == 0) = false := by rw [beq_eq_false_iff_ne]; omega
        have q4 : (j : Int) < (N : Int) := by omega
        have hu := hK.cell (i := j) (by rw [xs_length]; omega)
        have eu : nth64 (xs m l N k) j = raw m l j := xs_at l N k j (by omega) (by omega)
        rw [eu] at hu
        have HM : Hid (∀ nn, Calls Tryd.prog 11 #[.pointer (some ⟨s, 0, none⟩), .int .i64 (raw m l j), .int .i64 (raw m l j)] (wr.drewN nn) fun e w' => e = .returned (.int .i64 (raw m l k)) ∧ Drawn (wr.drewN nn) w') := fun nn => by
          have h1 := mul_any M.lo M.hi (raw m l j) (raw m l j) (wr.drewN nn) ((HF.out.below M.lo hB).drawn M.lo (Drawn.mk wr nn))
          have e2 : h (fmul m (el m (raw m l j)) (el m (raw m l j))) = raw m l k := by
            rw [show k = 2 * j + 1 by omega, raw_odd]; rfl
          rw [e2] at h1
          exact h1
        have HN : Hid (∀ nq, Blk64 ((wr.drewN nq).setCell ⟨w2.heap.size, k, none⟩ (.int .i64 (raw m l k))) w2.heap.size (xs m l N (k + 1)) ∧ Below w2.heap.size w2 ((wr.drewN nq).setCell ⟨w2.heap.size, k, none⟩ (.int .i64 (raw m l k)))) := fun nq => by
          have hK2 : Blk64 (wr.drewN nq) w2.heap.size (xs m l N k) := hK
          have h1 := hK2.set k (raw m l k)
          rw [xs_set _ _ _ hlt] at h1
          exact ⟨h1, (hB.trans ((Drawn.mk wr nq).below _)).setCell (Nat.le_refl _) _⟩
        generalize raw m l k = u2 at HM HN
        generalize raw m l j = u1 at hu HM
        clear hK hB hj hev HK eu
        go_wp2_with fail
        refine wp_region_quiet_tail (C := fun w' => ∃ nn, w' = wr.drewN nn) 14 (by kernel_rfl) (by kernel_rfl) ⟨1, rfl⟩ ?_
        simp only [List.take_succ_cons, List.take_zero, List.drop_succ_cons, List.drop_zero]
        repeat (go_big_quiet_step ((go_at_call 11; exact quiet_drawn (HM.out _))))
        refine wpQuiet_nil ?_
        rintro _ ⟨nq, rfl⟩
        have HN2 := Lib.hid (HN.out nq)
        have hv2 : (wr.drewN nq).cell? ⟨w2.heap.size, k, none⟩ = some (.int .i64 v0) := hv
        have fr2 : (wr.drewN nq).frozen? ⟨w2.heap.size, k, none⟩ = false := fr
        clear HM HN hv hu fr
        generalize wr.drewN nq = w5 at HN2 hv2 fr2 ⊢
        go_wp2_with fail
        go_roundg (N - (k + 1))
        case measure => have := HG.out; omega
        case rel => exact ⟨k + 1, rfl, hlt, by go_num, HN2.out.1, HN2.out.2⟩
    · obtain rfl : k = N := by omega
      obtain ⟨Q, rfl⟩ : ∃ Q, Q = k := ⟨_, rfl⟩
      have hx0 : (0 : Int) ≤ (Q : Int) := by omega
      have HK := Lib.hid (And.intro hK hB)
      have BB := Lib.hid (HB.out.trans (hB.mono HB.out.size))
      clear hK hB HG hk hlt
      go_wp2_with fail
      clear hx0
      obtain ⟨W, hW⟩ : ∃ W, W = wr := ⟨_, rfl⟩
      rw [← hW] at HK BB ⊢
      clear hW
      go_loopg [10] (Q + 1) (fun gh s10 wx => ∃ p : Nat, gh = Q + 2 - p ∧ p ≤ Q + 1 ∧ p % 2 = 1 ∧ s10 = .int .i64 (p : Int) ∧ Below W.heap.size W wx)
      case atStart => exact ⟨1, rfl, by omega, rfl, rfl, Below.refl _ _⟩
      case round =>
        obtain ⟨p, hg, hp, hp2, rfl, hB⟩ := hrel
        have HG := Lib.hid hg
        have HP := Lib.hid hp2
        clear hg hp2
        by_cases hlt : p < Q
        · have y0 : (p : Int) < (Q : Int) := by omega
          have y1 : (0 : Int) ≤ (p : Int) := by omega
          have y2 : (p : Int) ≤ (Q : Int) := by omega
          have y3 : (p : Int) + 1 ≤ (Q : Int) := by omega
          have y4 : (0 : Int) ≤ (p : Int) + 1 := by omega
          have y5 : ((p : Int) + 1).toNat = p + 1 := by omega
          have hst := bm_stays (sq_inv (rs_odd (m := m) l) (p / 2)).2
          rw [show 2 * (p / 2) + 1 = p by have := HP.out; omega] at hst
          obtain ⟨es, eL⟩ := hst
          have HF3 := HF.out.below M.lo (HK.out.2.trans (hB.mono HK.out.2.size))
          have r1 := (Blk64.row HK.out.1 p (by rw [xs_length]; omega) (by rw [xs_length]; omega)).below hB
          have r2 := (Blk64.row HK.out.1 (p + 1) (by rw [xs_length]; omega) (by rw [xs_length]; omega)).below hB
          rw [xs_length] at r1 r2
          have H1 := Lib.hid (locate_any (some ⟨w2.heap.size, 0, none⟩) p Q _ wr HF3 r1 (rs m l) p (by omega) fun i hi => xs_cut l Q p i hi (by omega))
          have H2 : Hid (∀ wx, Below wr.heap.size wr wx → Calls Tryd.prog 12 #[.pointer (some ⟨s, 0, none⟩), .slice (some ⟨w2.heap.size, 0, none⟩) (p + 1) Q] wx fun e w' => ∃ a n c, e = .returned (.tuple #[.slice a n c, .int .i64 ((bm (rs m l) p).L : Int)]) ∧ NV m w' 100 a n c (bm (rs m l) p).c ∧ Below wx.heap.size wx w') := fun wx b => by
            have h2 := locate_any (some ⟨w2.heap.size, 0, none⟩) (p + 1) Q _ wx (HF3.below M.lo b) (r2.below b) (rs m l) (p + 1) (by omega) fun i hi => xs_cut l Q (p + 1) i hi (by omega)
            rw [es, eL] at h2
            exact h2
          have HBR := Lib.hid hB
          clear es eL HF3 r1 r2 hB
          generalize (bm (rs m l) p).L = L at H1 H2
          generalize (bm (rs m l) p).c = C at H1 H2
          go_wp2_with fail
          refine H1.out.mono ?_
          rintro e w5 ⟨a1, n1, c1, rfl, P1, b5⟩
          go_wp2_with fail
          refine (H2.out _ b5).mono ?_
          rintro e w6 ⟨a2, n2, c2, rfl, P2, b6⟩
          replace P1 := P1.below b6
          have B6 := HBR.out.trans ((b5.trans (b6.mono b5.size)).mono HBR.out.size)
          clear H1 H2 HBR b5 b6
          go_wp2_with fail
          refine (sameV P1 P2 rfl).mono ?_
          rintro e w7 ⟨rfl, d⟩
          have B7 := B6.trans (d.below _)
          clear d B6 P1 P2
          go_wp2_with fail
          go_roundg (Q + 2 - (p + 2))
          case measure => have := HG.out; omega
          case rel => exact ⟨p + 2, rfl, by omega, by have := HP.out; omega, by go_num, B7⟩
        · have y0 : ¬ ((p : Int) < (Q : Int)) := by omega
          have BZ := BB.out.trans (hB.mono BB.out.size)
          clear hB
          go_wp2_with fail
          go_ret
          exact ⟨rfl, BZ⟩
theorem walk (x0 : Int) (a1 : Option Addr) (len1 cap1 : Nat) (z1 : List Int) (W : World) (w0 : (Lit.int .i64 x0).wf = true) (w1 : IsRow .i64 W a1 len1 cap1 z1) (h : LaidLocateSquares.Holds W) :
    Calls Tryd.prog 3 #[.int .i64 x0, .slice a1 len1 cap1] W fun e w' => e = .returned (.bool true) ∧ Below W.heap.size W w' := by
  by_cases k1 : len1 ≤ 20
  · exact core x0 a1 len1 cap1 _ W (row_rowz w1) k1
  · exact long x0 a1 len1 cap1 W (by omega)
end Go.Proofs.YtjpaihnnljpaeaaDoor.walkLocateSquares
