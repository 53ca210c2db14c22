/- The document's pool: its Add. By the verifier of shale. -/
import Derived.Test.YtaaegkjbmomjbaaDoorPoRef4
import Derived.Lib.QuietBelow
namespace Go.Proofs.YtaaegkjbmomjbaaDoor.Po
open Go Go.RowKit Hp
set_option linter.unusedVariables false
set_option linter.unusedSimpArgs false
theorem newF (w w1 : World) (x : It) (h : w.alloc (.cells #[.int .i64 x.b, .int .i64 x.w] 42 (0, 0)) = w1) : w1.heap[w.heap.size]? = some (.cells #[.int .i64 x.b, .int .i64 x.w] 42 (0, 0)) ∧ Below w.heap.size w w1 ∧ w1.heap.size = w.heap.size + 1 := by
  subst h
  exact ⟨heap_alloc_new w _, (Below.refl _ _).alloc (Nat.le_refl _) _, by simp⟩
theorem before_any (x y : It) (w : World) : Calls Tryd.prog 26 #[itV x, itV y] w fun e w' => e = .returned (.bool (itLt x y)) ∧ Below w.heap.size w w' := by
  have key : ∀ c0 c1 c2 : Bool, decide (x.w < y.w) = c0 → (x.w == y.w) = c1 → decide (x.b < y.b) = c2 → Calls Tryd.prog 26 #[itV x, itV y] w fun e w' => e = .returned (.bool (c0 || (c1 && c2))) ∧ Below w.heap.size w w' := by
    intro c0 c1 c2 h0 h1 h2
    go_enter Tryd.func26, Tryd.ntmps26
    go_upto_region 1 with (fail)
    generalize hw : w.alloc (.cells #[.int .i64 x.b, .int .i64 x.w] 42 (0, 0)) = w1
    obtain ⟨k1, q1, hs1⟩ := newF w w1 x hw
    clear hw
    rw [← hs1]
    generalize hw : w1.alloc (.cells #[.int .i64 y.b, .int .i64 y.w] 42 (0, 0)) = w2
    obtain ⟨k2, q2, _⟩ := newF w1 w2 y hw
    clear hw
    obtain ⟨xb, hxb⟩ : ∃ xb, xb = w.heap.size := ⟨_, rfl⟩
    obtain ⟨yb, hyb⟩ : ∃ yb, yb = w1.heap.size := ⟨_, rfl⟩
    have HB : Hid (Below w.heap.size w w2) := q1.trans (q2.mono q1.size)
    rw [← hxb] at k1
    rw [← hyb] at k2
    have k1' := (q2.block xb (lt_of_block k1)).trans k1
    rw [← hxb, ← hyb]
    clear hs1 hxb hyb q1 q2 k1
    obtain ⟨x0, x1, _⟩ := it_cells k1'
    obtain ⟨y0, y1, _⟩ := it_cells k2
    clear k1' k2
    cases c0
    · cases c1
      · go_wp2_with fail
        go_ret
        exact ⟨rfl, HB.out⟩
      · cases c2
        · go_wp2_with fail
          go_ret
          exact ⟨rfl, HB.out⟩
        · go_wp2_with fail
          go_ret
          exact ⟨rfl, HB.out⟩
    · go_wp2_with fail
      go_ret
      exact ⟨rfl, HB.out⟩
  have h := key _ _ _ rfl rfl rfl
  rw [show (decide (x.w < y.w) || ((x.w == y.w) && decide (x.b < y.b))) = itLt x y from by unfold itLt; congr 2] at h
  exact h
theorem count_any (n : Int) (w : World) : Calls Tryd.prog 25 #[.int .i64 n] w fun e w' => e = .returned (.bool (decide (0 ≤ n) && decide (n ≤ 1073741824))) ∧ w = w' := by
  by_cases h1 : 0 ≤ n
  · have t1 : decide (0 ≤ n) = true := decide_eq_true h1
    cases t2 : decide (n ≤ 1073741824)
    · go_enter Tryd.func25, Tryd.ntmps25
      go_wp2_with fail
      go_ret
      exact ⟨by simp [h1, t2], rfl⟩
    · go_enter Tryd.func25, Tryd.ntmps25
      go_wp2_with fail
      go_ret
      exact ⟨by simp [h1, t2], rfl⟩
  · have t1 : decide (0 ≤ n) = false := decide_eq_false h1
    go_enter Tryd.func25, Tryd.ntmps25
    go_wp2_with fail
    go_ret
    exact ⟨by simp [h1], rfl⟩
theorem ROut.pre {w wr w' : World} {base xb : Nat} {a : Option Addr} {R : List It} {r : Value} {e : Ending} (b : Below w.heap.size w wr) (h : ROut wr base xb a R r e w') : ROut w base xb a R r e w' := by
  obtain ⟨a', c', h1, h2, h3, h4⟩ := h
  exact ⟨a', c', h1, h2, (Tn.below b).trans h3, h4⟩
def insAt (R : List It) (x : It) (k : Nat) : Prop := k ≤ R.length ∧ (∀ j, j < k → itLt (R[j]!) x = true) ∧ (k < R.length → itLt (R[k]!) x = false)
def RAdd (w : World) (base xb : Nat) (a : Option Addr) (R : List It) (x : It) (e : Ending) (w' : World) : Prop := ∃ k, insAt R x k ∧ ROut w base xb a (R.take k ++ x :: R.drop k) (.int .i64 0) e w'
section
variable {w : World} {base xb c : Nat} {a : Option Addr} {R : List It}
set_option maxHeartbeats 1000000 in
theorem radd_bad (b u : Int) (h : ¬ (0 ≤ b ∧ b < 64 ∧ 0 ≤ u ∧ u ≤ 1073741824)) (v : Value) (w : World) :
    Calls Tryd.prog 10 #[v, .int .i64 b, .int .i64 u] w fun e w' => e = .returned (.int .i64 102) ∧ w = w' := by
  have go : ∀ d0 d1 d2 : Bool, decide (b < 0) = d0 → decide (64 ≤ b) = d1 → (decide (0 ≤ u) && decide (u ≤ 1073741824)) = d2 → (d0 || d1 || !d2) = true → Calls Tryd.prog 10 #[v, .int .i64 b, .int .i64 u] w fun e w' => e = .returned (.int .i64 102) ∧ w = w' := by
    intro d0 d1 d2 e0 e1 e2 hh
    have HC := Lib.hid (count_any u)
    clear h
    rw [e2] at HC
    clear e2
    cases d0
    · cases d1
      · cases d2
        · clear hh
          go_enter Tryd.func10, Tryd.ntmps10
          go_wp2_with (go_at_call 25; (with_reducible refine Calls.mono (HC.out _) ?_); rintro e w' ⟨rfl, rfl⟩)
          go_ret
          exact ⟨rfl, rfl⟩
        · exact absurd hh (by decide)
      · clear hh
        go_enter Tryd.func10, Tryd.ntmps10
        go_wp2_with fail
        go_ret
        exact ⟨rfl, rfl⟩
    · clear hh
      go_enter Tryd.func10, Tryd.ntmps10
      go_wp2_with fail
      go_ret
      exact ⟨rfl, rfl⟩
  refine go _ _ _ rfl rfl rfl ?_
  rw [Bool.eq_iff_iff]
  simp only [Bool.or_eq_true, Bool.not_eq_true', Bool.and_eq_false_iff, decide_eq_true_eq, decide_eq_false_iff_not, iff_true]
  omega
set_option maxHeartbeats 1000000 in
theorem radd_has (Q : RefP w base xb a c R) (hL : R.length ≤ 1000) (b u : Int) (h0 : 0 ≤ b) (h1 : b < 64) (h2 : 0 ≤ u) (h3 : u ≤ 1073741824) (hno : (idx? R b).isSome = true) :
    Calls Tryd.prog 10 #[.pointer (some ⟨xb, 0, none⟩), .int .i64 b, .int .i64 u] w fun e w' => e = .returned (.int .i64 110) ∧ w = w' := by
  have HH := Lib.hid (rhas_any Q hL b)
  rw [hno] at HH
  have HC := Lib.hid (count_any u)
  rw [show (decide (0 ≤ u) && decide (u ≤ 1073741824)) = true from by simp [h2, h3]] at HC
  have d0 : decide (b < 0) = false := decide_eq_false (by omega)
  have d1 : decide (64 ≤ b) = false := decide_eq_false (by omega)
  clear Q hL hno h0 h1 h2 h3
  go_enter Tryd.func10, Tryd.ntmps10
  go_wp2_with (go_at_call 25; (with_reducible refine Calls.mono (HC.out _) ?_); rintro e w' ⟨rfl, rfl⟩)
  refine HH.out.mono ?_
  rintro e w1 ⟨rfl, rfl⟩
  go_wp2_with fail
  go_ret
  exact ⟨rfl, rfl⟩
set_option maxRecDepth 100000 in
set_option maxHeartbeats 4000000 in
theorem radd_yes (Q : RefP w base xb a c R) (hnil : a = none → c = 0) (hL : R.length ≤ 1000) (x : It) (h0 : 0 ≤ x.b) (h1 : x.b < 64) (h2 : 0 ≤ x.w) (h3 : x.w ≤ 1073741824) (hno : idx? R x.b = none) :
    Calls Tryd.prog 10 #[.pointer (some ⟨xb, 0, none⟩), .int .i64 x.b, .int .i64 x.w] w (RAdd w base xb a R x) := by
  have HH := Lib.hid (rhas_any Q hL x.b)
  rw [hno] at HH
  have HC := Lib.hid (count_any x.w)
  rw [show (decide (0 ≤ x.w) && decide (x.w ≤ 1073741824)) = true from by simp [h2, h3]] at HC
  have d0 : decide (x.b < 0) = false := decide_eq_false (by omega)
  have d1 : decide (64 ≤ x.b) = false := decide_eq_false (by omega)
  obtain ⟨n, hn⟩ : ∃ n, n = R.length := ⟨_, rfl⟩
  obtain ⟨N1, hN1⟩ : ∃ N1, N1 = n + 1 := ⟨_, rfl⟩
  have HQ := Lib.hid (And.intro Q (And.intro hn hL))
  have hkw : ∀ W, Below w.heap.size w W → W.cell? ⟨xb, 0, none⟩ = some (.slice a n c) := fun W d => by rw [hn]; exact (Q.below d).cell.1
  have HK := Lib.hid hkw
  have HFz : Hid (∀ W, Below w.heap.size w W → W.frozen? ⟨xb, 0, none⟩ = false) := fun W d => (Q.below d).cell.2 0
  have hcap := Q.cap
  rw [← hn] at hL hcap
  unfold maxLen at hcap
  have HNIL := Lib.hid hnil
  have HN1 := Lib.hid hN1
  have hN1le : N1 ≤ 1001 := by omega
  clear Q hn hkw hnil hno h0 h1 h2 h3 hN1
  go_enter Tryd.func10, Tryd.ntmps10
  go_wp2_with (go_at_call 25; (with_reducible refine Calls.mono (HC.out _) ?_); rintro e w' ⟨rfl, rfl⟩)
  refine HH.out.mono ?_
  rintro e w1 ⟨rfl, rfl⟩
  clear HH HC
  go_upto_region 6 with (fail)
  generalize hw : w.alloc (.cells #[.int .i64 x.b, .int .i64 x.w] 42 (0, 0)) = w1
  obtain ⟨J1, b1, _⟩ := newF w w1 x hw
  clear hw
  obtain ⟨fb, hfb⟩ : ∃ fb, fb = w.heap.size := ⟨_, rfl⟩
  rw [← hfb] at J1 ⊢
  have HFB := Lib.hid hfb
  have HS : Hid (Below w.heap.size w w1 ∧ w1.heap[fb]? = some (.cells #[.int .i64 x.b, .int .i64 x.w] 42 (0, 0)) ∧ ∀ j, j < 0 → itLt (R[j]!) x = true) := ⟨b1, J1, fun j hj => absurd hj (Nat.not_lt_zero _)⟩
  clear J1 b1 hfb d0 d1
  go_wp2_with fail
  go_loopg [8] n (fun gh s8 wx => ∃ i : Nat, gh = n - i ∧ i ≤ n ∧ s8 = .int .i64 (i : Int) ∧ Hid (Below w.heap.size w wx ∧ wx.heap[fb]? = some (.cells #[.int .i64 x.b, .int .i64 x.w] 42 (0, 0)) ∧ ∀ j, j < i → itLt (R[j]!) x = true))
  case atStart => exact ⟨0, rfl, Nat.zero_le _, rfl, HS⟩
  case round =>
    clear HS
    obtain ⟨i, hg, hin, rfl, HX⟩ := hrel
    have HG := Lib.hid (And.intro hg hin)
    have x0 : (0 : Int) ≤ (i : Int) := by omega
    have x2 : (i : Int) ≤ 1000 := by omega
    have k0 := HK.out wr HX.out.1
    obtain ⟨f0, f1, _⟩ := it_cells HX.out.2.1
    have HBf : Hid (∀ (y : It) (r : Bool), itLt y x = r → ∀ q os, Calls Tryd.prog 26 #[itV y, itV x] (Sort.grow (redrawn wr q) os) fun e w' => e = .returned (.bool r) ∧ ∃ p : Regrown, w' = Sort.grow (redrawn wr p.d) p.os) := fun y r hr q os => Calls.regrown_of (by rw [← hr]; exact before_any y x _)
    clear hg
    by_cases hlt : i < n
    · have x1 : (i : Int) < (n : Int) := by omega
      have x1' : i < n := hlt
      have HL := Lib.hid hlt
      obtain ⟨g, o, rfl, hgx, c0, c1⟩ := (HQ.out.1.below HX.out.1).item (i := i) (by rw [← HQ.out.2.1]; exact hlt)
      obtain ⟨y, hy⟩ : ∃ y, y = R[i]! := ⟨_, rfl⟩
      rw [← hy] at c0 c1
      have HY := Lib.hid hy
      clear hy hlt
      cases hr : itLt y x
      · have HI := Lib.hid (HBf.out y false hr)
        have HIN : Hid (insAt R x i) := ⟨by rw [← HQ.out.2.1]; exact hin, HX.out.2.2, fun _ => by rw [← HY.out]; exact hr⟩
        clear hr
        go_upto_region 7 with (fail)
        replace k0 := cell_regrown k0
        replace c0 := cell_regrown c0
        replace c1 := cell_regrown c1
        replace f0 := cell_regrown f0
        replace f1 := cell_regrown f1
        refine wp_region_quiet_below (by kernel_rfl) (by kernel_rfl) ?_
        repeat (go_big_quiet_step (first | (go_at_call 26; with_reducible exact HI.out _ _)))
        refine wpQuiet_nil ?_
        intro _ hw'
        obtain ⟨⟨dq, osq⟩, hw''⟩ := hw'
        subst hw''
        have b5 := below_regrown wr dq osq
        generalize hW : Sort.grow (redrawn wr dq) osq = wz at b5 ⊢
        have HXz : Hid (Below w.heap.size w wz ∧ wz.heap[fb]? = some (.cells #[.int .i64 x.b, .int .i64 x.w] 42 (0, 0)) ∧ True) := ⟨HX.out.1.trans (b5.mono HX.out.1.size), (b5.block fb (lt_of_block HX.out.2.1)).trans HX.out.2.1, trivial⟩
        clear k0 c0 c1 f0 f1 b5 hW HX HI HBf
        obtain ⟨wr, rfl⟩ : ∃ wr, wr = wz := ⟨_, rfl⟩
        have HX := HXz
        clear HXz
        have hmk : (Instr.makeSlice 27 (.int .i64 0) (.int .i64 ((n : Int) + 1))).run Tryd.prog wr.drew = .ok (.slice (some ⟨wr.heap.size, 0, none⟩) 0 N1) ((wr.alloc (freeObj N1)).drew) := by
          rw [show (n : Int) + 1 = (N1 : Int) from by have := HN1.out; omega]
          exact madeF wr.drew N1 (by omega)
        have b3 : Below wr.heap.size wr ((wr.alloc (freeObj N1)).drew) := ((Below.refl wr.heap.size wr).alloc (Nat.le_refl _) _).drew
        have hap := app_items (W := (wr.alloc (freeObj N1)).drew) (base := wr.heap.size) (h := wr.heap.size) (n := 0) (cap := N1) (xs := []) (madeF_own wr N1 (by omega)) b3.size (R := R.take i) (m := i) (c := c) (a := some ⟨g, o, none⟩) (by rw [List.length_take, ← HQ.out.2.1]; omega) ((src_take (HQ.out.1.below HX.out.1).row i).same fun p hp => by
          obtain ⟨g', o', rfl, _, h2, _⟩ := (HQ.out.1.below HX.out.1).row.2 p hp
          exact b3.block g' h2) (by omega) 27
        rw [Nat.zero_add, List.nil_append] at hap
        obtain ⟨g1, cap1, w4, hr1, hown1, hg1, hor1⟩ := hap
        have HBW : Hid (Below wr.heap.size wr w4) := b3.grown hg1 b3.size fun k hk => by cases hk; exact Nat.le_refl _
        have HB1 : Hid (wr.heap.size ≤ w4.heap.size) := HBW.out.size
        have HGE : Hid (wr.heap.size ≤ g1 ∧ fb ≠ g1) := by
          have hfb := lt_of_block HX.out.2.1
          rcases hor1 with h | h
          · rw [h]; exact ⟨Nat.le_refl _, by omega⟩
          · have := b3.size; rw [h]; exact ⟨this, by omega⟩
        have k3 := HK.out _ (HX.out.1.trans (b3.mono HX.out.1.size))
        have k4 := HK.out w4 (HX.out.1.trans (HBW.out.mono HX.out.1.size))
        have y1 : i ≤ c := by omega
        have y2 : (i : Int) ≤ (c : Int) := by omega
        have y3 : (i : Int) ≤ (n : Int) := by omega
        have q4 : (n : Int) ≤ (c : Int) := by omega
        have q6 : i ≤ n := by omega
        have eN : IntKind.i64.wrap ((n : Int) + 1) = (n : Int) + 1 := IntWalk.i64_in _ (by omega)
        have J4 : w4.heap[fb]? = _ := (HBW.out.block fb (lt_of_block HX.out.2.1)).trans HX.out.2.1
        obtain ⟨f0, f1, _⟩ := it_cells J4
        have HR1 := Lib.hid hr1
        have kd : wr.drew.cell? ⟨xb, 0, none⟩ = some (.slice (some ⟨g, o, none⟩) n c) := HK.out wr.drew HX.out.1.drew
        clear hr1 b3 hg1 hor1
        go_upto_region 9 with (fail)
        go_region_held3 (fun w' => w'.cell? ⟨xb, 0, none⟩ = some (.slice (some ⟨g, o, none⟩) n c))
          (first | go_keep | exact k4)
          (refine step_app_run (by rfl) _ _ _ (by rfl) _ _ _ (by rfl) (by rfl) _ HR1.out ?_)
        clear hmk kd k3 k4 eN
        rename_i hheld
        clear hheld
        have b5 : Below wr.heap.size wr (w4.alloc (.cells #[.int .i64 x.b, .int .i64 x.w] 42 (0, 0))) := HBW.out.alloc HBW.out.size _
        have hown1' : (w4.alloc (.cells #[.int .i64 x.b, .int .i64 x.w] 42 (0, 0))).ownsRow wr.heap.size 42 2 (.slice (some ⟨g1, 0, none⟩) i cap1) i (icells (R.take i)) := World.ownsRow.alloc hown1 _
        have hap2 := app_items hown1' b5.size (R := [x]) (m := 1) (c := 1) (a := some ⟨w4.heap.size, 0, none⟩) rfl ⟨(fun e => (nomatch e)), fun p hp => by
          cases hp
          refine ⟨_, 0, rfl, fun k hk => ?_⟩
          obtain rfl : k = 0 := by simpa using hk
          obtain ⟨z0, z1, _⟩ := it_cells (heap_alloc_new w4 (.cells #[.int .i64 x.b, .int .i64 x.w] 42 (0, 0)))
          exact ⟨z0, z1⟩⟩ (by omega) 27
        obtain ⟨g2, cap2, w6, hr2, hown2, hg2, hor2⟩ := hap2
        have HR2 := Lib.hid hr2
        have HBW2 : Hid (Below wr.heap.size wr w6) := b5.grown hg2 b5.size fun k hk => by cases hk; exact HGE.out.1
        have HB2 : Hid (wr.heap.size ≤ w6.heap.size) := HBW2.out.size
        have HGE2 : Hid (wr.heap.size ≤ g2) := by
          rcases hor2 with h | h
          · rw [h]; exact HGE.out.1
          · rw [h]; exact b5.size
        clear hown1 hown1' hr2 hg2 hor2 b5 J4
        go_upto_region 11 with (at_builtin; refine list_app_run rfl _ _ _ rfl _ _ _ rfl rfl _ HR2.out ?_)
        clear f0 f1
        have hcne : ¬ (c = i) := by omega
        have q8 : ¬ ((c : Int) = (i : Int)) := by omega
        have hsrc : SrcP w6 (some ⟨g, o + i * 2, none⟩) (R.drop i) := (src_drop HQ.out.1.row i).same fun p hp => by cases hp; obtain ⟨g1, o1, e, _, h2, _⟩ := HQ.out.1.row.2 _ rfl; cases e; exact (HX.out.1.trans (HBW2.out.mono HX.out.1.size)).block g h2
        have hap3 := app_items hown2 HB2.out (R := R.drop i) (m := n - i) (c := c - i) (a := some ⟨g, o + i * 2, none⟩) (by rw [List.length_drop, ← HQ.out.2.1]) hsrc (by omega) 27
        obtain ⟨g3, cap3, w7, hr3, hown3, hg3, hor3⟩ := hap3
        have HR3 := Lib.hid hr3
        have bb : Below wr.heap.size wr w7 := HBW2.out.grown hg3 HB2.out fun k hk => by cases hk; exact HGE2.out
        have HF : Hid (RAdd w base xb (some ⟨g, o, none⟩) R x (.returned (.int .i64 0)) (w7.setCell ⟨xb, 0, none⟩ (.slice (some ⟨g3, 0, none⟩) (i + 1 + (n - i)) cap3))) := by
          have h3 := hown3
          rw [← icells_append, ← icells_append, List.append_assoc] at h3
          have h := ref_new (w := wr) (W := wr) (W2 := wr) (r := .int .i64 0) (HQ.out.1.below HX.out.1) bb h3 (by simp; rw [← HQ.out.2.1]; omega)
          exact ⟨i, HIN.out, ROut.pre HX.out.1 h⟩
        have k6 : w6.cell? ⟨xb, 0, none⟩ = some (.slice (some ⟨g, o, none⟩) n c) := HK.out w6 (HX.out.1.trans (HBW2.out.mono HX.out.1.size))
        have k7 : w7.cell? ⟨xb, 0, none⟩ = some (.slice (some ⟨g, o, none⟩) n c) := HK.out w7 (HX.out.1.trans (bb.mono HX.out.1.size))
        have f7 : w7.frozen? ⟨xb, 0, none⟩ = false := HFz.out w7 (HX.out.1.trans (bb.mono HX.out.1.size))
        clear hown2 hown3 hg3 hor3 hr3 bb hsrc
        go_wp2_with (at_builtin; refine list_app_run rfl _ _ _ rfl _ _ _ rfl rfl _ HR3.out ?_)
        go_ret
        exact HF.out
      · have HI := Lib.hid (HBf.out y true hr)
        have HN : Hid (∀ j, j < i + 1 → itLt (R[j]!) x = true) := fun j hj => by
          by_cases e : j = i
          · rw [e, ← HY.out]; exact hr
          · exact HX.out.2.2 j (by omega)
        clear hr
        go_upto_region 7 with (fail)
        replace k0 := cell_regrown k0
        replace c0 := cell_regrown c0
        replace c1 := cell_regrown c1
        replace f0 := cell_regrown f0
        replace f1 := cell_regrown f1
        refine wp_region_quiet_below (by kernel_rfl) (by kernel_rfl) ?_
        repeat (go_big_quiet_step (first | (go_at_call 26; with_reducible exact HI.out _ _)))
        refine wpQuiet_nil ?_
        intro _ hw'
        obtain ⟨⟨dq, osq⟩, hw''⟩ := hw'
        subst hw''
        have b5 := below_regrown wr dq osq
        generalize Sort.grow (redrawn wr dq) osq = wz at b5 ⊢
        have HN2 : Hid (Below w.heap.size w wz ∧ wz.heap[fb]? = some (.cells #[.int .i64 x.b, .int .i64 x.w] 42 (0, 0)) ∧ ∀ j, j < i + 1 → itLt (R[j]!) x = true) := ⟨HX.out.1.trans (b5.mono HX.out.1.size), (b5.block fb (lt_of_block HX.out.2.1)).trans HX.out.2.1, HN.out⟩
        clear b5
        go_wp2_with fail
        go_roundg (n - (i + 1))
        case measure => have := HG.out; have := HL.out; omega
        case rel => exact ⟨i + 1, rfl, HL.out, by go_num, HN2⟩
    · have HNI : Hid (n = i) := by show n = i; omega
      have d9 : decide ((i : Int) < (n : Int)) = false := decide_eq_false (by omega)
      have d9' : decide (i < n) = false := decide_eq_false hlt
      have HIN : Hid (insAt R x i) := ⟨by rw [← HQ.out.2.1]; exact hin, HX.out.2.2, fun h => absurd h (by rw [← HQ.out.2.1]; omega)⟩
      go_upto_region 7 with (fail)
      replace k0 := cell_regrown k0
      refine wp_region_quiet_below (by kernel_rfl) (by kernel_rfl) ?_
      repeat (go_big_quiet_step (fail))
      refine wpQuiet_nil ?_
      intro _ hw'
      obtain ⟨⟨dq, osq⟩, hw''⟩ := hw'
      subst hw''
      have b5 := below_regrown wr dq osq
      generalize hW : Sort.grow (redrawn wr dq) osq = wz at b5 ⊢
      have HXz : Hid (Below w.heap.size w wz ∧ wz.heap[fb]? = some (.cells #[.int .i64 x.b, .int .i64 x.w] 42 (0, 0)) ∧ True) := ⟨HX.out.1.trans (b5.mono HX.out.1.size), (b5.block fb (lt_of_block HX.out.2.1)).trans HX.out.2.1, trivial⟩
      clear k0 f0 f1 b5 hW HX HBf hlt d9 d9'
      obtain ⟨wr, rfl⟩ : ∃ wr, wr = wz := ⟨_, rfl⟩
      have HX := HXz
      clear HXz
      have hdrop : R.drop i = [] := List.drop_eq_nil_of_le (by rw [← HQ.out.2.1, HNI.out]; exact Nat.le_refl _)
      have HDR := Lib.hid hdrop
      clear hdrop
      cases a with
      | none =>
        have hc0 := HNIL.out rfl
        have HC0 := Lib.hid hc0
        have q8 : (c : Int) = (i : Int) := by omega
        clear hc0
        have hmk : (Instr.makeSlice 27 (.int .i64 0) (.int .i64 ((n : Int) + 1))).run Tryd.prog wr.drew = .ok (.slice (some ⟨wr.heap.size, 0, none⟩) 0 N1) ((wr.alloc (freeObj N1)).drew) := by
          rw [show (n : Int) + 1 = (N1 : Int) from by have := HN1.out; omega]
          exact madeF wr.drew N1 (by omega)
        have b3 : Below wr.heap.size wr ((wr.alloc (freeObj N1)).drew) := ((Below.refl wr.heap.size wr).alloc (Nat.le_refl _) _).drew
        have hap := app_items (W := (wr.alloc (freeObj N1)).drew) (base := wr.heap.size) (h := wr.heap.size) (n := 0) (cap := N1) (xs := []) (madeF_own wr N1 (by omega)) b3.size (R := R.take i) (m := i) (c := c) (a := none) (by rw [List.length_take, ← HQ.out.2.1]; omega) ((src_take (HQ.out.1.below HX.out.1).row i).same fun p hp => by
          obtain ⟨g', o', rfl, _, h2, _⟩ := (HQ.out.1.below HX.out.1).row.2 p hp
          exact b3.block g' h2) (by omega) 27
        rw [Nat.zero_add, List.nil_append] at hap
        obtain ⟨g1, cap1, w4, hr1, hown1, hg1, hor1⟩ := hap
        have HBW : Hid (Below wr.heap.size wr w4) := b3.grown hg1 b3.size fun k hk => by cases hk; exact Nat.le_refl _
        have HB1 : Hid (wr.heap.size ≤ w4.heap.size) := HBW.out.size
        have HGE : Hid (wr.heap.size ≤ g1 ∧ fb ≠ g1) := by
          have hfb := lt_of_block HX.out.2.1
          rcases hor1 with h | h
          · rw [h]; exact ⟨Nat.le_refl _, by omega⟩
          · have := b3.size; rw [h]; exact ⟨this, by omega⟩
        have k3 := HK.out _ (HX.out.1.trans (b3.mono HX.out.1.size))
        have k4 := HK.out w4 (HX.out.1.trans (HBW.out.mono HX.out.1.size))
        have y1 : i ≤ c := by omega
        have y2 : (i : Int) ≤ (c : Int) := by omega
        have y3 : (i : Int) ≤ (n : Int) := by omega
        have q4 : (n : Int) ≤ (c : Int) := by omega
        have q6 : i ≤ n := by omega
        have eN : IntKind.i64.wrap ((n : Int) + 1) = (n : Int) + 1 := IntWalk.i64_in _ (by omega)
        have J4 : w4.heap[fb]? = _ := (HBW.out.block fb (lt_of_block HX.out.2.1)).trans HX.out.2.1
        obtain ⟨f0, f1, _⟩ := it_cells J4
        have HR1 := Lib.hid hr1
        have kd : wr.drew.cell? ⟨xb, 0, none⟩ = some (.slice (none) n c) := HK.out wr.drew HX.out.1.drew
        clear hr1 b3 hg1 hor1
        go_upto_region 9 with (fail)
        go_region_held3 (fun w' => w'.cell? ⟨xb, 0, none⟩ = some (.slice (none) n c))
          (first | go_keep | exact k4)
          (refine step_app_run (by rfl) _ _ _ (by rfl) _ _ _ (by rfl) (by rfl) _ HR1.out ?_)
        clear hmk kd k3 k4 eN
        rename_i hheld
        clear hheld
        have b5 : Below wr.heap.size wr (w4.alloc (.cells #[.int .i64 x.b, .int .i64 x.w] 42 (0, 0))) := HBW.out.alloc HBW.out.size _
        have hown1' : (w4.alloc (.cells #[.int .i64 x.b, .int .i64 x.w] 42 (0, 0))).ownsRow wr.heap.size 42 2 (.slice (some ⟨g1, 0, none⟩) i cap1) i (icells (R.take i)) := World.ownsRow.alloc hown1 _
        have hap2 := app_items hown1' b5.size (R := [x]) (m := 1) (c := 1) (a := some ⟨w4.heap.size, 0, none⟩) rfl ⟨(fun e => (nomatch e)), fun p hp => by
          cases hp
          refine ⟨_, 0, rfl, fun k hk => ?_⟩
          obtain rfl : k = 0 := by simpa using hk
          obtain ⟨z0, z1, _⟩ := it_cells (heap_alloc_new w4 (.cells #[.int .i64 x.b, .int .i64 x.w] 42 (0, 0)))
          exact ⟨z0, z1⟩⟩ (by omega) 27
        obtain ⟨g2, cap2, w6, hr2, hown2, hg2, hor2⟩ := hap2
        have HR2 := Lib.hid hr2
        have HBW2 : Hid (Below wr.heap.size wr w6) := b5.grown hg2 b5.size fun k hk => by cases hk; exact HGE.out.1
        have HB2 : Hid (wr.heap.size ≤ w6.heap.size) := HBW2.out.size
        have HGE2 : Hid (wr.heap.size ≤ g2) := by
          rcases hor2 with h | h
          · rw [h]; exact HGE.out.1
          · rw [h]; exact b5.size
        clear hown1 hown1' hr2 hg2 hor2 b5 J4
        go_upto_region 11 with (at_builtin; refine list_app_run rfl _ _ _ rfl _ _ _ rfl rfl _ HR2.out ?_)
        clear f0 f1
        have hsrc : SrcP w6 (none) (R.drop i) := by rw [HDR.out]; exact src_none fun p hp => by cases hp
        have hap3 := app_items hown2 HB2.out (R := R.drop i) (m := n - i) (c := c - i) (a := none) (by rw [List.length_drop, ← HQ.out.2.1]) hsrc (by omega) 27
        obtain ⟨g3, cap3, w7, hr3, hown3, hg3, hor3⟩ := hap3
        have HR3 := Lib.hid hr3
        have bb : Below wr.heap.size wr w7 := HBW2.out.grown hg3 HB2.out fun k hk => by cases hk; exact HGE2.out
        have HF : Hid (RAdd w base xb (none) R x (.returned (.int .i64 0)) (w7.setCell ⟨xb, 0, none⟩ (.slice (some ⟨g3, 0, none⟩) (i + 1 + (n - i)) cap3))) := by
          have h3 := hown3
          rw [← icells_append, ← icells_append, List.append_assoc] at h3
          have h := ref_new (w := wr) (W := wr) (W2 := wr) (r := .int .i64 0) (HQ.out.1.below HX.out.1) bb h3 (by simp; rw [← HQ.out.2.1]; omega)
          exact ⟨i, HIN.out, ROut.pre HX.out.1 h⟩
        have k6 : w6.cell? ⟨xb, 0, none⟩ = some (.slice (none) n c) := HK.out w6 (HX.out.1.trans (HBW2.out.mono HX.out.1.size))
        have k7 : w7.cell? ⟨xb, 0, none⟩ = some (.slice (none) n c) := HK.out w7 (HX.out.1.trans (bb.mono HX.out.1.size))
        have f7 : w7.frozen? ⟨xb, 0, none⟩ = false := HFz.out w7 (HX.out.1.trans (bb.mono HX.out.1.size))
        clear hown2 hown3 hg3 hor3 hr3 bb hsrc
        go_wp2_with (at_builtin; refine list_app_run rfl _ _ _ rfl _ _ _ rfl rfl _ HR3.out ?_)
        go_ret
        exact HF.out
      | some p =>
        obtain ⟨g, o, rfl, _⟩ := HQ.out.1.row.2 p rfl
        by_cases hcj : c = i
        · have q8 : (c : Int) = (i : Int) := by omega
          have HCJ := Lib.hid hcj
          clear hcj
          have hmk : (Instr.makeSlice 27 (.int .i64 0) (.int .i64 ((n : Int) + 1))).run Tryd.prog wr.drew = .ok (.slice (some ⟨wr.heap.size, 0, none⟩) 0 N1) ((wr.alloc (freeObj N1)).drew) := by
            rw [show (n : Int) + 1 = (N1 : Int) from by have := HN1.out; omega]
            exact madeF wr.drew N1 (by omega)
          have b3 : Below wr.heap.size wr ((wr.alloc (freeObj N1)).drew) := ((Below.refl wr.heap.size wr).alloc (Nat.le_refl _) _).drew
          have hap := app_items (W := (wr.alloc (freeObj N1)).drew) (base := wr.heap.size) (h := wr.heap.size) (n := 0) (cap := N1) (xs := []) (madeF_own wr N1 (by omega)) b3.size (R := R.take i) (m := i) (c := c) (a := some ⟨g, o, none⟩) (by rw [List.length_take, ← HQ.out.2.1]; omega) ((src_take (HQ.out.1.below HX.out.1).row i).same fun p hp => by
            obtain ⟨g', o', rfl, _, h2, _⟩ := (HQ.out.1.below HX.out.1).row.2 p hp
            exact b3.block g' h2) (by omega) 27
          rw [Nat.zero_add, List.nil_append] at hap
          obtain ⟨g1, cap1, w4, hr1, hown1, hg1, hor1⟩ := hap
          have HBW : Hid (Below wr.heap.size wr w4) := b3.grown hg1 b3.size fun k hk => by cases hk; exact Nat.le_refl _
          have HB1 : Hid (wr.heap.size ≤ w4.heap.size) := HBW.out.size
          have HGE : Hid (wr.heap.size ≤ g1 ∧ fb ≠ g1) := by
            have hfb := lt_of_block HX.out.2.1
            rcases hor1 with h | h
            · rw [h]; exact ⟨Nat.le_refl _, by omega⟩
            · have := b3.size; rw [h]; exact ⟨this, by omega⟩
          have k3 := HK.out _ (HX.out.1.trans (b3.mono HX.out.1.size))
          have k4 := HK.out w4 (HX.out.1.trans (HBW.out.mono HX.out.1.size))
          have y1 : i ≤ c := by omega
          have y2 : (i : Int) ≤ (c : Int) := by omega
          have y3 : (i : Int) ≤ (n : Int) := by omega
          have q4 : (n : Int) ≤ (c : Int) := by omega
          have q6 : i ≤ n := by omega
          have eN : IntKind.i64.wrap ((n : Int) + 1) = (n : Int) + 1 := IntWalk.i64_in _ (by omega)
          have J4 : w4.heap[fb]? = _ := (HBW.out.block fb (lt_of_block HX.out.2.1)).trans HX.out.2.1
          obtain ⟨f0, f1, _⟩ := it_cells J4
          have HR1 := Lib.hid hr1
          have kd : wr.drew.cell? ⟨xb, 0, none⟩ = some (.slice (some ⟨g, o, none⟩) n c) := HK.out wr.drew HX.out.1.drew
          clear hr1 b3 hg1 hor1
          go_upto_region 9 with (fail)
          go_region_held3 (fun w' => w'.cell? ⟨xb, 0, none⟩ = some (.slice (some ⟨g, o, none⟩) n c))
            (first | go_keep | exact k4)
            (refine step_app_run (by rfl) _ _ _ (by rfl) _ _ _ (by rfl) (by rfl) _ HR1.out ?_)
          clear hmk kd k3 k4 eN
          rename_i hheld
          clear hheld
          have b5 : Below wr.heap.size wr (w4.alloc (.cells #[.int .i64 x.b, .int .i64 x.w] 42 (0, 0))) := HBW.out.alloc HBW.out.size _
          have hown1' : (w4.alloc (.cells #[.int .i64 x.b, .int .i64 x.w] 42 (0, 0))).ownsRow wr.heap.size 42 2 (.slice (some ⟨g1, 0, none⟩) i cap1) i (icells (R.take i)) := World.ownsRow.alloc hown1 _
          have hap2 := app_items hown1' b5.size (R := [x]) (m := 1) (c := 1) (a := some ⟨w4.heap.size, 0, none⟩) rfl ⟨(fun e => (nomatch e)), fun p hp => by
            cases hp
            refine ⟨_, 0, rfl, fun k hk => ?_⟩
            obtain rfl : k = 0 := by simpa using hk
            obtain ⟨z0, z1, _⟩ := it_cells (heap_alloc_new w4 (.cells #[.int .i64 x.b, .int .i64 x.w] 42 (0, 0)))
            exact ⟨z0, z1⟩⟩ (by omega) 27
          obtain ⟨g2, cap2, w6, hr2, hown2, hg2, hor2⟩ := hap2
          have HR2 := Lib.hid hr2
          have HBW2 : Hid (Below wr.heap.size wr w6) := b5.grown hg2 b5.size fun k hk => by cases hk; exact HGE.out.1
          have HB2 : Hid (wr.heap.size ≤ w6.heap.size) := HBW2.out.size
          have HGE2 : Hid (wr.heap.size ≤ g2) := by
            rcases hor2 with h | h
            · rw [h]; exact HGE.out.1
            · rw [h]; exact b5.size
          clear hown1 hown1' hr2 hg2 hor2 b5 J4
          go_upto_region 11 with (at_builtin; refine list_app_run rfl _ _ _ rfl _ _ _ rfl rfl _ HR2.out ?_)
          clear f0 f1
          have hsrc : SrcP w6 (some ⟨g, o, none⟩) (R.drop i) := by rw [HDR.out]; exact src_none fun p hp => by cases hp; exact ⟨_, _, rfl⟩
          have hap3 := app_items hown2 HB2.out (R := R.drop i) (m := n - i) (c := c - i) (a := some ⟨g, o, none⟩) (by rw [List.length_drop, ← HQ.out.2.1]) hsrc (by omega) 27
          obtain ⟨g3, cap3, w7, hr3, hown3, hg3, hor3⟩ := hap3
          have HR3 := Lib.hid hr3
          have bb : Below wr.heap.size wr w7 := HBW2.out.grown hg3 HB2.out fun k hk => by cases hk; exact HGE2.out
          have HF : Hid (RAdd w base xb (some ⟨g, o, none⟩) R x (.returned (.int .i64 0)) (w7.setCell ⟨xb, 0, none⟩ (.slice (some ⟨g3, 0, none⟩) (i + 1 + (n - i)) cap3))) := by
            have h3 := hown3
            rw [← icells_append, ← icells_append, List.append_assoc] at h3
            have h := ref_new (w := wr) (W := wr) (W2 := wr) (r := .int .i64 0) (HQ.out.1.below HX.out.1) bb h3 (by simp; rw [← HQ.out.2.1]; omega)
            exact ⟨i, HIN.out, ROut.pre HX.out.1 h⟩
          have k6 : w6.cell? ⟨xb, 0, none⟩ = some (.slice (some ⟨g, o, none⟩) n c) := HK.out w6 (HX.out.1.trans (HBW2.out.mono HX.out.1.size))
          have k7 : w7.cell? ⟨xb, 0, none⟩ = some (.slice (some ⟨g, o, none⟩) n c) := HK.out w7 (HX.out.1.trans (bb.mono HX.out.1.size))
          have f7 : w7.frozen? ⟨xb, 0, none⟩ = false := HFz.out w7 (HX.out.1.trans (bb.mono HX.out.1.size))
          clear hown2 hown3 hg3 hor3 hr3 bb hsrc
          go_wp2_with (at_builtin; refine list_app_run rfl _ _ _ rfl _ _ _ rfl rfl _ HR3.out ?_)
          go_ret
          exact HF.out
        · have q8 : ¬ ((c : Int) = (i : Int)) := by omega
          have q9 : ¬ (c = i) := hcj
          have hmk : (Instr.makeSlice 27 (.int .i64 0) (.int .i64 ((n : Int) + 1))).run Tryd.prog wr.drew = .ok (.slice (some ⟨wr.heap.size, 0, none⟩) 0 N1) ((wr.alloc (freeObj N1)).drew) := by
            rw [show (n : Int) + 1 = (N1 : Int) from by have := HN1.out; omega]
            exact madeF wr.drew N1 (by omega)
          have b3 : Below wr.heap.size wr ((wr.alloc (freeObj N1)).drew) := ((Below.refl wr.heap.size wr).alloc (Nat.le_refl _) _).drew
          have hap := app_items (W := (wr.alloc (freeObj N1)).drew) (base := wr.heap.size) (h := wr.heap.size) (n := 0) (cap := N1) (xs := []) (madeF_own wr N1 (by omega)) b3.size (R := R.take i) (m := i) (c := c) (a := some ⟨g, o, none⟩) (by rw [List.length_take, ← HQ.out.2.1]; omega) ((src_take (HQ.out.1.below HX.out.1).row i).same fun p hp => by
            obtain ⟨g', o', rfl, _, h2, _⟩ := (HQ.out.1.below HX.out.1).row.2 p hp
            exact b3.block g' h2) (by omega) 27
          rw [Nat.zero_add, List.nil_append] at hap
          obtain ⟨g1, cap1, w4, hr1, hown1, hg1, hor1⟩ := hap
          have HBW : Hid (Below wr.heap.size wr w4) := b3.grown hg1 b3.size fun k hk => by cases hk; exact Nat.le_refl _
          have HB1 : Hid (wr.heap.size ≤ w4.heap.size) := HBW.out.size
          have HGE : Hid (wr.heap.size ≤ g1 ∧ fb ≠ g1) := by
            have hfb := lt_of_block HX.out.2.1
            rcases hor1 with h | h
            · rw [h]; exact ⟨Nat.le_refl _, by omega⟩
            · have := b3.size; rw [h]; exact ⟨this, by omega⟩
          have k3 := HK.out _ (HX.out.1.trans (b3.mono HX.out.1.size))
          have k4 := HK.out w4 (HX.out.1.trans (HBW.out.mono HX.out.1.size))
          have y1 : i ≤ c := by omega
          have y2 : (i : Int) ≤ (c : Int) := by omega
          have y3 : (i : Int) ≤ (n : Int) := by omega
          have q4 : (n : Int) ≤ (c : Int) := by omega
          have q6 : i ≤ n := by omega
          have eN : IntKind.i64.wrap ((n : Int) + 1) = (n : Int) + 1 := IntWalk.i64_in _ (by omega)
          have J4 : w4.heap[fb]? = _ := (HBW.out.block fb (lt_of_block HX.out.2.1)).trans HX.out.2.1
          obtain ⟨f0, f1, _⟩ := it_cells J4
          have HR1 := Lib.hid hr1
          have kd : wr.drew.cell? ⟨xb, 0, none⟩ = some (.slice (some ⟨g, o, none⟩) n c) := HK.out wr.drew HX.out.1.drew
          clear hr1 b3 hg1 hor1
          go_upto_region 9 with (fail)
          go_region_held3 (fun w' => w'.cell? ⟨xb, 0, none⟩ = some (.slice (some ⟨g, o, none⟩) n c))
            (first | go_keep | exact k4)
            (refine step_app_run (by rfl) _ _ _ (by rfl) _ _ _ (by rfl) (by rfl) _ HR1.out ?_)
          clear hmk kd k3 k4 eN
          rename_i hheld
          clear hheld
          have b5 : Below wr.heap.size wr (w4.alloc (.cells #[.int .i64 x.b, .int .i64 x.w] 42 (0, 0))) := HBW.out.alloc HBW.out.size _
          have hown1' : (w4.alloc (.cells #[.int .i64 x.b, .int .i64 x.w] 42 (0, 0))).ownsRow wr.heap.size 42 2 (.slice (some ⟨g1, 0, none⟩) i cap1) i (icells (R.take i)) := World.ownsRow.alloc hown1 _
          have hap2 := app_items hown1' b5.size (R := [x]) (m := 1) (c := 1) (a := some ⟨w4.heap.size, 0, none⟩) rfl ⟨(fun e => (nomatch e)), fun p hp => by
            cases hp
            refine ⟨_, 0, rfl, fun k hk => ?_⟩
            obtain rfl : k = 0 := by simpa using hk
            obtain ⟨z0, z1, _⟩ := it_cells (heap_alloc_new w4 (.cells #[.int .i64 x.b, .int .i64 x.w] 42 (0, 0)))
            exact ⟨z0, z1⟩⟩ (by omega) 27
          obtain ⟨g2, cap2, w6, hr2, hown2, hg2, hor2⟩ := hap2
          have HR2 := Lib.hid hr2
          have HBW2 : Hid (Below wr.heap.size wr w6) := b5.grown hg2 b5.size fun k hk => by cases hk; exact HGE.out.1
          have HB2 : Hid (wr.heap.size ≤ w6.heap.size) := HBW2.out.size
          have HGE2 : Hid (wr.heap.size ≤ g2) := by
            rcases hor2 with h | h
            · rw [h]; exact HGE.out.1
            · rw [h]; exact b5.size
          clear hown1 hown1' hr2 hg2 hor2 b5 J4
          go_upto_region 11 with (at_builtin; refine list_app_run rfl _ _ _ rfl _ _ _ rfl rfl _ HR2.out ?_)
          clear f0 f1
          have hsrc : SrcP w6 (some ⟨g, o + i * 2, none⟩) (R.drop i) := by rw [HDR.out]; exact src_none fun p hp => by cases hp; exact ⟨_, _, rfl⟩
          have hap3 := app_items hown2 HB2.out (R := R.drop i) (m := n - i) (c := c - i) (a := some ⟨g, o + i * 2, none⟩) (by rw [List.length_drop, ← HQ.out.2.1]) hsrc (by omega) 27
          obtain ⟨g3, cap3, w7, hr3, hown3, hg3, hor3⟩ := hap3
          have HR3 := Lib.hid hr3
          have bb : Below wr.heap.size wr w7 := HBW2.out.grown hg3 HB2.out fun k hk => by cases hk; exact HGE2.out
          have HF : Hid (RAdd w base xb (some ⟨g, o, none⟩) R x (.returned (.int .i64 0)) (w7.setCell ⟨xb, 0, none⟩ (.slice (some ⟨g3, 0, none⟩) (i + 1 + (n - i)) cap3))) := by
            have h3 := hown3
            rw [← icells_append, ← icells_append, List.append_assoc] at h3
            have h := ref_new (w := wr) (W := wr) (W2 := wr) (r := .int .i64 0) (HQ.out.1.below HX.out.1) bb h3 (by simp; rw [← HQ.out.2.1]; omega)
            exact ⟨i, HIN.out, ROut.pre HX.out.1 h⟩
          have k6 : w6.cell? ⟨xb, 0, none⟩ = some (.slice (some ⟨g, o, none⟩) n c) := HK.out w6 (HX.out.1.trans (HBW2.out.mono HX.out.1.size))
          have k7 : w7.cell? ⟨xb, 0, none⟩ = some (.slice (some ⟨g, o, none⟩) n c) := HK.out w7 (HX.out.1.trans (bb.mono HX.out.1.size))
          have f7 : w7.frozen? ⟨xb, 0, none⟩ = false := HFz.out w7 (HX.out.1.trans (bb.mono HX.out.1.size))
          clear hown2 hown3 hg3 hor3 hr3 bb hsrc
          go_wp2_with (at_builtin; refine list_app_run rfl _ _ _ rfl _ _ _ rfl rfl _ HR3.out ?_)
          go_ret
          exact HF.out
end
end Go.Proofs.YtaaegkjbmomjbaaDoor.Po
