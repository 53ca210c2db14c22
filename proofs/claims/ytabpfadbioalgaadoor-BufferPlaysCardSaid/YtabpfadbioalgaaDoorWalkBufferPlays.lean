/- The walk over BufferPlays. By the verifier of shale. -/
import Derived.Test.YtabpfadbioalgaaDoorWtPlay
import Derived.Test.YtabpfadbioalgaaDoorRowDo
import Derived.Test.YtabpfadbioalgaaDoorLaidBufferPlays
import Derived.Test.YtabpfadbioalgaaDoorSee
import Derived.Test.YtabpfadbioalgaaDoorMarks
import Derived.Test.YtabpfadbioalgaaDoorQuietRound
import Derived.Deep.Cut
import Derived.Deep.CutRange
import Derived.Deep.CutBlock
import Derived.LoopN
import Derived.RangeFuncCalls
namespace Go.Proofs.YtabpfadbioalgaaDoor.walkBufferPlays
open Go Go.RowKit Bin Wt
set_option linter.unusedVariables false
set_option linter.unusedSimpArgs false
attribute [local go_sem] Oper.semAt_some
theorem newI64 (w W : World) (x : Int) (h : w.alloc (.cells #[.int .i64 x] 3 (0, 0)) = W) : W.heap[w.heap.size]? = some (.cells #[.int .i64 x] 3 (0, 0)) ∧ Below w.heap.size w W := by
  subst h
  exact ⟨heap_alloc_new w _, (Below.refl _ _).alloc (Nat.le_refl _) _⟩
theorem newBool (w W : World) (x : Bool) (h : w.alloc (.cells #[.bool x] 4 (0, 0)) = W) : W.heap[w.heap.size]? = some (.cells #[.bool x] 4 (0, 0)) ∧ Below w.heap.size w W := by
  subst h
  exact ⟨heap_alloc_new w _, (Below.refl _ _).alloc (Nat.le_refl _) _⟩
theorem newPtr (w W : World) (p : Addr) (h : w.alloc (.cells #[.pointer (some p)] 29 (0, 0)) = W) : W.heap[w.heap.size]? = some (.cells #[.pointer (some p)] 29 (0, 0)) ∧ Below w.heap.size w W := by
  subst h
  exact ⟨heap_alloc_new w _, (Below.refl _ _).alloc (Nat.le_refl _) _⟩
theorem newRef (w W : World) (sz mo sc : Int) (h : w.alloc (.cells #[.int .i64 sz, .int .i64 mo, .int .i64 sc, .slice none 0 0] 32 (0, 0)) = W) : RefAt W w.heap.size w.heap.size sz mo sc (.slice none 0 0) [] ∧ Below w.heap.size w W := by
  subst h
  exact ⟨⟨Nat.le_refl _, heap_alloc_new w _, World.ownsRow_nil _ _ _ _, by simp [Value.ownBlock], fun e he => by cases he⟩, (Below.refl _ _).alloc (Nat.le_refl _) _⟩
theorem res_bool {fn : Func} (hr : fn.results = #[.cell 12 4]) {tmps : Array Value} {w : World} {g : Nat} {v : Bool} (hp : tmps.getD 12 undef = .pointer (some ⟨g, 0, none⟩)) (hc : w.cell? ⟨g, 0, none⟩ = some (.bool v)) : (results fn tmps).run Tryd.prog w = .ok (.bool v) w := by
  have hp' : tmps[12]?.getD undef = .pointer (some ⟨g, 0, none⟩) := by simpa using hp
  simp [results, hr, hp', asAddr, go_sem, hc]
theorem cell_set_rb {W : World} {g : Nat} {x y : Value} (h : W.cell? ⟨g, 0, none⟩ = some x) : (W.setCell ⟨g, 0, none⟩ y).cell? ⟨g, 0, none⟩ = some y := by
  exact World.cell?_setCell_same' W _ y (by rw [h]; rfl)
theorem regrown_start (w : World) : ∃ p : Regrown, w.drew = Sort.grow (redrawn w p.d) p.os := regrown_of_below ((Drawn.mk w 1).below _)
/-- a list of what a buffer is told, as the walk reads it. -/
def DoOK (W : World) (a : Option Addr) (D : Nat → DoV) (l : Nat → List (BitVec 8)) (i : Nat) : Prop := ∃ kb off, a = some ⟨kb, off, none⟩ ∧ W.cell? ⟨kb, off + i * 4, none⟩ = some (.int .i64 (D i).key) ∧ W.cell? ⟨kb, off + i * 4 + 1, none⟩ = some (.bool (D i).trim) ∧ W.cell? ⟨kb, off + i * 4 + 2, none⟩ = some (.slice (D i).a (D i).n (D i).c) ∧ W.cell? ⟨kb, off + i * 4 + 3, none⟩ = some (.bool (D i).clear) ∧ Pol W (D i).a (D i).n (D i).c (l i)
theorem doOK {w : World} {a : Option Addr} {n : Nat} {D : Nat → DoV} (R : RowDo w a n D) : ∃ l, ∀ W, Below w.heap.size w W → ∀ i, i < n → DoOK W a D l i := by
  have h : ∀ i, i < n → ∃ l, Pol w (D i).a (D i).n (D i).c l := fun i hi => by
    obtain ⟨kb, off, _, _, _, _, _, h, _⟩ := R i hi
    exact row_polP h
  refine ⟨fun i => if hi : i < n then (h i hi).choose else [], fun W b i hi => ?_⟩
  obtain ⟨kb, off, h1, h2, h3, h4, h5, h6, _⟩ := R i hi
  have hk := World.block_lt_of_cell? w _ h2
  refine ⟨kb, off, h1, (cell_heap (b.block kb hk)).trans h2, (cell_heap (b.block kb hk)).trans h3, (cell_heap (b.block kb hk)).trans h4, (cell_heap (b.block kb hk)).trans h5, ?_⟩
  simp only [dif_pos hi]
  exact (h i hi).choose_spec.below b
set_option maxRecDepth 100000 in
set_option maxHeartbeats 20000000 in
theorem core (x0 x1 x2 : Int) (a : Option Addr) (n c : Nat) (D : Nat → DoV) (x4 x5 : Int) (w : World) (f : Nat → Addr) (E : AllErrs w f) (R : RowDo w a n D) :
    Calls Tryd.prog 3 #[.int .i64 x0, .int .i64 x1, .int .i64 x2, .slice a n c, .int .i64 x4, .int .i64 x5] w fun e w' => e = .returned (.bool true) ∧ Below w.heap.size w w' := by
  obtain ⟨base, hbase⟩ : ∃ base, base = w.heap.size := ⟨_, rfl⟩
  have HBS := Lib.hid hbase
  have HE : Hid (∀ W, Below base w W → AllErrs W f) := fun W b => by rw [hbase] at b; exact E.below b
  obtain ⟨dl, hdl⟩ := doOK R
  rw [← hbase] at hdl
  have HR := Lib.hid hdl
  have B : Below base w w := Below.refl _ _
  rw [← hbase]
  clear E R hbase hdl
  refine (callsIn_wide (n := 3)).1 ?_
  refine callsIn_of_wp_marks Tryd.func3 rfl trivial ?_ rfl
  simp only [Tryd.ntmps3, List.size_toArray, List.length_cons, List.length_nil, Nat.reduceAdd, Nat.reduceSub, Array.replicate_succ, Array.replicate_zero, List.push_toArray, List.append_toArray, List.nil_append, List.cons_append]
  refine wpIn_wide.2 ?_
  go_wp2_with fail
  generalize hw : w.alloc (.cells #[.int .i64 x5] 3 (0, 0)) = w1
  obtain ⟨K1, b⟩ := newI64 w w1 _ hw
  have hs1 : w1.heap.size = w.heap.size + 1 := by rw [← hw]; simp
  clear hw
  replace B := belB HBS.out B b
  rw [← hs1]
  generalize hw : w1.alloc (.cells #[.bool false] 4 (0, 0)) = w2
  obtain ⟨K2, b⟩ := newBool w1 w2 _ hw
  clear hw
  obtain ⟨sb, hsb⟩ : ∃ sb, sb = w.heap.size := ⟨_, rfl⟩
  obtain ⟨rb, hrb⟩ : ∃ rb, rb = w1.heap.size := ⟨_, rfl⟩
  rw [← hsb] at K1 ⊢
  rw [← hrb] at K2 ⊢
  have HPR : Hid (sb ≠ rb ∧ base ≤ sb ∧ base ≤ rb) := by rw [hsb, hrb]; have := HBS.out; exact ⟨by omega, by omega, by omega⟩
  clear hsb hrb hs1
  replace K1 := (b.block _ (lt_of_block K1)).trans K1
  replace B := belB HBS.out B b
  clear b
  refine (first19_any w2 (HE.out _ B).1.2.2.2.2.2.2.2.2.2.2.2.2.2.1 (HE.out _ B).1.2.1 (HE.out _ B).1.2.2.2.2.2.2.2.2.2.2.2.2.2.2.2.1).mono ?_
  rintro e w3 ⟨rfl, b⟩
  replace K1 := (b.block _ (lt_of_block K1)).trans K1
  replace K2 := (b.block _ (lt_of_block K2)).trans K2
  replace B := belB HBS.out B b
  clear b
  by_cases hn : 100 < n
  · have t : decide ((100 : Int) < (n : Int)) = true := decide_eq_true (by omega)
    have g1 : w3.cell? ⟨rb, 0, none⟩ = some (.bool false) := cell_of_one K2
    have g2 := free_of_one K2
    have HB := Lib.hid B
    have HK2 := Lib.hid K2
    clear K1 K2 B HE HR hn
    go_wp2_with fail
    have g3 : (w3.setCell ⟨rb, 0, none⟩ (.bool true)).cell? ⟨rb, 0, none⟩ = some (.bool true) := cell_of_one (one_setCell HK2.out)
    exact ⟨_, res_bool rfl rfl g3, rfl, HB.out.setCell HPR.out.2.2 _⟩
  have t : decide ((100 : Int) < (n : Int)) = false := decide_eq_false (by omega)
  go_wp2_with fail
  by_cases hmay : may x0 x1 x2
  · obtain ⟨⟨m1, m2⟩, ⟨m3, m4⟩, ⟨m5, m6⟩⟩ := hmay
    have HMAY : Hid (may x0 x1 x2) := ⟨⟨m1, m2⟩, ⟨m3, m4⟩, ⟨m5, m6⟩⟩
    have t1 : decide (1 ≤ x0) = true := decide_eq_true m1
    have t2 : decide (x0 ≤ 1024) = true := decide_eq_true m2
    have t3 : decide (1 ≤ x1) = true := decide_eq_true m3
    have t4 : decide (x1 ≤ 64) = true := decide_eq_true m4
    have t5 : decide (1 ≤ x2) = true := decide_eq_true m5
    have t6 : decide (x2 ≤ 1073741824) = true := decide_eq_true m6
    have HEG := Lib.hid (HE.out _ B).1.2.2.2.2.2.2.2.1
    refine (new_yes x0 x1 x2 HMAY.out w3).mono ?_
    rintro e w4 ⟨rfl, P, b⟩
    have hsl := lt_of_block K1
    have hrl := lt_of_block K2
    replace K1 := (b.block _ (lt_of_block K1)).trans K1
    replace K2 := (b.block _ (lt_of_block K2)).trans K2
    replace B := belB HBS.out B b
    obtain ⟨bb, hbb⟩ : ∃ bb, bb = w3.heap.size := ⟨_, rfl⟩
    rw [← hbb] at P hsl hrl ⊢
    have HBB : Hid (base ≤ bb ∧ sb < bb ∧ rb < bb) := ⟨by have := HPR.out.2.1; omega, hsl, hrl⟩
    clear b hbb hsl hrl HEG m1 m2 m3 m4 m5 m6
    go_wp2_with fail
    generalize hw : w4.alloc (.cells #[.int .i64 x0, .int .i64 x1, .int .i64 x2, .slice none 0 0] 32 (0, 0)) = w5
    obtain ⟨PR, b5⟩ := newRef w4 w5 x0 x1 x2 hw
    have hs5 : w5.heap.size = w4.heap.size + 1 := by rw [← hw]; simp
    rw [← hs5]
    clear hw
    obtain ⟨xb, hxb⟩ : ∃ xb, xb = w4.heap.size := ⟨_, rfl⟩
    rw [← hxb] at PR ⊢
    generalize hw : w5.alloc (.cells #[.pointer (some ⟨xb, 0, none⟩)] 29 (0, 0)) = w6
    obtain ⟨KP, b6⟩ := newPtr w5 w6 _ hw
    clear hw
    obtain ⟨pb, hpb⟩ : ∃ pb, pb = w5.heap.size := ⟨_, rfl⟩
    rw [← hpb] at KP ⊢
    have hbx : bb < xb := by rw [hxb]; exact P.lt
    have hxp : xb < pb := by rw [hpb]; exact PR.lt
    have b56 := b5.trans (b6.mono b5.size)
    have HS : Hid (PlayS w base bb xb sb rb pb x0 x1 x2 x5 w6) := by
      obtain ⟨m1, m2, m3⟩ := HMAY.out
      refine ⟨.slice none 0 0, .slice none 0 0, [], [], ⟨hbx, P.below b56, PR.below b6, rfl, keyOK_nil _, by simp; omega, fun z hz => ?_, fun z hz => ?_, fun e he => by cases he⟩, fun hz => ?_, fun hz => ?_, (b56.block _ (lt_of_block K1)).trans K1, (b56.block _ (lt_of_block K2)).trans K2, KP, ⟨HPR.out.2.1, HPR.out.2.2, HBB.out.2.1, HBB.out.2.2, HPR.out.1, by omega⟩, belB HBS.out B b56⟩
      · rw [show allb bb (.slice none 0 0) [] = [bb] from rfl, List.mem_singleton] at hz
        rw [show blks xb (.slice none 0 0) = [xb] from rfl, List.mem_singleton]; omega
      · rw [show allb xb (.slice none 0 0) [] = [xb] from rfl, List.mem_singleton] at hz
        rw [show blks bb (.slice none 0 0) = [bb] from rfl, List.mem_singleton]; omega
      · rw [show allb bb (.slice none 0 0) [] = [bb] from rfl, List.mem_singleton] at hz; omega
      · rw [show allb xb (.slice none 0 0) [] = [xb] from rfl, List.mem_singleton] at hz; omega
    have hn1 : n ≤ 100 := by omega
    clear P PR K1 K2 KP B b5 b6 b56 hs5 hxb hpb hbx hxp t t1 t2 t3 t4 t5 t6 hn
    go_loopg [18] n (fun gh s18 wx => ∃ i : Nat, gh = n - i ∧ i ≤ n ∧ s18 = .int .i64 (i : Int) ∧ Hid (PlayS w base bb xb sb rb pb x0 x1 x2 x5 wx))
    case atStart => exact ⟨0, rfl, Nat.zero_le _, rfl, HS⟩
    case round =>
      clear HS
      obtain ⟨i, hg, hin, rfl, HX⟩ := hrel
      have HI := Lib.hid hg
      clear hg
      by_cases hlt : i < n
      · have y1 : (i : Int) < (n : Int) := by omega
        have y0 : (0 : Int) ≤ (i : Int) := by omega
        obtain ⟨v, u, L, M, hC⟩ := HX.out
        obtain ⟨kb, off, rfl, c0, c1, c2, c3, hP⟩ := HR.out wr hC.w i hlt
        have HC := Lib.hid (And.intro hC hP)
        have HPl : Hid (∀ W, Below base w W → Pol W (D i).a (D i).n (D i).c (dl i)) := fun W b => by
          obtain ⟨_, _, _, _, _, _, _, h⟩ := HR.out W b i hlt
          exact h
        clear hC hP HX
        generalize dl i = ll at HC HPl
        generalize D i = dv at c0 c1 c2 c3 HC HPl
        obtain ⟨key, tr, da, dn, dc, dz, cl⟩ := dv
        dsimp only at c0 c1 c2 c3 HC HPl
        have hkb := World.block_lt_of_cell? wr _ c0
        go_upto_region 15 with (fail)
        generalize hw : wr.alloc (.cells #[.int .i64 key, .bool tr, .slice da dn dc] 35 (0, 0)) = w7
        obtain ⟨e7, b7⟩ := newE wr w7 ⟨key, tr, da, dn, dc, []⟩ hw
        clear hw
        obtain ⟨db, hdb⟩ : ∃ db, db = wr.heap.size := ⟨_, rfl⟩
        rw [← hdb] at e7 ⊢
        have k3 := (cell_heap (b7.block kb hkb)).trans c3
        have H7 : Hid (PlayC w base bb xb sb rb pb x0 x1 x2 x5 v u L M w7 ∧ Pol w7 da dn dc ll ∧ w7.heap[db]? = some (.cells #[.int .i64 key, .bool tr, .slice da dn dc] 35 (0, 0)) ∧ db ∉ allb bb v L ∧ db ∉ allb xb u M ∧ bb < db ∧ db ≠ pb ∧ db < w7.heap.size) := by
          have h := HC.out.1
          have h1 := lt_of_block h.pB
          refine ⟨h.below HBS.out b7, HC.out.2.below b7, e7, fun hm => ?_, fun hm => ?_, ?_, by omega, lt_of_block e7⟩
          · have := (h.b.buf.allb_lt db hm).2; omega
          · have := (h.b.ref.allb_lt db hm).2; omega
          · have := h.b.buf.lt; omega
        obtain ⟨e0, e1, e2, _⟩ := ent3 e7
        clear c0 c1 c2 c3 hkb e7 b7 HC hdb
        by_cases hlong : 2000 < dn
        · have t : decide ((2000 : Int) < (dn : Int)) = true := decide_eq_true (by omega)
          have g1 : w7.cell? ⟨rb, 0, none⟩ = some (.bool false) := cell_of_one H7.out.1.rB
          have g2 := free_of_one H7.out.1.rB
          clear hlong k3
          go_wp2_with fail
          have g3 : (w7.setCell ⟨rb, 0, none⟩ (.bool true)).cell? ⟨rb, 0, none⟩ = some (.bool true) := cell_of_one (one_setCell H7.out.1.rB)
          exact ⟨_, res_bool rfl rfl g3, rfl, H7.out.1.w.setCell HPR.out.2.2 _⟩
        have hdn : dn ≤ 2000 := by omega
        have t : decide ((2000 : Int) < (dn : Int)) = false := decide_eq_false (by omega)
        go_upto_block 2 with (fail)
        go_cut [20, 21, 22, 23] from 91 to 234 (fun s20 s21 s22 s23 wx => ∃ F G, F = s20 ∧ s21 = .int .i64 G ∧ Hid (PlayS w base bb xb sb rb pb x0 x1 x2 x5 wx ∧ IsOK w base F G))
        case first =>
          have hLl : L.length ≤ 1000 := by have := H7.out.1.b.most; have := HMAY.out.2.1.2; omega
          have HML : Hid (M.length ≤ 1000 ∧ (M.map Ent.key).Nodup) := ⟨by rw [← H7.out.1.b.size]; exact hLl, by rw [← cores_keys H7.out.1.b.alike]; exact H7.out.1.b.keys.once⟩
          have HLl := Lib.hid hLl
          have HDN := Lib.hid hdn
          clear t hlong hLl hdn
          cases cl with
          | true =>
            have HN : Hid (PlayS w base bb xb sb rb pb x0 x1 x2 x5 ((w7.setCell ⟨bb, 3, none⟩ (.slice none 0 0)).setCell ⟨xb, 3, none⟩ (.slice none 0 0))) := ⟨_, _, _, _, H7.out.1.clear (by have := HMAY.out.2.1.1; omega)⟩
            have o1 := Only.setCell w7 ⟨bb, 3, none⟩ (.slice none 0 0)
            have hbx : xb ≠ bb := by have := H7.out.1.b.mineL; omega
            have hpb : pb ≠ bb := by have := H7.out.1.low.2.2.2.2.2; omega
            have g1 : (w7.setCell ⟨bb, 3, none⟩ (.slice none 0 0)).cell? ⟨pb, 0, none⟩ = some (.pointer (some ⟨xb, 0, none⟩)) := cell_of_one ((o1.block pb hpb).trans H7.out.1.pB)
            have g2 : (w7.setCell ⟨bb, 3, none⟩ (.slice none 0 0)).cell? ⟨xb, 3, none⟩ = some u := (cell_heap (o1.block xb hbx)).trans H7.out.1.b.ref.cells.2.2.2.1
            have g3 : (w7.setCell ⟨bb, 3, none⟩ (.slice none 0 0)).frozen? ⟨xb, 3, none⟩ = false := (frozen_heapP (o1.block xb hbx)).trans (H7.out.1.b.ref.cells.2.2.2.2 3)
            clear o1 hbx hpb
            go_wp2_with fail
            refine (clear_any H7.out.1.b.buf).mono ?_
            rintro e w8 ⟨rfl, rfl⟩
            go_wp2_with fail
            go_meet
            case rel => exact ⟨_, 0, rfl, rfl, HN.out, fun W _ => see_nil W⟩
          | false =>
            cases tr with
            | true => as_aux_lemma =>
              by_cases hk : 0 ≤ key ∧ key < x2
              · have HD := Lib.hid (drop_any H7.out.1.b.buf HLl.out key (by simp; omega) (HE.out w7 H7.out.1.w).1.2.2.2.2.2.2.2.2.2.2.2.2.2.1)
                have HK := Lib.hid hk
                clear hk
                go_wp2_with fail
                refine HD.out.mono ?_
                rintro en W1 hp
                have hR1 := LastPost.ref H7.out.1.b hp
                obtain ⟨hfar, hsz, hen⟩ := LastPost.far hp
                have e9 := (hfar db H7.out.2.2.2.2.2.2.2 (fun hm => H7.out.2.2.2.1 (mem_allb.2 (.inl hm)))).trans H7.out.2.2.1
                have p9 := (hfar pb (lt_of_block H7.out.1.pB) (fun hm => H7.out.1.p1 (mem_allb.2 (.inl hm)))).trans H7.out.1.pB
                obtain ⟨f0, f1, f2, _⟩ := ent3 e9
                have g1 := cell_of_one p9
                have HP := Lib.hid hp
                have HR1 := Lib.hid (rput_gone hR1 HML.out.1 HML.out.2 key HK.out.1 HK.out.2)
                clear hp hR1 hfar hsz e9 p9 e0 e1 e2
                rcases hen with rfl | rfl
                · go_wp2_with fail
                  refine HR1.out.mono ?_
                  rintro en2 W2 hr
                  obtain ⟨⟨v', u', L', M', hC', _, _⟩, _, _, hen2⟩ := H7.out.1.both HBS.out HP.out hr rfl rfl rfl (Nat.zero_le _) HK.out.1 HK.out.2 (fun q hq => by cases hq)
                  have HN : Hid (PlayS w base bb xb sb rb pb x0 x1 x2 x5 W2) := ⟨_, _, _, _, hC'⟩
                  clear hr hC'
                  rcases hen2 with ⟨_, rfl⟩ | ⟨e, _⟩
                  · go_wp2_with fail
                    go_meet
                    case rel => exact ⟨_, 114, rfl, rfl, HN.out, fun W b => see_err W f (HE.out W b) 13 (by decide) 114 (by decide)⟩
                  · cases e
                · go_wp2_with fail
                  refine HR1.out.mono ?_
                  rintro en2 W2 hr
                  obtain ⟨⟨v', u', L', M', hC', _, _⟩, _, _, hen2⟩ := H7.out.1.both HBS.out HP.out hr rfl rfl rfl (Nat.zero_le _) HK.out.1 HK.out.2 (fun q hq => by cases hq)
                  have HN : Hid (PlayS w base bb xb sb rb pb x0 x1 x2 x5 W2) := ⟨_, _, _, _, hC'⟩
                  clear hr hC'
                  rcases hen2 with ⟨e, _⟩ | ⟨_, rfl⟩
                  · cases e
                  · go_wp2_with fail
                    go_meet
                    case rel => exact ⟨_, 0, rfl, rfl, HN.out, fun W _ => see_nil W⟩
              · have hkf : (decide (0 ≤ key) && decide (key < x2)) = false := by
                  by_cases h0 : 0 ≤ key
                  · have : ¬ key < x2 := fun h1 => hk ⟨h0, h1⟩
                    simp [this]
                  · simp [h0]
                have HD := Lib.hid (drop_range H7.out.1.b.buf key hkf (HE.out w7 H7.out.1.w).1.2.1)
                have HR1 := Lib.hid (rput_range H7.out.1.b.ref key hkf (.slice none 0 0) true)
                have g1 := cell_of_one H7.out.1.pB
                clear hk hkf
                go_wp2_with fail
                refine HD.out.mono ?_
                rintro en W1 ⟨rfl, rfl⟩
                go_wp2_with fail
                refine HR1.out.mono ?_
                rintro en2 W2 ⟨rfl, rfl⟩
                go_wp2_with fail
                go_meet
                case rel => exact ⟨_, 102, rfl, rfl, ⟨⟨_, _, _, _, H7.out.1⟩, fun W b => see_err W f (HE.out W b) 1 (by decide) 102 (by decide)⟩⟩
            | false => as_aux_lemma =>
              have HCp := Lib.hid (copy_all da dn dc ll w7 (fun h => ⟨by have := H7.out.2.1.hcap; have := H7.out.2.1.hnil h; omega, H7.out.2.1.hnil h⟩) H7.out.2.1.hrow H7.out.2.1.hlen (by have := HDN.out; omega))
              go_wp2_with fail
              refine HCp.out.mono ?_
              rintro e w8 ⟨rfl, hbk, b8⟩
              clear HCp
              obtain ⟨mb, hmb⟩ : ∃ mb, mb = w7.heap.size := ⟨_, rfl⟩
              rw [← hmb] at hbk ⊢
              have e8 := (b8.block db H7.out.2.2.2.2.2.2.2).trans H7.out.2.2.1
              have H8 : Hid (PlayC w base bb xb sb rb pb x0 x1 x2 x5 v u L M w8 ∧ Pol w8 da dn dc ll ∧ Blk8 w8 mb ll ∧ mb ∉ allb bb v L ∧ mb ∉ allb xb u M ∧ bb < mb ∧ mb ≠ pb) := by
                have h := H7.out.1
                have h1 := lt_of_block h.pB
                refine ⟨h.below HBS.out b8, H7.out.2.1.below b8, hbk, fun hm => ?_, fun hm => ?_, ?_, by omega⟩
                · have := (h.b.buf.allb_lt mb hm).2; omega
                · have := (h.b.ref.allb_lt mb hm).2; omega
                · have := h.b.buf.lt; omega
              have HE8 := Lib.hid (And.intro e8 (And.intro H7.out.2.2.2.1 (And.intro H7.out.2.2.2.2.1 (lt_of_block e8))))
              obtain ⟨e0, e1, e2, _⟩ := ent3 e8
              have g1 := cell_of_one H8.out.1.pB
              clear hbk b8 e8 H7 hmb
              by_cases hk : 0 ≤ key ∧ key < x2
              · have HK := Lib.hid hk
                by_cases hs : (dn : Int) = x0
                · have hPm : Pol w8 (some ⟨mb, 0, none⟩) dn dn ll := ⟨H8.out.2.1.hlen, Nat.le_refl _, by have := H8.out.2.1.hcap; have := H8.out.2.1.hmost; omega, (fun h => by cases h), .inr ⟨mb, 0, rfl, (Blk8.buf H8.out.2.2.1).row, lt_of_block H8.out.2.2.1⟩⟩
                  have hd1024 : dn ≤ 1024 := by have := HMAY.out.1.2; omega
                  have HD : Hid (Calls Tryd.prog 12 #[.pointer (some ⟨bb, 0, none⟩), .int .i64 key, .slice (some ⟨mb, 0, none⟩) dn dn] w8 fun en w' => ∃ e : Ent, e.key = key ∧ e.trim = false ∧ e.n = dn ∧ e.l = ll ∧ (∀ q, e.a = some q → w8.heap.size ≤ q.block) ∧ LastPost bb bb x0 x1 x2 v L e (f 13) w8 en w') := by
                    have hB := H8.out.1.b.buf
                    have hEF := (HE.out w8 H8.out.1.w).1.2.2.2.2.2.2.2.2.2.2.2.2.2.1
                    rw [← hs] at hB ⊢
                    exact put_any hB HLl.out key (by simp; omega) hPm (by omega) hEF
                  have HD2 : Hid (∀ W1, RefAt W1 xb xb x0 x1 x2 u M → Pol W1 da dn dc ll → Calls Tryd.prog 10 #[.pointer (some ⟨xb, 0, none⟩), .int .i64 key, .slice da dn dc, .bool false] W1 (RPutPost xb xb x0 x1 x2 u M key false dn ll W1)) := fun W1 hR hp => by
                    rw [← hs] at hR ⊢
                    exact rput_data hR HML.out.1 HML.out.2 key HK.out.1 HK.out.2 hp (by omega)
                  have HD10 := Lib.hid hd1024
                  clear hPm hs hk hd1024
                  go_wp2_with fail
                  refine HD.out.mono ?_
                  rintro en W1 ⟨e, q1, q2, q3, q4, q5, hp⟩
                  have hR1 := LastPost.ref H8.out.1.b hp
                  obtain ⟨hfar, hsz, hen⟩ := LastPost.far hp
                  have e9 := (hfar db HE8.out.2.2.2 (fun hm => HE8.out.2.1 (mem_allb.2 (.inl hm)))).trans HE8.out.1
                  have p9 := (hfar pb (lt_of_block H8.out.1.pB) (fun hm => H8.out.1.p1 (mem_allb.2 (.inl hm)))).trans H8.out.1.pB
                  have d9 := HPl.out W1 (H8.out.1.w.trans ((LastPost.bel H8.out.1.b.buf hp).mono HBB.out.1))
                  obtain ⟨f0, f1, f2, _⟩ := ent3 e9
                  have g2 := cell_of_one p9
                  have HP := Lib.hid (And.intro hp (And.intro q1 (And.intro q2 (And.intro q4 (And.intro q3 q5)))))
                  have HR1 := Lib.hid (HD2.out W1 hR1 d9)
                  clear hp hR1 hfar hsz e9 p9 e0 e1 e2 q1 q2 q3 q4 q5 d9 g1
                  rcases hen with rfl | rfl
                  · go_wp2_with fail
                    refine HR1.out.mono ?_
                    rintro en2 W2 hr
                    obtain ⟨⟨v', u', L', M', hC', hA1, hA2⟩, hfar, hsz, hen2⟩ := H8.out.1.both HBS.out HP.out.1 hr HP.out.2.1 HP.out.2.2.1 HP.out.2.2.2.1 (by rw [HP.out.2.2.2.2.1]; exact HD10.out) HK.out.1 HK.out.2 HP.out.2.2.2.2.2
                    have HL2 : Hid ((ll.length = dn ∧ PlayC w base bb xb sb rb pb x0 x1 x2 x5 v' u' L' M' W2 ∧ Buf8 W2 mb ll) ∧ mb ∉ allb bb v' L' ∧ mb ∉ allb xb u' M' ∧ bb < mb ∧ mb ≠ pb) := by
                      have hmW := lt_of_block H8.out.2.2.1
                      refine ⟨⟨H8.out.2.1.hlen.symm, hC', ?_⟩, fun hm => ?_, fun hm => ?_, H8.out.2.2.2.2.2.1, H8.out.2.2.2.2.2.2⟩
                      · obtain ⟨cur, ty, h1, h2⟩ := Blk8.buf H8.out.2.2.1
                        exact ⟨cur, ty, (hfar mb hmW (fun hm => H8.out.2.2.2.1 (mem_allb.2 (.inl hm))) (fun hm => H8.out.2.2.2.2.1 (mem_allb.2 (.inl hm)))).trans h1, h2⟩
                      · rcases hA1 mb hm with h | h
                        · exact H8.out.2.2.2.1 h
                        · omega
                      · rcases hA2 mb hm with h | h
                        · exact H8.out.2.2.2.2.1 h
                        · omega
                    clear hr hC' hA1 hA2 hfar hsz
                    rcases hen2 with ⟨_, rfl⟩ | ⟨e, _⟩
                    · have hmx : Bits32.b 238#8 = 238 := by decide
                      have HMX := Lib.hid hmx
                      clear hmx
                      go_wp2_with fail
                      go_loopg [23] dn (fun gh s23 wx => ∃ k : Nat, gh = dn - k ∧ k ≤ dn ∧ s23 = .int .i64 (k : Int) ∧ ∃ lx : List (BitVec 8), Hid (lx.length = dn ∧ PlayC w base bb xb sb rb pb x0 x1 x2 x5 v' u' L' M' wx ∧ Buf8 wx mb lx))
                      case atStart => exact ⟨0, rfl, Nat.zero_le _, rfl, ll, HL2.out.1⟩
                      case round =>
                        obtain ⟨k, hg, hk, rfl, lx, HX⟩ := hrel
                        have HI2 := Lib.hid hg
                        clear hg
                        by_cases hlt : k < dn
                        · have hdn2 := HDN.out
                          have z1 : (k : Int) < (dn : Int) := by omega
                          have z0 : (0 : Int) ≤ (k : Int) := by omega
                          have d0 := HX.out.2.2.cell k (by rw [HX.out.1]; exact hlt)
                          have d1 := HX.out.2.2.free k
                          have hst := HX.out.2.2.set k (by rw [HX.out.1]; exact hlt) 238#8
                          rw [HMX.out] at hst
                          have HN : Hid ((lx.set k 238#8).length = dn ∧ PlayC w base bb xb sb rb pb x0 x1 x2 x5 v' u' L' M' (wr.setCell ⟨mb, k, none⟩ (.int .u8 238)) ∧ Buf8 (wr.setCell ⟨mb, k, none⟩ (.int .u8 238)) mb (lx.set k 238#8)) := ⟨by rw [List.length_set]; exact HX.out.1, HX.out.2.1.set HL2.out.2.1 HL2.out.2.2.1 HL2.out.2.2.2.1 HL2.out.2.2.2.2, hst⟩
                          clear hst HX
                          go_wp2_with fail
                          go_roundg (dn - (k + 1))
                          case measure => have := HI2.out; omega
                          case rel => exact ⟨k + 1, rfl, hlt, by go_num, _, HN⟩
                        · obtain rfl : k = dn := by omega
                          go_wp2_with fail
                          go_meet
                          case rel => exact ⟨_, 114, rfl, rfl, ⟨⟨_, _, _, _, HX.out.2.1⟩, fun W b => see_err W f (HE.out W b) 13 (by decide) 114 (by decide)⟩⟩
                    · cases e
                  · go_wp2_with fail
                    refine HR1.out.mono ?_
                    rintro en2 W2 hr
                    obtain ⟨⟨v', u', L', M', hC', hA1, hA2⟩, hfar, hsz, hen2⟩ := H8.out.1.both HBS.out HP.out.1 hr HP.out.2.1 HP.out.2.2.1 HP.out.2.2.2.1 (by rw [HP.out.2.2.2.2.1]; exact HD10.out) HK.out.1 HK.out.2 HP.out.2.2.2.2.2
                    have HL2 : Hid ((ll.length = dn ∧ PlayC w base bb xb sb rb pb x0 x1 x2 x5 v' u' L' M' W2 ∧ Buf8 W2 mb ll) ∧ mb ∉ allb bb v' L' ∧ mb ∉ allb xb u' M' ∧ bb < mb ∧ mb ≠ pb) := by
                      have hmW := lt_of_block H8.out.2.2.1
                      refine ⟨⟨H8.out.2.1.hlen.symm, hC', ?_⟩, fun hm => ?_, fun hm => ?_, H8.out.2.2.2.2.2.1, H8.out.2.2.2.2.2.2⟩
                      · obtain ⟨cur, ty, h1, h2⟩ := Blk8.buf H8.out.2.2.1
                        exact ⟨cur, ty, (hfar mb hmW (fun hm => H8.out.2.2.2.1 (mem_allb.2 (.inl hm))) (fun hm => H8.out.2.2.2.2.1 (mem_allb.2 (.inl hm)))).trans h1, h2⟩
                      · rcases hA1 mb hm with h | h
                        · exact H8.out.2.2.2.1 h
                        · omega
                      · rcases hA2 mb hm with h | h
                        · exact H8.out.2.2.2.2.1 h
                        · omega
                    clear hr hC' hA1 hA2 hfar hsz
                    rcases hen2 with ⟨e, _⟩ | ⟨_, rfl⟩
                    · cases e
                    · have hmx : Bits32.b 238#8 = 238 := by decide
                      have HMX := Lib.hid hmx
                      clear hmx
                      go_wp2_with fail
                      go_loopg [23] dn (fun gh s23 wx => ∃ k : Nat, gh = dn - k ∧ k ≤ dn ∧ s23 = .int .i64 (k : Int) ∧ ∃ lx : List (BitVec 8), Hid (lx.length = dn ∧ PlayC w base bb xb sb rb pb x0 x1 x2 x5 v' u' L' M' wx ∧ Buf8 wx mb lx))
                      case atStart => exact ⟨0, rfl, Nat.zero_le _, rfl, ll, HL2.out.1⟩
                      case round =>
                        obtain ⟨k, hg, hk, rfl, lx, HX⟩ := hrel
                        have HI2 := Lib.hid hg
                        clear hg
                        by_cases hlt : k < dn
                        · have hdn2 := HDN.out
                          have z1 : (k : Int) < (dn : Int) := by omega
                          have z0 : (0 : Int) ≤ (k : Int) := by omega
                          have d0 := HX.out.2.2.cell k (by rw [HX.out.1]; exact hlt)
                          have d1 := HX.out.2.2.free k
                          have hst := HX.out.2.2.set k (by rw [HX.out.1]; exact hlt) 238#8
                          rw [HMX.out] at hst
                          have HN : Hid ((lx.set k 238#8).length = dn ∧ PlayC w base bb xb sb rb pb x0 x1 x2 x5 v' u' L' M' (wr.setCell ⟨mb, k, none⟩ (.int .u8 238)) ∧ Buf8 (wr.setCell ⟨mb, k, none⟩ (.int .u8 238)) mb (lx.set k 238#8)) := ⟨by rw [List.length_set]; exact HX.out.1, HX.out.2.1.set HL2.out.2.1 HL2.out.2.2.1 HL2.out.2.2.2.1 HL2.out.2.2.2.2, hst⟩
                          clear hst HX
                          go_wp2_with fail
                          go_roundg (dn - (k + 1))
                          case measure => have := HI2.out; omega
                          case rel => exact ⟨k + 1, rfl, hlt, by go_num, _, HN⟩
                        · obtain rfl : k = dn := by omega
                          go_wp2_with fail
                          go_meet
                          case rel => exact ⟨_, 0, rfl, rfl, ⟨⟨_, _, _, _, HX.out.2.1⟩, fun W _ => see_nil W⟩⟩
                · have HD := Lib.hid (put_size H8.out.1.b.buf key (by simp; omega) (some ⟨mb, 0, none⟩) dn dn hs (HE.out w8 H8.out.1.w).1.2.2.2.2.2.2.2.2.2.2.2.2.2.2.2.1)
                  have HR1 := Lib.hid (rput_size H8.out.1.b.ref key hk.1 hk.2 da dn dc hs)
                  clear hs hk
                  have HL2 : Hid ((ll.length = dn ∧ PlayC w base bb xb sb rb pb x0 x1 x2 x5 v u L M w8 ∧ Buf8 w8 mb ll) ∧ mb ∉ allb bb v L ∧ mb ∉ allb xb u M ∧ bb < mb ∧ mb ≠ pb) := ⟨⟨H8.out.2.1.hlen.symm, H8.out.1, Blk8.buf H8.out.2.2.1⟩, H8.out.2.2.2.1, H8.out.2.2.2.2.1, H8.out.2.2.2.2.2.1, H8.out.2.2.2.2.2.2⟩
                  go_wp2_with fail
                  refine HD.out.mono ?_
                  rintro en W1 ⟨rfl, rfl⟩
                  go_wp2_with fail
                  refine HR1.out.mono ?_
                  rintro en2 W2 ⟨rfl, rfl⟩
                  have hmx : Bits32.b 238#8 = 238 := by decide
                  have HMX := Lib.hid hmx
                  clear hmx
                  go_wp2_with fail
                  go_loopg [23] dn (fun gh s23 wx => ∃ k : Nat, gh = dn - k ∧ k ≤ dn ∧ s23 = .int .i64 (k : Int) ∧ ∃ lx : List (BitVec 8), Hid (lx.length = dn ∧ PlayC w base bb xb sb rb pb x0 x1 x2 x5 v u L M wx ∧ Buf8 wx mb lx))
                  case atStart => exact ⟨0, rfl, Nat.zero_le _, rfl, ll, HL2.out.1⟩
                  case round =>
                    obtain ⟨k, hg, hk, rfl, lx, HX⟩ := hrel
                    have HI2 := Lib.hid hg
                    clear hg
                    by_cases hlt : k < dn
                    · have hdn2 := HDN.out
                      have z1 : (k : Int) < (dn : Int) := by omega
                      have z0 : (0 : Int) ≤ (k : Int) := by omega
                      have d0 := HX.out.2.2.cell k (by rw [HX.out.1]; exact hlt)
                      have d1 := HX.out.2.2.free k
                      have hst := HX.out.2.2.set k (by rw [HX.out.1]; exact hlt) 238#8
                      rw [HMX.out] at hst
                      have HN : Hid ((lx.set k 238#8).length = dn ∧ PlayC w base bb xb sb rb pb x0 x1 x2 x5 v u L M (wr.setCell ⟨mb, k, none⟩ (.int .u8 238)) ∧ Buf8 (wr.setCell ⟨mb, k, none⟩ (.int .u8 238)) mb (lx.set k 238#8)) := ⟨by rw [List.length_set]; exact HX.out.1, HX.out.2.1.set HL2.out.2.1 HL2.out.2.2.1 HL2.out.2.2.2.1 HL2.out.2.2.2.2, hst⟩
                      clear hst HX
                      go_wp2_with fail
                      go_roundg (dn - (k + 1))
                      case measure => have := HI2.out; omega
                      case rel => exact ⟨k + 1, rfl, hlt, by go_num, _, HN⟩
                    · obtain rfl : k = dn := by omega
                      go_wp2_with fail
                      go_meet
                      case rel => exact ⟨_, 116, rfl, rfl, ⟨⟨_, _, _, _, HX.out.2.1⟩, fun W b => see_err W f (HE.out W b) 15 (by decide) 116 (by decide)⟩⟩
              · have hkf : (decide (0 ≤ key) && decide (key < x2)) = false := by
                  by_cases h0 : 0 ≤ key
                  · have : ¬ key < x2 := fun h1 => hk ⟨h0, h1⟩
                    simp [this]
                  · simp [h0]
                have HD := Lib.hid (put_range H8.out.1.b.buf key hkf (.slice (some ⟨mb, 0, none⟩) dn dn) (HE.out w8 H8.out.1.w).1.2.1)
                have HR1 := Lib.hid (rput_range H8.out.1.b.ref key hkf (.slice da dn dc) false)
                clear hk hkf
                have HL2 : Hid ((ll.length = dn ∧ PlayC w base bb xb sb rb pb x0 x1 x2 x5 v u L M w8 ∧ Buf8 w8 mb ll) ∧ mb ∉ allb bb v L ∧ mb ∉ allb xb u M ∧ bb < mb ∧ mb ≠ pb) := ⟨⟨H8.out.2.1.hlen.symm, H8.out.1, Blk8.buf H8.out.2.2.1⟩, H8.out.2.2.2.1, H8.out.2.2.2.2.1, H8.out.2.2.2.2.2.1, H8.out.2.2.2.2.2.2⟩
                go_wp2_with fail
                refine HD.out.mono ?_
                rintro en W1 ⟨rfl, rfl⟩
                go_wp2_with fail
                refine HR1.out.mono ?_
                rintro en2 W2 ⟨rfl, rfl⟩
                have hmx : Bits32.b 238#8 = 238 := by decide
                have HMX := Lib.hid hmx
                clear hmx
                go_wp2_with fail
                go_loopg [23] dn (fun gh s23 wx => ∃ k : Nat, gh = dn - k ∧ k ≤ dn ∧ s23 = .int .i64 (k : Int) ∧ ∃ lx : List (BitVec 8), Hid (lx.length = dn ∧ PlayC w base bb xb sb rb pb x0 x1 x2 x5 v u L M wx ∧ Buf8 wx mb lx))
                case atStart => exact ⟨0, rfl, Nat.zero_le _, rfl, ll, HL2.out.1⟩
                case round =>
                  obtain ⟨k, hg, hk, rfl, lx, HX⟩ := hrel
                  have HI2 := Lib.hid hg
                  clear hg
                  by_cases hlt : k < dn
                  · have hdn2 := HDN.out
                    have z1 : (k : Int) < (dn : Int) := by omega
                    have z0 : (0 : Int) ≤ (k : Int) := by omega
                    have d0 := HX.out.2.2.cell k (by rw [HX.out.1]; exact hlt)
                    have d1 := HX.out.2.2.free k
                    have hst := HX.out.2.2.set k (by rw [HX.out.1]; exact hlt) 238#8
                    rw [HMX.out] at hst
                    have HN : Hid ((lx.set k 238#8).length = dn ∧ PlayC w base bb xb sb rb pb x0 x1 x2 x5 v u L M (wr.setCell ⟨mb, k, none⟩ (.int .u8 238)) ∧ Buf8 (wr.setCell ⟨mb, k, none⟩ (.int .u8 238)) mb (lx.set k 238#8)) := ⟨by rw [List.length_set]; exact HX.out.1, HX.out.2.1.set HL2.out.2.1 HL2.out.2.2.1 HL2.out.2.2.2.1 HL2.out.2.2.2.2, hst⟩
                    clear hst HX
                    go_wp2_with fail
                    go_roundg (dn - (k + 1))
                    case measure => have := HI2.out; omega
                    case rel => exact ⟨k + 1, rfl, hlt, by go_num, _, HN⟩
                  · obtain rfl : k = dn := by omega
                    go_wp2_with fail
                    go_meet
                    case rel => exact ⟨_, 102, rfl, rfl, ⟨⟨_, _, _, _, HX.out.2.1⟩, fun W b => see_err W f (HE.out W b) 1 (by decide) 102 (by decide)⟩⟩
        case rest =>
          obtain ⟨F, G, rfl, rfl, HX⟩ := hcut
          obtain ⟨v, u, L, M, hC⟩ := HX.out.1
          have HOK := Lib.hid HX.out.2
          obtain ⟨av, cv, rfl, hvc, hvm, _⟩ := row_slice hC.b.ref.row
          obtain ⟨N, hN⟩ : ∃ N, N = M.length := ⟨_, rfl⟩
          have hNL : N = L.length := by rw [hN]; exact hC.b.size.symm
          have hN64 : N ≤ 64 := by have := hC.b.most; have := HMAY.out.2.1.2; omega
          have HC := Lib.hid hC
          have HNL := Lib.hid (And.intro hN (And.intro hNL (And.intro (cores_keys hC.b.alike) hvm)))
          rw [← hN] at hvc
          have hatM : at? M x4 = at? L x4 := (at_keys x4 (cores_keys hC.b.alike)).symm
          clear HX hN hNL hvm hC t hlong HPl k3 e0 e1 e2 H7 hdn
          cases hat : at? L x4 with
          | none => as_aux_lemma =>
            rw [hat] at hatM
            have HG := Lib.hid (get_none HC.out.b.buf x4 hat)
            have HAT := Lib.hid hatM
            clear hat hatM
            go_wp2_with fail
            refine HG.out.mono ?_
            rintro e w8 ⟨rfl, b8⟩
            clear HG
            go_upto_region 34 with (fail)
            generalize hw : w8.alloc (.cells #[.int .i64 0, .bool false, .slice none 0 0] 35 (0, 0)) = w9
            obtain ⟨e9, b9⟩ := newE w8 w9 ⟨0, false, none, 0, 0, []⟩ hw
            clear hw
            obtain ⟨yb, hyb⟩ : ∃ yb, yb = w8.heap.size := ⟨_, rfl⟩
            rw [← hyb] at e9 ⊢
            have H9 : Hid (PlayC w base bb xb sb rb pb x0 x1 x2 x5 v (.slice av M.length cv) L M w9 ∧ w9.heap[yb]? = some (.cells #[.int .i64 0, .bool false, .slice none 0 0] 35 (0, 0))) := ⟨(HC.out.below HBS.out b8).below HBS.out b9, e9⟩
            have HZ : Hid (atK (at? M x4) N = -1) := by show _ = _; rw [HAT.out]; rfl
            clear hyb e9 b8 b9
            go_wp2_with fail
            go_loopg [26, 27] N (fun gh s26 s27 wx => ∃ k : Nat, gh = N - k ∧ k ≤ N ∧ s27 = .int .i64 (k : Int) ∧ s26 = .int .i64 (atK (at? M x4) k) ∧ w9 = wx)
            case atStart => exact ⟨0, rfl, Nat.zero_le _, rfl, by rw [atK_zero], rfl⟩
            case round =>
              obtain ⟨k, hg, hk, rfl, rfl, rfl⟩ := hrel
              have HI3 := Lib.hid hg
              clear hg
              have p0 := cell_of_one H9.out.1.pB
              have p1 := H9.out.1.b.ref.cells.2.2.2.1
              rw [← HNL.out.1] at p1
              by_cases hlt3 : k < N
              · have z1 : (k : Int) < (N : Int) := by omega
                have z0 : (0 : Int) ≤ (k : Int) := by omega
                obtain ⟨d3, hd3⟩ : ∃ d, M[k]? = some d := ⟨M[k]'(by rw [← HNL.out.1]; exact hlt3), List.getElem?_eq_getElem _⟩
                have hun := at_uniq (key := x4) (by rw [← HNL.out.2.2.1]; exact HC.out.b.keys.once) hd3
                obtain ⟨g3, rfl, _, c0, _, _⟩ := row_cells H9.out.1.b.ref.row hd3
                by_cases hkk : d3.key = x4
                · have HA := Lib.hid (atK_hit (hun.1 hkk))
                  rw [hkk] at c0
                  have q0 : (x4 == x4) = true := by simp
                  clear hun hkk hd3
                  go_wp2_with fail
                  go_roundg (N - (k + 1))
                  case measure => have := HI3.out; omega
                  case rel => exact ⟨k + 1, rfl, hlt3, by go_num, by rw [HA.out], rfl⟩
                · have HA := Lib.hid (atK_not (fun h => hkk (hun.2 h)))
                  have q0 : (d3.key == x4) = false := by rw [beq_eq_false_iff_ne]; exact hkk
                  clear hun hkk hd3
                  go_wp2_with fail
                  go_roundg (N - (k + 1))
                  case measure => have := HI3.out; omega
                  case rel => exact ⟨k + 1, rfl, hlt3, by go_num, by rw [HA.out], rfl⟩
              · obtain rfl : k = N := by omega
                rw [HZ.out]
                clear HZ hlt3
                go_upto_region 39 with (fail)
                have p0 := cell_regrown p0
                have p1 := cell_regrown p1
                obtain ⟨bf, hbf⟩ : ∃ bf, decide (x1 ≤ (k : Int)) = bf := ⟨_, rfl⟩
                have ub : (bf != bf) = false := by cases bf <;> rfl
                have HIs : Hid (∀ q os, Calls Tryd.prog 14 #[F, .int .i64 G] (Sort.grow (redrawn w9 q) os) fun x w'' => x = .returned (.bool true) ∧ ∃ p : Regrown, w'' = Sort.grow (redrawn w9 p.d) p.os) := fun q os => Calls.regrown_of (HOK.out _ (belB HBS.out H9.out.1.w (below_regrown w9 q os)))
                have HLn : Hid (∀ q os, Calls Tryd.prog 16 #[.pointer (some ⟨bb, 0, none⟩)] (Sort.grow (redrawn w9 q) os) fun x w'' => x = .returned (.int .i64 (k : Int)) ∧ ∃ p : Regrown, w'' = Sort.grow (redrawn w9 p.d) p.os) := fun q os => Calls.regrown_of (by
                  rw [HNL.out.2.1]
                  exact (len_any (H9.out.1.b.buf.below (below_regrown w9 q os))).mono fun _ _ h => ⟨h.1, by rw [← h.2]; exact Below.refl _ _⟩)
                have HFl : Hid (∀ q os, Calls Tryd.prog 17 #[.pointer (some ⟨bb, 0, none⟩)] (Sort.grow (redrawn w9 q) os) fun x w'' => x = .returned (.bool bf) ∧ ∃ p : Regrown, w'' = Sort.grow (redrawn w9 p.d) p.os) := fun q os => Calls.regrown_of (by
                  rw [← hbf, HNL.out.2.1]
                  exact (full_any (H9.out.1.b.buf.below (below_regrown w9 q os))).mono fun _ _ h => ⟨h.1, h.2.below _⟩)
                have u1 : decide ((0 : Int) ≤ -1) = false := by decide
                refine wp_region_quiet_below (by kernel_rfl) (by kernel_rfl) ?_
                repeat (go_big_quiet_step (first
                  | (go_at_call 14; with_reducible exact HIs.out _ _)
                  | (go_at_call 16; with_reducible exact HLn.out _ _)
                  | (go_at_call 17; with_reducible exact HFl.out _ _)))
                refine wpQuiet_nil ?_
                intro _ hw'
                obtain ⟨⟨dq, osq⟩, hw''⟩ := hw'
                subst hw''
                have b10 := below_regrown w9 dq osq
                generalize Sort.grow (redrawn w9 dq) osq = w10 at b10 ⊢
                have H10 : Hid (PlayC w base bb xb sb rb pb x0 x1 x2 x5 v (.slice av M.length cv) L M w10 ∧ w10.heap[yb]? = some (.cells #[.int .i64 0, .bool false, .slice none 0 0] 35 (0, 0))) := ⟨H9.out.1.below HBS.out b10, (b10.block yb (lt_of_block H9.out.2)).trans H9.out.2⟩
                have e10 := H10.out.2
                obtain ⟨_, _, e2, _⟩ := ent3 e10
                clear e10 p0 p1 u1 ub hbf b10 HIs HLn HFl H9
                go_wp2_with fail
                go_loopg [28] 0 (fun gh s28 wx => gh = 0 ∧ s28 = .int .i64 0 ∧ Hid (PlayC w base bb xb sb rb pb x0 x1 x2 x5 v (.slice av M.length cv) L M wx ∧ wx.heap[yb]? = some (.cells #[.int .i64 0, .bool false, .slice none 0 0] 35 (0, 0))))
                case atStart => exact ⟨rfl, rfl, H10.out⟩
                case round =>
                  obtain ⟨hg, rfl, HX⟩ := hrel
                  clear hg H10
                  obtain ⟨_, _, e2, _⟩ := ent3 HX.out.2
                  go_wp2_with fail
                  go_roundg (n - (i + 1))
                  case measure => have := HI.out; omega
                  case rel => exact ⟨i + 1, rfl, hlt, by go_num, ⟨_, _, _, _, HX.out.1⟩⟩
          | some i0 => as_aux_lemma =>
            rw [hat] at hatM
            obtain ⟨d, hd, hdk⟩ := at_some hat
            obtain ⟨ee, he, q1, q2, q3⟩ := cores_get HC.out.b.alike hd
            have hg := get_some HC.out.b.buf x4 hat hd (by have := HC.out.b.small d (List.mem_of_getElem? hd); omega) (by rw [← HNL.out.2.1]; omega)
            have hdn5 : d.n ≤ 1024 := HC.out.b.small d (List.mem_of_getElem? hd)
            have hi0 : i0 < N := by rw [HNL.out.2.1]; exact (List.getElem?_eq_some_iff.1 hd).1
            have HAT := Lib.hid (And.intro hatM (And.intro hd (And.intro he (And.intro q1 (And.intro q2 q3)))))
            have HG := Lib.hid hg
            clear hat hatM hg hd he q1 q2 q3 hdk
            generalize hn5 : d.n = n5 at HG hdn5
            have HN5 := Lib.hid hn5
            clear hn5
            generalize hk5 : d.key = k5 at HG
            generalize ht5 : d.trim = t5 at HG
            generalize hl5 : d.l = l5 at HG
            have HK5 := Lib.hid (And.intro hk5 (And.intro ht5 hl5))
            clear hk5 ht5 hl5
            go_wp2_with fail
            refine HG.out.mono ?_
            rintro e w8 ⟨a5, c5, rfl, N5, b8⟩
            clear HG
            go_upto_region 34 with (fail)
            generalize hw : w8.alloc (.cells #[.int .i64 k5, .bool t5, .slice a5 n5 c5] 35 (0, 0)) = w9
            obtain ⟨e9, b9⟩ := newE w8 w9 ⟨k5, t5, a5, n5, c5, []⟩ hw
            clear hw
            obtain ⟨yb, hyb⟩ : ∃ yb, yb = w8.heap.size := ⟨_, rfl⟩
            rw [← hyb] at e9 ⊢
            have H9 : Hid ((PlayC w base bb xb sb rb pb x0 x1 x2 x5 v (.slice av M.length cv) L M w9 ∧ w9.heap[yb]? = some (.cells #[.int .i64 k5, .bool t5, .slice a5 n5 c5] 35 (0, 0))) ∧ Pol w9 a5 n5 c5 l5 ∧ (0 < n5 → ∃ g5, a5 = some ⟨g5, 0, none⟩ ∧ Buf8 w9 g5 l5 ∧ g5 ∉ allb bb v L ∧ g5 ∉ allb xb (.slice av M.length cv) M ∧ bb < g5 ∧ g5 ≠ pb ∧ g5 ≠ yb)) := by
              refine ⟨⟨(HC.out.below HBS.out b8).below HBS.out b9, e9⟩, N5.pol.below b9, fun h0 => ?_⟩
              rcases N5.own with ⟨_, h1, _⟩ | ⟨g5, h1, h2, h3⟩
              · omega
              · have h4 := lt_of_block HC.out.pB
                have h5 := HC.out.b.buf.lt
                have h6 := h3.lt
                refine ⟨g5, h1, h3.below b9 h6, fun hm => ?_, fun hm => ?_, by omega, by omega, by omega⟩
                · have := (HC.out.b.buf.allb_lt g5 hm).2; omega
                · have := (HC.out.b.ref.allb_lt g5 hm).2; omega
            have HZ : Hid (atK (at? M x4) N = (i0 : Int)) := by show _ = _; rw [HAT.out.1]; unfold atK; simp only [if_pos hi0]
            clear hyb e9 b8 b9 N5
            go_wp2_with fail
            go_loopg [26, 27] N (fun gh s26 s27 wx => ∃ k : Nat, gh = N - k ∧ k ≤ N ∧ s27 = .int .i64 (k : Int) ∧ s26 = .int .i64 (atK (at? M x4) k) ∧ w9 = wx)
            case atStart => exact ⟨0, rfl, Nat.zero_le _, rfl, by rw [atK_zero], rfl⟩
            case round =>
              obtain ⟨k, hg, hk, rfl, rfl, rfl⟩ := hrel
              have HI3 := Lib.hid hg
              clear hg
              have p0 := cell_of_one H9.out.1.1.pB
              have p1 := H9.out.1.1.b.ref.cells.2.2.2.1
              rw [← HNL.out.1] at p1
              by_cases hlt3 : k < N
              · have z1 : (k : Int) < (N : Int) := by omega
                have z0 : (0 : Int) ≤ (k : Int) := by omega
                obtain ⟨d3, hd3⟩ : ∃ d, M[k]? = some d := ⟨M[k]'(by rw [← HNL.out.1]; exact hlt3), List.getElem?_eq_getElem _⟩
                have hun := at_uniq (key := x4) (by rw [← HNL.out.2.2.1]; exact HC.out.b.keys.once) hd3
                obtain ⟨g3, rfl, _, c0, _, _⟩ := row_cells H9.out.1.1.b.ref.row hd3
                by_cases hkk : d3.key = x4
                · have HA := Lib.hid (atK_hit (hun.1 hkk))
                  rw [hkk] at c0
                  have q0 : (x4 == x4) = true := by simp
                  clear hun hkk hd3
                  go_wp2_with fail
                  go_roundg (N - (k + 1))
                  case measure => have := HI3.out; omega
                  case rel => exact ⟨k + 1, rfl, hlt3, by go_num, by rw [HA.out], rfl⟩
                · have HA := Lib.hid (atK_not (fun h => hkk (hun.2 h)))
                  have q0 : (d3.key == x4) = false := by rw [beq_eq_false_iff_ne]; exact hkk
                  clear hun hkk hd3
                  go_wp2_with fail
                  go_roundg (N - (k + 1))
                  case measure => have := HI3.out; omega
                  case rel => exact ⟨k + 1, rfl, hlt3, by go_num, by rw [HA.out], rfl⟩
              · obtain rfl : k = N := by omega
                rw [HZ.out]
                clear HZ hlt3
                go_upto_region 39 with (fail)
                have p0 := cell_regrown p0
                have p1 := cell_regrown p1
                obtain ⟨bf, hbf⟩ : ∃ bf, decide (x1 ≤ (k : Int)) = bf := ⟨_, rfl⟩
                have ub : (bf != bf) = false := by cases bf <;> rfl
                have HIs : Hid (∀ q os, Calls Tryd.prog 14 #[F, .int .i64 G] (Sort.grow (redrawn w9 q) os) fun x w'' => x = .returned (.bool true) ∧ ∃ p : Regrown, w'' = Sort.grow (redrawn w9 p.d) p.os) := fun q os => Calls.regrown_of (HOK.out _ (belB HBS.out H9.out.1.1.w (below_regrown w9 q os)))
                have HLn : Hid (∀ q os, Calls Tryd.prog 16 #[.pointer (some ⟨bb, 0, none⟩)] (Sort.grow (redrawn w9 q) os) fun x w'' => x = .returned (.int .i64 (k : Int)) ∧ ∃ p : Regrown, w'' = Sort.grow (redrawn w9 p.d) p.os) := fun q os => Calls.regrown_of (by
                  rw [HNL.out.2.1]
                  exact (len_any (H9.out.1.1.b.buf.below (below_regrown w9 q os))).mono fun _ _ h => ⟨h.1, by rw [← h.2]; exact Below.refl _ _⟩)
                have HFl : Hid (∀ q os, Calls Tryd.prog 17 #[.pointer (some ⟨bb, 0, none⟩)] (Sort.grow (redrawn w9 q) os) fun x w'' => x = .returned (.bool bf) ∧ ∃ p : Regrown, w'' = Sort.grow (redrawn w9 p.d) p.os) := fun q os => Calls.regrown_of (by
                  rw [← hbf, HNL.out.2.1]
                  exact (full_any (H9.out.1.1.b.buf.below (below_regrown w9 q os))).mono fun _ _ h => ⟨h.1, h.2.below _⟩)
                obtain ⟨y0', y1', y2', _⟩ := ent3 (H9.out.1.2)
                have y0' := cell_regrown y0'
                have y1' := cell_regrown y1'
                have y2' := cell_regrown y2'
                obtain ⟨g9, rfl, _, m0, m1, m2⟩ := row_cells H9.out.1.1.b.ref.row HAT.out.2.2.1
                have HSm : Hid (∀ q os, Calls Tryd.prog 15 #[.agg #[.int .i64 k5, .bool t5, .slice a5 n5 c5], .agg #[.int .i64 ee.key, .bool ee.trim, .slice ee.a ee.n ee.c]] (Sort.grow (redrawn w9 q) os) fun x w'' => x = .returned (.bool true) ∧ ∃ p : Regrown, w'' = Sort.grow (redrawn w9 p.d) p.os) := fun q os => Calls.regrown_of (by
                  obtain ⟨h1, h2, h3⟩ := HK5.out
                  obtain ⟨_, _, _, h4, h5, h6⟩ := HAT.out
                  exact sameC_any (d := ⟨k5, t5, a5, n5, c5, l5⟩) (e := ee) (H9.out.2.1.below (below_regrown w9 q os)) ((H9.out.1.1.b.ref.ents ee (List.mem_of_getElem? HAT.out.2.2.1)).1.below (below_regrown w9 q os)) (h1.symm.trans h4) (h2.symm.trans h5) (h3.symm.trans h6))
                have m0 := cell_regrown m0
                have m1 := cell_regrown m1
                have m2 := cell_regrown m2
                have u1 : decide ((0 : Int) ≤ (i0 : Int)) = true := decide_eq_true (by omega)
                have u2 : (0 : Int) ≤ (i0 : Int) := by omega
                have u3 : (i0 : Int) < (k : Int) := by omega
                refine wp_region_quiet_below (by kernel_rfl) (by kernel_rfl) ?_
                repeat (go_big_quiet_step (first
                  | (go_at_call 14; with_reducible exact HIs.out _ _)
                  | (go_at_call 15; with_reducible exact HSm.out _ _)
                  | (go_at_call 16; with_reducible exact HLn.out _ _)
                  | (go_at_call 17; with_reducible exact HFl.out _ _)))
                refine wpQuiet_nil ?_
                intro _ hw'
                obtain ⟨⟨dq, osq⟩, hw''⟩ := hw'
                subst hw''
                have b10 := below_regrown w9 dq osq
                generalize Sort.grow (redrawn w9 dq) osq = w10 at b10 ⊢
                have H10 : Hid ((PlayC w base bb xb sb rb pb x0 x1 x2 x5 v (.slice (some ⟨g9, 0, none⟩) M.length cv) L M w10 ∧ w10.heap[yb]? = some (.cells #[.int .i64 k5, .bool t5, .slice a5 n5 c5] 35 (0, 0))) ∧ Pol w10 a5 n5 c5 l5 ∧ (0 < n5 → ∃ g5, a5 = some ⟨g5, 0, none⟩ ∧ Buf8 w10 g5 l5 ∧ g5 ∉ allb bb v L ∧ g5 ∉ allb xb (.slice (some ⟨g9, 0, none⟩) M.length cv) M ∧ bb < g5 ∧ g5 ≠ pb ∧ g5 ≠ yb)) := ⟨⟨H9.out.1.1.below HBS.out b10, (b10.block yb (lt_of_block H9.out.1.2)).trans H9.out.1.2⟩, H9.out.2.1.below b10, fun h0 => by
                  obtain ⟨g5, h1, h2, h3⟩ := H9.out.2.2 h0
                  exact ⟨g5, h1, h2.below b10 h2.lt, h3⟩⟩
                have e10 := H10.out.1.2
                obtain ⟨_, _, e2, _⟩ := ent3 e10
                clear e10 p0 p1 u1 u2 u3 ub hbf b10 HIs HLn HFl HSm H9 m0 m1 m2 y0' y1' y2'
                go_wp2_with fail
                go_loopg [28] n5 (fun gh s28 wx => ∃ k : Nat, gh = n5 - k ∧ k ≤ n5 ∧ s28 = .int .i64 (k : Int) ∧ ∃ lx : List (BitVec 8), Hid (lx.length = n5 ∧ (PlayC w base bb xb sb rb pb x0 x1 x2 x5 v (.slice (some ⟨g9, 0, none⟩) M.length cv) L M wx ∧ wx.heap[yb]? = some (.cells #[.int .i64 k5, .bool t5, .slice a5 n5 c5] 35 (0, 0))) ∧ (0 < n5 → ∃ g5, a5 = some ⟨g5, 0, none⟩ ∧ Buf8 wx g5 lx ∧ g5 ∉ allb bb v L ∧ g5 ∉ allb xb (.slice (some ⟨g9, 0, none⟩) M.length cv) M ∧ bb < g5 ∧ g5 ≠ pb ∧ g5 ≠ yb)))
                case atStart => exact ⟨0, rfl, Nat.zero_le _, rfl, l5, H10.out.2.1.hlen.symm, H10.out.1, H10.out.2.2⟩
                case round =>
                  clear H10
                  obtain ⟨k, hg, hk, rfl, lx, HX⟩ := hrel
                  have HI4 := Lib.hid hg
                  clear hg
                  obtain ⟨_, _, e2, _⟩ := ent3 HX.out.2.1.2
                  by_cases hlt4 : k < n5
                  · have z1 : (k : Int) < (n5 : Int) := by omega
                    have z0 : (0 : Int) ≤ (k : Int) := by omega
                    obtain ⟨g5, rfl, hbf, f1, f2, f3, f4, f5⟩ := HX.out.2.2 (by omega)
                    have d0 := hbf.cell k (by rw [HX.out.1]; exact hlt4)
                    have d1 := hbf.free k
                    have hst := hbf.set k (by rw [HX.out.1]; exact hlt4) 238#8
                    have hmx : Bits32.b 238#8 = 238 := by decide
                    rw [hmx] at hst
                    have HN : Hid ((lx.set k 238#8).length = n5 ∧ (PlayC w base bb xb sb rb pb x0 x1 x2 x5 v (.slice (some ⟨g9, 0, none⟩) M.length cv) L M (wr.setCell ⟨g5, k, none⟩ (.int .u8 238)) ∧ (wr.setCell ⟨g5, k, none⟩ (.int .u8 238)).heap[yb]? = some (.cells #[.int .i64 k5, .bool t5, .slice (some ⟨g5, 0, none⟩) n5 c5] 35 (0, 0))) ∧ (0 < n5 → ∃ g, (some ⟨g5, 0, none⟩ : Option Addr) = some ⟨g, 0, none⟩ ∧ Buf8 (wr.setCell ⟨g5, k, none⟩ (.int .u8 238)) g (lx.set k 238#8) ∧ g ∉ allb bb v L ∧ g ∉ allb xb (.slice (some ⟨g9, 0, none⟩) M.length cv) M ∧ bb < g ∧ g ≠ pb ∧ g ≠ yb)) :=
                      ⟨by rw [List.length_set]; exact HX.out.1, ⟨HX.out.2.1.1.set f1 f2 f3 f4, (Below.heap_setCell _ _ _ _ (by show yb ≠ g5; exact Ne.symm f5)).trans HX.out.2.1.2⟩, fun _ => ⟨g5, rfl, hst, f1, f2, f3, f4, f5⟩⟩
                    clear hbf f1 f2 f3 f4 f5 hst hmx HX
                    go_wp2_with fail
                    go_roundg (n5 - (k + 1))
                    case measure => have := HI4.out; omega
                    case rel => exact ⟨k + 1, rfl, hlt4, by go_num, _, HN⟩
                  · obtain rfl : k = n5 := by omega
                    go_wp2_with fail
                    go_roundg (n - (i + 1))
                    case measure => have := HI.out; omega
                    case rel => exact ⟨i + 1, rfl, hlt, by go_num, ⟨_, _, _, _, HX.out.2.1.1⟩⟩
      · as_aux_lemma =>
          obtain rfl : i = n := by omega
          obtain ⟨v, u, L, M, hC⟩ := HX.out
          obtain ⟨av, cv, rfl, hvc, hvm, _⟩ := row_slice hC.b.ref.row
          obtain ⟨N, hN⟩ : ∃ N, N = M.length := ⟨_, rfl⟩
          have hNL : N = L.length := by rw [hN]; exact hC.b.size.symm
          have hN64 : N ≤ 64 := by have := hC.b.most; have := HMAY.out.2.1.2; omega
          have HNL := Lib.hid (And.intro hN (And.intro hNL (And.intro hvm hN64)))
          have HCV : Hid (M.length ≤ cv) := hvc
          have HL1 : Hid (L.length ≤ 1000 ∧ ∀ e ∈ L, e.n ≤ 100000) := ⟨by omega, fun e he => by have := hC.b.small e he; omega⟩
          rw [← hN] at hvc
          have HC := Lib.hid hC
          clear HX hN hNL hvm hC HR
          go_wp2_with fail
          generalize hw : wr.alloc (.cells #[.int .i64 0] 3 (0, 0)) = w11
          obtain ⟨K0, b0⟩ := newI64 wr w11 0 hw
          clear hw
          obtain ⟨tb, htb⟩ : ∃ tb, tb = wr.heap.size := ⟨_, rfl⟩
          rw [← htb] at K0 ⊢
          have Hst : Hid (PlayC w base bb xb sb rb pb x0 x1 x2 x5 v (.slice av M.length cv) L M w11 ∧ w11.heap[tb]? = some (.cells #[.int .i64 0] 3 (0, 0)) ∧ bb < tb) := ⟨HC.out.below HBS.out b0, K0, by rw [htb]; exact HC.out.b.buf.lt⟩
          clear K0 b0 htb HC
          refine wp_loop_rounds 3 ?_
          rw [rounds_succ]
          have q29 := cell_of_one Hst.out.2.1
          go_wp2_with fail
          generalize hw : w11.alloc (.cells #[.int .i64 0] 3 (0, 0)) = w12
          obtain ⟨KI, bI⟩ := newI64 w11 w12 0 hw
          clear hw
          obtain ⟨ib, hib⟩ : ∃ ib, ib = w11.heap.size := ⟨_, rfl⟩
          rw [← hib] at KI ⊢
          refine (each_any bb w12).mono ?_
          rintro e w13 ⟨rfl, hcb, hb2⟩
          obtain ⟨cb, hcbe⟩ : ∃ cb, cb = w12.heap.size := ⟨_, rfl⟩
          rw [← hcbe] at hcb ⊢
          have b13 := bI.trans (hb2.mono bI.size)
          have hci := lt_of_block KI
          have HIB : Hid (ib = w11.heap.size ∧ w13.heap[ib]? = some (.cells #[.int .i64 0] 3 (0, 0)) ∧ ib < w13.heap.size ∧ w13.heap[cb]? = some (.cells #[.pointer (some ⟨bb, 0, none⟩)] 24 (0, 0)) ∧ ib < cb ∧ cb < w13.heap.size ∧ bb < ib ∧ tb < ib ∧ pb < ib) := ⟨hib, (hb2.block ib hci).trans KI, Nat.lt_of_lt_of_le hci hb2.size, hcb, by omega, lt_of_block hcb, by have := Hst.out.1.b.buf.lt; omega, by have := lt_of_block Hst.out.2.1; omega, by have := lt_of_block Hst.out.1.pB; omega⟩
          have H13 : Hid (PlayC w base bb xb sb rb pb x0 x1 x2 x5 v (.slice av M.length cv) L M w13 ∧ w13.heap[tb]? = some (.cells #[.int .i64 0] 3 (0, 0)) ∧ bb < tb ∧ (∀ e ∈ L, ∀ q, e.a = some q → q.block < ib) ∧ (∀ k ∈ allb bb v L, k < ib) ∧ (∀ k ∈ allb xb (.slice av M.length cv) M, k < ib)) := ⟨Hst.out.1.below HBS.out b13, (b13.block tb (lt_of_block Hst.out.2.1)).trans Hst.out.2.1, Hst.out.2.2, fun e he q hq => by rw [hib]; exact ((Hst.out.1.b.buf.ents e he).2 q hq).2.1, fun k hk => by rw [hib]; exact (Hst.out.1.b.buf.allb_lt k hk).2, fun k hk => by rw [hib]; exact (Hst.out.1.b.ref.allb_lt k hk).2⟩
          have HUP : Hid (∀ W, Below ib w13 W → ib ≤ W.heap.size → PlayC w base bb xb sb rb pb x0 x1 x2 x5 v (.slice av M.length cv) L M W ∧ W.heap[tb]? = some (.cells #[.int .i64 0] 3 (0, 0))) := fun W b hs => by
            refine ⟨?_, (b.block tb HIB.out.2.2.2.2.2.2.2.1).trans H13.out.2.1⟩
            have h := H13.out.1
            have hl := h.low
            have hws : w13.heap.size ≤ W.heap.size := b.size
            exact ⟨h.b.far hws (fun k hk => b.block k (H13.out.2.2.2.2.1 k hk)) (fun k hk => b.block k (H13.out.2.2.2.2.2 k hk)), h.p1, h.p2, (b.block sb (by have := HIB.out.2.2.2.2.2.2.1; omega)).trans h.sB, (b.block rb (by have := HIB.out.2.2.2.2.2.2.1; omega)).trans h.rB, (b.block pb HIB.out.2.2.2.2.2.2.2.2).trans h.pB, hl, h.w.trans (b.mono (by have := HIB.out.2.2.2.2.2.2.1; omega))⟩
          clear hcb hb2 b13 KI bI hci hib hcbe q29 Hst
          go_wp2_with fail
          refine wpIn_wide.1 (range_gift (n := 3) (gf := 30) (lb := #[.pointer (some ⟨cb, 0, none⟩)]) rfl (enters_of Tryd.func30 (by kernel_rfl) rfl)
            (encs := encY) (fun _ => rfl) (gift := gift) (V := VY L w13.heap.size) [] (C := FindsY bb bb cb x0 x1 x2 v L)
            (fun pre bl W => bl = [ib] ∧ W.heap[ib]? = some (.cells #[.int .i64 (pre.length : Int)] 3 (0, 0)) ∧ Below ib w13 W ∧ w13.heap.size ≤ W.heap.size) (fun cde pre bl W => cde = .exit 11 ∧ (bl = [ib] ∧ W.heap[ib]? = some (.cells #[.int .i64 (pre.length : Int)] 3 (0, 0)) ∧ Below ib w13 W ∧ w13.heap.size ≤ W.heap.size) ∧ (pre.length : Int) = x5) ?_ ?_ ?_ (bl0 := [ib]) ?_ ?_ vy_gift vy_lt vy_same
            (each_iter 2 w13.heap.size bb bb cb x0 x1 x2 v L HL1.out.1 HL1.out.2)
            ?a1_r (fun q W0 => W0.alloc (.cells #[.int .i64 q.e.key, .bool q.e.trim, .slice q.e.a q.e.n q.e.c] 35 (0, 0))) ?_ ?assign_r ?body_r ?done_r ?stop_r)
          case assign_r =>
            intro l q W K hK
            have HK := Lib.hid hK
            clear hK
            gi_wp2
            exact HK.out
          · rintro pre bl X Y ⟨rfl, h1, h2, h3⟩ f
            exact ⟨rfl, (f.same ib (.inr (by simp)) (lt_of_block h1)).trans h1, h2.trans { os := f.os, tape := f.tape, output := f.output, size := f.size, block := fun z hz => f.same z (.inl ⟨by have := HIB.out.2.2.1; omega, by simp⟩) (by have := lt_of_block h1; omega) }, Nat.le_trans h3 f.size⟩
          · rintro cde pre bl X Y ⟨h0, ⟨rfl, h1, h2, h3⟩, h4⟩ f
            exact ⟨h0, ⟨rfl, (f.same ib (.inr (by simp)) (lt_of_block h1)).trans h1, h2.trans { os := f.os, tape := f.tape, output := f.output, size := f.size, block := fun z hz => f.same z (.inl ⟨by have := HIB.out.2.2.1; omega, by simp⟩) (by have := lt_of_block h1; omega) }, Nat.le_trans h3 f.size⟩, h4⟩
          · rintro pre bl X ⟨rfl, h1, _⟩ k hk
            rw [List.mem_singleton.1 hk]; exact lt_of_block h1
          · exact ⟨rfl, HIB.out.2.1, Below.refl _ _, Nat.le_refl _⟩
          · intro W hW
            refine ⟨H13.out.1.b.buf.below hW, (hW.block cb HIB.out.2.2.2.2.2.1).trans HIB.out.2.2.2.1, fun e he q hq hm => ?_⟩
            have h1 := H13.out.2.2.2.1 e he q hq
            have h2 := HIB.out.2.2.1
            simp only [List.mem_cons, List.not_mem_nil, or_false] at hm
            omega
          · intro q W
            exact (Below.refl _ _).alloc (Nat.le_refl _) _
          case body_r =>
            rintro l pre bl q W0 W hB0 hsz hW hbl hgf ⟨rfl, h1, h2, h3⟩ hV
            obtain ⟨hVi, ⟨d, hd, z1, z2, z3, z4⟩, hVf, hVg, hVb⟩ := hV
            obtain ⟨eb, heb⟩ : ∃ eb, eb = W0.heap.size := ⟨_, rfl⟩
            have hK : W.heap[eb]? = some (.cells #[.int .i64 q.e.key, .bool q.e.trim, .slice q.e.a q.e.n q.e.c] 35 (0, 0)) := by
              rw [hW eb (by rw [heb]; simp) (by omega), heb]
              exact heap_alloc_new W0 _
            rw [← heb]
            have hib4 := HIB.out.2.2.1
            obtain ⟨hPC, hTB⟩ := HUP.out W h2 (by omega)
            rw [hVi] at hd
            obtain ⟨ee, he, y1, y2, y3⟩ := cores_get hPC.b.alike hd
            obtain ⟨j, hj⟩ : ∃ j, j = pre.length := ⟨_, rfl⟩
            rw [← hj] at h1 hVi he
            have hjN : j < N := by rw [HNL.out.1]; exact (List.getElem?_eq_some_iff.1 he).1
            have HJ : Hid (((pre ++ [q]).length : Int) = (j : Int) + 1) := by show _ = _; rw [List.length_append, hj]; simp
            have cI := cell_regrown (cell_of_one h1)
            have cP := cell_regrown (cell_of_one hPC.pB)
            have cS := cell_regrown (cell_of_one hPC.sB)
            have cX := hPC.b.ref.cells.2.2.2.1
            rw [← HNL.out.1] at cX
            replace cX := cell_regrown cX
            obtain ⟨ge, rfl, _, m0, m1, m2⟩ := row_cells hPC.b.ref.row he
            replace m0 := cell_regrown m0
            replace m1 := cell_regrown m1
            replace m2 := cell_regrown m2
            obtain ⟨c0, c1, c2, _⟩ := ent3 hK
            replace c0 := cell_regrown c0
            replace c1 := cell_regrown c1
            replace c2 := cell_regrown c2
            have HSm : Hid (∀ p os, Calls Tryd.prog 15 #[.agg #[.int .i64 q.e.key, .bool q.e.trim, .slice q.e.a q.e.n q.e.c], .agg #[.int .i64 ee.key, .bool ee.trim, .slice ee.a ee.n ee.c]] (Sort.grow (redrawn W p) os) fun x w'' => x = .returned (.bool true) ∧ ∃ p : Regrown, w'' = Sort.grow (redrawn W p.d) p.os) := fun p os => Calls.regrown_of (sameC_any (d := q.e) (e := ee) (hVf.pol.below (below_regrown W p os)) ((hPC.b.ref.ents ee (List.mem_of_getElem? he)).1.below (below_regrown W p os)) (z1.trans y1) (z2.trans y2) (z4.trans y3))
            have u1 : decide ((N : Int) ≤ (j : Int)) = false := decide_eq_false (by omega)
            have u1' : decide (N ≤ j) = false := decide_eq_false (by omega)
            have u2 : (0 : Int) ≤ (j : Int) := by omega
            have u3 : (j : Int) < (N : Int) := by omega
            have u4 : ((j : Int) == (j : Int)) = true := by simp
            have hj64 : j ≤ 64 := by have := HNL.out.2.2.2; omega
            have hjj : ((q.i : Nat) : Int) = (j : Int) := by rw [hVi]
            have hSt := regrown_start W
            have HBo := Lib.hid (And.intro h1 (And.intro h2 (And.intro h3 (And.intro hPC hTB))))
            try rw [hjj]
            clear hW hbl hgf hVf hVg hVb hd z1 z2 z3 z4 y1 y2 y3 hK he h1 h2 h3 hPC hTB hB0 hsz heb hib4 hj hVi hjj
            gi_wp2
            refine wpIn_round_quiet (C := fun w' => ∃ p : Regrown, w' = Sort.grow (redrawn W p.d) p.os) (by kernel_rfl) (by kernel_rfl) (by kernel_rfl) hSt ?_
            repeat (go_big_quiet_step (first
              | (go_at_call 15; with_reducible exact HSm.out _ _)))
            refine wpQuiet_nil ?_
            intro _ hw'
            obtain ⟨⟨dq, osq⟩, hw''⟩ := hw'
            subst hw''
            have b6 := below_regrown W dq osq
            generalize Sort.grow (redrawn W dq) osq = W6 at b6 ⊢
            clear cI cP cS cX m0 m1 m2 c0 c1 c2 HSm hSt
            obtain ⟨h1, h2, h3, hPC, hTB⟩ := HBo.out
            have i6 := (b6.block ib (lt_of_block h1)).trans h1
            have t6 := (b6.block tb (lt_of_block hTB)).trans hTB
            have s6 := (b6.block sb (lt_of_block hPC.sB)).trans hPC.sB
            have o7 := Only.setCell W6 ⟨ib, 0, none⟩ (.int .i64 ((j : Int) + 1))
            have htbi : tb ≠ ib := by have := HIB.out.2.2.2.2.2.2.2.1; omega
            have hsbi : sb ≠ ib := by have := HIB.out.2.2.2.2.2.2.1; have := hPC.low; omega
            have i7 : (W6.setCell ⟨ib, 0, none⟩ (.int .i64 ((j : Int) + 1))).heap[ib]? = some (.cells #[.int .i64 ((j : Int) + 1)] 3 (0, 0)) := one_setCell i6
            have t7 := (o7.block tb htbi).trans t6
            have s7 := (o7.block sb hsbi).trans s6
            have HN : Hid (Tn (gift q ++ [ib]) W (W6.setCell ⟨ib, 0, none⟩ (.int .i64 ((j : Int) + 1))) [ib] ∧ ((W6.setCell ⟨ib, 0, none⟩ (.int .i64 ((j : Int) + 1))).heap[ib]? = some (.cells #[.int .i64 ((pre ++ [q]).length : Int)] 3 (0, 0)) ∧ Below ib w13 (W6.setCell ⟨ib, 0, none⟩ (.int .i64 ((j : Int) + 1))) ∧ w13.heap.size ≤ (W6.setCell ⟨ib, 0, none⟩ (.int .i64 ((j : Int) + 1))).heap.size)) := by
              have ht := (Tn.below (bl := gift q ++ [ib]) b6).trans (Tn.setCell W6 ⟨ib, 0, none⟩ (.int .i64 ((j : Int) + 1)) (by simp))
              refine ⟨⟨ht.os, ht.tape, ht.output, ht.size, ht.same, fun k hk => .inl (List.mem_append_right _ hk)⟩, by rw [HJ.out]; exact i7, (h2.trans (b6.mono (by have := lt_of_block h1; omega))).setCell (Nat.le_refl _) _, ?_⟩
              rw [o7.size]
              exact Nat.le_trans h3 b6.size
            have g1 := cell_of_one i6
            have g2 := free_of_one i6
            have g3 := cell_of_one i7
            have g4 := cell_of_one t7
            have g5 := cell_of_one s7
            clear h1 h2 h3 hPC hTB i6 t6 s6 o7 htbi hsbi i7 t7 s7 b6 HBo u1 u1' u2 u3 u4
            by_cases hs : (j : Int) + 1 = x5
            · have hs2 : ((j : Int) + 1 == x5) = true := by simp [hs]
              have HS := Lib.hid hs
              clear hs
              gi_wp2
              exact ⟨_, HN.out.1, rfl, ⟨rfl, HN.out.2⟩, by rw [HJ.out]; exact HS.out⟩
            · have hs2 : ((j : Int) + 1 == x5) = false := by simp [hs]
              clear hs
              gi_wp2
              exact ⟨_, HN.out.1, rfl, HN.out.2⟩
          case done_r =>
            rintro Dr xs bl W hD hDl hDb hS ⟨rfl, h1, h2, h3⟩ hdef
            have hlen : xs.length = N := by rw [hS.2]; exact HNL.out.2.1.symm
            rw [hlen] at h1
            have hDX : ib < Dr := by have := HIB.out.2.2.1; omega
            obtain ⟨hPC, hTB⟩ := HUP.out W h2 (by have := HIB.out.2.2.1; omega)
            have p1 := cell_of_one hPC.pB
            have p2 := hPC.b.ref.cells.2.2.2.1
            rw [← HNL.out.1] at p2
            have p3 := cell_of_one h1
            have p4 := cell_of_one hTB
            have p5 := cell_of_one hPC.sB
            have u5 : ((N : Int) == (N : Int)) = true := by simp
            have HW := Lib.hid (And.intro hPC (And.intro hTB (And.intro hdef (And.intro h2 (And.intro hDX trivial)))))
            clear hPC hTB h1 h2 h3 hdef hDb hDl hD hDX hS hlen
            go_wp2_with fail
            go_quiet (fail)
            have bD := (Drawn.mk W nq).below W.heap.size
            generalize W.drewN nq = w14 at bD ⊢
            clear p1 p2 p3 p4 p5
            have q4 := cell_of_one ((bD.block tb (lt_of_block HW.out.2.1)).trans HW.out.2.1)
            have hmk := newI64 w14 _ 1 rfl
            have Hst : Hid (PlayC w base bb xb sb rb pb x0 x1 x2 x5 v (.slice av M.length cv) L M (w14.alloc (.cells #[.int .i64 1] 3 (0, 0))) ∧ (w14.alloc (.cells #[.int .i64 1] 3 (0, 0))).heap[w14.heap.size]? = some (.cells #[.int .i64 1] 3 (0, 0)) ∧ bb < w14.heap.size ∧ (w14.alloc (.cells #[.int .i64 1] 3 (0, 0))).heap[Dr]? = some (.deferred (some [])) ∧ bb < Dr) := by
              have bb14 := bD.trans (hmk.2.mono bD.size)
              have h5 := HW.out.1.b.buf.lt
              have h6 := bD.size
              refine ⟨HW.out.1.below HBS.out bb14, hmk.1, by omega, (bb14.block Dr (lt_of_block HW.out.2.2.1)).trans HW.out.2.2.1, by have := HW.out.2.2.2.2.1; have := HIB.out.2.2.2.2.2.2.1; omega⟩
            clear bD HW hmk
            go_wp2_with fail
            generalize (w14.alloc (.cells #[.int .i64 1] 3 (0, 0))) = w15 at Hst ⊢
            generalize w14.heap.size = tb1 at Hst ⊢
            clear q4 H13 HUP 
            rw [rounds_succ]
            obtain ⟨tb, rfl⟩ : ∃ x, x = tb1 := ⟨_, rfl⟩
            as_aux_lemma =>
              have q29 := cell_of_one Hst.out.2.1
              go_wp2_with fail
              generalize hw : w15.alloc (.cells #[.int .i64 0] 3 (0, 0)) = w12
              obtain ⟨KI, bI⟩ := newI64 w15 w12 0 hw
              clear hw
              obtain ⟨ib, hib⟩ : ∃ ib, ib = w15.heap.size := ⟨_, rfl⟩
              rw [← hib] at KI ⊢
              refine (each_any bb w12).mono ?_
              rintro e w13 ⟨rfl, hcb, hb2⟩
              obtain ⟨cb, hcbe⟩ : ∃ cb, cb = w12.heap.size := ⟨_, rfl⟩
              rw [← hcbe] at hcb ⊢
              have b13 := bI.trans (hb2.mono bI.size)
              have hci := lt_of_block KI
              have HIB : Hid (ib = w15.heap.size ∧ w13.heap[ib]? = some (.cells #[.int .i64 0] 3 (0, 0)) ∧ ib < w13.heap.size ∧ w13.heap[cb]? = some (.cells #[.pointer (some ⟨bb, 0, none⟩)] 24 (0, 0)) ∧ ib < cb ∧ cb < w13.heap.size ∧ bb < ib ∧ tb < ib ∧ pb < ib) := ⟨hib, (hb2.block ib hci).trans KI, Nat.lt_of_lt_of_le hci hb2.size, hcb, by omega, lt_of_block hcb, by have := Hst.out.1.b.buf.lt; omega, by have := lt_of_block Hst.out.2.1; omega, by have := lt_of_block Hst.out.1.pB; omega⟩
              have H13 : Hid (PlayC w base bb xb sb rb pb x0 x1 x2 x5 v (.slice av M.length cv) L M w13 ∧ w13.heap[tb]? = some (.cells #[.int .i64 1] 3 (0, 0)) ∧ bb < tb ∧ (∀ e ∈ L, ∀ q, e.a = some q → q.block < ib) ∧ (∀ k ∈ allb bb v L, k < ib) ∧ (∀ k ∈ allb xb (.slice av M.length cv) M, k < ib)) := ⟨Hst.out.1.below HBS.out b13, (b13.block tb (lt_of_block Hst.out.2.1)).trans Hst.out.2.1, Hst.out.2.2.1, fun e he q hq => by rw [hib]; exact ((Hst.out.1.b.buf.ents e he).2 q hq).2.1, fun k hk => by rw [hib]; exact (Hst.out.1.b.buf.allb_lt k hk).2, fun k hk => by rw [hib]; exact (Hst.out.1.b.ref.allb_lt k hk).2⟩
              have HDL : Hid (bb < Dr ∧ Dr < ib) := ⟨Hst.out.2.2.2.2, by rw [hib]; exact lt_of_block Hst.out.2.2.2.1⟩
              have HDS : Hid (∀ W, Below ib w13 W → W.heap[Dr]? = some (.deferred (some []))) := fun W b => (b.block Dr HDL.out.2).trans ((b13.block Dr (lt_of_block Hst.out.2.2.2.1)).trans Hst.out.2.2.2.1)
              have HUP : Hid (∀ W, Below ib w13 W → ib ≤ W.heap.size → PlayC w base bb xb sb rb pb x0 x1 x2 x5 v (.slice av M.length cv) L M W ∧ W.heap[tb]? = some (.cells #[.int .i64 1] 3 (0, 0))) := fun W b hs => by
                refine ⟨?_, (b.block tb HIB.out.2.2.2.2.2.2.2.1).trans H13.out.2.1⟩
                have h := H13.out.1
                have hl := h.low
                have hws : w13.heap.size ≤ W.heap.size := b.size
                exact ⟨h.b.far hws (fun k hk => b.block k (H13.out.2.2.2.2.1 k hk)) (fun k hk => b.block k (H13.out.2.2.2.2.2 k hk)), h.p1, h.p2, (b.block sb (by have := HIB.out.2.2.2.2.2.2.1; omega)).trans h.sB, (b.block rb (by have := HIB.out.2.2.2.2.2.2.1; omega)).trans h.rB, (b.block pb HIB.out.2.2.2.2.2.2.2.2).trans h.pB, hl, h.w.trans (b.mono (by have := HIB.out.2.2.2.2.2.2.1; omega))⟩
              clear hcb hb2 b13 KI bI hci hib hcbe q29 Hst
              go_wp2_with fail
              refine wpIn_wide.1 (range_gift (n := 3) (gf := 30) (lb := #[.pointer (some ⟨cb, 0, none⟩)]) rfl (enters_of Tryd.func30 (by kernel_rfl) rfl)
                (encs := encY) (fun _ => rfl) (gift := gift) (V := VY L w13.heap.size) [] (C := FindsY bb bb cb x0 x1 x2 v L)
                (fun pre bl W => bl = [ib] ∧ W.heap[ib]? = some (.cells #[.int .i64 (pre.length : Int)] 3 (0, 0)) ∧ Below ib w13 W ∧ w13.heap.size ≤ W.heap.size) (fun _ _ _ _ => False) ?_ ?_ ?_ (bl0 := [ib]) ?_ ?_ vy_gift vy_lt vy_same
                (each_iter 2 w13.heap.size bb bb cb x0 x1 x2 v L HL1.out.1 HL1.out.2)
                ?a1_ra (fun q W0 => W0.alloc (.cells #[.int .i64 q.e.key, .bool q.e.trim, .slice q.e.a q.e.n q.e.c] 35 (0, 0))) ?_ ?assign_ra ?body_ra ?done_ra ?stop_ra)
              case assign_ra =>
                intro l q W K hK
                have HK := Lib.hid hK
                clear hK
                gi_wp2
                exact HK.out
              · rintro pre bl X Y ⟨rfl, h1, h2, h3⟩ f
                exact ⟨rfl, (f.same ib (.inr (by simp)) (lt_of_block h1)).trans h1, h2.trans { os := f.os, tape := f.tape, output := f.output, size := f.size, block := fun z hz => f.same z (.inl ⟨by have := HIB.out.2.2.1; omega, by simp⟩) (by have := lt_of_block h1; omega) }, Nat.le_trans h3 f.size⟩
              · rintro cde pre bl X Y h f
                exact h.elim
              · rintro pre bl X ⟨rfl, h1, _⟩ k hk
                rw [List.mem_singleton.1 hk]; exact lt_of_block h1
              · exact ⟨rfl, HIB.out.2.1, Below.refl _ _, Nat.le_refl _⟩
              · intro W hW
                refine ⟨H13.out.1.b.buf.below hW, (hW.block cb HIB.out.2.2.2.2.2.1).trans HIB.out.2.2.2.1, fun e he q hq hm => ?_⟩
                have h1 := H13.out.2.2.2.1 e he q hq
                have h2 := HIB.out.2.2.1
                simp only [List.mem_cons, List.not_mem_nil, or_false] at hm
                omega
              · intro q W
                exact (Below.refl _ _).alloc (Nat.le_refl _) _
              case body_ra =>
                rintro l pre bl q W0 W hB0 hsz hW hbl hgf ⟨rfl, h1, h2, h3⟩ hV
                obtain ⟨hVi, ⟨d, hd, z1, z2, z3, z4⟩, hVf, hVg, hVb⟩ := hV
                obtain ⟨eb, heb⟩ : ∃ eb, eb = W0.heap.size := ⟨_, rfl⟩
                have hK : W.heap[eb]? = some (.cells #[.int .i64 q.e.key, .bool q.e.trim, .slice q.e.a q.e.n q.e.c] 35 (0, 0)) := by
                  rw [hW eb (by rw [heb]; simp) (by omega), heb]
                  exact heap_alloc_new W0 _
                rw [← heb]
                have hib4 := HIB.out.2.2.1
                obtain ⟨hPC, hTB⟩ := HUP.out W h2 (by omega)
                rw [hVi] at hd
                obtain ⟨ee, he, y1, y2, y3⟩ := cores_get hPC.b.alike hd
                obtain ⟨j, hj⟩ : ∃ j, j = pre.length := ⟨_, rfl⟩
                rw [← hj] at h1 hVi he
                have hjN : j < N := by rw [HNL.out.1]; exact (List.getElem?_eq_some_iff.1 he).1
                have HJ : Hid (((pre ++ [q]).length : Int) = (j : Int) + 1) := by show _ = _; rw [List.length_append, hj]; simp
                have cI := cell_regrown (cell_of_one h1)
                have cP := cell_regrown (cell_of_one hPC.pB)
                have cS := cell_regrown (cell_of_one hPC.sB)
                have cX := hPC.b.ref.cells.2.2.2.1
                rw [← HNL.out.1] at cX
                replace cX := cell_regrown cX
                obtain ⟨ge, rfl, _, m0, m1, m2⟩ := row_cells hPC.b.ref.row he
                replace m0 := cell_regrown m0
                replace m1 := cell_regrown m1
                replace m2 := cell_regrown m2
                obtain ⟨c0, c1, c2, _⟩ := ent3 hK
                replace c0 := cell_regrown c0
                replace c1 := cell_regrown c1
                replace c2 := cell_regrown c2
                have HSm : Hid (∀ p os, Calls Tryd.prog 15 #[.agg #[.int .i64 q.e.key, .bool q.e.trim, .slice q.e.a q.e.n q.e.c], .agg #[.int .i64 ee.key, .bool ee.trim, .slice ee.a ee.n ee.c]] (Sort.grow (redrawn W p) os) fun x w'' => x = .returned (.bool true) ∧ ∃ p : Regrown, w'' = Sort.grow (redrawn W p.d) p.os) := fun p os => Calls.regrown_of (sameC_any (d := q.e) (e := ee) (hVf.pol.below (below_regrown W p os)) ((hPC.b.ref.ents ee (List.mem_of_getElem? he)).1.below (below_regrown W p os)) (z1.trans y1) (z2.trans y2) (z4.trans y3))
                have u1 : decide ((N : Int) ≤ (j : Int)) = false := decide_eq_false (by omega)
                have u1' : decide (N ≤ j) = false := decide_eq_false (by omega)
                have u2 : (0 : Int) ≤ (j : Int) := by omega
                have u3 : (j : Int) < (N : Int) := by omega
                have u4 : ((j : Int) == (j : Int)) = true := by simp
                have hj64 : j ≤ 64 := by have := HNL.out.2.2.2; omega
                have hjj : ((q.i : Nat) : Int) = (j : Int) := by rw [hVi]
                have hSt := regrown_start W
                have HBo := Lib.hid (And.intro h1 (And.intro h2 (And.intro h3 (And.intro hPC hTB))))
                try rw [hjj]
                clear hW hbl hgf hVf hVg hVb hd z1 z2 z3 z4 y1 y2 y3 hK he h1 h2 h3 hPC hTB hB0 hsz heb hib4 hj hVi hjj
                gi_wp2
                refine wpIn_round_quiet (C := fun w' => ∃ p : Regrown, w' = Sort.grow (redrawn W p.d) p.os) (by kernel_rfl) (by kernel_rfl) (by kernel_rfl) hSt ?_
                repeat (go_big_quiet_step (first
                  | (go_at_call 15; with_reducible exact HSm.out _ _)))
                refine wpQuiet_nil ?_
                intro _ hw'
                obtain ⟨⟨dq, osq⟩, hw''⟩ := hw'
                subst hw''
                have b6 := below_regrown W dq osq
                generalize Sort.grow (redrawn W dq) osq = W6 at b6 ⊢
                clear cI cP cS cX m0 m1 m2 c0 c1 c2 HSm hSt
                obtain ⟨h1, h2, h3, hPC, hTB⟩ := HBo.out
                have i6 := (b6.block ib (lt_of_block h1)).trans h1
                have t6 := (b6.block tb (lt_of_block hTB)).trans hTB
                have s6 := (b6.block sb (lt_of_block hPC.sB)).trans hPC.sB
                have o7 := Only.setCell W6 ⟨ib, 0, none⟩ (.int .i64 ((j : Int) + 1))
                have htbi : tb ≠ ib := by have := HIB.out.2.2.2.2.2.2.2.1; omega
                have hsbi : sb ≠ ib := by have := HIB.out.2.2.2.2.2.2.1; have := hPC.low; omega
                have i7 : (W6.setCell ⟨ib, 0, none⟩ (.int .i64 ((j : Int) + 1))).heap[ib]? = some (.cells #[.int .i64 ((j : Int) + 1)] 3 (0, 0)) := one_setCell i6
                have t7 := (o7.block tb htbi).trans t6
                have s7 := (o7.block sb hsbi).trans s6
                have HN : Hid (Tn (gift q ++ [ib]) W (W6.setCell ⟨ib, 0, none⟩ (.int .i64 ((j : Int) + 1))) [ib] ∧ ((W6.setCell ⟨ib, 0, none⟩ (.int .i64 ((j : Int) + 1))).heap[ib]? = some (.cells #[.int .i64 ((pre ++ [q]).length : Int)] 3 (0, 0)) ∧ Below ib w13 (W6.setCell ⟨ib, 0, none⟩ (.int .i64 ((j : Int) + 1))) ∧ w13.heap.size ≤ (W6.setCell ⟨ib, 0, none⟩ (.int .i64 ((j : Int) + 1))).heap.size)) := by
                  have ht := (Tn.below (bl := gift q ++ [ib]) b6).trans (Tn.setCell W6 ⟨ib, 0, none⟩ (.int .i64 ((j : Int) + 1)) (by simp))
                  refine ⟨⟨ht.os, ht.tape, ht.output, ht.size, ht.same, fun k hk => .inl (List.mem_append_right _ hk)⟩, by rw [HJ.out]; exact i7, (h2.trans (b6.mono (by have := lt_of_block h1; omega))).setCell (Nat.le_refl _) _, ?_⟩
                  rw [o7.size]
                  exact Nat.le_trans h3 b6.size
                have g1 := cell_of_one i6
                have g2 := free_of_one i6
                have g3 := cell_of_one i7
                have g4 := cell_of_one t7
                have g5 := cell_of_one s7
                clear h1 h2 h3 hPC hTB i6 t6 s6 o7 htbi hsbi i7 t7 s7 b6 HBo u1 u1' u2 u3 u4
                gi_wp2
                exact ⟨_, HN.out.1, rfl, HN.out.2⟩
              case done_ra =>
                rintro Dra xs bl W hD hDl hDb hS ⟨rfl, h1, h2, h3⟩ hdef
                have hlen : xs.length = N := by rw [hS.2]; exact HNL.out.2.1.symm
                rw [hlen] at h1
                have hDX : ib < Dra := by have := HIB.out.2.2.1; omega
                obtain ⟨hPC, hTB⟩ := HUP.out W h2 (by have := HIB.out.2.2.1; omega)
                have p1 := cell_of_one hPC.pB
                have p2 := hPC.b.ref.cells.2.2.2.1
                rw [← HNL.out.1] at p2
                have p3 := cell_of_one h1
                have p4 := cell_of_one hTB
                have p5 := cell_of_one hPC.sB
                have u5 : ((N : Int) == (N : Int)) = true := by simp
                have HW := Lib.hid (And.intro hPC (And.intro hTB (And.intro hdef (And.intro h2 (And.intro hDX (HDS.out W h2))))))
                clear hPC hTB h1 h2 h3 hdef hDb hDl hD hDX hS hlen
                go_wp2_with fail
                go_quiet (fail)
                have bD := (Drawn.mk W nq).below W.heap.size
                generalize W.drewN nq = w14 at bD ⊢
                clear p1 p2 p3 p4 p5
                have q4 := cell_of_one ((bD.block tb (lt_of_block HW.out.2.1)).trans HW.out.2.1)
                have hmk := newI64 w14 _ 2 rfl
                have Hst : Hid (PlayC w base bb xb sb rb pb x0 x1 x2 x5 v (.slice av M.length cv) L M (w14.alloc (.cells #[.int .i64 2] 3 (0, 0))) ∧ (w14.alloc (.cells #[.int .i64 2] 3 (0, 0))).heap[w14.heap.size]? = some (.cells #[.int .i64 2] 3 (0, 0)) ∧ bb < w14.heap.size ∧ (w14.alloc (.cells #[.int .i64 2] 3 (0, 0))).heap[Dra]? = some (.deferred (some [])) ∧ bb < Dra ∧ (w14.alloc (.cells #[.int .i64 2] 3 (0, 0))).heap[Dr]? = some (.deferred (some [])) ∧ bb < Dr ∧ Dra ≠ Dr) := by
                  have bb14 := bD.trans (hmk.2.mono bD.size)
                  have h5 := HW.out.1.b.buf.lt
                  have h6 := bD.size
                  refine ⟨HW.out.1.below HBS.out bb14, hmk.1, by omega, (bb14.block Dra (lt_of_block HW.out.2.2.1)).trans HW.out.2.2.1, by have := HW.out.2.2.2.2.1; have := HIB.out.2.2.2.2.2.2.1; omega, (bb14.block Dr (lt_of_block HW.out.2.2.2.2.2)).trans HW.out.2.2.2.2.2, HDL.out.1, by have := HDL.out.2; have := HW.out.2.2.2.2.1; omega⟩
                clear bD HW hmk
                go_wp2_with fail
                generalize (w14.alloc (.cells #[.int .i64 2] 3 (0, 0))) = w15 at Hst ⊢
                generalize w14.heap.size = tb1 at Hst ⊢
                clear q4 H13 HUP HDS HDL
                rw [rounds_succ]
                obtain ⟨tb, rfl⟩ : ∃ x, x = tb1 := ⟨_, rfl⟩
                as_aux_lemma =>
                  have q29 := cell_of_one Hst.out.2.1
                  have hPC := Hst.out.1
                  have g1 := cell_of_one hPC.pB
                  have g2 := hPC.b.ref.cells.2.2.2.1
                  rw [← HNL.out.1] at g2
                  have g3 := cell_of_one hPC.rB
                  have g4 := free_of_one hPC.rB
                  have hrl : rb < bb ∧ bb < xb ∧ bb < pb := ⟨hPC.low.2.2.2.1, hPC.b.mineL, hPC.low.2.2.2.2.2⟩
                  have HSk : Hid (∀ W, Tn [rb] w15 W [rb] → (W.cell? ⟨pb, 0, none⟩ = some (.pointer (some ⟨xb, 0, none⟩)) ∧ W.cell? ⟨xb, 3, none⟩ = some (.slice av N cv) ∧ Tn [rb] w15 W [rb])) := fun W t => ⟨(cell_heap (t.same pb (lt_of_block hPC.pB) (by simp; omega))).trans g1, (cell_heap (t.same xb hPC.b.ref.lt (by simp; omega))).trans g2, t⟩
                  have HBf : Hid (∀ W, Tn [rb] w15 W [rb] → BufAt W bb bb x0 x1 x2 v L ∧ RefAt W xb xb x0 x1 x2 (.slice av M.length cv) M) := fun W t => ⟨hPC.b.buf.far t.size fun k hk => t.same k (hPC.b.buf.allb_lt k hk).2 (by have := (hPC.b.buf.allb_lt k hk).1; simp; omega), hPC.b.ref.far t.size fun k hk => t.same k (hPC.b.ref.allb_lt k hk).2 (by have := (hPC.b.ref.allb_lt k hk).1; simp; omega)⟩
                  have HSt : Hid (∀ W, (W.cell? ⟨pb, 0, none⟩ = some (.pointer (some ⟨xb, 0, none⟩)) ∧ W.cell? ⟨xb, 3, none⟩ = some (.slice av N cv) ∧ Tn [rb] w15 W [rb]) → ((W.setCell ⟨rb, 0, none⟩ (.bool true)).cell? ⟨pb, 0, none⟩ = some (.pointer (some ⟨xb, 0, none⟩)) ∧ (W.setCell ⟨rb, 0, none⟩ (.bool true)).cell? ⟨xb, 3, none⟩ = some (.slice av N cv) ∧ Tn [rb] w15 (W.setCell ⟨rb, 0, none⟩ (.bool true)) [rb])) := fun W h => HSk.out _ (h.2.2.trans (Tn.setCell W _ _ (by simp)))
                  have HZt : Hid (∀ W W', Below W.heap.size W W' → (W.cell? ⟨rb, 0, none⟩ = some (.bool false) ∧ W.frozen? ⟨rb, 0, none⟩ = false) → (W'.cell? ⟨rb, 0, none⟩ = some (.bool false) ∧ W'.frozen? ⟨rb, 0, none⟩ = false)) := fun W W' b h => ⟨(b.cell (World.block_lt_of_cell? W _ h.1)).trans h.1, (b.frozen (World.block_lt_of_cell? W _ h.1)).trans h.2⟩
                  have HEn : Hid (∀ W, (W.cell? ⟨pb, 0, none⟩ = some (.pointer (some ⟨xb, 0, none⟩)) ∧ W.cell? ⟨xb, 3, none⟩ = some (.slice av N cv) ∧ Tn [rb] w15 W [rb]) → (W.cell? ⟨rb, 0, none⟩ = some (.bool false) ∧ W.frozen? ⟨rb, 0, none⟩ = false) → Calls Tryd.prog 20 #[.pointer (some ⟨bb, 0, none⟩)] W fun e W' => ∃ a4 n4 c4, e = .returned (.slice a4 n4 c4) ∧ OutE M N W' a4 n4 c4 ∧ (W'.cell? ⟨pb, 0, none⟩ = some (.pointer (some ⟨xb, 0, none⟩)) ∧ W'.cell? ⟨xb, 3, none⟩ = some (.slice av N cv) ∧ Tn [rb] w15 W' [rb]) ∧ (W'.cell? ⟨rb, 0, none⟩ = some (.bool false) ∧ W'.frozen? ⟨rb, 0, none⟩ = false)) := fun W hS hZ => by
                    refine (entries_any (HBf.out W hS.2.2).1 HL1.out.1 HL1.out.2).mono ?_
                    rintro e W' ⟨v', ys, rfl, h1, h2, h3, h4, h5, h6⟩
                    obtain ⟨a4, c4, rfl, h7, _, _⟩ := row_slice h3
                    refine ⟨a4, _, c4, rfl, ⟨ys.map Yd.e, rfl, by rw [List.length_map, h2]; exact HNL.out.2.1.symm, h7, entsAt_of h3 (fun e he => ?_), (preY_cores h1 h2).trans Hst.out.1.b.alike⟩, HSk.out W' (hS.2.2.trans (Tn.below h4)), HZt.out W W' h4 hZ⟩
                    obtain ⟨y, hy, rfl⟩ := List.mem_map.1 he
                    exact (h5 y hy).1.pol
                  have HSs : Hid (∀ a4 n4 c4 W, OutE M N W a4 n4 c4 → (W.cell? ⟨pb, 0, none⟩ = some (.pointer (some ⟨xb, 0, none⟩)) ∧ W.cell? ⟨xb, 3, none⟩ = some (.slice av N cv) ∧ Tn [rb] w15 W [rb]) → (W.cell? ⟨rb, 0, none⟩ = some (.bool false) ∧ W.frozen? ⟨rb, 0, none⟩ = false) → Calls Tryd.prog 19 #[.slice a4 n4 c4, .slice av N cv] W fun e W' => e = .returned (.bool true) ∧ (W'.cell? ⟨pb, 0, none⟩ = some (.pointer (some ⟨xb, 0, none⟩)) ∧ W'.cell? ⟨xb, 3, none⟩ = some (.slice av N cv) ∧ Tn [rb] w15 W' [rb]) ∧ (W'.cell? ⟨rb, 0, none⟩ = some (.bool false) ∧ W'.frozen? ⟨rb, 0, none⟩ = false)) := fun a4 n4 c4 W hO hS hZ => by
                    obtain ⟨K, k1, k2, k3, k4, k5⟩ := hO
                    have hR := (HBf.out W hS.2.2).2
                    have h64 := HNL.out.2.2.2
                    refine (sames_any k1 HNL.out.1 k4 (entsAt_of hR.row (fun e he => (hR.ents e he).1)) k5 k3 (by rw [HNL.out.1]; exact HCV.out) (by omega)).mono ?_
                    rintro e W' ⟨rfl, b⟩
                    exact ⟨rfl, HSk.out W' (hS.2.2.trans (Tn.below b)), HZt.out W W' b hZ⟩
                  have hS0 := HSk.out w15.drew (Tn.below ((Drawn.mk w15 1).below _))
                  have hZ0 := HZt.out w15 w15.drew ((Drawn.mk w15 1).below _) ⟨g3, g4⟩
                  clear hPC hrl
                  go_upto_region 60 with (fail)
                  clear q29 g1 g2 g3 g4
                  go_region_held3 (fun W => (W.cell? ⟨pb, 0, none⟩ = some (.pointer (some ⟨xb, 0, none⟩)) ∧ W.cell? ⟨xb, 3, none⟩ = some (.slice av N cv) ∧ Tn [rb] w15 W [rb]))
                    (first | assumption | exact HSt.out _ (by assumption) | exact ⟨by assumption, by assumption, by assumption⟩)
                    ((first
                      | (go_at_call 20; refine Calls.mono (HEn.out _ (by assumption) (by assumption)) ?_; rintro e wE ⟨a4, n4, c4, rfl, hO4, hS4, hZ4⟩)
                      | (go_at_call 19; refine Calls.mono (HSs.out _ _ _ _ (by assumption) (by assumption) (by assumption)) ?_; rintro e wS ⟨rfl, hS5, z1, z2⟩)))
                  have hcs : (wS.setCell ⟨rb, 0, none⟩ (.bool true)).cell? ⟨rb, 0, none⟩ = some (.bool true) := cell_set_rb z1
                  have HF := Lib.hid (And.intro (HSt.out wS hS5).2.2 (And.intro hcs Hst.out.2.2.2))
                  clear hcs hS5 z1 z2 hS4 hZ4 hO4 hS0 hZ0 HEn HSs HSt HSk HZt HBf
                  go_wp2_with fail
                  have hmk := HF.out.2.2
                  have ht := HF.out.1
                  have hrl : rb < bb := Hst.out.1.low.2.2.2.1
                  refine marks_two (by exact hmk.2.2.2.2) ((ht.same Dra (lt_of_block hmk.1) (by simp; omega)).trans hmk.1) ((ht.same Dr (lt_of_block hmk.2.2.1) (by simp; omega)).trans hmk.2.2.1) ?_
                  intro W' e1 e2 e3 e4 e5
                  have g3 : W'.cell? ⟨rb, 0, none⟩ = some (.bool true) := (cell_heap (e5 rb (by omega) (by omega))).trans HF.out.2.1
                  have hb : Below base w (wS.setCell ⟨rb, 0, none⟩ (.bool true)) := Hst.out.1.w.trans (tn_below ht (by have := HBS.out; have := Hst.out.1.w.size; omega) (fun k hk => by rw [List.mem_singleton.1 hk]; exact HPR.out.2.2))
                  have hbb := HBB.out.1
                  exact ⟨_, res_bool rfl rfl g3, rfl, hb.trans { os := e1, tape := e2, output := e3, size := by rw [e4]; exact Nat.le_refl _, block := fun k hk => e5 k (by omega) (by omega) }⟩
              case stop_ra =>
                rintro D cde pre bl W hD hDl hDb hS hix hdef
                exact hix.elim
          case stop_r =>
            rintro Drs cde pre bl W hD hDl hDb hS ⟨rfl, ⟨rfl, h1, h2, h3⟩, hstop⟩ hdef
            have hDX : ib < Drs := by have := HIB.out.2.2.1; omega
            obtain ⟨L5, hlen⟩ : ∃ L5, L5 = pre.length := ⟨_, rfl⟩
            rw [← hlen] at h1 hstop
            have hst2 : ((L5 : Int) == x5) = true := by simp [hstop]
            clear hstop
            obtain ⟨hPC, hTB⟩ := HUP.out W h2 (by have := HIB.out.2.2.1; omega)
            have p1 := cell_of_one hPC.pB
            have p2 := hPC.b.ref.cells.2.2.2.1
            rw [← HNL.out.1] at p2
            have p3 := cell_of_one h1
            have p4 := cell_of_one hTB
            have p5 := cell_of_one hPC.sB
            have HW := Lib.hid (And.intro hPC (And.intro hTB (And.intro hdef (And.intro h2 (And.intro hDX trivial)))))
            clear hPC hTB h1 h2 h3 hdef hDb hDl hD hDX hS hlen
            have HP := Lib.hid (And.intro p1 (And.intro p2 (And.intro p3 (And.intro p4 p5))))
            gi_wp2
            go_upto_region 56 with (fail)
            go_cut [292] from 235 to 293 (fun s292 wx => s292 = .bool false ∧ Hid (∃ nq, wx = W.drewN nq))
            case first =>
              by_cases hLN : L5 = N
              · have u5 : ((L5 : Int) == (N : Int)) = true := by rw [hLN]; simp
                have u6 : (L5 == N) = true := by rw [hLN]; simp
                have hLN' : (L5 : Int) = (N : Int) := by rw [hLN]
                rw [hLN'] at p3
                clear u5 u6 hLN hLN' hst2
                have u5 : ((N : Int) == (N : Int)) = true := by simp
                go_quiet (fail)
                have HQ : Hid (∃ n, W.drewN nq = W.drewN n) := ⟨nq, rfl⟩
                go_wp2_with fail
                go_meet
                case rel => exact ⟨rfl, HQ⟩
              · have u5 : ((L5 : Int) == (N : Int)) = false := by rw [beq_eq_false_iff_ne]; omega
                have u6 : (L5 == N) = false := by rw [beq_eq_false_iff_ne]; exact hLN
                have u7 : ¬ ((L5 : Int) = (N : Int)) := by omega
                clear hLN
                go_quiet (fail)
                have HQ : Hid (∃ n, W.drewN nq = W.drewN n) := ⟨nq, rfl⟩
                go_wp2_with fail
                go_meet
                case rel => exact ⟨rfl, HQ⟩
            case rest =>
              obtain ⟨rfl, HQ⟩ := hcut
              obtain ⟨nq, hq⟩ := HQ.out
              subst hq
              clear HQ HP hst2
              have bD := (Drawn.mk W nq).below W.heap.size
              generalize W.drewN nq = w14 at bD ⊢
              clear p1 p2 p3 p4 p5
              have q4 := cell_of_one ((bD.block tb (lt_of_block HW.out.2.1)).trans HW.out.2.1)
              have hmk := newI64 w14 _ 1 rfl
              have Hst : Hid (PlayC w base bb xb sb rb pb x0 x1 x2 x5 v (.slice av M.length cv) L M (w14.alloc (.cells #[.int .i64 1] 3 (0, 0))) ∧ (w14.alloc (.cells #[.int .i64 1] 3 (0, 0))).heap[w14.heap.size]? = some (.cells #[.int .i64 1] 3 (0, 0)) ∧ bb < w14.heap.size ∧ (w14.alloc (.cells #[.int .i64 1] 3 (0, 0))).heap[Drs]? = some (.deferred (some [])) ∧ bb < Drs) := by
                have bb14 := bD.trans (hmk.2.mono bD.size)
                have h5 := HW.out.1.b.buf.lt
                have h6 := bD.size
                refine ⟨HW.out.1.below HBS.out bb14, hmk.1, by omega, (bb14.block Drs (lt_of_block HW.out.2.2.1)).trans HW.out.2.2.1, by have := HW.out.2.2.2.2.1; have := HIB.out.2.2.2.2.2.2.1; omega⟩
              clear bD HW hmk
              go_wp2_with fail
              generalize (w14.alloc (.cells #[.int .i64 1] 3 (0, 0))) = w15 at Hst ⊢
              generalize w14.heap.size = tb1 at Hst ⊢
              clear q4 H13 HUP 
              rw [rounds_succ]
              obtain ⟨tb, rfl⟩ : ∃ x, x = tb1 := ⟨_, rfl⟩
              as_aux_lemma =>
                have q29 := cell_of_one Hst.out.2.1
                go_wp2_with fail
                generalize hw : w15.alloc (.cells #[.int .i64 0] 3 (0, 0)) = w12
                obtain ⟨KI, bI⟩ := newI64 w15 w12 0 hw
                clear hw
                obtain ⟨ib, hib⟩ : ∃ ib, ib = w15.heap.size := ⟨_, rfl⟩
                rw [← hib] at KI ⊢
                refine (each_any bb w12).mono ?_
                rintro e w13 ⟨rfl, hcb, hb2⟩
                obtain ⟨cb, hcbe⟩ : ∃ cb, cb = w12.heap.size := ⟨_, rfl⟩
                rw [← hcbe] at hcb ⊢
                have b13 := bI.trans (hb2.mono bI.size)
                have hci := lt_of_block KI
                have HIB : Hid (ib = w15.heap.size ∧ w13.heap[ib]? = some (.cells #[.int .i64 0] 3 (0, 0)) ∧ ib < w13.heap.size ∧ w13.heap[cb]? = some (.cells #[.pointer (some ⟨bb, 0, none⟩)] 24 (0, 0)) ∧ ib < cb ∧ cb < w13.heap.size ∧ bb < ib ∧ tb < ib ∧ pb < ib) := ⟨hib, (hb2.block ib hci).trans KI, Nat.lt_of_lt_of_le hci hb2.size, hcb, by omega, lt_of_block hcb, by have := Hst.out.1.b.buf.lt; omega, by have := lt_of_block Hst.out.2.1; omega, by have := lt_of_block Hst.out.1.pB; omega⟩
                have H13 : Hid (PlayC w base bb xb sb rb pb x0 x1 x2 x5 v (.slice av M.length cv) L M w13 ∧ w13.heap[tb]? = some (.cells #[.int .i64 1] 3 (0, 0)) ∧ bb < tb ∧ (∀ e ∈ L, ∀ q, e.a = some q → q.block < ib) ∧ (∀ k ∈ allb bb v L, k < ib) ∧ (∀ k ∈ allb xb (.slice av M.length cv) M, k < ib)) := ⟨Hst.out.1.below HBS.out b13, (b13.block tb (lt_of_block Hst.out.2.1)).trans Hst.out.2.1, Hst.out.2.2.1, fun e he q hq => by rw [hib]; exact ((Hst.out.1.b.buf.ents e he).2 q hq).2.1, fun k hk => by rw [hib]; exact (Hst.out.1.b.buf.allb_lt k hk).2, fun k hk => by rw [hib]; exact (Hst.out.1.b.ref.allb_lt k hk).2⟩
                have HDL : Hid (bb < Drs ∧ Drs < ib) := ⟨Hst.out.2.2.2.2, by rw [hib]; exact lt_of_block Hst.out.2.2.2.1⟩
                have HDS : Hid (∀ W, Below ib w13 W → W.heap[Drs]? = some (.deferred (some []))) := fun W b => (b.block Drs HDL.out.2).trans ((b13.block Drs (lt_of_block Hst.out.2.2.2.1)).trans Hst.out.2.2.2.1)
                have HUP : Hid (∀ W, Below ib w13 W → ib ≤ W.heap.size → PlayC w base bb xb sb rb pb x0 x1 x2 x5 v (.slice av M.length cv) L M W ∧ W.heap[tb]? = some (.cells #[.int .i64 1] 3 (0, 0))) := fun W b hs => by
                  refine ⟨?_, (b.block tb HIB.out.2.2.2.2.2.2.2.1).trans H13.out.2.1⟩
                  have h := H13.out.1
                  have hl := h.low
                  have hws : w13.heap.size ≤ W.heap.size := b.size
                  exact ⟨h.b.far hws (fun k hk => b.block k (H13.out.2.2.2.2.1 k hk)) (fun k hk => b.block k (H13.out.2.2.2.2.2 k hk)), h.p1, h.p2, (b.block sb (by have := HIB.out.2.2.2.2.2.2.1; omega)).trans h.sB, (b.block rb (by have := HIB.out.2.2.2.2.2.2.1; omega)).trans h.rB, (b.block pb HIB.out.2.2.2.2.2.2.2.2).trans h.pB, hl, h.w.trans (b.mono (by have := HIB.out.2.2.2.2.2.2.1; omega))⟩
                clear hcb hb2 b13 KI bI hci hib hcbe q29 Hst
                go_wp2_with fail
                refine wpIn_wide.1 (range_gift (n := 3) (gf := 30) (lb := #[.pointer (some ⟨cb, 0, none⟩)]) rfl (enters_of Tryd.func30 (by kernel_rfl) rfl)
                  (encs := encY) (fun _ => rfl) (gift := gift) (V := VY L w13.heap.size) [] (C := FindsY bb bb cb x0 x1 x2 v L)
                  (fun pre bl W => bl = [ib] ∧ W.heap[ib]? = some (.cells #[.int .i64 (pre.length : Int)] 3 (0, 0)) ∧ Below ib w13 W ∧ w13.heap.size ≤ W.heap.size) (fun _ _ _ _ => False) ?_ ?_ ?_ (bl0 := [ib]) ?_ ?_ vy_gift vy_lt vy_same
                  (each_iter 2 w13.heap.size bb bb cb x0 x1 x2 v L HL1.out.1 HL1.out.2)
                  ?a1_rc (fun q W0 => W0.alloc (.cells #[.int .i64 q.e.key, .bool q.e.trim, .slice q.e.a q.e.n q.e.c] 35 (0, 0))) ?_ ?assign_rc ?body_rc ?done_rc ?stop_rc)
                case assign_rc =>
                  intro l q W K hK
                  have HK := Lib.hid hK
                  clear hK
                  gi_wp2
                  exact HK.out
                · rintro pre bl X Y ⟨rfl, h1, h2, h3⟩ f
                  exact ⟨rfl, (f.same ib (.inr (by simp)) (lt_of_block h1)).trans h1, h2.trans { os := f.os, tape := f.tape, output := f.output, size := f.size, block := fun z hz => f.same z (.inl ⟨by have := HIB.out.2.2.1; omega, by simp⟩) (by have := lt_of_block h1; omega) }, Nat.le_trans h3 f.size⟩
                · rintro cde pre bl X Y h f
                  exact h.elim
                · rintro pre bl X ⟨rfl, h1, _⟩ k hk
                  rw [List.mem_singleton.1 hk]; exact lt_of_block h1
                · exact ⟨rfl, HIB.out.2.1, Below.refl _ _, Nat.le_refl _⟩
                · intro W hW
                  refine ⟨H13.out.1.b.buf.below hW, (hW.block cb HIB.out.2.2.2.2.2.1).trans HIB.out.2.2.2.1, fun e he q hq hm => ?_⟩
                  have h1 := H13.out.2.2.2.1 e he q hq
                  have h2 := HIB.out.2.2.1
                  simp only [List.mem_cons, List.not_mem_nil, or_false] at hm
                  omega
                · intro q W
                  exact (Below.refl _ _).alloc (Nat.le_refl _) _
                case body_rc =>
                  rintro l pre bl q W0 W hB0 hsz hW hbl hgf ⟨rfl, h1, h2, h3⟩ hV
                  obtain ⟨hVi, ⟨d, hd, z1, z2, z3, z4⟩, hVf, hVg, hVb⟩ := hV
                  obtain ⟨eb, heb⟩ : ∃ eb, eb = W0.heap.size := ⟨_, rfl⟩
                  have hK : W.heap[eb]? = some (.cells #[.int .i64 q.e.key, .bool q.e.trim, .slice q.e.a q.e.n q.e.c] 35 (0, 0)) := by
                    rw [hW eb (by rw [heb]; simp) (by omega), heb]
                    exact heap_alloc_new W0 _
                  rw [← heb]
                  have hib4 := HIB.out.2.2.1
                  obtain ⟨hPC, hTB⟩ := HUP.out W h2 (by omega)
                  rw [hVi] at hd
                  obtain ⟨ee, he, y1, y2, y3⟩ := cores_get hPC.b.alike hd
                  obtain ⟨j, hj⟩ : ∃ j, j = pre.length := ⟨_, rfl⟩
                  rw [← hj] at h1 hVi he
                  have hjN : j < N := by rw [HNL.out.1]; exact (List.getElem?_eq_some_iff.1 he).1
                  have HJ : Hid (((pre ++ [q]).length : Int) = (j : Int) + 1) := by show _ = _; rw [List.length_append, hj]; simp
                  have cI := cell_regrown (cell_of_one h1)
                  have cP := cell_regrown (cell_of_one hPC.pB)
                  have cS := cell_regrown (cell_of_one hPC.sB)
                  have cX := hPC.b.ref.cells.2.2.2.1
                  rw [← HNL.out.1] at cX
                  replace cX := cell_regrown cX
                  obtain ⟨ge, rfl, _, m0, m1, m2⟩ := row_cells hPC.b.ref.row he
                  replace m0 := cell_regrown m0
                  replace m1 := cell_regrown m1
                  replace m2 := cell_regrown m2
                  obtain ⟨c0, c1, c2, _⟩ := ent3 hK
                  replace c0 := cell_regrown c0
                  replace c1 := cell_regrown c1
                  replace c2 := cell_regrown c2
                  have HSm : Hid (∀ p os, Calls Tryd.prog 15 #[.agg #[.int .i64 q.e.key, .bool q.e.trim, .slice q.e.a q.e.n q.e.c], .agg #[.int .i64 ee.key, .bool ee.trim, .slice ee.a ee.n ee.c]] (Sort.grow (redrawn W p) os) fun x w'' => x = .returned (.bool true) ∧ ∃ p : Regrown, w'' = Sort.grow (redrawn W p.d) p.os) := fun p os => Calls.regrown_of (sameC_any (d := q.e) (e := ee) (hVf.pol.below (below_regrown W p os)) ((hPC.b.ref.ents ee (List.mem_of_getElem? he)).1.below (below_regrown W p os)) (z1.trans y1) (z2.trans y2) (z4.trans y3))
                  have u1 : decide ((N : Int) ≤ (j : Int)) = false := decide_eq_false (by omega)
                  have u1' : decide (N ≤ j) = false := decide_eq_false (by omega)
                  have u2 : (0 : Int) ≤ (j : Int) := by omega
                  have u3 : (j : Int) < (N : Int) := by omega
                  have u4 : ((j : Int) == (j : Int)) = true := by simp
                  have hj64 : j ≤ 64 := by have := HNL.out.2.2.2; omega
                  have hjj : ((q.i : Nat) : Int) = (j : Int) := by rw [hVi]
                  have hSt := regrown_start W
                  have HBo := Lib.hid (And.intro h1 (And.intro h2 (And.intro h3 (And.intro hPC hTB))))
                  try rw [hjj]
                  clear hW hbl hgf hVf hVg hVb hd z1 z2 z3 z4 y1 y2 y3 hK he h1 h2 h3 hPC hTB hB0 hsz heb hib4 hj hVi hjj
                  gi_wp2
                  refine wpIn_round_quiet (C := fun w' => ∃ p : Regrown, w' = Sort.grow (redrawn W p.d) p.os) (by kernel_rfl) (by kernel_rfl) (by kernel_rfl) hSt ?_
                  repeat (go_big_quiet_step (first
                    | (go_at_call 15; with_reducible exact HSm.out _ _)))
                  refine wpQuiet_nil ?_
                  intro _ hw'
                  obtain ⟨⟨dq, osq⟩, hw''⟩ := hw'
                  subst hw''
                  have b6 := below_regrown W dq osq
                  generalize Sort.grow (redrawn W dq) osq = W6 at b6 ⊢
                  clear cI cP cS cX m0 m1 m2 c0 c1 c2 HSm hSt
                  obtain ⟨h1, h2, h3, hPC, hTB⟩ := HBo.out
                  have i6 := (b6.block ib (lt_of_block h1)).trans h1
                  have t6 := (b6.block tb (lt_of_block hTB)).trans hTB
                  have s6 := (b6.block sb (lt_of_block hPC.sB)).trans hPC.sB
                  have o7 := Only.setCell W6 ⟨ib, 0, none⟩ (.int .i64 ((j : Int) + 1))
                  have htbi : tb ≠ ib := by have := HIB.out.2.2.2.2.2.2.2.1; omega
                  have hsbi : sb ≠ ib := by have := HIB.out.2.2.2.2.2.2.1; have := hPC.low; omega
                  have i7 : (W6.setCell ⟨ib, 0, none⟩ (.int .i64 ((j : Int) + 1))).heap[ib]? = some (.cells #[.int .i64 ((j : Int) + 1)] 3 (0, 0)) := one_setCell i6
                  have t7 := (o7.block tb htbi).trans t6
                  have s7 := (o7.block sb hsbi).trans s6
                  have HN : Hid (Tn (gift q ++ [ib]) W (W6.setCell ⟨ib, 0, none⟩ (.int .i64 ((j : Int) + 1))) [ib] ∧ ((W6.setCell ⟨ib, 0, none⟩ (.int .i64 ((j : Int) + 1))).heap[ib]? = some (.cells #[.int .i64 ((pre ++ [q]).length : Int)] 3 (0, 0)) ∧ Below ib w13 (W6.setCell ⟨ib, 0, none⟩ (.int .i64 ((j : Int) + 1))) ∧ w13.heap.size ≤ (W6.setCell ⟨ib, 0, none⟩ (.int .i64 ((j : Int) + 1))).heap.size)) := by
                    have ht := (Tn.below (bl := gift q ++ [ib]) b6).trans (Tn.setCell W6 ⟨ib, 0, none⟩ (.int .i64 ((j : Int) + 1)) (by simp))
                    refine ⟨⟨ht.os, ht.tape, ht.output, ht.size, ht.same, fun k hk => .inl (List.mem_append_right _ hk)⟩, by rw [HJ.out]; exact i7, (h2.trans (b6.mono (by have := lt_of_block h1; omega))).setCell (Nat.le_refl _) _, ?_⟩
                    rw [o7.size]
                    exact Nat.le_trans h3 b6.size
                  have g1 := cell_of_one i6
                  have g2 := free_of_one i6
                  have g3 := cell_of_one i7
                  have g4 := cell_of_one t7
                  have g5 := cell_of_one s7
                  clear h1 h2 h3 hPC hTB i6 t6 s6 o7 htbi hsbi i7 t7 s7 b6 HBo u1 u1' u2 u3 u4
                  gi_wp2
                  exact ⟨_, HN.out.1, rfl, HN.out.2⟩
                case done_rc =>
                  rintro Drc xs bl W hD hDl hDb hS ⟨rfl, h1, h2, h3⟩ hdef
                  have hlen : xs.length = N := by rw [hS.2]; exact HNL.out.2.1.symm
                  rw [hlen] at h1
                  have hDX : ib < Drc := by have := HIB.out.2.2.1; omega
                  obtain ⟨hPC, hTB⟩ := HUP.out W h2 (by have := HIB.out.2.2.1; omega)
                  have p1 := cell_of_one hPC.pB
                  have p2 := hPC.b.ref.cells.2.2.2.1
                  rw [← HNL.out.1] at p2
                  have p3 := cell_of_one h1
                  have p4 := cell_of_one hTB
                  have p5 := cell_of_one hPC.sB
                  have u5 : ((N : Int) == (N : Int)) = true := by simp
                  have HW := Lib.hid (And.intro hPC (And.intro hTB (And.intro hdef (And.intro h2 (And.intro hDX (HDS.out W h2))))))
                  clear hPC hTB h1 h2 h3 hdef hDb hDl hD hDX hS hlen
                  go_wp2_with fail
                  go_quiet (fail)
                  have bD := (Drawn.mk W nq).below W.heap.size
                  generalize W.drewN nq = w14 at bD ⊢
                  clear p1 p2 p3 p4 p5
                  have q4 := cell_of_one ((bD.block tb (lt_of_block HW.out.2.1)).trans HW.out.2.1)
                  have hmk := newI64 w14 _ 2 rfl
                  have Hst : Hid (PlayC w base bb xb sb rb pb x0 x1 x2 x5 v (.slice av M.length cv) L M (w14.alloc (.cells #[.int .i64 2] 3 (0, 0))) ∧ (w14.alloc (.cells #[.int .i64 2] 3 (0, 0))).heap[w14.heap.size]? = some (.cells #[.int .i64 2] 3 (0, 0)) ∧ bb < w14.heap.size ∧ (w14.alloc (.cells #[.int .i64 2] 3 (0, 0))).heap[Drc]? = some (.deferred (some [])) ∧ bb < Drc ∧ (w14.alloc (.cells #[.int .i64 2] 3 (0, 0))).heap[Drs]? = some (.deferred (some [])) ∧ bb < Drs ∧ Drc ≠ Drs) := by
                    have bb14 := bD.trans (hmk.2.mono bD.size)
                    have h5 := HW.out.1.b.buf.lt
                    have h6 := bD.size
                    refine ⟨HW.out.1.below HBS.out bb14, hmk.1, by omega, (bb14.block Drc (lt_of_block HW.out.2.2.1)).trans HW.out.2.2.1, by have := HW.out.2.2.2.2.1; have := HIB.out.2.2.2.2.2.2.1; omega, (bb14.block Drs (lt_of_block HW.out.2.2.2.2.2)).trans HW.out.2.2.2.2.2, HDL.out.1, by have := HDL.out.2; have := HW.out.2.2.2.2.1; omega⟩
                  clear bD HW hmk
                  go_wp2_with fail
                  generalize (w14.alloc (.cells #[.int .i64 2] 3 (0, 0))) = w15 at Hst ⊢
                  generalize w14.heap.size = tb1 at Hst ⊢
                  clear q4 H13 HUP HDS HDL
                  rw [rounds_succ]
                  obtain ⟨tb, rfl⟩ : ∃ x, x = tb1 := ⟨_, rfl⟩
                  as_aux_lemma =>
                    have q29 := cell_of_one Hst.out.2.1
                    have hPC := Hst.out.1
                    have g1 := cell_of_one hPC.pB
                    have g2 := hPC.b.ref.cells.2.2.2.1
                    rw [← HNL.out.1] at g2
                    have g3 := cell_of_one hPC.rB
                    have g4 := free_of_one hPC.rB
                    have hrl : rb < bb ∧ bb < xb ∧ bb < pb := ⟨hPC.low.2.2.2.1, hPC.b.mineL, hPC.low.2.2.2.2.2⟩
                    have HSk : Hid (∀ W, Tn [rb] w15 W [rb] → (W.cell? ⟨pb, 0, none⟩ = some (.pointer (some ⟨xb, 0, none⟩)) ∧ W.cell? ⟨xb, 3, none⟩ = some (.slice av N cv) ∧ Tn [rb] w15 W [rb])) := fun W t => ⟨(cell_heap (t.same pb (lt_of_block hPC.pB) (by simp; omega))).trans g1, (cell_heap (t.same xb hPC.b.ref.lt (by simp; omega))).trans g2, t⟩
                    have HBf : Hid (∀ W, Tn [rb] w15 W [rb] → BufAt W bb bb x0 x1 x2 v L ∧ RefAt W xb xb x0 x1 x2 (.slice av M.length cv) M) := fun W t => ⟨hPC.b.buf.far t.size fun k hk => t.same k (hPC.b.buf.allb_lt k hk).2 (by have := (hPC.b.buf.allb_lt k hk).1; simp; omega), hPC.b.ref.far t.size fun k hk => t.same k (hPC.b.ref.allb_lt k hk).2 (by have := (hPC.b.ref.allb_lt k hk).1; simp; omega)⟩
                    have HSt : Hid (∀ W, (W.cell? ⟨pb, 0, none⟩ = some (.pointer (some ⟨xb, 0, none⟩)) ∧ W.cell? ⟨xb, 3, none⟩ = some (.slice av N cv) ∧ Tn [rb] w15 W [rb]) → ((W.setCell ⟨rb, 0, none⟩ (.bool true)).cell? ⟨pb, 0, none⟩ = some (.pointer (some ⟨xb, 0, none⟩)) ∧ (W.setCell ⟨rb, 0, none⟩ (.bool true)).cell? ⟨xb, 3, none⟩ = some (.slice av N cv) ∧ Tn [rb] w15 (W.setCell ⟨rb, 0, none⟩ (.bool true)) [rb])) := fun W h => HSk.out _ (h.2.2.trans (Tn.setCell W _ _ (by simp)))
                    have HZt : Hid (∀ W W', Below W.heap.size W W' → (W.cell? ⟨rb, 0, none⟩ = some (.bool false) ∧ W.frozen? ⟨rb, 0, none⟩ = false) → (W'.cell? ⟨rb, 0, none⟩ = some (.bool false) ∧ W'.frozen? ⟨rb, 0, none⟩ = false)) := fun W W' b h => ⟨(b.cell (World.block_lt_of_cell? W _ h.1)).trans h.1, (b.frozen (World.block_lt_of_cell? W _ h.1)).trans h.2⟩
                    have HEn : Hid (∀ W, (W.cell? ⟨pb, 0, none⟩ = some (.pointer (some ⟨xb, 0, none⟩)) ∧ W.cell? ⟨xb, 3, none⟩ = some (.slice av N cv) ∧ Tn [rb] w15 W [rb]) → (W.cell? ⟨rb, 0, none⟩ = some (.bool false) ∧ W.frozen? ⟨rb, 0, none⟩ = false) → Calls Tryd.prog 20 #[.pointer (some ⟨bb, 0, none⟩)] W fun e W' => ∃ a4 n4 c4, e = .returned (.slice a4 n4 c4) ∧ OutE M N W' a4 n4 c4 ∧ (W'.cell? ⟨pb, 0, none⟩ = some (.pointer (some ⟨xb, 0, none⟩)) ∧ W'.cell? ⟨xb, 3, none⟩ = some (.slice av N cv) ∧ Tn [rb] w15 W' [rb]) ∧ (W'.cell? ⟨rb, 0, none⟩ = some (.bool false) ∧ W'.frozen? ⟨rb, 0, none⟩ = false)) := fun W hS hZ => by
                      refine (entries_any (HBf.out W hS.2.2).1 HL1.out.1 HL1.out.2).mono ?_
                      rintro e W' ⟨v', ys, rfl, h1, h2, h3, h4, h5, h6⟩
                      obtain ⟨a4, c4, rfl, h7, _, _⟩ := row_slice h3
                      refine ⟨a4, _, c4, rfl, ⟨ys.map Yd.e, rfl, by rw [List.length_map, h2]; exact HNL.out.2.1.symm, h7, entsAt_of h3 (fun e he => ?_), (preY_cores h1 h2).trans Hst.out.1.b.alike⟩, HSk.out W' (hS.2.2.trans (Tn.below h4)), HZt.out W W' h4 hZ⟩
                      obtain ⟨y, hy, rfl⟩ := List.mem_map.1 he
                      exact (h5 y hy).1.pol
                    have HSs : Hid (∀ a4 n4 c4 W, OutE M N W a4 n4 c4 → (W.cell? ⟨pb, 0, none⟩ = some (.pointer (some ⟨xb, 0, none⟩)) ∧ W.cell? ⟨xb, 3, none⟩ = some (.slice av N cv) ∧ Tn [rb] w15 W [rb]) → (W.cell? ⟨rb, 0, none⟩ = some (.bool false) ∧ W.frozen? ⟨rb, 0, none⟩ = false) → Calls Tryd.prog 19 #[.slice a4 n4 c4, .slice av N cv] W fun e W' => e = .returned (.bool true) ∧ (W'.cell? ⟨pb, 0, none⟩ = some (.pointer (some ⟨xb, 0, none⟩)) ∧ W'.cell? ⟨xb, 3, none⟩ = some (.slice av N cv) ∧ Tn [rb] w15 W' [rb]) ∧ (W'.cell? ⟨rb, 0, none⟩ = some (.bool false) ∧ W'.frozen? ⟨rb, 0, none⟩ = false)) := fun a4 n4 c4 W hO hS hZ => by
                      obtain ⟨K, k1, k2, k3, k4, k5⟩ := hO
                      have hR := (HBf.out W hS.2.2).2
                      have h64 := HNL.out.2.2.2
                      refine (sames_any k1 HNL.out.1 k4 (entsAt_of hR.row (fun e he => (hR.ents e he).1)) k5 k3 (by rw [HNL.out.1]; exact HCV.out) (by omega)).mono ?_
                      rintro e W' ⟨rfl, b⟩
                      exact ⟨rfl, HSk.out W' (hS.2.2.trans (Tn.below b)), HZt.out W W' b hZ⟩
                    have hS0 := HSk.out w15.drew (Tn.below ((Drawn.mk w15 1).below _))
                    have hZ0 := HZt.out w15 w15.drew ((Drawn.mk w15 1).below _) ⟨g3, g4⟩
                    clear hPC hrl
                    go_upto_region 60 with (fail)
                    clear q29 g1 g2 g3 g4
                    go_region_held3 (fun W => (W.cell? ⟨pb, 0, none⟩ = some (.pointer (some ⟨xb, 0, none⟩)) ∧ W.cell? ⟨xb, 3, none⟩ = some (.slice av N cv) ∧ Tn [rb] w15 W [rb]))
                      (first | assumption | exact HSt.out _ (by assumption) | exact ⟨by assumption, by assumption, by assumption⟩)
                      ((first
                        | (go_at_call 20; refine Calls.mono (HEn.out _ (by assumption) (by assumption)) ?_; rintro e wE ⟨a4, n4, c4, rfl, hO4, hS4, hZ4⟩)
                        | (go_at_call 19; refine Calls.mono (HSs.out _ _ _ _ (by assumption) (by assumption) (by assumption)) ?_; rintro e wS ⟨rfl, hS5, z1, z2⟩)))
                    have hcs : (wS.setCell ⟨rb, 0, none⟩ (.bool true)).cell? ⟨rb, 0, none⟩ = some (.bool true) := cell_set_rb z1
                    have HF := Lib.hid (And.intro (HSt.out wS hS5).2.2 (And.intro hcs Hst.out.2.2.2))
                    clear hcs hS5 z1 z2 hS4 hZ4 hO4 hS0 hZ0 HEn HSs HSt HSk HZt HBf
                    go_wp2_with fail
                    have hmk := HF.out.2.2
                    have ht := HF.out.1
                    have hrl : rb < bb := Hst.out.1.low.2.2.2.1
                    refine marks_two (by exact hmk.2.2.2.2) ((ht.same Drc (lt_of_block hmk.1) (by simp; omega)).trans hmk.1) ((ht.same Drs (lt_of_block hmk.2.2.1) (by simp; omega)).trans hmk.2.2.1) ?_
                    intro W' e1 e2 e3 e4 e5
                    have g3 : W'.cell? ⟨rb, 0, none⟩ = some (.bool true) := (cell_heap (e5 rb (by omega) (by omega))).trans HF.out.2.1
                    have hb : Below base w (wS.setCell ⟨rb, 0, none⟩ (.bool true)) := Hst.out.1.w.trans (tn_below ht (by have := HBS.out; have := Hst.out.1.w.size; omega) (fun k hk => by rw [List.mem_singleton.1 hk]; exact HPR.out.2.2))
                    have hbb := HBB.out.1
                    exact ⟨_, res_bool rfl rfl g3, rfl, hb.trans { os := e1, tape := e2, output := e3, size := by rw [e4]; exact Nat.le_refl _, block := fun k hk => e5 k (by omega) (by omega) }⟩
                case stop_rc =>
                  rintro D cde pre bl W hD hDl hDb hS hix hdef
                  exact hix.elim
  · have hno : (¬ 1 ≤ x0) ∨ (1 ≤ x0 ∧ ¬ x0 ≤ 1024) ∨ (1 ≤ x0 ∧ x0 ≤ 1024 ∧ ¬ 1 ≤ x1) ∨ (1 ≤ x0 ∧ x0 ≤ 1024 ∧ 1 ≤ x1 ∧ ¬ x1 ≤ 64) ∨ (1 ≤ x0 ∧ x0 ≤ 1024 ∧ 1 ≤ x1 ∧ x1 ≤ 64 ∧ ¬ 1 ≤ x2) ∨ (1 ≤ x0 ∧ x0 ≤ 1024 ∧ 1 ≤ x1 ∧ x1 ≤ 64 ∧ 1 ≤ x2 ∧ ¬ x2 ≤ 1073741824) := by
      unfold may at hmay
      omega
    have HEG := Lib.hid (HE.out _ B).1.2.2.2.2.2.2.2.1
    have HNo := Lib.hid (new_no x0 x1 x2 hmay w3 _ HEG.out)
    have HB := Lib.hid B
    have HK2 := Lib.hid K2
    clear K1 K2 B HE HR hmay
    rcases hno with m1 | ⟨m1, m2⟩ | ⟨m1, m2, m3⟩ | ⟨m1, m2, m3, m4⟩ | ⟨m1, m2, m3, m4, m5⟩ | ⟨m1, m2, m3, m4, m5, m6⟩
    · have t1 : decide (1 ≤ x0) = false := decide_eq_false m1
      clear m1
      refine HNo.out.mono ?_
      rintro e w4 ⟨rfl, b⟩
      have q0 : w4.cell? ⟨0, 0, none⟩ = some (errOf (f 7)) := (HEG.out.below b).1
      have eqg : ∀ W, (binOp .eql 26 (errOf (f 7)) (errOf (f 7))).run Tryd.prog W = .ok (.bool true) W := fun W => eql_err (f 7) W
      have hk4 := (b.block _ (lt_of_block HK2.out)).trans HK2.out
      have g1 : w4.cell? ⟨rb, 0, none⟩ = some (.bool false) := cell_of_one hk4
      have g2 := free_of_one hk4
      have HK4 := Lib.hid hk4
      have HB4 := Lib.hid (belB HBS.out HB.out b)
      clear b hk4
      go_wp2_with fail
      have g3 : (w4.setCell ⟨rb, 0, none⟩ (.bool true)).cell? ⟨rb, 0, none⟩ = some (.bool true) := cell_of_one (one_setCell HK4.out)
      exact ⟨_, res_bool rfl rfl g3, rfl, HB4.out.setCell HPR.out.2.2 _⟩
    · have t1 : decide (1 ≤ x0) = true := decide_eq_true m1
      have t2 : decide (x0 ≤ 1024) = false := decide_eq_false m2
      clear m1 m2
      refine HNo.out.mono ?_
      rintro e w4 ⟨rfl, b⟩
      have q0 : w4.cell? ⟨0, 0, none⟩ = some (errOf (f 7)) := (HEG.out.below b).1
      have eqg : ∀ W, (binOp .eql 26 (errOf (f 7)) (errOf (f 7))).run Tryd.prog W = .ok (.bool true) W := fun W => eql_err (f 7) W
      have hk4 := (b.block _ (lt_of_block HK2.out)).trans HK2.out
      have g1 : w4.cell? ⟨rb, 0, none⟩ = some (.bool false) := cell_of_one hk4
      have g2 := free_of_one hk4
      have HK4 := Lib.hid hk4
      have HB4 := Lib.hid (belB HBS.out HB.out b)
      clear b hk4
      go_wp2_with fail
      have g3 : (w4.setCell ⟨rb, 0, none⟩ (.bool true)).cell? ⟨rb, 0, none⟩ = some (.bool true) := cell_of_one (one_setCell HK4.out)
      exact ⟨_, res_bool rfl rfl g3, rfl, HB4.out.setCell HPR.out.2.2 _⟩
    · have t1 : decide (1 ≤ x0) = true := decide_eq_true m1
      have t2 : decide (x0 ≤ 1024) = true := decide_eq_true m2
      have t3 : decide (1 ≤ x1) = false := decide_eq_false m3
      clear m1 m2 m3
      refine HNo.out.mono ?_
      rintro e w4 ⟨rfl, b⟩
      have q0 : w4.cell? ⟨0, 0, none⟩ = some (errOf (f 7)) := (HEG.out.below b).1
      have eqg : ∀ W, (binOp .eql 26 (errOf (f 7)) (errOf (f 7))).run Tryd.prog W = .ok (.bool true) W := fun W => eql_err (f 7) W
      have hk4 := (b.block _ (lt_of_block HK2.out)).trans HK2.out
      have g1 : w4.cell? ⟨rb, 0, none⟩ = some (.bool false) := cell_of_one hk4
      have g2 := free_of_one hk4
      have HK4 := Lib.hid hk4
      have HB4 := Lib.hid (belB HBS.out HB.out b)
      clear b hk4
      go_wp2_with fail
      have g3 : (w4.setCell ⟨rb, 0, none⟩ (.bool true)).cell? ⟨rb, 0, none⟩ = some (.bool true) := cell_of_one (one_setCell HK4.out)
      exact ⟨_, res_bool rfl rfl g3, rfl, HB4.out.setCell HPR.out.2.2 _⟩
    · have t1 : decide (1 ≤ x0) = true := decide_eq_true m1
      have t2 : decide (x0 ≤ 1024) = true := decide_eq_true m2
      have t3 : decide (1 ≤ x1) = true := decide_eq_true m3
      have t4 : decide (x1 ≤ 64) = false := decide_eq_false m4
      clear m1 m2 m3 m4
      refine HNo.out.mono ?_
      rintro e w4 ⟨rfl, b⟩
      have q0 : w4.cell? ⟨0, 0, none⟩ = some (errOf (f 7)) := (HEG.out.below b).1
      have eqg : ∀ W, (binOp .eql 26 (errOf (f 7)) (errOf (f 7))).run Tryd.prog W = .ok (.bool true) W := fun W => eql_err (f 7) W
      have hk4 := (b.block _ (lt_of_block HK2.out)).trans HK2.out
      have g1 : w4.cell? ⟨rb, 0, none⟩ = some (.bool false) := cell_of_one hk4
      have g2 := free_of_one hk4
      have HK4 := Lib.hid hk4
      have HB4 := Lib.hid (belB HBS.out HB.out b)
      clear b hk4
      go_wp2_with fail
      have g3 : (w4.setCell ⟨rb, 0, none⟩ (.bool true)).cell? ⟨rb, 0, none⟩ = some (.bool true) := cell_of_one (one_setCell HK4.out)
      exact ⟨_, res_bool rfl rfl g3, rfl, HB4.out.setCell HPR.out.2.2 _⟩
    · have t1 : decide (1 ≤ x0) = true := decide_eq_true m1
      have t2 : decide (x0 ≤ 1024) = true := decide_eq_true m2
      have t3 : decide (1 ≤ x1) = true := decide_eq_true m3
      have t4 : decide (x1 ≤ 64) = true := decide_eq_true m4
      have t5 : decide (1 ≤ x2) = false := decide_eq_false m5
      clear m1 m2 m3 m4 m5
      refine HNo.out.mono ?_
      rintro e w4 ⟨rfl, b⟩
      have q0 : w4.cell? ⟨0, 0, none⟩ = some (errOf (f 7)) := (HEG.out.below b).1
      have eqg : ∀ W, (binOp .eql 26 (errOf (f 7)) (errOf (f 7))).run Tryd.prog W = .ok (.bool true) W := fun W => eql_err (f 7) W
      have hk4 := (b.block _ (lt_of_block HK2.out)).trans HK2.out
      have g1 : w4.cell? ⟨rb, 0, none⟩ = some (.bool false) := cell_of_one hk4
      have g2 := free_of_one hk4
      have HK4 := Lib.hid hk4
      have HB4 := Lib.hid (belB HBS.out HB.out b)
      clear b hk4
      go_wp2_with fail
      have g3 : (w4.setCell ⟨rb, 0, none⟩ (.bool true)).cell? ⟨rb, 0, none⟩ = some (.bool true) := cell_of_one (one_setCell HK4.out)
      exact ⟨_, res_bool rfl rfl g3, rfl, HB4.out.setCell HPR.out.2.2 _⟩
    · have t1 : decide (1 ≤ x0) = true := decide_eq_true m1
      have t2 : decide (x0 ≤ 1024) = true := decide_eq_true m2
      have t3 : decide (1 ≤ x1) = true := decide_eq_true m3
      have t4 : decide (x1 ≤ 64) = true := decide_eq_true m4
      have t5 : decide (1 ≤ x2) = true := decide_eq_true m5
      have t6 : decide (x2 ≤ 1073741824) = false := decide_eq_false m6
      clear m1 m2 m3 m4 m5 m6
      refine HNo.out.mono ?_
      rintro e w4 ⟨rfl, b⟩
      have q0 : w4.cell? ⟨0, 0, none⟩ = some (errOf (f 7)) := (HEG.out.below b).1
      have eqg : ∀ W, (binOp .eql 26 (errOf (f 7)) (errOf (f 7))).run Tryd.prog W = .ok (.bool true) W := fun W => eql_err (f 7) W
      have hk4 := (b.block _ (lt_of_block HK2.out)).trans HK2.out
      have g1 : w4.cell? ⟨rb, 0, none⟩ = some (.bool false) := cell_of_one hk4
      have g2 := free_of_one hk4
      have HK4 := Lib.hid hk4
      have HB4 := Lib.hid (belB HBS.out HB.out b)
      clear b hk4
      go_wp2_with fail
      have g3 : (w4.setCell ⟨rb, 0, none⟩ (.bool true)).cell? ⟨rb, 0, none⟩ = some (.bool true) := cell_of_one (one_setCell HK4.out)
      exact ⟨_, res_bool rfl rfl g3, rfl, HB4.out.setCell HPR.out.2.2 _⟩
theorem walk (a0 a1 a2 : Int) (a3 : Option Addr) (len3 cap3 : Nat) (z3 : Nat → DoV) (a4 a5 : Int) (W : World) (w0 : (Lit.int .i64 a0).wf = true) (w1 : (Lit.int .i64 a1).wf = true) (w2 : (Lit.int .i64 a2).wf = true) (w3 : RowDo W a3 len3 z3) (w4 : (Lit.int .i64 a4).wf = true) (w5 : (Lit.int .i64 a5).wf = true) (h : LaidBufferPlays.Holds W) :
    Calls Tryd.prog 3 #[.int .i64 a0, .int .i64 a1, .int .i64 a2, .slice a3 len3 cap3, .int .i64 a4, .int .i64 a5] W fun e w' => e = .returned (.bool true) ∧ Below W.heap.size W w' := by
  obtain ⟨f, hE⟩ := h
  exact core a0 a1 a2 a3 len3 cap3 z3 a4 a5 W f hE w3
end Go.Proofs.YtabpfadbioalgaaDoor.walkBufferPlays
