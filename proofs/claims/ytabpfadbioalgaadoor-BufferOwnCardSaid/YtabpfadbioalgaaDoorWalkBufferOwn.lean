/- The walk over BufferOwn. By the verifier of shale. -/
import Derived.Test.YtabpfadbioalgaaDoorWtOwn
import Derived.Test.YtabpfadbioalgaaDoorLaidBufferOwn
import Derived.Deep.Cut
import Derived.LoopN
import Derived.Test.YtabpfadbioalgaaDoorMarks
import Derived.RangeFuncCalls
import Derived.Test.YtabpfadbioalgaaDoorQuietRound
namespace Go.Proofs.YtabpfadbioalgaaDoor.walkBufferOwn
open Go Go.RowKit Bin Wt
set_option linter.unusedVariables false
set_option linter.unusedSimpArgs false
attribute [local go_sem] Oper.semAt_some
theorem newU8 (w W : World) (x : Int) (h : w.alloc (.cells #[.int .u8 x] 5 (0, 0)) = W) : W.heap[w.heap.size]? = some (.cells #[.int .u8 x] 5 (0, 0)) ∧ Below w.heap.size w W := by
  subst h
  exact ⟨heap_alloc_new w _, (Below.refl _ _).alloc (Nat.le_refl _) _⟩
theorem newBool (w W : World) (x : Bool) (h : w.alloc (.cells #[.bool x] 4 (0, 0)) = W) : W.heap[w.heap.size]? = some (.cells #[.bool x] 4 (0, 0)) ∧ Below w.heap.size w W := by
  subst h
  exact ⟨heap_alloc_new w _, (Below.refl _ _).alloc (Nat.le_refl _) _⟩
theorem res_bool {fn : Func} (hr : fn.results = #[.cell 4 4]) {tmps : Array Value} {w : World} {g : Nat} {v : Bool} (hp : tmps.getD 4 undef = .pointer (some ⟨g, 0, none⟩)) (hc : w.cell? ⟨g, 0, none⟩ = some (.bool v)) : (results fn tmps).run Tryd.prog w = .ok (.bool v) w := by
  have hp' : tmps[4]?.getD undef = .pointer (some ⟨g, 0, none⟩) := by simpa using hp
  simp [results, hr, hp', asAddr, go_sem, hc]
theorem regrown_start (w : World) : ∃ p : Regrown, w.drew = Sort.grow (redrawn w p.d) p.os := regrown_of_below ((Drawn.mk w 1).below _)
theorem may288 : may 2 8 8 := ⟨⟨by decide, by decide⟩, ⟨by decide, by decide⟩, ⟨by decide, by decide⟩⟩
set_option maxRecDepth 100000 in
set_option maxHeartbeats 2000000 in
theorem core (a : Option Addr) (n c : Nat) (z : Nat → Int) (x : BitVec 8) (w : World) {yf yn ys : Addr} (EF : ErrAt w 1 yf) (EN : ErrAt w 2 yn) (ES : ErrAt w 3 ys)
    (R : ∀ i, i < n → ∃ bb off, a = some ⟨bb, off, none⟩ ∧ w.cell? ⟨bb, off + i, none⟩ = some (.int .i64 (z i)) ∧ bb < w.heap.size) :
    Calls Tryd.prog 5 #[.slice a n c, .int .u8 (Bits32.b x)] w fun e w' => e = .returned (.bool true) ∧ Below w.heap.size w w' := by
  obtain ⟨base, hbase⟩ : ∃ base, base = w.heap.size := ⟨_, rfl⟩
  have HBS := Lib.hid hbase
  have HE : Hid (∀ W, Below base w W → ErrAt W 1 yf ∧ ErrAt W 2 yn ∧ ErrAt W 3 ys) := fun W b => by rw [hbase] at b; exact ⟨EF.below b, EN.below b, ES.below b⟩
  have HR : Hid (∀ W, Below base w W → ∀ i, i < n → ∃ bb off, a = some ⟨bb, off, none⟩ ∧ W.cell? ⟨bb, off + i, none⟩ = some (.int .i64 (z i)) ∧ bb < base) := fun W b i hi => by
    obtain ⟨bb, off, h1, h2, h3⟩ := R i hi
    rw [← hbase] at h3
    exact ⟨bb, off, h1, (cell_heap (b.block bb h3)).trans h2, h3⟩
  have B : Below base w w := Below.refl _ _
  rw [← hbase]
  clear EF EN ES R hbase
  refine (callsIn_wide (n := 3)).1 ?_
  refine callsIn_of_wp_marks Tryd.func5 rfl trivial ?_ rfl
  simp only [Tryd.ntmps5, List.size_toArray, List.length_cons, List.length_nil, Nat.reduceAdd, Nat.reduceSub, Array.replicate_succ, Array.replicate_zero, List.push_toArray, List.append_toArray, List.nil_append, List.cons_append]
  refine wpIn_wide.2 ?_
  go_wp2_with fail
  generalize hw : w.alloc (.cells #[.int .u8 (Bits32.b x)] 5 (0, 0)) = w1
  obtain ⟨K1, b⟩ := newU8 w w1 _ hw
  have hs1 : w1.heap.size = w.heap.size + 1 := by rw [← hw]; simp
  clear hw
  replace B := belB HBS.out B b
  rw [← hs1]
  generalize hw : w1.alloc (.cells #[.bool false] 4 (0, 0)) = w2
  obtain ⟨K2, b⟩ := newBool w1 w2 _ hw
  clear hw
  obtain ⟨pb, hpb⟩ : ∃ pb, pb = w.heap.size := ⟨_, rfl⟩
  obtain ⟨rb, hrb⟩ : ∃ rb, rb = w1.heap.size := ⟨_, rfl⟩
  rw [← hpb] at K1 ⊢
  rw [← hrb] at K2 ⊢
  have HPR : Hid (pb ≠ rb ∧ base ≤ pb ∧ base ≤ rb) := by rw [hpb, hrb]; have := HBS.out; exact ⟨by omega, by omega, by omega⟩
  clear hpb hrb hs1
  replace K1 := (b.block _ (lt_of_block K1)).trans K1
  replace B := belB HBS.out B b
  clear b
  refine (first19_any w2 (HE.out _ B).1 (HE.out _ B).2.1 (HE.out _ B).2.2).mono ?_
  rintro e w3 ⟨rfl, b⟩
  replace K1 := (b.block _ (lt_of_block K1)).trans K1
  replace K2 := (b.block _ (lt_of_block K2)).trans K2
  replace B := belB HBS.out B b
  clear b
  go_wp2_with fail
  refine (new_yes 2 8 8 may288 w3).mono ?_
  rintro e w4 ⟨rfl, P, b⟩
  have hpl := lt_of_block K1
  have hrl := lt_of_block K2
  replace K1 := (b.block _ (lt_of_block K1)).trans K1
  replace K2 := (b.block _ (lt_of_block K2)).trans K2
  replace B := belB HBS.out B b
  obtain ⟨bb, hbb⟩ : ∃ bb, bb = w3.heap.size := ⟨_, rfl⟩
  rw [← hbb] at P hpl hrl ⊢
  have HBB : Hid (base ≤ bb ∧ pb < bb ∧ rb < bb) := ⟨by have := HPR.out.2.1; omega, hpl, hrl⟩
  clear b hbb hpl hrl
  by_cases hn : 30 < n
  · have t : decide ((30 : Int) < (n : Int)) = true := decide_eq_true (by omega)
    have g1 : w4.cell? ⟨rb, 0, none⟩ = some (.bool false) := cell_of_one K2
    have g2 := free_of_one K2
    have HB := Lib.hid B
    have HK2 := Lib.hid K2
    clear P K1 K2 B HE HR hn
    go_wp2_with fail
    have g3 : (w4.setCell ⟨rb, 0, none⟩ (.bool true)).cell? ⟨rb, 0, none⟩ = some (.bool true) := cell_of_one (one_setCell HK2.out)
    exact ⟨_, res_bool rfl rfl g3, rfl, HB.out.setCell HPR.out.2.2 _⟩
  · have t : decide ((30 : Int) < (n : Int)) = false := decide_eq_false (by omega)
    have HPP := Lib.hid P
    have HK := Lib.hid (And.intro K1 (And.intro K2 B))
    have g1 : w4.cell? ⟨pb, 0, none⟩ = some (.int .u8 (Bits32.b x)) := cell_of_one K1
    clear P K1 K2 B
    go_wp2_with fail
    generalize hw : w4.alloc (.cells #[.int .u8 (Bits32.b x), .int .u8 7] 5 (0, 0)) = w5
    obtain ⟨D, b⟩ := lit2 w4 w5 x 7#8 hw
    have hD : w5.heap[w4.heap.size]? = some (.cells #[.int .u8 (Bits32.b x), .int .u8 7] 5 (0, 0)) := by rw [← hw]; exact heap_alloc_new w4 _
    clear hw D
    obtain ⟨mb, hmb⟩ : ∃ mb, mb = w4.heap.size := ⟨_, rfl⟩
    rw [← hmb] at hD ⊢
    have hbm : bb < mb := by rw [hmb]; exact HPP.out.lt
    have HM : Hid (base ≤ mb ∧ pb ≠ mb ∧ rb ≠ mb) := by have := HBB.out; exact ⟨by omega, by omega, by omega⟩
    have HS : Hid (OwnS w base bb pb rb mb x w5) := ⟨.slice none 0 0, [], ⟨HPP.out.below b, OwnL.nil x, hbm, (by unfold blks; simp [Value.ownBlock]; omega), fun e h => by cases h⟩, (b.block _ (lt_of_block HK.out.1)).trans HK.out.1, (b.block _ (lt_of_block HK.out.2.1)).trans HK.out.2.1, belB HBS.out HK.out.2.2 b, x, _, _, hD, fun i hi => by
      have : i = 0 ∨ i = 1 := by simp only [List.length_cons, List.length_nil] at hi; omega
      rcases this with rfl | rfl <;> rfl⟩
    clear HPP HK g1 b hmb hbm hD t
    go_loopg [9] n (fun gh s9 wx => ∃ i : Nat, gh = n - i ∧ i ≤ n ∧ s9 = .int .i64 (i : Int) ∧ Hid (OwnS w base bb pb rb mb x wx))
    case atStart => exact ⟨0, rfl, Nat.zero_le _, rfl, HS⟩
    case round =>
      clear HS
      obtain ⟨i, hg, hin, rfl, HX⟩ := hrel
      have HI := Lib.hid hg
      clear hg
      by_cases hlt : i < n
      · have x1 : (i : Int) < (n : Int) := by omega
        have x0 : (0 : Int) ≤ (i : Int) := by omega
        obtain ⟨v, L, hB, k1, k2, b, y, hD⟩ := HX.out
        have g1 : wr.cell? ⟨pb, 0, none⟩ = some (.int .u8 (Bits32.b x)) := cell_of_one k1
        have g2 := hD.cell 0 (by show 0 < 2; omega)
        have g3 := hD.free 0
        have HN : Hid (OwnS w base bb pb rb mb x (wr.setCell ⟨mb, 0, none⟩ (.int .u8 (Bits32.b x))) ∧ Pol (wr.setCell ⟨mb, 0, none⟩ (.int .u8 (Bits32.b x))) (some ⟨mb, 0, none⟩) 2 2 [x, 7#8]) := ⟨HX.out.set HM.out x, buf_pol2 (hD.set 0 (by show 0 < 2; omega) x)⟩
        clear hB k1 k2 b hD
        go_upto_region 10 with (fail)
        generalize wr.setCell ⟨mb, 0, none⟩ (.int .u8 (Bits32.b x)) = wq at HN ⊢
        obtain ⟨v1, L1, hB1, k1, k2, b1, yq, hDq⟩ := HN.out.1
        obtain ⟨kb, off, rfl, c1, _⟩ := HR.out wq b1 i hlt
        obtain ⟨T0, hT0⟩ : ∃ T : Nat, T = (z i % 8).toNat := ⟨_, rfl⟩
        have hb7 : bits .and .i64 (z i) 7 = (T0 : Int) := by rw [and7, hT0]
        have hT8 : T0 < 8 := by rw [hT0]; omega
        have HP := Lib.hid (put2 hB1.buf (by have := hB1.own.len; omega) (T0 : Int) (by simp; omega) HN.out.2 (HE.out wq b1).1)
        have HBO := Lib.hid (And.intro hB1 (And.intro b1 (And.intro k1 (And.intro k2 (And.intro hDq hT8)))))
        clear g1 g2 g3 hB1 k1 k2 b1 hT0 hT8 hDq
        go_upto_region 12 with (go_at_call 12; (with_reducible refine Calls.mono HP.out ?_); rintro en wp ⟨e, e1, e2, e3, e4, e5, h⟩; obtain ⟨rfl, v2, L2, hB2, b2, hm2⟩ := HBO.out.1.put HBO.out.2.2.2.2.1.lt (by rw [e1]; exact Int.natCast_nonneg _) (by rw [e1]; have := HBO.out.2.2.2.2.2; omega) e2 e3 e4 e5 h; clear h e1 e2 e3 e4 e5)
        have hSp : OwnS w base bb pb rb mb x wp := ⟨v2, L2, hB2, (b2.block _ HBB.out.2.1).trans HBO.out.2.2.1, (b2.block _ HBB.out.2.2).trans HBO.out.2.2.2.1, HBO.out.2.1.trans (b2.mono HBB.out.1), yq, by
          obtain ⟨cur, t, h1, h2⟩ := HBO.out.2.2.2.2.1
          exact ⟨cur, t, hm2.trans h1, h2⟩⟩
        obtain ⟨v3, L3, hB3, k1, k2, b3, y3, hD3⟩ := hSp
        have g1 : wp.cell? ⟨pb, 0, none⟩ = some (.int .u8 (Bits32.b x)) := cell_of_one k1
        have g2 := hD3.cell 0 (by show 0 < 2; omega)
        have g3 := hD3.free 0
        obtain ⟨y4, hy4⟩ := wrap8_some (Bits32.b x + 1)
        have HNW : Hid (OwnS w base bb pb rb mb x (wp.setCell ⟨mb, 0, none⟩ (.int .u8 (IntKind.u8.wrap (Bits32.b x + 1))))) := by
          show OwnS _ _ _ _ _ _ _ _
          rw [hy4]
          exact OwnS.set ⟨v3, L3, hB3, k1, k2, b3, y3, hD3⟩ HM.out y4
        clear hB3 k1 k2 b3 hD3 hy4 hB2 b2 hm2 HBO HP
        go_wp2_with fail
        go_roundg (n - (i + 1))
        case measure => have := HI.out; omega
        case rel => exact ⟨i + 1, rfl, hlt, by go_num, HNW⟩
      · obtain rfl : i = n := by omega
        clear HR
        go_wp2_with fail
        refine wp_loop_rounds 3 ?_
        rw [rounds_succ]
        go_wp2_with fail
        obtain ⟨v, L, hB, k1, k2, b, y, hD⟩ := HX.out
        have hLl := hB.own.len
        refine (entries_any hB.buf (by omega) (fun e he => by have := (hB.own.2 e he).2.1; omega)).mono ?_
        rintro e wE ⟨v4, ys, rfl, pre, hlen, hrow, bE, hf, hp⟩
        obtain ⟨av, cv, rfl, -, -, -⟩ := row_slice hrow
        obtain ⟨g, hgdef⟩ : ∃ g, ∀ q, av = some q → q = ⟨g, 0, none⟩ := by
          cases av with
          | none => exact ⟨0, fun q h => by cases h⟩
          | some q =>
            rcases hrow.2 with ⟨h1, h2⟩ | ⟨g, cap, cur, hv, _⟩
            · cases h1
            · cases hv
              exact ⟨g, fun q h => by cases h; rfl⟩
        have hav : av = some ⟨g, 0, none⟩ ∨ ys = [] := by
          cases hq : av with
          | none =>
            refine .inr ?_
            rcases hrow.2 with ⟨h1, h2⟩ | ⟨g', cap, cur, hv, _⟩
            · simpa using h2
            · rw [hq] at hv; cases hv
          | some q => exact .inl (by rw [hgdef q hq])
        have hRE : RowE wE g ys x 0 := by
          rcases hav with h | h
          · exact rowE_of hB.own pre hrow (fun y hy => ⟨(hf y hy).1, (hf y hy).2⟩) h
          · intro k y _ hy; rw [h] at hy; cases hy
        have hyg : ∀ k ∈ ys, ∀ q ∈ gift k, wr.heap.size ≤ q := fun k hk q hq => ((hf k hk).2 q hq).1
        have hgB : av = some ⟨g, 0, none⟩ → wr.heap.size ≤ g := fun h => (hrow.lt g (by rw [h]; rfl)).1
        obtain ⟨len, hle⟩ : ∃ len, len = (ys.map Yd.e).length := ⟨_, rfl⟩
        have hle2 : len = ys.length := by rw [hle, List.length_map]
        rw [← hle]
        have hl8 : len ≤ 8 := by omega
        obtain ⟨Q, hQ⟩ : ∃ Q : World → Prop, Q = fun W => Below wr.heap.size wr W := ⟨_, rfl⟩
        obtain ⟨Bs, hBs⟩ : ∃ Bs, Bs = wr.heap.size := ⟨_, rfl⟩
        have HQ : Hid ((∀ W, Q W → OwnS w base bb pb rb mb x W ∧ Bs ≤ W.heap.size ∧ OwnB W bb mb x v L) ∧ (∀ W W', Q W → Below Bs W W' → Q W')) := ⟨fun W h => by rw [hQ] at h; rw [hBs]; exact ⟨HX.out.below HBS.out h, Below.size h, hB.below h⟩, fun W W' h h' => by rw [hQ] at h ⊢; rw [hBs] at h'; exact Below.trans h h'⟩
        have HI0 : Hid (Q wE ∧ RowE wE g ys x 0) := ⟨by rw [hQ]; exact bE, hRE⟩
        rw [← hBs] at hyg hgB
        have HY := Lib.hid (And.intro hle2 (And.intro hav (And.intro hp (And.intro hyg (And.intro hgB (And.intro pre hl8))))))
        clear hle hle2 hav hp hyg hgB pre hRE bE hQ hBs hf hrow hlen hgdef hB k1 k2 b hD hLl HX
        go_wp2_with fail
        go_loopg [12] len (fun gh s12 wx => ∃ k : Nat, gh = len - k ∧ k ≤ len ∧ s12 = .int .i64 (k : Int) ∧ Hid (Q wx ∧ RowE wx g ys x k))
        case atStart => exact ⟨0, rfl, Nat.zero_le _, rfl, HI0⟩
        case round =>
          clear HI0
          obtain ⟨k, hg, hk, rfl, HX⟩ := hrel
          have HI := Lib.hid hg
          clear hg
          by_cases hlt : k < len
          · have x3 : (k : Int) < (len : Int) := by omega
            have x2 : (0 : Int) ≤ (k : Int) := by omega
            obtain ⟨y, hy⟩ : ∃ y, ys[k]? = some y := ⟨ys[k]'(by have := HY.out.1; omega), List.getElem?_eq_getElem _⟩
            obtain rfl : av = some ⟨g, 0, none⟩ := by
              rcases HY.out.2.1 with h | h
              · exact h
              · rw [h] at hy; cases hy
            obtain ⟨ga, ea, en2, ec, c0, c1, c2, hDa, hne, hcm, hgm, hfz⟩ := HX.out.2 k y (Nat.le_refl _) hy
            obtain ⟨_, _, _, k1, k2, b, y0, hD⟩ := (HQ.out.1 wr HX.out.1).1
            have hBsz := (HQ.out.1 wr HX.out.1).2.1
            have p1 : wr.cell? ⟨pb, 0, none⟩ = some (.int .u8 (Bits32.b x)) := cell_of_one k1
            have hglt : g < wr.heap.size := World.block_lt_of_cell? wr _ c0
            have hpA : Pol wr (some ⟨ga, 0, none⟩) 2 y.e.c [x, 7#8] := ⟨rfl, ec, hcm, (fun h => by cases h), Or.inr ⟨ga, 0, rfl, hDa.row, hDa.lt⟩⟩
            have HSK : Hid (∀ W, Below wr.heap.size wr W → (W.cell? ⟨g, k * 3, none⟩ = some (.int .i64 y.e.key) ∧ W.cell? ⟨g, k * 3 + 1, none⟩ = some (.bool false) ∧ W.cell? ⟨g, k * 3 + 2, none⟩ = some (.slice (some ⟨ga, 0, none⟩) 2 y.e.c) ∧ W.cell? ⟨pb, 0, none⟩ = some (.int .u8 (Bits32.b x)) ∧ Below wr.heap.size wr W)) := fun W b => ⟨(cell_heap (b.block _ hglt)).trans c0, (cell_heap (b.block _ hglt)).trans c1, (cell_heap (b.block _ hglt)).trans c2, (cell_heap (b.block _ (lt_of_block k1))).trans p1, b⟩
            have HSE : Hid (∀ (g8 : Nat) (W : World) (_ : W.cell? ⟨g, k * 3, none⟩ = some (.int .i64 y.e.key) ∧ W.cell? ⟨g, k * 3 + 1, none⟩ = some (.bool false) ∧ W.cell? ⟨g, k * 3 + 2, none⟩ = some (.slice (some ⟨ga, 0, none⟩) 2 y.e.c) ∧ W.cell? ⟨pb, 0, none⟩ = some (.int .u8 (Bits32.b x)) ∧ Below wr.heap.size wr W) (_ : Pol W (some ⟨g8, 0, none⟩) 2 2 [x, 7#8]), Calls Tryd.prog 15 #[.agg #[.int .i64 y.e.key, .bool false, .slice (some ⟨ga, 0, none⟩) 2 y.e.c], .agg #[.int .i64 y.e.key, .bool false, .slice (some ⟨g8, 0, none⟩) 2 2]] W fun e W' => e = .returned (.bool true) ∧ (W'.cell? ⟨g, k * 3, none⟩ = some (.int .i64 y.e.key) ∧ W'.cell? ⟨g, k * 3 + 1, none⟩ = some (.bool false) ∧ W'.cell? ⟨g, k * 3 + 2, none⟩ = some (.slice (some ⟨ga, 0, none⟩) 2 y.e.c) ∧ W'.cell? ⟨pb, 0, none⟩ = some (.int .u8 (Bits32.b x)) ∧ Below wr.heap.size wr W')) := fun g8 W hs hp =>
              (sameE_any (hpA.below hs.2.2.2.2) hp).mono fun e W' h => ⟨h.1, HSK.out W' (hs.2.2.2.2.trans (h.2.mono hs.2.2.2.2.size))⟩
            have hS0 := HSK.out wr.drew ((Drawn.mk wr 1).below _)
            have HL : Hid (Pol ((wr.alloc (.cells #[.int .u8 (Bits32.b x), .int .u8 7] 5 (0, 0))).drew) (some ⟨wr.heap.size, 0, none⟩) 2 2 [x, 7#8]) := by
              have h := (lit2 wr _ x 7#8 rfl).1
              exact h.below ((Drawn.mk _ 1).below _)
            have HYY := Lib.hid (And.intro hy (And.intro ea (And.intro hne hgm)))
            clear hy ea en2 ec hDa hne hcm hgm k1 k2 b hD hBsz hglt hpA hfz
            go_upto_region 20 with (fail)
            go_region_held3 (fun W => W.cell? ⟨g, k * 3, none⟩ = some (.int .i64 y.e.key) ∧ W.cell? ⟨g, k * 3 + 1, none⟩ = some (.bool false) ∧ W.cell? ⟨g, k * 3 + 2, none⟩ = some (.slice (some ⟨ga, 0, none⟩) 2 y.e.c) ∧ W.cell? ⟨pb, 0, none⟩ = some (.int .u8 (Bits32.b x)) ∧ Below wr.heap.size wr W)
              (first | assumption | exact ⟨by assumption, by assumption, by assumption, by assumption, by assumption⟩ | exact HSK.out _ (by repeat (first | assumption | exact Below.refl _ _ | refine Below.drew ?_ | refine Below.alloc ?_ (by first | exact Nat.le_refl _ | exact Below.size (by assumption)) _)))
              (first
                | (go_at_call 15; (with_reducible refine Calls.mono (HSE.out _ _ ?_ ?_) ?_); (first | assumption | exact ⟨by assumption, by assumption, by assumption, by assumption, by assumption⟩); exact HL.out; rintro e wS ⟨rfl, z1, z2, z3, z4, z5⟩))
            have hQS : Q wS := HQ.out.2 wr wS HX.out.1 (z5.mono (HQ.out.1 wr HX.out.1).2.1)
            have hRS : RowE wS g ys x k := HX.out.2.below z5
            have HS := Lib.hid (And.intro hQS hRS)
            have HG := Lib.hid (getO (HQ.out.1 wS hQS).2.2 HY.out.2.2.2.2.2.1 HYY.out.1)
            clear z2 z3 z4 z5 c0 c1 c2 p1 hS0 HSK HSE HL hQS hRS
            go_upto_region 23 with (go_at_call 13; (with_reducible refine Calls.mono HG.out ?_); rintro en wp ⟨g5, c5, rfl, hg5, hD5, b5⟩)
            have hQp : Q wp := HQ.out.2 wS wp HS.out.1 (b5.mono (HQ.out.1 wS HS.out.1).2.1)
            have hRp : RowE wp g ys x k := HS.out.2.below b5
            have hlts := hRp.lts
            have hg5' : ∀ k' y', k ≤ k' → ys[k']? = some y' → g < g5 ∧ ∀ q ∈ gift y', q < g5 := fun k' y' h1 h2 => by
              obtain ⟨q1, q2⟩ := HS.out.2.lts k' y' h1 h2
              exact ⟨by omega, fun q hq => by have := q2 q hq; omega⟩
            have hg5B : Bs ≤ g5 := Nat.le_trans (HQ.out.1 wS HS.out.1).2.1 hg5
            generalize hw : (wp.alloc (.cells #[.int .i64 y.e.key, .bool false, .slice (some ⟨g5, 0, none⟩) 2 c5] 35 (0, 0))) = w6
            obtain ⟨hx6, b6⟩ := newE wp w6 ⟨y.e.key, false, some ⟨g5, 0, none⟩, 2, c5, []⟩ hw
            clear hw
            obtain ⟨xb, hxb⟩ : ∃ xb, xb = wp.heap.size := ⟨_, rfl⟩
            rw [← hxb] at hx6 ⊢
            have hxg : g5 ≠ xb := by have := hD5.lt; omega
            clear hxb
            have hQ6 : Q w6 := HQ.out.2 wp w6 hQp (b6.mono (HQ.out.1 wp hQp).2.1)
            have hR6 : RowE w6 g ys x k := hRp.below b6
            have hD6 := hD5.below b6 hD5.lt
            obtain ⟨_, _, _, k1, _⟩ := (HQ.out.1 w6 hQ6).1
            have p1 : w6.cell? ⟨pb, 0, none⟩ = some (.int .u8 (Bits32.b x)) := cell_of_one k1
            obtain ⟨e0, e1, e2, _⟩ := ent3 hx6
            have d0 : w6.cell? ⟨g5, 0, none⟩ = some (.int .u8 (Bits32.b x)) := hD6.cell 0 (by show 0 < 2; omega)
            have df := hD6.free 0
            have H6 := Lib.hid (And.intro hQ6 (And.intro hR6 (And.intro hg5' (And.intro hg5B (And.intro hx6 hD6)))))
            clear hQp hRp hlts hg5' hg5B hx6 b6 hxg hQ6 hR6 hD6 k1 hD5 b5 hg5 HS HG z1
            go_quiet (fail)
            have bD := (Drawn.mk w6 nq).below w6.heap.size
            generalize w6.drewN nq = w7 at bD ⊢
            clear p1 e0 e1 e2 d0 df
            obtain ⟨hQ6, hR6, hg5', hg5B, hx6, hD6⟩ := H6.out
            have hQ7 : Q w7 := HQ.out.2 w6 w7 hQ6 (bD.mono (HQ.out.1 w6 hQ6).2.1)
            have hR7 : RowE w7 g ys x k := hR6.below bD
            have hD7 := hD6.below bD hD6.lt
            have hx7 := (bD.block _ (lt_of_block hx6)).trans hx6
            obtain ⟨_, _, _, k1, _⟩ := (HQ.out.1 w7 hQ7).1
            have p1 : w7.cell? ⟨pb, 0, none⟩ = some (.int .u8 (Bits32.b x)) := cell_of_one k1
            obtain ⟨e0, e1, e2, _⟩ := ent3 hx7
            have d0 : w7.cell? ⟨g5, 0, none⟩ = some (.int .u8 (Bits32.b x)) := hD7.cell 0 (by show 0 < 2; omega)
            have df := hD7.free 0
            obtain ⟨y7, hy7⟩ := wrap8_some (Bits32.b x + 2)
            have hm7 : (Bits32.b x + 2) % 256 = Bits32.b y7 := by rw [← hy7, IntKind.wrap_u8']
            have H7 : Hid (Q (w7.setCell ⟨g5, 0, none⟩ (.int .u8 (Bits32.b y7))) ∧ RowE (w7.setCell ⟨g5, 0, none⟩ (.int .u8 (Bits32.b y7))) g ys x k) :=
              ⟨HQ.out.2 w7 _ hQ7 ((Below.refl _ _).setCell hg5B _), by
                refine RowE.far hR7 (B := g5) (fun k' y' h1 h2 => ?_) (Nat.le_refl _) 0 _
                exact hg5' k' y' h1 h2⟩
            clear hQ6 hR6 hg5' hg5B hx6 hD6 hQ7 hR7 hD7 hx7 k1 bD H6
            go_upto_region 26 with (fail)
            generalize w7.setCell ⟨g5, 0, none⟩ (.int .u8 (Bits32.b y7)) = w8 at H7 ⊢
            clear hy7 hm7
            obtain ⟨ga', ea, en2, ec, c0, c1, c2, hDa, hne, hcm, hgm, hfz⟩ := H7.out.2 k y (Nat.le_refl _) HYY.out.1
            obtain rfl : ga' = ga := by have h1 := HYY.out.2.1; rw [ea] at h1; cases h1; rfl
            have d1 := hDa.cell 1 (by show 1 < 2; omega)
            have df1 := hDa.free 1
            have hga8 : Bs ≤ ga' := HY.out.2.2.2.1 y (List.mem_of_getElem? HYY.out.1) ga' hgm
            have H8 : Hid (Q (w8.setCell ⟨ga', 1, none⟩ (.int .u8 9)) ∧ RowE (w8.setCell ⟨ga', 1, none⟩ (.int .u8 9)) g ys x (k + 1) ∧ (w8.setCell ⟨ga', 1, none⟩ (.int .u8 9)).cell? ⟨g, k * 3, none⟩ = some (.int .i64 y.e.key) ∧ (w8.setCell ⟨ga', 1, none⟩ (.int .u8 9)).frozen? ⟨g, k * 3, none⟩ = false) :=
              ⟨HQ.out.2 w8 _ H7.out.1 ((Below.refl _ _).setCell hga8 _), H7.out.2.data HY.out.2.2.1 HYY.out.1 hgm hne 1 _, (cell_heap (Below.heap_setCell _ _ _ _ (by show g ≠ ga'; exact Ne.symm hne))).trans c0, by simpa using hfz (k * 3)⟩
            clear ea en2 ec c0 c1 hDa hne hcm hgm hfz hga8 p1 e0 e1 e2 d0 df H7
            go_upto_region 27 with (fail)
            generalize w8.setCell ⟨ga', 1, none⟩ (.int .u8 9) = w9 at H8 ⊢
            have c0 := H8.out.2.2.1
            have cf := H8.out.2.2.2
            have hgB : Bs ≤ g := HY.out.2.2.2.2.1 (by first | rfl | trivial)
            have H9 : Hid (Q (w9.setCell ⟨g, k * 3, none⟩ (.int .i64 77)) ∧ RowE (w9.setCell ⟨g, k * 3, none⟩ (.int .i64 77)) g ys x (k + 1)) :=
              ⟨HQ.out.2 w9 _ H8.out.1 ((Below.refl _ _).setCell hgB _), H8.out.2.1.key (by omega) _⟩
            clear H8 d1 df1 c2 hgB
            go_wp2_with fail
            go_roundg (len - (k + 1))
            case measure => have := HI.out; omega
            case rel => exact ⟨k + 1, rfl, hlt, by go_num, H9⟩
          · obtain rfl : k = len := by omega
            go_wp2_with fail
            obtain ⟨hOS, hsz, hOB⟩ := HQ.out.1 wr HX.out.1
            refine (each_any bb wr).mono ?_
            rintro e w2 ⟨rfl, hcb, hb2⟩
            have hOS2 := hOS.below HBS.out hb2
            have hOB2 := hOB.below hb2
            obtain ⟨cb, hcbe⟩ : ∃ cb, cb = wr.heap.size := ⟨_, rfl⟩
            rw [← hcbe] at hcb ⊢
            have hcl := lt_of_block hcb
            have hcb0 : bb < cb := by rw [hcbe]; exact hOB.buf.lt
            have hents : ∀ e ∈ L, ∀ q, e.a = some q → q.block < cb := fun e he q hq => by rw [hcbe]; exact ((hOB.buf.ents e he).2 q hq).2.1
            have H2 := Lib.hid (And.intro hOS2 (And.intro hOB2 (And.intro hcb (And.intro hcl (And.intro hcb0 hents)))))
            clear hOS hsz hOB hOS2 hOB2 hcb hb2 hcl hcbe hcb0 hents HX HY HQ
            go_wp2_with fail
            refine wpIn_wide.1 (range_gift (n := 3) (gf := 30) (lb := #[.pointer (some ⟨cb, 0, none⟩)]) rfl (enters_of Tryd.func30 (by kernel_rfl) rfl)
              (encs := encY) (fun _ => rfl) (gift := gift) (V := VY L w2.heap.size) [] (C := FindsY bb bb cb 2 8 8 v L)
              (fun pre bl W => bl = [] ∧ Below w2.heap.size w2 W) (fun _ _ _ _ => False) ?_ ?_ ?_ (bl0 := []) ?_ ?_ vy_gift vy_lt vy_same
              (each_iter 2 w2.heap.size bb bb cb 2 8 8 v L (by have := H2.out.2.1.own.len; omega) (fun e he => by have := (H2.out.2.1.own.2 e he).2.1; omega))
              ?a1_0 (fun q W0 => W0.alloc (.cells #[.int .i64 q.e.key, .bool q.e.trim, .slice q.e.a q.e.n q.e.c] 35 (0, 0))) ?_ ?assign_0 ?body_0 ?done_0 ?stop_0)
            case assign_0 =>
              intro l q W K hK
              have HK := Lib.hid hK
              clear hK
              gi_wp2
              exact HK.out
            · rintro pre bl X Y ⟨h, h'⟩ f
              exact ⟨h, h'.trans { os := f.os, tape := f.tape, output := f.output, size := f.size, block := fun k hk => f.same k (.inl ⟨hk, by simp⟩) (Nat.lt_of_lt_of_le hk h'.size) }⟩
            · rintro cde pre bl X Y h f
              exact h.elim
            · rintro pre bl X ⟨rfl, _⟩ k hk
              cases hk
            · exact ⟨rfl, Below.refl _ _⟩
            · intro W hW
              refine ⟨H2.out.2.1.buf.below hW, (hW.block cb H2.out.2.2.2.1).trans H2.out.2.2.1, fun e he q hq hm => ?_⟩
              have h1 := H2.out.2.2.2.2.2 e he q hq
              have h2 := H2.out.2.2.2.1
              simp only [List.mem_cons, List.not_mem_nil, or_false] at hm
              omega
            · intro q W
              exact (Below.refl _ _).alloc (Nat.le_refl _) _
            case body_0 =>
              rintro l pre bl q W0 W hB0 hsz hW hbl hgf ⟨rfl, hbel⟩ hV
              obtain ⟨ga, ea, en2, et, hDa, hgm, hgB⟩ := yieldO H2.out.2.1.own hV
              obtain ⟨eb, heb⟩ : ∃ eb, eb = W0.heap.size := ⟨_, rfl⟩
              have hK : W.heap[eb]? = some (.cells #[.int .i64 q.e.key, .bool q.e.trim, .slice q.e.a q.e.n q.e.c] 35 (0, 0)) := by
                rw [hW eb (by rw [heb]; simp) (by omega), heb]
                exact heap_alloc_new W0 _
              rw [← heb]
              obtain ⟨c0, c1, c2, _⟩ := ent3 hK
              rw [ea, en2] at c2
              have HE2 := Lib.hid (And.intro ea en2)
              obtain ⟨_, _, _, k1, _⟩ := H2.out.1.below HBS.out (hbel.mono (Nat.le_refl _))
              have p1 : W.cell? ⟨pb, 0, none⟩ = some (.int .u8 (Bits32.b x)) := cell_of_one k1
              have d0 : W.cell? ⟨ga, 0, none⟩ = some (.int .u8 (Bits32.b x)) := hDa.cell 0 (by show 0 < 2; omega)
              have d1 : W.cell? ⟨ga, 1, none⟩ = some (.int .u8 7) := hDa.cell 1 (by show 1 < 2; omega)
              have HBo := Lib.hid (And.intro hDa (And.intro hgm (And.intro hgB (And.intro hbel hK))))
              clear hK hV hDa hgm hgB hbel hW hsz hbl hgf k1 heb ea en2 et c0 c1 hB0
              have hSt := regrown_start W
              have cX := cell_regrown c2
              have cP := cell_regrown p1
              have cD := cell_regrown d0
              have cE := cell_regrown d1
              clear c2 p1 d0 d1
              gi_wp2
              refine wpIn_round_quiet (C := fun w' => ∃ p : Regrown, w' = Sort.grow (redrawn W p.d) p.os) (by kernel_rfl) (by kernel_rfl) (by kernel_rfl) hSt ?_
              repeat (go_big_quiet_step (fail))
              refine wpQuiet_nil ?_
              intro _ hw'
              obtain ⟨⟨dq, osq⟩, hw''⟩ := hw'
              subst hw''
              have b6 := below_regrown W dq osq
              generalize Sort.grow (redrawn W dq) osq = W6 at b6 ⊢
              clear cX cP cD cE hSt
              obtain ⟨hDa, hgm, hgB, hbel, hK⟩ := HBo.out
              have hD6 := hDa.below b6 hDa.lt
              have hK6 := (b6.block _ (lt_of_block hK)).trans hK
              obtain ⟨c0, c1, c2, _⟩ := ent3 hK6
              rw [HE2.out.1, HE2.out.2] at c2
              have d1 := hD6.cell 1 (by show 1 < 2; omega)
              have df := hD6.free 1
              have HT : Hid (Tn (gift q ++ []) W (W6.setCell ⟨ga, 1, none⟩ (.int .u8 3)) [] ∧ Below w2.heap.size w2 (W6.setCell ⟨ga, 1, none⟩ (.int .u8 3))) := by
                have ht := (Tn.below (bl := gift q ++ []) b6).trans (Tn.setCell W6 ⟨ga, 1, none⟩ (.int .u8 3) (by simp [hgm]))
                exact ⟨⟨ht.os, ht.tape, ht.output, ht.size, ht.same, fun k hk => by cases hk⟩, (hbel.trans (b6.mono hbel.size)).setCell hgB _⟩
              clear hDa hgm hgB hbel hK hD6 hK6 b6 HBo
              gi_wp2
              exact ⟨[], HT.out.1, rfl, HT.out.2⟩
            case done_0 =>
              rintro D0 xs bl wr hD hDl hDb hS ⟨rfl, hbel⟩ hdef
              have HX : Hid (OwnS w base bb pb rb mb x wr) := H2.out.1.below HBS.out hbel
              have HD : Hid (wr.heap[D0]? = some (.deferred (some [])) ∧ bb < D0) := ⟨hdef, by have := H2.out.2.1.buf.lt; omega⟩
              clear hD hDl hDb hS hbel hdef H2
              go_wp2_with fail
              rw [rounds_succ]
              go_wp2_with fail
              obtain ⟨v, L, hB, k1, k2, b, y, hD⟩ := HX.out
              have hLl := hB.own.len
              refine (entries_any hB.buf (by omega) (fun e he => by have := (hB.own.2 e he).2.1; omega)).mono ?_
              rintro e wE ⟨v4, ys, rfl, pre, hlen, hrow, bE, hf, hp⟩
              obtain ⟨av, cv, rfl, -, -, -⟩ := row_slice hrow
              obtain ⟨g, hgdef⟩ : ∃ g, ∀ q, av = some q → q = ⟨g, 0, none⟩ := by
                cases av with
                | none => exact ⟨0, fun q h => by cases h⟩
                | some q =>
                  rcases hrow.2 with ⟨h1, h2⟩ | ⟨g, cap, cur, hv, _⟩
                  · cases h1
                  · cases hv
                    exact ⟨g, fun q h => by cases h; rfl⟩
              have hav : av = some ⟨g, 0, none⟩ ∨ ys = [] := by
                cases hq : av with
                | none =>
                  refine .inr ?_
                  rcases hrow.2 with ⟨h1, h2⟩ | ⟨g', cap, cur, hv, _⟩
                  · simpa using h2
                  · rw [hq] at hv; cases hv
                | some q => exact .inl (by rw [hgdef q hq])
              have hRE : RowE wE g ys x 0 := by
                rcases hav with h | h
                · exact rowE_of hB.own pre hrow (fun y hy => ⟨(hf y hy).1, (hf y hy).2⟩) h
                · intro k y _ hy; rw [h] at hy; cases hy
              have hyg : ∀ k ∈ ys, ∀ q ∈ gift k, wr.heap.size ≤ q := fun k hk q hq => ((hf k hk).2 q hq).1
              have hgB : av = some ⟨g, 0, none⟩ → wr.heap.size ≤ g := fun h => (hrow.lt g (by rw [h]; rfl)).1
              obtain ⟨len, hle⟩ : ∃ len, len = (ys.map Yd.e).length := ⟨_, rfl⟩
              have hle2 : len = ys.length := by rw [hle, List.length_map]
              rw [← hle]
              have hl8 : len ≤ 8 := by omega
              obtain ⟨Q, hQ⟩ : ∃ Q : World → Prop, Q = fun W => Below wr.heap.size wr W := ⟨_, rfl⟩
              obtain ⟨Bs, hBs⟩ : ∃ Bs, Bs = wr.heap.size := ⟨_, rfl⟩
              have HQ : Hid ((∀ W, Q W → OwnS w base bb pb rb mb x W ∧ Bs ≤ W.heap.size ∧ OwnB W bb mb x v L) ∧ (∀ W W', Q W → Below Bs W W' → Q W')) := ⟨fun W h => by rw [hQ] at h; rw [hBs]; exact ⟨HX.out.below HBS.out h, Below.size h, hB.below h⟩, fun W W' h h' => by rw [hQ] at h ⊢; rw [hBs] at h'; exact Below.trans h h'⟩
              have HDQ : Hid (∀ W, Q W → W.heap[D0]? = some (.deferred (some []))) := fun W h => by rw [hQ] at h; exact (Below.block h D0 (lt_of_block HD.out.1)).trans HD.out.1
              have HI0 : Hid (Q wE ∧ RowE wE g ys x 0) := ⟨by rw [hQ]; exact bE, hRE⟩
              rw [← hBs] at hyg hgB
              have HY := Lib.hid (And.intro hle2 (And.intro hav (And.intro hp (And.intro hyg (And.intro hgB (And.intro pre hl8))))))
              clear hle hle2 hav hp hyg hgB pre hRE bE hQ hBs hf hrow hlen hgdef hB k1 k2 b hD hLl HX
              go_wp2_with fail
              go_loopg [12] len (fun gh s12 wx => ∃ k : Nat, gh = len - k ∧ k ≤ len ∧ s12 = .int .i64 (k : Int) ∧ Hid (Q wx ∧ RowE wx g ys x k))
              case atStart => exact ⟨0, rfl, Nat.zero_le _, rfl, HI0⟩
              case round =>
                clear HI0
                obtain ⟨k, hg, hk, rfl, HX⟩ := hrel
                have HI := Lib.hid hg
                clear hg
                by_cases hlt : k < len
                · have x3 : (k : Int) < (len : Int) := by omega
                  have x2 : (0 : Int) ≤ (k : Int) := by omega
                  obtain ⟨y, hy⟩ : ∃ y, ys[k]? = some y := ⟨ys[k]'(by have := HY.out.1; omega), List.getElem?_eq_getElem _⟩
                  obtain rfl : av = some ⟨g, 0, none⟩ := by
                    rcases HY.out.2.1 with h | h
                    · exact h
                    · rw [h] at hy; cases hy
                  obtain ⟨ga, ea, en2, ec, c0, c1, c2, hDa, hne, hcm, hgm, hfz⟩ := HX.out.2 k y (Nat.le_refl _) hy
                  obtain ⟨_, _, _, k1, k2, b, y0, hD⟩ := (HQ.out.1 wr HX.out.1).1
                  have hBsz := (HQ.out.1 wr HX.out.1).2.1
                  have p1 : wr.cell? ⟨pb, 0, none⟩ = some (.int .u8 (Bits32.b x)) := cell_of_one k1
                  have hglt : g < wr.heap.size := World.block_lt_of_cell? wr _ c0
                  have hpA : Pol wr (some ⟨ga, 0, none⟩) 2 y.e.c [x, 7#8] := ⟨rfl, ec, hcm, (fun h => by cases h), Or.inr ⟨ga, 0, rfl, hDa.row, hDa.lt⟩⟩
                  have HSK : Hid (∀ W, Below wr.heap.size wr W → (W.cell? ⟨g, k * 3, none⟩ = some (.int .i64 y.e.key) ∧ W.cell? ⟨g, k * 3 + 1, none⟩ = some (.bool false) ∧ W.cell? ⟨g, k * 3 + 2, none⟩ = some (.slice (some ⟨ga, 0, none⟩) 2 y.e.c) ∧ W.cell? ⟨pb, 0, none⟩ = some (.int .u8 (Bits32.b x)) ∧ Below wr.heap.size wr W)) := fun W b => ⟨(cell_heap (b.block _ hglt)).trans c0, (cell_heap (b.block _ hglt)).trans c1, (cell_heap (b.block _ hglt)).trans c2, (cell_heap (b.block _ (lt_of_block k1))).trans p1, b⟩
                  have HSE : Hid (∀ (g8 : Nat) (W : World) (_ : W.cell? ⟨g, k * 3, none⟩ = some (.int .i64 y.e.key) ∧ W.cell? ⟨g, k * 3 + 1, none⟩ = some (.bool false) ∧ W.cell? ⟨g, k * 3 + 2, none⟩ = some (.slice (some ⟨ga, 0, none⟩) 2 y.e.c) ∧ W.cell? ⟨pb, 0, none⟩ = some (.int .u8 (Bits32.b x)) ∧ Below wr.heap.size wr W) (_ : Pol W (some ⟨g8, 0, none⟩) 2 2 [x, 7#8]), Calls Tryd.prog 15 #[.agg #[.int .i64 y.e.key, .bool false, .slice (some ⟨ga, 0, none⟩) 2 y.e.c], .agg #[.int .i64 y.e.key, .bool false, .slice (some ⟨g8, 0, none⟩) 2 2]] W fun e W' => e = .returned (.bool true) ∧ (W'.cell? ⟨g, k * 3, none⟩ = some (.int .i64 y.e.key) ∧ W'.cell? ⟨g, k * 3 + 1, none⟩ = some (.bool false) ∧ W'.cell? ⟨g, k * 3 + 2, none⟩ = some (.slice (some ⟨ga, 0, none⟩) 2 y.e.c) ∧ W'.cell? ⟨pb, 0, none⟩ = some (.int .u8 (Bits32.b x)) ∧ Below wr.heap.size wr W')) := fun g8 W hs hp =>
                    (sameE_any (hpA.below hs.2.2.2.2) hp).mono fun e W' h => ⟨h.1, HSK.out W' (hs.2.2.2.2.trans (h.2.mono hs.2.2.2.2.size))⟩
                  have hS0 := HSK.out wr.drew ((Drawn.mk wr 1).below _)
                  have HL : Hid (Pol ((wr.alloc (.cells #[.int .u8 (Bits32.b x), .int .u8 7] 5 (0, 0))).drew) (some ⟨wr.heap.size, 0, none⟩) 2 2 [x, 7#8]) := by
                    have h := (lit2 wr _ x 7#8 rfl).1
                    exact h.below ((Drawn.mk _ 1).below _)
                  have HYY := Lib.hid (And.intro hy (And.intro ea (And.intro hne hgm)))
                  clear hy ea en2 ec hDa hne hcm hgm k1 k2 b hD hBsz hglt hpA hfz
                  go_upto_region 20 with (fail)
                  go_region_held3 (fun W => W.cell? ⟨g, k * 3, none⟩ = some (.int .i64 y.e.key) ∧ W.cell? ⟨g, k * 3 + 1, none⟩ = some (.bool false) ∧ W.cell? ⟨g, k * 3 + 2, none⟩ = some (.slice (some ⟨ga, 0, none⟩) 2 y.e.c) ∧ W.cell? ⟨pb, 0, none⟩ = some (.int .u8 (Bits32.b x)) ∧ Below wr.heap.size wr W)
                    (first | assumption | exact ⟨by assumption, by assumption, by assumption, by assumption, by assumption⟩ | exact HSK.out _ (by repeat (first | assumption | exact Below.refl _ _ | refine Below.drew ?_ | refine Below.alloc ?_ (by first | exact Nat.le_refl _ | exact Below.size (by assumption)) _)))
                    (first
                      | (go_at_call 15; (with_reducible refine Calls.mono (HSE.out _ _ ?_ ?_) ?_); (first | assumption | exact ⟨by assumption, by assumption, by assumption, by assumption, by assumption⟩); exact HL.out; rintro e wS ⟨rfl, z1, z2, z3, z4, z5⟩))
                  have hQS : Q wS := HQ.out.2 wr wS HX.out.1 (z5.mono (HQ.out.1 wr HX.out.1).2.1)
                  have hRS : RowE wS g ys x k := HX.out.2.below z5
                  have HS := Lib.hid (And.intro hQS hRS)
                  have HG := Lib.hid (getO (HQ.out.1 wS hQS).2.2 HY.out.2.2.2.2.2.1 HYY.out.1)
                  clear z2 z3 z4 z5 c0 c1 c2 p1 hS0 HSK HSE HL hQS hRS
                  go_upto_region 23 with (go_at_call 13; (with_reducible refine Calls.mono HG.out ?_); rintro en wp ⟨g5, c5, rfl, hg5, hD5, b5⟩)
                  have hQp : Q wp := HQ.out.2 wS wp HS.out.1 (b5.mono (HQ.out.1 wS HS.out.1).2.1)
                  have hRp : RowE wp g ys x k := HS.out.2.below b5
                  have hlts := hRp.lts
                  have hg5' : ∀ k' y', k ≤ k' → ys[k']? = some y' → g < g5 ∧ ∀ q ∈ gift y', q < g5 := fun k' y' h1 h2 => by
                    obtain ⟨q1, q2⟩ := HS.out.2.lts k' y' h1 h2
                    exact ⟨by omega, fun q hq => by have := q2 q hq; omega⟩
                  have hg5B : Bs ≤ g5 := Nat.le_trans (HQ.out.1 wS HS.out.1).2.1 hg5
                  generalize hw : (wp.alloc (.cells #[.int .i64 y.e.key, .bool false, .slice (some ⟨g5, 0, none⟩) 2 c5] 35 (0, 0))) = w6
                  obtain ⟨hx6, b6⟩ := newE wp w6 ⟨y.e.key, false, some ⟨g5, 0, none⟩, 2, c5, []⟩ hw
                  clear hw
                  obtain ⟨xb, hxb⟩ : ∃ xb, xb = wp.heap.size := ⟨_, rfl⟩
                  rw [← hxb] at hx6 ⊢
                  have hxg : g5 ≠ xb := by have := hD5.lt; omega
                  clear hxb
                  have hQ6 : Q w6 := HQ.out.2 wp w6 hQp (b6.mono (HQ.out.1 wp hQp).2.1)
                  have hR6 : RowE w6 g ys x k := hRp.below b6
                  have hD6 := hD5.below b6 hD5.lt
                  obtain ⟨_, _, _, k1, _⟩ := (HQ.out.1 w6 hQ6).1
                  have p1 : w6.cell? ⟨pb, 0, none⟩ = some (.int .u8 (Bits32.b x)) := cell_of_one k1
                  obtain ⟨e0, e1, e2, _⟩ := ent3 hx6
                  have d0 : w6.cell? ⟨g5, 0, none⟩ = some (.int .u8 (Bits32.b x)) := hD6.cell 0 (by show 0 < 2; omega)
                  have df := hD6.free 0
                  have H6 := Lib.hid (And.intro hQ6 (And.intro hR6 (And.intro hg5' (And.intro hg5B (And.intro hx6 hD6)))))
                  clear hQp hRp hlts hg5' hg5B hx6 b6 hxg hQ6 hR6 hD6 k1 hD5 b5 hg5 HS HG z1
                  go_quiet (fail)
                  have bD := (Drawn.mk w6 nq).below w6.heap.size
                  generalize w6.drewN nq = w7 at bD ⊢
                  clear p1 e0 e1 e2 d0 df
                  obtain ⟨hQ6, hR6, hg5', hg5B, hx6, hD6⟩ := H6.out
                  have hQ7 : Q w7 := HQ.out.2 w6 w7 hQ6 (bD.mono (HQ.out.1 w6 hQ6).2.1)
                  have hR7 : RowE w7 g ys x k := hR6.below bD
                  have hD7 := hD6.below bD hD6.lt
                  have hx7 := (bD.block _ (lt_of_block hx6)).trans hx6
                  obtain ⟨_, _, _, k1, _⟩ := (HQ.out.1 w7 hQ7).1
                  have p1 : w7.cell? ⟨pb, 0, none⟩ = some (.int .u8 (Bits32.b x)) := cell_of_one k1
                  obtain ⟨e0, e1, e2, _⟩ := ent3 hx7
                  have d0 : w7.cell? ⟨g5, 0, none⟩ = some (.int .u8 (Bits32.b x)) := hD7.cell 0 (by show 0 < 2; omega)
                  have df := hD7.free 0
                  obtain ⟨y7, hy7⟩ := wrap8_some (Bits32.b x + 2)
                  have hm7 : (Bits32.b x + 2) % 256 = Bits32.b y7 := by rw [← hy7, IntKind.wrap_u8']
                  have H7 : Hid (Q (w7.setCell ⟨g5, 0, none⟩ (.int .u8 (Bits32.b y7))) ∧ RowE (w7.setCell ⟨g5, 0, none⟩ (.int .u8 (Bits32.b y7))) g ys x k) :=
                    ⟨HQ.out.2 w7 _ hQ7 ((Below.refl _ _).setCell hg5B _), by
                      refine RowE.far hR7 (B := g5) (fun k' y' h1 h2 => ?_) (Nat.le_refl _) 0 _
                      exact hg5' k' y' h1 h2⟩
                  clear hQ6 hR6 hg5' hg5B hx6 hD6 hQ7 hR7 hD7 hx7 k1 bD H6
                  go_upto_region 26 with (fail)
                  generalize w7.setCell ⟨g5, 0, none⟩ (.int .u8 (Bits32.b y7)) = w8 at H7 ⊢
                  clear hy7 hm7
                  obtain ⟨ga', ea, en2, ec, c0, c1, c2, hDa, hne, hcm, hgm, hfz⟩ := H7.out.2 k y (Nat.le_refl _) HYY.out.1
                  obtain rfl : ga' = ga := by have h1 := HYY.out.2.1; rw [ea] at h1; cases h1; rfl
                  have d1 := hDa.cell 1 (by show 1 < 2; omega)
                  have df1 := hDa.free 1
                  have hga8 : Bs ≤ ga' := HY.out.2.2.2.1 y (List.mem_of_getElem? HYY.out.1) ga' hgm
                  have H8 : Hid (Q (w8.setCell ⟨ga', 1, none⟩ (.int .u8 9)) ∧ RowE (w8.setCell ⟨ga', 1, none⟩ (.int .u8 9)) g ys x (k + 1) ∧ (w8.setCell ⟨ga', 1, none⟩ (.int .u8 9)).cell? ⟨g, k * 3, none⟩ = some (.int .i64 y.e.key) ∧ (w8.setCell ⟨ga', 1, none⟩ (.int .u8 9)).frozen? ⟨g, k * 3, none⟩ = false) :=
                    ⟨HQ.out.2 w8 _ H7.out.1 ((Below.refl _ _).setCell hga8 _), H7.out.2.data HY.out.2.2.1 HYY.out.1 hgm hne 1 _, (cell_heap (Below.heap_setCell _ _ _ _ (by show g ≠ ga'; exact Ne.symm hne))).trans c0, by simpa using hfz (k * 3)⟩
                  clear ea en2 ec c0 c1 hDa hne hcm hgm hfz hga8 p1 e0 e1 e2 d0 df H7
                  go_upto_region 27 with (fail)
                  generalize w8.setCell ⟨ga', 1, none⟩ (.int .u8 9) = w9 at H8 ⊢
                  have c0 := H8.out.2.2.1
                  have cf := H8.out.2.2.2
                  have hgB : Bs ≤ g := HY.out.2.2.2.2.1 (by first | rfl | trivial)
                  have H9 : Hid (Q (w9.setCell ⟨g, k * 3, none⟩ (.int .i64 77)) ∧ RowE (w9.setCell ⟨g, k * 3, none⟩ (.int .i64 77)) g ys x (k + 1)) :=
                    ⟨HQ.out.2 w9 _ H8.out.1 ((Below.refl _ _).setCell hgB _), H8.out.2.1.key (by omega) _⟩
                  clear H8 d1 df1 c2 hgB
                  go_wp2_with fail
                  go_roundg (len - (k + 1))
                  case measure => have := HI.out; omega
                  case rel => exact ⟨k + 1, rfl, hlt, by go_num, H9⟩
                · obtain rfl : k = len := by omega
                  go_wp2_with fail
                  obtain ⟨hOS, hsz, hOB⟩ := HQ.out.1 wr HX.out.1
                  refine (each_any bb wr).mono ?_
                  rintro e w2 ⟨rfl, hcb, hb2⟩
                  have hOS2 := hOS.below HBS.out hb2
                  have hOB2 := hOB.below hb2
                  obtain ⟨cb, hcbe⟩ : ∃ cb, cb = wr.heap.size := ⟨_, rfl⟩
                  rw [← hcbe] at hcb ⊢
                  have hcl := lt_of_block hcb
                  have hcb0 : bb < cb := by rw [hcbe]; exact hOB.buf.lt
                  have hents : ∀ e ∈ L, ∀ q, e.a = some q → q.block < cb := fun e he q hq => by rw [hcbe]; exact ((hOB.buf.ents e he).2 q hq).2.1
                  have HDE : Hid (w2.heap[D0]? = some (.deferred (some []))) := (hb2.block D0 (lt_of_block (HDQ.out wr HX.out.1))).trans (HDQ.out wr HX.out.1)
                  have H2 := Lib.hid (And.intro hOS2 (And.intro hOB2 (And.intro hcb (And.intro hcl (And.intro hcb0 hents)))))
                  clear hOS hsz hOB hOS2 hOB2 hcb hb2 hcl hcbe hcb0 hents HX HY HQ
                  go_wp2_with fail
                  refine wpIn_wide.1 (range_gift (n := 3) (gf := 30) (lb := #[.pointer (some ⟨cb, 0, none⟩)]) rfl (enters_of Tryd.func30 (by kernel_rfl) rfl)
                    (encs := encY) (fun _ => rfl) (gift := gift) (V := VY L w2.heap.size) [] (C := FindsY bb bb cb 2 8 8 v L)
                    (fun pre bl W => bl = [] ∧ Below w2.heap.size w2 W) (fun _ _ _ _ => False) ?_ ?_ ?_ (bl0 := []) ?_ ?_ vy_gift vy_lt vy_same
                    (each_iter 2 w2.heap.size bb bb cb 2 8 8 v L (by have := H2.out.2.1.own.len; omega) (fun e he => by have := (H2.out.2.1.own.2 e he).2.1; omega))
                    ?a1_1 (fun q W0 => W0.alloc (.cells #[.int .i64 q.e.key, .bool q.e.trim, .slice q.e.a q.e.n q.e.c] 35 (0, 0))) ?_ ?assign_1 ?body_1 ?done_1 ?stop_1)
                  case assign_1 =>
                    intro l q W K hK
                    have HK := Lib.hid hK
                    clear hK
                    gi_wp2
                    exact HK.out
                  · rintro pre bl X Y ⟨h, h'⟩ f
                    exact ⟨h, h'.trans { os := f.os, tape := f.tape, output := f.output, size := f.size, block := fun k hk => f.same k (.inl ⟨hk, by simp⟩) (Nat.lt_of_lt_of_le hk h'.size) }⟩
                  · rintro cde pre bl X Y h f
                    exact h.elim
                  · rintro pre bl X ⟨rfl, _⟩ k hk
                    cases hk
                  · exact ⟨rfl, Below.refl _ _⟩
                  · intro W hW
                    refine ⟨H2.out.2.1.buf.below hW, (hW.block cb H2.out.2.2.2.1).trans H2.out.2.2.1, fun e he q hq hm => ?_⟩
                    have h1 := H2.out.2.2.2.2.2 e he q hq
                    have h2 := H2.out.2.2.2.1
                    simp only [List.mem_cons, List.not_mem_nil, or_false] at hm
                    omega
                  · intro q W
                    exact (Below.refl _ _).alloc (Nat.le_refl _) _
                  case body_1 =>
                    rintro l pre bl q W0 W hB0 hsz hW hbl hgf ⟨rfl, hbel⟩ hV
                    obtain ⟨ga, ea, en2, et, hDa, hgm, hgB⟩ := yieldO H2.out.2.1.own hV
                    obtain ⟨eb, heb⟩ : ∃ eb, eb = W0.heap.size := ⟨_, rfl⟩
                    have hK : W.heap[eb]? = some (.cells #[.int .i64 q.e.key, .bool q.e.trim, .slice q.e.a q.e.n q.e.c] 35 (0, 0)) := by
                      rw [hW eb (by rw [heb]; simp) (by omega), heb]
                      exact heap_alloc_new W0 _
                    rw [← heb]
                    obtain ⟨c0, c1, c2, _⟩ := ent3 hK
                    rw [ea, en2] at c2
                    have HE2 := Lib.hid (And.intro ea en2)
                    obtain ⟨_, _, _, k1, _⟩ := H2.out.1.below HBS.out (hbel.mono (Nat.le_refl _))
                    have p1 : W.cell? ⟨pb, 0, none⟩ = some (.int .u8 (Bits32.b x)) := cell_of_one k1
                    have d0 : W.cell? ⟨ga, 0, none⟩ = some (.int .u8 (Bits32.b x)) := hDa.cell 0 (by show 0 < 2; omega)
                    have d1 : W.cell? ⟨ga, 1, none⟩ = some (.int .u8 7) := hDa.cell 1 (by show 1 < 2; omega)
                    have HBo := Lib.hid (And.intro hDa (And.intro hgm (And.intro hgB (And.intro hbel hK))))
                    clear hK hV hDa hgm hgB hbel hW hsz hbl hgf k1 heb ea en2 et c0 c1 hB0
                    have hSt := regrown_start W
                    have cX := cell_regrown c2
                    have cP := cell_regrown p1
                    have cD := cell_regrown d0
                    have cE := cell_regrown d1
                    clear c2 p1 d0 d1
                    gi_wp2
                    refine wpIn_round_quiet (C := fun w' => ∃ p : Regrown, w' = Sort.grow (redrawn W p.d) p.os) (by kernel_rfl) (by kernel_rfl) (by kernel_rfl) hSt ?_
                    repeat (go_big_quiet_step (fail))
                    refine wpQuiet_nil ?_
                    intro _ hw'
                    obtain ⟨⟨dq, osq⟩, hw''⟩ := hw'
                    subst hw''
                    have b6 := below_regrown W dq osq
                    generalize Sort.grow (redrawn W dq) osq = W6 at b6 ⊢
                    clear cX cP cD cE hSt
                    obtain ⟨hDa, hgm, hgB, hbel, hK⟩ := HBo.out
                    have hD6 := hDa.below b6 hDa.lt
                    have hK6 := (b6.block _ (lt_of_block hK)).trans hK
                    obtain ⟨c0, c1, c2, _⟩ := ent3 hK6
                    rw [HE2.out.1, HE2.out.2] at c2
                    have d1 := hD6.cell 1 (by show 1 < 2; omega)
                    have df := hD6.free 1
                    have HT : Hid (Tn (gift q ++ []) W (W6.setCell ⟨ga, 1, none⟩ (.int .u8 3)) [] ∧ Below w2.heap.size w2 (W6.setCell ⟨ga, 1, none⟩ (.int .u8 3))) := by
                      have ht := (Tn.below (bl := gift q ++ []) b6).trans (Tn.setCell W6 ⟨ga, 1, none⟩ (.int .u8 3) (by simp [hgm]))
                      exact ⟨⟨ht.os, ht.tape, ht.output, ht.size, ht.same, fun k hk => by cases hk⟩, (hbel.trans (b6.mono hbel.size)).setCell hgB _⟩
                    clear hDa hgm hgB hbel hK hD6 hK6 b6 HBo
                    gi_wp2
                    exact ⟨[], HT.out.1, rfl, HT.out.2⟩
                  case done_1 =>
                    rintro D1 xs bl wr hD hDl hDb hS ⟨rfl, hbel⟩ hdef
                    have HX : Hid (OwnS w base bb pb rb mb x wr) := H2.out.1.below HBS.out hbel
                    have HD1 : Hid (wr.heap[D0]? = some (.deferred (some [])) ∧ bb < D0 ∧ wr.heap[D1]? = some (.deferred (some [])) ∧ D1 ≠ D0 ∧ bb < D1) := ⟨(hbel.block D0 (lt_of_block HDE.out)).trans HDE.out, HD.out.2, hdef, by have := lt_of_block HDE.out; omega, by have := H2.out.2.1.buf.lt; omega⟩
                    clear hD hDl hDb hS hbel hdef H2
                    go_wp2_with fail
                    rw [rounds_succ]
                    go_wp2_with fail
                    obtain ⟨v, L, hB, k1, k2, b, y, hD⟩ := HX.out
                    have hLl := hB.own.len
                    have t8 : decide ((L.length : Int) ≤ 8) = true := decide_eq_true (by omega)
                    have g1 : wr.cell? ⟨rb, 0, none⟩ = some (.bool false) := cell_of_one k2
                    have g2 := free_of_one k2
                    have HK2 := Lib.hid (And.intro k2 b)
                    refine (len_any hB.buf).mono ?_
                    rintro e w' ⟨rfl, rfl⟩
                    clear hB k1 k2 b hD hLl HX
                    go_wp2_with fail
                    have hrb := HBB.out.2.2
                    refine marks_two HD1.out.2.2.2.1 ((Below.heap_setCell _ _ _ _ (by show D1 ≠ rb; have := HD1.out.2.2.2.2; omega)).trans HD1.out.2.2.1) ((Below.heap_setCell _ _ _ _ (by show D0 ≠ rb; have := HD1.out.2.1; omega)).trans HD1.out.1) ?_
                    intro W' e1 e2 e3 e4 e5
                    have g3 : W'.cell? ⟨rb, 0, none⟩ = some (.bool true) := (cell_heap (e5 rb (by have := HD1.out.2.2.2.2; omega) (by have := HD1.out.2.1; omega))).trans (cell_of_one (one_setCell HK2.out.1))
                    have hb : Below base w (wr.setCell ⟨rb, 0, none⟩ (.bool true)) := HK2.out.2.setCell HPR.out.2.2 _
                    have hbb := HBB.out.1
                    exact ⟨_, res_bool rfl rfl g3, rfl, hb.trans { os := e1, tape := e2, output := e3, size := by rw [e4]; exact Nat.le_refl _, block := fun k hk => e5 k (by have := HD1.out.2.2.2.2; omega) (by have := HD1.out.2.1; omega) }⟩
                  case stop_1 =>
                    rintro D cde pre bl W hD hDl hDb hS hix hdef
                    exact hix.elim
            case stop_0 =>
              rintro D cde pre bl W hD hDl hDb hS hix hdef
              exact hix.elim
theorem walk (a0 : Option Addr) (len0 cap0 : Nat) (z0 : List Int) (a1 : Int) (W : World) (w0 : IsRow .i64 W a0 len0 cap0 z0) (w1 : (Lit.int .u8 a1).wf = true) (h : LaidBufferOwn.Holds W) :
    Calls Tryd.prog 5 #[.slice a0 len0 cap0, .int .u8 a1] W fun e w' => e = .returned (.bool true) ∧ Below W.heap.size W w' := by
  obtain ⟨f, ⟨EN, _, EF, ES⟩, _⟩ := h
  have e : a1 = Bits32.b (BitVec.ofInt 8 a1) := by
    simp only [Lit.wf, IntKind.min, IntKind.max, Bool.and_eq_true, decide_eq_true_eq] at w1
    unfold Bits32.b
    rw [BitVec.toNat_ofInt]
    have h1 := w1.1
    have h2 := w1.2
    simp [IntKind.signed, IntKind.bits] at h1 h2
    omega
  rw [e]
  exact core a0 len0 cap0 (fun i => z0.getD i 0) _ W EF EN ES (row_zI w0)
end Go.Proofs.YtabpfadbioalgaaDoor.walkBufferOwn
