/- The walk over PoolPlays. By the verifier of shale. -/
import Derived.Test.YtaaegkjbmomjbaaDoorPoTrip
import Derived.Test.YtaaegkjbmomjbaaDoorRowDp
import Derived.Test.YtaaegkjbmomjbaaDoorLaidPoolPlays
import Derived.Test.YtaaegkjbmomjbaaDoorMarks
import Derived.Test.YtaaegkjbmomjbaaDoorQuietRound
import Derived.Deep.Cut
import Derived.Deep.CutRange
import Derived.Deep.CutBlock
import Derived.Deep.RegionHeld3
import Derived.Lib.QuietBelow
import Derived.LoopN
import Derived.Shelf.Abstract
import Derived.RangeFuncCalls
namespace Go.Proofs.YtaaegkjbmomjbaaDoor.walkPoolPlays
open Go Go.RowKit Hp Po
set_option linter.unusedVariables false
set_option linter.unusedSimpArgs false
attribute [local go_sem] Oper.semAt_some
theorem newI64 (w W : World) (x : Int) (h : w.alloc (.cells #[.int .i64 x] 3 (0, 0)) = W) : W.heap[w.heap.size]? = some (.cells #[.int .i64 x] 3 (0, 0)) ∧ Below w.heap.size w W := by
  subst h
  exact ⟨heap_alloc_new w _, (Below.refl _ _).alloc (Nat.le_refl _) _⟩
theorem newBool (w W : World) (x : Bool) (h : w.alloc (.cells #[.bool x] 4 (0, 0)) = W) : W.heap[w.heap.size]? = some (.cells #[.bool x] 4 (0, 0)) ∧ Below w.heap.size w W := by
  subst h
  exact ⟨heap_alloc_new w _, (Below.refl _ _).alloc (Nat.le_refl _) _⟩
theorem newPtr (w W : World) (p : Addr) (h : w.alloc (.cells #[.pointer (some p)] 26 (0, 0)) = W) : W.heap[w.heap.size]? = some (.cells #[.pointer (some p)] 26 (0, 0)) ∧ Below w.heap.size w W := by
  subst h
  exact ⟨heap_alloc_new w _, (Below.refl _ _).alloc (Nat.le_refl _) _⟩
theorem newRef (w W : World) (base : Nat) (hb : base ≤ w.heap.size) (h : w.alloc (.cells #[.slice none 0 0] 29 (0, 0)) = W) : RefP W base w.heap.size none 0 [] ∧ Below w.heap.size w W ∧ W.heap.size = w.heap.size + 1 := by
  subst h
  exact ⟨⟨hb, heap_alloc_new w _, ⟨Nat.le_refl _, Nat.zero_le _⟩, fun h => absurd h (by simp), fun p hp => by cases hp⟩, (Below.refl _ _).alloc (Nat.le_refl _) _, by simp⟩
theorem res_bool {fn : Func} (hr : fn.results = #[.cell 6 4]) {tmps : Array Value} {w : World} {g : Nat} {v : Bool} (hp : tmps.getD 6 undef = .pointer (some ⟨g, 0, none⟩)) (hc : w.cell? ⟨g, 0, none⟩ = some (.bool v)) : (results fn tmps).run Tryd.prog w = .ok (.bool v) w := by
  have hp' : tmps[6]?.getD undef = .pointer (some ⟨g, 0, none⟩) := by simpa using hp
  simp [results, hr, hp', asAddr, go_sem, hc]
theorem belB {w X Y : World} {base : Nat} (hbase : base = w.heap.size) (B : Below base w X) (b : Below X.heap.size X Y) : Below base w Y := B.trans (b.mono (by rw [hbase]; exact B.size))
theorem regrown_start (w : World) : ∃ p : Regrown, w.drew = Sort.grow (redrawn w p.d) p.os := regrown_of_below ((Drawn.mk w 1).below _)
/-- what lies below the pools as it lay: what came in, the variables, the sentinels. -/
def Low (base bb sb rb : Nat) (w : World) (a : Option Addr) (n : Nat) (D : Nat → DoP) (x2 : Int) (f : Nat → Addr) (W : World) : Prop :=
  W.heap[sb]? = some (.cells #[.int .i64 x2] 3 (0, 0)) ∧ W.heap[rb]? = some (.cells #[.bool false] 4 (0, 0)) ∧ Below base w W ∧ AllErrs W f ∧ ∀ i, i < n → ∃ kb off, a = some ⟨kb, off, none⟩ ∧ kb < base ∧ DpAt W kb (off + i * 3) (D i)
set_option maxRecDepth 100000 in
set_option maxHeartbeats 20000000 in
theorem core (x1 x2 : Int) (a : Option Addr) (n c : Nat) (D : Nat → DoP) (w : World) (f : Nat → Addr) (E : AllErrs w f) (R : RowDp w a n D) :
    Calls Tryd.prog 3 #[.slice a n c, .int .i64 x1, .int .i64 x2] w fun e w' => e = .returned (.bool true) ∧ Below w.heap.size w w' := by
  obtain ⟨base, hbase⟩ : ∃ base, base = w.heap.size := ⟨_, rfl⟩
  have HBS := Lib.hid hbase
  have HLW : Hid (∀ W, Below base w W → AllErrs W f ∧ ∀ i, i < n → ∃ kb off, a = some ⟨kb, off, none⟩ ∧ kb < base ∧ DpAt W kb (off + i * 3) (D i)) := fun W b => by
    refine ⟨E.below (by rw [← hbase]; exact b), fun i hi => ?_⟩
    obtain ⟨kb, off, h1, h2, h3, h4⟩ := R.2 i hi
    have hk := World.block_lt_of_cell? w _ h2
    simp only at hk
    rw [← hbase] at hk
    have e : ∀ o, W.cell? ⟨kb, o, none⟩ = w.cell? ⟨kb, o, none⟩ := fun o => World.cell?_of_block (a := ⟨kb, o, none⟩) (b.block kb hk)
    exact ⟨kb, off, h1, hk, (e _).trans h2, (e _).trans h3, (e _).trans h4⟩
  have hn := R.1
  unfold maxLen at hn
  have B : Below base w w := Below.refl _ _
  rw [← hbase]
  clear E R hbase
  refine (callsIn_wide (n := 3)).1 ?_
  refine callsIn_of_wp_marks Tryd.func3 rfl trivial ?_ rfl
  simp only [Tryd.ntmps3, List.size_toArray, List.length_cons, List.length_nil, Nat.reduceAdd, Nat.reduceSub, Array.replicate_succ, Array.replicate_zero, List.push_toArray, List.append_toArray, List.nil_append, List.cons_append]
  refine wpIn_wide.2 ?_
  go_wp2_with fail
  generalize hw : w.alloc (.cells #[.int .i64 x2] 3 (0, 0)) = w1
  obtain ⟨K1, b⟩ := newI64 w w1 _ hw
  have hs1 : w1.heap.size = w.heap.size + 1 := by rw [← hw]; simp
  clear hw
  replace B := belB HBS.out B b
  rw [← hs1]
  generalize hw : w1.alloc (.cells #[.bool false] 4 (0, 0)) = w2
  obtain ⟨K2, b⟩ := newBool w1 w2 _ hw
  clear hw
  obtain ⟨sb, hsb⟩ : ∃ sb, sb = w.heap.size := ⟨_, rfl⟩
  obtain ⟨rb, hrb⟩ : ∃ rb, rb = w1.heap.size := ⟨_, rfl⟩
  rw [← hsb] at K1 ⊢
  rw [← hrb] at K2 ⊢
  have HPR : Hid (sb ≠ rb ∧ base ≤ sb ∧ base ≤ rb) := by rw [hsb, hrb]; have := HBS.out; exact ⟨by omega, by omega, by omega⟩
  clear hsb hrb hs1
  replace K1 := (b.block _ (lt_of_block K1)).trans K1
  replace B := belB HBS.out B b
  clear b
  refine (first_any w2).mono ?_
  rintro e w3 ⟨rfl, b⟩
  replace K1 := (b.block _ (lt_of_block K1)).trans K1
  replace K2 := (b.block _ (lt_of_block K2)).trans K2
  replace B := belB HBS.out B b
  clear b
  by_cases hn : 100 < n
  · have t : decide ((100 : Int) < (n : Int)) = true := decide_eq_true (by omega)
    have g1 : w3.cell? ⟨rb, 0, none⟩ = some (.bool false) := cell_of_one K2
    have g2 := free_of_one K2
    have HB := Lib.hid B
    have HK2 := Lib.hid K2
    clear K1 K2 B HLW hn
    go_wp2_with fail
    have g3 : (w3.setCell ⟨rb, 0, none⟩ (.bool true)).cell? ⟨rb, 0, none⟩ = some (.bool true) := cell_of_one (one_setCell HK2.out)
    exact ⟨_, res_bool rfl rfl g3, rfl, HB.out.setCell HPR.out.2.2 _⟩
  have t : decide ((100 : Int) < (n : Int)) = false := decide_eq_false (by omega)
  go_wp2_with fail
  refine (new_is w3).mono ?_
  rintro e w4 ⟨rfl, P, b⟩
  obtain ⟨bb, hbb⟩ : ∃ bb, bb = w3.heap.size := ⟨_, rfl⟩
  rw [← hbb] at P b ⊢
  have hsl := lt_of_block K1
  have hrl := lt_of_block K2
  rw [← hbb] at hsl hrl
  have HBB : Hid (base ≤ bb ∧ sb < bb ∧ rb < bb) := ⟨by have := HPR.out.2.1; omega, hsl, hrl⟩
  have HLO : Hid (∀ W, Below bb w3 W → Low base bb sb rb w a n D x2 f W) := fun W b => by
    have bW : Below base w W := B.trans (b.mono HBB.out.1)
    exact ⟨(b.block sb HBB.out.2.1).trans K1, (b.block rb HBB.out.2.2).trans K2, bW, (HLW.out W bW).1, (HLW.out W bW).2⟩
  have HS4 := Lib.hid (And.intro P (And.intro b (show bb ≤ w4.heap.size from by have := P.lt bb (by simp [qbl]); omega)))
  have HNN := Lib.hid hn
  clear P b hbb hsl hrl K1 K2 B HLW hn
  go_wp2_with fail
  generalize hw : w4.alloc (.cells #[.slice none 0 0] 29 (0, 0)) = w5
  obtain ⟨PR, b5, hs5⟩ := newRef w4 w5 bb HS4.out.2.2 hw
  rw [← hs5]
  clear hw
  obtain ⟨xb, hxb⟩ : ∃ xb, xb = w4.heap.size := ⟨_, rfl⟩
  rw [← hxb] at PR ⊢
  generalize hw : w5.alloc (.cells #[.pointer (some ⟨xb, 0, none⟩)] 26 (0, 0)) = w6
  obtain ⟨KP, b6⟩ := newPtr w5 w6 _ hw
  clear hw
  obtain ⟨xp, hxp⟩ : ∃ xp, xp = w5.heap.size := ⟨_, rfl⟩
  rw [← hxp] at KP ⊢
  have HS : Hid (PP w3 bb xb xp w6) := by
    have b46 := b5.trans (b6.mono b5.size)
    have h1 := HS4.out.1.lt bb (by simp [qbl])
    have h2 := HS4.out.2.2
    have hxl : xb < w5.heap.size := PR.lt
    refine ⟨.slice none 0 0, none, 0, [], [], ⟨⟨HS4.out.1.below b46, HS4.out.2.1.trans (b46.mono h2), by intro k hk; simp [qbl, Value.ownBlock] at hk; omega, Nat.le_trans h2 b46.size⟩, PR.below b6, fun _ => rfl, ?_, KP, ⟨?_, ?_⟩, ?_⟩, PM.nil⟩
    · intro k hk
      simp [qbl, Value.ownBlock] at hk
      simp [rbl]
      omega
    · simp [qbl, Value.ownBlock]
      omega
    · simp [rbl]
      omega
    · omega
  clear PR KP b5 b6 hs5 hxb hxp t HS4
  go_wp2_with fail
  go_loopg [10] n (fun gh s10 wx => ∃ i : Nat, gh = n - i ∧ i ≤ n ∧ s10 = .int .i64 (i : Int) ∧ Hid (PP w3 bb xb xp wx))
  case atStart => exact ⟨0, rfl, Nat.zero_le _, rfl, HS⟩
  case round =>
    clear HS
    obtain ⟨i, hg, hin, rfl, HX⟩ := hrel
    have HI := Lib.hid hg
    have h100 : i ≤ 100 := by have := HNN.out; omega
    clear hg
    by_cases hlt : i < n
    · have y1 : (i : Int) < (n : Int) := by omega
      have y0 : (0 : Int) ≤ (i : Int) := by omega
      obtain ⟨v, a1, c1, M, Rl, hP, hM⟩ := HX.out
      have HM := Lib.hid hM
      have HP := Lib.hid hP
      obtain ⟨kb, off, rfl, hkb, c0, c1', c2⟩ := (HLO.out wr hP.s.2.1).2.2.2.2 i hlt
      have HKB : Hid (∀ W, Below bb w3 W → W.cell? ⟨kb, off + i * 3 + 1, none⟩ = some (.int .i64 (D i).a) ∧ W.cell? ⟨kb, off + i * 3 + 2, none⟩ = some (.int .i64 (D i).b)) := fun W b => by
        obtain ⟨kb', off', e, _, h⟩ := (HLO.out W b).2.2.2.2 i hlt
        simp only [Option.some.injEq, Addr.mk.injEq, and_true] at e
        obtain ⟨rfl, rfl⟩ := e
        exact h.2
      clear c1' c2 hP hM hkb HX
      have HD : Hid (D i = D i) := rfl
      obtain ⟨kd, hkd⟩ : ∃ x, x = (D i).kind := ⟨_, rfl⟩
      obtain ⟨da, hda⟩ : ∃ x, x = (D i).a := ⟨_, rfl⟩
      obtain ⟨dd, hdd⟩ : ∃ x, x = (D i).b := ⟨_, rfl⟩
      rw [← hkd] at c0
      rw [← hda, ← hdd] at HKB
      have HSS : Hid ((∀ W v M a c R, PC w3 bb bb xb xp v M a c R W → W.cell? ⟨kb, off + i * 3 + 1, none⟩ = some (.int .i64 da) ∧ W.cell? ⟨kb, off + i * 3 + 2, none⟩ = some (.int .i64 dd) ∧ W.cell? ⟨xp, 0, none⟩ = some (.pointer (some ⟨xb, 0, none⟩))) ∧ (∀ W, PP w3 bb xb xp W → W.cell? ⟨kb, off + i * 3 + 1, none⟩ = some (.int .i64 da) ∧ W.cell? ⟨kb, off + i * 3 + 2, none⟩ = some (.int .i64 dd) ∧ W.cell? ⟨xp, 0, none⟩ = some (.pointer (some ⟨xb, 0, none⟩)))) := by
        have h : ∀ W v M a c R, PC w3 bb bb xb xp v M a c R W → W.cell? ⟨kb, off + i * 3 + 1, none⟩ = some (.int .i64 da) ∧ W.cell? ⟨kb, off + i * 3 + 2, none⟩ = some (.int .i64 dd) ∧ W.cell? ⟨xp, 0, none⟩ = some (.pointer (some ⟨xb, 0, none⟩)) := fun W v M a c R P => ⟨(HKB.out W P.s.2.1).1, (HKB.out W P.s.2.1).2, P.ptr.1⟩
        refine ⟨h, fun W P => ?_⟩
        obtain ⟨v, a, c, M, R, P, _⟩ := P
        exact h W v M a c R P
      clear hkd hda hdd HKB HD
      go_upto_block 2 with (fail)
      go_cut [11, 12, 13, 14, 15, 16, 17] from 39 to 212 (fun s11 s12 s13 s14 s15 s16 s17 wx => Hid (PP w3 bb xb xp wx))
      case first =>
        clear c0
        by_cases hk1 : kd = 1
        · subst hk1
          as_aux_lemma =>
            obtain ⟨V, cd, Z2, hA, hB, hC⟩ := trip_add (w := w3) (B := bb) (xb := xb) (xp := xp) (c := c1) (v := v) (a := a1) HSS.out.2 HSS.out.1 (fun W b => (HLO.out W b).2.2.2.1) HM.out da dd
            have HA := Lib.hid hA
            have HB := Lib.hid hB
            have HC := Lib.hid hC
            have hZ0 := HP.out.below ((Drawn.mk wr 1).below _)
            have hS0 := HSS.out.1 _ _ _ _ _ _ hZ0
            clear hA hB hC
            go_upto_region 19 with (fail)
            go_region_held3 (fun W => (W.cell? ⟨kb, off + i * 3 + 1, none⟩ = some (.int .i64 da) ∧ W.cell? ⟨kb, off + i * 3 + 2, none⟩ = some (.int .i64 dd) ∧ W.cell? ⟨xp, 0, none⟩ = some (.pointer (some ⟨xb, 0, none⟩))))
              (first | assumption | exact ⟨by assumption, by assumption, by assumption⟩)
              ((first
                | (go_at_call 9; refine Calls.mono (HA.out _ (by assumption)) ?_; rintro e wA ⟨rfl, hSA, hZA⟩)
                | (go_at_call 10; refine Calls.mono (HB.out _ (by assumption)) ?_; rintro e wB ⟨rfl, hSB, hZB⟩)
                | (go_at_call 8; refine Calls.mono (HC.out _ (by assumption)) ?_; rintro e wC ⟨rfl, hSC, hZC⟩)))
            have HN := Lib.hid hZC
            clear hS0 hZ0 hSA hZA hSB hZB hSC hZC HA HB HC
            go_wp2_with fail
            go_meet
            case rel => exact HN
        have k1 : (kd == 1) = false := by simp [hk1]
        by_cases hk2 : kd = 2
        · subst hk2
          as_aux_lemma =>
            obtain ⟨r, Z2, hA, hB⟩ := trip_rem (w := w3) (B := bb) (xb := xb) (xp := xp) (c := c1) (v := v) (a := a1) HSS.out.2 HSS.out.1 HM.out da
            have HA := Lib.hid hA
            have HB := Lib.hid hB
            have hZ0 := HP.out.below ((Drawn.mk wr 1).below _)
            have hS0 := HSS.out.1 _ _ _ _ _ _ hZ0
            have ub : (r != r) = false := by cases r <;> rfl
            clear hA hB
            go_upto_region 22 with (fail)
            go_region_held3 (fun W => (W.cell? ⟨kb, off + i * 3 + 1, none⟩ = some (.int .i64 da) ∧ W.cell? ⟨kb, off + i * 3 + 2, none⟩ = some (.int .i64 dd) ∧ W.cell? ⟨xp, 0, none⟩ = some (.pointer (some ⟨xb, 0, none⟩))))
              (first | assumption | exact ⟨by assumption, by assumption, by assumption⟩)
              ((first
                | (go_at_call 11; refine Calls.mono (HA.out _ (by assumption)) ?_; rintro e wA ⟨rfl, hSA, hZA⟩)
                | (go_at_call 12; refine Calls.mono (HB.out _ (by assumption)) ?_; rintro e wB ⟨rfl, hSB, hZB⟩)))
            have HN := Lib.hid hZB
            clear hS0 hZ0 hSA hZA hSB hZB HA HB
            go_wp2_with fail
            go_meet
            case rel => exact HN
        have k2 : (kd == 2) = false := by simp [hk2]
        by_cases hk3 : kd = 3
        · subst hk3
          as_aux_lemma =>
            obtain ⟨m, r, Z2, hA, hB⟩ := trip_take (w := w3) (B := bb) (xb := xb) (xp := xp) (c := c1) (v := v) (a := a1) HM.out
            have HA := Lib.hid (hA wr HP.out)
            have HB := Lib.hid hB
            have ub : (r != r) = false := by cases r <;> rfl
            clear hA hB
            go_wp2_with fail
            refine HA.out.mono ?_
            rintro e wA ⟨rfl, p1, hZA⟩
            have HB2 := Lib.hid (HB.out wA hZA)
            clear HA HB hZA
            go_wp2_with fail
            refine HB2.out.mono ?_
            rintro e wB ⟨rfl, hZB⟩
            have HN := Lib.hid hZB
            clear hZB p1 HB2
            go_wp2_with fail
            go_meet
            case rel => exact HN
        have k3 : (kd == 3) = false := by simp [hk3]
        clear hk1 hk2 hk3
        as_aux_lemma =>
          cases hRl : Rl with
          | nil =>
            have hM2 := HM.out
            rw [hRl] at hM2
            have hP2 := HP.out
            rw [hRl] at hP2
            cases hM2.empty
            have HA := Lib.hid (most_nil hP2.s.1)
            have HB := Lib.hid (rmost_any hP2.r (by simp))
            have p1 := hP2.ptr.1
            have HP3 := Lib.hid (And.intro hP2 hM2)
            clear hM2 hP2
            go_wp2_with fail
            refine HA.out.mono ?_
            rintro e wA ⟨rfl, rfl⟩
            go_wp2_with fail
            refine HB.out.mono ?_
            rintro e wB ⟨l, hl, rfl, b⟩
            cases l with
            | some k => exact absurd hl.1 (by simp)
            | none =>
              rw [show optI none = -1 from rfl]
              have u1 : decide ((0 : Int) ≤ -1) = false := by decide
              have HN : Hid (PP w3 bb xb xp wB) := PP.of (HP3.out.1.below b) HP3.out.2
              clear hl b p1 HA HB
              go_wp2_with fail
              go_meet
              case rel => exact HN
          | cons y0' Rt =>
            have HA := Lib.hid (trip_most HM.out (by rw [hRl]; simp) wr HP.out)
            have HRs := Lib.hid HM.out.smallR
            clear hRl
            go_wp2_with fail
            refine HA.out.mono ?_
            rintro e wA ⟨x, v', rfl, hPA, hB⟩
            have p1 := hPA.ptr.1
            have HB := Lib.hid hB
            clear hB hPA HA
            go_wp2_with fail
            refine HB.out.mono ?_
            rintro e wB ⟨k, rfl, hk, hx, hPB, hC⟩
            obtain ⟨g, o, rfl, hg, d0, d1⟩ := hPB.r.item hk
            rw [hx] at d0
            obtain ⟨p1, p2⟩ := hPB.ptr
            have HC := Lib.hid hC
            have HK := Lib.hid (And.intro hk hx)
            obtain ⟨N, hN⟩ : ∃ N, N = Rl.length := ⟨_, rfl⟩
            rw [← hN] at p2 hk
            have z0 : (0 : Int) ≤ (k : Int) := by omega
            have z1 : (k : Int) < (N : Int) := by omega
            have z2 : decide ((0 : Int) ≤ (k : Int)) = true := decide_eq_true (by omega)
            have z3 : (k : Int) ≤ 64 := by have := HRs.out; omega
            clear hC hPB hx hk hg d1 hN HB
            go_upto_region 16 with (fail)
            clear d0 p2 z2
            go_wp2_with fail
            refine HC.out.mono ?_
            rintro e wC ⟨rfl, hP⟩
            have HN := Lib.hid hP
            clear hP HC p1
            go_wp2_with fail
            go_meet
            case rel => exact HN
      case rest =>
        clear HP HM HSS
        as_aux_lemma =>
          obtain ⟨v2, a2, c2, M2, R2, hP, hM⟩ := hcut.out
          have HX := Lib.hid hcut.out
          clear hcut
          have hbw : Below bb w3 wc := hP.s.2.1
          have h64 := hM.small
          have hR64 := hM.smallR
          cases R2 with
          | nil =>
            cases hM.empty
            have HL := Lib.hid (least_nil hP.s.1)
            have p1 := cell_regrown hP.ptr.1
            have p2 := cell_regrown hP.ptr.2
            rw [show ([] : List It).length = 0 from rfl] at p2
            have HHs : Hid (∀ q os, Calls Tryd.prog 18 #[.pointer (some ⟨bb, 0, none⟩), .int .i64 x1] (Sort.grow (redrawn wc q) os) fun e w' => e = .returned (.bool false) ∧ ∃ p : Regrown, w' = Sort.grow (redrawn wc p.d) p.os) := fun q os => Calls.regrown_of (has_is (hP.s.1.below (below_regrown wc q os)) (by simp) x1)
            have HRh : Hid (∀ q os, Calls Tryd.prog 19 #[.pointer (some ⟨xb, 0, none⟩), .int .i64 x1] (Sort.grow (redrawn wc q) os) fun e w' => e = .returned (.bool false) ∧ ∃ p : Regrown, w' = Sort.grow (redrawn wc p.d) p.os) := fun q os => Calls.regrown_of ((rhas_any (hP.r.below (below_regrown wc q os)) (by simp) x1).mono fun e w' h => ⟨h.1, by rw [← h.2]; exact Below.refl _ _⟩)
            have HLn : Hid (∀ q os, Calls Tryd.prog 20 #[.pointer (some ⟨bb, 0, none⟩)] (Sort.grow (redrawn wc q) os) fun e w' => e = .returned (.int .i64 0) ∧ ∃ p : Regrown, w' = Sort.grow (redrawn wc p.d) p.os) := fun q os => Calls.regrown_of ((len_is (hP.s.1.below (below_regrown wc q os))).mono fun e w' h => ⟨h.1, by rw [← h.2]; exact Below.refl _ _⟩)
            clear hP hM hbw h64 hR64
            go_wp2_with fail
            refine HL.out.mono ?_
            rintro e w8 ⟨rfl, rfl⟩
            clear HL
            go_upto_region 30 with (fail)
            refine wp_region_quiet_below (by kernel_rfl) (by kernel_rfl) ?_
            repeat (go_big_quiet_step (first
              | (go_at_call 18; with_reducible exact HHs.out _ _)
              | (go_at_call 19; with_reducible exact HRh.out _ _)
              | (go_at_call 20; with_reducible exact HLn.out _ _)))
            refine wpQuiet_nil ?_
            intro _ hw'
            obtain ⟨⟨dq, osq⟩, hw''⟩ := hw'
            subst hw''
            have HN : Hid (PP w3 bb xb xp (Sort.grow (redrawn wc dq) osq)) := HX.out.below (below_regrown wc dq osq)
            generalize Sort.grow (redrawn wc dq) osq = w9 at HN ⊢
            clear p1 p2 HHs HRh HLn HX
            go_wp2_with fail
            go_roundg (n - (i + 1))
            case measure => have := HI.out; omega
            case rel => exact ⟨i + 1, rfl, hlt, by go_num, HN⟩
          | cons x Rt =>
            obtain ⟨hx, hmin, _⟩ := hM.tail
            have HL := Lib.hid (least_is hP.s.1 hx hmin)
            obtain ⟨ha, hha⟩ : ∃ ha, ha = (idx? (x :: Rt) x1).isSome := ⟨_, rfl⟩
            have ub : (ha != ha) = false := by cases ha <;> rfl
            obtain ⟨N, hN⟩ : ∃ N, N = (x :: Rt).length := ⟨_, rfl⟩
            have hNM : M2.length = N := by rw [hN]; exact hM.perm.length_eq.symm
            have hN1 : 0 < N := by rw [hN]; simp
            have hN64 : N ≤ 64 := by rw [← hNM]; exact h64
            have HDR : Hid (∀ W, Drawn wc W → Below bb w3 W ∧ W.cell? ⟨xp, 0, none⟩ = some (.pointer (some ⟨xb, 0, none⟩)) ∧ W.cell? ⟨xb, 0, none⟩ = some (.slice a2 N c2) ∧ (∃ g o, a2 = some ⟨g, o, none⟩ ∧ W.cell? ⟨g, o, none⟩ = some (.int .i64 x.b) ∧ W.cell? ⟨g, o + 1, none⟩ = some (.int .i64 x.w)) ∧ PP w3 bb xb xp W ∧
                (∀ q os, Calls Tryd.prog 18 #[.pointer (some ⟨bb, 0, none⟩), .int .i64 x1] (Sort.grow (redrawn W q) os) fun e w' => e = .returned (.bool ha) ∧ ∃ p : Regrown, w' = Sort.grow (redrawn W p.d) p.os) ∧
                (∀ q os, Calls Tryd.prog 19 #[.pointer (some ⟨xb, 0, none⟩), .int .i64 x1] (Sort.grow (redrawn W q) os) fun e w' => e = .returned (.bool ha) ∧ ∃ p : Regrown, w' = Sort.grow (redrawn W p.d) p.os) ∧
                (∀ q os, Calls Tryd.prog 20 #[.pointer (some ⟨bb, 0, none⟩)] (Sort.grow (redrawn W q) os) fun e w' => e = .returned (.int .i64 (N : Int)) ∧ ∃ p : Regrown, w' = Sort.grow (redrawn W p.d) p.os)) := fun W d => by
              have P := hP.below (d.below _)
              obtain ⟨g, o, e, _, d0, d1⟩ := P.r.item (i := 0) (by simp)
              have hp2 := P.ptr.2
              rw [← hN] at hp2
              refine ⟨P.s.2.1, P.ptr.1, hp2, ⟨g, o, e, by simpa using d0, by simpa using d1⟩, PP.of P hM, fun q os => Calls.regrown_of ?_, fun q os => Calls.regrown_of ?_, fun q os => Calls.regrown_of ?_⟩
              · have h := has_is (P.s.1.below (below_regrown W q os)) (by omega) x1
                rw [hM.any, ← hha] at h
                exact h
              · rw [hha]
                exact (rhas_any (P.r.below (below_regrown W q os)) (by omega) x1).mono fun e w' h => ⟨h.1, by rw [← h.2]; exact Below.refl _ _⟩
              · rw [← hNM]
                exact (len_is (P.s.1.below (below_regrown W q os))).mono fun e w' h => ⟨h.1, by rw [← h.2]; exact Below.refl _ _⟩
            clear hP hM hbw h64 hx hmin hha hN hNM HX
            have u0 : (N : Int) ≤ 64 := by omega
            have u1 : (0 : Int) < (N : Int) := by omega
            have u2 : decide ((0 : Int) < (N : Int)) = true := decide_eq_true u1
            have u3 : ((N : Int) != (N : Int)) = false := by simp
            go_wp2_with fail
            refine HL.out.mono ?_
            rintro e w8 ⟨rfl, hd⟩
            obtain ⟨_, p1, p2, ⟨g, o, rfl, d0, d1⟩, hPP, h1, h2, h3⟩ := HDR.out w8 hd
            have HX := Lib.hid hPP
            have HHs := Lib.hid h1
            have HRh := Lib.hid h2
            have HLn := Lib.hid h3
            replace p1 := cell_regrown p1
            replace p2 := cell_regrown p2
            replace d0 := cell_regrown d0
            replace d1 := cell_regrown d1
            clear HL HDR hd hPP h1 h2 h3
            go_upto_region 30 with (fail)
            refine wp_region_quiet_below (by kernel_rfl) (by kernel_rfl) ?_
            repeat (go_big_quiet_step (first
              | (go_at_call 18; with_reducible exact HHs.out _ _)
              | (go_at_call 19; with_reducible exact HRh.out _ _)
              | (go_at_call 20; with_reducible exact HLn.out _ _)))
            refine wpQuiet_nil ?_
            intro _ hw'
            obtain ⟨⟨dq, osq⟩, hw''⟩ := hw'
            subst hw''
            have HN : Hid (PP w3 bb xb xp (Sort.grow (redrawn w8 dq) osq)) := HX.out.below (below_regrown w8 dq osq)
            generalize Sort.grow (redrawn w8 dq) osq = w9 at HN ⊢
            clear p1 p2 d0 d1 HHs HRh HLn HX
            go_wp2_with fail
            go_roundg (n - (i + 1))
            case measure => have := HI.out; omega
            case rel => exact ⟨i + 1, rfl, hlt, by go_num, HN⟩
    · obtain rfl : i = n := by omega
      as_aux_lemma =>
        obtain ⟨v, a1, c1, M, Rl, hP, hM⟩ := HX.out
        have HM := Lib.hid hM
        have hP' := Lib.hid hP
        obtain ⟨N, hN⟩ : ∃ N, N = Rl.length := ⟨_, rfl⟩
        have HNL : Hid (N = Rl.length ∧ N ≤ 64 ∧ True) := ⟨hN, by rw [hN]; exact hM.smallR, trivial⟩
        have hN64 : (N : Int) ≤ 64 := by have := HNL.out.2.1; omega
        clear HX hN hM hP
        go_wp2_with fail
        generalize hw : wr.alloc (.cells #[.int .i64 0] 3 (0, 0)) = w11
        obtain ⟨K0, b0⟩ := newI64 wr w11 0 hw
        clear hw
        obtain ⟨tb, htb⟩ : ∃ tb, tb = wr.heap.size := ⟨_, rfl⟩
        rw [← htb] at K0 ⊢
        have Hst : Hid (PC w3 bb bb xb xp v M a1 c1 Rl w11 ∧ w11.heap[tb]? = some (.cells #[.int .i64 0] 3 (0, 0)) ∧ True) := ⟨hP'.out.below b0, K0, trivial⟩
        clear K0 b0 htb hP'
        refine wp_loop_rounds 3 ?_
        rw [rounds_succ]
        have q29 := cell_of_one Hst.out.2.1
        go_wp2_with fail
        generalize hw : w11.alloc (.cells #[.int .i64 0] 3 (0, 0)) = w12
        obtain ⟨KI, bI⟩ := newI64 w11 w12 0 hw
        clear hw
        obtain ⟨ib, hib⟩ : ∃ ib, ib = w11.heap.size := ⟨_, rfl⟩
        rw [← hib] at KI ⊢
        refine (each_any bb w12).mono ?_
        rintro e w13 ⟨rfl, hcb, hb2⟩
        obtain ⟨cb, hcbe⟩ : ∃ cb, cb = w12.heap.size := ⟨_, rfl⟩
        rw [← hcbe] at hcb ⊢
        have b13 := bI.trans (hb2.mono bI.size)
        have hci := lt_of_block KI
        have HIB : Hid (w13.heap[ib]? = some (.cells #[.int .i64 0] 3 (0, 0)) ∧ ib < w13.heap.size ∧ w13.heap[cb]? = some (.cells #[.pointer (some ⟨bb, 0, none⟩)] 24 (0, 0)) ∧ ib < cb ∧ cb < w13.heap.size ∧ bb ≤ ib ∧ tb < ib) := ⟨(hb2.block ib hci).trans KI, Nat.lt_of_lt_of_le hci hb2.size, hcb, by omega, lt_of_block hcb, by rw [hib]; exact Hst.out.1.s.2.2.2, by rw [hib]; exact lt_of_block Hst.out.2.1⟩
        have HUP : Hid (∀ W, Below ib w13 W → (PC w3 bb bb xb xp v M a1 c1 Rl W ∧ W.heap[tb]? = some (.cells #[.int .i64 0] 3 (0, 0))) ∧ True) := fun W b => by
          have h : Below w11.heap.size w11 W := b13.trans (by rw [← hib]; exact b)
          exact ⟨⟨Hst.out.1.below h, (h.block tb (lt_of_block Hst.out.2.1)).trans Hst.out.2.1⟩, trivial⟩
        clear hcb hb2 b13 KI bI hci hib hcbe q29 Hst
        go_wp2_with fail
        refine wpIn_wide.1 (range_sep (n := 3) (gf := 30) (lb := #[.pointer (some ⟨cb, 0, none⟩)]) rfl (enters_of Tryd.func30 (by kernel_rfl) rfl)
          (encs := encP) (fun _ => rfl) (V := VP Rl) [] (C := FindsP bb bb cb v Rl)
          (fun pre bl W => bl = [ib] ∧ W.heap[ib]? = some (.cells #[.int .i64 (pre.length : Int)] 3 (0, 0)) ∧ Below ib w13 W ∧ w13.heap.size ≤ W.heap.size) (fun cde pre bl W => cde = .exit 5 ∧ (bl = [ib] ∧ W.heap[ib]? = some (.cells #[.int .i64 (pre.length : Int)] 3 (0, 0)) ∧ Below ib w13 W ∧ w13.heap.size ≤ W.heap.size) ∧ (pre.length : Int) = x2) ?_ ?_ ?_ (bl0 := [ib]) ?_ ?_
          (each_iter 2 w13.heap.size bb bb cb v Rl (by have := HNL.out.2.1; have := HNL.out.1; omega) HM.out.srt)
          ?a1_r ?assign_r ?body_r ?done_r ?stop_r)
        case assign_r =>
          intro l q W K hK
          have HK := Lib.hid hK
          clear hK
          gi_wp2
          exact HK.out
        · rintro pre bl X Y ⟨rfl, h1, h2, h3⟩ f
          exact ⟨rfl, (f.same ib (.inr (by simp)) (lt_of_block h1)).trans h1, h2.trans { os := f.os, tape := f.tape, output := f.output, size := f.size, block := fun z hz => f.same z (.inl ⟨by have := HIB.out.2.1; omega, by simp⟩) (by have := lt_of_block h1; omega) }, Nat.le_trans h3 f.size⟩
        · rintro cde pre bl X Y ⟨h0, ⟨rfl, h1, h2, h3⟩, h4⟩ f
          exact ⟨h0, ⟨rfl, (f.same ib (.inr (by simp)) (lt_of_block h1)).trans h1, h2.trans { os := f.os, tape := f.tape, output := f.output, size := f.size, block := fun z hz => f.same z (.inl ⟨by have := HIB.out.2.1; omega, by simp⟩) (by have := lt_of_block h1; omega) }, Nat.le_trans h3 f.size⟩, h4⟩
        · rintro pre bl X ⟨rfl, h1, _⟩ k hk
          rw [List.mem_singleton.1 hk]; exact lt_of_block h1
        · exact ⟨rfl, HIB.out.1, Below.refl _ _, Nat.le_refl _⟩
        · intro W hW
          have h1 := (HUP.out W (hW.mono (by have := HIB.out.2.1; omega))).1.1
          obtain ⟨L, Q, hp⟩ := h1.s.1
          exact ⟨⟨L, Q.q, hp.trans HM.out.perm.symm⟩, (hW.block cb HIB.out.2.2.2.2.1).trans HIB.out.2.2.1⟩
        case body_r =>
          rintro l pre bl q W ⟨rfl, h1, h2, h3⟩ ⟨hV1, hV2⟩
          obtain ⟨⟨hPC, hTB⟩, _⟩ := HUP.out W h2
          obtain ⟨j, hj⟩ : ∃ j, j = pre.length := ⟨_, rfl⟩
          rw [← hj] at h1 hV1
          have hjl : j < Rl.length := (List.getElem?_eq_some_iff.1 hV1).1
          have hjN : j < N := by rw [HNL.out.1]; exact hjl
          have hq : Rl[j]! = q := by rw [getElem!_pos Rl j hjl]; exact (List.getElem?_eq_some_iff.1 hV1).2
          have HJ : Hid (((pre ++ [q]).length : Int) = (j : Int) + 1) := by show _ = _; rw [List.length_append, hj]; simp
          have cI := cell_regrown (cell_of_one h1)
          have cP := cell_regrown hPC.ptr.1
          have cX := hPC.ptr.2
          rw [← HNL.out.1] at cX
          replace cX := cell_regrown cX
          obtain ⟨g, o, ha1, _, m0, m1⟩ := hPC.r.item hjl
          rw [hq] at m0 m1
          replace m0 := cell_regrown m0
          replace m1 := cell_regrown m1
          rw [ha1] at cX
          have u1 : decide ((N : Int) ≤ (j : Int)) = false := decide_eq_false (by omega)
          have u1' : decide (N ≤ j) = false := decide_eq_false (by omega)
          have u2 : (0 : Int) ≤ (j : Int) := by omega
          have u3 : (j : Int) < (N : Int) := by omega
          have hj64 : (j : Int) ≤ 64 := by have := HNL.out.2.1; omega
          have hSt := regrown_start W
          have HBo := Lib.hid (And.intro h1 (And.intro h2 (And.intro h3 (And.intro hPC hTB))))
          clear hq hV1 hV2 ha1 hjl hjN h1 h2 h3 hPC hTB hj
          gi_wp2
          refine wpIn_round_quiet (C := fun w' => ∃ p : Regrown, w' = Sort.grow (redrawn W p.d) p.os) (by kernel_rfl) (by kernel_rfl) (by kernel_rfl) hSt ?_
          repeat (go_big_quiet_step (fail))
          refine wpQuiet_nil ?_
          intro _ hw'
          obtain ⟨⟨dq, osq⟩, hw''⟩ := hw'
          subst hw''
          have b6 := below_regrown W dq osq
          generalize Sort.grow (redrawn W dq) osq = W6 at b6 ⊢
          clear cI cP cX m0 m1 hSt u1 u1' u2 u3
          obtain ⟨h1, h2, h3, hPC, hTB⟩ := HBo.out
          have hsB := (HLO.out W hPC.s.2.1).1
          have i6 := (b6.block ib (lt_of_block h1)).trans h1
          have t6 := (b6.block tb (lt_of_block hTB)).trans hTB
          have s6 := (b6.block sb (lt_of_block hsB)).trans hsB
          have o7 := Only.setCell W6 ⟨ib, 0, none⟩ (.int .i64 ((j : Int) + 1))
          have htbi : tb ≠ ib := by have := HIB.out.2.2.2.2.2.2; omega
          have hsbi : sb ≠ ib := by have := HIB.out.2.2.2.2.2.1; have := HBB.out.2.1; omega
          have i7 : (W6.setCell ⟨ib, 0, none⟩ (.int .i64 ((j : Int) + 1))).heap[ib]? = some (.cells #[.int .i64 ((j : Int) + 1)] 3 (0, 0)) := one_setCell i6
          have t7 := (o7.block tb htbi).trans t6
          have s7 := (o7.block sb hsbi).trans s6
          have HN : Hid (Tn [ib] W (W6.setCell ⟨ib, 0, none⟩ (.int .i64 ((j : Int) + 1))) [ib] ∧ ((W6.setCell ⟨ib, 0, none⟩ (.int .i64 ((j : Int) + 1))).heap[ib]? = some (.cells #[.int .i64 ((pre ++ [q]).length : Int)] 3 (0, 0)) ∧ Below ib w13 (W6.setCell ⟨ib, 0, none⟩ (.int .i64 ((j : Int) + 1))) ∧ w13.heap.size ≤ (W6.setCell ⟨ib, 0, none⟩ (.int .i64 ((j : Int) + 1))).heap.size)) := by
            refine ⟨(Tn.below (bl := [ib]) b6).trans (Tn.setCell W6 ⟨ib, 0, none⟩ (.int .i64 ((j : Int) + 1)) (by simp)), by rw [HJ.out]; exact i7, (h2.trans (b6.mono (by have := lt_of_block h1; omega))).setCell (Nat.le_refl _) _, ?_⟩
            rw [o7.size]
            exact Nat.le_trans h3 b6.size
          have g1 := cell_of_one i6
          have g2 := free_of_one i6
          have g3 := cell_of_one i7
          have g4 := cell_of_one t7
          have g5 := cell_of_one s7
          clear h1 h2 h3 hPC hTB hsB i6 t6 s6 o7 htbi hsbi i7 t7 s7 b6 HBo
          by_cases hs : (j : Int) + 1 = x2
          · have hs2 : ((j : Int) + 1 == x2) = true := by simp [hs]
            have HS := Lib.hid hs
            clear hs
            gi_wp2
            exact ⟨_, HN.out.1, rfl, ⟨rfl, HN.out.2⟩, by rw [HJ.out]; exact HS.out⟩
          · have hs2 : ((j : Int) + 1 == x2) = false := by simp [hs]
            clear hs
            gi_wp2
            exact ⟨_, HN.out.1, rfl, HN.out.2⟩
        case done_r =>
          rintro Dr xs bl W hD hDl hDb hS ⟨rfl, h1, h2, h3⟩ hdef
          have hlen : xs.length = N := by rw [hS]; exact HNL.out.1.symm
          rw [hlen] at h1
          have hDX : ib < Dr := by have := HIB.out.2.1; omega
          obtain ⟨⟨hPC, hTB⟩, hEX⟩ := HUP.out W h2
          have p1 := hPC.ptr.1
          have p2 := hPC.ptr.2
          rw [← HNL.out.1] at p2
          have p3 := cell_of_one h1
          have p4 := cell_of_one hTB
          have p5 := cell_of_one (HLO.out W hPC.s.2.1).1
          have u5 : ((N : Int) == (N : Int)) = true := by simp
          have HW := Lib.hid (And.intro hPC (And.intro hTB (And.intro hdef (And.intro hDX hEX))))
          clear hPC hTB h1 h2 h3 hdef hDb hDl hD hDX hS hlen hEX
          go_wp2_with fail
          go_quiet (fail)
          have bD := (Drawn.mk W nq).below W.heap.size
          generalize W.drewN nq = w14 at bD ⊢
          clear p1 p2 p3 p4 p5
          have q4 := cell_of_one ((bD.block tb (lt_of_block HW.out.2.1)).trans HW.out.2.1)
          have hmk := newI64 w14 _ 1 rfl
          have Hst : Hid (PC w3 bb bb xb xp v M a1 c1 Rl (w14.alloc (.cells #[.int .i64 1] 3 (0, 0))) ∧ (w14.alloc (.cells #[.int .i64 1] 3 (0, 0))).heap[w14.heap.size]? = some (.cells #[.int .i64 1] 3 (0, 0)) ∧ (w14.alloc (.cells #[.int .i64 1] 3 (0, 0))).heap[Dr]? = some (.deferred (some [])) ∧ bb ≤ Dr ∧ True) := by
            have bb14 := bD.trans (hmk.2.mono bD.size)
            exact ⟨HW.out.1.below bb14, hmk.1, (bb14.block Dr (lt_of_block HW.out.2.2.1)).trans HW.out.2.2.1, by have := HW.out.2.2.2.1; have := HIB.out.2.2.2.2.2.1; omega , trivial⟩
          clear bD HW hmk
          go_wp2_with fail
          generalize (w14.alloc (.cells #[.int .i64 1] 3 (0, 0))) = w15 at Hst ⊢
          generalize w14.heap.size = tb1 at Hst ⊢
          clear q4 HUP HIB
          rw [rounds_succ]
          obtain ⟨tb, rfl⟩ : ∃ x, x = tb1 := ⟨_, rfl⟩
          as_aux_lemma =>
            have q29 := cell_of_one Hst.out.2.1
            go_wp2_with fail
            generalize hw : w15.alloc (.cells #[.int .i64 0] 3 (0, 0)) = w12
            obtain ⟨KI, bI⟩ := newI64 w15 w12 0 hw
            clear hw
            obtain ⟨ib, hib⟩ : ∃ ib, ib = w15.heap.size := ⟨_, rfl⟩
            rw [← hib] at KI ⊢
            refine (each_any bb w12).mono ?_
            rintro e w13 ⟨rfl, hcb, hb2⟩
            obtain ⟨cb, hcbe⟩ : ∃ cb, cb = w12.heap.size := ⟨_, rfl⟩
            rw [← hcbe] at hcb ⊢
            have b13 := bI.trans (hb2.mono bI.size)
            have hci := lt_of_block KI
            have HIB : Hid (w13.heap[ib]? = some (.cells #[.int .i64 0] 3 (0, 0)) ∧ ib < w13.heap.size ∧ w13.heap[cb]? = some (.cells #[.pointer (some ⟨bb, 0, none⟩)] 24 (0, 0)) ∧ ib < cb ∧ cb < w13.heap.size ∧ bb ≤ ib ∧ tb < ib) := ⟨(hb2.block ib hci).trans KI, Nat.lt_of_lt_of_le hci hb2.size, hcb, by omega, lt_of_block hcb, by rw [hib]; exact Hst.out.1.s.2.2.2, by rw [hib]; exact lt_of_block Hst.out.2.1⟩
            have HUP : Hid (∀ W, Below ib w13 W → (PC w3 bb bb xb xp v M a1 c1 Rl W ∧ W.heap[tb]? = some (.cells #[.int .i64 1] 3 (0, 0))) ∧ (W.heap[Dr]? = some (.deferred (some [])) ∧ bb ≤ Dr ∧ Dr < ib)) := fun W b => by
              have h : Below w15.heap.size w15 W := b13.trans (by rw [← hib]; exact b)
              exact ⟨⟨Hst.out.1.below h, (h.block tb (lt_of_block Hst.out.2.1)).trans Hst.out.2.1⟩, ⟨(h.block Dr (lt_of_block Hst.out.2.2.1)).trans Hst.out.2.2.1, Hst.out.2.2.2.1, by rw [hib]; exact lt_of_block Hst.out.2.2.1⟩⟩
            clear hcb hb2 b13 KI bI hci hib hcbe q29 Hst
            go_wp2_with fail
            refine wpIn_wide.1 (range_sep (n := 3) (gf := 30) (lb := #[.pointer (some ⟨cb, 0, none⟩)]) rfl (enters_of Tryd.func30 (by kernel_rfl) rfl)
              (encs := encP) (fun _ => rfl) (V := VP Rl) [] (C := FindsP bb bb cb v Rl)
              (fun pre bl W => bl = [ib] ∧ W.heap[ib]? = some (.cells #[.int .i64 (pre.length : Int)] 3 (0, 0)) ∧ Below ib w13 W ∧ w13.heap.size ≤ W.heap.size) (fun _ _ _ _ => False) ?_ ?_ ?_ (bl0 := [ib]) ?_ ?_
              (each_iter 2 w13.heap.size bb bb cb v Rl (by have := HNL.out.2.1; have := HNL.out.1; omega) HM.out.srt)
              ?a1_ra ?assign_ra ?body_ra ?done_ra ?stop_ra)
            case assign_ra =>
              intro l q W K hK
              have HK := Lib.hid hK
              clear hK
              gi_wp2
              exact HK.out
            · rintro pre bl X Y ⟨rfl, h1, h2, h3⟩ f
              exact ⟨rfl, (f.same ib (.inr (by simp)) (lt_of_block h1)).trans h1, h2.trans { os := f.os, tape := f.tape, output := f.output, size := f.size, block := fun z hz => f.same z (.inl ⟨by have := HIB.out.2.1; omega, by simp⟩) (by have := lt_of_block h1; omega) }, Nat.le_trans h3 f.size⟩
            · rintro cde pre bl X Y h f
              exact h.elim
            · rintro pre bl X ⟨rfl, h1, _⟩ k hk
              rw [List.mem_singleton.1 hk]; exact lt_of_block h1
            · exact ⟨rfl, HIB.out.1, Below.refl _ _, Nat.le_refl _⟩
            · intro W hW
              have h1 := (HUP.out W (hW.mono (by have := HIB.out.2.1; omega))).1.1
              obtain ⟨L, Q, hp⟩ := h1.s.1
              exact ⟨⟨L, Q.q, hp.trans HM.out.perm.symm⟩, (hW.block cb HIB.out.2.2.2.2.1).trans HIB.out.2.2.1⟩
            case body_ra =>
              rintro l pre bl q W ⟨rfl, h1, h2, h3⟩ ⟨hV1, hV2⟩
              obtain ⟨⟨hPC, hTB⟩, _⟩ := HUP.out W h2
              obtain ⟨j, hj⟩ : ∃ j, j = pre.length := ⟨_, rfl⟩
              rw [← hj] at h1 hV1
              have hjl : j < Rl.length := (List.getElem?_eq_some_iff.1 hV1).1
              have hjN : j < N := by rw [HNL.out.1]; exact hjl
              have hq : Rl[j]! = q := by rw [getElem!_pos Rl j hjl]; exact (List.getElem?_eq_some_iff.1 hV1).2
              have HJ : Hid (((pre ++ [q]).length : Int) = (j : Int) + 1) := by show _ = _; rw [List.length_append, hj]; simp
              have cI := cell_regrown (cell_of_one h1)
              have cP := cell_regrown hPC.ptr.1
              have cX := hPC.ptr.2
              rw [← HNL.out.1] at cX
              replace cX := cell_regrown cX
              obtain ⟨g, o, ha1, _, m0, m1⟩ := hPC.r.item hjl
              rw [hq] at m0 m1
              replace m0 := cell_regrown m0
              replace m1 := cell_regrown m1
              rw [ha1] at cX
              have u1 : decide ((N : Int) ≤ (j : Int)) = false := decide_eq_false (by omega)
              have u1' : decide (N ≤ j) = false := decide_eq_false (by omega)
              have u2 : (0 : Int) ≤ (j : Int) := by omega
              have u3 : (j : Int) < (N : Int) := by omega
              have hj64 : (j : Int) ≤ 64 := by have := HNL.out.2.1; omega
              have hSt := regrown_start W
              have HBo := Lib.hid (And.intro h1 (And.intro h2 (And.intro h3 (And.intro hPC hTB))))
              clear hq hV1 hV2 ha1 hjl hjN h1 h2 h3 hPC hTB hj
              gi_wp2
              refine wpIn_round_quiet (C := fun w' => ∃ p : Regrown, w' = Sort.grow (redrawn W p.d) p.os) (by kernel_rfl) (by kernel_rfl) (by kernel_rfl) hSt ?_
              repeat (go_big_quiet_step (fail))
              refine wpQuiet_nil ?_
              intro _ hw'
              obtain ⟨⟨dq, osq⟩, hw''⟩ := hw'
              subst hw''
              have b6 := below_regrown W dq osq
              generalize Sort.grow (redrawn W dq) osq = W6 at b6 ⊢
              clear cI cP cX m0 m1 hSt u1 u1' u2 u3
              obtain ⟨h1, h2, h3, hPC, hTB⟩ := HBo.out
              have hsB := (HLO.out W hPC.s.2.1).1
              have i6 := (b6.block ib (lt_of_block h1)).trans h1
              have t6 := (b6.block tb (lt_of_block hTB)).trans hTB
              have s6 := (b6.block sb (lt_of_block hsB)).trans hsB
              have o7 := Only.setCell W6 ⟨ib, 0, none⟩ (.int .i64 ((j : Int) + 1))
              have htbi : tb ≠ ib := by have := HIB.out.2.2.2.2.2.2; omega
              have hsbi : sb ≠ ib := by have := HIB.out.2.2.2.2.2.1; have := HBB.out.2.1; omega
              have i7 : (W6.setCell ⟨ib, 0, none⟩ (.int .i64 ((j : Int) + 1))).heap[ib]? = some (.cells #[.int .i64 ((j : Int) + 1)] 3 (0, 0)) := one_setCell i6
              have t7 := (o7.block tb htbi).trans t6
              have s7 := (o7.block sb hsbi).trans s6
              have HN : Hid (Tn [ib] W (W6.setCell ⟨ib, 0, none⟩ (.int .i64 ((j : Int) + 1))) [ib] ∧ ((W6.setCell ⟨ib, 0, none⟩ (.int .i64 ((j : Int) + 1))).heap[ib]? = some (.cells #[.int .i64 ((pre ++ [q]).length : Int)] 3 (0, 0)) ∧ Below ib w13 (W6.setCell ⟨ib, 0, none⟩ (.int .i64 ((j : Int) + 1))) ∧ w13.heap.size ≤ (W6.setCell ⟨ib, 0, none⟩ (.int .i64 ((j : Int) + 1))).heap.size)) := by
                refine ⟨(Tn.below (bl := [ib]) b6).trans (Tn.setCell W6 ⟨ib, 0, none⟩ (.int .i64 ((j : Int) + 1)) (by simp)), by rw [HJ.out]; exact i7, (h2.trans (b6.mono (by have := lt_of_block h1; omega))).setCell (Nat.le_refl _) _, ?_⟩
                rw [o7.size]
                exact Nat.le_trans h3 b6.size
              have g1 := cell_of_one i6
              have g2 := free_of_one i6
              have g3 := cell_of_one i7
              have g4 := cell_of_one t7
              have g5 := cell_of_one s7
              clear h1 h2 h3 hPC hTB hsB i6 t6 s6 o7 htbi hsbi i7 t7 s7 b6 HBo
              gi_wp2
              exact ⟨_, HN.out.1, rfl, HN.out.2⟩
            case done_ra =>
              rintro D2 xs bl W hD hDl hDb hS ⟨rfl, h1, h2, h3⟩ hdef
              have hlen : xs.length = N := by rw [hS]; exact HNL.out.1.symm
              rw [hlen] at h1
              have hDX : ib < D2 := by have := HIB.out.2.1; omega
              obtain ⟨⟨hPC, hTB⟩, hEX⟩ := HUP.out W h2
              have p1 := hPC.ptr.1
              have p2 := hPC.ptr.2
              rw [← HNL.out.1] at p2
              have p3 := cell_of_one h1
              have p4 := cell_of_one hTB
              have p5 := cell_of_one (HLO.out W hPC.s.2.1).1
              have u5 : ((N : Int) == (N : Int)) = true := by simp
              have HW := Lib.hid (And.intro hPC (And.intro hTB (And.intro hdef (And.intro hDX hEX))))
              clear hPC hTB h1 h2 h3 hdef hDb hDl hD hDX hS hlen hEX
              go_wp2_with fail
              go_quiet (fail)
              have bD := (Drawn.mk W nq).below W.heap.size
              generalize W.drewN nq = w14 at bD ⊢
              clear p1 p2 p3 p4 p5
              have q4 := cell_of_one ((bD.block tb (lt_of_block HW.out.2.1)).trans HW.out.2.1)
              have hmk := newI64 w14 _ 2 rfl
              have Hst : Hid (PC w3 bb bb xb xp v M a1 c1 Rl (w14.alloc (.cells #[.int .i64 2] 3 (0, 0))) ∧ (w14.alloc (.cells #[.int .i64 2] 3 (0, 0))).heap[w14.heap.size]? = some (.cells #[.int .i64 2] 3 (0, 0)) ∧ (w14.alloc (.cells #[.int .i64 2] 3 (0, 0))).heap[D2]? = some (.deferred (some [])) ∧ bb ≤ D2 ∧ (w14.alloc (.cells #[.int .i64 2] 3 (0, 0))).heap[Dr]? = some (.deferred (some [])) ∧ bb ≤ Dr ∧ Dr < D2) := by
                have bb14 := bD.trans (hmk.2.mono bD.size)
                exact ⟨HW.out.1.below bb14, hmk.1, (bb14.block D2 (lt_of_block HW.out.2.2.1)).trans HW.out.2.2.1, by have := HW.out.2.2.2.1; have := HIB.out.2.2.2.2.2.1; omega , (bb14.block Dr (lt_of_block HW.out.2.2.2.2.1)).trans HW.out.2.2.2.2.1, HW.out.2.2.2.2.2.1, by have := HW.out.2.2.2.2.2.2; have := HW.out.2.2.2.1; omega⟩
              clear bD HW hmk
              go_wp2_with fail
              generalize (w14.alloc (.cells #[.int .i64 2] 3 (0, 0))) = w15 at Hst ⊢
              generalize w14.heap.size = tb1 at Hst ⊢
              clear q4 HUP HIB
              rw [rounds_succ]
              obtain ⟨tb, rfl⟩ : ∃ x, x = tb1 := ⟨_, rfl⟩
              as_aux_lemma =>
                have q29 := cell_of_one Hst.out.2.1
                have hlo := HLO.out w15 Hst.out.1.s.2.1
                have g3 := cell_of_one hlo.2.1
                have g4 := free_of_one hlo.2.1
                have HF : Hid ((w15.setCell ⟨rb, 0, none⟩ (.bool true)).heap[rb]? = some (.cells #[.bool true] 4 (0, 0)) ∧ Below base w (w15.setCell ⟨rb, 0, none⟩ (.bool true)) ∧ (w15.setCell ⟨rb, 0, none⟩ (.bool true)).heap[D2]? = some (.deferred (some [])) ∧ (w15.setCell ⟨rb, 0, none⟩ (.bool true)).heap[Dr]? = some (.deferred (some [])) ∧ D2 ≠ Dr ∧ bb ≤ D2 ∧ bb ≤ Dr) := by
                  have o7 := Only.setCell w15 ⟨rb, 0, none⟩ (.bool true)
                  have h1 := HBB.out.2.2
                  have h2 := Hst.out.2.2.2.1
                  have h3 := Hst.out.2.2.2.2.2.1
                  have h4 := Hst.out.2.2.2.2.2.2
                  exact ⟨one_setCell hlo.2.1, hlo.2.2.1.setCell HPR.out.2.2 _, (o7.block D2 (by show D2 ≠ rb; omega)).trans Hst.out.2.2.1, (o7.block Dr (by show Dr ≠ rb; omega)).trans Hst.out.2.2.2.2.1, by omega, h2, h3⟩
                clear Hst hlo
                go_wp2_with fail
                refine marks_two HF.out.2.2.2.2.1 HF.out.2.2.1 HF.out.2.2.2.1 ?_
                intro W' e1 e2 e3 e4 e5
                have h1 := HBB.out
                have h2 := HF.out.2.2.2.2.2
                have g9 : W'.cell? ⟨rb, 0, none⟩ = some (.bool true) := cell_of_one ((e5 rb (by omega) (by omega)).trans HF.out.1)
                exact ⟨_, res_bool rfl rfl g9, rfl, HF.out.2.1.trans { os := e1, tape := e2, output := e3, size := by rw [e4]; exact Nat.le_refl _, block := fun k hk => e5 k (by omega) (by omega) }⟩
            case stop_ra =>
              rintro D cde pre bl W hD hDl hDb hS hix hdef
              exact hix.elim
        case stop_r =>
          rintro Ds cde pre bl W hD hDl hDb hS ⟨rfl, ⟨rfl, h1, h2, h3⟩, hstop⟩ hdef
          have hDX : ib < Ds := by have := HIB.out.2.1; omega
          obtain ⟨L5, hlen⟩ : ∃ L5, L5 = pre.length := ⟨_, rfl⟩
          rw [← hlen] at h1 hstop
          have hst2 : ((L5 : Int) == x2) = true := by simp [hstop]
          clear hstop
          obtain ⟨⟨hPC, hTB⟩, hEX⟩ := HUP.out W h2
          have p1 := hPC.ptr.1
          have p2 := hPC.ptr.2
          rw [← HNL.out.1] at p2
          have p3 := cell_of_one h1
          have p4 := cell_of_one hTB
          have p5 := cell_of_one (HLO.out W hPC.s.2.1).1
          have HW := Lib.hid (And.intro hPC (And.intro hTB (And.intro hdef (And.intro hDX hEX))))
          clear hPC hTB h1 h2 h3 hdef hDb hDl hD hDX hS hlen hEX
          have HP := Lib.hid (And.intro p1 (And.intro p2 (And.intro p3 (And.intro p4 p5))))
          gi_wp2
          go_upto_region 43 with (fail)
          go_cut [277] from 213 to 278 (fun s277 wx => s277 = .bool false ∧ Hid (∃ nq, wx = W.drewN nq))
          case first =>
            by_cases hLN : L5 = N
            · have hLN' : (L5 : Int) = (N : Int) := by rw [hLN]
              rw [hLN'] at p3
              clear hLN hLN' hst2
              have u5 : ((N : Int) == (N : Int)) = true := by simp
              go_quiet (fail)
              have HQ : Hid (∃ n, W.drewN nq = W.drewN n) := ⟨nq, rfl⟩
              go_wp2_with fail
              go_meet
              case rel => exact ⟨rfl, HQ⟩
            · have u5 : ((L5 : Int) == (N : Int)) = false := by rw [beq_eq_false_iff_ne]; omega
              have u6 : (L5 == N) = false := by rw [beq_eq_false_iff_ne]; exact hLN
              have u7 : ¬ ((L5 : Int) = (N : Int)) := by omega
              clear hLN
              go_quiet (fail)
              have HQ : Hid (∃ n, W.drewN nq = W.drewN n) := ⟨nq, rfl⟩
              go_wp2_with fail
              go_meet
              case rel => exact ⟨rfl, HQ⟩
          case rest =>
            obtain ⟨rfl, HQ⟩ := hcut
            obtain ⟨nq, hq⟩ := HQ.out
            subst hq
            clear HQ HP hst2
            have bD := (Drawn.mk W nq).below W.heap.size
            generalize W.drewN nq = w14 at bD ⊢
            clear p1 p2 p3 p4 p5
            have q4 := cell_of_one ((bD.block tb (lt_of_block HW.out.2.1)).trans HW.out.2.1)
            have hmk := newI64 w14 _ 1 rfl
            have Hst : Hid (PC w3 bb bb xb xp v M a1 c1 Rl (w14.alloc (.cells #[.int .i64 1] 3 (0, 0))) ∧ (w14.alloc (.cells #[.int .i64 1] 3 (0, 0))).heap[w14.heap.size]? = some (.cells #[.int .i64 1] 3 (0, 0)) ∧ (w14.alloc (.cells #[.int .i64 1] 3 (0, 0))).heap[Ds]? = some (.deferred (some [])) ∧ bb ≤ Ds ∧ True) := by
              have bb14 := bD.trans (hmk.2.mono bD.size)
              exact ⟨HW.out.1.below bb14, hmk.1, (bb14.block Ds (lt_of_block HW.out.2.2.1)).trans HW.out.2.2.1, by have := HW.out.2.2.2.1; have := HIB.out.2.2.2.2.2.1; omega , trivial⟩
            clear bD HW hmk
            go_wp2_with fail
            generalize (w14.alloc (.cells #[.int .i64 1] 3 (0, 0))) = w15 at Hst ⊢
            generalize w14.heap.size = tb1 at Hst ⊢
            clear q4 HUP HIB
            rw [rounds_succ]
            obtain ⟨tb, rfl⟩ : ∃ x, x = tb1 := ⟨_, rfl⟩
            as_aux_lemma =>
              have q29 := cell_of_one Hst.out.2.1
              go_wp2_with fail
              generalize hw : w15.alloc (.cells #[.int .i64 0] 3 (0, 0)) = w12
              obtain ⟨KI, bI⟩ := newI64 w15 w12 0 hw
              clear hw
              obtain ⟨ib, hib⟩ : ∃ ib, ib = w15.heap.size := ⟨_, rfl⟩
              rw [← hib] at KI ⊢
              refine (each_any bb w12).mono ?_
              rintro e w13 ⟨rfl, hcb, hb2⟩
              obtain ⟨cb, hcbe⟩ : ∃ cb, cb = w12.heap.size := ⟨_, rfl⟩
              rw [← hcbe] at hcb ⊢
              have b13 := bI.trans (hb2.mono bI.size)
              have hci := lt_of_block KI
              have HIB : Hid (w13.heap[ib]? = some (.cells #[.int .i64 0] 3 (0, 0)) ∧ ib < w13.heap.size ∧ w13.heap[cb]? = some (.cells #[.pointer (some ⟨bb, 0, none⟩)] 24 (0, 0)) ∧ ib < cb ∧ cb < w13.heap.size ∧ bb ≤ ib ∧ tb < ib) := ⟨(hb2.block ib hci).trans KI, Nat.lt_of_lt_of_le hci hb2.size, hcb, by omega, lt_of_block hcb, by rw [hib]; exact Hst.out.1.s.2.2.2, by rw [hib]; exact lt_of_block Hst.out.2.1⟩
              have HUP : Hid (∀ W, Below ib w13 W → (PC w3 bb bb xb xp v M a1 c1 Rl W ∧ W.heap[tb]? = some (.cells #[.int .i64 1] 3 (0, 0))) ∧ (W.heap[Ds]? = some (.deferred (some [])) ∧ bb ≤ Ds ∧ Ds < ib)) := fun W b => by
                have h : Below w15.heap.size w15 W := b13.trans (by rw [← hib]; exact b)
                exact ⟨⟨Hst.out.1.below h, (h.block tb (lt_of_block Hst.out.2.1)).trans Hst.out.2.1⟩, ⟨(h.block Ds (lt_of_block Hst.out.2.2.1)).trans Hst.out.2.2.1, Hst.out.2.2.2.1, by rw [hib]; exact lt_of_block Hst.out.2.2.1⟩⟩
              clear hcb hb2 b13 KI bI hci hib hcbe q29 Hst
              go_wp2_with fail
              refine wpIn_wide.1 (range_sep (n := 3) (gf := 30) (lb := #[.pointer (some ⟨cb, 0, none⟩)]) rfl (enters_of Tryd.func30 (by kernel_rfl) rfl)
                (encs := encP) (fun _ => rfl) (V := VP Rl) [] (C := FindsP bb bb cb v Rl)
                (fun pre bl W => bl = [ib] ∧ W.heap[ib]? = some (.cells #[.int .i64 (pre.length : Int)] 3 (0, 0)) ∧ Below ib w13 W ∧ w13.heap.size ≤ W.heap.size) (fun _ _ _ _ => False) ?_ ?_ ?_ (bl0 := [ib]) ?_ ?_
                (each_iter 2 w13.heap.size bb bb cb v Rl (by have := HNL.out.2.1; have := HNL.out.1; omega) HM.out.srt)
                ?a1_rc ?assign_rc ?body_rc ?done_rc ?stop_rc)
              case assign_rc =>
                intro l q W K hK
                have HK := Lib.hid hK
                clear hK
                gi_wp2
                exact HK.out
              · rintro pre bl X Y ⟨rfl, h1, h2, h3⟩ f
                exact ⟨rfl, (f.same ib (.inr (by simp)) (lt_of_block h1)).trans h1, h2.trans { os := f.os, tape := f.tape, output := f.output, size := f.size, block := fun z hz => f.same z (.inl ⟨by have := HIB.out.2.1; omega, by simp⟩) (by have := lt_of_block h1; omega) }, Nat.le_trans h3 f.size⟩
              · rintro cde pre bl X Y h f
                exact h.elim
              · rintro pre bl X ⟨rfl, h1, _⟩ k hk
                rw [List.mem_singleton.1 hk]; exact lt_of_block h1
              · exact ⟨rfl, HIB.out.1, Below.refl _ _, Nat.le_refl _⟩
              · intro W hW
                have h1 := (HUP.out W (hW.mono (by have := HIB.out.2.1; omega))).1.1
                obtain ⟨L, Q, hp⟩ := h1.s.1
                exact ⟨⟨L, Q.q, hp.trans HM.out.perm.symm⟩, (hW.block cb HIB.out.2.2.2.2.1).trans HIB.out.2.2.1⟩
              case body_rc =>
                rintro l pre bl q W ⟨rfl, h1, h2, h3⟩ ⟨hV1, hV2⟩
                obtain ⟨⟨hPC, hTB⟩, _⟩ := HUP.out W h2
                obtain ⟨j, hj⟩ : ∃ j, j = pre.length := ⟨_, rfl⟩
                rw [← hj] at h1 hV1
                have hjl : j < Rl.length := (List.getElem?_eq_some_iff.1 hV1).1
                have hjN : j < N := by rw [HNL.out.1]; exact hjl
                have hq : Rl[j]! = q := by rw [getElem!_pos Rl j hjl]; exact (List.getElem?_eq_some_iff.1 hV1).2
                have HJ : Hid (((pre ++ [q]).length : Int) = (j : Int) + 1) := by show _ = _; rw [List.length_append, hj]; simp
                have cI := cell_regrown (cell_of_one h1)
                have cP := cell_regrown hPC.ptr.1
                have cX := hPC.ptr.2
                rw [← HNL.out.1] at cX
                replace cX := cell_regrown cX
                obtain ⟨g, o, ha1, _, m0, m1⟩ := hPC.r.item hjl
                rw [hq] at m0 m1
                replace m0 := cell_regrown m0
                replace m1 := cell_regrown m1
                rw [ha1] at cX
                have u1 : decide ((N : Int) ≤ (j : Int)) = false := decide_eq_false (by omega)
                have u1' : decide (N ≤ j) = false := decide_eq_false (by omega)
                have u2 : (0 : Int) ≤ (j : Int) := by omega
                have u3 : (j : Int) < (N : Int) := by omega
                have hj64 : (j : Int) ≤ 64 := by have := HNL.out.2.1; omega
                have hSt := regrown_start W
                have HBo := Lib.hid (And.intro h1 (And.intro h2 (And.intro h3 (And.intro hPC hTB))))
                clear hq hV1 hV2 ha1 hjl hjN h1 h2 h3 hPC hTB hj
                gi_wp2
                refine wpIn_round_quiet (C := fun w' => ∃ p : Regrown, w' = Sort.grow (redrawn W p.d) p.os) (by kernel_rfl) (by kernel_rfl) (by kernel_rfl) hSt ?_
                repeat (go_big_quiet_step (fail))
                refine wpQuiet_nil ?_
                intro _ hw'
                obtain ⟨⟨dq, osq⟩, hw''⟩ := hw'
                subst hw''
                have b6 := below_regrown W dq osq
                generalize Sort.grow (redrawn W dq) osq = W6 at b6 ⊢
                clear cI cP cX m0 m1 hSt u1 u1' u2 u3
                obtain ⟨h1, h2, h3, hPC, hTB⟩ := HBo.out
                have hsB := (HLO.out W hPC.s.2.1).1
                have i6 := (b6.block ib (lt_of_block h1)).trans h1
                have t6 := (b6.block tb (lt_of_block hTB)).trans hTB
                have s6 := (b6.block sb (lt_of_block hsB)).trans hsB
                have o7 := Only.setCell W6 ⟨ib, 0, none⟩ (.int .i64 ((j : Int) + 1))
                have htbi : tb ≠ ib := by have := HIB.out.2.2.2.2.2.2; omega
                have hsbi : sb ≠ ib := by have := HIB.out.2.2.2.2.2.1; have := HBB.out.2.1; omega
                have i7 : (W6.setCell ⟨ib, 0, none⟩ (.int .i64 ((j : Int) + 1))).heap[ib]? = some (.cells #[.int .i64 ((j : Int) + 1)] 3 (0, 0)) := one_setCell i6
                have t7 := (o7.block tb htbi).trans t6
                have s7 := (o7.block sb hsbi).trans s6
                have HN : Hid (Tn [ib] W (W6.setCell ⟨ib, 0, none⟩ (.int .i64 ((j : Int) + 1))) [ib] ∧ ((W6.setCell ⟨ib, 0, none⟩ (.int .i64 ((j : Int) + 1))).heap[ib]? = some (.cells #[.int .i64 ((pre ++ [q]).length : Int)] 3 (0, 0)) ∧ Below ib w13 (W6.setCell ⟨ib, 0, none⟩ (.int .i64 ((j : Int) + 1))) ∧ w13.heap.size ≤ (W6.setCell ⟨ib, 0, none⟩ (.int .i64 ((j : Int) + 1))).heap.size)) := by
                  refine ⟨(Tn.below (bl := [ib]) b6).trans (Tn.setCell W6 ⟨ib, 0, none⟩ (.int .i64 ((j : Int) + 1)) (by simp)), by rw [HJ.out]; exact i7, (h2.trans (b6.mono (by have := lt_of_block h1; omega))).setCell (Nat.le_refl _) _, ?_⟩
                  rw [o7.size]
                  exact Nat.le_trans h3 b6.size
                have g1 := cell_of_one i6
                have g2 := free_of_one i6
                have g3 := cell_of_one i7
                have g4 := cell_of_one t7
                have g5 := cell_of_one s7
                clear h1 h2 h3 hPC hTB hsB i6 t6 s6 o7 htbi hsbi i7 t7 s7 b6 HBo
                gi_wp2
                exact ⟨_, HN.out.1, rfl, HN.out.2⟩
              case done_rc =>
                rintro D2 xs bl W hD hDl hDb hS ⟨rfl, h1, h2, h3⟩ hdef
                have hlen : xs.length = N := by rw [hS]; exact HNL.out.1.symm
                rw [hlen] at h1
                have hDX : ib < D2 := by have := HIB.out.2.1; omega
                obtain ⟨⟨hPC, hTB⟩, hEX⟩ := HUP.out W h2
                have p1 := hPC.ptr.1
                have p2 := hPC.ptr.2
                rw [← HNL.out.1] at p2
                have p3 := cell_of_one h1
                have p4 := cell_of_one hTB
                have p5 := cell_of_one (HLO.out W hPC.s.2.1).1
                have u5 : ((N : Int) == (N : Int)) = true := by simp
                have HW := Lib.hid (And.intro hPC (And.intro hTB (And.intro hdef (And.intro hDX hEX))))
                clear hPC hTB h1 h2 h3 hdef hDb hDl hD hDX hS hlen hEX
                go_wp2_with fail
                go_quiet (fail)
                have bD := (Drawn.mk W nq).below W.heap.size
                generalize W.drewN nq = w14 at bD ⊢
                clear p1 p2 p3 p4 p5
                have q4 := cell_of_one ((bD.block tb (lt_of_block HW.out.2.1)).trans HW.out.2.1)
                have hmk := newI64 w14 _ 2 rfl
                have Hst : Hid (PC w3 bb bb xb xp v M a1 c1 Rl (w14.alloc (.cells #[.int .i64 2] 3 (0, 0))) ∧ (w14.alloc (.cells #[.int .i64 2] 3 (0, 0))).heap[w14.heap.size]? = some (.cells #[.int .i64 2] 3 (0, 0)) ∧ (w14.alloc (.cells #[.int .i64 2] 3 (0, 0))).heap[D2]? = some (.deferred (some [])) ∧ bb ≤ D2 ∧ (w14.alloc (.cells #[.int .i64 2] 3 (0, 0))).heap[Ds]? = some (.deferred (some [])) ∧ bb ≤ Ds ∧ Ds < D2) := by
                  have bb14 := bD.trans (hmk.2.mono bD.size)
                  exact ⟨HW.out.1.below bb14, hmk.1, (bb14.block D2 (lt_of_block HW.out.2.2.1)).trans HW.out.2.2.1, by have := HW.out.2.2.2.1; have := HIB.out.2.2.2.2.2.1; omega , (bb14.block Ds (lt_of_block HW.out.2.2.2.2.1)).trans HW.out.2.2.2.2.1, HW.out.2.2.2.2.2.1, by have := HW.out.2.2.2.2.2.2; have := HW.out.2.2.2.1; omega⟩
                clear bD HW hmk
                go_wp2_with fail
                generalize (w14.alloc (.cells #[.int .i64 2] 3 (0, 0))) = w15 at Hst ⊢
                generalize w14.heap.size = tb1 at Hst ⊢
                clear q4 HUP HIB
                rw [rounds_succ]
                obtain ⟨tb, rfl⟩ : ∃ x, x = tb1 := ⟨_, rfl⟩
                as_aux_lemma =>
                  have q29 := cell_of_one Hst.out.2.1
                  have hlo := HLO.out w15 Hst.out.1.s.2.1
                  have g3 := cell_of_one hlo.2.1
                  have g4 := free_of_one hlo.2.1
                  have HF : Hid ((w15.setCell ⟨rb, 0, none⟩ (.bool true)).heap[rb]? = some (.cells #[.bool true] 4 (0, 0)) ∧ Below base w (w15.setCell ⟨rb, 0, none⟩ (.bool true)) ∧ (w15.setCell ⟨rb, 0, none⟩ (.bool true)).heap[D2]? = some (.deferred (some [])) ∧ (w15.setCell ⟨rb, 0, none⟩ (.bool true)).heap[Ds]? = some (.deferred (some [])) ∧ D2 ≠ Ds ∧ bb ≤ D2 ∧ bb ≤ Ds) := by
                    have o7 := Only.setCell w15 ⟨rb, 0, none⟩ (.bool true)
                    have h1 := HBB.out.2.2
                    have h2 := Hst.out.2.2.2.1
                    have h3 := Hst.out.2.2.2.2.2.1
                    have h4 := Hst.out.2.2.2.2.2.2
                    exact ⟨one_setCell hlo.2.1, hlo.2.2.1.setCell HPR.out.2.2 _, (o7.block D2 (by show D2 ≠ rb; omega)).trans Hst.out.2.2.1, (o7.block Ds (by show Ds ≠ rb; omega)).trans Hst.out.2.2.2.2.1, by omega, h2, h3⟩
                  clear Hst hlo
                  go_wp2_with fail
                  refine marks_two HF.out.2.2.2.2.1 HF.out.2.2.1 HF.out.2.2.2.1 ?_
                  intro W' e1 e2 e3 e4 e5
                  have h1 := HBB.out
                  have h2 := HF.out.2.2.2.2.2
                  have g9 : W'.cell? ⟨rb, 0, none⟩ = some (.bool true) := cell_of_one ((e5 rb (by omega) (by omega)).trans HF.out.1)
                  exact ⟨_, res_bool rfl rfl g9, rfl, HF.out.2.1.trans { os := e1, tape := e2, output := e3, size := by rw [e4]; exact Nat.le_refl _, block := fun k hk => e5 k (by omega) (by omega) }⟩
              case stop_rc =>
                rintro D cde pre bl W hD hDl hDb hS hix hdef
                exact hix.elim
theorem walk (a0 : Option Addr) (len0 cap0 : Nat) (z0 : Nat → DoP) (a1 a2 : Int) (W : World) (w0 : RowDp W a0 len0 z0) (w1 : (Lit.int .i64 a1).wf = true) (w2 : (Lit.int .i64 a2).wf = true) (h : LaidPoolPlays.Holds W) :
    Calls Tryd.prog 3 #[.slice a0 len0 cap0, .int .i64 a1, .int .i64 a2] W fun e w' => e = .returned (.bool true) ∧ Below W.heap.size W w' := by
  obtain ⟨f, hE⟩ := h
  exact core a1 a2 a0 len0 cap0 z0 W f hE w0
end Go.Proofs.YtaaegkjbmomjbaaDoor.walkPoolPlays
