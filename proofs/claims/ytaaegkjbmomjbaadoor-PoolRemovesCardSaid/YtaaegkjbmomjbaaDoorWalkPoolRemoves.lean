/- The walk over PoolRemoves. By the verifier of shale. -/
import Derived.Test.YtaaegkjbmomjbaaDoorPoLaw
import Derived.Test.YtaaegkjbmomjbaaDoorLaidPoolRemoves
import Derived.Lib.QuietBelow
namespace Go.Proofs.YtaaegkjbmomjbaaDoor.walkPoolRemoves
open Go Go.RowKit Hp Po
set_option linter.unusedVariables false
set_option linter.unusedSimpArgs false
theorem mod64 (z : Int) : (z % 64).toNat < 64 := by omega
set_option maxRecDepth 100000 in
set_option maxHeartbeats 8000000 in
theorem core (a0 : Option Addr) (n c0 : Nat) (a1 : Option Addr) (m c1 : Nat) (Z0 Z1 : Nat → Int) (w : World)
    (R0 : ∀ i, i < n → ∃ bb off, a0 = some ⟨bb, off, none⟩ ∧ w.cell? ⟨bb, off + i, none⟩ = some (.int .i64 (Z0 i)) ∧ bb < w.heap.size)
    (R1 : ∀ i, i < m → ∃ bb off, a1 = some ⟨bb, off, none⟩ ∧ w.cell? ⟨bb, off + i, none⟩ = some (.int .i64 (Z1 i)) ∧ bb < w.heap.size) (hn : n ≤ maxLen) (hm : m ≤ maxLen) :
    Calls Tryd.prog 5 #[.slice a0 n c0, .slice a1 m c1] w fun e w' => e = .returned (.bool true) ∧ Below w.heap.size w w' := by
  have HR0 : Hid (∀ W, Below w.heap.size w W → ∀ i, i < n → ∃ bb off, a0 = some ⟨bb, off, none⟩ ∧ W.cell? ⟨bb, off + i, none⟩ = some (.int .i64 (Z0 i))) := fun W b i hi => by
    obtain ⟨bb, off, h1, h2, h3⟩ := R0 i hi
    exact ⟨bb, off, h1, (World.cell?_of_block (a := ⟨bb, _, none⟩) (b.block bb h3)).trans h2⟩
  have HR1 : Hid (∀ W, Below w.heap.size w W → ∀ i, i < m → ∃ bb off, a1 = some ⟨bb, off, none⟩ ∧ W.cell? ⟨bb, off + i, none⟩ = some (.int .i64 (Z1 i))) := fun W b i hi => by
    obtain ⟨bb, off, h1, h2, h3⟩ := R1 i hi
    exact ⟨bb, off, h1, (World.cell?_of_block (a := ⟨bb, _, none⟩) (b.block bb h3)).trans h2⟩
  have HRB : Hid (∀ i, i < n → ∃ bb off, a0 = some ⟨bb, off, none⟩ ∧ bb < w.heap.size) := fun i hi => by
    obtain ⟨bb, off, h1, h2, h3⟩ := R0 i hi
    exact ⟨bb, off, h1, h3⟩
  unfold maxLen at hn hm
  clear R0 R1
  go_enter Tryd.func5, Tryd.ntmps5
  go_wp2_with fail
  refine (first_any w).mono ?_
  rintro e w1 ⟨rfl, b1⟩
  by_cases hn64 : 64 < n
  · have t : decide ((64 : Int) < (n : Int)) = true := decide_eq_true (by omega)
    have HB := Lib.hid b1
    clear b1 HR0 HR1
    go_wp2_with fail
    go_ret
    exact ⟨rfl, HB.out⟩
  have t : decide ((64 : Int) < (n : Int)) = false := decide_eq_false (by omega)
  by_cases hm64 : 64 < m
  · have t1 : decide ((64 : Int) < (m : Int)) = true := decide_eq_true (by omega)
    have HB := Lib.hid b1
    clear b1 HR0 HR1
    go_wp2_with fail
    go_ret
    exact ⟨rfl, HB.out⟩
  have t1 : decide ((64 : Int) < (m : Int)) = false := decide_eq_false (by omega)
  have HB1 := Lib.hid b1
  have HN := Lib.hid (And.intro hn64 hm64)
  clear b1 hn64 hm64 hn hm
  go_wp2_with fail
  refine (new_is w1).mono ?_
  rintro e w2 ⟨rfl, p2, b2⟩
  obtain ⟨B, hB⟩ : ∃ B, B = w1.heap.size := ⟨_, rfl⟩
  rw [← hB] at p2 b2 ⊢
  have HBB : Hid (w.heap.size ≤ B) := by rw [hB]; exact HB1.out.size
  have hmk := madeB w2 64 (by decide)
  rw [show ((64 : Nat) : Int) = 64 from rfl] at hmk
  have hs2 : B + 1 ≤ w2.heap.size := by
    have := p2.lt B (by simp [qbl])
    omega
  have HS0 : Hid (PSt w1 B B w2.heap.size 64 (.slice none 0 0) [] (fun i => (((Z0 i) % 64).toNat : Int)) (fun _ => false) (w2.alloc (objB (List.replicate 64 false)))) :=
    ⟨⟨p2.below ((Below.refl _ _).alloc (Nat.le_refl _) _), b2.alloc (by omega) _, by intro k hk; simp [qbl, Value.ownBlock] at hk; omega, by simp; omega⟩, BF.new w2 64, by simp [qbl, Value.ownBlock]; omega, by omega⟩
  have HBW : Hid (∀ W, Below B w1 W → Below w.heap.size w W) := fun W b => HB1.out.trans (b.mono HBB.out)
  obtain ⟨u, hu⟩ : ∃ u : Nat → Int, u = fun i => (((Z0 i) % 64).toNat : Int) := ⟨_, rfl⟩
  obtain ⟨hb, hhb⟩ : ∃ hb, hb = w2.heap.size := ⟨_, rfl⟩
  obtain ⟨v0, hv0⟩ : ∃ v0, v0 = Value.slice none 0 0 := ⟨_, rfl⟩
  rw [← hu, ← hhb, ← hv0] at HS0
  obtain ⟨ob, hob⟩ : ∃ ob, ob = objB (List.replicate 64 false) := ⟨_, rfl⟩
  rw [← hob] at HS0 hmk
  rw [← hhb] at hmk
  have HU : Hid (∀ i, u i = (((Z0 i) % 64).toNat : Int)) := fun i => by rw [hu]
  have HS00 : Hid (PSt w1 B B hb 64 v0 [] u (fun k => decide (k < 0)) (w2.alloc ob) ∧ SetP [] u (fun k => decide (k < 0))) := by
    have e : (fun _ : Nat => false) = fun k => decide (k < 0) := by funext k; simp
    rw [← e]
    exact ⟨HS0.out, SetP.nil u⟩
  clear hu p2 b2 hs2 hB hv0 t t1 HB1 hhb hob HS0
  go_wp2_with fail
  generalize w2.alloc ob = w3 at HS00 ⊢
  go_loopg [8] n (fun gh s8 wx => ∃ (i : Nat) (v : Value) (M : List It), gh = n - i ∧ i ≤ n ∧ s8 = .int .i64 (i : Int) ∧ Hid (PSt w1 B B hb 64 v M u (fun k => decide (k < i)) wx ∧ SetP M u (fun k => decide (k < i))))
  case atStart => exact ⟨0, v0, [], rfl, Nat.zero_le _, rfl, HS00⟩
  case round =>
    clear HS00
    obtain ⟨i, v, M, hg, hin, rfl, HX⟩ := hrel
    have HG := Lib.hid (And.intro hg hin)
    have x0 : (0 : Int) ≤ (i : Int) := by omega
    have x2 : (i : Int) ≤ 64 := by have := HN.out; omega
    clear hg hin
    by_cases hlt : i < n
    · have x1 : (i : Int) < (n : Int) := by omega
      have x3 : (i : Int) < 64 := by have := HN.out; omega
      have x4 : i < 64 := by omega
      obtain ⟨bb, off, rfl, c0⟩ := HR0.out wr (HBW.out wr HX.out.1.s.2.1) i hlt
      have hz := and63 (Z0 i)
      rw [← HU.out i] at hz
      have HA := Lib.hid (add_is HX.out.1.s.1 HX.out.2.small ⟨(i : Int), u i⟩ (by show (0 : Int) ≤ (i : Int); omega) (by show (i : Int) < 64; omega) (by show 0 ≤ u i; rw [HU.out]; omega) (by show u i ≤ _; rw [HU.out]; have := mod64 (Z0 i); omega) (HX.out.2.out (i := i) (by simp)))
      have HL := Lib.hid (And.intro hlt x4)
      clear hlt
      go_wp2_with fail
      refine HA.out.mono ?_
      intro e w4 h
      obtain ⟨v', rfl, S4⟩ := HX.out.1.out h
      have c7 := S4.f.cell HL.out.2
      have f7 := S4.f.free i
      have HN2 : Hid (PSt w1 B B hb 64 v' (⟨(i : Int), u i⟩ :: M) u (fun k => decide (k < i + 1)) (w4.setCell ⟨hb, i, none⟩ (.bool true)) ∧ SetP (⟨(i : Int), u i⟩ :: M) u (fun k => decide (k < i + 1))) := by
        have e1 : (fun k => if k = i then true else decide (k < i)) = fun k => decide (k < i + 1) := by
          funext k
          by_cases e : k = i
          · subst e; simp
          · simp [e]; omega
        have h1 := S4.put i true
        have h2 := HX.out.2.add HL.out.2 (i := i) (by simp)
        rw [e1] at h1 h2
        exact ⟨h1, h2⟩
      clear h S4 HA hz c0
      go_upto_region 10 with (fail)
      generalize w4.setCell ⟨hb, i, none⟩ (.bool true) = w5 at HN2 ⊢
      go_wp2_with fail
      go_roundg (n - (i + 1))
      case measure => have := HG.out; have := HL.out; omega
      case rel => exact ⟨i + 1, v', _, rfl, HL.out.1, by go_num, HN2⟩
    · obtain rfl : n = i := by have := HG.out; omega
      have HS : Hid (PSt w1 B B hb 64 v M u (fun k => decide (k < n)) wr ∧ SetP M u (fun k => decide (k < n)) ∧ ∀ k, decide (k < n) = true → k < n) := ⟨HX.out.1, HX.out.2, fun k hk => of_decide_eq_true hk⟩
      obtain ⟨p0, hp0⟩ : ∃ p0 : Nat → Bool, p0 = fun k => decide (k < n) := ⟨_, rfl⟩
      have HS1 : Hid (PSt w1 B B hb 64 v M u p0 wr ∧ SetP M u p0 ∧ ∀ k, p0 k = true → k < n) := by rw [hp0]; exact HS.out
      obtain ⟨v1, hv1⟩ : ∃ v1, v1 = v := ⟨_, rfl⟩
      obtain ⟨M1, hM1⟩ : ∃ M1, M1 = M := ⟨_, rfl⟩
      rw [← hv1, ← hM1] at HS1
      clear HS HX hp0 hv1 hM1 HG hlt x0 x2
      go_wp2_with fail
      go_loopg [9] m (fun gh s9 wx => ∃ (i : Nat) (v : Value) (M : List It) (p : Nat → Bool), gh = m - i ∧ i ≤ m ∧ s9 = .int .i64 (i : Int) ∧ Hid (PSt w1 B B hb 64 v M u p wx ∧ SetP M u p ∧ ∀ k, p k = true → k < n))
      case atStart => exact ⟨0, v1, M1, p0, rfl, Nat.zero_le _, rfl, HS1⟩
      case round =>
        clear HS1
        obtain ⟨i, v, M, p, hg, hin, rfl, HX⟩ := hrel
        have HG := Lib.hid (And.intro hg hin)
        have x0 : (0 : Int) ≤ (i : Int) := by omega
        have x2 : (i : Int) ≤ 64 := by have := HN.out; omega
        clear hg hin
        by_cases hlt : i < m
        · have x1 : (i : Int) < (m : Int) := by omega
          obtain ⟨bb, off, rfl, c0⟩ := HR1.out wr (HBW.out wr HX.out.1.s.2.1) i hlt
          have hz := and63 (Z1 i)
          have hj64 := mod64 (Z1 i)
          obtain ⟨j, hj⟩ : ∃ j, j = (Z1 i % 64).toNat := ⟨_, rfl⟩
          rw [← hj] at hz hj64
          have HL := Lib.hid (And.intro hlt hj64)
          have j0 : (0 : Int) ≤ (j : Int) := by omega
          have j1 : (j : Int) < 64 := by omega
          have bd : Below wr.heap.size wr wr.drew := (Drawn.mk wr 1).below wr.heap.size
          have Sd := HX.out.1.below bd
          have c7 := Sd.f.cell hj64
          have HRm : Hid (Calls Tryd.prog 11 #[.pointer (some ⟨B, 0, none⟩), .int .i64 (j : Int)] wr.drew fun e w' => ∃ v' M', e = .returned (.bool (p j)) ∧ PSt w1 B B hb 64 v' M' u p w' ∧ SetP M' u (fun k => if k = j then false else p k)) := by
            cases hp : p j with
            | true =>
              refine (remove_is Sd.s.1 HX.out.2.1.small HX.out.2.1.2 (x := ⟨(j : Int), u j⟩) (HX.out.2.1.mem hj64 hp)).mono ?_
              intro e w' h
              obtain ⟨v', rfl, S'⟩ := Sd.out h
              exact ⟨v', _, rfl, S', HX.out.2.1.erase hj64 hp⟩
            | false =>
              refine (remove_not Sd.s.1 HX.out.2.1.small (HX.out.2.1.out hp)).mono ?_
              rintro e w' ⟨rfl, b⟩
              refine ⟨v, M, rfl, Sd.below b, HX.out.2.1.of (fun k _ => ?_) fun _ _ _ => rfl⟩
              by_cases e : k = j
              · rw [if_pos e, e, hp]
              · rw [if_neg e]
          obtain ⟨pj, hpj⟩ : ∃ pj, pj = p j := ⟨_, rfl⟩
          rw [← hpj] at HRm c7
          have HPJ := Lib.hid hpj
          clear hpj Sd bd hj64 hlt hj
          go_upto_region 17 with (fail)
          go_region_with (go_at_call 11; refine Calls.mono HRm.out ?_; rintro e w5 ⟨v', M', rfl, S5, P5⟩; have c7 := S5.f.cell HL.out.2; rw [← HPJ.out] at c7)
          all_goals
            have HN2 : Hid (PSt w1 B B hb 64 v' M' u (fun k => if k = j then false else p k) (w5.setCell ⟨hb, j, none⟩ (.bool false)) ∧ SetP M' u (fun k => if k = j then false else p k) ∧ ∀ k, (if k = j then false else p k) = true → k < n) := ⟨S5.put j false, P5, fun k hk => HX.out.2.2 k (by
              by_cases e : k = j
              · rw [if_pos e] at hk; cases hk
              · rw [if_neg e] at hk; exact hk)⟩
            have f7 := S5.f.free j
            clear S5 P5
            cases pj
            all_goals
              go_upto_region 15 with (fail)
              generalize w5.setCell ⟨hb, j, none⟩ (.bool false) = w6 at HN2 ⊢
              go_wp2_with fail
              go_roundg (m - (i + 1))
              case measure => have := HG.out; have := HL.out; omega
              case rel => exact ⟨i + 1, v', M', _, rfl, HL.out.1, by go_num, HN2⟩
        · obtain rfl : m = i := by have := HG.out; omega
          have HS2 := HX
          clear HX HG hlt x0 x2
          go_wp2_with fail
          go_loopg [11, 12] 64 (fun gh s11 s12 wx => ∃ (i : Nat), gh = 64 - i ∧ i ≤ 64 ∧ s11 = .int .i64 (cnt p i : Int) ∧ s12 = .int .i64 (i : Int) ∧ Hid (PSt w1 B B hb 64 v M u p wx))
          case atStart => exact ⟨0, rfl, Nat.zero_le _, rfl, rfl, HS2.out.1⟩
          case round =>
            obtain ⟨i, hg, hin, rfl, rfl, HX⟩ := hrel
            have HG := Lib.hid (And.intro hg hin)
            have x0 : (0 : Int) ≤ (i : Int) := by omega
            have x2 : (i : Int) ≤ 64 := by omega
            have y0 : (0 : Int) ≤ (cnt p i : Int) := by omega
            have y2 : (cnt p i : Int) ≤ 64 := by have := cnt_le p i; omega
            clear hg hin
            by_cases hlt : i < 64
            · have x1 : (i : Int) < 64 := by omega
              have hcs := cnt_succ p i
              have c7 := HX.out.f.cell hlt
              obtain ⟨pj, hpj⟩ : ∃ pj, pj = p i := ⟨_, rfl⟩
              rw [← hpj] at hcs c7
              have HC := Lib.hid (And.intro hcs (And.intro hlt hpj))
              have HH : Hid (∀ q os, Calls Tryd.prog 18 #[.pointer (some ⟨B, 0, none⟩), .int .i64 (i : Int)] (Sort.grow (redrawn wr q) os) fun e w' => e = .returned (.bool pj) ∧ ∃ p : Regrown, w' = Sort.grow (redrawn wr p.d) p.os) := fun q os => Calls.regrown_of (by
                have h := has_is (HX.out.s.1.below (below_regrown wr q os)) HS2.out.2.1.small (i : Int)
                rw [HS2.out.2.1.any HC.out.2.1, ← HC.out.2.2] at h
                exact h)
              replace c7 := cell_regrown c7
              clear hpj hcs hlt
              go_upto_region 24 with (fail)
              refine wp_region_quiet_below (by kernel_rfl) (by kernel_rfl) ?_
              repeat (go_big_quiet_step (first | (go_at_call 18; with_reducible exact HH.out _ _)))
              refine wpQuiet_nil ?_
              intro _ hw'
              obtain ⟨⟨dq, osq⟩, hw''⟩ := hw'
              subst hw''
              have b5 := below_regrown wr dq osq
              generalize Sort.grow (redrawn wr dq) osq = w5 at b5 ⊢
              have HN2 := Lib.hid (HX.out.below b5)
              clear c7 b5
              have c7 := HN2.out.f.cell HC.out.2.1
              rw [← HC.out.2.2] at c7
              cases pj
              · go_wp2_with fail
                go_roundg (64 - (i + 1))
                case measure => have := HG.out; have := HC.out; omega
                case rel => exact ⟨i + 1, rfl, HC.out.2.1, by rw [HC.out.1]; rfl, by go_num, HN2⟩
              · go_wp2_with fail
                go_roundg (64 - (i + 1))
                case measure => have := HG.out; have := HC.out; omega
                case rel => exact ⟨i + 1, rfl, HC.out.2.1, by rw [HC.out.1]; show _ = Value.int .i64 ((cnt p i + 1 : Nat) : Int); go_num, by go_num, HN2⟩
            · obtain rfl : i = 64 := by have := HG.out; omega
              rw [← HS2.out.2.1.len]
              have hpos : ∀ y ∈ M, (-1 : Int) ≤ y.w := by
                intro y hy
                obtain ⟨j, _, _, rfl⟩ := (HS2.out.2.1.1 y).1 hy
                show (-1 : Int) ≤ u j
                rw [HU.out]; omega
              have HS3 : Hid (PSt w1 B B hb 64 v M u p wr ∧ SetP M u p ∧ (∀ k, p k = true → k < n) ∧ ∀ y ∈ M, (-1 : Int) ≤ y.w) := ⟨HX.out, HS2.out.2.1, HS2.out.2.2, hpos⟩
              obtain ⟨v2, hv2⟩ : ∃ v2, v2 = v := ⟨_, rfl⟩
              obtain ⟨M2, hM2⟩ : ∃ M2, M2 = M := ⟨_, rfl⟩
              obtain ⟨p2, hp2⟩ : ∃ p2, p2 = p := ⟨_, rfl⟩
              rw [← hv2, ← hM2, ← hp2] at HS3
              rw [← hM2]
              clear HX HG hlt x0 x2 y0 y2 hpos HS2 hv2 hM2 hp2
              go_wp2_with fail
              go_loopg [11, 13] M2.length (fun gh s11 s13 wx => ∃ (last : Int) (v : Value) (M : List It) (p : Nat → Bool), gh = M.length ∧ s11 = .int .i64 (M.length : Int) ∧ s13 = .int .i64 last ∧ Hid (PSt w1 B B hb 64 v M u p wx ∧ SetP M u p ∧ (∀ k, p k = true → k < n) ∧ ∀ y ∈ M, last ≤ y.w))
              case atStart => exact ⟨-1, v2, M2, p2, rfl, rfl, rfl, HS3⟩
              case round =>
                clear HS3
                obtain ⟨last, v, M, p, hg, rfl, rfl, HX⟩ := hrel
                have HG := Lib.hid hg
                have HLe := Lib.hid (len_is HX.out.1.s.1)
                have y2 : (M.length : Int) ≤ 1000 := by have := HX.out.2.1.small; omega
                clear hg
                by_cases hne : M = []
                · have h0 : M.length = 0 := by rw [hne]; rfl
                  rw [h0] at HLe
                  have HF : Hid (Below w.heap.size w wr) := HBW.out wr HX.out.1.s.2.1
                  rw [h0]
                  clear HX h0 hne y2
                  go_wp2_with fail
                  refine HLe.out.mono ?_
                  rintro e w5 ⟨rfl, rfl⟩
                  go_wp2_with fail
                  go_ret
                  exact ⟨rfl, HF.out⟩
                · have h0 : 0 < M.length := List.length_pos_iff.2 hne
                  have y1 : (0 : Int) < (M.length : Int) := by omega
                  have HT := Lib.hid (take_some_is HX.out.1.s.1 HX.out.2.1.small hne)
                  clear hne
                  go_wp2_with fail
                  refine HLe.out.mono ?_
                  rintro e w5 ⟨rfl, rfl⟩
                  go_wp2_with fail
                  refine HT.out.mono ?_
                  rintro e w5 ⟨x, hx, hmin, hO⟩
                  obtain ⟨v', rfl, S5⟩ := HX.out.1.out hO
                  obtain ⟨i, hi, hp, rfl⟩ := (HX.out.2.1.1 x).1 hx
                  have hin := HX.out.2.2.1 i hp
                  have hlast := HX.out.2.2.2 _ hx
                  have hlen : (M.erase ⟨(i : Int), u i⟩).length = M.length - 1 := List.length_erase_of_mem hx
                  have hP := HX.out.2.1.erase hi hp
                  have hle : ∀ y ∈ M.erase ⟨(i : Int), u i⟩, u i ≤ y.w := by
                    intro y hy
                    have := hmin y (List.mem_of_mem_erase hy)
                    unfold itLt at this
                    simp only [Bool.or_eq_false_iff, Bool.and_eq_false_iff, decide_eq_false_iff_not] at this
                    omega
                  obtain ⟨bb, off, rfl, c0⟩ := HR0.out w5 (HBW.out w5 S5.s.2.1) i hin
                  have hz := and63 (Z0 i)
                  rw [← HU.out i] at hz
                  have c7 := S5.f.cell hi
                  have f7 := S5.f.free i
                  rw [hp] at c7
                  obtain ⟨M', hM'⟩ : ∃ M', M' = M.erase ⟨(i : Int), u i⟩ := ⟨_, rfl⟩
                  rw [← hM'] at hlen hP hle S5
                  have HN2 : Hid (PSt w1 B B hb 64 v' M' u (fun k => if k = i then false else p k) (w5.setCell ⟨hb, i, none⟩ (.bool false)) ∧ SetP M' u (fun k => if k = i then false else p k) ∧ (∀ k, (if k = i then false else p k) = true → k < n) ∧ ∀ y ∈ M', u i ≤ y.w) := ⟨S5.put i false, hP, fun k hk => HX.out.2.2.1 k (by
                      by_cases e : k = i
                      · rw [if_pos e] at hk; cases hk
                      · rw [if_neg e] at hk; exact hk), hle⟩
                  have x0 : (0 : Int) ≤ (i : Int) := by omega
                  have x1 : (i : Int) < (n : Int) := by omega
                  have x1' : i < n := hin
                  have x3 : (i : Int) < 64 := by omega
                  have q0 : decide ((i : Int) < 0) = false := decide_eq_false (by omega)
                  have q1 : decide (n ≤ i) = false := decide_eq_false (by omega)
                  have q1' : decide ((n : Int) ≤ (i : Int)) = false := decide_eq_false (by omega)
                  have hl2 : last ≤ u i := hlast
                  have q2 : decide (u i < last) = false := decide_eq_false (by omega)
                  have e9 : (M.length : Int) - 1 = (M'.length : Int) := by omega
                  have HE := Lib.hid (And.intro hlen h0)
                  have c0' : (w5.setCell ⟨hb, i, none⟩ (.bool false)).cell? ⟨bb, off + i, none⟩ = some (.int .i64 (Z0 i)) := (World.cell?_of_block (a := ⟨bb, _, none⟩) ((Only.setCell w5 ⟨hb, i, none⟩ (.bool false)).block bb (by
                    have h1 := HBB.out; have h2 := S5.hB
                    obtain ⟨bb', off', e1, h3⟩ := HRB.out i hin
                    cases e1
                    show bb ≠ hb
                    omega))).trans c0
                  clear hO hmin hx hin hlast hl2 hP hle S5 hp hlen hM' hi HT HLe
                  go_upto_region 34 with (fail)
                  generalize w5.setCell ⟨hb, i, none⟩ (.bool false) = w6 at HN2 c0' ⊢
                  obtain ⟨ui, hui⟩ : ∃ ui, ui = u i := ⟨_, rfl⟩
                  rw [← hui] at hz
                  have HN3 : Hid (PSt w1 B B hb 64 v' M' u (fun k => if k = i then false else p k) w6 ∧ SetP M' u (fun k => if k = i then false else p k) ∧ (∀ k, (if k = i then false else p k) = true → k < n) ∧ ∀ y ∈ M', ui ≤ y.w) := by rw [hui]; exact HN2.out
                  clear HN2 hui q2 c0 c7 f7
                  go_wp2_with fail
                  go_roundg M'.length
                  case measure => have := HG.out; have := HE.out; omega
                  case rel => exact ⟨ui, v', M', _, rfl, rfl, rfl, HN3⟩
theorem walk (a0 : Option Addr) (len0 cap0 : Nat) (z0 : List Int) (a1 : Option Addr) (len1 cap1 : Nat) (z1 : List Int) (W : World) (w0 : IsRow .i64 W a0 len0 cap0 z0) (w1 : IsRow .i64 W a1 len1 cap1 z1) (h : LaidPoolRemoves.Holds W) :
    Calls Tryd.prog 5 #[.slice a0 len0 cap0, .slice a1 len1 cap1] W fun e W' => e = .returned (.bool true) ∧ Below W.heap.size W W' :=
  core a0 len0 cap0 a1 len1 cap1 (fun i => z0.getD i 0) (fun i => z1.getD i 0) W (row_nums w0) (row_nums w1) w0.at.1 w1.at.1
end Go.Proofs.YtaaegkjbmomjbaaDoor.walkPoolRemoves
