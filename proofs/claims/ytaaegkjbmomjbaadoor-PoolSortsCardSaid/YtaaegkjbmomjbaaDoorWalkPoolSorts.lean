/- The walk over PoolSorts. By the verifier of shale. -/
import Derived.Test.YtaaegkjbmomjbaaDoorPoLaw2
import Derived.Test.YtaaegkjbmomjbaaDoorLaidPoolSorts
import Derived.Lib.QuietBelow
namespace Go.Proofs.YtaaegkjbmomjbaaDoor.walkPoolSorts
open Go Go.RowKit Hp Po
set_option linter.unusedVariables false
set_option linter.unusedSimpArgs false
theorem mod1024 (z : Int) : (z % 1024).toNat < 1024 := by omega
set_option maxRecDepth 100000 in
set_option maxHeartbeats 8000000 in
theorem core (a0 : Option Addr) (n c0 : Nat) (tt : Bool) (Z0 : Nat → Int) (w : World)
    (R0 : ∀ i, i < n → ∃ bb off, a0 = some ⟨bb, off, none⟩ ∧ w.cell? ⟨bb, off + i, none⟩ = some (.int .i64 (Z0 i)) ∧ bb < w.heap.size) (hn : n ≤ maxLen) :
    Calls Tryd.prog 4 #[.slice a0 n c0, .bool tt] w fun e w' => e = .returned (.bool true) ∧ Below w.heap.size w w' := by
  have HR0 : Hid (∀ W, Below w.heap.size w W → ∀ i, i < n → ∃ bb off, a0 = some ⟨bb, off, none⟩ ∧ W.cell? ⟨bb, off + i, none⟩ = some (.int .i64 (Z0 i))) := fun W b i hi => by
    obtain ⟨bb, off, h1, h2, h3⟩ := R0 i hi
    exact ⟨bb, off, h1, (World.cell?_of_block (a := ⟨bb, _, none⟩) (b.block bb h3)).trans h2⟩
  unfold maxLen at hn
  clear R0
  go_enter Tryd.func4, Tryd.ntmps4
  go_wp2_with fail
  refine (first_any w).mono ?_
  rintro e w1 ⟨rfl, b1⟩
  by_cases hn64 : 64 < n
  · have t : decide ((64 : Int) < (n : Int)) = true := decide_eq_true (by omega)
    have HB := Lib.hid b1
    clear b1 HR0
    go_wp2_with fail
    go_ret
    exact ⟨rfl, HB.out⟩
  have t : decide ((64 : Int) < (n : Int)) = false := decide_eq_false (by omega)
  have HB1 := Lib.hid b1
  have HN := Lib.hid hn64
  clear b1 hn64 hn
  go_wp2_with fail
  refine (new_is w1).mono ?_
  rintro e w2 ⟨rfl, p2, b2⟩
  obtain ⟨B, hB⟩ : ∃ B, B = w1.heap.size := ⟨_, rfl⟩
  rw [← hB] at p2 b2 ⊢
  have HBB : Hid (w.heap.size ≤ B) := by rw [hB]; exact HB1.out.size
  have hmk := made64 w2 n (by have := HN.out; omega)
  have hs2 : B + 1 ≤ w2.heap.size := by
    have := p2.lt B (by simp [qbl])
    omega
  have HS0 : Hid (QSt w1 B B w2.heap.size n (.slice none 0 0) [] (fun _ => 0) (w2.alloc (obj64 (List.replicate n 0)))) :=
    ⟨⟨p2.below ((Below.refl _ _).alloc (Nat.le_refl _) _), b2.alloc (by omega) _, by intro k hk; simp [qbl, Value.ownBlock] at hk; omega, by simp; omega⟩, F64.new w2 n, by simp [qbl, Value.ownBlock]; omega, by omega⟩
  have HBW : Hid (∀ W, Below B w1 W → Below w.heap.size w W) := fun W b => HB1.out.trans (b.mono HBB.out)
  obtain ⟨u, hu⟩ : ∃ u : Nat → Int, u = fun i => (((Z0 i) % 1024).toNat : Int) := ⟨_, rfl⟩
  obtain ⟨hw, hhw⟩ : ∃ hw, hw = w2.heap.size := ⟨_, rfl⟩
  obtain ⟨v0, hv0⟩ : ∃ v0, v0 = Value.slice none 0 0 := ⟨_, rfl⟩
  obtain ⟨ob, hob⟩ : ∃ ob, ob = obj64 (List.replicate n 0) := ⟨_, rfl⟩
  rw [← hhw, ← hv0, ← hob] at HS0
  rw [← hhw, ← hob] at hmk
  have HU : Hid (∀ i, u i = (((Z0 i) % 1024).toNat : Int)) := fun i => by rw [hu]
  have HS00 : Hid (QSt w1 B B hw n v0 [] (fun k => if k < 0 then u k else 0) (w2.alloc ob) ∧ SetP [] u (fun k => decide (k < 0)) ∧ ([] : List It).length = 0) := by
    have e : (fun _ : Nat => false) = fun k => decide (k < 0) := by funext k; simp
    have e2 : (fun _ : Nat => (0 : Int)) = fun k => if k < 0 then u k else 0 := by funext k; simp
    rw [← e, ← e2]
    exact ⟨HS0.out, SetP.nil u, rfl⟩
  clear hu p2 b2 hs2 hB hv0 t HB1 hhw hob HS0
  go_wp2_with fail
  generalize w2.alloc ob = w3 at HS00 ⊢
  go_loopg [8] n (fun gh s8 wx => ∃ (i : Nat) (v : Value) (M : List It), gh = n - i ∧ i ≤ n ∧ s8 = .int .i64 (i : Int) ∧ Hid (QSt w1 B B hw n v M (fun k => if k < i then u k else 0) wx ∧ SetP M u (fun k => decide (k < i)) ∧ M.length = i))
  case atStart => exact ⟨0, v0, [], rfl, Nat.zero_le _, rfl, HS00⟩
  case round =>
    clear HS00
    obtain ⟨i, v, M, hg, hin, rfl, HX⟩ := hrel
    have HG := Lib.hid (And.intro hg hin)
    have x0 : (0 : Int) ≤ (i : Int) := by omega
    have x2 : (i : Int) ≤ 64 := by have := HN.out; omega
    clear hg hin
    by_cases hlt : i < n
    · have x1 : (i : Int) < (n : Int) := by omega
      have x3 : (i : Int) < 64 := by have := HN.out; omega
      have x4 : i < 64 := by omega
      obtain ⟨bb, off, rfl, c0⟩ := HR0.out wr (HBW.out wr HX.out.1.s.2.1) i hlt
      have hz := and1023 (Z0 i)
      rw [← HU.out i] at hz
      obtain ⟨ui, hui⟩ : ∃ ui, ui = u i := ⟨_, rfl⟩
      rw [← hui] at hz
      have c7 := HX.out.1.f.cell hlt
      have f7 := HX.out.1.f.free i
      have h2 : QSt w1 B B hw n v M (fun k => if k < i + 1 then u k else 0) (wr.setCell ⟨hw, i, none⟩ (.int .i64 ui)) := by
        have e1 : (fun k => if k = i then u i else if k < i then u k else 0) = fun k => if k < i + 1 then u k else 0 := by
          funext k
          by_cases e : k = i
          · subst e; rw [if_pos rfl, if_pos (Nat.lt_succ_self k)]
          · by_cases e2 : k < i
            · rw [if_neg e, if_pos e2, if_pos (by omega)]
            · rw [if_neg e, if_neg e2, if_neg (by omega)]
        have h1 := HX.out.1.put hlt (u i)
        rw [e1, ← hui] at h1
        exact h1
      have HA := add_is h2.s.1 HX.out.2.1.small ⟨(i : Int), u i⟩ (by show (0 : Int) ≤ (i : Int); omega) (by show (i : Int) < 64; omega) (by show 0 ≤ u i; rw [HU.out]; omega) (by show u i ≤ _; rw [HU.out]; have := mod1024 (Z0 i); omega) (HX.out.2.1.out (i := i) (by simp))
      have c8 := h2.f.cell hlt
      rw [if_pos (Nat.lt_succ_self i), ← hui] at c8
      rw [show (⟨(i : Int), u i⟩ : It).w = ui from hui.symm] at HA
      replace HA := Lib.hid HA
      have H2 := Lib.hid h2
      have HL := Lib.hid (And.intro hlt x4)
      clear hlt h2 hui
      go_upto_region 12 with (fail)
      generalize wr.setCell ⟨hw, i, none⟩ (.int .i64 ui) = w4 at HA H2 c8 ⊢
      clear c7 f7 c0 hz
      go_wp2_with fail
      refine HA.out.mono ?_
      intro e w5 h
      obtain ⟨v', rfl, S5, _⟩ := H2.out.out h
      have HN2 : Hid (QSt w1 B B hw n v' (⟨(i : Int), u i⟩ :: M) (fun k => if k < i + 1 then u k else 0) w5 ∧ SetP (⟨(i : Int), u i⟩ :: M) u (fun k => decide (k < i + 1)) ∧ (⟨(i : Int), u i⟩ :: M).length = i + 1) := by
        have e1 : (fun k => if k = i then true else decide (k < i)) = fun k => decide (k < i + 1) := by
          funext k
          by_cases e : k = i
          · subst e; simp
          · simp [e]; omega
        have h3 := HX.out.2.1.add HL.out.2 (i := i) (by simp)
        rw [e1] at h3
        exact ⟨S5, h3, by simp [HX.out.2.2]⟩
      clear h S5 HA c8
      go_wp2_with fail
      go_roundg (n - (i + 1))
      case measure => have := HG.out; have := HL.out; omega
      case rel => exact ⟨i + 1, v', _, rfl, HL.out.1, by go_num, HN2⟩
    · obtain rfl : n = i := by have := HG.out; omega
      have hmk2 := madeB wr n (by have := HN.out; omega)
      have hs2 := HX.out.1.s.2.2.2
      have hlt2 := HX.out.1.f.lt
      have hfar : wr.heap.size ∉ qbl B v := fun hm => by have := HX.out.1.s.1.lt _ hm; omega
      have HSR : Hid (RSt w1 B B hw wr.heap.size n v M u (fun _ => false) (wr.alloc (objB (List.replicate n false))) ∧ SetP M u (fun k => decide (k < n) && !false) ∧ M.length = n - 0) := by
        have q1 := HX.out.1.below (W' := wr.alloc (objB (List.replicate n false))) ((Below.refl _ _).alloc (Nat.le_refl _) _)
        refine ⟨⟨⟨q1.s, ?_, q1.far, q1.hB⟩, BF.new wr n, hfar, by omega, by omega⟩, HX.out.2.1.of (fun k _ => by simp) fun _ _ _ => rfl, by rw [HX.out.2.2]; rfl⟩
        have h := q1.f
        unfold F64 at h ⊢
        have e : (List.range n).map (fun k => if k < n then u k else 0) = (List.range n).map u := List.map_congr_left fun k hk => if_pos (List.mem_range.1 hk)
        rw [← e]
        exact h
      obtain ⟨hs, hhs⟩ : ∃ hs, hs = wr.heap.size := ⟨_, rfl⟩
      obtain ⟨ob2, hob2⟩ : ∃ ob2, ob2 = objB (List.replicate n false) := ⟨_, rfl⟩
      obtain ⟨v1, hv1⟩ : ∃ v1, v1 = v := ⟨_, rfl⟩
      obtain ⟨M1, hM1⟩ : ∃ M1, M1 = M := ⟨_, rfl⟩
      rw [← hhs, ← hob2, ← hv1, ← hM1] at HSR
      rw [← hhs, ← hob2] at hmk2
      clear HX HG hlt x0 x2 hs2 hlt2 hfar hhs hob2 hv1 hM1
      go_wp2_with fail
      generalize wr.alloc ob2 = w4 at HSR ⊢
      clear hmk2
      go_loopg [10, 11] n (fun gh s10 s11 wx => ∃ (i : Nat) (v : Value) (M : List It) (s : Nat → Bool) (l : Option Nat), gh = n - i ∧ i ≤ n ∧ s10 = .int .i64 (lastI l) ∧ s11 = .int .i64 (i : Int) ∧ Hid (RSt w1 B B hw hs n v M u s wx ∧ SetP M u (fun k => decide (k < n) && !s k) ∧ M.length = n - i ∧ Behind tt M u l ∧ ∀ j, l = some j → j < n))
      case atStart => exact ⟨0, v1, M1, fun _ => false, none, rfl, Nat.zero_le _, rfl, rfl, HSR.out.1, HSR.out.2.1, HSR.out.2.2, trivial, fun j h => nomatch h⟩
      case round =>
        clear HSR
        obtain ⟨i, v, M, s, l, hg, hin, rfl, rfl, HX⟩ := hrel
        have HG := Lib.hid (And.intro hg hin)
        have x0 : (0 : Int) ≤ (i : Int) := by omega
        have x2 : (i : Int) ≤ 64 := by have := HN.out; omega
        clear hg hin
        by_cases hlt : i < n
        · have x1 : (i : Int) < (n : Int) := by omega
          have hne : M ≠ [] := fun e => by have := HX.out.2.2.1; rw [e] at this; simp at this; omega
          have HT := Lib.hid (take_some_is HX.out.1.q.s.1 HX.out.2.1.small hne)
          have HL := Lib.hid hlt
          clear hlt hne
          cases tt
          · go_wp2_with fail
            refine HT.out.mono ?_
            rintro e w5 ⟨x, hx, hmin, hO⟩
            obtain ⟨v', rfl, S5⟩ := HX.out.1.out hO
            obtain ⟨b, hb64, hp, rfl⟩ := (HX.out.2.1.1 x).1 hx
            have hbn : b < n := by simp at hp; omega
            have hsb : s b = false := by simp at hp; exact hp.2
            have hcond := HX.out.2.2.2.1
            have hP := HX.out.2.1.erase hb64 hp
            have hlen : (M.erase ⟨(b : Int), u b⟩).length = n - (i + 1) := by rw [List.length_erase_of_mem hx, HX.out.2.2.1]; omega
            have hbeh : Behind false (M.erase ⟨(b : Int), u b⟩) u (some b) := fun y hy => by
              rw [if_neg (by decide)]
              exact hmin y (List.mem_of_mem_erase hy)
            have htest : ∀ j, l = some j → ¬ (u b < u j) ∧ (u j = u b → ¬ (b < j)) := fun j hj => by
              subst hj
              have := hcond _ hx
              rw [if_neg (by decide)] at this
              unfold itLt at this
              simp only [Bool.or_eq_false_iff, Bool.and_eq_false_iff, decide_eq_false_iff_not] at this
              refine ⟨by omega, fun e => ?_⟩
              have h2 := this.2
              omega
            obtain ⟨M', hM'⟩ : ∃ M', M' = M.erase ⟨(b : Int), u b⟩ := ⟨_, rfl⟩
            rw [← hM'] at hP hlen hbeh S5
            clear hO hmin hx hcond hM' hp hb64
            have HNX : Hid (RSt w1 B B hw hs n v' M' u (fun k => if k = b then true else s k) (w5.setCell ⟨hs, b, none⟩ (.bool true)) ∧ SetP M' u (fun k => decide (k < n) && !(if k = b then true else s k)) ∧ M'.length = n - (i + 1) ∧ Behind false M' u (some b) ∧ ∀ j, some b = some j → j < n) := ⟨S5.put b true, hP.of (fun k _ => by
              by_cases e : k = b
              · rw [if_pos e, if_pos e]; simp
              · rw [if_neg e, if_neg e]) fun _ _ _ => rfl, hlen, hbeh, fun j h => by cases h; exact hbn⟩
            have c7 := S5.g.cell hbn
            rw [hsb] at c7
            have f7 := S5.g.free b
            have x5 : (0 : Int) ≤ (b : Int) := by omega
            have x6 : (b : Int) < (n : Int) := by omega
            have x7 : b < n := hbn
            have q0 : decide ((b : Int) < 0) = false := decide_eq_false (by omega)
            have q1 : decide (n ≤ b) = false := decide_eq_false (by omega)
            have HTE := Lib.hid htest
            clear hP hlen hbeh S5 hbn hsb htest HT
            go_upto_region 26 with (fail)
            generalize w5.setCell ⟨hs, b, none⟩ (.bool true) = w6 at HNX ⊢
            clear c7 f7
            cases l with
            | none =>
              rw [show lastI none = -1 from rfl]
              refine wp_region_quiet_below (by kernel_rfl) (by kernel_rfl) ?_
              repeat (go_big_quiet_step (fail))
              refine wpQuiet_nil ?_
              intro _ hw'
              obtain ⟨⟨dq, osq⟩, hw''⟩ := hw'
              subst hw''
              have b5 := below_regrown w6 dq osq
              generalize Sort.grow (redrawn w6 dq) osq = w7 at b5 ⊢
              have HN2 : Hid (RSt w1 B B hw hs n v' M' u (fun k => if k = b then true else s k) w7 ∧ SetP M' u (fun k => decide (k < n) && !(if k = b then true else s k)) ∧ M'.length = n - (i + 1) ∧ Behind false M' u (some b) ∧ ∀ j, some b = some j → j < n) := ⟨HNX.out.1.below b5, HNX.out.2⟩
              clear b5
              go_wp2_with fail
              go_roundg (n - (i + 1))
              case measure => have := HG.out; have := HL.out; omega
              case rel => exact ⟨i + 1, v', M', _, some b, rfl, HL.out, rfl, by go_num, HN2⟩
            | some j =>
              rw [show lastI (some j) = (j : Int) from rfl]
              have hjn := HX.out.2.2.2.2 j rfl
              obtain ⟨t1, t2⟩ := HTE.out j rfl
              have cj := HNX.out.1.q.f.cell hjn
              have cb := HNX.out.1.q.f.cell x7
              obtain ⟨uj, huj⟩ : ∃ uj, uj = u j := ⟨_, rfl⟩
              obtain ⟨ub, hub⟩ : ∃ ub, ub = u b := ⟨_, rfl⟩
              rw [← huj, ← hub] at t1 t2
              rw [← huj] at cj
              rw [← hub] at cb
              have y0 : (0 : Int) ≤ (j : Int) := by omega
              have y1 : (j : Int) < (n : Int) := by omega
              have y2 : j < n := hjn
              replace cj := cell_regrown cj
              replace cb := cell_regrown cb
              have d1 : decide (ub < uj) = false := decide_eq_false (by omega)
              clear huj hub
              by_cases e : uj = ub
              · have d3 : (uj == ub) = true := by rw [e]; exact beq_self_eq_true _
                have d4 : decide (b < j) = false := decide_eq_false (by have := t2 e; omega)
                have d5 : decide ((b : Int) < (j : Int)) = false := decide_eq_false (by have := t2 e; omega)
                clear e t1 t2 hjn
                refine wp_region_quiet_below (by kernel_rfl) (by kernel_rfl) ?_
                repeat (go_big_quiet_step (fail))
                refine wpQuiet_nil ?_
                intro _ hw'
                obtain ⟨⟨dq, osq⟩, hw''⟩ := hw'
                subst hw''
                have b5 := below_regrown w6 dq osq
                generalize Sort.grow (redrawn w6 dq) osq = w7 at b5 ⊢
                have HN2 : Hid (RSt w1 B B hw hs n v' M' u (fun k => if k = b then true else s k) w7 ∧ SetP M' u (fun k => decide (k < n) && !(if k = b then true else s k)) ∧ M'.length = n - (i + 1) ∧ Behind false M' u (some b) ∧ ∀ j, some b = some j → j < n) := ⟨HNX.out.1.below b5, HNX.out.2⟩
                clear b5
                go_wp2_with fail
                go_roundg (n - (i + 1))
                case measure => have := HG.out; have := HL.out; omega
                case rel => exact ⟨i + 1, v', M', _, some b, rfl, HL.out, rfl, by go_num, HN2⟩
              · have d3 : (uj == ub) = false := by rw [beq_eq_false_iff_ne]; exact e
                clear e t1 t2 hjn
                refine wp_region_quiet_below (by kernel_rfl) (by kernel_rfl) ?_
                repeat (go_big_quiet_step (fail))
                refine wpQuiet_nil ?_
                intro _ hw'
                obtain ⟨⟨dq, osq⟩, hw''⟩ := hw'
                subst hw''
                have b5 := below_regrown w6 dq osq
                generalize Sort.grow (redrawn w6 dq) osq = w7 at b5 ⊢
                have HN2 : Hid (RSt w1 B B hw hs n v' M' u (fun k => if k = b then true else s k) w7 ∧ SetP M' u (fun k => decide (k < n) && !(if k = b then true else s k)) ∧ M'.length = n - (i + 1) ∧ Behind false M' u (some b) ∧ ∀ j, some b = some j → j < n) := ⟨HNX.out.1.below b5, HNX.out.2⟩
                clear b5
                go_wp2_with fail
                go_roundg (n - (i + 1))
                case measure => have := HG.out; have := HL.out; omega
                case rel => exact ⟨i + 1, v', M', _, some b, rfl, HL.out, rfl, by go_num, HN2⟩
          · go_wp2_with fail
            refine HT.out.mono ?_
            rintro e w5 ⟨x, hx, hmin, hO⟩
            obtain ⟨v2, rfl, S5⟩ := HX.out.1.out hO
            obtain ⟨b0, hb64, hp, rfl⟩ := (HX.out.2.1.1 x).1 hx
            have hbn0 : b0 < n := by simp at hp; omega
            have hP1 := HX.out.2.1.erase hb64 hp
            have c8 := S5.q.f.cell hbn0
            have hu0 : 0 ≤ u b0 ∧ u b0 ≤ 1073741824 := by rw [HU.out]; have := mod1024 (Z0 b0); omega
            have HA := add_is S5.q.s.1 hP1.small ⟨(b0 : Int), u b0⟩ (by show (0 : Int) ≤ (b0 : Int); omega) (by show (b0 : Int) < 64; omega) hu0.1 hu0.2 (hP1.out (i := b0) (by simp))
            have hP2 : SetP (⟨(b0 : Int), u b0⟩ :: M.erase ⟨(b0 : Int), u b0⟩) u (fun k => decide (k < n) && !s k) := (hP1.add hb64 (by simp)).of (fun k _ => by
              by_cases e : k = b0
              · rw [if_pos e, e]; exact hp.symm
              · rw [if_neg e, if_neg e]) fun _ _ _ => rfl
            have hlen2 : (⟨(b0 : Int), u b0⟩ :: M.erase ⟨(b0 : Int), u b0⟩).length = n - i := by
              have := HX.out.2.2.1
              have := HL.out
              rw [List.length_cons, List.length_erase_of_mem hx]; omega
            have hmem : ∀ y, y ∈ (⟨(b0 : Int), u b0⟩ :: M.erase ⟨(b0 : Int), u b0⟩) → y ∈ M := fun y hy => by
              rw [HX.out.2.1.1, ← hP2.1]; exact hy
            obtain ⟨M2, hM2⟩ : ∃ M2, M2 = (⟨(b0 : Int), u b0⟩ :: M.erase ⟨(b0 : Int), u b0⟩) := ⟨_, rfl⟩
            rw [← hM2] at hP2 hlen2 hmem HA
            have x5 : (0 : Int) ≤ (b0 : Int) := by omega
            have x6 : (b0 : Int) < (n : Int) := by omega
            obtain ⟨u0, hu0e⟩ : ∃ u0, u0 = u b0 := ⟨_, rfl⟩
            rw [← hu0e] at c8
            rw [show (⟨(b0 : Int), u b0⟩ : It).w = u0 from hu0e.symm] at HA
            replace HA := Lib.hid HA
            have HP2 := Lib.hid (And.intro hP2 (And.intro hlen2 (And.intro hmem S5)))
            clear hO hmin hx hp hb64 hP1 hu0 hP2 hlen2 hmem hM2 hu0e S5 HT
            go_wp2_with fail
            refine HA.out.mono ?_
            intro e w6 hO
            obtain ⟨v3, rfl, S6⟩ := HP2.out.2.2.2.out hO
            have HT := Lib.hid (most_some_is S6.q.s.1 HP2.out.1.small HP2.out.1.2 (fun e => by have := HP2.out.2.1; rw [e] at this; simp at this; have := HL.out; omega))
            have HS6 := Lib.hid S6
            clear hO HA c8 x5 x6 S6
            go_wp2_with fail
            refine HT.out.mono ?_
            rintro e w5 ⟨x, hx, htop, hO⟩
            obtain ⟨v', rfl, S5⟩ := HS6.out.out hO
            obtain ⟨b, hb64, hp, rfl⟩ := (HP2.out.1.1 x).1 hx
            have hbn : b < n := by simp at hp; omega
            have hsb : s b = false := by simp at hp; exact hp.2
            have hcond := HX.out.2.2.2.1
            have hP := HP2.out.1.erase hb64 hp
            have hlen : (M2.erase ⟨(b : Int), u b⟩).length = n - (i + 1) := by rw [List.length_erase_of_mem hx, HP2.out.2.1]; omega
            have hbeh : Behind true (M2.erase ⟨(b : Int), u b⟩) u (some b) := fun y hy => by
              rw [if_pos rfl]
              exact htop y (List.mem_of_mem_erase hy)
            have htest : ∀ j, l = some j → ¬ (u j < u b) ∧ (u j = u b → ¬ (b < j)) := fun j hj => by
              subst hj
              have := hcond _ (HP2.out.2.2.1 _ hx)
              rw [if_pos rfl] at this
              unfold more at this
              simp only at this
              omega
            obtain ⟨M', hM'⟩ : ∃ M', M' = M2.erase ⟨(b : Int), u b⟩ := ⟨_, rfl⟩
            rw [← hM'] at hP hlen hbeh S5
            clear hO htop hx hcond hM' hp hb64
            have HNX : Hid (RSt w1 B B hw hs n v' M' u (fun k => if k = b then true else s k) (w5.setCell ⟨hs, b, none⟩ (.bool true)) ∧ SetP M' u (fun k => decide (k < n) && !(if k = b then true else s k)) ∧ M'.length = n - (i + 1) ∧ Behind true M' u (some b) ∧ ∀ j, some b = some j → j < n) := ⟨S5.put b true, hP.of (fun k _ => by
              by_cases e : k = b
              · rw [if_pos e, if_pos e]; simp
              · rw [if_neg e, if_neg e]) fun _ _ _ => rfl, hlen, hbeh, fun j h => by cases h; exact hbn⟩
            have c7 := S5.g.cell hbn
            rw [hsb] at c7
            have f7 := S5.g.free b
            have x5 : (0 : Int) ≤ (b : Int) := by omega
            have x6 : (b : Int) < (n : Int) := by omega
            have x7 : b < n := hbn
            have q0 : decide ((b : Int) < 0) = false := decide_eq_false (by omega)
            have q1 : decide (n ≤ b) = false := decide_eq_false (by omega)
            have HTE := Lib.hid htest
            clear hP hlen hbeh S5 hbn hsb htest HT
            go_upto_region 26 with (fail)
            generalize w5.setCell ⟨hs, b, none⟩ (.bool true) = w6 at HNX ⊢
            clear c7 f7
            cases l with
            | none =>
              rw [show lastI none = -1 from rfl]
              refine wp_region_quiet_below (by kernel_rfl) (by kernel_rfl) ?_
              repeat (go_big_quiet_step (fail))
              refine wpQuiet_nil ?_
              intro _ hw'
              obtain ⟨⟨dq, osq⟩, hw''⟩ := hw'
              subst hw''
              have b5 := below_regrown w6 dq osq
              generalize Sort.grow (redrawn w6 dq) osq = w7 at b5 ⊢
              have HN2 : Hid (RSt w1 B B hw hs n v' M' u (fun k => if k = b then true else s k) w7 ∧ SetP M' u (fun k => decide (k < n) && !(if k = b then true else s k)) ∧ M'.length = n - (i + 1) ∧ Behind true M' u (some b) ∧ ∀ j, some b = some j → j < n) := ⟨HNX.out.1.below b5, HNX.out.2⟩
              clear b5
              go_wp2_with fail
              go_roundg (n - (i + 1))
              case measure => have := HG.out; have := HL.out; omega
              case rel => exact ⟨i + 1, v', M', _, some b, rfl, HL.out, rfl, by go_num, HN2⟩
            | some j =>
              rw [show lastI (some j) = (j : Int) from rfl]
              have hjn := HX.out.2.2.2.2 j rfl
              obtain ⟨t1, t2⟩ := HTE.out j rfl
              have cj := HNX.out.1.q.f.cell hjn
              have cb := HNX.out.1.q.f.cell x7
              obtain ⟨uj, huj⟩ : ∃ uj, uj = u j := ⟨_, rfl⟩
              obtain ⟨ub, hub⟩ : ∃ ub, ub = u b := ⟨_, rfl⟩
              rw [← huj, ← hub] at t1 t2
              rw [← huj] at cj
              rw [← hub] at cb
              have y0 : (0 : Int) ≤ (j : Int) := by omega
              have y1 : (j : Int) < (n : Int) := by omega
              have y2 : j < n := hjn
              replace cj := cell_regrown cj
              replace cb := cell_regrown cb
              have d1 : decide (uj < ub) = false := decide_eq_false (by omega)
              clear huj hub
              by_cases e : uj = ub
              · have d3 : (uj == ub) = true := by rw [e]; exact beq_self_eq_true _
                have d4 : decide (b < j) = false := decide_eq_false (by have := t2 e; omega)
                have d5 : decide ((b : Int) < (j : Int)) = false := decide_eq_false (by have := t2 e; omega)
                clear e t1 t2 hjn
                refine wp_region_quiet_below (by kernel_rfl) (by kernel_rfl) ?_
                repeat (go_big_quiet_step (fail))
                refine wpQuiet_nil ?_
                intro _ hw'
                obtain ⟨⟨dq, osq⟩, hw''⟩ := hw'
                subst hw''
                have b5 := below_regrown w6 dq osq
                generalize Sort.grow (redrawn w6 dq) osq = w7 at b5 ⊢
                have HN2 : Hid (RSt w1 B B hw hs n v' M' u (fun k => if k = b then true else s k) w7 ∧ SetP M' u (fun k => decide (k < n) && !(if k = b then true else s k)) ∧ M'.length = n - (i + 1) ∧ Behind true M' u (some b) ∧ ∀ j, some b = some j → j < n) := ⟨HNX.out.1.below b5, HNX.out.2⟩
                clear b5
                go_wp2_with fail
                go_roundg (n - (i + 1))
                case measure => have := HG.out; have := HL.out; omega
                case rel => exact ⟨i + 1, v', M', _, some b, rfl, HL.out, rfl, by go_num, HN2⟩
              · have d3 : (uj == ub) = false := by rw [beq_eq_false_iff_ne]; exact e
                clear e t1 t2 hjn
                refine wp_region_quiet_below (by kernel_rfl) (by kernel_rfl) ?_
                repeat (go_big_quiet_step (fail))
                refine wpQuiet_nil ?_
                intro _ hw'
                obtain ⟨⟨dq, osq⟩, hw''⟩ := hw'
                subst hw''
                have b5 := below_regrown w6 dq osq
                generalize Sort.grow (redrawn w6 dq) osq = w7 at b5 ⊢
                have HN2 : Hid (RSt w1 B B hw hs n v' M' u (fun k => if k = b then true else s k) w7 ∧ SetP M' u (fun k => decide (k < n) && !(if k = b then true else s k)) ∧ M'.length = n - (i + 1) ∧ Behind true M' u (some b) ∧ ∀ j, some b = some j → j < n) := ⟨HNX.out.1.below b5, HNX.out.2⟩
                clear b5
                go_wp2_with fail
                go_roundg (n - (i + 1))
                case measure => have := HG.out; have := HL.out; omega
                case rel => exact ⟨i + 1, v', M', _, some b, rfl, HL.out, rfl, by go_num, HN2⟩
        · obtain rfl : n = i := by have := HG.out; omega
          have HLe := len_is HX.out.1.q.s.1
          rw [show M.length = 0 from by rw [HX.out.2.2.1]; omega] at HLe
          replace HLe := Lib.hid HLe
          have HF : Hid (Below w.heap.size w wr) := HBW.out wr HX.out.1.q.s.2.1
          clear HX HG hlt x0 x2
          go_wp2_with fail
          refine HLe.out.mono ?_
          rintro e w5 ⟨rfl, rfl⟩
          go_wp2_with fail
          go_ret
          exact ⟨rfl, HF.out⟩
theorem walk (a0 : Option Addr) (len0 cap0 : Nat) (z0 : List Int) (a1 : Bool) (W : World) (w0 : IsRow .i64 W a0 len0 cap0 z0) (h : LaidPoolSorts.Holds W) :
    Calls Tryd.prog 4 #[.slice a0 len0 cap0, .bool a1] W fun e W' => e = .returned (.bool true) ∧ Below W.heap.size W W' :=
  core a0 len0 cap0 a1 (fun i => z0.getD i 0) W (row_nums w0) w0.at.1
end Go.Proofs.YtaaegkjbmomjbaaDoor.walkPoolSorts
