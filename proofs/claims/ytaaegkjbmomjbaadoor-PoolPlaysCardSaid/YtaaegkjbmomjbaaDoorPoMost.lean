/- A pool's TakeMost. By the verifier of shale. -/
import Derived.Test.YtaaegkjbmomjbaaDoorPoAdd
import Derived.Test.YtaaegkjbmomjbaaDoorBuf
namespace Go.Proofs.YtaaegkjbmomjbaaDoor.Po
open Go Go.RowKit Hp
set_option linter.unusedVariables false
set_option linter.unusedSimpArgs false
/-- x is taken ahead of m. -/
def more (x m : It) : Prop := m.w < x.w ∨ (x.w = m.w ∧ x.b < m.b)
/-- the most worn of the first k + 1. -/
def Top (L : List It) (m : It) (k : Nat) : Prop := (∃ t, t ≤ k ∧ L[t]! = m) ∧ ∀ j, j ≤ k → ¬ more (L[j]!) m
theorem Top.zero (L : List It) : Top L (L[0]!) 0 := ⟨⟨0, Nat.le_refl _, rfl⟩, fun j hj => by
  obtain rfl : j = 0 := by omega
  unfold more; omega⟩
theorem Top.new {L : List It} {m : It} {k : Nat} (h : Top L m k) (hm : more (L[k + 1]!) m) : Top L (L[k + 1]!) (k + 1) := ⟨⟨k + 1, Nat.le_refl _, rfl⟩, fun j hj => by
  by_cases e : j = k + 1
  · rw [e]; unfold more; omega
  · have := h.2 j (by omega)
    unfold more at this hm ⊢
    omega⟩
theorem Top.old {L : List It} {m : It} {k : Nat} (h : Top L m k) (hm : ¬ more (L[k + 1]!) m) : Top L m (k + 1) := by
  obtain ⟨⟨t, ht, e⟩, h2⟩ := h
  refine ⟨⟨t, by omega, e⟩, fun j hj => ?_⟩
  by_cases e : j = k + 1
  · rw [e]; exact hm
  · exact h2 j (by omega)
def MostPost (w : World) (base qb : Nat) (v : Value) (L : List It) (e : Ending) (w' : World) : Prop := ∃ x, x ∈ L ∧ (∀ y ∈ L, ¬ more y x) ∧ OutPost w base qb v L x (.tuple #[.int .i64 x.b, .bool true]) e w'
def MostI (w : World) (base qb : Nat) (v : Value) (L : List It) (zm k : Nat) (m : It) (wr : World) : Prop := Top L m k ∧ Below w.heap.size w wr ∧ wr.heap[zm]? = some (.cells #[.int .i64 m.b, .int .i64 m.w] 64 (0, 0))
section
variable {w : World} {base qb : Nat} {v : Value} {L : List It}
theorem most_none (Q : PoolAt w base qb v []) :
    Calls Tryd.prog 15 #[.pointer (some ⟨qb, 0, none⟩)] w fun e w' => e = .returned (.tuple #[.int .i64 0, .bool false]) ∧ w = w' := by
  obtain ⟨a, c, rfl, _⟩ := row_sliceP Q.q.row
  have k0 := Q.q.cell.1
  clear Q
  go_enter Tryd.func15, Tryd.ntmps15
  go_wp2_with fail
  go_ret2
  exact ⟨rfl, rfl⟩
set_option maxRecDepth 100000 in
set_option maxHeartbeats 2000000 in
theorem most_some (Q : PoolAt w base qb v L) (hL : L.length ≤ 1000) (hne : 0 < L.length) (hnd : (L.map It.b).Nodup) :
    Calls Tryd.prog 15 #[.pointer (some ⟨qb, 0, none⟩)] w (MostPost w base qb v L) := by
  obtain ⟨g, c, rfl, H⟩ := Q.hp hne
  obtain ⟨N, hN⟩ : ∃ N, N = L.length := ⟨_, rfl⟩
  have hNc : N ≤ c := by
    obtain ⟨a, c', e, h1, _⟩ := row_sliceP Q.q.row
    cases e; omega
  have HQ := Lib.hid (And.intro Q (And.intro hN (And.intro hL hnd)))
  have hcw : ∀ W, Below w.heap.size w W → ∀ k, k < N → W.cell? ⟨g, k * 2, none⟩ = some (.int .i64 (L[k]!).b) ∧ W.cell? ⟨g, k * 2 + 1, none⟩ = some (.int .i64 (L[k]!).w) := by
    intro W b2 k hk
    obtain ⟨h3, h4⟩ := H.item (i := k) (by omega)
    exact ⟨(World.cell?_of_block (a := ⟨g, _, none⟩) (b2.block g H.g0.2)).trans h3, (World.cell?_of_block (a := ⟨g, _, none⟩) (b2.block g H.g0.2)).trans h4⟩
  have HC := Lib.hid hcw
  have kk := H.cell
  have hkw : ∀ W, Below w.heap.size w W → W.cell? ⟨qb, 0, none⟩ = some (.slice (some ⟨g, 0, none⟩) N c) := fun W b2 => by rw [hN]; exact (World.cell?_of_block (a := ⟨qb, 0, none⟩) (b2.block qb Q.q.lt)).trans kk
  have HK := Lib.hid hkw
  have k0 := hkw w (Below.refl _ _)
  have HG : Hid (g < w.heap.size ∧ qb < w.heap.size) := ⟨H.g0.2, Q.q.lt⟩
  rw [← hN] at hne hL ⊢
  clear hcw hkw hN Q H hnd kk
  obtain ⟨c0, c1⟩ := HC.out w (Below.refl _ _) 0 hne
  rw [Nat.zero_mul] at c0 c1
  have htop := Top.zero L
  obtain ⟨x0, hx0⟩ : ∃ x0, x0 = L[0]! := ⟨_, rfl⟩
  rw [← hx0] at c0 c1 htop
  have HT := Lib.hid htop
  have d1 : ((N : Int) == 0) = false := by rw [beq_eq_false_iff_ne]; omega
  have d2 : ¬ (N = 0) := by omega
  have d3 : 0 < N := hne
  clear htop hx0
  go_enter Tryd.func15, Tryd.ntmps15
  go_upto_region 4 with (fail)
  generalize hw : w.alloc (.cells #[.int .i64 x0.b, .int .i64 x0.w] 64 (0, 0)) = w1
  obtain ⟨J1, b1, _⟩ := newIt w w1 x0 hw
  clear hw
  obtain ⟨zm, hzm⟩ : ∃ zm, zm = w.heap.size := ⟨_, rfl⟩
  rw [← hzm] at J1 ⊢
  have HS : Hid (MostI w base qb (.slice (some ⟨g, 0, none⟩) N c) L zm 0 x0 w1) := ⟨HT.out, b1, J1⟩
  have HZM := Lib.hid hzm
  have k1 := HK.out w1 b1
  have d4 : (1 : Int) ≤ (N : Int) := by omega
  have d5 : (1 : Int) ≤ (c : Int) := by omega
  have d6 : 1 ≤ N := hne
  have d7 : 1 ≤ c := by omega
  have dL : (N : Int) ≤ 1000 := by omega
  have HNC := Lib.hid (And.intro hNc hL)
  clear hzm J1 b1 c0 c1 k0 hNc
  obtain ⟨N1, hN1⟩ : ∃ N1, N = N1 + 1 := ⟨N - 1, by omega⟩
  have e2 : N - 1 = N1 := by omega
  have e3 : (N : Int) - 1 = (N1 : Int) := by omega
  have HN1 := Lib.hid hN1
  clear hN1
  by_cases hc1 : c = 1
  · have HC1 := Lib.hid hc1
    have e1 : (c : Int) = 1 := by omega
    go_upto_region 5 with (fail)
    go_loopg [25] N1 (fun gh s25 wx => ∃ (k : Nat) (m : It), gh = N1 - k ∧ k ≤ N1 ∧ s25 = .int .i64 (k : Int) ∧ Hid (MostI w base qb (.slice (some ⟨g, 0, none⟩) N c) L zm k m wx))
    case atStart => exact ⟨0, x0, rfl, Nat.zero_le _, rfl, HS⟩
    case round =>
      clear HS k1
      obtain ⟨k, m, hg, hkn, rfl, HX⟩ := hrel
      have HI := Lib.hid (And.intro hg hkn)
      have y0 : (0 : Int) ≤ (k : Int) := by omega
      have y2 : (k : Int) ≤ 1000 := by have := HN1.out; have := HNC.out; omega
      clear hg hkn
      by_cases hlt : k < N1
      · exact absurd hlt (by have := HC1.out; have := HN1.out; have := HNC.out; omega)
      · obtain rfl : N1 = k := by have := HI.out.2; omega
        have Qd := HQ.out.1.below (HX.out.2.1.drew)
        have Jd : wr.drew.heap[zm]? = some (.cells #[.int .i64 m.b, .int .i64 m.w] 64 (0, 0)) := HX.out.2.2
        obtain ⟨m0, m1, _⟩ := it_cells Jd
        have hin : m ∈ L := by
          obtain ⟨⟨t, ht, e⟩, _⟩ := HX.out.1
          have hl := HQ.out.2.1
          have := HN1.out
          rw [← e, getElem!_pos L t (by omega)]
          exact List.getElem_mem _
        have htop : ∀ y ∈ L, ¬ more y m := by
          intro y hy
          obtain ⟨t, ht, rfl⟩ := List.mem_iff_getElem.1 hy
          have hl := HQ.out.2.1
          have := HN1.out
          have := HX.out.1.2 t (by omega)
          rw [getElem!_pos L t ht] at this
          exact this
        have hix : ∃ i, idx? L m.b = some i ∧ L[i]! = m := by
          cases h : idx? L m.b with
          | none => exact absurd rfl (idx_not h m hin)
          | some i =>
            refine ⟨i, rfl, ?_⟩
            obtain ⟨h1, h2⟩ := idx_lt h
            obtain ⟨t, ht, e⟩ := List.mem_iff_getElem.1 hin
            have hnd := HQ.out.2.2.2
            rw [getElem!_pos L i h1] at h2 ⊢
            have e2 : (L.map It.b)[i]'(by simpa using h1) = (L.map It.b)[t]'(by simpa using ht) := by simp [h2, e]
            have := (List.getElem_inj hnd).1 e2
            have hit : i = t := by simpa using this
            subst hit
            exact e
        obtain ⟨i, hi1, hi2⟩ := hix
        have hr := remove_yes Qd HQ.out.2.2.1 hi1
        rw [hi2] at hr
        rw [← HQ.out.2.1] at hr
        have HR := Lib.hid hr
        have HZ : Hid (∀ w5 v', Tn (qbl qb (.slice (some ⟨g, 0, none⟩) N c)) wr.drew w5 (qbl qb v') → w5.cell? ⟨zm, 0, none⟩ = some (.int .i64 m.b)) := fun w5 v' t => by
          refine (World.cell?_of_block (a := ⟨zm, 0, none⟩) (t.same zm (lt_of_block Jd) ?_)).trans m0
          have := HG.out; have := HZM.out
          simp [qbl, Value.ownBlock]
          omega
        have HM := Lib.hid (And.intro hin (And.intro htop HX.out.2.1))
        clear Qd Jd hin htop hi1 hi2 hr
        go_upto_region 10 with (fail)
        go_region_with (go_at_call 11; refine Calls.mono HR.out ?_; rintro e w5 ⟨v', m', rfl, p1, p2, p3⟩; have z5 := HZ.out w5 v' p3)
        all_goals
          have HF : Hid (MostPost w base qb (.slice (some ⟨g, 0, none⟩) N c) L (.returned (.tuple #[.int .i64 m.b, .bool true])) w5) := ⟨m, HM.out.1, HM.out.2.1, v', m', rfl, p1, p2, (Tn.below HM.out.2.2.drew).trans p3⟩
          clear p1 p2 p3
          go_wp2_with fail
          go_ret2
          exact HF.out
  · have e1 : ¬ ((c : Int) = 1) := by omega
    go_upto_region 5 with (fail)
    go_loopg [25] N1 (fun gh s25 wx => ∃ (k : Nat) (m : It), gh = N1 - k ∧ k ≤ N1 ∧ s25 = .int .i64 (k : Int) ∧ Hid (MostI w base qb (.slice (some ⟨g, 0, none⟩) N c) L zm k m wx))
    case atStart => exact ⟨0, x0, rfl, Nat.zero_le _, rfl, HS⟩
    case round =>
      clear HS k1
      obtain ⟨k, m, hg, hkn, rfl, HX⟩ := hrel
      have HI := Lib.hid (And.intro hg hkn)
      have y0 : (0 : Int) ≤ (k : Int) := by omega
      have y2 : (k : Int) ≤ 1000 := by have := HN1.out; have := HNC.out; omega
      clear hg hkn
      by_cases hlt : k < N1
      · have x1 : (k : Int) < (N1 : Int) := by omega
        obtain ⟨c0, c1⟩ := HC.out wr HX.out.2.1 (k + 1) (by have := HN1.out; omega)
        have hstep := fun hm => HX.out.1.new hm
        have hstay := fun hm => HX.out.1.old hm
        obtain ⟨x, hx⟩ : ∃ x, x = L[k + 1]! := ⟨_, rfl⟩
        rw [← hx] at c0 c1 hstep hstay
        have HST := Lib.hid (And.intro hstep hstay)
        rw [show (k + 1) * 2 = 2 + k * 2 from by omega] at c0 c1
        have HL := Lib.hid hlt
        clear hx hstep hstay hlt
        go_upto_region 7 with (fail)
        generalize hw : wr.alloc (.cells #[.int .i64 x.b, .int .i64 x.w] 64 (0, 0)) = w3
        obtain ⟨J3, b3, _⟩ := newIt wr w3 x hw
        clear hw
        obtain ⟨zx, hzx⟩ : ∃ zx, zx = wr.heap.size := ⟨_, rfl⟩
        rw [← hzx] at J3 ⊢
        have J2 := (b3.block zm (lt_of_block HX.out.2.2)).trans HX.out.2.2
        have hxm : zm ≠ zx := by have := lt_of_block HX.out.2.2; omega
        have b03 := HX.out.2.1.trans (b3.mono HX.out.2.1.size)
        obtain ⟨m0, m1, mf⟩ := it_cells J2
        obtain ⟨y0, y1, _⟩ := it_cells J3
        have f0 := mf 0
        have f1 := mf 1
        have HJ := Lib.hid (And.intro J2 (And.intro J3 (And.intro hxm b03)))
        clear J2 J3 hxm b03 b3 hzx mf c0 c1
        by_cases g1 : m.w < x.w
        · have q1 : decide (m.w < x.w) = true := decide_eq_true g1
          have HM := Lib.hid (HST.out.1 (.inl g1))
          clear g1
          go_upto_region 9 with (fail)
          have HN2 : Hid (MostI w base qb (.slice (some ⟨g, 0, none⟩) N c) L zm (k + 1) x ((w3.setCell ⟨zm, 0, none⟩ (.int .i64 x.b)).setCell ⟨zm, 1, none⟩ (.int .i64 x.w))) := ⟨HM.out, (HJ.out.2.2.2.setCell (by rw [HZM.out]; exact Nat.le_refl _) _).setCell (by rw [HZM.out]; exact Nat.le_refl _) _, heap_setCell_same _ _ 1 _ _ _ (heap_setCell_same _ _ 0 _ _ _ HJ.out.1)⟩
          generalize (w3.setCell ⟨zm, 0, none⟩ (.int .i64 x.b)).setCell ⟨zm, 1, none⟩ (.int .i64 x.w) = w4 at HN2 ⊢
          go_wp2_with fail
          go_roundg (N1 - (k + 1))
          case measure => have := HI.out; have := HL.out; omega
          case rel => exact ⟨k + 1, x, rfl, HL.out, by go_num, HN2⟩
        · have q1 : decide (m.w < x.w) = false := decide_eq_false g1
          by_cases g2 : x.w = m.w
          · have q2 : (x.w == m.w) = true := by rw [g2]; exact beq_self_eq_true _
            by_cases g3 : x.b < m.b
            · have q3 : decide (x.b < m.b) = true := decide_eq_true g3
              have HM := Lib.hid (HST.out.1 (.inr ⟨g2, g3⟩))
              clear g1 g2 g3
              go_upto_region 9 with (fail)
              have HN2 : Hid (MostI w base qb (.slice (some ⟨g, 0, none⟩) N c) L zm (k + 1) x ((w3.setCell ⟨zm, 0, none⟩ (.int .i64 x.b)).setCell ⟨zm, 1, none⟩ (.int .i64 x.w))) := ⟨HM.out, (HJ.out.2.2.2.setCell (by rw [HZM.out]; exact Nat.le_refl _) _).setCell (by rw [HZM.out]; exact Nat.le_refl _) _, heap_setCell_same _ _ 1 _ _ _ (heap_setCell_same _ _ 0 _ _ _ HJ.out.1)⟩
              generalize (w3.setCell ⟨zm, 0, none⟩ (.int .i64 x.b)).setCell ⟨zm, 1, none⟩ (.int .i64 x.w) = w4 at HN2 ⊢
              go_wp2_with fail
              go_roundg (N1 - (k + 1))
              case measure => have := HI.out; have := HL.out; omega
              case rel => exact ⟨k + 1, x, rfl, HL.out, by go_num, HN2⟩
            · have q3 : decide (x.b < m.b) = false := decide_eq_false g3
              have HM := Lib.hid (HST.out.2 (by unfold more; omega))
              clear g1 g2 g3
              have HN2 : Hid (MostI w base qb (.slice (some ⟨g, 0, none⟩) N c) L zm (k + 1) m w3) := ⟨HM.out, HJ.out.2.2.2, HJ.out.1⟩
              go_wp2_with fail
              go_roundg (N1 - (k + 1))
              case measure => have := HI.out; have := HL.out; omega
              case rel => exact ⟨k + 1, m, rfl, HL.out, by go_num, HN2⟩
          · have q2 : (x.w == m.w) = false := by rw [beq_eq_false_iff_ne]; exact g2
            have HM := Lib.hid (HST.out.2 (by unfold more; omega))
            clear g1 g2
            have HN2 : Hid (MostI w base qb (.slice (some ⟨g, 0, none⟩) N c) L zm (k + 1) m w3) := ⟨HM.out, HJ.out.2.2.2, HJ.out.1⟩
            go_wp2_with fail
            go_roundg (N1 - (k + 1))
            case measure => have := HI.out; have := HL.out; omega
            case rel => exact ⟨k + 1, m, rfl, HL.out, by go_num, HN2⟩
      · obtain rfl : N1 = k := by have := HI.out.2; omega
        have Qd := HQ.out.1.below (HX.out.2.1.drew)
        have Jd : wr.drew.heap[zm]? = some (.cells #[.int .i64 m.b, .int .i64 m.w] 64 (0, 0)) := HX.out.2.2
        obtain ⟨m0, m1, _⟩ := it_cells Jd
        have hin : m ∈ L := by
          obtain ⟨⟨t, ht, e⟩, _⟩ := HX.out.1
          have hl := HQ.out.2.1
          have := HN1.out
          rw [← e, getElem!_pos L t (by omega)]
          exact List.getElem_mem _
        have htop : ∀ y ∈ L, ¬ more y m := by
          intro y hy
          obtain ⟨t, ht, rfl⟩ := List.mem_iff_getElem.1 hy
          have hl := HQ.out.2.1
          have := HN1.out
          have := HX.out.1.2 t (by omega)
          rw [getElem!_pos L t ht] at this
          exact this
        have hix : ∃ i, idx? L m.b = some i ∧ L[i]! = m := by
          cases h : idx? L m.b with
          | none => exact absurd rfl (idx_not h m hin)
          | some i =>
            refine ⟨i, rfl, ?_⟩
            obtain ⟨h1, h2⟩ := idx_lt h
            obtain ⟨t, ht, e⟩ := List.mem_iff_getElem.1 hin
            have hnd := HQ.out.2.2.2
            rw [getElem!_pos L i h1] at h2 ⊢
            have e2 : (L.map It.b)[i]'(by simpa using h1) = (L.map It.b)[t]'(by simpa using ht) := by simp [h2, e]
            have := (List.getElem_inj hnd).1 e2
            have hit : i = t := by simpa using this
            subst hit
            exact e
        obtain ⟨i, hi1, hi2⟩ := hix
        have hr := remove_yes Qd HQ.out.2.2.1 hi1
        rw [hi2] at hr
        rw [← HQ.out.2.1] at hr
        have HR := Lib.hid hr
        have HZ : Hid (∀ w5 v', Tn (qbl qb (.slice (some ⟨g, 0, none⟩) N c)) wr.drew w5 (qbl qb v') → w5.cell? ⟨zm, 0, none⟩ = some (.int .i64 m.b)) := fun w5 v' t => by
          refine (World.cell?_of_block (a := ⟨zm, 0, none⟩) (t.same zm (lt_of_block Jd) ?_)).trans m0
          have := HG.out; have := HZM.out
          simp [qbl, Value.ownBlock]
          omega
        have HM := Lib.hid (And.intro hin (And.intro htop HX.out.2.1))
        clear Qd Jd hin htop hi1 hi2 hr
        go_upto_region 10 with (fail)
        go_region_with (go_at_call 11; refine Calls.mono HR.out ?_; rintro e w5 ⟨v', m', rfl, p1, p2, p3⟩; have z5 := HZ.out w5 v' p3)
        all_goals
          have HF : Hid (MostPost w base qb (.slice (some ⟨g, 0, none⟩) N c) L (.returned (.tuple #[.int .i64 m.b, .bool true])) w5) := ⟨m, HM.out.1, HM.out.2.1, v', m', rfl, p1, p2, (Tn.below HM.out.2.2.drew).trans p3⟩
          clear p1 p2 p3
          go_wp2_with fail
          go_ret2
          exact HF.out
end
end Go.Proofs.YtaaegkjbmomjbaaDoor.Po
