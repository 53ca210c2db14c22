/- The statements' own polynomials (shaleref2): Trim, Eval. By the verifier of shale. -/
import Derived.Test.YtgfaaaeechgjmaaDoorPolyFrom
import Derived.Test.YtgfaaaeechgjmaaDoorFldRef2
namespace Go.Proofs.YtgfaaaeechgjmaaDoor.Pl
open Go Go.RowKit Fld Bits16
set_option linter.unusedVariables false
theorem own_rowz {w : World} {base n cap : Nat} {a : Option Addr} {l : List Int} (e : Own64 w base (.slice a n cap) n l) : RowZ w a n cap l ∧ ∀ bb off, a = some ⟨bb, off, none⟩ → base ≤ bb := by
  have hl := e.len
  rcases e.2 with ⟨h0, h1⟩ | ⟨g', cap', cur, hv, hbg, hh, hnc, hm, hs, ht⟩
  · simp only [Value.slice.injEq] at h0
    obtain ⟨rfl, rfl, rfl⟩ := h0
    exact ⟨⟨by omega, Nat.le_refl _, by decide, fun i hi => by omega⟩, fun bb off e => by cases e⟩
  · simp only [Value.slice.injEq] at hv
    obtain ⟨rfl, _, rfl⟩ := hv
    refine ⟨⟨hl.symm, hnc, hm, fun i hi => ⟨g', 0, rfl, ?_, lt_of_block hh⟩⟩, fun bb off e => by simp only [Option.some.injEq, Addr.mk.injEq] at e; omega⟩
    obtain ⟨g2, c2, e2, _, _, _, hc⟩ := e.cells (by omega : 0 < n)
    simp only [Value.slice.injEq, Option.some.injEq, Addr.mk.injEq] at e2
    obtain ⟨⟨rfl, _⟩, _⟩ := e2
    rw [Nat.zero_add]; exact hc i hi
/-- a polynomial in memory that is not older, its last coefficient not 0. -/
structure ROut (m : Nat) [M : Mid m] (w0 w : World) (a : Option Addr) (n cap : Nat) (p : Ser (El m)) : Prop where
  row : RowZ w a n cap (nums p n)
  bd : Bd p n
  top : top p n = n
  fresh : ∀ bb off, a = some ⟨bb, off, none⟩ → w0.heap.size ≤ bb
section
variable {m : Nat} [M : Mid m]
theorem ROut.since {w0 w w' : World} {a : Option Addr} {n cap : Nat} {p : Ser (El m)} (h : ROut m w0 w a n cap p) (b : Below w.heap.size w w') : ROut m w0 w' a n cap p :=
  ⟨h.row.below b, h.bd, h.top, h.fresh⟩
theorem ROut.from {w0 w1 w : World} {a : Option Addr} {n cap : Nat} {p : Ser (El m)} (h : ROut m w1 w a n cap p) (b : w0.heap.size ≤ w1.heap.size) : ROut m w0 w a n cap p :=
  ⟨h.row, h.bd, h.top, fun bb off e => Nat.le_trans b (h.fresh bb off e)⟩
omit M in
theorem nums_succ (p : Ser (El m)) (k : Nat) : nums p (k + 1) = nums p k ++ [zn (p k)] := by
  unfold nums; rw [List.range_succ, List.map_append]; rfl
theorem rlow_any (z : Int) (w : World) : Calls Tryd.prog 31 #[.int .i64 (m : Int), .int .i64 z] w fun e w' => e = .returned (.int .i64 (zn (elm m z))) ∧ w = w' := by
  refine (low_any m M.lo M.hi z w).mono ?_
  rintro e w' ⟨rfl, rfl⟩
  exact ⟨rfl, rfl⟩
set_option maxRecDepth 100000 in
set_option maxHeartbeats 1000000 in
theorem rtrim_any (a : Option Addr) (n cap : Nat) (l : List Int) (w : World) (h : RowZ w a n cap l) (hn : n ≤ 1000000) :
    Calls Tryd.prog 12 #[.int .i64 (m : Int), .slice a n cap] w
      fun e w' => ∃ a' n' cap', e = .returned (.slice a' n' cap') ∧ ROut m w w' a' n' cap' (sr m l) ∧ Below w.heap.size w w' := by
  obtain ⟨i0, hi, hz0, hz1, hz2⟩ := info64
  have HP := Lib.hid h
  have HBn : Hid (Bd (sr m l) n) := by have := sr_bd (m := m) l; rwa [← h.hlen] at this
  clear h
  go_enter Tryd.func12, Tryd.ntmps12
  go_wp2_with fail
  go_loopg [5, 6] n (fun gh s5 s6 wx => ∃ (k : Nat), gh = n - k ∧ k ≤ n ∧ s6 = .int .i64 (k : Int) ∧ Own64 wx w.heap.size s5 k (nums (sr m l) k) ∧ Below w.heap.size w wx)
  case atStart => exact ⟨0, rfl, Nat.zero_le _, rfl, Own64.nil w w.heap.size, Below.refl _ _⟩
  case round =>
    obtain ⟨k, hg, hkn, rfl, hown, hB⟩ := hrel
    have HG := Lib.hid hg
    clear hg
    obtain ⟨av, cv, rfl⟩ := own_slice hown
    by_cases hlt : k < n
    · have x0 : (0 : Int) ≤ (k : Int) := by omega
      have x1 : (k : Int) < (n : Int) := by omega
      obtain ⟨bb, off, rfl, c1, hb⟩ := (HP.out.below hB).row k hlt
      have hbs := hB.size
      have HOwn := Lib.hid hown
      have HBB := Lib.hid hB
      have HF : Hid (nums (sr m l) (k + 1) = nums (sr m l) k ++ [zn (sr m l k)]) := nums_succ _ _
      clear hown hB hb
      go_wp2_with fail
      refine (rlow_any (l.getD k 0) wr).mono ?_
      rintro e w1 ⟨rfl, rfl⟩
      rw [sr_at]
      go_wp2_with (at_builtin; refine wpList_append_own _ rfl _ _ 22 rfl w.heap.size 3 i0 (.int .i64 0) 1 8 Tryd.underlying22 hi hz0 hz1 hz2 rfl (by decide) _ k _ rfl (World.ownsRow.alloc HOwn.out _) ⟨wr.heap.size, 0, none⟩ 1 1 [.int .i64 (zn (sr m l k))] rfl rfl (cell_one_new _ _ _) (ints_oneCell .i64 [_]) (by unfold maxLen; omega) (by omega) (by simp; omega) ?_; intro v7 w7 hown7 hgrow _)
      have ho7 : Own64 w7 w.heap.size v7 (k + 1) (nums (sr m l) (k + 1)) := by
        unfold Own64
        rw [HF.out, ← cells64_append]
        exact hown7
      have b7 : Below w.heap.size w w7 := (HBB.out.alloc hbs _).grown hgrow (by simp; omega) (fun g hg => (HOwn.out.block g hg).1)
      clear hown7 hgrow c1
      go_wp2_with fail
      go_roundg (n - (k + 1))
      case measure => have := HG.out; omega
      case rel => exact ⟨k + 1, rfl, by omega, by go_num, ho7, b7⟩
    · obtain rfl : k = n := by omega
      obtain ⟨hrow, hfr⟩ := own_rowz hown
      have HR := Lib.hid hrow
      have HFr := Lib.hid hfr
      have hcap := hrow.hcap
      have hmost := hrow.hmost
      unfold maxLen at hmost
      have HBB := Lib.hid hB
      clear hown hrow hfr hB
      go_wp2_with fail
      go_loopg [5] k (fun gh s5 wx => ∃ j : Nat, gh = j ∧ j ≤ k ∧ s5 = .slice av j cv ∧ Hid (top (sr m l) j = top (sr m l) k) ∧ wr = wx)
      case atStart => exact ⟨k, rfl, Nat.le_refl _, rfl, rfl, rfl⟩
      case round =>
        obtain ⟨j, hg, hj, rfl, HT, rfl⟩ := hrel
        have HG2 := Lib.hid hg
        clear hg
        have y0 : (0 : Int) ≤ (j : Int) := by omega
        have y1 : (j : Int) ≤ (cv : Int) := by omega
        rcases j with _ | j
        · have HF : Hid (ROut m w wr av 0 cv (sr m l)) := by
            have h0 : top (sr m l) k = 0 := HT.out.symm
            exact ⟨HR.out.take 0 (Nat.zero_le _) |> fun h => by rwa [nums_take _ (Nat.zero_le _)] at h, by have := top_bd HBn.out; rwa [h0] at this, rfl, HFr.out⟩
          clear HT
          go_wp2_with fail
          go_ret
          exact ⟨_, _, _, rfl, HF.out, HBB.out⟩
        · have x0 : (0 : Int) ≤ (j : Int) := by omega
          have x1 : (j : Int) < (k : Int) := by omega
          have x2 : (j : Int) ≤ (cv : Int) := by omega
          have x3 : (j : Int) < (j : Int) + 1 := by omega
          have i1 : IntKind.i64.wrap (((j + 1 : Nat) : Int) - 1) = (j : Int) := by rw [show ((j + 1 : Nat) : Int) - 1 = (j : Int) by omega]; exact IntWalk.i64_in _ (by omega)
          have i2 : IntKind.i64.wrap ((j : Int) + 1 - 1) = (j : Int) := by rw [show (j : Int) + 1 - 1 = (j : Int) by omega]; exact IntWalk.i64_in _ (by omega)
          obtain ⟨bb, off, rfl, c1, hb⟩ := HR.out.row j (by omega)
          rw [nums_at (sr m l) k j (by omega)] at c1
          have hz := zn_eq0 (sr m l j)
          by_cases h0 : sr m l j = 0
          · rw [decide_eq_true h0] at hz
            have HN : Hid (top (sr m l) j = top (sr m l) k) := by
              show _ = _
              rw [← top_zero h0]; exact HT.out
            clear HT h0 hb
            go_wp2_with fail
            go_roundg j
            case measure => have := HG2.out; omega
            case rel => exact ⟨j, rfl, by omega, rfl, HN.out, rfl⟩
          · rw [decide_eq_false h0] at hz
            have HN : Hid (j + 1 = top (sr m l) k) := by
              show _ = _
              rw [← HT.out, top_some h0]
            have HF : Hid (ROut m w wr (some ⟨bb, off, none⟩) (j + 1) cv (sr m l)) :=
              ⟨HR.out.take (j + 1) hj |> fun h => by rwa [nums_take _ hj] at h, by have := top_bd HBn.out; rwa [← HN.out] at this, top_some h0, HFr.out⟩
            clear HT h0 hb
            go_wp2_with fail
            go_ret
            exact ⟨_, _, _, rfl, HF.out, HBB.out⟩
theorem ROut.len {w0 w : World} {a : Option Addr} {n cap k : Nat} {p : Ser (El m)} (h : ROut m w0 w a n cap p) (hb : Bd p k) : n = Pl.top p k := h.top.symm.trans (top_same h.bd hb)
end
end Go.Proofs.YtgfaaaeechgjmaaDoor.Pl
