/- The walk over the maker of a field. By the verifier of shale. -/
import Derived.Test.YtgfaaaeechgjmaaDoorFldNew

import Derived.RangeFuncBox
namespace Go.Proofs.YtgfaaaeechgjmaaDoor.Fld
open Go Go.RowKit Bits16
set_option linter.unusedVariables false
theorem shl_one (m : Nat) (h2 : m ≤ 14) : wrap64 (2 ^ m) = (els m : Int) := by
  have := els_hi m h2
  have e : ((2 : Int) ^ m) = (els m : Int) := by unfold els; rw [Int.natCast_pow]; rfl
  rw [e]
  exact IntWalk.wrap64_in _ (by omega)
theorem stored {m k B : Nat} (h1 : 3 ≤ m) (h2 : m ≤ 14) (hlt : k < size m) {w1 w7 : World} {v v' : Value} (hown : Own64 w7 (B + 2) v' (k + 1) (exL m (k + 1)))
    (hstr : w7.heap[B + 1]? = some (.cells #[.int .i64 (m : Int), v, .slice (some ⟨B, 0, none⟩) (els m) (els m)] 67 (0, 0))) (hblk : Blk64 w7 B (lgL m k)) (hbel : Below B w1 w7) :
    Laying m B (k + 1) w1 ((w7.setCell ⟨B + 1, 1, none⟩ v').setCell ⟨B, (h (pw m k)).toNat, none⟩ (.int .i64 (k : Int))) v' := by
  refine ⟨(hown.set _ _ (by show B + 1 < B + 2; omega)).set _ _ (by show B < B + 2; omega), ?_, ?_, (hbel.setCell (p := ⟨B + 1, 1, none⟩) (by show B ≤ B + 1; omega) _).setCell (p := ⟨B, _, none⟩) (Nat.le_refl _) _⟩
  · exact (Below.heap_setCell _ _ _ _ (by show B + 1 ≠ B; omega)).trans (set1 hstr v')
  · rw [← lgL_set m h1 h2 k hlt]
    have hblk2 : Blk64 (w7.setCell ⟨B + 1, 1, none⟩ v') B (lgL m k) := (Below.heap_setCell _ _ _ _ (by show B ≠ B + 1; omega)).trans hblk
    exact hblk2.set _ _
/-- the maker's answer: a field, and no error. -/
def NewAt (m : Nat) (w : World) (e : Ending) (w' : World) : Prop := ∃ s be ce bl, e = .returned (.tuple #[.pointer (some ⟨s, 0, none⟩), .nilIface]) ∧ FldAt m w' s be ce bl ∧ Below w.heap.size w w'
theorem pushed {m k B g7 cap7 : Nat} (h1 : 3 ≤ m) (h2 : m ≤ 14) (hlt : k < size m) {w1 wr w7 : World} {v : Value} (hown : Own64 wr (B + 2) v k (exL m k))
    (hstr : wr.heap[B + 1]? = some (.cells #[.int .i64 (m : Int), v, .slice (some ⟨B, 0, none⟩) (els m) (els m)] 67 (0, 0))) (hblk : Blk64 wr B (lgL m k)) (hbel : Below B w1 wr) {o : Obj}
    (hown7 : w7.ownsRow (B + 2) 3 1 (.slice (some ⟨g7, 0, none⟩) (k + 1) cap7) (k + 1) (cells64 (exL m k) ++ [.int .i64 (h (pw m k))])) (hgrow : (wr.alloc o).grownBy w7 v.ownBlock) :
    Own64 w7 (B + 2) (.slice (some ⟨g7, 0, none⟩) (k + 1) cap7) (k + 1) (exL m (k + 1)) ∧
    w7.heap[B + 1]? = some (.cells #[.int .i64 (m : Int), v, .slice (some ⟨B, 0, none⟩) (els m) (els m)] 67 (0, 0)) ∧ Blk64 w7 B (lgL m k) ∧ Below B w1 w7 ∧
    w7.cell? ⟨B + 1, 0, none⟩ = some (.int .i64 (m : Int)) ∧ w7.cell? ⟨B + 1, 1, none⟩ = some v ∧ w7.cell? ⟨B + 1, 2, none⟩ = some (.slice (some ⟨B, 0, none⟩) (els m) (els m)) ∧ (∀ i, w7.frozen? ⟨B + 1, i, none⟩ = false) ∧
    w7.cell? ⟨B, (h (pw m k)).toNat, none⟩ = some (.int .i64 (nth64 (lgL m k) (h (pw m k)).toNat)) ∧ w7.frozen? ⟨B, (h (pw m k)).toNat, none⟩ = false := by
  have hsz := lt_of_block hstr
  have hbl7 : ∀ j, j < B + 2 → w7.heap[j]? = wr.heap[j]? := fun j hj => (hgrow.block j (by simp; omega) (fun e => by have := (hown.block j e.symm).1; omega)).trans (Below.heap_alloc wr o j (by omega))
  have b7 : Below B w1 w7 := (hbel.alloc (by omega) o).grown hgrow (by simp; omega) (fun g hg => by have := (hown.block g hg).1; omega)
  have hstr7 := (hbl7 (B + 1) (by omega)).trans hstr
  have hblk7 : Blk64 w7 B (lgL m k) := (hbl7 B (by omega)).trans hblk
  obtain ⟨d0, d1, d2, df⟩ := three_cells hstr7
  refine ⟨?_, hstr7, hblk7, b7, d0, d1, d2, df, ?_, hblk7.free _⟩
  · unfold Own64
    rw [exL_succ, ← cells64_append]; exact hown7
  · exact hblk7.cell (by rw [lgL_length]; have := (pw_ne m h1 h2 k).2; unfold h els; omega)
set_option maxRecDepth 100000 in
set_option maxHeartbeats 1000000 in
theorem new_any (m : Nat) (h1 : 3 ≤ m) (h2 : m ≤ 14) (w : World) :
    Calls Tryd.prog 35 #[.int .i64 (m : Int)] w (NewAt m w) := by
  obtain ⟨i0, hi, hz0, hz1, hz2⟩ := info64
  have hp : (h (poly m) == 0) = false := by
    have := (poly_in_range m h1 h2).1
    have := two_le m h1
    rw [beq_eq_false_iff_ne]; unfold h; omega
  have ho := shl_one m h2
  have hmk := fun w => made64 w (els m) (by have := els_hi m h2; omega)
  go_enter Tryd.func35, Tryd.ntmps35
  go_wp2_with fail
  refine (poly_in m h1 h2 w).mono ?_
  rintro e w1 ⟨rfl, b1⟩
  go_wp2_with fail
  have hst0 : Laying m w1.heap.size 0 w1 ((w1.alloc (obj64 (List.replicate (els m) 0))).alloc (.cells #[.int .i64 (m : Int), .slice none 0 0, .slice (some ⟨w1.heap.size, 0, none⟩) (els m) (els m)] 67 (0, 0))) (.slice none 0 0) := by
    refine ⟨Own64.nil _ _, ?_, ?_, ?_⟩
    · have := heap_alloc_new (w1.alloc (obj64 (List.replicate (els m) 0))) (.cells #[.int .i64 (m : Int), .slice none 0 0, .slice (some ⟨w1.heap.size, 0, none⟩) (els m) (els m)] 67 (0, 0))
      rwa [World.size_alloc] at this
    · rw [lgL_zero]
      exact (Below.heap_alloc _ _ _ (by simp)).trans (Blk64.new w1 _)
    · exact ((Below.refl _ _).alloc (Nat.le_refl _) _).alloc (by simp) _
  generalize (w1.alloc (obj64 (List.replicate (els m) 0))).alloc (.cells #[.int .i64 (m : Int), .slice none 0 0, .slice (some ⟨w1.heap.size, 0, none⟩) (els m) (els m)] 67 (0, 0)) = w2 at hst0 ⊢
  obtain ⟨B, hB⟩ : ∃ B, B = w1.heap.size := ⟨_, rfl⟩
  rw [← hB] at hst0 ⊢
  have HB := Lib.hid hB
  clear hB hmk ho
  have he1 := els_eq m
  have HE := Lib.hid he1
  have e1 := els_lo m h1
  have e2 := els_hi m h2
  have z1 := size_lo m h1
  have z2 : size m + 1 ≤ els m := by omega
  have z3 : els m ≤ size m + 1 := by omega
  clear he1
  go_loopg [6, 7] (size m) (fun g s6 s7 wx => ∃ k : Nat, k ≤ size m ∧ g = size m - k ∧ s7 = .int .i64 (k : Int) ∧ s6 = .int .i64 (h (pw m k)) ∧ ∃ v, Laying m B k w1 wx v)
  case atStart => exact ⟨0, Nat.zero_le _, rfl, rfl, rfl, _, hst0⟩
  case round =>
    obtain ⟨k, hk, hg, rfl, rfl, v, hown, hstr, hblk, hbel⟩ := hrel
    have HG := Lib.hid hg
    clear hg
    obtain ⟨c0, c1, c2, cf⟩ := three_cells hstr
    have y1 : (0 : Int) ≤ (k : Int) := by omega
    by_cases hlt : k < size m
    · have y2 : (k : Int) < (els m : Int) - 1 := by omega
      have hbs := hbel.size
      have hsz : B + 2 ≤ wr.heap.size := by
        have := lt_of_block hstr
        omega
      go_wp2_with (at_builtin; refine wpList_append_own _ rfl _ _ 22 rfl (B + 2) 3 i0 (.int .i64 0) 1 8 Tryd.underlying22 hi hz0 hz1 hz2 rfl (by decide) _ k _ rfl (World.ownsRow.alloc hown _) ⟨wr.heap.size, 0, none⟩ 1 1 [.int .i64 (h (pw m k))] rfl rfl (cell_one_new _ _ _) (ints_oneCell .i64 [_]) (by unfold maxLen; omega) (by omega) (by simp; omega) ?_; intro v7 w7 hown7 hgrow _; obtain ⟨g7, cap7, rfl⟩ := ownsRow_succ hown7; obtain ⟨hown8, hstr7, hblk7, b7, d0, d1, d2, df, d3, d4⟩ := pushed h1 h2 hlt hown hstr hblk hbel hown7 hgrow; have y3 := h_lo (pw m k); have y4 : Bits16.h (pw m k) < (els m : Int) := el_h_lt m h2 _ (pw_ne m h1 h2 k).2; clear hown7 hgrow c0 c1 c2 cf)
      have HS := Lib.hid (And.intro hstr7 hblk7)
      clear hstr7 hblk7
      have HW := Lib.hid (pw_succ m k)
      have hpl := (pw_ne m h1 h2 k).2
      have hp14 := pow14 m h2
      refine (double_any m h1 h2 (pw m k) (by omega) _).mono ?_
      rintro e w8 ⟨rfl, rfl⟩
      have hL := stored h1 h2 hlt hown8 HS.out.1 HS.out.2 b7
      clear d0 d1 d2 df d3 d4 b7 hbel hstr hblk hown hown8
      generalize (w7.setCell ⟨B + 1, 1, none⟩ (.slice (some ⟨g7, 0, none⟩) (k + 1) cap7)).setCell ⟨B, (h (pw m k)).toNat, none⟩ (.int .i64 (k : Int)) = w9 at hL ⊢
      go_wp2
      go_roundg (size m - (k + 1))
      case measure => have := HG.out; omega
      case rel => exact ⟨k + 1, by omega, rfl, by go_num, by rw [HW.out], _, hL⟩
    · obtain rfl : k = size m := by omega
      have y2 : ¬ ((size m : Int) < (els m : Int) - 1) := by omega
      obtain ⟨g, cap, rfl, hg1, hg2, hg3, hg4⟩ := hown.cells (by omega)
      have hF : FldAt m wr (B + 1) g cap B := by
        refine ⟨hstr, hg3, fun i hi => by rw [hg4 i hi, exL_at m _ i hi], fun x hx => ?_⟩
        rw [hblk.cell (by rw [lgL_length]; unfold h els; omega), lgL_at m h1 h2 x hx]
      have hb2 : Below w.heap.size w wr := b1.trans (hbel.mono (by rw [HB.out]; exact b1.size))
      clear hstr hblk hbel hown hg4
      go_wp2
      go_ret2
      exact ⟨B + 1, g, cap, B, rfl, hF, hb2⟩
end Go.Proofs.YtgfaaaeechgjmaaDoor.Fld
