/- shaleref.Ints: a copy of ints. By the verifier of shale. -/
import Derived.Test.YtgfaaaeechgjmaaDoorPolyFrom
namespace Go.Proofs.YtgfaaaeechgjmaaDoor.Pl
open Go Go.RowKit Fld Bits16
set_option linter.unusedVariables false
theorem take_snoc (l : List Int) (i : Nat) (hi : i < l.length) : l.take (i + 1) = l.take i ++ [l.getD i 0] := by
  rw [List.take_add_one, List.getD_eq_getElem?_getD, List.getElem?_eq_getElem hi]; rfl
set_option maxRecDepth 100000 in
set_option maxHeartbeats 1000000 in
theorem ints_any (a : Option Addr) (n cap : Nat) (l : List Int) (w : World) (h : RowZ w a n cap l) (hn : n ≤ 100000) :
    Calls Tryd.prog 34 #[.slice a n cap] w
      fun e w' => ∃ a' c', e = .returned (.slice a' n c') ∧ Own64 w' w.heap.size (.slice a' n c') n l ∧ Below w.heap.size w w' := by
  obtain ⟨i0, hi, hz0, hz1, hz2⟩ := info64
  have HP := Lib.hid h
  have HL := Lib.hid h.hlen
  clear h
  go_enter Tryd.func34, Tryd.ntmps34
  have hmk := madeCap w 0 n (by omega) (by omega)
  rw [show ((0 : Nat) : Int) = 0 from rfl] at hmk
  go_wp2_with fail
  clear hmk
  have HO0 : Own64 (w.alloc (obj64 (List.replicate n 0))) w.heap.size (.slice (some ⟨w.heap.size, 0, none⟩) 0 n) 0 [] :=
    ⟨rfl, Or.inr ⟨w.heap.size, n, (cells64 (List.replicate n 0)).toArray, rfl, Nat.le_refl _, heap_alloc_new w _, Nat.zero_le _, by unfold maxLen; omega, by simp [cells64_length], rfl⟩⟩
  have HB0 : Below w.heap.size w (w.alloc (obj64 (List.replicate n 0))) := (Below.refl _ _).alloc (Nat.le_refl _) _
  generalize w.alloc (obj64 (List.replicate n 0)) = w1 at HO0 HB0 ⊢
  go_loopg [3, 4] n (fun gh s3 s4 wx => ∃ (i : Nat), gh = n - i ∧ i ≤ n ∧ s4 = .int .i64 (i : Int) ∧ Own64 wx w.heap.size s3 i (l.take i) ∧ Below w.heap.size w wx)
  case atStart => exact ⟨0, rfl, Nat.zero_le _, rfl, HO0, HB0⟩
  case round =>
    clear HO0 HB0
    obtain ⟨i, hg, hin, rfl, ho5, hB5⟩ := hrel
    have HG := Lib.hid hg
    clear hg
    obtain ⟨av, cv, rfl⟩ := own_slice ho5
    have hbs := hB5.size
    by_cases hlt : i < n
    · have x1 : (i : Int) < (n : Int) := by omega
      have x0 : (0 : Int) ≤ (i : Int) := by omega
      obtain ⟨bb, off, rfl, c1, _⟩ := (HP.out.below hB5).row i hlt
      have HF : Hid (l.take (i + 1) = l.take i ++ [l.getD i 0]) := take_snoc l i (by rw [← HL.out]; exact hlt)
      generalize l.getD i 0 = z at c1 HF
      go_wp2_with (at_builtin; refine wpList_append_own _ rfl _ _ 22 rfl w.heap.size 3 i0 (.int .i64 0) 1 8 Tryd.underlying22 hi hz0 hz1 hz2 rfl (by decide) _ i _ rfl (World.ownsRow.alloc ho5 _) ⟨wr.heap.size, 0, none⟩ 1 1 [.int .i64 z] rfl rfl (cell_one_new _ _ _) (ints_oneCell .i64 [_]) (by unfold maxLen; omega) (by omega) (by simp; omega) ?_; intro v7 w7 hown7 hgrow _)
      have ho7 : Own64 w7 w.heap.size v7 (i + 1) (l.take (i + 1)) := by
        unfold Own64
        rw [HF.out, ← cells64_append]
        exact hown7
      have b7 : Below w.heap.size w w7 := (hB5.alloc hbs _).grown hgrow (by simp; omega) (fun g hg => (ho5.block g hg).1)
      clear hown7 hgrow ho5 hB5
      go_wp2_with fail
      go_roundg (n - (i + 1))
      case measure => have := HG.out; omega
      case rel => exact ⟨i + 1, rfl, by omega, by go_num, ho7, b7⟩
    · obtain rfl : i = n := by omega
      rw [List.take_of_length_le (by rw [← HL.out]; exact Nat.le_refl _)] at ho5
      have HO := Lib.hid ho5
      clear ho5
      go_wp2_with fail
      go_ret
      exact ⟨av, cv, rfl, HO.out, hB5⟩
end Go.Proofs.YtgfaaaeechgjmaaDoor.Pl
