/- The statements' own polynomials (shaleref2): Derive, Roots. By the verifier of shale. -/
import Derived.Test.YtgfaaaeechgjmaaDoorRefTimes
namespace Go.Proofs.YtgfaaaeechgjmaaDoor.Pl
open Go Go.RowKit Fld Bits16
set_option linter.unusedVariables false
section
variable {m : Nat} [M : Mid m]
/-- the first n numbers of a function. -/
def fnN (f : Nat → Int) (n : Nat) : List Int := (List.range n).map f
omit M in
theorem fnN_succ (f : Nat → Int) (n : Nat) : fnN f (n + 1) = fnN f n ++ [f n] := by unfold fnN; rw [List.range_succ, List.map_append]; rfl
omit M in
theorem fnN_getD (f : Nat → Int) (n i : Nat) : (fnN f n).getD i 0 = if i < n then f i else 0 := by
  unfold fnN
  rw [List.getD_eq_getElem?_getD]
  by_cases h : i < n
  · rw [if_pos h]; simp [h]
  · rw [if_neg h, List.getElem?_eq_none (by simp; omega)]; rfl
/-- the numbers of a derivative, as they stand in a list. -/
def derN (l : List Int) (i : Nat) : Int := if (i + 1) % 2 = 1 then l.getD (i + 1) 0 else 0
theorem sr_der (l : List Int) (k : Nat) (h : l.length ≤ k + 1) : sr m (fnN (derN l) k) = der (sr m l) := by
  funext i
  show elm m ((fnN (derN l) k).getD i 0) = if i % 2 = 0 then elm m (l.getD (i + 1) 0) else 0
  rw [fnN_getD]
  unfold derN
  by_cases h2 : i % 2 = 0
  · rw [if_pos h2]
    by_cases hi : i < k
    · rw [if_pos hi, if_pos (by omega)]
    · rw [if_neg hi, List.getD_eq_getElem?_getD, List.getElem?_eq_none (by omega)]; rfl
  · rw [if_neg h2]
    by_cases hi : i < k
    · rw [if_pos hi, if_neg (by omega), elm_zero]
    · rw [if_neg hi, elm_zero]
set_option maxRecDepth 100000 in
set_option maxHeartbeats 1000000 in
theorem rder_any (a : Option Addr) (n cap : Nat) (l : List Int) (w : World) (h : RowZ w a n cap l) (hn : n ≤ 100000) :
    Calls Tryd.prog 23 #[.int .i64 (m : Int), .slice a n cap] w
      fun e w' => ∃ a' n' cap', e = .returned (.slice a' n' cap') ∧ ROut m w w' a' n' cap' (der (sr m l)) ∧ Below w.heap.size w w' := by
  obtain ⟨i0, hi, hz0, hz1, hz2⟩ := info64
  have HP := Lib.hid h
  clear h
  go_enter Tryd.func23, Tryd.ntmps23
  go_wp2_with fail
  go_loopg [5, 6] n (fun gh s5 s6 wx => ∃ (k : Nat), gh = n - k ∧ (k + 1 ≤ n ∨ k = 0) ∧ s6 = .int .i64 ((k : Int) + 1) ∧ Own64 wx w.heap.size s5 k (fnN (derN l) k) ∧ Below w.heap.size w wx)
  case atStart => exact ⟨0, rfl, Or.inr rfl, rfl, Own64.nil w w.heap.size, Below.refl _ _⟩
  case round =>
    obtain ⟨k, hg, hkn, rfl, hown, hB⟩ := hrel
    have HG := Lib.hid hg
    have HKN := Lib.hid hkn
    clear hg hkn
    obtain ⟨av, cv, rfl⟩ := own_slice hown
    by_cases hlt : k + 1 < n
    · have x0 : (0 : Int) ≤ (k : Int) + 1 := by omega
      have x1 : (k : Int) + 1 < (n : Int) := by omega
      obtain ⟨bb, off, rfl, c1, hb⟩ := (HP.out.below hB).row (k + 1) hlt
      have hbs := hB.size
      have HOwn := Lib.hid hown
      have HBB := Lib.hid hB
      have HF : Hid (fnN (derN l) (k + 1) = fnN (derN l) k ++ [derN l k]) := fnN_succ _ _
      clear hown hB hb
      by_cases hodd : (k + 1) % 2 = 1
      · have t1 : (((k : Int) + 1) % 2 == 1) = true := by rw [beq_iff_eq]; omega
        have HV : Hid (l.getD (k + 1) 0 = derN l k) := by show _ = _; unfold derN; rw [if_pos hodd]
        generalize l.getD (k + 1) 0 = z1 at c1 HV
        clear hodd
        go_wp2_with (at_builtin; refine wpList_append_own _ rfl _ _ 22 rfl w.heap.size 3 i0 (.int .i64 0) 1 8 Tryd.underlying22 hi hz0 hz1 hz2 rfl (by decide) _ k _ rfl (World.ownsRow.alloc HOwn.out _) ⟨wr.heap.size, 0, none⟩ 1 1 [.int .i64 z1] rfl rfl (cell_one_new _ _ _) (ints_oneCell .i64 [_]) (by unfold maxLen; omega) (by omega) (by simp; omega) ?_; intro v7 w7 hown7 hgrow _)
        have ho7 : Own64 w7 w.heap.size v7 (k + 1) (fnN (derN l) (k + 1)) := by
          unfold Own64
          rw [HF.out, ← HV.out, ← cells64_append]
          exact hown7
        have b7 : Below w.heap.size w w7 := (HBB.out.alloc hbs _).grown hgrow (by simp; omega) (fun g hg => (HOwn.out.block g hg).1)
        clear hown7 hgrow c1 t1
        go_wp2_with fail
        go_roundg (n - (k + 1))
        case measure => have := HG.out; omega
        case rel => exact ⟨k + 1, rfl, Or.inl (by omega), by go_num, ho7, b7⟩
      · have t1 : (((k : Int) + 1) % 2 == 1) = false := by rw [beq_eq_false_iff_ne]; omega
        have HV : Hid (0 = derN l k) := by show _ = _; unfold derN; rw [if_neg hodd]
        clear hodd
        go_wp2_with (at_builtin; refine wpList_append_own _ rfl _ _ 22 rfl w.heap.size 3 i0 (.int .i64 0) 1 8 Tryd.underlying22 hi hz0 hz1 hz2 rfl (by decide) _ k _ rfl (World.ownsRow.alloc HOwn.out _) ⟨wr.heap.size, 0, none⟩ 1 1 [.int .i64 0] rfl rfl (cell_one_new _ _ _) (ints_oneCell .i64 [_]) (by unfold maxLen; omega) (by omega) (by simp; omega) ?_; intro v7 w7 hown7 hgrow _)
        have ho7 : Own64 w7 w.heap.size v7 (k + 1) (fnN (derN l) (k + 1)) := by
          unfold Own64
          rw [HF.out, ← HV.out, ← cells64_append]
          exact hown7
        have b7 : Below w.heap.size w w7 := (HBB.out.alloc hbs _).grown hgrow (by simp; omega) (fun g hg => (HOwn.out.block g hg).1)
        clear hown7 hgrow c1 t1
        go_wp2_with fail
        go_roundg (n - (k + 1))
        case measure => have := HG.out; omega
        case rel => exact ⟨k + 1, rfl, Or.inl (by omega), by go_num, ho7, b7⟩
    · have hkn : k ≤ n := by have := HKN.out; omega
      have x1 : ¬ (k : Int) + 1 < (n : Int) := by omega
      have HS : Hid (sr m (fnN (derN l) k) = der (sr m l)) := sr_der l k (by have := HP.out.hlen; omega)
      obtain ⟨hrow, _⟩ := own_rowz hown
      have HRow := Lib.hid hrow
      have HBw := Lib.hid hB
      clear hown hrow hB
      go_wp2_with fail
      refine (rtrim_any (m := m) _ k _ _ wr HRow.out (by omega)).mono ?_
      rintro e w5 ⟨a', n', cap', rfl, hO, hb⟩
      rw [HS.out] at hO
      have HO := Lib.hid (hO.from HBw.out.size)
      have HB5 := Lib.hid (HBw.out.trans (hb.mono HBw.out.size))
      clear hO hb
      go_wp2_with fail
      go_ret
      exact ⟨_, _, _, rfl, HO.out, HB5.out⟩
end
end Go.Proofs.YtgfaaaeechgjmaaDoor.Pl
