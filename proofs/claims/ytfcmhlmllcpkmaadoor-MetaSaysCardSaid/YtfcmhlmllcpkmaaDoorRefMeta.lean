/- shaleref13's records: may it be one, newer, alive, four bytes behind others. By the verifier of shale. -/
import Derived.Test.YtfcmhlmllcpkmaaDoorMetaNewer
import Derived.Test.YtfcmhlmllcpkmaaDoorOwn8
import Derived.Test.YtfcmhlmllcpkmaaDoorRefOf
namespace Go.Proofs.YtfcmhlmllcpkmaaDoor.Meta
open Go Go.RowKit Crc
set_option linter.unusedVariables false
def cnt (n : Int) : Bool := decide (0 ≤ n ∧ n ≤ 1073741824)
set_option maxHeartbeats 400000 in
theorem count_any (n : Int) (w : World) : Calls Tryd.prog 27 #[.int .i64 n] w fun e w' => e = .returned (.bool (cnt n)) ∧ w = w' := by
  have cs : (decide (0 ≤ n) = false ∧ cnt n = false) ∨ (decide (0 ≤ n) = true ∧ cnt n = decide (n ≤ 1073741824)) := by
    unfold cnt
    by_cases h : 0 ≤ n
    · right; exact ⟨decide_eq_true h, by simp [h]⟩
    · left; exact ⟨decide_eq_false h, by simp [h]⟩
  rcases cs with ⟨h, hc⟩ | ⟨h, hc⟩
  all_goals
    have HC := Lib.hid hc
    clear hc
    go_enter Tryd.func27, Tryd.ntmps27
    go_wp2
    go_ret
    exact ⟨by rw [HC.out]; rfl, rfl⟩
set_option maxRecDepth 100000 in
set_option maxHeartbeats 2000000 in
theorem rmay_any (m : M6) (w : World) : Calls Tryd.prog 14 #[metaV m] w fun e w' => e = .returned (.bool (decide (May m))) ∧ Below w.heap.size w w' := by
  have HL := Lib.hid (And.intro (rec_new w m 23) ((Below.refl w.heap.size w).alloc (Nat.le_refl _) (.cells #[.int .i64 (fld m 0), .int .i64 (fld m 1), .int .i64 (fld m 2), .int .i64 (fld m 3), .int .i64 (fld m 4), .int .i64 (fld m 5)] 23)))
  have no : ∀ i, i < 6 → cnt (fld m i) = false → decide (May m) = false := by
    intro i hi h
    rw [decide_eq_false_iff_not]
    intro g
    unfold cnt at h
    rw [decide_eq_false_iff_not] at h
    exact h (g.1 i hi)
  have cs : (decide (1 ≤ fld m 0) = false ∧ decide (May m) = false) ∨ (decide (1 ≤ fld m 0) = true ∧ decide (fld m 0 ≤ 6) = false ∧ decide (May m) = false) ∨
      (decide (1 ≤ fld m 0) = true ∧ decide (fld m 0 ≤ 6) = true ∧ cnt (fld m 1) = false ∧ decide (May m) = false) ∨
      (decide (1 ≤ fld m 0) = true ∧ decide (fld m 0 ≤ 6) = true ∧ cnt (fld m 1) = true ∧ cnt (fld m 2) = false ∧ decide (May m) = false) ∨
      (decide (1 ≤ fld m 0) = true ∧ decide (fld m 0 ≤ 6) = true ∧ cnt (fld m 1) = true ∧ cnt (fld m 2) = true ∧ cnt (fld m 3) = false ∧ decide (May m) = false) ∨
      (decide (1 ≤ fld m 0) = true ∧ decide (fld m 0 ≤ 6) = true ∧ cnt (fld m 1) = true ∧ cnt (fld m 2) = true ∧ cnt (fld m 3) = true ∧ cnt (fld m 4) = false ∧ decide (May m) = false) ∨
      (decide (1 ≤ fld m 0) = true ∧ decide (fld m 0 ≤ 6) = true ∧ cnt (fld m 1) = true ∧ cnt (fld m 2) = true ∧ cnt (fld m 3) = true ∧ cnt (fld m 4) = true ∧ cnt (fld m 5) = decide (May m)) := by
    by_cases k1 : 1 ≤ fld m 0
    · by_cases k2 : fld m 0 ≤ 6
      · have d1 := decide_eq_true k1
        have d2 := decide_eq_true k2
        rcases Bool.eq_false_or_eq_true (cnt (fld m 1)) with e1 | e1
        · rcases Bool.eq_false_or_eq_true (cnt (fld m 2)) with e2 | e2
          · rcases Bool.eq_false_or_eq_true (cnt (fld m 3)) with e3 | e3
            · rcases Bool.eq_false_or_eq_true (cnt (fld m 4)) with e4 | e4
              · refine Or.inr (Or.inr (Or.inr (Or.inr (Or.inr (Or.inr ⟨d1, d2, e1, e2, e3, e4, ?_⟩)))))
                rcases Bool.eq_false_or_eq_true (cnt (fld m 5)) with e5 | e5
                · rw [e5]
                  symm
                  rw [decide_eq_true_eq]
                  unfold cnt at e1 e2 e3 e4 e5
                  rw [decide_eq_true_eq] at e1 e2 e3 e4 e5
                  refine ⟨?_, k1, k2⟩
                  intro i hi
                  rcases (by omega : i = 0 ∨ i = 1 ∨ i = 2 ∨ i = 3 ∨ i = 4 ∨ i = 5) with rfl | rfl | rfl | rfl | rfl | rfl
                  · exact ⟨by omega, by omega⟩
                  all_goals assumption
                · rw [e5, no 5 (by omega) e5]
              · exact Or.inr (Or.inr (Or.inr (Or.inr (Or.inr (Or.inl ⟨d1, d2, e1, e2, e3, e4, no 4 (by omega) e4⟩)))))
            · exact Or.inr (Or.inr (Or.inr (Or.inr (Or.inl ⟨d1, d2, e1, e2, e3, no 3 (by omega) e3⟩))))
          · exact Or.inr (Or.inr (Or.inr (Or.inl ⟨d1, d2, e1, e2, no 2 (by omega) e2⟩)))
        · exact Or.inr (Or.inr (Or.inl ⟨d1, d2, e1, no 1 (by omega) e1⟩))
      · exact Or.inr (Or.inl ⟨decide_eq_true k1, decide_eq_false k2, decide_eq_false fun g => k2 g.2.2⟩)
    · exact Or.inl ⟨decide_eq_false k1, decide_eq_false fun g => k1 g.2.1⟩
  clear no
  go_enter Tryd.func14, Tryd.ntmps14
  go_upto_region 1 with (fail)
  obtain ⟨h1, B⟩ := HL.out
  clear HL
  generalize w.alloc (.cells #[.int .i64 (fld m 0), .int .i64 (fld m 1), .int .i64 (fld m 2), .int .i64 (fld m 3), .int .i64 (fld m 4), .int .i64 (fld m 5)] 23) = w1 at h1 B ⊢
  have c0 := h1.cell 0 (by omega); have c1 := h1.cell 1 (by omega); have c2 := h1.cell 2 (by omega); have c3 := h1.cell 3 (by omega); have c4 := h1.cell 4 (by omega); have c5 := h1.cell 5 (by omega)
  rcases cs with ⟨o0, o⟩ | ⟨o0, o1, o⟩ | ⟨o0, o1, o2, o⟩ | ⟨o0, o1, o2, o3, o⟩ | ⟨o0, o1, o2, o3, o4, o⟩ | ⟨o0, o1, o2, o3, o4, o5, o⟩ | ⟨o0, o1, o2, o3, o4, o5, o⟩
  all_goals
    have HO := Lib.hid o
    clear o
    go_wp2_with (go_at_call 27; (with_reducible refine (count_any _ _).mono ?_); rintro e w' ⟨rfl, rfl⟩)
    go_ret
    exact ⟨ret_bool (by rw [HO.out]), B⟩
set_option maxRecDepth 100000 in
set_option maxHeartbeats 1000000 in
theorem rnewer_any (a b : M6) (w : World) : Calls Tryd.prog 19 #[metaV a, metaV b] w fun e w' => e = .returned (.bool (newer a b)) ∧ Below w.heap.size w w' := by
  obtain ⟨h1, h2, B⟩ := rec_two w a b
  have HL := Lib.hid (And.intro h1 (And.intro h2 B))
  clear h1 h2 B
  have cases3 : (fld b 2 < fld a 2 ∧ newer a b = true) ∨ (fld a 2 < fld b 2 ∧ newer a b = false) ∨ (fld a 2 = fld b 2 ∧ newer a b = decide (fld a 3 < fld b 3)) := by
    unfold newer
    show (b.seq < a.seq ∧ _) ∨ (a.seq < b.seq ∧ _) ∨ (a.seq = b.seq ∧ _ = decide (a.stamp < b.stamp))
    by_cases h : b.seq < a.seq
    · exact Or.inl ⟨h, by simp [h]⟩
    · by_cases h' : a.seq = b.seq
      · exact Or.inr (Or.inr ⟨h', by simp [h']⟩)
      · exact Or.inr (Or.inl ⟨by omega, by simp [h, h']⟩)
  go_enter Tryd.func19, Tryd.ntmps19
  go_upto_region 1 with (fail)
  obtain ⟨h1, h2, B⟩ := HL.out
  clear HL
  generalize (w.alloc (.cells #[.int .i64 (fld a 0), .int .i64 (fld a 1), .int .i64 (fld a 2), .int .i64 (fld a 3), .int .i64 (fld a 4), .int .i64 (fld a 5)] 23)).alloc (.cells #[.int .i64 (fld b 0), .int .i64 (fld b 1), .int .i64 (fld b 2), .int .i64 (fld b 3), .int .i64 (fld b 4), .int .i64 (fld b 5)] 23) = w1 at h1 h2 B ⊢
  have c2 := h1.cell 2 (by omega); have c3 := h1.cell 3 (by omega); have d2 := h2.cell 2 (by omega); have d3 := h2.cell 3 (by omega)
  rcases cases3 with ⟨o, hn⟩ | ⟨o, hn⟩ | ⟨o, hn⟩
  all_goals
    have HO := Lib.hid hn
    clear hn
  · have p1 : ¬ fld a 2 = fld b 2 := by omega
    go_wp2_with fail
    go_ret
    exact ⟨ret_bool HO.out.symm, B⟩
  · have p1 : (fld a 2 == fld b 2) = false := by rw [beq_eq_false_iff_ne]; omega
    have p2 : decide (fld b 2 < fld a 2) = false := decide_eq_false (by omega)
    go_wp2_with fail
    go_ret
    exact ⟨ret_bool HO.out.symm, B⟩
  · rw [← o] at d2
    have p2 : decide (fld a 2 < fld a 2) = false := decide_eq_false (by omega)
    clear o
    go_wp2_with fail
    go_ret
    exact ⟨ret_bool (by rw [HO.out]), B⟩
set_option maxRecDepth 100000 in
set_option maxHeartbeats 1000000 in
theorem ralive_any (a : M6) (fl : Int) (w : World) : Calls Tryd.prog 21 #[metaV a, .int .i64 fl] w fun e w' => e = .returned (.bool (alive a fl)) ∧ Below w.heap.size w w' := by
  have HL := Lib.hid (And.intro (rec_new w a 23) ((Below.refl w.heap.size w).alloc (Nat.le_refl _) (.cells #[.int .i64 (fld a 0), .int .i64 (fld a 1), .int .i64 (fld a 2), .int .i64 (fld a 3), .int .i64 (fld a 4), .int .i64 (fld a 5)] 23)))
  have cases2 : (fld a 4 = 0 ∧ alive a fl = true) ∨ (fld a 4 ≠ 0 ∧ alive a fl = decide (fld a 4 ≤ fl)) := by
    unfold alive
    show (a.batch = 0 ∧ _) ∨ (a.batch ≠ 0 ∧ _ = decide (a.batch ≤ fl))
    by_cases h : a.batch = 0
    · exact Or.inl ⟨h, by simp [h]⟩
    · exact Or.inr ⟨h, by simp [h]⟩
  go_enter Tryd.func21, Tryd.ntmps21
  go_upto_region 1 with (fail)
  obtain ⟨h1, B⟩ := HL.out
  clear HL
  generalize w.alloc (.cells #[.int .i64 (fld a 0), .int .i64 (fld a 1), .int .i64 (fld a 2), .int .i64 (fld a 3), .int .i64 (fld a 4), .int .i64 (fld a 5)] 23) = w1 at h1 B ⊢
  have c4 := h1.cell 4 (by omega)
  rcases cases2 with ⟨o, hn⟩ | ⟨o, hn⟩
  · have HO := Lib.hid hn
    rw [o] at c4
    clear hn o
    go_wp2_with fail
    go_ret
    exact ⟨ret_bool HO.out.symm, B⟩
  · have HO := Lib.hid hn
    have p1 : (fld a 4 == 0) = false := by rw [beq_eq_false_iff_ne]; exact o
    clear hn o
    go_wp2_with fail
    go_ret
    exact ⟨ret_bool HO.out.symm, B⟩
end Go.Proofs.YtfcmhlmllcpkmaaDoor.Meta
