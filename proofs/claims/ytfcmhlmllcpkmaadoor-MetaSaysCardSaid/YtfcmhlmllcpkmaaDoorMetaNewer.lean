/- The walks over package meta's Newer and Alive. By the verifier of shale. -/
import Derived.Test.YtfcmhlmllcpkmaaDoorMetaMay
import Derived.Deep.Cut
namespace Go.Proofs.YtfcmhlmllcpkmaaDoor.Meta
open Go Go.RowKit Crc
set_option linter.unusedVariables false
/-- is a newer than b? -/
def newer (a b : M6) : Bool := decide (b.seq < a.seq ∨ (a.seq = b.seq ∧ a.stamp < b.stamp))
def alive (a : M6) (fl : Int) : Bool := decide (a.batch = 0 ∨ a.batch ≤ fl)
theorem rec_new (w : World) (m : M6) (t : TypeId) : RecAt (w.alloc (.cells #[.int .i64 (fld m 0), .int .i64 (fld m 1), .int .i64 (fld m 2), .int .i64 (fld m 3), .int .i64 (fld m 4), .int .i64 (fld m 5)] t)) w.heap.size m t := heap_alloc_new w _
theorem rec_two (w : World) (a b : M6) : RecAt ((w.alloc (.cells #[.int .i64 (fld a 0), .int .i64 (fld a 1), .int .i64 (fld a 2), .int .i64 (fld a 3), .int .i64 (fld a 4), .int .i64 (fld a 5)] 23)).alloc (.cells #[.int .i64 (fld b 0), .int .i64 (fld b 1), .int .i64 (fld b 2), .int .i64 (fld b 3), .int .i64 (fld b 4), .int .i64 (fld b 5)] 23)) w.heap.size a 23 ∧
    RecAt ((w.alloc (.cells #[.int .i64 (fld a 0), .int .i64 (fld a 1), .int .i64 (fld a 2), .int .i64 (fld a 3), .int .i64 (fld a 4), .int .i64 (fld a 5)] 23)).alloc (.cells #[.int .i64 (fld b 0), .int .i64 (fld b 1), .int .i64 (fld b 2), .int .i64 (fld b 3), .int .i64 (fld b 4), .int .i64 (fld b 5)] 23)) (w.heap.size + 1) b 23 ∧
    Below w.heap.size w ((w.alloc (.cells #[.int .i64 (fld a 0), .int .i64 (fld a 1), .int .i64 (fld a 2), .int .i64 (fld a 3), .int .i64 (fld a 4), .int .i64 (fld a 5)] 23)).alloc (.cells #[.int .i64 (fld b 0), .int .i64 (fld b 1), .int .i64 (fld b 2), .int .i64 (fld b 3), .int .i64 (fld b 4), .int .i64 (fld b 5)] 23)) := by
  refine ⟨(Below.heap_alloc _ _ _ (by simp)).trans (heap_alloc_new w _), ?_, ((Below.refl _ _).alloc (Nat.le_refl _) _).alloc (by simp) _⟩
  have := rec_new (w.alloc (.cells #[.int .i64 (fld a 0), .int .i64 (fld a 1), .int .i64 (fld a 2), .int .i64 (fld a 3), .int .i64 (fld a 4), .int .i64 (fld a 5)] 23)) b 23
  rwa [World.size_alloc] at this
set_option maxRecDepth 100000 in
set_option maxHeartbeats 1000000 in
theorem newer_any (a b : M6) (w : World) : Calls Tryd.prog 18 #[metaV a, metaV b] w fun e w' => e = .returned (.bool (newer a b)) ∧ Below w.heap.size w w' := by
  obtain ⟨h1, h2, B⟩ := rec_two w a b
  have HL := Lib.hid (And.intro h1 (And.intro h2 B))
  clear h1 h2 B
  have cases3 : (fld b 2 < fld a 2 ∧ newer a b = true) ∨ (fld a 2 < fld b 2 ∧ newer a b = false) ∨ (fld a 2 = fld b 2 ∧ newer a b = decide (fld a 3 < fld b 3)) := by
    unfold newer
    show (b.seq < a.seq ∧ _) ∨ (a.seq < b.seq ∧ _) ∨ (a.seq = b.seq ∧ _ = decide (a.stamp < b.stamp))
    by_cases h : b.seq < a.seq
    · exact Or.inl ⟨h, by simp [h]⟩
    · by_cases h' : a.seq = b.seq
      · exact Or.inr (Or.inr ⟨h', by simp [h']⟩)
      · exact Or.inr (Or.inl ⟨by omega, by simp [h, h']⟩)
  go_enter Tryd.func18, Tryd.ntmps18
  go_upto_region 1 with (fail)
  obtain ⟨h1, h2, B⟩ := HL.out
  clear HL
  generalize (w.alloc (.cells #[.int .i64 (fld a 0), .int .i64 (fld a 1), .int .i64 (fld a 2), .int .i64 (fld a 3), .int .i64 (fld a 4), .int .i64 (fld a 5)] 23)).alloc (.cells #[.int .i64 (fld b 0), .int .i64 (fld b 1), .int .i64 (fld b 2), .int .i64 (fld b 3), .int .i64 (fld b 4), .int .i64 (fld b 5)] 23) = w1 at h1 h2 B ⊢
  have c2 := h1.cell 2 (by omega); have c3 := h1.cell 3 (by omega); have d2 := h2.cell 2 (by omega); have d3 := h2.cell 3 (by omega)
  rcases cases3 with ⟨o, hn⟩ | ⟨o, hn⟩ | ⟨o, hn⟩
  all_goals
    have HO := Lib.hid hn
    clear hn
    have o1 : ¬ (fld a 2 = fld b 2) ∨ fld a 2 = fld b 2 := by omega
  · have p1 : ¬ fld a 2 = fld b 2 := by omega
    clear o1
    go_wp2_with fail
    go_ret
    exact ⟨ret_bool HO.out.symm, B⟩
  · have p1 : (fld a 2 == fld b 2) = false := by rw [beq_eq_false_iff_ne]; omega
    have p2 : decide (fld b 2 < fld a 2) = false := decide_eq_false (by omega)
    clear o1
    go_wp2_with fail
    go_ret
    exact ⟨ret_bool HO.out.symm, B⟩
  · clear o1
    rw [← o] at d2
    have p2 : decide (fld a 2 < fld a 2) = false := decide_eq_false (by omega)
    clear o
    go_wp2_with fail
    go_ret
    exact ⟨ret_bool (by rw [HO.out]), B⟩
set_option maxRecDepth 100000 in
set_option maxHeartbeats 1000000 in
theorem alive_any (a : M6) (fl : Int) (w : World) : Calls Tryd.prog 20 #[metaV a, .int .i64 fl] w fun e w' => e = .returned (.bool (alive a fl)) ∧ Below w.heap.size w w' := by
  have HL := Lib.hid (And.intro (rec_new w a 23) ((Below.refl w.heap.size w).alloc (Nat.le_refl _) (.cells #[.int .i64 (fld a 0), .int .i64 (fld a 1), .int .i64 (fld a 2), .int .i64 (fld a 3), .int .i64 (fld a 4), .int .i64 (fld a 5)] 23)))
  have cases2 : (fld a 4 = 0 ∧ alive a fl = true) ∨ (fld a 4 ≠ 0 ∧ alive a fl = decide (fld a 4 ≤ fl)) := by
    unfold alive
    show (a.batch = 0 ∧ _) ∨ (a.batch ≠ 0 ∧ _ = decide (a.batch ≤ fl))
    by_cases h : a.batch = 0
    · exact Or.inl ⟨h, by simp [h]⟩
    · exact Or.inr ⟨h, by simp [h]⟩
  go_enter Tryd.func20, Tryd.ntmps20
  go_upto_region 1 with (fail)
  obtain ⟨h1, B⟩ := HL.out
  clear HL
  generalize w.alloc (.cells #[.int .i64 (fld a 0), .int .i64 (fld a 1), .int .i64 (fld a 2), .int .i64 (fld a 3), .int .i64 (fld a 4), .int .i64 (fld a 5)] 23) = w1 at h1 B ⊢
  have c4 := h1.cell 4 (by omega)
  rcases cases2 with ⟨o, hn⟩ | ⟨o, hn⟩
  · have HO := Lib.hid hn
    rw [o] at c4
    clear hn o
    go_wp2_with fail
    go_ret
    exact ⟨ret_bool HO.out.symm, B⟩
  · have HO := Lib.hid hn
    have p1 : (fld a 4 == 0) = false := by rw [beq_eq_false_iff_ne]; exact o
    clear hn o
    go_wp2_with fail
    go_ret
    exact ⟨ret_bool HO.out.symm, B⟩
end Go.Proofs.YtfcmhlmllcpkmaaDoor.Meta
