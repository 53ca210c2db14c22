/- A buffer's small methods; where a key waits. By the verifier of shale. -/
import Derived.Test.YtabpfadbioalgaaDoorWtMem
import Derived.Deep.Cut
import Derived.BigQuiet
namespace Go.Proofs.YtabpfadbioalgaaDoor.Wt
open Go Go.RowKit Bin
set_option linter.unusedVariables false
set_option linter.unusedSimpArgs false
/-- a number within bounds. -/
def inB (n a b : Int) : Bool := decide (a ≤ n) && decide (n ≤ b)
theorem inB_iff {n a b : Int} : inB n a b = true ↔ a ≤ n ∧ n ≤ b := by unfold inB; simp
theorem inB_no {n a b : Int} (h : ¬ (a ≤ n ∧ n ≤ b)) : inB n a b = false := by
  cases hb : inB n a b
  · rfl
  · exact absurd (inB_iff.1 hb) h
set_option maxHeartbeats 400000 in
theorem in_any (n b : Int) (w : World) : Calls Tryd.prog 21 #[.int .i64 n, .int .i64 b] w fun e w' => e = .returned (.bool (inB n 1 b)) ∧ w = w' := by
  by_cases h1 : 1 ≤ n
  · have t1 : decide (1 ≤ n) = true := decide_eq_true h1
    by_cases h2 : n ≤ b
    · have t2 : decide (n ≤ b) = true := decide_eq_true h2
      have HE : Hid (inB n 1 b = true) := inB_iff.2 ⟨h1, h2⟩
      go_enter Tryd.func21, Tryd.ntmps21
      go_wp2_with fail
      go_ret
      rw [HE.out]
      exact ⟨rfl, rfl⟩
    · have t2 : decide (n ≤ b) = false := decide_eq_false h2
      have HE : Hid (inB n 1 b = false) := inB_no fun h => h2 h.2
      go_enter Tryd.func21, Tryd.ntmps21
      go_wp2_with fail
      go_ret
      rw [HE.out]
      exact ⟨rfl, rfl⟩
  · have t1 : decide (1 ≤ n) = false := decide_eq_false h1
    have HE : Hid (inB n 1 b = false) := inB_no fun h => h1 h.1
    go_enter Tryd.func21, Tryd.ntmps21
    go_wp2_with fail
    go_ret
    rw [HE.out]
    exact ⟨rfl, rfl⟩
/-- which measures may be. -/
def may (sz mo sc : Int) : Prop := (1 ≤ sz ∧ sz ≤ 1024) ∧ (1 ≤ mo ∧ mo ≤ 64) ∧ (1 ≤ sc ∧ sc ≤ 1073741824)
instance (sz mo sc : Int) : Decidable (may sz mo sc) := by unfold may; infer_instance
theorem newB (w : World) (sz mo sc : Int) : BufAt (w.alloc (.cells #[.int .i64 sz, .int .i64 mo, .int .i64 sc, .slice none 0 0] 58 (0, 0))) w.heap.size w.heap.size sz mo sc (.slice none 0 0) [] ∧ Below w.heap.size w (w.alloc (.cells #[.int .i64 sz, .int .i64 mo, .int .i64 sc, .slice none 0 0] 58 (0, 0))) :=
  ⟨⟨Nat.le_refl _, heap_alloc_new w _, World.ownsRow_nil _ _ _ _, (by simp [Value.ownBlock]), (fun e he => by cases he)⟩, (Below.refl _ _).alloc (Nat.le_refl _) _⟩
set_option maxHeartbeats 1000000 in
theorem new_yes (sz mo sc : Int) (h : may sz mo sc) (w : World) : Calls Tryd.prog 7 #[.int .i64 sz, .int .i64 mo, .int .i64 sc] w fun e w' => e = .returned (.tuple #[.pointer (some ⟨w.heap.size, 0, none⟩), .nilIface]) ∧ BufAt w' w.heap.size w.heap.size sz mo sc (.slice none 0 0) [] ∧ Below w.heap.size w w' := by
  have b0 : inB sz 1 1024 = true := inB_iff.2 h.1
  have b1 : inB mo 1 64 = true := inB_iff.2 h.2.1
  have b2 : inB sc 1 1073741824 = true := inB_iff.2 h.2.2
  have HN := Lib.hid (newB w sz mo sc)
  clear h
  go_enter Tryd.func7, Tryd.ntmps7
  go_wp2_with (go_at_call 21; (with_reducible refine (in_any _ _ _).mono ?_); rintro e w' ⟨rfl, rfl⟩)
  go_ret2
  exact ⟨rfl, HN.out⟩
set_option maxHeartbeats 1000000 in
theorem new_no (sz mo sc : Int) (h : ¬ may sz mo sc) (w : World) (y : Addr) (E : ErrAt w 0 y) : Calls Tryd.prog 7 #[.int .i64 sz, .int .i64 mo, .int .i64 sc] w fun e w' => e = .returned (.tuple #[.pointer none, errOf y]) ∧ Below w.heap.size w w' := by
  have q0 : w.cell? ⟨0, 0, none⟩ = some (errOf y) := E.1
  have HB : Hid (∀ nn, Below w.heap.size w (w.drewN nn)) := fun nn => (Drawn.mk w nn).below _
  clear E
  by_cases c0 : 1 ≤ sz ∧ sz ≤ 1024
  · have b0 : inB sz 1 1024 = true := inB_iff.2 c0
    by_cases c1 : 1 ≤ mo ∧ mo ≤ 64
    · have b1 : inB mo 1 64 = true := inB_iff.2 c1
      have b2 : inB sc 1 1073741824 = false := inB_no fun c2 => h ⟨c0, c1, c2⟩
      clear h c0 c1
      go_enter Tryd.func7, Tryd.ntmps7
      go_wp2_with (go_at_call 21; (with_reducible refine (in_any _ _ _).mono ?_); rintro e w' ⟨rfl, rfl⟩)
      go_quiet (fail)
      go_wp2_with fail
      go_ret2
      exact ⟨rfl, HB.out _⟩
    · have b1 : inB mo 1 64 = false := inB_no c1
      clear h c0 c1
      go_enter Tryd.func7, Tryd.ntmps7
      go_wp2_with (go_at_call 21; (with_reducible refine (in_any _ _ _).mono ?_); rintro e w' ⟨rfl, rfl⟩)
      go_quiet (fail)
      go_wp2_with fail
      go_ret2
      exact ⟨rfl, HB.out _⟩
  · have b0 : inB sz 1 1024 = false := inB_no c0
    clear h c0
    go_enter Tryd.func7, Tryd.ntmps7
    go_wp2_with (go_at_call 21; (with_reducible refine (in_any _ _ _).mono ?_); rintro e w' ⟨rfl, rfl⟩)
    go_quiet (fail)
    go_wp2_with fail
    go_ret2
    exact ⟨rfl, HB.out _⟩
section
variable {w : World} {base bb : Nat} {sz mo sc : Int} {v : Value} {L : List Ent}
set_option maxHeartbeats 400000 in
theorem len_any (B : BufAt w base bb sz mo sc v L) : Calls Tryd.prog 16 #[.pointer (some ⟨bb, 0, none⟩)] w fun e w' => e = .returned (.int .i64 (L.length : Int)) ∧ w = w' := by
  obtain ⟨k0, k1, k2, k3, _⟩ := B.cells
  obtain ⟨a, c, rfl, h1, h2, _⟩ := row_slice B.row
  generalize L.length = n at k3 ⊢
  clear B
  go_enter Tryd.func16, Tryd.ntmps16
  go_wp2_with fail
  go_ret
  exact ⟨rfl, rfl⟩
set_option maxHeartbeats 400000 in
theorem full_any (B : BufAt w base bb sz mo sc v L) : Calls Tryd.prog 17 #[.pointer (some ⟨bb, 0, none⟩)] w fun e w' => e = .returned (.bool (decide (mo ≤ (L.length : Int)))) ∧ Drawn w w' := by
  obtain ⟨k0, k1, k2, k3, _⟩ := B.cells
  obtain ⟨a, c, rfl, h1, h2, _⟩ := row_slice B.row
  generalize L.length = n at k3 ⊢
  clear B
  go_enter Tryd.func17, Tryd.ntmps17
  go_wp2_with fail
  go_quiet (fail)
  have HD := Lib.hid (Drawn.mk w nq)
  generalize w.drewN nq = w5 at HD ⊢
  go_wp2_with fail
  go_ret
  exact ⟨rfl, HD.out⟩
set_option maxHeartbeats 400000 in
theorem is_any (B : BufAt w base bb sz mo sc v L) (key : Int) : Calls Tryd.prog 22 #[.pointer (some ⟨bb, 0, none⟩), .int .i64 key] w fun e w' => e = .returned (.bool (decide (0 ≤ key) && decide (key < sc))) ∧ w = w' := by
  obtain ⟨k0, k1, k2, k3, _⟩ := B.cells
  clear B
  by_cases h1 : 0 ≤ key
  · have t1 : decide (0 ≤ key) = true := decide_eq_true h1
    cases t2 : decide (key < sc)
    · go_enter Tryd.func22, Tryd.ntmps22
      go_wp2_with fail
      go_ret
      exact ⟨by simp, rfl⟩
    · go_enter Tryd.func22, Tryd.ntmps22
      go_wp2_with fail
      go_ret
      exact ⟨by simp [h1], rfl⟩
  · have t1 : decide (0 ≤ key) = false := decide_eq_false h1
    go_enter Tryd.func22, Tryd.ntmps22
    go_wp2_with fail
    go_ret
    exact ⟨by simp [h1], rfl⟩
end
end Go.Proofs.YtabpfadbioalgaaDoor.Wt
