/- The walks over package meta: may it be a record. By the verifier of shale. -/
import Derived.Test.YtfcmhlmllcpkmaaDoorMetaWalks
import Derived.RangeFuncBox
namespace Go.Proofs.YtfcmhlmllcpkmaaDoor.Meta
open Go Go.RowKit Crc
set_option linter.unusedVariables false
/-- a record as a value. -/
abbrev metaV (m : M6) : Value := .agg #[.int .i64 (fld m 0), .int .i64 (fld m 1), .int .i64 (fld m 2), .int .i64 (fld m 3), .int .i64 (fld m 4), .int .i64 (fld m 5)]
/-- a record in a block of its own. -/
def RecAt (w : World) (r : Nat) (m : M6) (t : TypeId) : Prop := w.heap[r]? = some (.cells #[.int .i64 (fld m 0), .int .i64 (fld m 1), .int .i64 (fld m 2), .int .i64 (fld m 3), .int .i64 (fld m 4), .int .i64 (fld m 5)] t (0, 0))
theorem RecAt.cell {w : World} {r : Nat} {m : M6} {t : TypeId} (e : RecAt w r m t) (i : Nat) (hi : i < 6) : w.cell? ⟨r, i, none⟩ = some (.int .i64 (fld m i)) := by
  unfold World.cell?
  simp only
  rw [show w.heap[r]? = _ from e]
  rcases (by omega : i = 0 ∨ i = 1 ∨ i = 2 ∨ i = 3 ∨ i = 4 ∨ i = 5) with rfl | rfl | rfl | rfl | rfl | rfl <;> rfl
theorem RecAt.free {w : World} {r : Nat} {m : M6} {t : TypeId} (e : RecAt w r m t) (i : Nat) : w.frozen? ⟨r, i, none⟩ = false := by
  unfold World.frozen?
  simp only
  rw [show w.heap[r]? = _ from e]
  rfl
theorem RecAt.lt {w : World} {r : Nat} {m : M6} {t : TypeId} (e : RecAt w r m t) : r < w.heap.size := lt_of_block e
theorem RecAt.below {w w' : World} {B r : Nat} {m : M6} {t : TypeId} (e : RecAt w r m t) (b : Below B w w') (hr : r < B) : RecAt w' r m t := (b.block r hr).trans e
/-- field i's function. -/
def fnOf : Nat → Value
  | 0 => .func (.func 31) #[] #[] | 1 => .func (.func 32) #[] #[] | 2 => .func (.func 33) #[] #[]
  | 3 => .func (.func 34) #[] #[] | 4 => .func (.func 35) #[] #[] | 5 => .func (.func 36) #[] #[] | _ => undef
/-- the list of a record's fields. -/
def FieldsAt (w : World) (e : Ending) (w' : World) : Prop := ∃ b, e = .returned (.slice (some ⟨b, 0, none⟩) 6 6) ∧ w.heap.size ≤ b ∧ b < w'.heap.size ∧ (∀ k, k < 6 → w'.cell? ⟨b, k, none⟩ = some (fnOf k)) ∧ Below w.heap.size w w'
set_option maxRecDepth 100000 in
set_option maxHeartbeats 1000000 in
theorem fields_any (w : World) : Calls Tryd.prog 23 #[] w (FieldsAt w) := by
  have hc : ∀ k, k < 6 → (w.alloc (.cells #[fnOf 0, fnOf 1, fnOf 2, fnOf 3, fnOf 4, fnOf 5] 50)).cell? ⟨w.heap.size, k, none⟩ = some (fnOf k) := by
    intro k hk
    unfold World.cell?
    simp only
    rw [heap_alloc_new]
    rcases (by omega : k = 0 ∨ k = 1 ∨ k = 2 ∨ k = 3 ∨ k = 4 ∨ k = 5) with rfl | rfl | rfl | rfl | rfl | rfl <;> rfl
  have HC := Lib.hid hc
  clear hc
  go_enter Tryd.func23, Tryd.ntmps23
  go_wp2
  go_ret
  exact ⟨w.heap.size, rfl, Nat.le_refl _, by simp, HC.out, (Below.refl _ _).alloc (Nat.le_refl _) _⟩
section
variable (r : Nat) (w : World)
set_option maxHeartbeats 400000 in
theorem kind_any : Calls Tryd.prog 31 #[.pointer (some ⟨r, 0, none⟩)] w fun e w' => e = .returned (.pointer (some ⟨r, 0, none⟩)) ∧ w = w' := by
  go_enter Tryd.func31, Tryd.ntmps31
  go_wp2
  go_ret
  exact ⟨rfl, rfl⟩
set_option maxHeartbeats 400000 in
theorem key_any : Calls Tryd.prog 32 #[.pointer (some ⟨r, 0, none⟩)] w fun e w' => e = .returned (.pointer (some ⟨r, 1, none⟩)) ∧ w = w' := by
  go_enter Tryd.func32, Tryd.ntmps32
  go_wp2
  go_ret
  exact ⟨rfl, rfl⟩
set_option maxHeartbeats 400000 in
theorem seq_any : Calls Tryd.prog 33 #[.pointer (some ⟨r, 0, none⟩)] w fun e w' => e = .returned (.pointer (some ⟨r, 2, none⟩)) ∧ w = w' := by
  go_enter Tryd.func33, Tryd.ntmps33
  go_wp2
  go_ret
  exact ⟨rfl, rfl⟩
set_option maxHeartbeats 400000 in
theorem stamp_any : Calls Tryd.prog 34 #[.pointer (some ⟨r, 0, none⟩)] w fun e w' => e = .returned (.pointer (some ⟨r, 3, none⟩)) ∧ w = w' := by
  go_enter Tryd.func34, Tryd.ntmps34
  go_wp2
  go_ret
  exact ⟨rfl, rfl⟩
set_option maxHeartbeats 400000 in
theorem batch_any : Calls Tryd.prog 35 #[.pointer (some ⟨r, 0, none⟩)] w fun e w' => e = .returned (.pointer (some ⟨r, 4, none⟩)) ∧ w = w' := by
  go_enter Tryd.func35, Tryd.ntmps35
  go_wp2
  go_ret
  exact ⟨rfl, rfl⟩
set_option maxHeartbeats 400000 in
theorem floor_any : Calls Tryd.prog 36 #[.pointer (some ⟨r, 0, none⟩)] w fun e w' => e = .returned (.pointer (some ⟨r, 5, none⟩)) ∧ w = w' := by
  go_enter Tryd.func36, Tryd.ntmps36
  go_wp2
  go_ret
  exact ⟨rfl, rfl⟩
end
set_option maxRecDepth 100000 in
set_option maxHeartbeats 4000000 in
theorem may_any (m : M6) (w : World) : Calls Tryd.prog 15 #[metaV m] w fun e w' => e = .returned (.bool (decide (May m))) ∧ Below w.heap.size w w' := by
  have HV : Hid (∀ k, k < 6 → ¬ (0 ≤ fld m k ∧ fld m k ≤ 1073741824) → decide (May m) = false) := by
    intro k hk h
    rw [decide_eq_false_iff_not]
    exact fun hm => h (hm.1 k hk)
  have h1 : RecAt ((w.alloc (.cells #[.int .i64 (fld m 0), .int .i64 (fld m 1), .int .i64 (fld m 2), .int .i64 (fld m 3), .int .i64 (fld m 4), .int .i64 (fld m 5)] 23)).alloc (.cells #[.int .i64 (fld m 0), .int .i64 (fld m 1), .int .i64 (fld m 2), .int .i64 (fld m 3), .int .i64 (fld m 4), .int .i64 (fld m 5)] 47)) w.heap.size m 23 :=
    (Below.heap_alloc _ _ _ (by simp)).trans (heap_alloc_new w _)
  have h2 : RecAt ((w.alloc (.cells #[.int .i64 (fld m 0), .int .i64 (fld m 1), .int .i64 (fld m 2), .int .i64 (fld m 3), .int .i64 (fld m 4), .int .i64 (fld m 5)] 23)).alloc (.cells #[.int .i64 (fld m 0), .int .i64 (fld m 1), .int .i64 (fld m 2), .int .i64 (fld m 3), .int .i64 (fld m 4), .int .i64 (fld m 5)] 47)) (w.heap.size + 1) m 47 := by
    have := heap_alloc_new (w.alloc (.cells #[.int .i64 (fld m 0), .int .i64 (fld m 1), .int .i64 (fld m 2), .int .i64 (fld m 3), .int .i64 (fld m 4), .int .i64 (fld m 5)] 23)) (.cells #[.int .i64 (fld m 0), .int .i64 (fld m 1), .int .i64 (fld m 2), .int .i64 (fld m 3), .int .i64 (fld m 4), .int .i64 (fld m 5)] 47)
    rwa [World.size_alloc] at this
  have b0 : Below w.heap.size w ((w.alloc (.cells #[.int .i64 (fld m 0), .int .i64 (fld m 1), .int .i64 (fld m 2), .int .i64 (fld m 3), .int .i64 (fld m 4), .int .i64 (fld m 5)] 23)).alloc (.cells #[.int .i64 (fld m 0), .int .i64 (fld m 1), .int .i64 (fld m 2), .int .i64 (fld m 3), .int .i64 (fld m 4), .int .i64 (fld m 5)] 47)) :=
    ((Below.refl _ _).alloc (Nat.le_refl _) _).alloc (by simp) _
  have HL := Lib.hid (And.intro h1 (And.intro h2 b0))
  clear h1 h2 b0
  go_enter Tryd.func15, Tryd.ntmps15
  go_wp2_with fail
  obtain ⟨h1, h2, b0⟩ := HL.out
  clear HL
  generalize (w.alloc (.cells #[.int .i64 (fld m 0), .int .i64 (fld m 1), .int .i64 (fld m 2), .int .i64 (fld m 3), .int .i64 (fld m 4), .int .i64 (fld m 5)] 23)).alloc (.cells #[.int .i64 (fld m 0), .int .i64 (fld m 1), .int .i64 (fld m 2), .int .i64 (fld m 3), .int .i64 (fld m 4), .int .i64 (fld m 5)] 47) = w1 at h1 h2 b0 ⊢
  refine (fields_any w1).mono ?_
  rintro e w2 ⟨fb, rfl, fb1, fb2, fc, b1⟩
  have h3 := h1.below b1 h1.lt
  have h4 := h2.below b1 h2.lt
  have B := b0.trans (b1.mono b0.size)
  have HF := Lib.hid fc
  clear h1 h2 b0 b1 fc fb1 fb2
  go_wp2_with fail
  go_loopg [10] 6 (fun gh s10 wx => ∃ k : Nat, gh = 6 - k ∧ k ≤ 6 ∧ s10 = .int .i64 (k : Int) ∧ (∀ j, j < k → 0 ≤ fld m j ∧ fld m j ≤ 1073741824) ∧ w2 = wx)
  case atStart => exact ⟨0, rfl, by omega, rfl, fun j hj => by omega, rfl⟩
  case round =>
    obtain ⟨k, hg, hk, rfl, hall, rfl⟩ := hrel
    have HG := Lib.hid hg
    have HA := Lib.hid hall
    clear hg hall
    by_cases hlt : k < 6
    · have c0 := HF.out k hlt
      have c1 := h4.cell k hlt
      have hv := HV.out k hlt
      by_cases hok : 0 ≤ fld m k ∧ fld m k ≤ 1073741824
      · have HA2 : Hid (∀ j, j < k + 1 → 0 ≤ fld m j ∧ fld m j ≤ 1073741824) := by
          intro j hj
          by_cases hjk : j = k
          · subst hjk; exact hok
          · exact HA.out j (by omega)
        obtain ⟨o1, o2⟩ := hok
        clear hv
        obtain ⟨g2, hg2⟩ : ∃ g2, g2 = 6 - (k + 1) := ⟨_, rfl⟩
        have HG2 := Lib.hid hg2
        clear hg2
        rcases (by omega : k = 0 ∨ k = 1 ∨ k = 2 ∨ k = 3 ∨ k = 4 ∨ k = 5) with rfl | rfl | rfl | rfl | rfl | rfl
        all_goals
          unfold fnOf at c0
          go_wp2_with fail
          first
            | (with_reducible refine (kind_any _ _).mono ?_)
            | (with_reducible refine (key_any _ _).mono ?_)
            | (with_reducible refine (seq_any _ _).mono ?_)
            | (with_reducible refine (stamp_any _ _).mono ?_)
            | (with_reducible refine (batch_any _ _).mono ?_)
            | (with_reducible refine (floor_any _ _).mono ?_)
          rintro e w3 ⟨rfl, rfl⟩
          go_wp2_with fail
          go_roundg g2
          case measure => have := HG.out; have := HG2.out; omega
          case rel => exact ⟨_, HG2.out, by omega, rfl, HA2.out, rfl⟩
      · have HVk := Lib.hid (hv hok)
        have hbad : fld m k < 0 ∨ (0 ≤ fld m k ∧ 1073741824 < fld m k) := by omega
        clear hv hok
        rcases hbad with o1 | ⟨o1, o2⟩
        all_goals
          rcases (by omega : k = 0 ∨ k = 1 ∨ k = 2 ∨ k = 3 ∨ k = 4 ∨ k = 5) with rfl | rfl | rfl | rfl | rfl | rfl
          all_goals
            unfold fnOf at c0
            go_wp2_with fail
            first
              | (with_reducible refine (kind_any _ _).mono ?_)
              | (with_reducible refine (key_any _ _).mono ?_)
              | (with_reducible refine (seq_any _ _).mono ?_)
              | (with_reducible refine (stamp_any _ _).mono ?_)
              | (with_reducible refine (batch_any _ _).mono ?_)
              | (with_reducible refine (floor_any _ _).mono ?_)
            rintro e w3 ⟨rfl, rfl⟩
            go_wp2_with fail
            go_ret
            exact ⟨ret_bool HVk.out.symm, B⟩
    · obtain rfl : k = 6 := by omega
      have c0 := h3.cell 0 (by omega)
      have hfin : (1 ≤ fld m 0 ∧ fld m 0 ≤ 6 ∧ decide (May m) = true) ∨ (fld m 0 < 1 ∧ decide (May m) = false) ∨ (1 ≤ fld m 0 ∧ decide (fld m 0 ≤ 6) = false ∧ decide (May m) = false) := by
        by_cases k1 : fld m 0 < 1
        · exact Or.inr (Or.inl ⟨k1, decide_eq_false fun hm => by have : 1 ≤ fld m 0 := hm.2.1; omega⟩)
        · by_cases k2 : fld m 0 ≤ 6
          · exact Or.inl ⟨by omega, k2, decide_eq_true ⟨HA.out, by show 1 ≤ fld m 0; omega, k2⟩⟩
          · exact Or.inr (Or.inr ⟨by omega, decide_eq_false k2, decide_eq_false fun hm => by have : fld m 0 ≤ 6 := hm.2.2; omega⟩)
      rcases hfin with ⟨o1, o2, o3⟩ | ⟨o1, o3⟩ | ⟨o1, o2, o3⟩
      all_goals
        have HO := Lib.hid o3
        clear o3
        go_wp2_with fail
        go_ret
        exact ⟨ret_bool HO.out.symm, B⟩
end Go.Proofs.YtfcmhlmllcpkmaaDoor.Meta
