/- A pool by what it holds, in whatever order. By the verifier of shale. -/
import Derived.Test.YtaaegkjbmomjbaaDoorPoMost
namespace Go.Proofs.YtaaegkjbmomjbaaDoor.Po
open Go Go.RowKit Hp
set_option linter.unusedVariables false
set_option linter.unusedSimpArgs false
def PoolIs (w : World) (base qb : Nat) (v : Value) (M : List It) : Prop := ∃ L, PoolAt w base qb v L ∧ List.Perm L M
theorem PoolIs.below {w w' : World} {base qb : Nat} {v : Value} {M : List It} (h : PoolIs w base qb v M) (b : Below w.heap.size w w') : PoolIs w' base qb v M := by
  obtain ⟨L, h1, h2⟩ := h
  exact ⟨L, h1.below b, h2⟩
theorem PoolIs.same {w w' : World} {base qb : Nat} {v : Value} {M : List It} (h : PoolIs w base qb v M) (o : ∀ k ∈ qbl qb v, w'.heap[k]? = w.heap[k]?) : PoolIs w' base qb v M := by
  obtain ⟨L, h1, h2⟩ := h
  exact ⟨L, h1.same o, h2⟩
theorem PoolIs.lt {w : World} {base qb : Nat} {v : Value} {M : List It} (h : PoolIs w base qb v M) : ∀ k ∈ qbl qb v, base ≤ k ∧ k < w.heap.size := by
  obtain ⟨L, h1, _⟩ := h
  exact h1.q.bl_lt
theorem idx_isSome {L M : List It} (hp : List.Perm L M) (b : Int) : (idx? L b).isSome = M.any fun y => decide (y.b = b) := by
  rw [Bool.eq_iff_iff, List.any_eq_true]
  constructor
  · intro h
    obtain ⟨i, hi⟩ := Option.isSome_iff_exists.1 h
    obtain ⟨h1, h2⟩ := idx_lt hi
    exact ⟨L[i]!, hp.mem_iff.1 (by rw [getElem!_pos L i h1]; exact List.getElem_mem _), by simpa using h2⟩
  · rintro ⟨y, hy, e⟩
    cases h : idx? L b with
    | some i => rfl
    | none => exact absurd (by simpa using e) (idx_not h y (hp.mem_iff.2 hy))
def OutIs (w : World) (base qb : Nat) (v : Value) (M : List It) (r : Value) (e : Ending) (w' : World) : Prop := ∃ v', e = .returned r ∧ PoolIs w' base qb v' M ∧ Tn (qbl qb v) w w' (qbl qb v')
theorem new_is (w : World) : Calls Tryd.prog 7 #[] w fun e w' => e = .returned (.pointer (some ⟨w.heap.size, 0, none⟩)) ∧ PoolIs w' w.heap.size w.heap.size (.slice none 0 0) [] ∧ Below w.heap.size w w' :=
  (new_any w).mono fun e w' h => ⟨h.1, ⟨[], h.2.1, List.Perm.refl _⟩, h.2.2⟩
section
variable {w : World} {base qb : Nat} {v : Value} {M : List It}
theorem add_is (Q : PoolIs w base qb v M) (hL : M.length ≤ 1000) (x : It) (h0 : 0 ≤ x.b) (h1 : x.b < 64) (h2 : 0 ≤ x.w) (h3 : x.w ≤ 1073741824) (hno : ∀ y ∈ M, y.b ≠ x.b) :
    Calls Tryd.prog 9 #[.pointer (some ⟨qb, 0, none⟩), .int .i64 x.b, .int .i64 x.w] w (OutIs w base qb v (x :: M) .nilIface) := by
  obtain ⟨L, Q, hp⟩ := Q
  have hn : idx? L x.b = none := by
    cases h : idx? L x.b with
    | none => rfl
    | some i =>
      obtain ⟨k1, k2⟩ := idx_lt h
      exact absurd k2 (hno _ (hp.mem_iff.1 (by rw [getElem!_pos L i k1]; exact List.getElem_mem _)))
  refine (add_yes Q (by rw [hp.length_eq]; exact hL) x h0 h1 h2 h3 hn).mono ?_
  rintro e w' ⟨v', m, rfl, p1, p2, p3⟩
  exact ⟨v', rfl, ⟨m, p1, p2.trans ((List.perm_append_comm (l₁ := L) (l₂ := [x])).trans (List.Perm.cons x hp))⟩, p3⟩
theorem erase_of {x : It} {m L : List It} (h : List.Perm (x :: m) L) (hp : List.Perm L M) : List.Perm m (M.erase x) := (List.cons_perm_iff_perm_erase.1 (h.trans hp)).2
theorem take_is (Q : PoolIs w base qb v M) (hL : M.length ≤ 1000) {x : It} (hx : x ∈ M) (hmin : ∀ y ∈ M, y ≠ x → itLt x y = true) :
    Calls Tryd.prog 13 #[.pointer (some ⟨qb, 0, none⟩)] w (OutIs w base qb v (M.erase x) (.tuple #[.int .i64 x.b, .bool true])) := by
  obtain ⟨L, Q, hp⟩ := Q
  have hxL := hp.mem_iff.2 hx
  have hne : 0 < L.length := List.length_pos_of_mem hxL
  have h0 : L[0]! ∈ L := by rw [getElem!_pos L 0 hne]; exact List.getElem_mem _
  have he : L[0]! = x := by
    by_cases e : L[0]! = x
    · exact e
    · have h1 := hmin _ (hp.mem_iff.1 h0) e
      obtain ⟨i, hi, rfl⟩ := List.mem_iff_getElem.1 hxL
      have h2 := least_of Q.h i hi
      rw [getElem!_pos L i hi] at h2
      rw [show Lt.lt L[i] (L[0]!) = itLt L[i] (L[0]!) from rfl, h1] at h2
      cases h2
  refine (take_some Q (by rw [hp.length_eq]; exact hL) hne he).mono ?_
  rintro e w' ⟨v', m, rfl, p1, p2, p3⟩
  exact ⟨v', rfl, ⟨m, p1, erase_of p2 hp⟩, p3⟩
/-- whatever the pool holds, what is taken first is its least. -/
theorem take_some_is (Q : PoolIs w base qb v M) (hL : M.length ≤ 1000) (hne : M ≠ []) :
    Calls Tryd.prog 13 #[.pointer (some ⟨qb, 0, none⟩)] w fun e w' => ∃ x, x ∈ M ∧ (∀ y ∈ M, itLt y x = false) ∧ OutIs w base qb v (M.erase x) (.tuple #[.int .i64 x.b, .bool true]) e w' := by
  obtain ⟨L, Q, hp⟩ := Q
  have hne : 0 < L.length := by rw [hp.length_eq]; exact List.length_pos_iff.2 hne
  have h0 : L[0]! ∈ L := by rw [getElem!_pos L 0 hne]; exact List.getElem_mem _
  refine (take_some Q (by rw [hp.length_eq]; exact hL) hne rfl).mono ?_
  rintro e w' ⟨v', m, rfl, p1, p2, p3⟩
  refine ⟨L[0]!, hp.mem_iff.1 h0, fun y hy => ?_, v', rfl, ⟨m, p1, erase_of p2 hp⟩, p3⟩
  obtain ⟨i, hi, rfl⟩ := List.mem_iff_getElem.1 (hp.mem_iff.2 hy)
  have h2 := least_of Q.h i hi
  rw [getElem!_pos L i hi] at h2
  exact h2
theorem take_nil (Q : PoolIs w base qb v []) :
    Calls Tryd.prog 13 #[.pointer (some ⟨qb, 0, none⟩)] w fun e w' => e = .returned (.tuple #[.int .i64 0, .bool false]) ∧ w = w' := by
  obtain ⟨L, Q, hp⟩ := Q
  cases hp.eq_nil
  exact take_none Q
theorem most_is (Q : PoolIs w base qb v M) (hL : M.length ≤ 1000) (hnd : (M.map It.b).Nodup) {x : It} (hx : x ∈ M) (htop : ∀ y ∈ M, ¬ more y x) :
    Calls Tryd.prog 15 #[.pointer (some ⟨qb, 0, none⟩)] w (OutIs w base qb v (M.erase x) (.tuple #[.int .i64 x.b, .bool true])) := by
  obtain ⟨L, Q, hp⟩ := Q
  have hne : 0 < L.length := List.length_pos_of_mem (hp.mem_iff.2 hx)
  refine (most_some Q (by rw [hp.length_eq]; exact hL) hne ((hp.map It.b).nodup_iff.2 hnd)).mono ?_
  rintro e w' ⟨y, hy, ht, v', m, rfl, p1, p2, p3⟩
  have h1 := ht x (hp.mem_iff.2 hx)
  have h2 := htop y (hp.mem_iff.1 hy)
  have e : y = x := by
    obtain ⟨yb, yw⟩ := y
    obtain ⟨xb, xw⟩ := x
    unfold more at h1 h2
    simp only at h1 h2
    have : yb = xb := by omega
    have : yw = xw := by omega
    simp [*]
  subst e
  exact ⟨v', rfl, ⟨m, p1, erase_of p2 hp⟩, p3⟩
theorem most_some_is (Q : PoolIs w base qb v M) (hL : M.length ≤ 1000) (hnd : (M.map It.b).Nodup) (hne : M ≠ []) :
    Calls Tryd.prog 15 #[.pointer (some ⟨qb, 0, none⟩)] w fun e w' => ∃ x, x ∈ M ∧ (∀ y ∈ M, ¬ more y x) ∧ OutIs w base qb v (M.erase x) (.tuple #[.int .i64 x.b, .bool true]) e w' := by
  obtain ⟨L, Q, hp⟩ := Q
  have hne : 0 < L.length := by rw [hp.length_eq]; exact List.length_pos_iff.2 hne
  refine (most_some Q (by rw [hp.length_eq]; exact hL) hne ((hp.map It.b).nodup_iff.2 hnd)).mono ?_
  rintro e w' ⟨y, hy, ht, v', m, rfl, p1, p2, p3⟩
  exact ⟨y, hp.mem_iff.1 hy, fun z hz => ht z (hp.mem_iff.2 hz), v', rfl, ⟨m, p1, erase_of p2 hp⟩, p3⟩
theorem most_nil (Q : PoolIs w base qb v []) :
    Calls Tryd.prog 15 #[.pointer (some ⟨qb, 0, none⟩)] w fun e w' => e = .returned (.tuple #[.int .i64 0, .bool false]) ∧ w = w' := by
  obtain ⟨L, Q, hp⟩ := Q
  cases hp.eq_nil
  exact most_none Q
theorem has_is (Q : PoolIs w base qb v M) (hL : M.length ≤ 1000) (b : Int) :
    Calls Tryd.prog 18 #[.pointer (some ⟨qb, 0, none⟩), .int .i64 b] w fun e w' => e = .returned (.bool (M.any fun y => decide (y.b = b))) ∧ Below w.heap.size w w' := by
  obtain ⟨L, Q, hp⟩ := Q
  rw [← idx_isSome hp]
  exact has_any Q.q (by rw [hp.length_eq]; exact hL) b
theorem len_is (Q : PoolIs w base qb v M) :
    Calls Tryd.prog 20 #[.pointer (some ⟨qb, 0, none⟩)] w fun e w' => e = .returned (.int .i64 (M.length : Int)) ∧ w = w' := by
  obtain ⟨L, Q, hp⟩ := Q
  rw [← hp.length_eq]
  exact len_any Q.q
theorem remove_is (Q : PoolIs w base qb v M) (hL : M.length ≤ 1000) (hnd : (M.map It.b).Nodup) {x : It} (hx : x ∈ M) :
    Calls Tryd.prog 11 #[.pointer (some ⟨qb, 0, none⟩), .int .i64 x.b] w (OutIs w base qb v (M.erase x) (.bool true)) := by
  obtain ⟨L, Q, hp⟩ := Q
  have hxL := hp.mem_iff.2 hx
  have hndL := (hp.map It.b).nodup_iff.2 hnd
  cases h : idx? L x.b with
  | none => exact absurd rfl (idx_not h x hxL)
  | some i =>
    have e : L[i]! = x := by
      obtain ⟨h1, h2⟩ := idx_lt h
      obtain ⟨t, ht, e⟩ := List.mem_iff_getElem.1 hxL
      rw [getElem!_pos L i h1] at h2 ⊢
      have e2 : (L.map It.b)[i]'(by simpa using h1) = (L.map It.b)[t]'(by simpa using ht) := by simp [h2, e]
      have hit : i = t := (List.getElem_inj hndL).1 e2
      subst hit
      exact e
    refine (remove_yes Q (by rw [hp.length_eq]; exact hL) h).mono ?_
    rintro e' w' ⟨v', m, rfl, p1, p2, p3⟩
    rw [e] at p2
    exact ⟨v', rfl, ⟨m, p1, erase_of p2 hp⟩, p3⟩
theorem remove_not (Q : PoolIs w base qb v M) (hL : M.length ≤ 1000) {b : Int} (hx : ∀ y ∈ M, y.b ≠ b) :
    Calls Tryd.prog 11 #[.pointer (some ⟨qb, 0, none⟩), .int .i64 b] w fun e w' => e = .returned (.bool false) ∧ Below w.heap.size w w' := by
  obtain ⟨L, Q, hp⟩ := Q
  refine remove_no Q (by rw [hp.length_eq]; exact hL) ?_
  cases h : idx? L b with
  | none => rfl
  | some i =>
    obtain ⟨k1, k2⟩ := idx_lt h
    exact absurd k2 (hx _ (hp.mem_iff.1 (by rw [getElem!_pos L i k1]; exact List.getElem_mem _)))
end
end Go.Proofs.YtaaegkjbmomjbaaDoor.Po
