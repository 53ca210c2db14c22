/- The keys that wait: each once. By the verifier of shale. -/
import Derived.Test.YtabpfadbioalgaaDoorWtEntW
namespace Go.Proofs.YtabpfadbioalgaaDoor.Wt
open Go Go.RowKit Bin
set_option linter.unusedVariables false
set_option linter.unusedSimpArgs false
theorem nodup_le : ∀ (n : Nat) (l : List Nat), l.Nodup → (∀ x ∈ l, x < n) → l.length ≤ n
  | 0, l, _, h => by
    cases l with
    | nil => simp
    | cons a t => exact absurd (h a (by simp)) (by omega)
  | n + 1, l, hd, h => by
    by_cases hm : n ∈ l
    · have h1 := nodup_le n (l.erase n) (hd.erase n) (fun x hx => by
        have h2 := (hd.mem_erase_iff).1 hx
        have := h x h2.2
        have := h2.1
        omega)
      rw [List.length_erase_of_mem hm] at h1
      omega
    · have h1 := nodup_le n l hd (fun x hx => by
        have := h x hx
        have : x ≠ n := fun e => hm (e ▸ hx)
        omega)
      omega
theorem nodup_inj {l : List Int} (h : l.Nodup) {i j : Nat} {hi : i < l.length} {hj : j < l.length} (e : l[i] = l[j]) : i = j := by
  have h1 := List.pairwise_iff_getElem.1 h
  rcases Nat.lt_trichotomy i j with hl | hl | hl
  · exact absurd e (h1 i j hi hj hl)
  · exact hl
  · exact absurd e.symm (h1 j i hj hi hl)
/-- each key once, all below N. -/
structure KeyOK (N : Nat) (L : List Ent) : Prop where
  once : (L.map Ent.key).Nodup
  low : ∀ e ∈ L, 0 ≤ e.key ∧ e.key < (N : Int)
theorem keyOK_nil (N : Nat) : KeyOK N [] := ⟨List.nodup_nil, fun e h => by cases h⟩
theorem ints_le {N : Nat} {l : List Int} (hd : l.Nodup) (h : ∀ x ∈ l, 0 ≤ x ∧ x < (N : Int)) : l.length ≤ N := by
  have h1 := nodup_le N (l.map Int.toNat) ?_ ?_
  · rwa [List.length_map] at h1
  · unfold List.Nodup
    rw [List.pairwise_map]
    refine List.Pairwise.imp_of_mem ?_ hd
    intro a b ha hb hab e
    have := h a ha
    have := h b hb
    omega
  · intro x hx
    obtain ⟨y, hy, rfl⟩ := List.mem_map.1 hx
    have := h y hy
    omega
theorem KeyOK.len {N : Nat} {L : List Ent} (h : KeyOK N L) : L.length ≤ N := by
  have := ints_le h.once (fun x hx => by obtain ⟨e, he, rfl⟩ := List.mem_map.1 hx; exact h.low e he)
  rwa [List.length_map] at this
theorem KeyOK.room {N : Nat} {L : List Ent} (h : KeyOK N L) {k : Int} (h0 : 0 ≤ k) (h1 : k < (N : Int)) (hn : at? L k = none) : L.length < N := by
  have hno := at_none hn
  have := ints_le (N := N) (l := k :: L.map Ent.key) (List.nodup_cons.2 ⟨fun hm => by obtain ⟨e, he, hk⟩ := List.mem_map.1 hm; exact hno e he hk, h.once⟩) (fun x hx => by
    rcases List.mem_cons.1 hx with rfl | hx
    · exact ⟨h0, h1⟩
    · obtain ⟨e, he, rfl⟩ := List.mem_map.1 hx; exact h.low e he)
  rw [List.length_cons, List.length_map] at this
  omega
/-- what waits behind a last. -/
theorem lastL_mem {L : List Ent} {e d : Ent} (h : (L.map Ent.key).Nodup) : d ∈ lastL L e ↔ d = e ∨ (d ∈ L ∧ d.key ≠ e.key) := by
  unfold lastL
  cases hat : at? L e.key with
  | none =>
    have hno := at_none hat
    simp only [List.mem_append, List.mem_singleton]
    constructor
    · rintro (h | h)
      · exact .inr ⟨h, hno d h⟩
      · exact .inl h
    · rintro (h | h)
      · exact .inr h
      · exact .inl h.1
  | some i =>
    obtain ⟨x, hx, hk⟩ := at_some hat
    obtain ⟨hi, hxi⟩ := List.getElem?_eq_some_iff.1 hx
    simp only [List.mem_append, List.mem_singleton]
    have key : d ∈ L.eraseIdx i ↔ (d ∈ L ∧ d.key ≠ e.key) := by
      rw [List.mem_eraseIdx_iff_getElem]
      constructor
      · rintro ⟨j, hj, hne, hd⟩
        refine ⟨hd ▸ List.getElem_mem hj, fun hke => ?_⟩
        have h1 : (L.map Ent.key)[j]'(by simpa using hj) = (L.map Ent.key)[i]'(by simpa using hi) := by
          rw [List.getElem_map, List.getElem_map, hd, hxi, hke, hk]
        exact hne (nodup_inj h h1)
      · rintro ⟨hm, hne⟩
        obtain ⟨j, hj, hd⟩ := List.mem_iff_getElem.1 hm
        refine ⟨j, hj, fun hji => ?_, hd⟩
        subst hji
        rw [hxi] at hd
        exact hne (by rw [← hd, hk])
    rw [key]
    exact or_comm
theorem lastL_len_le (L : List Ent) (e : Ent) : (lastL L e).length ≤ L.length + 1 := by
  unfold lastL
  split
  · simp
  · rw [List.length_append, List.length_eraseIdx]; split <;> simp <;> omega
theorem KeyOK.last {N : Nat} {L : List Ent} (h : KeyOK N L) {e : Ent} (h0 : 0 ≤ e.key) (h1 : e.key < (N : Int)) : KeyOK N (lastL L e) := by
  refine ⟨?_, fun d hd => ?_⟩
  · have hno : ∀ d ∈ L.map Ent.key, True := fun _ _ => trivial
    unfold lastL
    cases hat : at? L e.key with
    | none =>
      have hno := at_none hat
      show (List.map Ent.key (L ++ [e])).Nodup
      rw [List.map_append, List.nodup_append]
      refine ⟨h.once, by simp, fun a ha b hb => ?_⟩
      simp only [List.map_cons, List.map_nil, List.mem_singleton] at hb
      obtain ⟨d, hd, rfl⟩ := List.mem_map.1 ha
      rw [hb]
      exact hno d hd
    | some i =>
      show (List.map Ent.key (L.eraseIdx i ++ [e])).Nodup
      rw [List.map_append, List.nodup_append]
      refine ⟨List.Sublist.nodup (List.Sublist.map _ (List.eraseIdx_sublist _ _)) h.once, by simp, fun a ha b hb => ?_⟩
      simp only [List.map_cons, List.map_nil, List.mem_singleton] at hb
      obtain ⟨d, hd, rfl⟩ := List.mem_map.1 ha
      have h2 : d ∈ lastL L e := by unfold lastL; rw [hat]; exact List.mem_append_left _ hd
      rw [hb]
      intro hke
      -- d lies among the rest
      have h3 : d ∈ L.eraseIdx i := hd
      rw [List.mem_eraseIdx_iff_getElem] at h3
      obtain ⟨j, hj, hne, hdj⟩ := h3
      obtain ⟨x, hx, hk⟩ := at_some hat
      obtain ⟨hi, hxi⟩ := List.getElem?_eq_some_iff.1 hx
      have h4 : (L.map Ent.key)[j]'(by simpa using hj) = (L.map Ent.key)[i]'(by simpa using hi) := by
        rw [List.getElem_map, List.getElem_map, hdj, hxi, hke, hk]
      exact hne (nodup_inj h.once h4)
  · rcases (lastL_mem h.once).1 hd with rfl | hd
    · exact ⟨h0, h1⟩
    · exact h.low d hd.1
end Go.Proofs.YtabpfadbioalgaaDoor.Wt
