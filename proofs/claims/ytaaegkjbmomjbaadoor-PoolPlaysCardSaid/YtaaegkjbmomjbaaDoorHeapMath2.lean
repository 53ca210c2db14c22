/- A list in a heap's order: what is put in, taken out. By the verifier of shale. -/
import Derived.Test.YtaaegkjbmomjbaaDoorHeapMath
namespace Go.Proofs.YtaaegkjbmomjbaaDoor.Hp
set_option linter.unusedVariables false
set_option linter.unusedSimpArgs false
open Lt
theorem take_at {α : Type} [Inhabited α] (l : List α) {n k : Nat} (h : k < n) : (l.take n)[k]! = l[k]! := by
  by_cases hk : k < l.length
  · rw [getElem!_pos _ k (by simp; omega), getElem!_pos l k hk, List.getElem_take]
  · rw [getElem!_neg _ k (by simp; omega), getElem!_neg l k hk]
theorem snoc_at {α : Type} [Inhabited α] (l : List α) (x : α) {k : Nat} (h : k < l.length) : (l ++ [x])[k]! = l[k]! := by
  rw [getElem!_pos _ k (by simp; omega), getElem!_pos l k h, List.getElem_append_left h]
theorem perm_last {α : Type} [Inhabited α] {l : List α} {n : Nat} (h : l.length = n + 1) : List.Perm (l[n]! :: l.take n) l := by
  have e : l = l.take n ++ [l[n]!] := by
    rw [getElem!_pos l n (by omega)]
    have := List.take_append_getElem (l := l) (i := n) (by omega)
    rw [this, List.take_of_length_le (by omega)]
  conv => rhs; rw [e]
  exact (List.perm_append_comm (l₁ := [l[n]!]) (l₂ := l.take n))
variable {α : Type} [Inhabited α] [Lt α]
theorem heap_take {l : List α} {n : Nat} (h : HeapFrom l n 0) : HeapFrom (l.take n) n 0 := fun c h0 hc hl => by
  unfold ok
  rw [take_at l hc, take_at l (by omega)]
  exact h c h0 hc hl
theorem heap_less {l : List α} {n k : Nat} (h : HeapFrom l n 0) (hk : k ≤ n) : HeapFrom l k 0 := fun c h0 hc hl => h c h0 (by omega) hl
theorem push_pre {l : List α} {n : Nat} (h : HeapFrom l n 0) (hn : l.length = n) (x : α) : Up (l ++ [x]) (n + 1) (l ++ [x]) n := by
  refine Up.start (fun c h0 hc hne => ?_) (fun h0 c hc0 hc hp => by omega) (by omega) (by simp; omega)
  unfold ok
  rw [snoc_at l x (by omega), snoc_at l x (by omega)]
  exact h c h0 (by omega) (Nat.zero_le _)
theorem pop_pre {l : List α} {n : Nat} (h : HeapFrom l (n + 1) 0) (hn : l.length = n + 1) : ∀ c, 0 < c → c < n → 0 ≤ (c - 1) / 2 → (c - 1) / 2 ≠ 0 → c ≠ 0 → ok (swapL l 0 n) c := fun c h0 hc _ hp _ => by
  unfold ok
  have sw := swap_at l (i := 0) (j := n) (by omega) (by omega)
  rw [sw, sw, if_neg (by omega), if_neg (by omega), if_neg (by omega), if_neg (by omega)]
  exact h c h0 (by omega) (Nat.zero_le _)
theorem pop_end {l m : List α} {n : Nat} {r : Bool} (hn : l.length = n + 1) (D : DnEnd (swapL l 0 n) n 0 0 m r) : m[n]! = l[0]! ∧ List.Perm (l[0]! :: m.take n) l ∧ HeapFrom (m.take n) n 0 := by
  have sw := swap_at l (i := 0) (j := n) (by omega) (by omega)
  have e : m[n]! = l[0]! := by
    rw [D.out n (.inr (Nat.le_refl _)), sw, if_pos rfl]
  have hp := D.perm.trans (perm_swap l (i := 0) (j := n) (by omega) (by omega))
  refine ⟨e, ?_, heap_take fun c h0 hc hl => D.all c h0 hc hl (by omega)⟩
  rw [← e]
  exact (perm_last (by rw [hp.length_eq]; exact hn)).trans hp
/-- taking out the one at place i. -/
theorem rem_pre {l : List α} {n i : Nat} (h : HeapFrom l (n + 1) 0) (hn : l.length = n + 1) (hi : i < n) : ∀ c, 0 < c → c < n → 0 ≤ (c - 1) / 2 → (c - 1) / 2 ≠ i → c ≠ i → ok (swapL l i n) c := fun c h0 hc _ hp hci => by
  unfold ok
  have sw := swap_at l (i := i) (j := n) (by omega) (by omega)
  rw [sw, sw, if_neg (by omega), if_neg hci, if_neg (by omega), if_neg hp]
  exact h c h0 (by omega) (Nat.zero_le _)
theorem rem_kid {l : List α} {n i : Nat} (h : HeapFrom l (n + 1) 0) (hn : l.length = n + 1) (hi : i < n) (h0 : 0 < i) : ∀ c, 0 < c → c < n → (c - 1) / 2 = i → lt ((swapL l i n)[c]!) ((swapL l i n)[(i - 1) / 2]!) = false := fun c hc0 hc hp => by
  have sw := swap_at l (i := i) (j := n) (by omega) (by omega)
  rw [sw, sw, if_neg (by omega), if_neg (by omega), if_neg (by omega), if_neg (by omega)]
  have h1 := h i h0 (by omega) (Nat.zero_le _)
  have h2 := h c hc0 (by omega) (Nat.zero_le _)
  unfold ok at h1 h2
  rw [hp] at h2
  exact tr _ _ _ h1 h2
theorem rem_up {l m : List α} {n i : Nat} (h : HeapFrom l (n + 1) 0) (hn : l.length = n + 1) (hi : i < n) (D : DnEnd (swapL l i n) n 0 i m false) : Up m n m i := by
  have e := D.stay rfl
  refine Up.start (fun c h0 hc hne => D.all c h0 hc (Nat.zero_le _) hne) (fun h0 c hc0 hc hp => ?_) hi (by rw [D.perm.length_eq, swap_len]; omega)
  rw [e]
  exact rem_kid h hn hi h0 c hc0 hc hp
theorem rem_went {l m : List α} {n i : Nat} (h : HeapFrom l (n + 1) 0) (hn : l.length = n + 1) (hi : i < n) (D : DnEnd (swapL l i n) n 0 i m true) : HeapFrom m n 0 := fun c h0 hc hl => by
  by_cases e : c = i
  · subst e
    obtain ⟨k, k0, k1, k2, k3⟩ := D.went rfl
    unfold ok
    rw [k3, D.out ((c - 1) / 2) (.inl (by omega))]
    exact rem_kid h hn hi h0 k k0 k1 k2
  · exact D.all c h0 hc hl e
theorem rem_end {l m : List α} {n i : Nat} (hn : l.length = n + 1) (hi : i < n) (hp : List.Perm m (swapL l i n)) (ho : m[n]! = (swapL l i n)[n]!) (hh : HeapFrom m n 0) : m[n]! = l[i]! ∧ List.Perm (l[i]! :: m.take n) l ∧ HeapFrom (m.take n) n 0 := by
  have sw := swap_at l (i := i) (j := n) (by omega) (by omega)
  have e : m[n]! = l[i]! := by rw [ho, sw, if_pos rfl]
  have hp' := hp.trans (perm_swap l (i := i) (j := n) (by omega) (by omega))
  refine ⟨e, ?_, heap_take hh⟩
  rw [← e]
  exact (perm_last (by rw [hp'.length_eq]; exact hn)).trans hp'
end Go.Proofs.YtaaegkjbmomjbaaDoor.Hp
