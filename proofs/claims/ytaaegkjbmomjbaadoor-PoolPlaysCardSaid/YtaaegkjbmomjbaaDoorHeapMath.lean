/- A list in a heap's order: what going down, and up, leaves. By the verifier of shale. -/
import Derived.Test.YtaaegkjbmomjbaaDoorBits
namespace Go.Proofs.YtaaegkjbmomjbaaDoor.Hp
set_option linter.unusedVariables false
set_option linter.unusedSimpArgs false
/-- an order of which one of two comes ahead, or neither. -/
class Lt (α : Type) where
  lt : α → α → Bool
  asym : ∀ a b, lt a b = true → lt b a = false
  tr : ∀ a b c, lt b a = false → lt c b = false → lt c a = false
open Lt
theorem irr {α : Type} [Lt α] (a : α) : lt a a = false := by
  cases h : lt a a with
  | false => rfl
  | true => exact absurd (asym a a h) (by rw [h]; decide)
/-- two places, exchanged. -/
def swapL {α : Type} [Inhabited α] (l : List α) (i j : Nat) : List α := (l.set i l[j]!).set j l[i]!
theorem swap_len {α : Type} [Inhabited α] (l : List α) (i j : Nat) : (swapL l i j).length = l.length := by unfold swapL; simp
theorem set_at {α : Type} [Inhabited α] (l : List α) {i : Nat} (hi : i < l.length) (x : α) (k : Nat) : (l.set i x)[k]! = if k = i then x else l[k]! := by
  by_cases e : k = i
  · subst e
    rw [if_pos rfl, getElem!_pos _ k (by simpa using hi)]
    simp
  · rw [if_neg e]
    by_cases hk : k < l.length
    · rw [getElem!_pos _ k (by simpa using hk), getElem!_pos l k hk, List.getElem_set_ne (Ne.symm e)]
    · rw [getElem!_neg _ k (by simpa using hk), getElem!_neg l k hk]
theorem swap_at {α : Type} [Inhabited α] (l : List α) {i j : Nat} (hi : i < l.length) (hj : j < l.length) (k : Nat) : (swapL l i j)[k]! = if k = j then l[i]! else if k = i then l[j]! else l[k]! := by
  unfold swapL
  rw [set_at _ (by simpa using hj), set_at l hi]
theorem perm_swap {α : Type} [Inhabited α] (l : List α) {i j : Nat} (hi : i < l.length) (hj : j < l.length) : List.Perm (swapL l i j) l := by
  have h := Array.swap_perm (xs := l.toArray) (i := i) (j := j) (by simpa using hi) (by simpa using hj)
  have h2 := Array.perm_iff_toList_perm.1 h
  simp only [Array.toList_swap] at h2
  unfold swapL
  rw [getElem!_pos l i hi, getElem!_pos l j hj]
  simpa using h2
variable {α : Type} [Inhabited α] [Lt α]
/-- the child does not come ahead of its parent. -/
def ok (l : List α) (c : Nat) : Prop := lt (l[c]!) (l[(c - 1) / 2]!) = false
/-- so many first ones are in order, from the parents lo on. -/
def HeapFrom (l : List α) (n lo : Nat) : Prop := ∀ c, 0 < c → c < n → lo ≤ (c - 1) / 2 → ok l c
theorem least_of {l : List α} {n : Nat} (h : HeapFrom l n 0) : ∀ c, c < n → lt (l[c]!) (l[0]!) = false := by
  intro c
  induction c using Nat.strongRecOn with
  | ind c ih =>
    intro hc
    by_cases e : c = 0
    · subst e; exact irr _
    · have h1 := h c (by omega) hc (Nat.zero_le _)
      have h2 := ih ((c - 1) / 2) (by omega) (by omega)
      exact tr _ _ _ h2 h1
/-- going down from i0: where it stands. -/
structure Dn (l : List α) (n lo i0 : Nat) (m : List α) (i : Nat) : Prop where
  perm : List.Perm m l
  out : ∀ k, k < i0 ∨ n ≤ k → m[k]! = l[k]!
  a : ∀ c, 0 < c → c < n → lo ≤ (c - 1) / 2 → (c - 1) / 2 ≠ i → c ≠ i0 → ok m c
  b : i ≠ i0 → ∀ c, 0 < c → c < n → (c - 1) / 2 = i → lt (m[c]!) (m[(i - 1) / 2]!) = false
  c0 : i = i0 → m = l
  c1 : i ≠ i0 → ∃ c, 0 < c ∧ c < n ∧ (c - 1) / 2 = i0 ∧ m[i0]! = l[c]!
  le : i0 ≤ i ∧ (i = i0 ∨ i < n)
  lo_le : lo ≤ i0
  len : n ≤ l.length
theorem Dn.start {l : List α} {n lo i0 : Nat} (h : ∀ c, 0 < c → c < n → lo ≤ (c - 1) / 2 → (c - 1) / 2 ≠ i0 → c ≠ i0 → ok l c) (h1 : lo ≤ i0) (h3 : n ≤ l.length) : Dn l n lo i0 l i0 :=
  ⟨List.Perm.refl _, fun _ _ => rfl, h, fun e => absurd rfl e, fun _ => rfl, fun e => absurd rfl e, ⟨Nat.le_refl _, .inl rfl⟩, h1, h3⟩
/-- one step: to the child j that comes first. -/
theorem Dn.step {l m : List α} {n lo i0 i j : Nat} (h : Dn l n lo i0 m i) (hj : 0 < j) (hp : (j - 1) / 2 = i) (hn : j < n) (hmin : ∀ c, 0 < c → c < n → (c - 1) / 2 = i → lt (m[c]!) (m[j]!) = false) (hlt : lt (m[j]!) (m[i]!) = true) : Dn l n lo i0 (swapL m i j) j := by
  have hml : m.length = l.length := h.perm.length_eq
  have hlen := h.len
  have hi := h.le
  have hij : i < j := by omega
  have hil : i < m.length := by omega
  have hjl : j < m.length := by omega
  have sw := swap_at m hil hjl
  refine ⟨(perm_swap m hil hjl).trans h.perm, fun k hk => ?_, fun c h0 hc hl hpc hci => ?_, fun _ c h0 hc hpc => ?_, fun e => absurd e (by omega), fun _ => ?_, ⟨by omega, .inr hn⟩, h.lo_le, hlen⟩
  · rw [sw, if_neg (by omega), if_neg (by omega)]
    exact h.out k hk
  · unfold ok
    rw [sw, sw]
    by_cases e1 : c = j
    · subst e1
      rw [if_pos rfl, if_neg (by omega), if_pos hp]
      exact asym _ _ hlt
    · rw [if_neg e1]
      by_cases e2 : (c - 1) / 2 = i
      · rw [if_neg (by omega), if_neg (by omega), if_pos e2]
        exact hmin c h0 hc e2
      · by_cases e3 : c = i
        · subst e3
          rw [if_pos rfl, if_neg (by omega), if_neg (by omega)]
          have hb := h.b hci j hj hn hp
          exact hb
        · rw [if_neg e3, if_neg hpc, if_neg e2]
          exact h.a c h0 hc hl e2 hci
  · rw [sw, sw, if_neg (by omega), if_neg (by omega), if_neg (by omega), if_pos hp]
    have := h.a c h0 hc (by have := h.lo_le; omega) (by omega) (by omega)
    unfold ok at this
    rw [hpc] at this
    exact this
  · by_cases e : i = i0
    · refine ⟨j, hj, hn, by omega, ?_⟩
      rw [sw, if_neg (by omega), if_pos e.symm, h.c0 e]
    · obtain ⟨c, g0, g1, g2, g3⟩ := h.c1 e
      exact ⟨c, g0, g1, g2, by rw [sw, if_neg (by omega), if_neg (by omega)]; exact g3⟩
/-- what going down leaves. -/
structure DnEnd (l : List α) (n lo i0 : Nat) (m : List α) (moved : Bool) : Prop where
  perm : List.Perm m l
  out : ∀ k, k < i0 ∨ n ≤ k → m[k]! = l[k]!
  all : ∀ c, 0 < c → c < n → lo ≤ (c - 1) / 2 → c ≠ i0 → ok m c
  stay : moved = false → m = l
  went : moved = true → ∃ c, 0 < c ∧ c < n ∧ (c - 1) / 2 = i0 ∧ m[i0]! = l[c]!
theorem Dn.stop {l m : List α} {n lo i0 i : Nat} (h : Dn l n lo i0 m i) (hs : ∀ c, 0 < c → c < n → (c - 1) / 2 = i → ok m c) : DnEnd l n lo i0 m (decide (i0 < i)) := by
  have hi := h.le
  refine ⟨h.perm, h.out, fun c h0 hc hl hci => ?_, fun e => ?_, fun e => ?_⟩
  · by_cases e : (c - 1) / 2 = i
    · exact hs c h0 hc e
    · exact h.a c h0 hc hl e hci
  · have := of_decide_eq_false e
    exact h.c0 (by omega)
  · have := of_decide_eq_true e
    exact h.c1 (by omega)
/-- where there is nothing to go down in. -/
theorem DnEnd.none {l : List α} {n lo i0 : Nat} (h : n ≤ i0 + 1) (h2 : ∀ c, 0 < c → c < n → lo ≤ (c - 1) / 2 → c ≠ i0 → ok l c) : DnEnd l n lo i0 l false :=
  ⟨List.Perm.refl _, fun _ _ => rfl, h2, fun _ => rfl, fun e => nomatch e⟩
/-- a round of Init. -/
theorem DnEnd.init {l m : List α} {n i : Nat} {r : Bool} (h : DnEnd l n i i m r) : HeapFrom m n i := fun c h0 hc hl => h.all c h0 hc hl (by omega)
theorem HeapFrom.pre {l : List α} {n i : Nat} (h : HeapFrom l n (i + 1)) : ∀ c, 0 < c → c < n → i ≤ (c - 1) / 2 → (c - 1) / 2 ≠ i → c ≠ i → ok l c := fun c h0 hc h1 h2 _ => h c h0 hc (by omega)
/-- going up: all is in order but the one that goes up. -/
structure Up (l : List α) (n : Nat) (m : List α) (j : Nat) : Prop where
  perm : List.Perm m l
  out : ∀ k, n ≤ k → m[k]! = l[k]!
  a : ∀ c, 0 < c → c < n → c ≠ j → ok m c
  b : 0 < j → ∀ c, 0 < c → c < n → (c - 1) / 2 = j → lt (m[c]!) (m[(j - 1) / 2]!) = false
  lt : j < n
  len : n ≤ l.length
theorem Up.start {l : List α} {n j : Nat} (h : ∀ c, 0 < c → c < n → c ≠ j → ok l c) (hb : 0 < j → ∀ c, 0 < c → c < n → (c - 1) / 2 = j → Lt.lt (l[c]!) (l[(j - 1) / 2]!) = false) (h2 : j < n) (h3 : n ≤ l.length) : Up l n l j :=
  ⟨List.Perm.refl _, fun _ _ => rfl, h, hb, h2, h3⟩
theorem Up.step {l m : List α} {n j : Nat} (h : Up l n m j) (hj : 0 < j) (hlt : Lt.lt (m[j]!) (m[(j - 1) / 2]!) = true) : Up l n (swapL m ((j - 1) / 2) j) ((j - 1) / 2) := by
  obtain ⟨i, hi⟩ : ∃ i, i = (j - 1) / 2 := ⟨_, rfl⟩
  rw [← hi] at hlt ⊢
  have hml : m.length = l.length := h.perm.length_eq
  have hlen := h.len
  have hjn := h.lt
  have hij : i < j := by omega
  have hil : i < m.length := by omega
  have hjl : j < m.length := by omega
  have sw := swap_at m hil hjl
  refine ⟨(perm_swap m hil hjl).trans h.perm, fun k hk => ?_, fun c h0 hc hci => ?_, fun hi0 c h0 hc hpc => ?_, by omega, hlen⟩
  · rw [sw, if_neg (by omega), if_neg (by omega)]
    exact h.out k hk
  · unfold ok
    rw [sw, sw]
    by_cases e1 : c = j
    · subst e1
      rw [if_pos rfl, if_neg (by omega), if_pos (by omega)]
      exact asym _ _ hlt
    · rw [if_neg e1, if_neg hci]
      by_cases e2 : (c - 1) / 2 = j
      · rw [if_pos e2]
        have := h.b hj c h0 hc e2
        rw [← hi] at this
        exact this
      · rw [if_neg e2]
        by_cases e3 : (c - 1) / 2 = i
        · rw [if_pos e3]
          have h1 := h.a c h0 hc e1
          unfold ok at h1
          rw [e3] at h1
          exact tr _ _ _ (asym _ _ hlt) h1
        · rw [if_neg e3]
          exact h.a c h0 hc e1
  · rw [sw, sw]
    have hpi : (i - 1) / 2 < i := by omega
    rw [if_neg (show (i - 1) / 2 ≠ j by omega), if_neg (show (i - 1) / 2 ≠ i by omega)]
    have hio := h.a i hi0 (by omega) (by omega)
    unfold ok at hio
    by_cases e1 : c = j
    · subst e1
      rw [if_pos rfl]
      exact hio
    · rw [if_neg e1, if_neg (by omega)]
      have h1 := h.a c h0 hc e1
      unfold ok at h1
      rw [hpc] at h1
      exact tr _ _ _ hio h1
/-- what going up leaves. -/
structure UpEnd (l : List α) (n : Nat) (m : List α) : Prop where
  perm : List.Perm m l
  out : ∀ k, n ≤ k → m[k]! = l[k]!
  heap : HeapFrom m n 0
theorem Up.stop {l m : List α} {n j : Nat} (h : Up l n m j) (hs : 0 < j → ok m j) : UpEnd l n m := by
  refine ⟨h.perm, h.out, fun c h0 hc _ => ?_⟩
  by_cases e : c = j
  · subst e; exact hs h0
  · exact h.a c h0 hc e
end Go.Proofs.YtaaegkjbmomjbaaDoor.Hp
