/- A table's list of slots: how long, and that there is one alone. By the verifier of shale. -/
import Derived.Test.YtpbckjagiebmjaaDoorTbSm
namespace Go.Proofs.YtpbckjagiebmjaaDoor.Tb
open Go Go.RowKit Go.ChangeMaps Go.MapKept Go.WideShapes
open Go.WideElems (Fit rd rg pl rd_key rd_val rg_of other_key)
open Go.Maps (Keyed)
set_option linter.unusedVariables false
set_option linter.unusedSimpArgs false
set_option maxRecDepth 100000 in
theorem entries_int {w : World} {mb nb : Nat} {D : DataW Unit} (h : w.ownsMap Tryd.prog 3 slR mb nb D) : ∃ es, D = .map es ∧ es.Pairwise (fun p q => p.1 ≠ q.1) ∧ ∀ p ∈ es, ∃ x, p.1 = kL x ∧ (Lit.int .i64 x).wf = true := by
  obtain ⟨es, clock, _, F, _, rfl⟩ := h
  refine ⟨_, rfl, ((sorted_perm _).pairwise_iff (fun {_ _} hne => Ne.symm hne)).2 (Maps.fit_apart keyI F), fun p hp => ?_⟩
  obtain ⟨x, hx, rfl⟩ := List.mem_map.1 (mem_sorted.1 hp)
  obtain ⟨y, hy⟩ := F.reads x hx
  rw [rg_of hy]
  obtain ⟨z, _, hz, hw⟩ := Maps.keyOf_int_inv Tryd.underlying3 (rd_key hy)
  exact ⟨z, hz, hw⟩
theorem list_len {w : World} {base tb mb ob B P cO : Nat} {kb : Nat → Nat} {kf : Nat → Nat → Int} {m : Int → Option Sl} {cnt nb : Nat} (T : TabAt w base tb mb ob B P cO kb kf m cnt nb) {L : List Sl} (h : ListOf m L) : L.length = cnt := by
  obtain ⟨D, hown, hsz, hD⟩ := T.map
  obtain ⟨es, rfl, hp, hk⟩ := entries_int hown
  have hwf : ∀ k s, m k = some s → s.k = k ∧ (Lit.int .i64 k).wf = true := fun k s hs => ⟨(T.here k s hs).1, wf_key (T.here k s hs).2.1 (T.here k s hs).2.2.1⟩
  have n1 : (es.map Prod.fst).Nodup := by
    unfold List.Nodup
    rw [List.pairwise_map]
    exact hp
  have n2 : (L.map fun s => kL s.k).Nodup := by
    have h2 := h.2.1
    unfold List.Nodup at h2 ⊢
    rw [List.pairwise_map] at h2 ⊢
    exact h2.imp fun hne => kL_ne hne
  have hm : ∀ kl, kl ∈ es.map Prod.fst ↔ kl ∈ L.map fun s => kL s.k := by
    intro kl
    constructor
    · intro hkl
      obtain ⟨p, hpe, rfl⟩ := List.mem_map.1 hkl
      obtain ⟨x, hx, hw⟩ := hk p hpe
      have hh : Maps.has (DataW.map es) (kL x) = true := List.any_eq_true.2 ⟨p, hpe, by rw [hx, sameKey_int]; simp⟩
      rcases hD x hw with ⟨_, e⟩ | ⟨s, e, _, _⟩
      · rw [hh] at e; cases e
      · have hsk := (hwf x s e).1
        rw [hx]
        exact List.mem_map.2 ⟨s, (h.1 s).2 (by rw [hsk]; exact e), by rw [hsk]⟩
    · intro hkl
      obtain ⟨s, hs, rfl⟩ := List.mem_map.1 hkl
      have e := (h.1 s).1 hs
      rcases hD s.k (hwf _ _ e).2 with ⟨e2, _⟩ | ⟨_, _, e2, _⟩
      · rw [e] at e2; cases e2
      · obtain ⟨p, hpe, hpk⟩ := List.any_eq_true.1 e2
        obtain ⟨x, hx, hw⟩ := hk p hpe
        rw [hx, sameKey_int] at hpk
        have hxk : x = s.k := by simpa using hpk
        exact List.mem_map.2 ⟨p, hpe, by rw [hx, hxk]⟩
  have hl := ((List.perm_ext_iff_of_nodup n1 n2).2 hm).length_eq
  simp only [List.length_map] at hl
  rw [← hl, ← hsz]
  rfl
theorem sorted_one {α : Type} (f : α → Int) : ∀ L M : List α, L.Pairwise (fun x y => f x < f y) → M.Pairwise (fun x y => f x < f y) → (∀ s, s ∈ L ↔ s ∈ M) → L = M
  | [], [], _, _, _ => rfl
  | [], y :: M, _, _, h => absurd ((h y).2 (List.mem_cons_self ..)) (List.not_mem_nil)
  | x :: L, [], _, _, h => absurd ((h x).1 (List.mem_cons_self ..)) (List.not_mem_nil)
  | x :: L, y :: M, hl, hm, h => by
    obtain ⟨l1, l2⟩ := List.pairwise_cons.1 hl
    obtain ⟨m1, m2⟩ := List.pairwise_cons.1 hm
    have e : x = y := by
      rcases List.mem_cons.1 ((h x).1 (List.mem_cons_self ..)) with e | e
      · exact e
      · rcases List.mem_cons.1 ((h y).2 (List.mem_cons_self ..)) with e2 | e2
        · exact e2.symm
        · have := m1 x e; have := l1 y e2; omega
    subst e
    congr 1
    refine sorted_one f L M l2 m2 fun s => ?_
    constructor
    · intro hs
      rcases List.mem_cons.1 ((h s).1 (List.mem_cons_of_mem _ hs)) with e | e
      · subst e; have := l1 s hs; omega
      · exact e
    · intro hs
      rcases List.mem_cons.1 ((h s).2 (List.mem_cons_of_mem _ hs)) with e | e
      · subst e; have := m1 s hs; omega
      · exact e
theorem ListOf.strict {m : Int → Option Sl} {L : List Sl} (h : ListOf m L) : L.Pairwise (fun x y => x.k < y.k) := by
  have h2 := h.2.1
  unfold List.Nodup at h2
  rw [List.pairwise_map] at h2
  exact (h2.and h.2.2).imp fun ⟨a, b⟩ => by omega
theorem listOf_one {m : Int → Option Sl} {L M : List Sl} (h : ListOf m L) (k : ListOf m M) : L = M := sorted_one Sl.k L M h.strict k.strict fun s => by rw [h.1 s, k.1 s]
/-- of a list without repeats within another that is no longer: all of it. -/
theorem sub_all {α : Type} [DecidableEq α] : ∀ A B : List α, A.Nodup → (∀ x ∈ A, x ∈ B) → B.length ≤ A.length → ∀ x ∈ B, x ∈ A
  | [], B, _, _, hl => by
    have : B = [] := List.length_eq_zero_iff.1 (by simpa using hl)
    subst this
    intro x hx; exact hx
  | a :: A, B, hn, hs, hl => by
    obtain ⟨n1, n2⟩ := List.nodup_cons.1 hn
    have haB := hs a (List.mem_cons_self ..)
    have ih := sub_all A (B.erase a) n2 (fun x hx => (List.mem_erase_of_ne (fun e => n1 (by rw [← e]; exact hx))).2 (hs x (List.mem_cons_of_mem _ hx))) (by rw [List.length_erase_of_mem haB]; simp at hl; omega)
    intro x hx
    by_cases e : x = a
    · rw [e]; exact List.mem_cons_self ..
    · exact List.mem_cons_of_mem _ (ih x ((List.mem_erase_of_ne e).2 hx))
theorem likeS_comm (x y : Sl) : likeS x y = likeS y x := by
  unfold likeS
  rw [Bool.eq_iff_iff]
  simp only [Bool.and_eq_true, beq_iff_eq]
  constructor <;> (rintro ⟨⟨⟨a, b⟩, c⟩, d⟩; exact ⟨⟨⟨a.symm, b.symm⟩, c.symm⟩, d.symm⟩)
theorem likeK_comm (x y : Sl) : likeK x y = likeK y x := by
  unfold likeK
  rw [likeS_comm, Bool.eq_iff_iff]
  simp only [Bool.and_eq_true, beq_iff_eq]
  constructor <;> (rintro ⟨a, b⟩; exact ⟨a.symm, b⟩)
theorem eqL_comm (L M : List Sl) : eqL L M = eqL M L := by
  unfold eqL
  rw [decide_eq_decide]
  constructor
  · rintro ⟨a, b⟩
    exact ⟨a.symm, fun i hi => by rw [likeK_comm]; exact b i (by omega)⟩
  · rintro ⟨a, b⟩
    exact ⟨a.symm, fun i hi => by rw [likeK_comm]; exact b i (by omega)⟩
theorem likeK_self (x : Sl) : likeK x x = true := by simp [likeK, likeS]
theorem eqL_self (L : List Sl) : eqL L L = true := by unfold eqL; exact decide_eq_true ⟨rfl, fun i _ => likeK_self _⟩
/-- what the other table says of a slot's key. -/
def goodS (m' : Int → Option Sl) (x : Sl) : Prop := ∃ s, m' x.k = some s ∧ likeS s x = true
theorem get_mem {L : List Sl} {i : Nat} (hi : i < L.length) : L[i]! ∈ L := by rw [getElem!_pos L i hi]; exact List.getElem_mem hi
theorem eqL_iff {m m' : Int → Option Sl} {L M : List Sl} (h : ListOf m L) (k : ListOf m' M) (hk' : ∀ j s, m' j = some s → s.k = j) : eqL L M = true ↔ L.length = M.length ∧ ∀ i, i < L.length → goodS m' (L[i]!) := by
  unfold eqL
  rw [decide_eq_true_iff]
  constructor
  · rintro ⟨a, b⟩
    refine ⟨a, fun i hi => ?_⟩
    have h1 := b i hi
    unfold likeK at h1
    simp only [Bool.and_eq_true, beq_iff_eq] at h1
    exact ⟨M[i]!, by rw [h1.1]; exact (k.1 _).1 (get_mem (by omega)), by rw [likeS_comm]; exact h1.2⟩
  · rintro ⟨a, b⟩
    have hkeys : L.map Sl.k = M.map Sl.k := by
      refine sorted_one id _ _ ?_ ?_ fun j => ?_
      · rw [List.pairwise_map]; exact h.strict
      · rw [List.pairwise_map]; exact k.strict
      · have sub : ∀ j ∈ L.map Sl.k, j ∈ M.map Sl.k := by
          intro j hj
          obtain ⟨x, hx, rfl⟩ := List.mem_map.1 hj
          obtain ⟨i, hi, rfl⟩ := List.mem_iff_getElem.1 hx
          obtain ⟨s, hs, _⟩ := b i hi
          rw [getElem!_pos L i hi] at hs
          have := hk' _ _ hs
          exact List.mem_map.2 ⟨s, (k.1 s).2 (by rw [this]; exact hs), this⟩
        exact ⟨sub j, sub_all _ _ h.2.1 sub (by simp; omega) j⟩
    refine ⟨a, fun i hi => ?_⟩
    obtain ⟨s, hs, hl⟩ := b i hi
    have hki : (L[i]!).k = (M[i]!).k := by
      have e : (L.map Sl.k)[i]? = (M.map Sl.k)[i]? := by rw [hkeys]
      rw [List.getElem?_map, List.getElem?_map, List.getElem?_eq_getElem hi, List.getElem?_eq_getElem (by omega)] at e
      rw [getElem!_pos L i hi, getElem!_pos M i (by omega)]
      simpa using e
    have hM := (k.1 _).1 (get_mem (show i < M.length by omega))
    rw [hki, hM] at hs
    cases hs
    unfold likeK
    rw [hki, likeS_comm, hl]
    simp
end Go.Proofs.YtpbckjagiebmjaaDoor.Tb
