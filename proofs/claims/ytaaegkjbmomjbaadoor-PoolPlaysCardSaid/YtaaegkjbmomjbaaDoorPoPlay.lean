/- The program's pool and the document's, side by side. By the verifier of shale. -/
import Derived.Test.YtaaegkjbmomjbaaDoorPoRef5
import Derived.Test.YtaaegkjbmomjbaaDoorPoEach
import Derived.Test.YtaaegkjbmomjbaaDoorPoFirst
namespace Go.Proofs.YtaaegkjbmomjbaaDoor.Po
open Go Go.RowKit Hp
set_option linter.unusedVariables false
set_option linter.unusedSimpArgs false
theorem itLt_total {x y : It} (hb : x.b ≠ y.b) (h : itLt x y = false) : itLt y x = true := by
  unfold itLt at *
  simp only [Bool.or_eq_false_iff, Bool.and_eq_false_iff, decide_eq_false_iff_not, Bool.or_eq_true, Bool.and_eq_true, decide_eq_true_eq] at *
  omega
theorem itLt_trans {x y z : It} (h : itLt x y = true) (k : itLt y z = true) : itLt x z = true := by
  unfold itLt at *
  simp only [Bool.or_eq_true, Bool.and_eq_true, decide_eq_true_eq] at *
  omega
theorem at_mem {R : List It} {i : Nat} (hi : i < R.length) : R[i]! ∈ R := by rw [getElem!_pos R i hi]; exact List.getElem_mem hi
/-- both hold the same; the document's in order. -/
structure PM (M R : List It) : Prop where
  perm : List.Perm R M
  srt : R.Pairwise fun x y => itLt x y = true
  ok : ∀ y ∈ M, 0 ≤ y.b ∧ y.b < 64 ∧ 0 ≤ y.w ∧ y.w ≤ 1073741824
  nd : (M.map It.b).Nodup
theorem PM.nil : PM [] [] := ⟨List.Perm.refl _, List.Pairwise.nil, fun y h => absurd h List.not_mem_nil, List.nodup_nil⟩
theorem PM.ndR {M R : List It} (h : PM M R) : (R.map It.b).Nodup := (h.perm.map It.b).nodup_iff.2 h.nd
theorem PM.none {M R : List It} (h : PM M R) {b : Int} (hn : idx? R b = none) : ∀ y ∈ M, y.b ≠ b := fun y hy => idx_not hn y (h.perm.mem_iff.2 hy)
theorem PM.any {M R : List It} (h : PM M R) (b : Int) : (M.any fun y => decide (y.b = b)) = (idx? R b).isSome := (idx_isSome h.perm b).symm
theorem PM.small {M R : List It} (h : PM M R) : M.length ≤ 64 := by
  have h1 : (M.map fun y => y.b.toNat).Nodup := by
    have hn := h.nd
    unfold List.Nodup at hn ⊢
    rw [List.pairwise_map] at hn ⊢
    refine List.Pairwise.imp_of_mem ?_ hn
    intro a b ha hb hab e
    have := h.ok a ha
    have := h.ok b hb
    omega
  have h2 : ∀ x ∈ (M.map fun y => y.b.toNat), x ∈ List.range 64 := by
    intro x hx
    obtain ⟨y, hy, rfl⟩ := List.mem_map.1 hx
    have := h.ok y hy
    exact List.mem_range.2 (by omega)
  have h3 := List.Nodup.length_le_of_subset h1 h2
  simpa using h3
theorem PM.smallR {M R : List It} (h : PM M R) : R.length ≤ 64 := by rw [h.perm.length_eq]; exact h.small
theorem PM.add {M R : List It} (h : PM M R) {x : It} {k : Nat} (hx : 0 ≤ x.b ∧ x.b < 64 ∧ 0 ≤ x.w ∧ x.w ≤ 1073741824) (hno : ∀ y ∈ M, y.b ≠ x.b) (hk : insAt R x k) : PM (x :: M) (R.take k ++ x :: R.drop k) := by
  obtain ⟨k1, k2, k3⟩ := hk
  refine ⟨?_, ?_, fun y hy => ?_, ?_⟩
  · refine (List.perm_middle).trans (List.Perm.cons x ?_)
    rw [List.take_append_drop]
    exact h.perm
  · have hall : ∀ y ∈ R.drop k, itLt x y = true := by
      intro y hy
      obtain ⟨j, hj, rfl⟩ := List.mem_iff_getElem.1 hy
      rw [List.length_drop] at hj
      rw [List.getElem_drop]
      have hkl : k < R.length := by omega
      have hxk : itLt x (R[k]!) = true := itLt_total (hno _ (h.perm.mem_iff.1 (at_mem hkl))) (k3 hkl)
      rw [getElem!_pos R k hkl] at hxk
      by_cases e : j = 0
      · subst e; exact hxk
      · exact itLt_trans hxk (List.pairwise_iff_getElem.1 h.srt k (k + j) hkl (by omega) (by omega))
    have hbef : ∀ y ∈ R.take k, itLt y x = true := by
      intro y hy
      obtain ⟨j, hj, rfl⟩ := List.mem_iff_getElem.1 hy
      rw [List.length_take] at hj
      have := k2 j (by omega)
      rw [getElem!_pos R j (by omega)] at this
      rw [List.getElem_take]
      exact this
    have hsplit := h.srt
    rw [← List.take_append_drop k R, List.pairwise_append] at hsplit
    obtain ⟨s1, s2, s3⟩ := hsplit
    rw [List.pairwise_append, List.pairwise_cons]
    refine ⟨s1, ⟨hall, s2⟩, fun a ha b hb => ?_⟩
    rcases List.mem_cons.1 hb with rfl | hb
    · exact hbef a ha
    · exact s3 a ha b hb
  · rcases List.mem_cons.1 hy with rfl | hy
    · exact hx
    · exact h.ok y hy
  · rw [List.map_cons, List.nodup_cons]
    refine ⟨fun hm => ?_, h.nd⟩
    obtain ⟨y, hy, e⟩ := List.mem_map.1 hm
    exact hno y hy e
theorem PM.erase {M R : List It} (h : PM M R) {i : Nat} (hi : i < R.length) : R[i]! ∈ M ∧ PM (M.erase (R[i]!)) (R.eraseIdx i) := by
  have hm := h.perm.mem_iff.1 (at_mem hi)
  refine ⟨hm, ?_, List.Pairwise.sublist (List.eraseIdx_sublist R i) h.srt, fun y hy => h.ok y (List.mem_of_mem_erase hy), List.Nodup.sublist ((List.erase_sublist (a := R[i]!) (l := M)).map It.b) h.nd⟩
  have h1 : List.Perm (R[i]! :: R.eraseIdx i) R := by
    rw [getElem!_pos R i hi]
    rw [List.eraseIdx_eq_take_drop_succ]
    have e : R = R.take i ++ R[i] :: R.drop (i + 1) := by rw [← List.drop_eq_getElem_cons hi, List.take_append_drop]
    refine List.Perm.trans List.perm_middle.symm ?_
    rw [← e]
  exact erase_of h1 h.perm
theorem PM.tail {M R : List It} {x : It} (h : PM M (x :: R)) : x ∈ M ∧ (∀ y ∈ M, y ≠ x → itLt x y = true) ∧ PM (M.erase x) R := by
  have h1 := h.erase (i := 0) (by simp)
  refine ⟨h1.1, fun y hy hne => ?_, h1.2⟩
  rcases List.mem_cons.1 (h.perm.mem_iff.2 hy) with e | e
  · exact absurd e hne
  · exact (List.pairwise_cons.1 h.srt).1 y e
theorem PM.top {M R : List It} {k : Nat} (h : PM M R) (hk : MostAt R R.length (some k)) : k < R.length ∧ R[k]! ∈ M ∧ ∀ y ∈ M, ¬ more y (R[k]!) := by
  obtain ⟨h1, h2⟩ := hk
  refine ⟨h1, h.perm.mem_iff.1 (at_mem h1), fun y hy => ?_⟩
  obtain ⟨j, hj, rfl⟩ := List.mem_iff_getElem.1 (h.perm.mem_iff.2 hy)
  have := h2.2 j (by omega)
  rw [getElem!_pos R j hj] at this
  exact this
theorem PM.at {M R : List It} {k : Nat} (h : PM M R) (hk : k < R.length) : idx? R (R[k]!).b = some k := by
  cases hi : idx? R (R[k]!).b with
  | none => exact absurd rfl (idx_not hi _ (at_mem hk))
  | some i =>
    obtain ⟨h1, h2⟩ := idx_lt hi
    rw [getElem!_pos R i h1, getElem!_pos R k hk] at h2
    have e2 : (R.map It.b)[i]'(by simpa using h1) = (R.map It.b)[k]'(by simpa using hk) := by simp [h2]
    rw [(List.getElem_inj h.ndR).1 e2]
theorem PM.empty {M : List It} (h : PM M []) : M = [] := h.perm.symm.eq_nil
theorem PM.empty' {R : List It} (h : PM [] R) : R = [] := h.perm.eq_nil
theorem least_is {w : World} {base qb : Nat} {v : Value} {M : List It} (Q : PoolIs w base qb v M) {x : It} (hx : x ∈ M) (hmin : ∀ y ∈ M, y ≠ x → itLt x y = true) :
    Calls Tryd.prog 17 #[.pointer (some ⟨qb, 0, none⟩)] w fun e w' => e = .returned (.tuple #[.int .i64 x.b, .int .i64 x.w, .bool true]) ∧ Drawn w w' := by
  obtain ⟨L, Q, hp⟩ := Q
  have hxL := hp.mem_iff.2 hx
  have hne : 0 < L.length := List.length_pos_of_mem hxL
  refine least_some Q hne ?_
  obtain ⟨T, hT⟩ : ∃ T, List.Perm L (x :: T) := ⟨L.erase x, List.perm_cons_erase hxL⟩
  by_cases e : L[0]! = x
  · exact e
  · have h1 := hmin _ (hp.mem_iff.1 (at_mem hne)) e
    obtain ⟨i, hi, rfl⟩ := List.mem_iff_getElem.1 hxL
    have h2 := least_of Q.h i hi
    rw [getElem!_pos L i hi] at h2
    rw [show Lt.lt L[i] (L[0]!) = itLt L[i] (L[0]!) from rfl, h1] at h2
    cases h2
theorem least_nil {w : World} {base qb : Nat} {v : Value} (Q : PoolIs w base qb v []) :
    Calls Tryd.prog 17 #[.pointer (some ⟨qb, 0, none⟩)] w fun e w' => e = .returned (.tuple #[.int .i64 0, .int .i64 0, .bool false]) ∧ w = w' := by
  obtain ⟨L, Q, hp⟩ := Q
  cases hp.eq_nil
  exact least_none Q
/-- both pools in memory, and the variable that leads to the document's. -/
structure PC (w : World) (B pb xb xp : Nat) (v : Value) (M : List It) (a : Option Addr) (c : Nat) (R : List It) (W : World) : Prop where
  s : St w B pb v M W
  r : RefP W B xb a c R
  nil : a = none → c = 0
  ap : ∀ k ∈ qbl pb v, k ∉ rbl xb a
  x : W.heap[xp]? = some (.cells #[.pointer (some ⟨xb, 0, none⟩)] 26 (0, 0))
  xa : xp ∉ qbl pb v ∧ xp ∉ rbl xb a
  xB : B ≤ xp
section
variable {w W W' : World} {B pb xb xp c : Nat} {v : Value} {M M' R R' : List It} {a : Option Addr} {r : Value} {e : Ending}
theorem PC.below (S : PC w B pb xb xp v M a c R W) (b : Below W.heap.size W W') : PC w B pb xb xp v M a c R W' := ⟨S.s.below b, S.r.below b, S.nil, S.ap, (b.block xp (lt_of_block S.x)).trans S.x, S.xa, S.xB⟩
theorem PC.prog (S : PC w B pb xb xp v M a c R W) (h : OutIs W B pb v M' r e W') : ∃ v', e = .returned r ∧ PC w B pb xb xp v' M' a c R W' := by
  obtain ⟨v', rfl, s, t⟩ := S.s.out h
  have hnot : ∀ k ∈ rbl xb a, k ∉ qbl pb v := fun k hk hm => S.ap k hm hk
  refine ⟨v', rfl, s, S.r.same t.size fun k hk => t.same k (S.r.bl_lt k hk).2 (hnot k hk), S.nil, fun k hk hm => ?_, (t.same xp (lt_of_block S.x) S.xa.1).trans S.x, ⟨fun hm => ?_, S.xa.2⟩, S.xB⟩
  · rcases t.new k hk with h1 | h1
    · exact S.ap k h1 hm
    · have := (S.r.bl_lt k hm).2; omega
  · rcases t.new xp hm with h1 | h1
    · exact S.xa.1 h1
    · have := lt_of_block S.x; omega
theorem PC.ref (S : PC w B pb xb xp v M a c R W) (h : ROut W B xb a R' r e W') : ∃ a' c', e = .returned r ∧ PC w B pb xb xp v M a' c' R' W' := by
  obtain ⟨a', c', rfl, r', t, hne⟩ := h
  have hb : Below B W W' := ⟨t.os, t.tape, t.output, t.size, fun k hk => t.same k (by have := S.s.2.2.2; omega) fun hm => by have := (S.r.bl_lt k hm).1; omega⟩
  obtain ⟨s1, s2, s3, s4⟩ := S.s
  refine ⟨a', c', rfl, ⟨s1.same fun k hk => t.same k (s1.lt k hk).2 (S.ap k hk), s2.trans hb, s3, Nat.le_trans s4 t.size⟩, r', fun e => absurd e hne, fun k hk hm => ?_, (t.same xp (lt_of_block S.x) S.xa.2).trans S.x, ⟨S.xa.1, fun hm => ?_⟩, S.xB⟩
  · rcases t.new k hm with h1 | h1
    · exact S.ap k hk h1
    · have := (s1.lt k hk).2; omega
  · rcases t.new xp hm with h1 | h1
    · exact S.xa.2 h1
    · have := lt_of_block S.x; omega
theorem PC.ptr (S : PC w B pb xb xp v M a c R W) : W.cell? ⟨xp, 0, none⟩ = some (.pointer (some ⟨xb, 0, none⟩)) ∧ W.cell? ⟨xb, 0, none⟩ = some (.slice a R.length c) := ⟨by unfold World.cell?; simp only; rw [S.x]; rfl, S.r.cell.1⟩
end
end Go.Proofs.YtaaegkjbmomjbaaDoor.Po
