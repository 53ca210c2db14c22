/- A pool beside a list of who is in it. By the verifier of shale. -/
import Derived.Test.YtaaegkjbmomjbaaDoorPoFirst
import Derived.Test.YtaaegkjbmomjbaaDoorBoolMem
import Derived.Test.YtaaegkjbmomjbaaDoorRow
namespace Go.Proofs.YtaaegkjbmomjbaaDoor.Po
open Go Go.RowKit Hp
set_option linter.unusedVariables false
set_option linter.unusedSimpArgs false
theorem and63 (z : Int) : bits .and .i64 z 63 = (((z % 64).toNat : Nat) : Int) := by
  show IntKind.i64.wrap ((BitVec.ofInt 64 z &&& BitVec.ofInt 64 63).toNat : Int) = _
  rw [BitVec.toNat_and, show (BitVec.ofInt 64 63).toNat = 2 ^ 6 - 1 by decide, Nat.and_two_pow_sub_one_eq_mod, BitVec.toNat_ofInt]
  rw [show (((z % ((2 ^ 64 : Nat) : Int)).toNat % 2 ^ 6 : Nat) : Int) = ((z % 64).toNat : Int) by omega]
  exact IntWalk.i64_in _ (by omega)
theorem and1023 (z : Int) : bits .and .i64 z 1023 = (((z % 1024).toNat : Nat) : Int) := by
  show IntKind.i64.wrap ((BitVec.ofInt 64 z &&& BitVec.ofInt 64 1023).toNat : Int) = _
  rw [BitVec.toNat_and, show (BitVec.ofInt 64 1023).toNat = 2 ^ 10 - 1 by decide, Nat.and_two_pow_sub_one_eq_mod, BitVec.toNat_ofInt]
  rw [show (((z % ((2 ^ 64 : Nat) : Int)).toNat % 2 ^ 10 : Nat) : Int) = ((z % 1024).toNat : Int) by omega]
  exact IntWalk.i64_in _ (by omega)
/-- each number of a row that came in. -/
theorem row_nums {w : World} {a : Option Addr} {len cap : Nat} {zs : List Int} (h : IsRow .i64 w a len cap zs) : ∀ i, i < len → ∃ bb off, a = some ⟨bb, off, none⟩ ∧ w.cell? ⟨bb, off + i, none⟩ = some (.int .i64 (zs.getD i 0)) ∧ bb < w.heap.size := by
  intro i hi
  rcases h with ⟨rfl, rfl, rfl, rfl⟩ | ⟨x, rfl, hl, hm, hz, hc, hw⟩
  · omega
  · obtain ⟨bb, off, spot⟩ := x
    have c0 := hc i (by omega)
    obtain rfl : spot = none := by simpa [Addr.add] using World.cell?_spot (hc 0 (by omega))
    rw [add_row] at c0
    exact ⟨bb, off, rfl, c0, World.block_lt_of_cell? w _ c0⟩
theorem BF.put {w : World} {g N : Nat} {p : Nat → Bool} (h : BF w g N p) (k : Nat) (b : Bool) : BF (w.setCell ⟨g, k, none⟩ (.bool b)) g N (fun i => if i = k then b else p i) := by
  unfold BF
  rw [heap_setCell_same w g k _ _ _ h]
  congr 2
  apply Array.ext
  · simp
  · intro i h1 h2
    simp at h1 h2
    by_cases e : i = k
    · subst e; simp
    · simp [e, Ne.symm e]
/-- the pool holds just those that p says, each so worn as u says. -/
def SetP (M : List It) (u : Nat → Int) (p : Nat → Bool) : Prop := (∀ x, x ∈ M ↔ ∃ i : Nat, i < 64 ∧ p i = true ∧ x = ⟨(i : Int), u i⟩) ∧ (M.map It.b).Nodup
theorem SetP.nil (u : Nat → Int) : SetP [] u (fun _ => false) := ⟨fun x => by simp, by simp⟩
theorem SetP.nodup {M : List It} {u : Nat → Int} {p : Nat → Bool} (h : SetP M u p) : M.Nodup := by
  have := h.2
  unfold List.Nodup at this ⊢
  rw [List.pairwise_map] at this
  exact this.imp fun h e => h (by rw [e])
theorem SetP.of {M : List It} {u u' : Nat → Int} {p q : Nat → Bool} (h : SetP M u p) (e : ∀ i, i < 64 → p i = q i) (e2 : ∀ i, i < 64 → p i = true → u i = u' i) : SetP M u' q := ⟨fun x => by
  rw [h.1 x]
  constructor
  · rintro ⟨i, h1, h2, h3⟩
    exact ⟨i, h1, by rw [← e i h1]; exact h2, by rw [← e2 i h1 h2]; exact h3⟩
  · rintro ⟨i, h1, h2, h3⟩
    exact ⟨i, h1, by rw [e i h1]; exact h2, by rw [e2 i h1 (by rw [e i h1]; exact h2)]; exact h3⟩, h.2⟩
theorem SetP.out {M : List It} {u : Nat → Int} {p : Nat → Bool} (h : SetP M u p) {i : Nat} (hp : p i = false) : ∀ y ∈ M, y.b ≠ (i : Int) := by
  intro y hy e
  obtain ⟨j, _, h2, rfl⟩ := (h.1 y).1 hy
  have : j = i := by simp only at e; omega
  subst this
  rw [hp] at h2
  cases h2
theorem SetP.add {M : List It} {u : Nat → Int} {p : Nat → Bool} (h : SetP M u p) {i : Nat} (hi : i < 64) (hp : p i = false) : SetP (⟨(i : Int), u i⟩ :: M) u (fun k => if k = i then true else p k) := by
  refine ⟨fun x => ?_, ?_⟩
  · rw [List.mem_cons, h.1 x]
    constructor
    · rintro (rfl | ⟨j, h1, h2, h3⟩)
      · exact ⟨i, hi, by simp, rfl⟩
      · exact ⟨j, h1, by by_cases e : j = i <;> simp [e, h2], h3⟩
    · rintro ⟨j, h1, h2, h3⟩
      by_cases e : j = i
      · subst e; exact .inl h3
      · simp only [if_neg e] at h2; exact .inr ⟨j, h1, h2, h3⟩
  · rw [List.map_cons, List.nodup_cons]
    refine ⟨fun hm => ?_, h.2⟩
    obtain ⟨y, hy, e⟩ := List.mem_map.1 hm
    exact h.out hp y hy e
theorem SetP.mem {M : List It} {u : Nat → Int} {p : Nat → Bool} (h : SetP M u p) {i : Nat} (hi : i < 64) (hp : p i = true) : (⟨(i : Int), u i⟩ : It) ∈ M := (h.1 _).2 ⟨i, hi, hp, rfl⟩
theorem SetP.erase {M : List It} {u : Nat → Int} {p : Nat → Bool} (h : SetP M u p) {i : Nat} (hi : i < 64) (hp : p i = true) : SetP (M.erase ⟨(i : Int), u i⟩) u (fun k => if k = i then false else p k) := by
  refine ⟨fun x => ?_, ?_⟩
  · rw [List.Nodup.mem_erase_iff h.nodup, h.1 x]
    constructor
    · rintro ⟨hne, j, h1, h2, rfl⟩
      refine ⟨j, h1, ?_, rfl⟩
      have : j ≠ i := fun e => hne (by rw [e])
      simp only [if_neg this]; exact h2
    · rintro ⟨j, h1, h2, rfl⟩
      by_cases e : j = i
      · simp only [if_pos e] at h2; cases h2
      · simp only [if_neg e] at h2
        exact ⟨fun e2 => e (by have := congrArg It.b e2; simp only at this; omega), j, h1, h2, rfl⟩
  · exact List.Nodup.sublist ((List.erase_sublist (a := (⟨(i : Int), u i⟩ : It)) (l := M)).map It.b) h.2
/-- so many of the first k. -/
def cnt (p : Nat → Bool) (k : Nat) : Nat := ((List.range k).filter p).length
theorem cnt_succ (p : Nat → Bool) (k : Nat) : cnt p (k + 1) = cnt p k + if p k then 1 else 0 := by
  unfold cnt
  rw [List.range_succ, List.filter_append, List.length_append]
  by_cases h : p k <;> simp [h]
theorem cnt_le (p : Nat → Bool) (k : Nat) : cnt p k ≤ k := by
  unfold cnt
  have := List.length_filter_le p (List.range k)
  rw [List.length_range] at this
  exact this
theorem SetP.len {M : List It} {u : Nat → Int} {p : Nat → Bool} (h : SetP M u p) : M.length = cnt p 64 := by
  have n2 : (((List.range 64).filter p).map fun i : Nat => (⟨(i : Int), u i⟩ : It)).Nodup := by
    have hr : ((List.range 64).filter p).Nodup := List.Pairwise.filter _ List.nodup_range
    unfold List.Nodup at hr ⊢
    rw [List.pairwise_map]
    exact hr.imp fun hne e => hne (by have := congrArg It.b e; simp only at this; omega)
  have := ((List.perm_ext_iff_of_nodup h.nodup n2).2 fun x => by
    rw [h.1 x, List.mem_map]
    constructor
    · rintro ⟨i, h1, h2, h3⟩
      exact ⟨i, List.mem_filter.2 ⟨List.mem_range.2 h1, h2⟩, h3.symm⟩
    · rintro ⟨i, h1, h3⟩
      obtain ⟨h1, h2⟩ := List.mem_filter.1 h1
      exact ⟨i, List.mem_range.1 h1, h2, h3.symm⟩).length_eq
  rw [this, List.length_map]
  rfl
theorem SetP.small {M : List It} {u : Nat → Int} {p : Nat → Bool} (h : SetP M u p) : M.length ≤ 1000 := by
  rw [h.len]
  have := cnt_le p 64
  omega
theorem SetP.any {M : List It} {u : Nat → Int} {p : Nat → Bool} (h : SetP M u p) {i : Nat} (hi : i < 64) : (M.any fun y => decide (y.b = (i : Int))) = p i := by
  cases hp : p i with
  | true => exact List.any_eq_true.2 ⟨_, h.mem hi hp, by simp⟩
  | false =>
    rw [List.any_eq_false]
    intro y hy
    simpa using h.out hp y hy
/-- the pool and the list beside it. -/
structure PSt (w : World) (B qb hb N : Nat) (v : Value) (M : List It) (u : Nat → Int) (p : Nat → Bool) (W : World) : Prop where
  s : St w B qb v M W
  f : BF W hb N p
  far : hb ∉ qbl qb v
  hB : B ≤ hb
section
variable {w W W' : World} {B qb hb N : Nat} {v : Value} {M M' : List It} {u : Nat → Int} {p : Nat → Bool}
theorem PSt.out (S : PSt w B qb hb N v M u p W) {r : Value} {e : Ending} (h : OutIs W B qb v M' r e W') : ∃ v', e = .returned r ∧ PSt w B qb hb N v' M' u p W' := by
  obtain ⟨v', rfl, s, t⟩ := S.s.out h
  refine ⟨v', rfl, s, (t.same hb S.f.lt S.far).trans S.f, fun hm => ?_, S.hB⟩
  rcases t.new hb hm with h1 | h1
  · exact S.far h1
  · have := S.f.lt; omega
theorem PSt.below (S : PSt w B qb hb N v M u p W) (b : Below W.heap.size W W') : PSt w B qb hb N v M u p W' := ⟨S.s.below b, (b.block hb S.f.lt).trans S.f, S.far, S.hB⟩
theorem PSt.put (S : PSt w B qb hb N v M u p W) (k : Nat) (b : Bool) : PSt w B qb hb N v M u (fun i => if i = k then b else p i) (W.setCell ⟨hb, k, none⟩ (.bool b)) := by
  have o := Only.setCell W ⟨hb, k, none⟩ (.bool b)
  obtain ⟨s1, s2, s3, s4⟩ := S.s
  refine ⟨⟨s1.same fun j hj => o.block j fun e => S.far (by rw [← show j = hb from e]; exact hj), s2.trans (o.below S.hB), s3, by rw [o.size]; exact s4⟩, BF.put S.f k b, S.far, S.hB⟩
end
end Go.Proofs.YtaaegkjbmomjbaaDoor.Po
