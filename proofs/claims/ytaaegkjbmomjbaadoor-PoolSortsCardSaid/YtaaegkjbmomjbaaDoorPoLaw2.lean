/- A pool beside numbers and marks. By the verifier of shale. -/
import Derived.Test.YtaaegkjbmomjbaaDoorPoLaw
namespace Go.Proofs.YtaaegkjbmomjbaaDoor.Po
open Go Go.RowKit Hp
set_option linter.unusedVariables false
set_option linter.unusedSimpArgs false
/-- block g is the first n values of f. -/
def F64 (W : World) (g n : Nat) (f : Nat → Int) : Prop := Blk64 W g ((List.range n).map f)
theorem F64.lt {W : World} {g n : Nat} {f : Nat → Int} (h : F64 W g n f) : g < W.heap.size := Blk64.lt h
theorem F64.cell {W : World} {g n : Nat} {f : Nat → Int} (h : F64 W g n f) {i : Nat} (hi : i < n) : W.cell? ⟨g, i, none⟩ = some (.int .i64 (f i)) := by
  have := Blk64.cell h (i := i) (by simpa using hi)
  rw [show nth64 ((List.range n).map f) i = f i from by unfold nth64; simp [hi]] at this
  exact this
theorem F64.free {W : World} {g n : Nat} {f : Nat → Int} (h : F64 W g n f) (i : Nat) : W.frozen? ⟨g, i, none⟩ = false := Blk64.free h i
theorem F64.put {W : World} {g n : Nat} {f : Nat → Int} (h : F64 W g n f) {i : Nat} (hi : i < n) (c : Int) : F64 (W.setCell ⟨g, i, none⟩ (.int .i64 c)) g n (fun k => if k = i then c else f k) := by
  have h1 := Blk64.set h i c
  unfold F64
  have e : ((List.range n).map f).set i c = (List.range n).map (fun k => if k = i then c else f k) := by
    apply List.ext_getElem
    · simp
    · intro k h1 h2
      simp at h1 h2
      rw [List.getElem_set]
      by_cases e : i = k
      · subst e; simp
      · rw [if_neg e]; simp [Ne.symm e]
  rw [← e]
  exact h1
theorem F64.new (W : World) (n : Nat) : F64 (W.alloc (obj64 (List.replicate n 0))) W.heap.size n (fun _ => 0) := by
  have e : (List.range n).map (fun _ => (0 : Int)) = List.replicate n 0 := by
    apply List.ext_getElem
    · simp
    · intro k h1 h2; simp
  unfold F64
  rw [e]
  exact Blk64.new W _
structure QSt (w : World) (B qb hw n : Nat) (v : Value) (M : List It) (f : Nat → Int) (W : World) : Prop where
  s : St w B qb v M W
  f : F64 W hw n f
  far : hw ∉ qbl qb v
  hB : B ≤ hw
structure RSt (w : World) (B qb hw hs n : Nat) (v : Value) (M : List It) (f : Nat → Int) (p : Nat → Bool) (W : World) : Prop where
  q : QSt w B qb hw n v M f W
  g : BF W hs n p
  far : hs ∉ qbl qb v
  hB : B ≤ hs
  ne : hw ≠ hs
section
variable {w W W' : World} {B qb hw hs n : Nat} {v : Value} {M M' : List It} {f : Nat → Int} {p : Nat → Bool}
theorem QSt.out (S : QSt w B qb hw n v M f W) {r : Value} {e : Ending} (h : OutIs W B qb v M' r e W') : ∃ v', e = .returned r ∧ QSt w B qb hw n v' M' f W' ∧ Tn (qbl qb v) W W' (qbl qb v') := by
  obtain ⟨v', rfl, s, t⟩ := S.s.out h
  refine ⟨v', rfl, ⟨s, (t.same hw S.f.lt S.far).trans S.f, fun hm => ?_, S.hB⟩, t⟩
  rcases t.new hw hm with h1 | h1
  · exact S.far h1
  · have := S.f.lt; omega
theorem QSt.below (S : QSt w B qb hw n v M f W) (b : Below W.heap.size W W') : QSt w B qb hw n v M f W' := ⟨S.s.below b, (b.block hw S.f.lt).trans S.f, S.far, S.hB⟩
theorem St.only (S : St w B qb v M W) {g : Nat} (o : Only g W W') (hg : g ∉ qbl qb v) (hb : B ≤ g) : St w B qb v M W' := by
  obtain ⟨s1, s2, s3, s4⟩ := S
  exact ⟨s1.same fun j hj => o.block j fun e => hg (by rw [← e]; exact hj), s2.trans (o.below hb), s3, by rw [o.size]; exact s4⟩
theorem QSt.put (S : QSt w B qb hw n v M f W) {i : Nat} (hi : i < n) (c : Int) : QSt w B qb hw n v M (fun k => if k = i then c else f k) (W.setCell ⟨hw, i, none⟩ (.int .i64 c)) :=
  ⟨S.s.only (Only.setCell W ⟨hw, i, none⟩ _) S.far S.hB, S.f.put hi c, S.far, S.hB⟩
theorem RSt.out (S : RSt w B qb hw hs n v M f p W) {r : Value} {e : Ending} (h : OutIs W B qb v M' r e W') : ∃ v', e = .returned r ∧ RSt w B qb hw hs n v' M' f p W' := by
  obtain ⟨v', rfl, s, t⟩ := S.q.out h
  refine ⟨v', rfl, s, (t.same hs S.g.lt S.far).trans S.g, fun hm => ?_, S.hB, S.ne⟩
  rcases t.new hs hm with h1 | h1
  · exact S.far h1
  · have := S.g.lt; omega
theorem RSt.below (S : RSt w B qb hw hs n v M f p W) (b : Below W.heap.size W W') : RSt w B qb hw hs n v M f p W' := ⟨S.q.below b, (b.block hs S.g.lt).trans S.g, S.far, S.hB, S.ne⟩
theorem RSt.put (S : RSt w B qb hw hs n v M f p W) (k : Nat) (b : Bool) : RSt w B qb hw hs n v M f (fun i => if i = k then b else p i) (W.setCell ⟨hs, k, none⟩ (.bool b)) := by
  have o := Only.setCell W ⟨hs, k, none⟩ (.bool b)
  exact ⟨⟨S.q.s.only o S.far S.hB, (o.block hw S.ne).trans S.q.f, S.q.far, S.q.hB⟩, BF.put S.g k b, S.far, S.hB, S.ne⟩
end
/-- where the last one stood, as the law keeps it. -/
def lastI : Option Nat → Int
  | none => -1
  | some j => (j : Int)
/-- those that are left come behind the last one. -/
def Behind (turned : Bool) (M : List It) (u : Nat → Int) : Option Nat → Prop
  | none => True
  | some j => ∀ y ∈ M, if turned = true then ¬ more y ⟨(j : Int), u j⟩ else itLt y ⟨(j : Int), u j⟩ = false
theorem Behind.sub {t : Bool} {M M' : List It} {u : Nat → Int} {l : Option Nat} (h : Behind t M u l) (hs : ∀ y ∈ M', y ∈ M) : Behind t M' u l := by
  cases l with
  | none => trivial
  | some j => exact fun y hy => h y (hs y hy)
end Go.Proofs.YtaaegkjbmomjbaaDoor.Po
