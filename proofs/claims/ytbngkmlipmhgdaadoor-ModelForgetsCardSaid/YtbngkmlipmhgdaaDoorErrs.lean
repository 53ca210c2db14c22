/- What the listed error variables give the walks: each holds an error of its own. By the verifier of shale. -/
import Derived.Test.YtbngkmlipmhgdaaDoorBase
import Derived.LaidLaws
import Derived.LaidEql
import Derived.Stop.LaidErr
namespace Go.Proofs.YtbngkmlipmhgdaaDoor
open Go Go.RowKit Go.ChangeShapes
set_option linter.unusedVariables false
/-- an error as errors.New makes it, read through. -/
def errD {H : Type} (text : List UInt8) : DataW H := .iface "*errors.errorString" (.ptr (.agg [.lit (.string text)]))
theorem nameStar : "*" ++ "errors.errorString" = "*errors.errorString" := by decide
theorem rowErr (u : TypeId) (h : Tryd.prog.typeName? 3 u = some "*errors.errorString") : u = 76 :=
  typeName_ptr_named (nm := "errors.errorString") (by rw [nameStar]; kernel_rfl) (by kernel_rfl) (by decide) u (by rw [nameStar]; exact h)
theorem cellsErr : Tryd.prog.cellsOf 93 = 1 := by kernel_rfl
theorem cellsStr : Tryd.prog.cellsOf 9 = 1 := by kernel_rfl
/-- an error variable's cell: the error itself, at address a. -/
def Sent (w : World) (g : Nat) (a : Addr) : Prop := w.cell? ⟨g, 0, none⟩ = some (.iface 76 (.pointer (some a)))
abbrev errOf (a : Addr) : Value := .iface 76 (.pointer (some a))
/-- .. and it leads to a row that nothing marks. -/
def ErrAt (w : World) (g : Nat) (a : Addr) : Prop := Sent w g a ∧ g < w.heap.size ∧ a.block < w.heap.size ∧ ∃ c t, w.heap[a.block]? = some (.cells c t (0, 0))
theorem Sent.below {B : Nat} {w w' : World} {g : Nat} {a : Addr} (h : Sent w g a) (b : Below B w w') (hg : g < B) : Sent w' g a := (b.cell (p := ⟨g, 0, none⟩) hg).trans h
theorem ErrAt.below {w w' : World} {g : Nat} {a : Addr} (h : ErrAt w g a) (b : Below w.heap.size w w') : ErrAt w' g a := by
  obtain ⟨h1, h2, h3, c, t, h4⟩ := h
  exact ⟨h1.below b h2, Nat.lt_of_lt_of_le h2 b.size, Nat.lt_of_lt_of_le h3 b.size, c, t, (b.block _ h3).trans h4⟩
theorem ErrAt.since {w w' : World} {g : Nat} {a : Addr} {B : Nat} (h : ErrAt w g a) (hB : w.heap.size ≤ B) (b : Below B w w') : ErrAt w' g a := h.below (b.mono hB)
theorem ErrAt.drawn {w w' : World} {g : Nat} {a : Addr} (h : ErrAt w g a) (d : Drawn w w') : ErrAt w' g a := h.below (d.below _)
/-- which entries of a list are errors. -/
def IsErr (L : List (String × DataW Unit)) (i g : Nat) : Prop := ∃ n text, L[i]? = some (n, errD text) ∧ Tryd.prog.globalNamed n = some g ∧ (Tryd.prog.globals[g]?).map (·.type) = some 26
set_option maxRecDepth 100000 in
theorem laid_errs {W : World} : ∀ (L : List (String × DataW Unit)) (ps : List MemPlace), DataW.LaidVars Tryd.prog W L ps →
    (∀ b off, MemPlace.cell b off ∈ ps → (∃ c t, W.heap[b]? = some (.cells c t (0, 0))) ∧ ∀ u v, W.cell? ⟨b, off, none⟩ = some (.iface u v) → Value.okWide Tryd.prog W .any 0 u v) → ps.Nodup →
    ∃ f : Nat → Addr, (∀ i g, IsErr L i g → ErrAt W g (f i) ∧ MemPlace.cell (f i).block (f i).off ∈ ps) ∧ (∀ i j g k, IsErr L i g → IsErr L j k → i ≠ j → f i ≠ f j)
  | [], ps, h, _, _ => ⟨fun _ => ⟨0, 0, none⟩, fun i g ⟨n, t, e, _⟩ => by simp at e, fun i j g k ⟨n, t, e, _⟩ => by simp at e⟩
  | (n, d) :: r, ps, h, hrows, hnd => by
    obtain ⟨g, t, cs, fuel, p, q, hg, ht, hv, hd, hq, rfl⟩ := h
    have hndq : q.Nodup := List.Nodup.sublist (List.sublist_append_right _ _) hnd
    obtain ⟨f, f1, f2⟩ := laid_errs r q hq (fun b off hm => hrows b off (List.mem_append_right _ hm)) hndq
    by_cases hc : ∃ k, IsErr ((n, d) :: r) 0 k
    · obtain ⟨k, n', text, he, hk, hkt⟩ := hc
      simp only [List.getElem?_cons_zero, Option.some.injEq, Prod.mk.injEq] at he
      obtain ⟨rfl, rfl⟩ := he
      obtain rfl := Option.some.inj (hk.symm.trans hg)
      obtain rfl := Option.some.inj (hkt.symm.trans ht)
      obtain ⟨l0⟩ := cs
      have ok0 : ∀ u v, l0 = [.iface u v] → Value.okWide Tryd.prog W .any 0 u v := fun u v e => by
        subst e
        exact (hrows k 0 (by simp [MemPlace.row])).2 u v (by simpa using World.var?_cell hg hv 0)
      obtain ⟨a0, s0, rfl, hc0, hs0, hz0, rfl⟩ := errorString_of_trod Tryd.underlying26 rowErr Tryd.underlying76 Tryd.underlying93 rfl rfl Tryd.underlying9 cellsErr cellsStr hd ok0
      have hcell : W.cell? ⟨k, 0, none⟩ = some (.iface 76 (.pointer (some a0))) := by simpa using World.var?_cell hg hv 0
      have hmem : MemPlace.cell a0.block a0.off ∈ MemPlace.row a0 1 := by simp [MemPlace.row]
      obtain ⟨c, t0, hrow⟩ := (hrows a0.block a0.off (List.mem_append_left _ (List.mem_append_right _ hmem))).1
      have hE : ErrAt W k a0 := ⟨hcell, World.block_lt_of_cell? W _ hcell, lt_of_block hrow, c, t0, hrow⟩
      have hdis : ∀ x, x ∈ MemPlace.row a0 1 → x ∉ q := fun x hx hxq => (List.nodup_append.1 hnd).2.2 x (List.mem_append_right _ hx) x hxq rfl
      refine ⟨fun i => if i = 0 then a0 else f (i - 1), ?_, ?_⟩
      · intro i g' hi
        cases i with
        | zero =>
          obtain ⟨n2, text2, he2, hk2, _⟩ := hi
          simp only [List.getElem?_cons_zero, Option.some.injEq, Prod.mk.injEq] at he2
          obtain ⟨rfl, _⟩ := he2
          obtain rfl := Option.some.inj (hk.symm.trans hk2)
          exact ⟨hE, List.mem_append_left _ (List.mem_append_right _ hmem)⟩
        | succ i =>
          have := f1 i g' hi
          exact ⟨this.1, List.mem_append_right _ this.2⟩
      · intro i j g' k' hi hj hij
        cases i with
        | zero =>
          cases j with
          | zero => exact absurd rfl hij
          | succ j =>
            have := (f1 j k' hj).2
            intro e
            have e : a0 = f j := by simpa using e
            rw [← e] at this
            exact hdis _ hmem this
        | succ i =>
          cases j with
          | zero =>
            have := (f1 i g' hi).2
            intro e
            have e : f i = a0 := by simpa using e
            rw [e] at this
            exact hdis _ hmem this
          | succ j => exact f2 i j g' k' hi hj (by omega)
    · refine ⟨fun i => f (i - 1), ?_, ?_⟩
      · intro i g' hi
        cases i with
        | zero => exact absurd ⟨g', hi⟩ hc
        | succ i =>
          have := f1 i g' hi
          exact ⟨this.1, List.mem_append_right _ this.2⟩
      · intro i j g' k' hi hj hij
        cases i with
        | zero => exact absurd ⟨g', hi⟩ hc
        | succ i =>
          cases j with
          | zero => exact absurd ⟨k', hj⟩ hc
          | succ j => exact f2 i j g' k' hi hj (by omega)
theorem laid_errs' {W : World} (L : List (String × DataW Unit)) (h : laidMet Tryd.prog L W) : ∃ f : Nat → Addr, (∀ i g, IsErr L i g → ErrAt W g (f i)) ∧ (∀ i j g k, IsErr L i g → IsErr L j k → i ≠ j → f i ≠ f j) := by
  obtain ⟨ps, h1, h2, h3⟩ := h
  obtain ⟨f, f1, f2⟩ := laid_errs L ps h1 h3 h2
  exact ⟨f, fun i g hi => (f1 i g hi).1, f2⟩
/-- an error is itself. -/
theorem compErr : (Tryd.prog.info? 76).map (·.comparable) = some true := by kernel_rfl
theorem sizeErr : (Tryd.prog.info? 93).map (·.size) = some 1 := by kernel_rfl
set_option maxRecDepth 100000 in
theorem eql_err (a : Addr) (w : World) : (binOp .eql 26 (errOf a) (errOf a)).run Tryd.prog w = .ok (.bool true) w := by
  obtain ⟨i, hi, hc⟩ := Option.map_eq_some_iff.1 compErr
  obtain ⟨j, hj, _⟩ := Option.map_eq_some_iff.1 sizeErr
  exact run_eql_iface_ptr_same w a Tryd.underlying26 Tryd.underlying76 hi hc hj
set_option maxRecDepth 100000 in
theorem eql_other {w : World} {g k : Nat} {a b : Addr} (ha : ErrAt w g a) (hb : ErrAt w k b) (hne : a ≠ b) : (binOp .eql 26 (errOf a) (errOf b)).run Tryd.prog w = .ok (.bool false) w := by
  obtain ⟨i, hi, hc⟩ := Option.map_eq_some_iff.1 compErr
  obtain ⟨j, hj, hz⟩ := Option.map_eq_some_iff.1 sizeErr
  obtain ⟨_, _, _, c, t, h4⟩ := ha
  obtain ⟨_, _, _, c', t', h5⟩ := hb
  exact run_eql_iface_ptr_other w Tryd.underlying26 Tryd.underlying76 hi hc hj (by rw [hz]; decide) hne h4 h5
end Go.Proofs.YtbngkmlipmhgdaaDoor
