/- Structs of integers that came in by value. By the verifier of shale. -/
import Derived.Test.YtbngkmlipmhgdaaDoorRow
import Derived.Deep.Fields
import Derived.ChangeArms
import Derived.WideShapes
import Derived.ProofKit
import Derived.ChangeOld
namespace Go.Proofs.YtbngkmlipmhgdaaDoor
open Go Go.RowKit Go.ChangeShapes Go.WideShapes Go.Deep
/-- a struct of integers alone, handed in by value: its cells are integers that fit. -/
theorem open_ints_struct {H : Type} {enc : TypeId × Value → H} {P : Program} {w : World} {base b0 : Nat} {spare : Nat → Bool} {held : Bool} {r : Reach} {k : IntKind} {t : TypeId} {fs : Array Field} {v : Value} {d : DataW H} {p : List MemPlace}
    (hs : P.underlying t = some (.struct fs)) (hone : oneCellFields P fs = true) (hC : P.cellsOf t = fs.size) (hi : ∀ (j : Nat) (f : Field), fs[j]? = some f → P.underlying f.type = some (.int k))
    (hv : Value.okWide P w r b0 t v) (h : DataW.Trod enc P w base spare held t v d p) :
    ∃ n : Nat → Int, v = .agg ((List.range fs.size).map fun i => .int k (n i)).toArray ∧ ∀ i, i < fs.size → (Lit.int k (n i)).wf = true := by
  obtain ⟨cs, rfl, hsz⟩ := okWide_struct hs hv
  obtain ⟨fuel, hf⟩ := h
  obtain ⟨xs, n, _, _, hl, _, hg⟩ := DataW.trod_struct hs hf
  have each : ∀ j, j < fs.size → ∃ m, cs[j]? = some (.int k m) ∧ (Lit.int k m).wf = true := by
    intro j hj
    have hf0 : fs[j]? = some (fs[j]'hj) := Array.getElem?_eq_getElem hj
    obtain ⟨o, c⟩ := hone_of hone j _ hf0
    have g := hg j _ hf0
    rw [o, c] at g
    have hx : j < xs.length := by omega
    rw [List.getElem?_eq_getElem hx] at g
    obtain ⟨m, e, _, hw⟩ := DataW.trod_int (hi j _ hf0) g
    refine ⟨m, ?_, hw⟩
    have hj2 : j < cs.toList.length := by rw [Array.length_toList]; omega
    have e2 : (cs.toList.drop j).take 1 = [.int k m] := by simpa [Value.cells] using e
    rw [List.drop_eq_getElem_cons hj2] at e2
    simp only [List.take_succ_cons, List.take_zero, List.cons.injEq, and_true] at e2
    rw [Array.getElem?_eq_getElem (by simpa using hj2)]
    congr 1
  refine ⟨fun j => match cs[j]? with | some (.int _ m) => m | _ => 0, ?_, fun i hi => ?_⟩
  · congr 1
    apply Array.ext_getElem?
    intro j
    by_cases hj : j < fs.size
    · obtain ⟨m, e, _⟩ := each j hj
      rw [e]
      simp [hj, e]
    · have h1 : cs.size ≤ j := by omega
      rw [Array.getElem?_eq_none h1, Array.getElem?_eq_none (by simp; omega)]
  · obtain ⟨m, e, hw⟩ := each i hi
    simp only [e]
    exact hw
end Go.Proofs.YtbngkmlipmhgdaaDoor
