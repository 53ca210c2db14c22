/- A function's return behind ranges over functions, each of which has left its mark. By the verifier of shale. -/
import Derived.RangeFuncCalls
import Derived.Test.YtbngkmlipmhgdaaDoorRangeSep
namespace Go.Proofs.YtbngkmlipmhgdaaDoor
open Go Go.RowKit
set_option linter.unusedVariables false
set_option linter.unusedSimpArgs false
/-- the mark of a loop's put-off calls. -/
def mark (D : Nat) : Deferred := { target := .collected D, args := #[] }
theorem marks_post {F : Fence} {n : Nat} {P : Program} {fn : Func} {tmps : Array Value} {R : Ending → World → Prop} : ∀ (ds : List Nat) (W : World), ds.Nodup → (∀ D ∈ ds, W.heap[D]? = some (.deferred (some []))) →
    (∀ W', W'.os = W.os → W'.tape = W.tape → W'.output = W.output → W'.heap.size = W.heap.size → (∀ k, k ∉ ds → W'.heap[k]? = W.heap[k]?) → ∃ v, (results fn tmps).run P W' = .ok v W' ∧ R (.returned v) W') →
    bodyPostM F n P fn R .ret { tmps := tmps, defers := ds.map mark } W
  | [], W, _, _, h => h W rfl rfl rfl rfl fun _ _ => rfl
  | D :: ds, W, hn, hd, h => by
    rw [List.nodup_cons] at hn
    refine ⟨by simp, .inl ⟨D, _, rfl, run_takeDeferred (hd D (List.mem_cons_self ..)), marks_post (F := F) (n := n) (P := P) (fn := fn) (tmps := tmps) (R := R) ds _ hn.2 (fun X hX => ?_) fun W' e1 e2 e3 e4 e5 => ?_⟩⟩
    · exact (World.putObj_heap_other (fun e => hn.1 (by rw [← e]; exact hX))).trans (hd X (List.mem_cons_of_mem _ hX))
    · refine h W' e1 e2 e3 (by rw [e4]; simp) fun k hk => ?_
      rw [List.mem_cons, not_or] at hk
      exact (e5 k hk.2).trans (World.putObj_heap_other (fun e => hk.1 e))
/-- behind two ranges. -/
theorem marks_two {F : Fence} {n : Nat} {P : Program} {fn : Func} {tmps : Array Value} {R : Ending → World → Prop} {D E : Nat} {W : World} (hDE : D ≠ E) (hD : W.heap[D]? = some (.deferred (some []))) (hE : W.heap[E]? = some (.deferred (some [])))
    (h : ∀ W', W'.os = W.os → W'.tape = W.tape → W'.output = W.output → W'.heap.size = W.heap.size → (∀ k, k ≠ D → k ≠ E → W'.heap[k]? = W.heap[k]?) → ∃ v, (results fn tmps).run P W' = .ok v W' ∧ R (.returned v) W') :
    bodyPostM F n P fn R .ret { tmps := tmps, defers := [{ target := .collected D, args := #[] }, { target := .collected E, args := #[] }] } W :=
  marks_post [D, E] W (by simp [hDE]) (fun X hX => by
    simp only [List.mem_cons, List.not_mem_nil, or_false] at hX
    rcases hX with rfl | rfl
    · exact hD
    · exact hE) (fun W' e1 e2 e3 e4 e5 => h W' e1 e2 e3 e4 fun k hk1 hk2 => e5 k (by simp [hk1, hk2]))
end Go.Proofs.YtbngkmlipmhgdaaDoor
