/- A region that draws its order, within a round of a range over a function: walked by the laws of a region outside of it. By the verifier of shale. -/
import Derived.Test.YtbngkmlipmhgdaaDoorQuietRound
import Derived.Deep.RegionHeld3
namespace Go.Proofs.YtbngkmlipmhgdaaDoor
open Go Go.RowKit
set_option linter.unusedVariables false
section
variable {l n : Nat} {P : Program} {ops : Array Oper} {md : Region.Mode}
theorem opIn_any {o : Oper} {a : Act} {K : Act → World → Prop} {Q : Exit → Act → World → Prop} {w : World} (hd : noDefer o = true) (h : o.wp P a w K Q) : o.wpIn (Fence.wide.inRound l) n P a w K Q := by
  refine ⟨fun _ _ => trivial, ?_⟩
  show o.uponIn (Fence.wide.inRound l) n P a K Q ((Oper.semAt (some l) a.eval o).run P w)
  rw [Oper.semAt_some l _ _ (noDefer_op hd)]
  unfold Oper.wp at h
  revert h
  generalize (execOp a.eval o).run P w = r
  intro h
  match r, h with
  | .ok (.value u) w', h => exact h
  | .ok .skip w', h => exact h
  | .ok (.defer d) w', h => exact h
  | .ok (.enter f args) w', h => exact ⟨fun e => absurd e (by simp [Fence.wide]), CallsIn.inRound l (callsIn_wide.2 h)⟩
  | .ok (.row r args) w', h => exact ⟨fun e => absurd e (by simp [Fence.wide]), fun c cs _ => let ⟨v, w2, r1, s⟩ := h c cs; ⟨v, w2, r1, (stepsIn_wide (P := P)).2 s⟩⟩
  | .halt (.panic v) w', h => exact h
theorem anyIn_any {Q : Exit → Act → World → Prop} (hd : ∀ (i : Nat) (o : Oper), ops[i]? = some o → noDefer o = true) (hL : ¬ LetsOut Q) : ∀ (f : Nat) (s : Array Bool) (a : Act) (w : World), wpAny P md ops Q f s a w → wpAnyIn (Fence.wide.inRound l) n P md ops Q f s a w
  | 0, s, a, w, h => h
  | f + 1, s, a, w, h => by
    refine ⟨h.1, fun i hi => ?_⟩
    have hq := h.2 i hi
    unfold wpOp at hq
    unfold wpOpIn
    cases ho : ops[i]? with
    | none =>
      rw [ho] at hq
      exact anyIn_any hd hL f _ _ _ hq
    | some o =>
      rw [ho] at hq
      simp only at hq ⊢
      by_cases hwt : Region.wanted o (yielded ops a.tmps) = true
      · rw [if_pos hwt] at hq ⊢
        rcases hq with hq | ⟨_, hq⟩
        · exact Oper.wpIn_mono (fun a' w' h' => anyIn_any hd hL f _ a' w' h') (opIn_any (hd i o ho) hq)
        · exact absurd hq hL
      · rw [if_neg hwt] at hq ⊢
        exact ⟨fun _ _ => trivial, anyIn_any hd hL f _ _ _ hq⟩
/-- **THE STATEMENT.** -/
theorem wpIn_round_held {id : Nat} {Q : Exit → Act → World → Prop} {a : Act} {w : World} {S : World → Prop} {os : List Oper} (hm : P.follows .mixedOrders = true) (hn : os.all noDefer = true) (hL : ¬ LetsOut Q) (hS : S w.drew)
    (h : S w.drew → wpAnyH P .any os.toArray Q S os.toArray.size (Array.replicate os.toArray.size false) a w.drew) : (Code.region id os.toArray true).wpIn (Fence.wide.inRound l) n P Q a w := by
  have hd : ∀ (i : Nat) (o : Oper), os.toArray[i]? = some o → noDefer o = true := fun i o ho => by
    rw [List.getElem?_toArray] at ho
    exact List.all_eq_true.1 hn o (List.mem_of_getElem? ho)
  exact wpIn_region_any hm (anyIn_any hd hL _ _ _ _ (wpAny_of_held _ _ _ _ (h hS)))
end
end Go.Proofs.YtbngkmlipmhgdaaDoor
