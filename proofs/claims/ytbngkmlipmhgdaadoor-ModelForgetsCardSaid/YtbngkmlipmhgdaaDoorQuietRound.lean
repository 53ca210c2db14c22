/- A region that draws its order, within a round of a range over a function: what it does leaves the world in a class; one walk in the text's order serves all. By the verifier of shale. -/
import Derived.BigQuiet
import Derived.RangeFuncCalls
import Derived.OrdersIn
import Derived.TacticsIn
import Derived.Lib.QuietBelow
namespace Go.Proofs.YtbngkmlipmhgdaaDoor
open Go Go.RowKit
set_option linter.unusedVariables false
/-- nothing is put off. -/
def noDefer (o : Oper) : Bool := match o.op with
  | .defer _ => false
  | _ => true
theorem noDefer_op {o : Oper} (h : noDefer o = true) : ∀ c, o.op ≠ .defer c := by
  intro c e
  unfold noDefer at h
  rw [e] at h
  cases h
section
variable {l n : Nat} {P : Program} {ops : Array Oper} {md : Region.Mode} {C : World → Prop}
theorem opIn_round {o : Oper} {a : Act} {K : Act → Prop} {K' : Act → World → Prop} {Q' : Exit → Act → World → Prop} {w : World} (hd : noDefer o = true) (hw : C w) (h : ∀ a w', C w' → K a → K' a w') (hh : o.quiet P a C K) : o.wpIn (Fence.wide.inRound l) n P a w K' Q' := by
  obtain ⟨v, h1, h2⟩ := hh
  have h3 := h1 w hw
  refine ⟨fun _ _ => trivial, ?_⟩
  show o.uponIn (Fence.wide.inRound l) n P a K' Q' ((Oper.semAt (some l) a.eval o).run P w)
  rw [Oper.semAt_some l _ _ (noDefer_op hd)]
  unfold Oper.quietAt at h3
  revert h3
  generalize (execOp a.eval o).run P w = r
  intro h3
  match r, h3 with
  | .ok (.value u) w', h3 =>
    obtain ⟨e1, e2⟩ := h3
    show K' (a.put o.dst u) w'
    rw [e1, e2]
    exact h _ _ hw h2
  | .ok .skip w', h3 =>
    obtain ⟨e1, e2⟩ := h3
    show K' (a.put o.dst undef) w'
    rw [e1, ← e2]
    exact h _ _ hw h2
  | .ok (.enter f args) w', h3 =>
    obtain ⟨e1, hc⟩ := h3
    rw [e1]
    refine ⟨fun e => absurd e (by simp [Fence.wide]), (CallsIn.inRound l (callsIn_wide.2 hc)).mono ?_⟩
    rintro e w'' ⟨he, hw''⟩
    subst he
    exact h _ _ hw'' h2
theorem anyIn_round {Q : Act → Prop} {Q' : Exit → Act → World → Prop} (hd : ∀ (i : Nat) (o : Oper), ops[i]? = some o → noDefer o = true) (hQ : ∀ a w, C w → Q a → Q' .normal a w) : ∀ (f : Nat) (s : Array Bool) (a : Act) (w : World), C w →
    wpAnyQ P md ops C Q f s a → wpAnyIn (Fence.wide.inRound l) n P md ops Q' f s a w
  | 0, s, a, w, hw, h => ⟨h.1, hQ _ _ hw h.2⟩
  | f + 1, s, a, w, hw, h => by
    refine ⟨fun h0 => hQ _ _ hw (h.1 h0), fun i hi => ?_⟩
    have hq := h.2 i hi
    unfold qOp at hq
    unfold wpOpIn
    cases ho : ops[i]? with
    | none =>
      rw [ho] at hq
      exact anyIn_round hd hQ f _ _ _ hw hq
    | some o =>
      rw [ho] at hq
      simp only at hq ⊢
      by_cases hwt : Region.wanted o (yielded ops a.tmps) = true
      · rw [if_pos hwt] at hq ⊢
        exact opIn_round (hd i o ho) hw (fun a' w' hw' h' => anyIn_round hd hQ f _ a' w' hw' h') hq
      · rw [if_neg hwt] at hq ⊢
        exact ⟨fun _ _ => trivial, anyIn_round hd hQ f _ _ _ hw hq⟩
/-- **THE STATEMENT.** -/
theorem wpIn_round_quiet {id : Nat} {Q : Exit → Act → World → Prop} {a : Act} {w : World} {os : List Oper} (hm : P.follows .mixedOrders = true) (hB : Region.lexB .any os.toArray = true) (hn : os.all noDefer = true) (hC : C { w with drawn := w.drawn + 1 })
    (h : wpQuiet P os.toArray C (fun a' => ∀ w', C w' → Q .normal a' w') os a) : (Code.region id os.toArray true).wpIn (Fence.wide.inRound l) n P Q a w := by
  simp only [Region.lexB, Bool.and_eq_true] at hB
  have hd : ∀ (i : Nat) (o : Oper), os.toArray[i]? = some o → noDefer o = true := fun i o ho => by
    rw [List.getElem?_toArray] at ho
    exact List.all_eq_true.1 hn o (List.mem_of_getElem? ho)
  refine wpIn_region_any hm (anyIn_round (Q := fun a' => ∀ w', C w' → Q .normal a' w') hd (fun _ w' hw' h => h w' hw') _ _ _ _ hC ?_)
  have := wpAnyQ_lex (P := P) (ops := os.toArray) (C := C) (md := .any) (Q := fun a' => ∀ w', C w' → Q .normal a' w') hB.1 os 0 (Array.replicate os.toArray.size false) a (by simp) (by simpa using hB.2) h
  simpa using this
end
end Go.Proofs.YtbngkmlipmhgdaaDoor
