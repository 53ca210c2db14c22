/- A map from numbers to rows of bytes, as a model has it. By the verifier of shale. -/
import Derived.Test.YtbngkmlipmhgdaaDoorErrs
import Derived.Test.YtbngkmlipmhgdaaDoorRangeSep
import Derived.Test.YtbngkmlipmhgdaaDoorCloneM
import Derived.Maps.OwnSet
namespace Go.Proofs.YtbngkmlipmhgdaaDoor.Mo
open Go Go.RowKit Go.Maps Go.ChangeMaps Go.MapKept
open Go.WideElems (Fit)
set_option linter.unusedVariables false
set_option linter.unusedSimpArgs false
/-- where a row of bytes lies, how long it is and may be. -/
structure Sd where
  q : Option (Nat × Nat)
  n : Nat
  c : Nat
def Sd.addr (s : Sd) : Option Addr := s.q.map fun p => ⟨p.1, p.2, none⟩
def zSd : Sd := ⟨none, 0, 0⟩
abbrev sdV (s : Sd) : Value := .slice s.addr s.n s.c
def ints (s : Sd) : List Int := [match s.q with | none => 0 | some _ => 1, ((s.q.getD (0, 0)).1 : Int), ((s.q.getD (0, 0)).2 : Int), (s.n : Int), (s.c : Int)]
theorem ints_inj {s t : Sd} (h : ints s = ints t) : s = t := by
  obtain ⟨p, a1, a2⟩ := s
  obtain ⟨r, b1, b2⟩ := t
  simp only [ints, List.cons.injEq, and_true] at h
  obtain ⟨h0, h1, h2, h3, h4⟩ := h
  have e3 : a1 = b1 := by omega
  have e4 : a2 = b2 := by omega
  subst e3 e4
  cases p with
  | none => cases r with
    | none => rfl
    | some r => simp at h0
  | some p => cases r with
    | none => simp at h0
    | some r =>
      obtain ⟨p1, p2⟩ := p
      obtain ⟨r1, r2⟩ := r
      simp only [Option.getD_some] at h1 h2
      have e1 : p1 = r1 := by omega
      have e2 : p2 = r2 := by omega
      subst e1 e2
      rfl
theorem sdV_inj {s t : Sd} (h : sdV s = sdV t) : s = t := by
  obtain ⟨p, a1, a2⟩ := s
  obtain ⟨r, b1, b2⟩ := t
  simp only [Value.slice.injEq, Sd.addr] at h
  obtain ⟨h0, rfl, rfl⟩ := h
  cases p with
  | none => cases r with
    | none => rfl
    | some r => simp at h0
  | some p => cases r with
    | none => simp at h0
    | some r =>
      obtain ⟨p1, p2⟩ := p
      obtain ⟨r1, r2⟩ := r
      simp only [Option.map_some, Option.some.injEq, Addr.mk.injEq, and_true] at h0
      obtain ⟨rfl, rfl⟩ := h0
      rfl
def litD (x : Int) : DataW Unit := .lit (.int .i64 x)
def sdD (s : Sd) : DataW Unit := .agg ((ints s).map litD)
theorem litD_inj {l m : List Int} (h : l.map litD = m.map litD) : l = m := by
  have : ∀ x y : Int, litD x = litD y → x = y := fun x y e => by unfold litD at e; cases e; rfl
  induction l generalizing m with
  | nil => cases m with
    | nil => rfl
    | cons b m => cases h
  | cons a l ih => cases m with
    | nil => cases h
    | cons b m =>
      rw [List.map_cons, List.map_cons, List.cons.injEq] at h
      rw [this _ _ h.1, ih h.2]
theorem sdD_inj {s t : Sd} (h : sdD s = sdD t) : s = t := by
  unfold sdD at h
  have h2 : (ints s).map litD = (ints t).map litD := by injection h
  exact ints_inj (litD_inj h2)
open Classical in
/-- how an element of the map reads. -/
noncomputable def sdR (v : Value) : Option (DataW Unit × List MemPlace) := if h : ∃ s, v = sdV s then some (sdD h.choose, []) else none
theorem sdR_mk (s : Sd) : sdR (sdV s) = some (sdD s, []) := by
  unfold sdR
  have h : ∃ t, sdV s = sdV t := ⟨s, rfl⟩
  rw [dif_pos h]
  rw [← sdV_inj h.choose_spec]
theorem sdR_inv {v : Value} {s : Sd} {ps : List MemPlace} (h : sdR v = some (sdD s, ps)) : v = sdV s := by
  unfold sdR at h
  split at h
  · rename_i hv
    have h1 := hv.choose_spec
    simp only [Option.some.injEq, Prod.mk.injEq] at h
    rw [h1, sdD_inj h.1]
  · cases h
abbrev kL (k : Int) : Lit := .int .i64 k
theorem kL_ne {a b : Int} (h : a ≠ b) : kL a ≠ kL b := fun e => h (by cases e; rfl)
/-- the map's block: for each key its row, nb stores at most so far. -/
def MapS (w : World) (mb : Nat) (m : Int → Option Sd) (nb : Nat) : Prop := ∃ D : DataW Unit, w.ownsMap Tryd.prog 3 sdR mb nb D ∧ ∀ k, (Lit.int .i64 k).wf = true → (m k = none ∧ Maps.has D (kL k) = false) ∨ (∃ s, m k = some s ∧ Maps.has D (kL k) = true ∧ ∀ z, D.atKey (kL k) z = sdD s)
theorem keyI : Keyed Tryd.prog 3 := int_keyed Tryd.underlying3
theorem keyM {k : Int} (h : (Lit.int .i64 k).wf = true) : keyOf Tryd.prog 3 (.int .i64 k) = some (kL k) := keyOf_int_mk Tryd.underlying3 h
theorem mapU : Tryd.prog.underlying 60 = some (.map 3 31) := Tryd.underlying60
theorem zeroS (w : World) : (zeroValue 31).run Tryd.prog w = .ok (sdV zSd) w := by kernel_rfl
theorem isKey {k : Int} (h : (Lit.int .i64 k).wf = true) : WideAt.IsKeyLit (kL k) := by
  first | exact keyI.one.1 _ ⟨_, keyM h⟩ | exact WideAt.isKeyLit_int _ | simp [WideAt.IsKeyLit]
theorem MapS.lt {w : World} {mb nb : Nat} {m : Int → Option Sd} (h : MapS w mb m nb) : mb < w.heap.size := by
  obtain ⟨D, h1, _⟩ := h
  exact h1.lt
theorem MapS.fresh {w : World} {mb : Nat} (h : w.heap[mb]? = some (.map #[] 0)) : MapS w mb (fun _ => none) 0 := by
  obtain ⟨es, c, h1, h2⟩ := World.ownsMap_made (H := Unit) w Tryd.prog 3 sdR
  rw [heap_alloc_new] at h1
  exact ⟨.map [], ⟨es, c, h.trans h1, h2⟩, fun k _ => .inl ⟨rfl, rfl⟩⟩
theorem MapS.keep {w w' : World} {mb nb : Nat} {m : Int → Option Sd} (h : MapS w mb m nb) (e : w'.heap[mb]? = w.heap[mb]?) : MapS w' mb m nb := by
  obtain ⟨D, ⟨es, c, h1, h2⟩, h3⟩ := h
  exact ⟨D, ⟨es, c, e.trans h1, h2⟩, h3⟩
theorem MapS.mono {w : World} {mb nb nb' : Nat} {m : Int → Option Sd} (h : MapS w mb m nb) (e : nb ≤ nb') : MapS w mb m nb' := by
  obtain ⟨D, h1, h3⟩ := h
  exact ⟨D, h1.mono e, h3⟩
/-- what a look-up gives. -/
theorem MapS.look {w : World} {mb nb : Nat} {m : Int → Option Sd} (h : MapS w mb m nb) {k : Int} (hk : (Lit.int .i64 k).wf = true) : (Instr.lookup 60 (.map (some mb)) (.int .i64 k) false).run Tryd.prog w = .ok (sdV ((m k).getD zSd)) w := by
  obtain ⟨D, h1, h3⟩ := h
  obtain ⟨v, ps, hr, hv⟩ := h1.lookup keyI mapU (zeroS w) (sdR_mk zSd) (keyM hk)
  rw [hr]
  rcases h3 k hk with ⟨e1, e2⟩ | ⟨s, e1, e2, e3⟩
  · rw [Maps.atKey_of_not_has e2] at hv
    rw [sdR_inv hv, e1]
    rfl
  · rw [e3] at hv
    rw [sdR_inv hv, e1]
    rfl
/-- all but one block as it was. -/
def Turned (w w' : World) (b : Nat) : Prop := w'.os = w.os ∧ w'.tape = w.tape ∧ w'.output = w.output ∧ w'.heap.size = w.heap.size ∧ ∀ k, k ≠ b → w'.heap[k]? = w.heap[k]?
theorem turned_of {w w' : World} {b : Nat} (h : w.mapTurned w' b) : Turned w w' b := by
  obtain ⟨es, c, es', c', hb, rfl⟩ := h
  exact ⟨rfl, rfl, rfl, by simp [setBlock], fun k hk => heap_setBlock_other hb _ hk⟩
def upM (m : Int → Option Sd) (k : Int) (s : Sd) : Int → Option Sd := fun j => if j = k then some s else m j
theorem MapS.put {w : World} {mb nb : Nat} {m : Int → Option Sd} (h : MapS w mb m nb) (hn : nb < maxLen) {k : Int} (hk : (Lit.int .i64 k).wf = true) (s : Sd) : ∃ w', (Instr.mapUpdate 60 (.map (some mb)) (.int .i64 k) (sdV s)).run Tryd.prog w = .ok () w' ∧ MapS w' mb (upM m k s) (nb + 1) ∧ Turned w w' mb := by
  obtain ⟨D, h1, h3⟩ := h
  obtain ⟨w', hr, h4, h5⟩ := h1.store keyI mapU hn (keyM hk) (sdR_mk s)
  refine ⟨w', hr, ⟨_, h4, fun j hj => ?_⟩, turned_of h5⟩
  unfold upM
  by_cases e : j = k
  · subst e
    exact .inr ⟨s, by simp, Maps.has_put_same h1.isMap (isKey hj) _, fun z => Maps.atKey_put_same h1.isMap (isKey hj) _ z⟩
  · have hne := kL_ne e
    simp only [if_neg e]
    rcases h3 j hj with ⟨e1, e2⟩ | ⟨t, e1, e2, e3⟩
    · exact .inl ⟨e1, by rw [Maps.has_put_other hne]; exact e2⟩
    · exact .inr ⟨t, e1, by rw [Maps.has_put_other hne]; exact e2, fun z => by rw [Maps.atKey_put_other hne]; exact e3 z⟩
theorem mclone_any {w : World} {mb nb : Nat} {m : Int → Option Sd} (h : MapS w mb m nb) :
    Calls Tryd.prog 30 #[.map (some mb)] w fun e w' => e = .returned (.map (some w.heap.size)) ∧ MapS w' w.heap.size m nb ∧ Below w.heap.size w w' ∧ w'.heap.size = w.heap.size + 1 := by
  obtain ⟨D, h1, h3⟩ := h
  obtain ⟨es, clock, hb, F, hs, hD⟩ := h1
  have hcon := AnyW.maps_Clone Tryd.cloneM mb es clock w hb
  change Calls Tryd.prog 30 _ _ _ at hcon
  refine hcon.mono fun e w' ⟨he, hw⟩ => ?_
  subst hw
  exact ⟨he, ⟨D, ⟨es, clock, heap_alloc_new w _, F, hs, hD⟩, h3⟩, (Below.refl _ w).alloc (Nat.le_refl _) _, by simp⟩
end Go.Proofs.YtbngkmlipmhgdaaDoor.Mo
