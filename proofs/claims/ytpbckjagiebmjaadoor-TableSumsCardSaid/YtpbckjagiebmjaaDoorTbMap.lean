/- A table's map: keys, each with its slot. By the verifier of shale. -/
import Derived.Test.YtpbckjagiebmjaaDoorErrs
import Derived.Test.YtpbckjagiebmjaaDoorOwn64
import Derived.Test.YtpbckjagiebmjaaDoorRangeSep
import Derived.Maps.OwnSet
namespace Go.Proofs.YtpbckjagiebmjaaDoor.Tb
open Go Go.RowKit Go.Maps Go.ChangeMaps Go.MapKept
open Go.WideElems (Fit)
set_option linter.unusedVariables false
set_option linter.unusedSimpArgs false
/-- a slot: key, place, record. -/
structure Sl where
  k : Int
  b : Int
  p : Int
  m0 : Int
  m1 : Int
  m2 : Int
  m3 : Int
  m4 : Int
  m5 : Int
def zSl : Sl := ⟨0, 0, 0, 0, 0, 0, 0, 0, 0⟩
def ints (s : Sl) : List Int := [s.k, s.b, s.p, s.m0, s.m1, s.m2, s.m3, s.m4, s.m5]
theorem ints_inj {s t : Sl} (h : ints s = ints t) : s = t := by
  obtain ⟨a0, a1, a2, a3, a4, a5, a6, a7, a8⟩ := s
  obtain ⟨b0, b1, b2, b3, b4, b5, b6, b7, b8⟩ := t
  simp only [ints, List.cons.injEq, and_true] at h
  obtain ⟨rfl, rfl, rfl, rfl, rfl, rfl, rfl, rfl, rfl⟩ := h
  rfl
abbrev slV (s : Sl) : Value := .agg #[.int .i64 s.k, .int .i64 s.b, .int .i64 s.p, .int .i64 s.m0, .int .i64 s.m1, .int .i64 s.m2, .int .i64 s.m3, .int .i64 s.m4, .int .i64 s.m5]
theorem slV_eq (s : Sl) : slV s = .agg ((ints s).map (Value.int .i64)).toArray := rfl
def litD (x : Int) : DataW Unit := .lit (.int .i64 x)
def slD (s : Sl) : DataW Unit := .agg ((ints s).map litD)
theorem litD_inj {l m : List Int} (h : l.map litD = m.map litD) : l = m := by
  have : ∀ x y : Int, litD x = litD y → x = y := fun x y e => by unfold litD at e; cases e; rfl
  induction l generalizing m with
  | nil => cases m with
    | nil => rfl
    | cons b m => cases h
  | cons a l ih => cases m with
    | nil => cases h
    | cons b m =>
      rw [List.map_cons, List.map_cons, List.cons.injEq] at h
      rw [this _ _ h.1, ih h.2]
theorem slD_inj {s t : Sl} (h : slD s = slD t) : s = t := by
  unfold slD at h
  cases hs : (ints s).map litD with
  | nil => cases hs
  | cons a l =>
    have h2 : (ints s).map litD = (ints t).map litD := by injection h
    exact ints_inj (litD_inj h2)
open Classical in
/-- how an element of the map reads. -/
noncomputable def slR (v : Value) : Option (DataW Unit × List MemPlace) := if h : ∃ s, v = slV s then some (slD h.choose, []) else none
theorem slV_inj {s t : Sl} (h : slV s = slV t) : s = t := by
  obtain ⟨a0, a1, a2, a3, a4, a5, a6, a7, a8⟩ := s
  obtain ⟨b0, b1, b2, b3, b4, b5, b6, b7, b8⟩ := t
  simp only [Value.agg.injEq, Array.mk.injEq, List.cons.injEq, Value.int.injEq, true_and, and_true] at h
  obtain ⟨rfl, rfl, rfl, rfl, rfl, rfl, rfl, rfl, rfl⟩ := h
  rfl
theorem slR_mk (s : Sl) : slR (slV s) = some (slD s, []) := by
  unfold slR
  have h : ∃ t, slV s = slV t := ⟨s, rfl⟩
  rw [dif_pos h]
  rw [← slV_inj h.choose_spec]
theorem slR_inv {v : Value} {s : Sl} {ps : List MemPlace} (h : slR v = some (slD s, ps)) : v = slV s := by
  unfold slR at h
  split at h
  · rename_i hv
    have h1 := hv.choose_spec
    simp only [Option.some.injEq, Prod.mk.injEq] at h
    rw [h1, slD_inj h.1]
  · cases h
abbrev kL (k : Int) : Lit := .int .i64 k
theorem kL_ne {a b : Int} (h : a ≠ b) : kL a ≠ kL b := fun e => h (by cases e; rfl)
/-- the map's block: for each key its slot, so many in all, nb stores at most so far. -/
def MapAt (w : World) (mb : Nat) (m : Int → Option Sl) (cnt nb : Nat) : Prop := ∃ D : DataW Unit, w.ownsMap Tryd.prog 3 slR mb nb D ∧ Maps.size D = cnt ∧ ∀ k, (Lit.int .i64 k).wf = true → (m k = none ∧ Maps.has D (kL k) = false) ∨ (∃ s, m k = some s ∧ Maps.has D (kL k) = true ∧ ∀ z, D.atKey (kL k) z = slD s)
theorem keyI : Keyed Tryd.prog 3 := int_keyed Tryd.underlying3
theorem keyM {k : Int} (h : (Lit.int .i64 k).wf = true) : keyOf Tryd.prog 3 (.int .i64 k) = some (kL k) := keyOf_int_mk Tryd.underlying3 h
theorem mapU : Tryd.prog.underlying 69 = some (.map 3 47) := Tryd.underlying69
theorem zeroS (w : World) : (zeroValue 47).run Tryd.prog w = .ok (slV zSl) w := by kernel_rfl
theorem isKey {k : Int} (h : (Lit.int .i64 k).wf = true) : WideAt.IsKeyLit (kL k) := by
  first | exact keyI.one.1 _ ⟨_, keyM h⟩ | exact WideAt.isKeyLit_int _ | simp [WideAt.IsKeyLit]
theorem MapAt.lt {w : World} {mb cnt nb : Nat} {m : Int → Option Sl} (h : MapAt w mb m cnt nb) : mb < w.heap.size := by
  obtain ⟨D, h1, _⟩ := h
  exact h1.lt
theorem MapAt.new (w : World) : MapAt (w.alloc (.map #[] 0)) w.heap.size (fun _ => none) 0 0 := ⟨.map [], World.ownsMap_made _ _ _ _, rfl, fun k _ => .inl ⟨rfl, rfl⟩⟩
theorem MapAt.keep {w w' : World} {mb cnt nb : Nat} {m : Int → Option Sl} (h : MapAt w mb m cnt nb) (e : w'.heap[mb]? = w.heap[mb]?) : MapAt w' mb m cnt nb := by
  obtain ⟨D, ⟨es, c, h1, h2⟩, h3⟩ := h
  exact ⟨D, ⟨es, c, e.trans h1, h2⟩, h3⟩
theorem MapAt.fresh {w : World} {mb : Nat} (h : w.heap[mb]? = some (.map #[] 0)) : MapAt w mb (fun _ => none) 0 0 := by
  obtain ⟨D, ⟨es, c, h1, h2⟩, h3⟩ := MapAt.new w
  rw [heap_alloc_new] at h1
  refine ⟨D, ⟨es, c, h.trans h1, h2⟩, h3⟩
theorem MapAt.below {w w' : World} {mb cnt nb : Nat} {m : Int → Option Sl} (h : MapAt w mb m cnt nb) (b : Below w.heap.size w w') : MapAt w' mb m cnt nb := h.keep (b.block mb h.lt)
/-- what a look-up gives. -/
theorem MapAt.look {w : World} {mb cnt nb : Nat} {m : Int → Option Sl} (h : MapAt w mb m cnt nb) {k : Int} (hk : (Lit.int .i64 k).wf = true) : (Instr.lookup 69 (.map (some mb)) (.int .i64 k) true).run Tryd.prog w = .ok (.tuple #[slV ((m k).getD zSl), .bool (m k).isSome]) w := by
  obtain ⟨D, h1, _, h3⟩ := h
  obtain ⟨v, ps, hr, hv⟩ := h1.look_ok keyI mapU (zeroS w) (slR_mk zSl) (keyM hk)
  rw [hr]
  rcases h3 k hk with ⟨e1, e2⟩ | ⟨s, e1, e2, e3⟩
  · rw [Maps.atKey_of_not_has e2] at hv
    rw [slR_inv hv, e1, e2]
    rfl
  · rw [e3] at hv
    rw [slR_inv hv, e1, e2]
    rfl
theorem MapAt.len {w : World} {mb cnt nb : Nat} {m : Int → Option Sl} (h : MapAt w mb m cnt nb) (ty : TypeId) : (Builtin.len_ #[69] ty #[.map (some mb)]).run Tryd.prog w = .ok (.int .i64 (cnt : Int)) w := by
  obtain ⟨D, h1, h2, _⟩ := h
  rw [h1.len mapU ty, h2]
/-- all but one block as it was. -/
def Turned (w w' : World) (b : Nat) : Prop := w'.os = w.os ∧ w'.tape = w.tape ∧ w'.output = w.output ∧ w'.heap.size = w.heap.size ∧ ∀ k, k ≠ b → w'.heap[k]? = w.heap[k]?
theorem turned_of {w w' : World} {b : Nat} (h : w.mapTurned w' b) : Turned w w' b := by
  obtain ⟨es, c, es', c', hb, rfl⟩ := h
  exact ⟨rfl, rfl, rfl, by simp [setBlock], fun k hk => heap_setBlock_other hb _ hk⟩
theorem MapAt.del {w : World} {mb cnt nb : Nat} {m : Int → Option Sl} (h : MapAt w mb m cnt nb) {k : Int} (hk : (Lit.int .i64 k).wf = true) {s : Sl} (hs : m k = some s) (ty : TypeId) : ∃ w', (Builtin.delete_ #[69, 3] ty #[.map (some mb), .int .i64 k]).run Tryd.prog w = .ok (.tuple #[]) w' ∧ MapAt w' mb (fun j => if j = k then none else m j) (cnt - 1) nb ∧ Turned w w' mb := by
  obtain ⟨D, h1, h2, h3⟩ := h
  obtain ⟨w', hr, h4, h5⟩ := h1.drop keyI mapU (keyM hk) ty
  refine ⟨w', hr, ⟨_, h4, ?_, fun j hj => ?_⟩, turned_of h5⟩
  · have := Maps.size_del (D := D) (k := kL k) (h1.tidy keyI)
    rcases h3 k hk with ⟨e1, _⟩ | ⟨_, _, e2, _⟩
    · rw [hs] at e1; cases e1
    · rw [e2] at this
      simp at this
      omega
  · by_cases e : j = k
    · subst e
      exact .inl ⟨by simp, Maps.has_del_same⟩
    · have hne := kL_ne e
      simp only [if_neg e]
      rcases h3 j hj with ⟨e1, e2⟩ | ⟨t, e1, e2, e3⟩
      · exact .inl ⟨e1, by rw [Maps.has_del_other hne]; exact e2⟩
      · exact .inr ⟨t, e1, by rw [Maps.has_del_other hne]; exact e2, fun z => by rw [Maps.atKey_del_other hne]; exact e3 z⟩
theorem MapAt.put {w : World} {mb cnt nb : Nat} {m : Int → Option Sl} (h : MapAt w mb m cnt nb) (hn : nb < maxLen) {k : Int} (hk : (Lit.int .i64 k).wf = true) (hg : m k = none) (s : Sl) : ∃ w', (Instr.mapUpdate 69 (.map (some mb)) (.int .i64 k) (slV s)).run Tryd.prog w = .ok () w' ∧ MapAt w' mb (fun j => if j = k then some s else m j) (cnt + 1) (nb + 1) ∧ Turned w w' mb := by
  obtain ⟨D, h1, h2, h3⟩ := h
  obtain ⟨w', hr, h4, h5⟩ := h1.store keyI mapU hn (keyM hk) (slR_mk s)
  refine ⟨w', hr, ⟨_, h4, ?_, fun j hj => ?_⟩, turned_of h5⟩
  · rw [Maps.size_put (h1.tidy keyI)]
    rcases h3 k hk with ⟨_, e2⟩ | ⟨t, e1, _⟩
    · rw [e2]
      simp
      omega
    · rw [hg] at e1; cases e1
  · by_cases e : j = k
    · subst e
      refine .inr ⟨s, by simp, Maps.has_put_same h1.isMap (isKey hj) _, fun z => Maps.atKey_put_same h1.isMap (isKey hj) _ z⟩
    · have hne := kL_ne e
      simp only [if_neg e]
      rcases h3 j hj with ⟨e1, e2⟩ | ⟨t, e1, e2, e3⟩
      · exact .inl ⟨e1, by rw [Maps.has_put_other hne]; exact e2⟩
      · exact .inr ⟨t, e1, by rw [Maps.has_put_other hne]; exact e2, fun z => by rw [Maps.atKey_put_other hne]; exact e3 z⟩
end Go.Proofs.YtpbckjagiebmjaaDoor.Tb
