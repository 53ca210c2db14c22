/- Texts of the verifier of shale, laid into one: RangeOwn, RangeSep, TbMap, TbMem, TbOps, TbCmp, TbDrop, TbSet, TbMe, RangeGift, TbNo, TbBad, TbRep, TbNew, TbNewW, TbFirst, TbMove, TbSure, Marks, QuietRound. -/
import Derived.Test.YtpbckjagiebmjaaDoorGreat1
import Derived.RangeFuncNested
import Derived.RangeFuncBound
import Derived.RangeFuncCalls
import Derived.RangeFuncLeaves
import Derived.Below
import Derived.Maps.OwnSet
import Derived.Lib.QuietBelow
import Derived.Deep.Cut
import Derived.Sort.Statements
import Derived.Sort.Grow
import Derived.StillTailTactics
import Derived.Deep.RegionLaw
import Derived.Laws.CopyOwn
import Derived.Deep.AppendLies
import Derived.Deep.Slices
import Derived.ChangeSame
import Derived.BigQuiet
import Derived.OrdersIn
import Derived.TacticsIn
/- A range over a function whose iterator keeps state in cells of its own: one invariant for what the iterator and the body hold together, all of it below the blocks that the loop itself lays. By the verifier of shale. -/
namespace Go.Proofs.YtpbckjagiebmjaaDoor
open Go Go.RowKit
set_option linter.unusedVariables false
/-- what lies at or above B and was there lies as it lay. -/
structure Hi (B : Nat) (W W' : World) : Prop where
  size : W.heap.size ≤ W'.heap.size
  same : ∀ k, B ≤ k → k < W.heap.size → W'.heap[k]? = W.heap[k]?
theorem Hi.refl (B : Nat) (W : World) : Hi B W W := ⟨Nat.le_refl _, fun _ _ _ => rfl⟩
theorem Hi.trans {B : Nat} {X Y Z : World} (h : Hi B X Y) (k : Hi B Y Z) : Hi B X Z :=
  ⟨Nat.le_trans h.size k.size, fun i hB hi => (k.same i hB (Nat.lt_of_lt_of_le hi h.size)).trans (h.same i hB hi)⟩
theorem Hi.below {B : Nat} {W W' : World} (h : Below W.heap.size W W') : Hi B W W' := ⟨h.size, fun k _ hk => h.block k hk⟩
theorem Hi.setCell {B : Nat} (W : World) (p : Addr) (u : Value) (hp : p.block < B) : Hi B W (W.setCell p u) :=
  ⟨by simp [World.setCell], fun k hB _ => Below.heap_setCell _ _ _ _ (by omega)⟩
/-- a predicate of what lies below B. -/
def Low (B : Nat) (I : World → Prop) : Prop := ∀ W W', I W → Below B W W' → I W'
/-- whatever lies below B, block s aside, lies as it lay. -/
structure Others (B s : Nat) (W W' : World) : Prop where
  size : W.heap.size ≤ W'.heap.size
  same : ∀ k, k < B → k ≠ s → W'.heap[k]? = W.heap[k]?
theorem Others.trans {B s : Nat} {X Y Z : World} (h : Others B s X Y) (k : Others B s Y Z) : Others B s X Z :=
  ⟨Nat.le_trans h.size k.size, fun i hi hs => (k.same i hi hs).trans (h.same i hi hs)⟩
theorem Others.below {B s : Nat} {X Y : World} (h : Below B X Y) : Others B s X Y := ⟨h.size, fun k hk _ => h.block k hk⟩
theorem Others.setCell {B s : Nat} (W : World) (p : Addr) (u : Value) (hp : p.block = s) : Others B s W (W.setCell p u) :=
  ⟨by simp [World.setCell], fun k _ hs => Below.heap_setCell _ _ _ _ (by omega)⟩
theorem roundIn_wide {n m : Nat} {P : Program} {l : Nat} {f : FuncId} {tmps : Array Value} {assign body : Code} {w : World} {R : Ending → World → Prop}
    (h : RoundIn Fence.wide n P l f tmps assign body w R) : RoundIn Fence.wide m P l f tmps assign body w R := ⟨h.1, fun c cs _ => h.2 c cs (room_wide _)⟩
end Go.Proofs.YtpbckjagiebmjaaDoor
/- A range over a function whose iterator and whose body each own blocks of their own (captured cells, lists that grow in place): what either does leaves alone what the other owns. By the verifier of shale. -/
namespace Go.Proofs.YtpbckjagiebmjaaDoor
open Go Go.RowKit
set_option linter.unusedVariables false
/-- below B (cl aside) and in bl all lies as it lay. -/
structure Fr (B : Nat) (cl bl : List Nat) (X Y : World) : Prop where
  os : Y.os = X.os
  tape : Y.tape = X.tape
  output : Y.output = X.output
  size : X.heap.size ≤ Y.heap.size
  same : ∀ k, (k < B ∧ k ∉ cl) ∨ k ∈ bl → k < X.heap.size → Y.heap[k]? = X.heap[k]?
theorem Fr.refl (B : Nat) (cl bl : List Nat) (X : World) : Fr B cl bl X X := ⟨rfl, rfl, rfl, Nat.le_refl _, fun _ _ _ => rfl⟩
theorem Fr.trans {B : Nat} {cl bl : List Nat} {X Y Z : World} (h : Fr B cl bl X Y) (k : Fr B cl bl Y Z) : Fr B cl bl X Z :=
  ⟨k.os.trans h.os, k.tape.trans h.tape, k.output.trans h.output, Nat.le_trans h.size k.size, fun i hi hs => (k.same i hi (Nat.lt_of_lt_of_le hs h.size)).trans (h.same i hi hs)⟩
theorem Fr.below {B : Nat} {cl bl : List Nat} {X Y : World} (h : Below X.heap.size X Y) : Fr B cl bl X Y := ⟨h.os, h.tape, h.output, h.size, fun k _ hk => h.block k hk⟩
theorem Fr.sub {B B' : Nat} {cl bl bl' : List Nat} {X Y : World} (h : Fr B cl bl X Y) (hB : B' ≤ B) (hs : ∀ k ∈ bl', k ∈ bl ∨ (k < B ∧ k ∉ cl)) : Fr B' cl bl' X Y :=
  ⟨h.os, h.tape, h.output, h.size, fun k hk hl => h.same k (by
    rcases hk with ⟨h1, h2⟩ | h1
    · exact .inl ⟨by omega, h2⟩
    · rcases hs k h1 with h2 | h2
      · exact .inr h2
      · exact .inl h2) hl⟩
/-- a store into a block that is none of these. -/
theorem Fr.setCell {B : Nat} {cl bl : List Nat} (X : World) (p : Addr) (u : Value) (h1 : p.block < B → p.block ∈ cl) (h2 : p.block ∉ bl) : Fr B cl bl X (X.setCell p u) :=
  ⟨rfl, rfl, rfl, by simp [World.setCell], fun k hk _ => Below.heap_setCell _ _ _ _ (by
    rintro rfl
    rcases hk with ⟨h, h'⟩ | h
    · exact h' (h1 h)
    · exact h2 h)⟩
/-- what the owner of bl may do: it turns these, and makes new ones. -/
structure Tn (bl : List Nat) (X Y : World) (bl' : List Nat) : Prop where
  os : Y.os = X.os
  tape : Y.tape = X.tape
  output : Y.output = X.output
  size : X.heap.size ≤ Y.heap.size
  same : ∀ k, k < X.heap.size → k ∉ bl → Y.heap[k]? = X.heap[k]?
  new : ∀ k ∈ bl', k ∈ bl ∨ X.heap.size ≤ k
theorem Tn.refl (bl : List Nat) (X : World) : Tn bl X X bl := ⟨rfl, rfl, rfl, Nat.le_refl _, fun _ _ _ => rfl, fun _ h => .inl h⟩
theorem Tn.trans {b1 b2 b3 : List Nat} {X Y Z : World} (h : Tn b1 X Y b2) (k : Tn b2 Y Z b3) : Tn b1 X Z b3 := by
  refine ⟨k.os.trans h.os, k.tape.trans h.tape, k.output.trans h.output, Nat.le_trans h.size k.size, fun i hi hs => ?_, fun i hi => ?_⟩
  · refine (k.same i (Nat.lt_of_lt_of_le hi h.size) fun hb => ?_).trans (h.same i hi hs)
    rcases h.new i hb with h1 | h1
    · exact hs h1
    · omega
  · rcases k.new i hi with h1 | h1
    · exact h.new i h1
    · exact .inr (Nat.le_trans h.size h1)
theorem Tn.below {bl : List Nat} {X Y : World} (h : Below X.heap.size X Y) : Tn bl X Y bl := ⟨h.os, h.tape, h.output, h.size, fun k hk _ => h.block k hk, fun _ h => .inl h⟩
theorem Tn.setCell {bl : List Nat} (X : World) (p : Addr) (u : Value) (h : p.block ∈ bl) : Tn bl X (X.setCell p u) bl :=
  ⟨rfl, rfl, rfl, by simp [World.setCell], fun k _ hk => Below.heap_setCell _ _ _ _ (by rintro rfl; exact hk h), fun _ h => .inl h⟩
/-- the iterator's side: O is what is carried on for the body and the loop; ol the blocks that they own; C what the iterator finds. -/
def IterSep {α : Type} (n : Nat) (P : Program) (gf : Nat) (lb : Array Value) (encs : α → Array Value) (B : Nat) (cl : List Nat) (V : List α → α → Prop) (S Sp : List α → Prop) (C : List Nat → World → Prop) : Prop :=
  ∀ (l : Nat) (O : List α → List Nat → World → Prop) (Ox : Code → List α → List Nat → World → Prop) (ol : List Nat) (W : World),
    (∀ pre ol X Y, O pre ol X → Fr B cl ol X Y → O pre ol Y) → (∀ c pre ol X Y, Ox c pre ol X → Fr B cl ol X Y → Ox c pre ol Y) →
    (∀ pre ol X, O pre ol X → ∀ k ∈ ol, k < X.heap.size) →
    (∀ pre x ol X, O pre ol X → V pre x → YieldAt Fence.wide n P l (encs x) X fun e Y => ∃ ol', Tn ol X Y ol' ∧
      ((e = .returned (.bool true) ∧ O (pre ++ [x]) ol' Y) ∨ (e = .returned (.bool false) ∧ ∃ c, Ox c (pre ++ [x]) ol' Y))) →
    B ≤ W.heap.size → O [] ol W → C ol W →
    CallsIn Fence.wide n P gf (#[.func (.yield l) #[] #[]] ++ lb) W fun e W' => (∃ v, e = .returned v) ∧
      ((∃ xs ol', S xs ∧ O xs ol' W') ∨ (∃ pre c ol', Sp pre ∧ Ox c pre ol' W'))
end Go.Proofs.YtpbckjagiebmjaaDoor
/- A table's map: keys, each with its slot. By the verifier of shale. -/
namespace Go.Proofs.YtpbckjagiebmjaaDoor.Tb
open Go Go.RowKit Go.Maps Go.ChangeMaps Go.MapKept
open Go.WideElems (Fit)
set_option linter.unusedVariables false
set_option linter.unusedSimpArgs false
/-- a slot: key, place, record. -/
structure Sl where
  k : Int
  b : Int
  p : Int
  m0 : Int
  m1 : Int
  m2 : Int
  m3 : Int
  m4 : Int
  m5 : Int
def zSl : Sl := ⟨0, 0, 0, 0, 0, 0, 0, 0, 0⟩
def ints (s : Sl) : List Int := [s.k, s.b, s.p, s.m0, s.m1, s.m2, s.m3, s.m4, s.m5]
theorem ints_inj {s t : Sl} (h : ints s = ints t) : s = t := by
  obtain ⟨a0, a1, a2, a3, a4, a5, a6, a7, a8⟩ := s
  obtain ⟨b0, b1, b2, b3, b4, b5, b6, b7, b8⟩ := t
  simp only [ints, List.cons.injEq, and_true] at h
  obtain ⟨rfl, rfl, rfl, rfl, rfl, rfl, rfl, rfl, rfl⟩ := h
  rfl
abbrev slV (s : Sl) : Value := .agg #[.int .i64 s.k, .int .i64 s.b, .int .i64 s.p, .int .i64 s.m0, .int .i64 s.m1, .int .i64 s.m2, .int .i64 s.m3, .int .i64 s.m4, .int .i64 s.m5]
def litD (x : Int) : DataW Unit := .lit (.int .i64 x)
def slD (s : Sl) : DataW Unit := .agg ((ints s).map litD)
theorem litD_inj {l m : List Int} (h : l.map litD = m.map litD) : l = m := by
  have : ∀ x y : Int, litD x = litD y → x = y := fun x y e => by unfold litD at e; cases e; rfl
  induction l generalizing m with
  | nil => cases m with
    | nil => rfl
    | cons b m => cases h
  | cons a l ih => cases m with
    | nil => cases h
    | cons b m =>
      rw [List.map_cons, List.map_cons, List.cons.injEq] at h
      rw [this _ _ h.1, ih h.2]
theorem slD_inj {s t : Sl} (h : slD s = slD t) : s = t := by
  unfold slD at h
  cases hs : (ints s).map litD with
  | nil => cases hs
  | cons a l =>
    have h2 : (ints s).map litD = (ints t).map litD := by injection h
    exact ints_inj (litD_inj h2)
open Classical in
/-- how an element of the map reads. -/
noncomputable def slR (v : Value) : Option (DataW Unit × List MemPlace) := if h : ∃ s, v = slV s then some (slD h.choose, []) else none
theorem slV_inj {s t : Sl} (h : slV s = slV t) : s = t := by
  obtain ⟨a0, a1, a2, a3, a4, a5, a6, a7, a8⟩ := s
  obtain ⟨b0, b1, b2, b3, b4, b5, b6, b7, b8⟩ := t
  simp only [Value.agg.injEq, Array.mk.injEq, List.cons.injEq, Value.int.injEq, true_and, and_true] at h
  obtain ⟨rfl, rfl, rfl, rfl, rfl, rfl, rfl, rfl, rfl⟩ := h
  rfl
theorem slR_mk (s : Sl) : slR (slV s) = some (slD s, []) := by
  unfold slR
  have h : ∃ t, slV s = slV t := ⟨s, rfl⟩
  rw [dif_pos h]
  rw [← slV_inj h.choose_spec]
theorem slR_inv {v : Value} {s : Sl} {ps : List MemPlace} (h : slR v = some (slD s, ps)) : v = slV s := by
  unfold slR at h
  split at h
  · rename_i hv
    have h1 := hv.choose_spec
    simp only [Option.some.injEq, Prod.mk.injEq] at h
    rw [h1, slD_inj h.1]
  · cases h
abbrev kL (k : Int) : Lit := .int .i64 k
theorem kL_ne {a b : Int} (h : a ≠ b) : kL a ≠ kL b := fun e => h (by cases e; rfl)
/-- the map's block: for each key its slot, so many in all, nb stores at most so far. -/
def MapAt (w : World) (mb : Nat) (m : Int → Option Sl) (cnt nb : Nat) : Prop := ∃ D : DataW Unit, w.ownsMap Tryd.prog 3 slR mb nb D ∧ Maps.size D = cnt ∧ ∀ k, (Lit.int .i64 k).wf = true → (m k = none ∧ Maps.has D (kL k) = false) ∨ (∃ s, m k = some s ∧ Maps.has D (kL k) = true ∧ ∀ z, D.atKey (kL k) z = slD s)
theorem keyI : Keyed Tryd.prog 3 := int_keyed Tryd.underlying3
theorem keyM {k : Int} (h : (Lit.int .i64 k).wf = true) : keyOf Tryd.prog 3 (.int .i64 k) = some (kL k) := keyOf_int_mk Tryd.underlying3 h
theorem mapU : Tryd.prog.underlying 69 = some (.map 3 47) := Tryd.underlying69
theorem zeroS (w : World) : (zeroValue 47).run Tryd.prog w = .ok (slV zSl) w := by kernel_rfl
theorem isKey {k : Int} (h : (Lit.int .i64 k).wf = true) : WideAt.IsKeyLit (kL k) := by
  first | exact keyI.one.1 _ ⟨_, keyM h⟩ | exact WideAt.isKeyLit_int _ | simp [WideAt.IsKeyLit]
theorem MapAt.lt {w : World} {mb cnt nb : Nat} {m : Int → Option Sl} (h : MapAt w mb m cnt nb) : mb < w.heap.size := by
  obtain ⟨D, h1, _⟩ := h
  exact h1.lt
theorem MapAt.new (w : World) : MapAt (w.alloc (.map #[] 0)) w.heap.size (fun _ => none) 0 0 := ⟨.map [], World.ownsMap_made _ _ _ _, rfl, fun k _ => .inl ⟨rfl, rfl⟩⟩
theorem MapAt.keep {w w' : World} {mb cnt nb : Nat} {m : Int → Option Sl} (h : MapAt w mb m cnt nb) (e : w'.heap[mb]? = w.heap[mb]?) : MapAt w' mb m cnt nb := by
  obtain ⟨D, ⟨es, c, h1, h2⟩, h3⟩ := h
  exact ⟨D, ⟨es, c, e.trans h1, h2⟩, h3⟩
theorem MapAt.fresh {w : World} {mb : Nat} (h : w.heap[mb]? = some (.map #[] 0)) : MapAt w mb (fun _ => none) 0 0 := by
  obtain ⟨D, ⟨es, c, h1, h2⟩, h3⟩ := MapAt.new w
  rw [heap_alloc_new] at h1
  refine ⟨D, ⟨es, c, h.trans h1, h2⟩, h3⟩
theorem MapAt.below {w w' : World} {mb cnt nb : Nat} {m : Int → Option Sl} (h : MapAt w mb m cnt nb) (b : Below w.heap.size w w') : MapAt w' mb m cnt nb := h.keep (b.block mb h.lt)
/-- what a look-up gives. -/
theorem MapAt.look {w : World} {mb cnt nb : Nat} {m : Int → Option Sl} (h : MapAt w mb m cnt nb) {k : Int} (hk : (Lit.int .i64 k).wf = true) : (Instr.lookup 69 (.map (some mb)) (.int .i64 k) true).run Tryd.prog w = .ok (.tuple #[slV ((m k).getD zSl), .bool (m k).isSome]) w := by
  obtain ⟨D, h1, _, h3⟩ := h
  obtain ⟨v, ps, hr, hv⟩ := h1.look_ok keyI mapU (zeroS w) (slR_mk zSl) (keyM hk)
  rw [hr]
  rcases h3 k hk with ⟨e1, e2⟩ | ⟨s, e1, e2, e3⟩
  · rw [Maps.atKey_of_not_has e2] at hv
    rw [slR_inv hv, e1, e2]
    rfl
  · rw [e3] at hv
    rw [slR_inv hv, e1, e2]
    rfl
theorem MapAt.len {w : World} {mb cnt nb : Nat} {m : Int → Option Sl} (h : MapAt w mb m cnt nb) (ty : TypeId) : (Builtin.len_ #[69] ty #[.map (some mb)]).run Tryd.prog w = .ok (.int .i64 (cnt : Int)) w := by
  obtain ⟨D, h1, h2, _⟩ := h
  rw [h1.len mapU ty, h2]
/-- all but one block as it was. -/
def Turned (w w' : World) (b : Nat) : Prop := w'.os = w.os ∧ w'.tape = w.tape ∧ w'.output = w.output ∧ w'.heap.size = w.heap.size ∧ ∀ k, k ≠ b → w'.heap[k]? = w.heap[k]?
theorem turned_of {w w' : World} {b : Nat} (h : w.mapTurned w' b) : Turned w w' b := by
  obtain ⟨es, c, es', c', hb, rfl⟩ := h
  exact ⟨rfl, rfl, rfl, by simp [setBlock], fun k hk => heap_setBlock_other hb _ hk⟩
theorem MapAt.del {w : World} {mb cnt nb : Nat} {m : Int → Option Sl} (h : MapAt w mb m cnt nb) {k : Int} (hk : (Lit.int .i64 k).wf = true) {s : Sl} (hs : m k = some s) (ty : TypeId) : ∃ w', (Builtin.delete_ #[69, 3] ty #[.map (some mb), .int .i64 k]).run Tryd.prog w = .ok (.tuple #[]) w' ∧ MapAt w' mb (fun j => if j = k then none else m j) (cnt - 1) nb ∧ Turned w w' mb := by
  obtain ⟨D, h1, h2, h3⟩ := h
  obtain ⟨w', hr, h4, h5⟩ := h1.drop keyI mapU (keyM hk) ty
  refine ⟨w', hr, ⟨_, h4, ?_, fun j hj => ?_⟩, turned_of h5⟩
  · have := Maps.size_del (D := D) (k := kL k) (h1.tidy keyI)
    rcases h3 k hk with ⟨e1, _⟩ | ⟨_, _, e2, _⟩
    · rw [hs] at e1; cases e1
    · rw [e2] at this
      simp at this
      omega
  · by_cases e : j = k
    · subst e
      exact .inl ⟨by simp, Maps.has_del_same⟩
    · have hne := kL_ne e
      simp only [if_neg e]
      rcases h3 j hj with ⟨e1, e2⟩ | ⟨t, e1, e2, e3⟩
      · exact .inl ⟨e1, by rw [Maps.has_del_other hne]; exact e2⟩
      · exact .inr ⟨t, e1, by rw [Maps.has_del_other hne]; exact e2, fun z => by rw [Maps.atKey_del_other hne]; exact e3 z⟩
theorem MapAt.put {w : World} {mb cnt nb : Nat} {m : Int → Option Sl} (h : MapAt w mb m cnt nb) (hn : nb < maxLen) {k : Int} (hk : (Lit.int .i64 k).wf = true) (hg : m k = none) (s : Sl) : ∃ w', (Instr.mapUpdate 69 (.map (some mb)) (.int .i64 k) (slV s)).run Tryd.prog w = .ok () w' ∧ MapAt w' mb (fun j => if j = k then some s else m j) (cnt + 1) (nb + 1) ∧ Turned w w' mb := by
  obtain ⟨D, h1, h2, h3⟩ := h
  obtain ⟨w', hr, h4, h5⟩ := h1.store keyI mapU hn (keyM hk) (slR_mk s)
  refine ⟨w', hr, ⟨_, h4, ?_, fun j hj => ?_⟩, turned_of h5⟩
  · rw [Maps.size_put (h1.tidy keyI)]
    rcases h3 k hk with ⟨_, e2⟩ | ⟨t, e1, _⟩
    · rw [e2]
      simp
      omega
    · rw [hg] at e1; cases e1
  · by_cases e : j = k
    · subst e
      refine .inr ⟨s, by simp, Maps.has_put_same h1.isMap (isKey hj) _, fun z => Maps.atKey_put_same h1.isMap (isKey hj) _ z⟩
    · have hne := kL_ne e
      simp only [if_neg e]
      rcases h3 j hj with ⟨e1, e2⟩ | ⟨t, e1, e2, e3⟩
      · exact .inl ⟨e1, by rw [Maps.has_put_other hne]; exact e2⟩
      · exact .inr ⟨t, e1, by rw [Maps.has_put_other hne]; exact e2, fun z => by rw [Maps.atKey_put_other hne]; exact e3 z⟩
end Go.Proofs.YtpbckjagiebmjaaDoor.Tb
/- A table in memory. By the verifier of shale. -/
namespace Go.Proofs.YtpbckjagiebmjaaDoor.Tb
open Go Go.RowKit
set_option linter.unusedVariables false
set_option linter.unusedSimpArgs false
theorem row_set {f : Nat → Int} {P p : Nat} {v : Int} (hp : p < P) : ((List.range P).map f).set p v = (List.range P).map (fun j => if j = p then v else f j) := by
  apply List.ext_getElem?
  intro j
  rw [List.getElem?_set]
  by_cases hj : j < P
  · by_cases e : p = j
    · subst e
      rw [if_pos rfl, if_pos (by simpa using hj)]
      simp [hj]
    · rw [if_neg e]
      simp [hj, Ne.symm e]
  · rw [if_neg (by omega)]
    simp [hj]
theorem row_nth {f : Nat → Int} {P p : Nat} (hp : p < P) : nth64 ((List.range P).map f) p = f p := by
  unfold nth64
  simp [hp]
structure TabAt (w : World) (base tb mb ob B P cO : Nat) (kb : Nat → Nat) (kf : Nat → Nat → Int) (m : Int → Option Sl) (cnt nb : Nat) : Prop where
  blk : w.heap[tb]? = some (.cells #[.map (some mb), .slice (some ⟨ob, 0, none⟩) B cO] 72 (0, 0))
  map : MapAt w mb m cnt nb
  outer : ∀ b, b < B → w.cell? ⟨ob, b, none⟩ = some (.slice (some ⟨kb b, 0, none⟩) P P)
  rows : ∀ b, b < B → Blk64 w (kb b) ((List.range P).map (kf b))
  inj : ∀ a b, a < B → b < B → kb a = kb b → a = b
  apart : base ≤ tb ∧ base ≤ mb ∧ base ≤ ob ∧ mb ≠ tb ∧ ob ≠ tb ∧ ob ≠ mb ∧ ∀ b, b < B → base ≤ kb b ∧ kb b ≠ tb ∧ kb b ≠ mb ∧ kb b ≠ ob
  pos : 0 < B ∧ B ≤ 64 ∧ 0 < P ∧ P ≤ 64 ∧ B ≤ cO ∧ cO ≤ maxLen
  here : ∀ k s, m k = some s → s.k = k ∧ 0 ≤ k ∧ k ≤ 1073741824 ∧ ∃ b p : Nat, s.b = (b : Int) ∧ s.p = (p : Int) ∧ b < B ∧ p < P ∧ kf b p = k
  there : ∀ b p : Nat, b < B → p < P → kf b p ≠ -1 → ∃ s, m (kf b p) = some s ∧ s.b = (b : Int) ∧ s.p = (p : Int)
section
variable {w : World} {base tb mb ob B P cO : Nat} {kb : Nat → Nat} {kf : Nat → Nat → Int} {m : Int → Option Sl} {cnt nb : Nat}
theorem TabAt.cells (h : TabAt w base tb mb ob B P cO kb kf m cnt nb) : w.cell? ⟨tb, 0, none⟩ = some (.map (some mb)) ∧ w.cell? ⟨tb, 1, none⟩ = some (.slice (some ⟨ob, 0, none⟩) B cO) ∧ ∀ i, w.frozen? ⟨tb, i, none⟩ = false := by
  have e := h.blk
  refine ⟨?_, ?_, fun i => ?_⟩
  · unfold World.cell?; simp only; rw [e]; rfl
  · unfold World.cell?; simp only; rw [e]; rfl
  · unfold World.frozen?; simp only; rw [e]; rfl
theorem TabAt.lt (h : TabAt w base tb mb ob B P cO kb kf m cnt nb) : tb < w.heap.size := lt_of_block h.blk
theorem cell_heapT {W X : World} {g i : Nat} (h : W.heap[g]? = X.heap[g]?) : W.cell? ⟨g, i, none⟩ = X.cell? ⟨g, i, none⟩ := by
  unfold World.cell?
  simp only
  rw [h]
theorem TabAt.far {w' : World} (h : TabAt w base tb mb ob B P cO kb kf m cnt nb) (o : ∀ k, base ≤ k → k < w.heap.size → w'.heap[k]? = w.heap[k]?) : TabAt w' base tb mb ob B P cO kb kf m cnt nb := by
  obtain ⟨a1, a2, a3, a4, a5, a6, a7⟩ := h.apart
  exact ⟨(o tb a1 h.lt).trans h.blk, h.map.keep (o mb a2 h.map.lt), fun b hb => (cell_heapT (o ob a3 (World.block_lt_of_cell? w _ (h.outer b hb)))).trans (h.outer b hb), fun b hb => (o (kb b) (a7 b hb).1 (lt_of_block (h.rows b hb))).trans (h.rows b hb), h.inj, h.apart, h.pos, h.here, h.there⟩
theorem TabAt.below {w' : World} (h : TabAt w base tb mb ob B P cO kb kf m cnt nb) (b : Below w.heap.size w w') : TabAt w' base tb mb ob B P cO kb kf m cnt nb := h.far fun k _ hk => b.block k hk
theorem TabAt.wf (h : TabAt w base tb mb ob B P cO kb kf m cnt nb) {b p : Nat} (hb : b < B) (hp : p < P) : kf b p = -1 ∨ (0 ≤ kf b p ∧ kf b p ≤ 1073741824) := by
  by_cases e : kf b p = -1
  · exact .inl e
  · obtain ⟨s, hs, _⟩ := h.there b p hb hp e
    obtain ⟨_, h1, h2, _⟩ := h.here _ s hs
    exact .inr ⟨h1, h2⟩
/-- a page's cell. -/
theorem TabAt.page (h : TabAt w base tb mb ob B P cO kb kf m cnt nb) {b p : Nat} (hb : b < B) (hp : p < P) : w.cell? ⟨kb b, p, none⟩ = some (.int .i64 (kf b p)) ∧ w.frozen? ⟨kb b, p, none⟩ = false := by
  have h1 := (h.rows b hb).cell (i := p) (by simp; exact hp)
  rw [row_nth hp] at h1
  exact ⟨h1, (h.rows b hb).free p⟩
theorem uniq_page (h : TabAt w base tb mb ob B P cO kb kf m cnt nb) {b p b' p' : Nat} (hb : b < B) (hp : p < P) (hb' : b' < B) (hp' : p' < P) (he : kf b p = kf b' p') (hn : kf b p ≠ -1) : b = b' ∧ p = p' := by
  obtain ⟨s, h1, h2, h3⟩ := h.there b p hb hp hn
  obtain ⟨s', h1', h2', h3'⟩ := h.there b' p' hb' hp' (by rw [← he]; exact hn)
  rw [← he, h1] at h1'
  cases h1'
  exact ⟨by omega, by omega⟩
/-- a key's page is taken from it. -/
def kfD (kf : Nat → Nat → Int) (b p : Nat) : Nat → Nat → Int := fun b' p' => if b' = b ∧ p' = p then -1 else kf b' p'
def mD (m : Int → Option Sl) (k : Int) : Int → Option Sl := fun j => if j = k then none else m j
theorem TabAt.dropped {w2 : World} (h : TabAt w base tb mb ob B P cO kb kf m cnt nb) {k : Int} {s : Sl} {b p : Nat} (hs : m k = some s) (hb : s.b = (b : Int)) (hp : s.p = (p : Int)) (hbB : b < B) (hpP : p < P) (hk : kf b p = k)
    (hm : MapAt w2 mb (mD m k) (cnt - 1) nb) (t : Turned (w.setCell ⟨kb b, p, none⟩ (.int .i64 (-1))) w2 mb) :
    TabAt w2 base tb mb ob B P cO kb (kfD kf b p) (mD m k) (cnt - 1) nb ∧ Tn (mb :: (List.range B).map kb) w w2 (mb :: (List.range B).map kb) := by
  obtain ⟨a1, a2, a3, a4, a5, a6, a7⟩ := h.apart
  have o := Only.setCell w ⟨kb b, p, none⟩ (.int .i64 (-1))
  have hkb := a7 b hbB
  obtain ⟨t1, t2, t3, t4, t5⟩ := t
  have keep : ∀ z, z ≠ mb → z ≠ kb b → w2.heap[z]? = w.heap[z]? := fun z z1 z2 => (t5 z z1).trans (o.block z z2)
  refine ⟨⟨(keep tb (Ne.symm a4) (Ne.symm hkb.2.1)).trans h.blk, hm, fun c hc => (cell_heapT (keep ob a6 (Ne.symm hkb.2.2.2))).trans (h.outer c hc), fun c hc => ?_, h.inj, h.apart, h.pos, fun j t hj => ?_, fun c q hc hq hne => ?_⟩, ⟨t1.trans o.os, t2.trans o.tape, t3.trans o.output, by rw [t4, o.size]; exact Nat.le_refl _, fun z _ hz => ?_, fun _ h => .inl h⟩⟩
  · by_cases e : c = b
    · subst e
      have h1 := (h.rows c hbB).set p (-1)
      rw [row_set hpP] at h1
      have h2 : (w2.heap[kb c]?) = _ := (t5 (kb c) hkb.2.2.1).trans h1
      have : (fun j => if j = p then (-1 : Int) else kf c j) = kfD kf c p c := by funext j; unfold kfD; simp
      rw [this] at h2
      exact h2
    · have hne : kb c ≠ kb b := fun e' => e (h.inj c b hc hbB e')
      have h2 : w2.heap[kb c]? = _ := (keep (kb c) (a7 c hc).2.2.1 hne).trans (h.rows c hc)
      have : kfD kf b p c = kf c := by funext j; unfold kfD; simp [e]
      rw [this]
      exact h2
  · unfold mD at hj
    by_cases e : j = k
    · rw [if_pos e] at hj; cases hj
    · rw [if_neg e] at hj
      obtain ⟨h1, h2, h3, c, q, h4, h5, h6, h7, h8⟩ := h.here j t hj
      refine ⟨h1, h2, h3, c, q, h4, h5, h6, h7, ?_⟩
      unfold kfD
      rw [if_neg (fun e' => e (by rw [← h8, e'.1, e'.2, hk]))]
      exact h8
  · unfold kfD at hne ⊢
    by_cases e : c = b ∧ q = p
    · rw [if_pos e] at hne; exact absurd rfl hne
    · rw [if_neg e] at hne ⊢
      obtain ⟨t, h1, h2, h3⟩ := h.there c q hc hq hne
      refine ⟨t, ?_, h2, h3⟩
      unfold mD
      rw [if_neg (fun e' => e (by
        have := uniq_page h hc hq hbB hpP (by rw [e', hk]) hne
        exact this))]
      exact h1
  · rw [List.mem_cons, not_or] at hz
    exact keep z hz.1 fun e => hz.2 (List.mem_map.2 ⟨b, List.mem_range.2 hbB, e.symm⟩)
/-- a free page is given to a key that has none. -/
def kfS (kf : Nat → Nat → Int) (b p : Nat) (k : Int) : Nat → Nat → Int := fun b' p' => if b' = b ∧ p' = p then k else kf b' p'
def mS (m : Int → Option Sl) (k : Int) (s : Sl) : Int → Option Sl := fun j => if j = k then some s else m j
theorem TabAt.stored {w1 : World} (h : TabAt w base tb mb ob B P cO kb kf m cnt nb) {k : Int} {s : Sl} {b p : Nat} (hg : m k = none) (hsk : s.k = k) (h0 : 0 ≤ k) (h1 : k ≤ 1073741824) (hb : s.b = (b : Int)) (hp : s.p = (p : Int)) (hbB : b < B) (hpP : p < P) (hk : kf b p = -1)
    (hm : MapAt w1 mb (mS m k s) (cnt + 1) (nb + 1)) (t : Turned w w1 mb) :
    TabAt (w1.setCell ⟨kb b, p, none⟩ (.int .i64 k)) base tb mb ob B P cO kb (kfS kf b p k) (mS m k s) (cnt + 1) (nb + 1) ∧ Tn (mb :: (List.range B).map kb) w (w1.setCell ⟨kb b, p, none⟩ (.int .i64 k)) (mb :: (List.range B).map kb) := by
  obtain ⟨a1, a2, a3, a4, a5, a6, a7⟩ := h.apart
  have o := Only.setCell w1 ⟨kb b, p, none⟩ (.int .i64 k)
  have hkb := a7 b hbB
  obtain ⟨t1, t2, t3, t4, t5⟩ := t
  have keep : ∀ z, z ≠ mb → z ≠ kb b → (w1.setCell ⟨kb b, p, none⟩ (.int .i64 k)).heap[z]? = w.heap[z]? := fun z z1 z2 => (o.block z z2).trans (t5 z z1)
  refine ⟨⟨(keep tb (Ne.symm a4) (Ne.symm hkb.2.1)).trans h.blk, hm.keep (o.block mb (Ne.symm hkb.2.2.1)), fun c hc => (cell_heapT (keep ob a6 (Ne.symm hkb.2.2.2))).trans (h.outer c hc), fun c hc => ?_, h.inj, h.apart, h.pos, fun j t hj => ?_, fun c q hc hq hne => ?_⟩, ⟨o.os.trans t1, o.tape.trans t2, o.output.trans t3, by rw [o.size, t4]; exact Nat.le_refl _, fun z _ hz => ?_, fun _ h => .inl h⟩⟩
  · by_cases e : c = b
    · subst e
      have hw1 : Blk64 w1 (kb c) ((List.range P).map (kf c)) := (t5 (kb c) hkb.2.2.1).trans (h.rows c hbB)
      have h1 := hw1.set p k
      rw [row_set hpP] at h1
      have : (fun j => if j = p then k else kf c j) = kfS kf c p k c := by funext j; unfold kfS; simp
      rw [this] at h1
      exact h1
    · have hne : kb c ≠ kb b := fun e' => e (h.inj c b hc hbB e')
      have h2 := (keep (kb c) (a7 c hc).2.2.1 hne).trans (h.rows c hc)
      have : kfS kf b p k c = kf c := by funext j; unfold kfS; simp [e]
      rw [this]
      exact h2
  · unfold mS at hj
    by_cases e : j = k
    · rw [if_pos e] at hj
      cases hj
      subst e
      refine ⟨hsk, h0, h1, b, p, hb, hp, hbB, hpP, ?_⟩
      unfold kfS
      rw [if_pos ⟨rfl, rfl⟩]
    · rw [if_neg e] at hj
      obtain ⟨h1', h2, h3, c, q, h4, h5, h6, h7, h8⟩ := h.here j t hj
      refine ⟨h1', h2, h3, c, q, h4, h5, h6, h7, ?_⟩
      unfold kfS
      rw [if_neg (fun e' => by rw [e'.1, e'.2, hk] at h8; omega)]
      exact h8
  · unfold kfS at hne ⊢
    unfold mS
    by_cases e : c = b ∧ q = p
    · rw [if_pos e, if_pos rfl]
      exact ⟨s, rfl, by rw [e.1]; exact hb, by rw [e.2]; exact hp⟩
    · rw [if_neg e] at hne ⊢
      obtain ⟨t, h1, h2, h3⟩ := h.there c q hc hq hne
      rw [if_neg (fun e' => by rw [e', hg] at h1; cases h1)]
      exact ⟨t, h1, h2, h3⟩
  · rw [List.mem_cons, not_or] at hz
    exact keep z hz.1 fun e => hz.2 (List.mem_map.2 ⟨b, List.mem_range.2 hbB, e.symm⟩)
end
end Go.Proofs.YtpbckjagiebmjaaDoor.Tb
/- A table's Len, is, At, Live. By the verifier of shale. -/
namespace Go.Proofs.YtpbckjagiebmjaaDoor.Tb
open Go Go.RowKit
set_option linter.unusedVariables false
set_option linter.unusedSimpArgs false
theorem newPl (w W : World) (b p : Int) (h : w.alloc (.cells #[.int .i64 b, .int .i64 p] 24 (0, 0)) = W) : W.heap[w.heap.size]? = some (.cells #[.int .i64 b, .int .i64 p] 24 (0, 0)) ∧ Below w.heap.size w W := by
  subst h
  exact ⟨heap_alloc_new w _, (Below.refl _ _).alloc (Nat.le_refl _) _⟩
theorem pl_cells {w : World} {g : Nat} {x y : Value} {t : TypeId} (e : w.heap[g]? = some (.cells #[x, y] t (0, 0))) : w.cell? ⟨g, 0, none⟩ = some x ∧ w.cell? ⟨g, 1, none⟩ = some y ∧ ∀ i, w.frozen? ⟨g, i, none⟩ = false := by
  refine ⟨?_, ?_, fun i => ?_⟩
  · unfold World.cell?; simp only; rw [e]; rfl
  · unfold World.cell?; simp only; rw [e]; rfl
  · unfold World.frozen?; simp only; rw [e]; rfl
set_option maxHeartbeats 1000000 in
theorem samePlace_any (b p b' p' : Int) (w : World) : Calls Tryd.prog 12 #[.agg #[.int .i64 b, .int .i64 p], .agg #[.int .i64 b', .int .i64 p']] w fun e w' => e = .returned (.bool (decide (b = b') && decide (p = p'))) ∧ Below w.heap.size w w' := by
  have key : ∀ (c1 c2 : Bool), (b == b') = c1 → (p == p') = c2 → Calls Tryd.prog 12 #[.agg #[.int .i64 b, .int .i64 p], .agg #[.int .i64 b', .int .i64 p']] w fun e w' => e = .returned (.bool (c1 && c2)) ∧ Below w.heap.size w w' := by
    intro c1 c2 h1 h2
    go_enter Tryd.func12, Tryd.ntmps12
    go_upto_region 1 with (fail)
    generalize hw : w.alloc (.cells #[.int .i64 b, .int .i64 p] 24 (0, 0)) = w1
    obtain ⟨k1, b1⟩ := newPl w w1 b p hw
    have hs1 : w1.heap.size = w.heap.size + 1 := by rw [← hw]; simp
    clear hw
    rw [← hs1]
    generalize hw : w1.alloc (.cells #[.int .i64 b', .int .i64 p'] 24 (0, 0)) = w2
    obtain ⟨k2, b2⟩ := newPl w1 w2 b' p' hw
    clear hw
    have k3 := (b2.block _ (lt_of_block k1)).trans k1
    have HB := Lib.hid (b1.trans (b2.mono b1.size))
    obtain ⟨x0, x1, _⟩ := pl_cells k3
    obtain ⟨z0, z1, _⟩ := pl_cells k2
    obtain ⟨xb, hxb⟩ : ∃ xb, xb = w.heap.size := ⟨_, rfl⟩
    obtain ⟨zb, hzb⟩ : ∃ zb, zb = w1.heap.size := ⟨_, rfl⟩
    rw [← hxb] at x0 x1 ⊢
    rw [← hzb] at z0 z1 ⊢
    have HX := Lib.hid hxb
    clear k1 k2 k3 b1 b2 hs1 hxb hzb
    cases c1 <;> cases c2
    all_goals
      go_wp2_with fail
      go_ret
      exact ⟨rfl, HB.out⟩
  have e1 : (b == b') = decide (b = b') := by rw [Bool.eq_iff_iff]; simp
  have e2 : (p == p') = decide (p = p') := by rw [Bool.eq_iff_iff]; simp
  exact key _ _ e1 e2
section
variable {w : World} {base tb mb ob B P cO : Nat} {kb : Nat → Nat} {kf : Nat → Nat → Int} {m : Int → Option Sl} {cnt nb : Nat}
set_option maxHeartbeats 1000000 in
theorem len_any (T : TabAt w base tb mb ob B P cO kb kf m cnt nb) : Calls Tryd.prog 18 #[.pointer (some ⟨tb, 0, none⟩)] w fun e w' => e = .returned (.int .i64 (cnt : Int)) ∧ w = w' := by
  obtain ⟨k0, k1, _⟩ := T.cells
  have hl := T.map.len 3
  clear T
  go_enter Tryd.func18, Tryd.ntmps18
  go_wp2_with fail
  go_ret
  exact ⟨rfl, rfl⟩
set_option maxHeartbeats 1000000 in
theorem is_yes (T : TabAt w base tb mb ob B P cO kb kf m cnt nb) {b p : Nat} (hb : b < B) (hp : p < P) : Calls Tryd.prog 26 #[.pointer (some ⟨tb, 0, none⟩), .agg #[.int .i64 (b : Int), .int .i64 (p : Int)]] w fun e w' => e = .returned (.bool true) ∧ Below w.heap.size w w' := by
  go_enter Tryd.func26, Tryd.ntmps26
  go_upto_region 1 with (fail)
  generalize hw : w.alloc (.cells #[.int .i64 (b : Int), .int .i64 (p : Int)] 24 (0, 0)) = w1
  obtain ⟨K1, b1⟩ := newPl w w1 b p hw
  clear hw
  obtain ⟨x0, x1, _⟩ := pl_cells K1
  obtain ⟨xb, hxb⟩ : ∃ xb, xb = w.heap.size := ⟨_, rfl⟩
  rw [← hxb] at x0 x1 ⊢
  have T1 := T.below b1
  obtain ⟨k0, k1, _⟩ := T1.cells
  have k2 := T1.outer 0 T.pos.1
  have hP := T.pos
  have HX := Lib.hid (And.intro hxb b1)
  have y0 : (0 : Int) ≤ (b : Int) := by omega
  have y1 : (b : Int) < (B : Int) := by omega
  have y2 : (0 : Int) ≤ (p : Int) := by omega
  have y3 : (p : Int) < (P : Int) := by omega
  have y4 : (0 : Int) < (B : Int) := by omega
  have z0 : decide ((0 : Int) ≤ (b : Int)) = true := decide_eq_true y0
  have z1 : decide ((b : Int) < (B : Int)) = true := decide_eq_true y1
  have z1' : decide (b < B) = true := decide_eq_true hb
  have z2 : decide ((0 : Int) ≤ (p : Int)) = true := decide_eq_true y2
  have z3 : decide ((p : Int) < (P : Int)) = true := decide_eq_true y3
  have z3' : decide (p < P) = true := decide_eq_true hp
  obtain ⟨q1, q2, q3, q4, q5, q6⟩ := hP
  unfold maxLen at q6
  clear T T1 K1 b1 hxb
  go_quiet (fail)
  have HD : Hid (Below w.heap.size w (w1.drewN nq)) := HX.out.2.trans (((Drawn.mk w1 nq).below w1.heap.size).mono HX.out.2.size)
  generalize w1.drewN nq = w2 at HD ⊢
  go_wp2_with fail
  go_ret
  exact ⟨rfl, HD.out⟩
set_option maxHeartbeats 1000000 in
theorem at_no (T : TabAt w base tb mb ob B P cO kb kf m cnt nb) {b p : Nat} (hb : b < B) (hp : p < P) (hk : kf b p = -1) : Calls Tryd.prog 15 #[.pointer (some ⟨tb, 0, none⟩), .agg #[.int .i64 (b : Int), .int .i64 (p : Int)]] w fun e w' => e = .returned (.tuple #[.int .i64 0, .bool false]) ∧ Below w.heap.size w w' := by
  go_enter Tryd.func15, Tryd.ntmps15
  go_upto_region 1 with (fail)
  generalize hw : w.alloc (.cells #[.int .i64 (b : Int), .int .i64 (p : Int)] 24 (0, 0)) = w1
  obtain ⟨K1, b1⟩ := newPl w w1 b p hw
  clear hw
  obtain ⟨x0, x1, _⟩ := pl_cells K1
  obtain ⟨xb, hxb⟩ : ∃ xb, xb = w.heap.size := ⟨_, rfl⟩
  rw [← hxb] at x0 x1 ⊢
  have T1 := T.below b1
  obtain ⟨k0, k1, _⟩ := T1.cells
  have k2 := T1.outer b hb
  have k3 := (T1.page hb hp).1
  rw [hk] at k3
  have HI : Hid (∀ q os, Calls Tryd.prog 26 #[.pointer (some ⟨tb, 0, none⟩), .agg #[.int .i64 (b : Int), .int .i64 (p : Int)]] (Sort.grow (redrawn w1 q) os) fun x w'' => x = .returned (.bool true) ∧ ∃ p : Regrown, w'' = Sort.grow (redrawn w1 p.d) p.os) := fun q os => Calls.regrown_of (is_yes (T1.below (below_regrown w1 q os)) hb hp)
  have hP := T.pos
  have HX := Lib.hid (And.intro hxb b1)
  have y0 : (0 : Int) ≤ (b : Int) := by omega
  have y1 : (b : Int) < (B : Int) := by omega
  have y2 : (0 : Int) ≤ (p : Int) := by omega
  have y3 : (p : Int) < (P : Int) := by omega
  obtain ⟨q1, q2, q3, q4, q5, q6⟩ := hP
  unfold maxLen at q6
  replace x0 := cell_regrown x0
  replace x1 := cell_regrown x1
  replace k0 := cell_regrown k0
  replace k1 := cell_regrown k1
  replace k2 := cell_regrown k2
  replace k3 := cell_regrown k3
  clear T T1 K1 b1 hxb hb hp hk
  refine wp_region_quiet_below (by kernel_rfl) (by kernel_rfl) ?_
  repeat (go_big_quiet_step (first | (go_at_call 26; with_reducible exact HI.out _ _)))
  refine wpQuiet_nil ?_
  intro _ hw'
  obtain ⟨⟨dq, osq⟩, hw''⟩ := hw'
  subst hw''
  have HD : Hid (Below w.heap.size w (Sort.grow (redrawn w1 dq) osq)) := HX.out.2.trans ((below_regrown w1 dq osq).mono HX.out.2.size)
  generalize Sort.grow (redrawn w1 dq) osq = w2 at HD ⊢
  clear x0 x1 k0 k1 k2 k3 HI
  go_wp2_with fail
  go_ret2
  exact ⟨rfl, HD.out⟩
set_option maxHeartbeats 1000000 in
theorem at_yes (T : TabAt w base tb mb ob B P cO kb kf m cnt nb) {b p : Nat} (hb : b < B) (hp : p < P) (hk : kf b p ≠ -1) : Calls Tryd.prog 15 #[.pointer (some ⟨tb, 0, none⟩), .agg #[.int .i64 (b : Int), .int .i64 (p : Int)]] w fun e w' => e = .returned (.tuple #[.int .i64 (kf b p), .bool true]) ∧ Below w.heap.size w w' := by
  go_enter Tryd.func15, Tryd.ntmps15
  go_upto_region 1 with (fail)
  generalize hw : w.alloc (.cells #[.int .i64 (b : Int), .int .i64 (p : Int)] 24 (0, 0)) = w1
  obtain ⟨K1, b1⟩ := newPl w w1 b p hw
  clear hw
  obtain ⟨x0, x1, _⟩ := pl_cells K1
  obtain ⟨xb, hxb⟩ : ∃ xb, xb = w.heap.size := ⟨_, rfl⟩
  rw [← hxb] at x0 x1 K1 ⊢
  have T1 := T.below b1
  obtain ⟨k0, k1, _⟩ := T1.cells
  have k2 := T1.outer b hb
  have k3 := (T1.page hb hp).1
  have HI : Hid (∀ q os, Calls Tryd.prog 26 #[.pointer (some ⟨tb, 0, none⟩), .agg #[.int .i64 (b : Int), .int .i64 (p : Int)]] (Sort.grow (redrawn w1 q) os) fun x w'' => x = .returned (.bool true) ∧ ∃ p : Regrown, w'' = Sort.grow (redrawn w1 p.d) p.os) := fun q os => Calls.regrown_of (is_yes (T1.below (below_regrown w1 q os)) hb hp)
  have hP := T.pos
  have HX := Lib.hid (And.intro hxb (And.intro b1 (And.intro T1 (And.intro K1 (And.intro hb hp)))))
  have y0 : (0 : Int) ≤ (b : Int) := by omega
  have y1 : (b : Int) < (B : Int) := by omega
  have y2 : (0 : Int) ≤ (p : Int) := by omega
  have y3 : (p : Int) < (P : Int) := by omega
  have y4 : (kf b p == -1) = false := by rw [beq_eq_false_iff_ne]; exact hk
  obtain ⟨q1, q2, q3, q4, q5, q6⟩ := hP
  unfold maxLen at q6
  generalize hkk : kf b p = kk at k3 y4
  have HKK := Lib.hid hkk
  replace x0 := cell_regrown x0
  replace x1 := cell_regrown x1
  replace k0 := cell_regrown k0
  replace k1 := cell_regrown k1
  replace k2 := cell_regrown k2
  replace k3 := cell_regrown k3
  clear T T1 K1 b1 hxb hb hp hk hkk
  refine wp_region_quiet_below (by kernel_rfl) (by kernel_rfl) ?_
  repeat (go_big_quiet_step (first | (go_at_call 26; with_reducible exact HI.out _ _)))
  refine wpQuiet_nil ?_
  intro _ hw'
  obtain ⟨⟨dq, osq⟩, hw''⟩ := hw'
  subst hw''
  have b2 := below_regrown w1 dq osq
  have HD : Hid (Below w.heap.size w (Sort.grow (redrawn w1 dq) osq)) := HX.out.2.1.trans (b2.mono HX.out.2.1.size)
  generalize Sort.grow (redrawn w1 dq) osq = w2 at HD b2 ⊢
  clear x0 x1 k0 k1 k2 k3 HI
  have T2 := HX.out.2.2.1.below b2
  obtain ⟨x0, x1, _⟩ := pl_cells ((b2.block _ (lt_of_block HX.out.2.2.2.1)).trans HX.out.2.2.2.1)
  obtain ⟨k0, k1, _⟩ := T2.cells
  have k2 := T2.outer b HX.out.2.2.2.2.1
  have k3 := (T2.page HX.out.2.2.2.2.1 HX.out.2.2.2.2.2).1
  rw [HKK.out] at k3
  clear T2 b2
  go_wp2_with fail
  go_quiet (fail)
  have HD2 : Hid (Below w.heap.size w (w2.drewN nq)) := HD.out.trans (((Drawn.mk w2 nq).below w2.heap.size).mono HD.out.size)
  generalize w2.drewN nq = w3 at HD2 ⊢
  go_wp2_with fail
  go_ret2
  exact ⟨by rw [HKK.out]; rfl, HD2.out⟩
/-- so many of the first k pages are some key's. -/
def liveN (f : Nat → Int) (k : Nat) : Nat := ((List.range k).filter fun j => decide (f j ≠ -1)).length
theorem liveN_succ (f : Nat → Int) (k : Nat) : liveN f (k + 1) = liveN f k + if f k ≠ -1 then 1 else 0 := by
  unfold liveN
  rw [List.range_succ, List.filter_append, List.length_append]
  by_cases h : f k ≠ -1
  · simp [h]
  · simp [h]
theorem liveN_le (f : Nat → Int) (k : Nat) : liveN f k ≤ k := by
  unfold liveN
  have := List.length_filter_le (fun j => decide (f j ≠ -1)) (List.range k)
  rwa [List.length_range] at this
set_option maxHeartbeats 1000000 in
theorem live_any (T : TabAt w base tb mb ob B P cO kb kf m cnt nb) {b : Nat} (hb : b < B) : Calls Tryd.prog 19 #[.pointer (some ⟨tb, 0, none⟩), .int .i64 (b : Int)] w fun e w' => e = .returned (.int .i64 (liveN (kf b) P : Int)) ∧ w = w' := by
  obtain ⟨k0, k1, _⟩ := T.cells
  have k2 := T.outer b hb
  have HT := Lib.hid T
  have hP := T.pos
  obtain ⟨q1, q2, q3, q4, q5, q6⟩ := hP
  unfold maxLen at q6
  have y0 : (0 : Int) ≤ (b : Int) := by omega
  have y1 : (b : Int) < (B : Int) := by omega
  have z0 : decide ((0 : Int) ≤ (b : Int)) = true := decide_eq_true y0
  have z1 : decide ((b : Int) < (B : Int)) = true := decide_eq_true y1
  have HB := Lib.hid hb
  clear T hb
  go_enter Tryd.func19, Tryd.ntmps19
  go_wp2_with fail
  go_loopg [5, 27] P (fun gh s5 s27 wx => ∃ k : Nat, gh = P - k ∧ k ≤ P ∧ s27 = .int .i64 (k : Int) ∧ s5 = .int .i64 (liveN (kf b) k : Int) ∧ w = wx)
  case atStart => exact ⟨0, rfl, Nat.zero_le _, rfl, rfl, rfl⟩
  case round =>
    obtain ⟨k, hg, hk, rfl, rfl, rfl⟩ := hrel
    have HI := Lib.hid hg
    clear hg
    by_cases hlt : k < P
    · have x1 : (k : Int) < (P : Int) := by omega
      have x0 : (0 : Int) ≤ (k : Int) := by omega
      have c0 := (HT.out.page HB.out hlt).1
      have hle := liveN_le (kf b) k
      have HS := Lib.hid (liveN_succ (kf b) k)
      by_cases hf : kf b k = -1
      · rw [hf] at c0 HS
        have HS' : Hid (liveN (kf b) (k + 1) = liveN (kf b) k) := by have := HS.out; show _ = _; simpa using this
        clear hf HS
        go_wp2_with fail
        go_roundg (P - (k + 1))
        case measure => have := HI.out; omega
        case rel => exact ⟨k + 1, rfl, hlt, by go_num, by rw [HS'.out], rfl⟩
      · have HS' : Hid (liveN (kf b) (k + 1) = liveN (kf b) k + 1) := by have := HS.out; show _ = _; simpa [hf] using this
        generalize kf b k = z at c0 hf
        have u1 : (z == -1) = false := by rw [beq_eq_false_iff_ne]; exact hf
        have u2 : (z != -1) = true := by rw [bne, u1]; rfl
        clear hf HS
        go_wp2_with fail
        go_roundg (P - (k + 1))
        case measure => have := HI.out; omega
        case rel => exact ⟨k + 1, rfl, hlt, by go_num, by rw [HS'.out]; go_num, rfl⟩
    · obtain rfl : k = P := by omega
      go_wp2_with fail
      go_ret
      exact ⟨rfl, rfl⟩
end
end Go.Proofs.YtpbckjagiebmjaaDoor.Tb
/- The orders of a table's slots. By the verifier of shale. -/
namespace Go.Proofs.YtpbckjagiebmjaaDoor.Tb
open Go Go.RowKit Go.Sort
set_option linter.unusedVariables false
set_option linter.unusedSimpArgs false
def cmpI (x y : Int) : Int := if x < y then -1 else if y < x then 1 else 0
theorem nan_any (x : Int) (w : World) : Calls Tryd.prog 52 #[.int .i64 x] w fun e w' => e = .returned (.bool false) ∧ w = w' := by
  go_enter Tryd.func52, Tryd.ntmps52
  go_wp2_with fail
  go_ret
  exact ⟨rfl, rfl⟩
theorem cmp_any (x y : Int) (w : World) : Calls Tryd.prog 44 #[.int .i64 x, .int .i64 y] w fun e w' => e = .returned (.int .i64 (cmpI x y)) ∧ w = w' := by
  have H1 := Lib.hid (nan_any x w)
  have H2 := Lib.hid (nan_any y w)
  unfold cmpI
  by_cases h1 : x < y
  · have t1 : decide (x < y) = true := decide_eq_true h1
    rw [if_pos h1]
    go_enter Tryd.func44, Tryd.ntmps44
    go_wp2_with fail
    refine H1.out.mono ?_
    rintro e w' ⟨rfl, rfl⟩
    go_wp2_with fail
    refine H2.out.mono ?_
    rintro e w' ⟨rfl, rfl⟩
    go_wp2_with fail
    go_ret
    exact ⟨rfl, rfl⟩
  · have t1 : decide (x < y) = false := decide_eq_false h1
    rw [if_neg h1]
    by_cases h2 : y < x
    · have t2 : decide (y < x) = true := decide_eq_true h2
      rw [if_pos h2]
      go_enter Tryd.func44, Tryd.ntmps44
      go_wp2_with fail
      refine H1.out.mono ?_
      rintro e w' ⟨rfl, rfl⟩
      go_wp2_with fail
      refine H2.out.mono ?_
      rintro e w' ⟨rfl, rfl⟩
      go_wp2_with fail
      go_ret
      exact ⟨rfl, rfl⟩
    · have t2 : decide (y < x) = false := decide_eq_false h2
      rw [if_neg h2]
      go_enter Tryd.func44, Tryd.ntmps44
      go_wp2_with fail
      refine H1.out.mono ?_
      rintro e w' ⟨rfl, rfl⟩
      go_wp2_with fail
      refine H2.out.mono ?_
      rintro e w' ⟨rfl, rfl⟩
      go_wp2_with fail
      go_ret
      exact ⟨rfl, rfl⟩
theorem byKey_any (x y : Sl) (w : World) : Calls Tryd.prog 34 #[slV x, slV y] w fun e w' => e = .returned (.int .i64 (cmpI x.k y.k)) ∧ ∃ q os', w' = grow (w.drewN q) os' := by
  have HC := Lib.hid (cmp_any x.k y.k)
  generalize cmpI x.k y.k = r at HC ⊢
  go_enter Tryd.func34, Tryd.ntmps34
  go_wp2_with fail
  refine (HC.out _).mono ?_
  rintro e w' ⟨rfl, rfl⟩
  go_wp2_with fail
  go_ret
  exact ⟨rfl, 0, _, by rw [alloc_eq_grow, alloc_eq_grow, grow_grow]; rfl⟩
theorem byPage_any (x y : Sl) (w : World) : Calls Tryd.prog 32 #[slV x, slV y] w fun e w' => e = .returned (.int .i64 (cmpI x.p y.p)) ∧ ∃ q os', w' = grow (w.drewN q) os' := by
  have HC := Lib.hid (cmp_any x.p y.p)
  generalize cmpI x.p y.p = r at HC ⊢
  go_enter Tryd.func32, Tryd.ntmps32
  go_wp2_with fail
  refine (HC.out _).mono ?_
  rintro e w' ⟨rfl, rfl⟩
  go_wp2_with fail
  go_ret
  exact ⟨rfl, 0, _, by rw [alloc_eq_grow, alloc_eq_grow, grow_grow]; rfl⟩
theorem wantAll (s : Sl) (w : World) : Calls Tryd.prog 35 #[slV s] w fun e w' => e = .returned (.bool true) ∧ Below w.heap.size w w' := by
  go_enter Tryd.func35, Tryd.ntmps35
  go_wp2_with fail
  go_ret
  exact ⟨rfl, (Below.refl _ _).alloc (Nat.le_refl _) _⟩
theorem wantOf (s : Sl) (w : World) {cb : Nat} {B : Int} (hc : w.cell? ⟨cb, 0, none⟩ = some (.int .i64 B)) : Calls Tryd.prog 33 #[slV s, .pointer (some ⟨cb, 0, none⟩)] w fun e w' => e = .returned (.bool (decide (s.b = B))) ∧ Below w.heap.size w w' := by
  have hl := World.block_lt_of_cell? w _ hc
  have b1 : ∀ o : Obj, Below w.heap.size w (w.alloc o) := fun o => (Below.refl _ _).alloc (Nat.le_refl _) _
  have hc' : ∀ o : Obj, (w.alloc o).cell? ⟨cb, 0, none⟩ = some (.int .i64 B) := fun o => (cell_heapT ((b1 o).block cb hl)).trans hc
  have key : ∀ c : Bool, (s.b == B) = c → Calls Tryd.prog 33 #[slV s, .pointer (some ⟨cb, 0, none⟩)] w fun e w' => e = .returned (.bool c) ∧ Below w.heap.size w w' := by
    intro c h
    have HB := Lib.hid b1
    clear b1
    go_enter Tryd.func33, Tryd.ntmps33
    go_wp2_with fail
    go_ret
    exact ⟨rfl, HB.out _⟩
  have h := key _ rfl
  rwa [show (s.b == B) = decide (s.b = B) from rfl] at h
end Go.Proofs.YtpbckjagiebmjaaDoor.Tb
/- A table's Drop. By the verifier of shale. -/
namespace Go.Proofs.YtpbckjagiebmjaaDoor.Tb
open Go Go.RowKit
set_option linter.unusedVariables false
set_option linter.unusedSimpArgs false
theorem newSl (w W : World) (s : Sl) (h : w.alloc (.cells #[.int .i64 s.k, .int .i64 s.b, .int .i64 s.p, .int .i64 s.m0, .int .i64 s.m1, .int .i64 s.m2, .int .i64 s.m3, .int .i64 s.m4, .int .i64 s.m5] 47 (0, 0)) = W) : W.heap[w.heap.size]? = some (.cells #[.int .i64 s.k, .int .i64 s.b, .int .i64 s.p, .int .i64 s.m0, .int .i64 s.m1, .int .i64 s.m2, .int .i64 s.m3, .int .i64 s.m4, .int .i64 s.m5] 47 (0, 0)) ∧ Below w.heap.size w W := by
  subst h
  exact ⟨heap_alloc_new w _, (Below.refl _ _).alloc (Nat.le_refl _) _⟩
theorem sl_cells {w : World} {g : Nat} {s : Sl} (e : w.heap[g]? = some (.cells #[.int .i64 s.k, .int .i64 s.b, .int .i64 s.p, .int .i64 s.m0, .int .i64 s.m1, .int .i64 s.m2, .int .i64 s.m3, .int .i64 s.m4, .int .i64 s.m5] 47 (0, 0))) : w.cell? ⟨g, 1, none⟩ = some (.int .i64 s.b) ∧ w.cell? ⟨g, 2, none⟩ = some (.int .i64 s.p) := by
  refine ⟨?_, ?_⟩
  · unfold World.cell?; simp only; rw [e]; rfl
  · unfold World.cell?; simp only; rw [e]; rfl
section
variable {w : World} {base tb mb ob B P cO : Nat} {kb : Nat → Nat} {kf : Nat → Nat → Int} {m : Int → Option Sl} {cnt nb : Nat}
set_option maxRecDepth 100000 in
set_option maxHeartbeats 1000000 in
theorem drop_no (T : TabAt w base tb mb ob B P cO kb kf m cnt nb) {k : Int} (hk : (Lit.int .i64 k).wf = true) (hg : m k = none) : Calls Tryd.prog 8 #[.pointer (some ⟨tb, 0, none⟩), .int .i64 k] w fun e w' => e = .returned (.bool false) ∧ Below w.heap.size w w' := by
  obtain ⟨k0, k1, _⟩ := T.cells
  have hl := T.map.look hk
  rw [hg] at hl
  have hl' : (Instr.lookup 69 (.map (some mb)) (.int .i64 k) true).run Tryd.prog w = .ok (.tuple #[.agg #[.int .i64 0, .int .i64 0, .int .i64 0, .int .i64 0, .int .i64 0, .int .i64 0, .int .i64 0, .int .i64 0, .int .i64 0], .bool false]) w := hl
  have HB : Hid (Below w.heap.size w (w.alloc (.cells #[.int .i64 0, .int .i64 0, .int .i64 0, .int .i64 0, .int .i64 0, .int .i64 0, .int .i64 0, .int .i64 0, .int .i64 0] 47 (0, 0)))) := (Below.refl _ _).alloc (Nat.le_refl _) _
  clear T hl hk hg
  go_enter Tryd.func8, Tryd.ntmps8
  go_wp2_with fail
  go_ret
  exact ⟨rfl, HB.out⟩
/-- what Drop leaves. -/
def DropAt (w : World) (base tb mb ob B P cO : Nat) (kb : Nat → Nat) (kf : Nat → Nat → Int) (m : Int → Option Sl) (cnt nb : Nat) (w' : World) : Prop := TabAt w' base tb mb ob B P cO kb kf m cnt nb ∧ Tn (mb :: (List.range B).map kb) w w' (mb :: (List.range B).map kb)
set_option maxRecDepth 100000 in
set_option maxHeartbeats 1000000 in
theorem drop_yes (T : TabAt w base tb mb ob B P cO kb kf m cnt nb) {k : Int} (hk : (Lit.int .i64 k).wf = true) {s : Sl} (hs : m k = some s) {b p : Nat} (hb : s.b = (b : Int)) (hp : s.p = (p : Int)) (hbB : b < B) (hpP : p < P) (hkf : kf b p = k) :
    Calls Tryd.prog 8 #[.pointer (some ⟨tb, 0, none⟩), .int .i64 k] w fun e w' => e = .returned (.bool true) ∧ DropAt w base tb mb ob B P cO kb (kfD kf b p) (mD m k) (cnt - 1) nb w' := by
  obtain ⟨k0, k1, _⟩ := T.cells
  have hl := T.map.look hk
  rw [hs] at hl
  have hl' : (Instr.lookup 69 (.map (some mb)) (.int .i64 k) true).run Tryd.prog w = .ok (.tuple #[.agg #[.int .i64 s.k, .int .i64 s.b, .int .i64 s.p, .int .i64 s.m0, .int .i64 s.m1, .int .i64 s.m2, .int .i64 s.m3, .int .i64 s.m4, .int .i64 s.m5], .bool true]) w := hl
  have HT := Lib.hid (And.intro T (And.intro hk (And.intro hs (And.intro hb (And.intro hp (And.intro hbB (And.intro hpP hkf)))))))
  have hP := T.pos
  obtain ⟨q1, q2, q3, q4, q5, q6⟩ := hP
  unfold maxLen at q6
  have y0 : (0 : Int) ≤ (b : Int) := by omega
  have y1 : (b : Int) < (B : Int) := by omega
  have y2 : (0 : Int) ≤ (p : Int) := by omega
  have y3 : (p : Int) < (P : Int) := by omega
  clear T hl hk hs hb hp hbB hpP hkf
  go_enter Tryd.func8, Tryd.ntmps8
  go_upto_region 3 with (fail)
  generalize hw : w.alloc (.cells #[.int .i64 s.k, .int .i64 s.b, .int .i64 s.p, .int .i64 s.m0, .int .i64 s.m1, .int .i64 s.m2, .int .i64 s.m3, .int .i64 s.m4, .int .i64 s.m5] 47 (0, 0)) = w1
  obtain ⟨K1, b1⟩ := newSl w w1 s hw
  clear hw hl'
  obtain ⟨xb, hxb⟩ : ∃ xb, xb = w.heap.size := ⟨_, rfl⟩
  rw [← hxb] at K1 ⊢
  refine wp_region_still_tail 13 (by kernel_rfl) (by kernel_rfl) ?_
  simp only [List.take_succ_cons, List.take_zero, List.drop_succ_cons, List.drop_zero]
  change wpStill _ _ w1.drew (fun a' => wpList _ _ _ _ a' w1.drew) _ _
  have bd := (Drawn.mk w1 1).below w1.heap.size
  have bd' : Below w1.heap.size w1 w1.drew := bd
  generalize w1.drew = w2 at bd' ⊢
  have K2 := (bd'.block _ (lt_of_block K1)).trans K1
  have b12 := b1.trans (bd'.mono b1.size)
  have T2 := HT.out.1.below b12
  obtain ⟨x1, x2⟩ := sl_cells K2
  rw [HT.out.2.2.2.1] at x1
  rw [HT.out.2.2.2.2.1] at x2
  obtain ⟨z0, z1, _⟩ := T2.cells
  have z2 := T2.outer b HT.out.2.2.2.2.2.1
  obtain ⟨z3, z4⟩ := T2.page HT.out.2.2.2.2.2.1 HT.out.2.2.2.2.2.2.1
  have HK := Lib.hid (And.intro T2 b12)
  clear K1 K2 b1 bd bd' b12 k0 k1 T2 hxb
  iterate 13 still_step
  refine wpStill_nil ?_
  go_upto_region 4 with (fail)
  obtain ⟨T2, b12⟩ := HK.out
  have hmb : mb ≠ kb b := Ne.symm (T2.apart.2.2.2.2.2.2 b HT.out.2.2.2.2.2.1).2.2.1
  have htb : tb ≠ kb b := Ne.symm (T2.apart.2.2.2.2.2.2 b HT.out.2.2.2.2.2.1).2.1
  have o := Only.setCell w2 ⟨kb b, p, none⟩ (.int .i64 (-1))
  obtain ⟨w4, hd1, hd2, hd3⟩ := (T2.map.keep (o.block mb hmb)).del HT.out.2.1 HT.out.2.2.1 0
  have hD := T2.dropped HT.out.2.2.1 HT.out.2.2.2.1 HT.out.2.2.2.2.1 HT.out.2.2.2.2.2.1 HT.out.2.2.2.2.2.2.1 HT.out.2.2.2.2.2.2.2 hd2 hd3
  have v0 : (w2.setCell ⟨kb b, p, none⟩ (.int .i64 (-1))).cell? ⟨tb, 0, none⟩ = some (.map (some mb)) := (cell_heapT (o.block tb htb)).trans T2.cells.1
  have HF : Hid (DropAt w base tb mb ob B P cO kb (kfD kf b p) (mD m k) (cnt - 1) nb w4) := ⟨hD.1, (Tn.below b12).trans hD.2⟩
  clear hd2 hd3 hD T2 b12 hmb htb o x1 x2 z0 z1 z2 z3 z4 HT HK
  go_wp2_with fail
  go_ret
  exact ⟨rfl, HF.out⟩
end
end Go.Proofs.YtpbckjagiebmjaaDoor.Tb
/- A table's Set. By the verifier of shale. -/
namespace Go.Proofs.YtpbckjagiebmjaaDoor.Tb
open Go Go.RowKit
set_option linter.unusedVariables false
set_option linter.unusedSimpArgs false
theorem newMe (w W : World) (m0 m1 m2 m3 m4 m5 : Int) (h : w.alloc (.cells #[.int .i64 m0, .int .i64 m1, .int .i64 m2, .int .i64 m3, .int .i64 m4, .int .i64 m5] 36 (0, 0)) = W) : W.heap[w.heap.size]? = some (.cells #[.int .i64 m0, .int .i64 m1, .int .i64 m2, .int .i64 m3, .int .i64 m4, .int .i64 m5] 36 (0, 0)) ∧ Below w.heap.size w W := by
  subst h
  exact ⟨heap_alloc_new w _, (Below.refl _ _).alloc (Nat.le_refl _) _⟩
theorem me_cells {w : World} {g : Nat} {m0 m1 m2 m3 m4 m5 : Int} (e : w.heap[g]? = some (.cells #[.int .i64 m0, .int .i64 m1, .int .i64 m2, .int .i64 m3, .int .i64 m4, .int .i64 m5] 36 (0, 0))) : w.cell? ⟨g, 0, none⟩ = some (.int .i64 m0) ∧ w.cell? ⟨g, 1, none⟩ = some (.int .i64 m1) ∧ w.cell? ⟨g, 2, none⟩ = some (.int .i64 m2) ∧ w.cell? ⟨g, 3, none⟩ = some (.int .i64 m3) ∧ w.cell? ⟨g, 4, none⟩ = some (.int .i64 m4) ∧ w.cell? ⟨g, 5, none⟩ = some (.int .i64 m5) := by
  refine ⟨?_, ?_, ?_, ?_, ?_, ?_⟩
  all_goals (unfold World.cell?; simp only; rw [e]; rfl)
theorem wf_key {k : Int} (h0 : 0 ≤ k) (h1 : k ≤ 1073741824) : (Lit.int .i64 k).wf = true := by
  simp [Lit.wf, IntKind.min, IntKind.max, IntKind.signed, IntKind.bits]
  omega
/-- what Set works on: the table, and three boxes of its own. -/
def SetI (w : World) (base tb mb ob B P cO : Nat) (kb : Nat → Nat) (kf : Nat → Nat → Int) (m : Int → Option Sl) (cnt nb xb yb rb : Nat) (b p m0 m1 m2 m3 m4 m5 : Int) (W : World) : Prop :=
  TabAt W base tb mb ob B P cO kb kf m cnt nb ∧ W.heap[xb]? = some (.cells #[.int .i64 b, .int .i64 p] 24 (0, 0)) ∧ W.heap[yb]? = some (.cells #[.int .i64 m0, .int .i64 m1, .int .i64 m2, .int .i64 m3, .int .i64 m4, .int .i64 m5] 36 (0, 0)) ∧ W.heap[rb]? = some (.cells #[.int .i64 0, .int .i64 0] 24 (0, 0)) ∧ Tn (mb :: (List.range B).map kb) w W (mb :: (List.range B).map kb)
theorem SetI.below {w W W' : World} {base tb mb ob B P cO : Nat} {kb : Nat → Nat} {kf : Nat → Nat → Int} {m : Int → Option Sl} {cnt nb xb yb rb : Nat} {b p m0 m1 m2 m3 m4 m5 : Int} (h : SetI w base tb mb ob B P cO kb kf m cnt nb xb yb rb b p m0 m1 m2 m3 m4 m5 W) (q : Below W.heap.size W W') : SetI w base tb mb ob B P cO kb kf m cnt nb xb yb rb b p m0 m1 m2 m3 m4 m5 W' :=
  ⟨h.1.below q, (q.block _ (lt_of_block h.2.1)).trans h.2.1, (q.block _ (lt_of_block h.2.2.1)).trans h.2.2.1, (q.block _ (lt_of_block h.2.2.2.1)).trans h.2.2.2.1, h.2.2.2.2.trans (Tn.below q)⟩
/-- a turn of the table's own blocks. -/
theorem SetI.turn {w W W' : World} {base tb mb ob B P cO : Nat} {kb : Nat → Nat} {kf kf' : Nat → Nat → Int} {m m' : Int → Option Sl} {cnt nb cnt' nb' xb yb rb : Nat} {b p m0 m1 m2 m3 m4 m5 : Int} (h : SetI w base tb mb ob B P cO kb kf m cnt nb xb yb rb b p m0 m1 m2 m3 m4 m5 W) (hn : ∀ z, w.heap.size ≤ z → z ∉ mb :: (List.range B).map kb) (hx : w.heap.size ≤ xb ∧ w.heap.size ≤ yb ∧ w.heap.size ≤ rb)
    (T : TabAt W' base tb mb ob B P cO kb kf' m' cnt' nb') (t : Tn (mb :: (List.range B).map kb) W W' (mb :: (List.range B).map kb)) : SetI w base tb mb ob B P cO kb kf' m' cnt' nb' xb yb rb b p m0 m1 m2 m3 m4 m5 W' :=
  ⟨T, (t.same xb (lt_of_block h.2.1) (hn xb hx.1)).trans h.2.1, (t.same yb (lt_of_block h.2.2.1) (hn yb hx.2.1)).trans h.2.2.1, (t.same rb (lt_of_block h.2.2.2.1) (hn rb hx.2.2)).trans h.2.2.2.1, h.2.2.2.2.trans t⟩
theorem tab_blocks {w : World} {base tb mb ob B P cO : Nat} {kb : Nat → Nat} {kf : Nat → Nat → Int} {m : Int → Option Sl} {cnt nb : Nat} (T : TabAt w base tb mb ob B P cO kb kf m cnt nb) : ∀ z, w.heap.size ≤ z → z ∉ mb :: (List.range B).map kb := by
  intro z hz hm
  rcases List.mem_cons.1 hm with rfl | hm
  · have := T.map.lt; omega
  · obtain ⟨c, hc, rfl⟩ := List.mem_map.1 hm
    have := lt_of_block (T.rows c (List.mem_range.1 hc))
    omega
section
variable {w : World} {base tb mb ob B P cO : Nat} {kb : Nat → Nat} {kf : Nat → Nat → Int} {m : Int → Option Sl} {cnt nb : Nat}
/-- what Set leaves. -/
def SetAt (w : World) (base tb mb ob B P cO : Nat) (kb : Nat → Nat) (kf : Nat → Nat → Int) (m : Int → Option Sl) (cnt nb : Nat) (w' : World) : Prop := TabAt w' base tb mb ob B P cO kb kf m cnt nb ∧ Tn (mb :: (List.range B).map kb) w w' (mb :: (List.range B).map kb)
theorem setAt_of {w w1 w2 : World} {base tb mb ob B P cO rb : Nat} {kb : Nat → Nat} {kf : Nat → Nat → Int} {m : Int → Option Sl} {cnt nb : Nat} (T : TabAt w1 base tb mb ob B P cO kb kf m cnt nb) (t : Tn (mb :: (List.range B).map kb) w w1 (mb :: (List.range B).map kb)) (o : Only rb w1 w2) (hr : w.heap.size ≤ rb) (hold : tb < w.heap.size ∧ ob < w.heap.size ∧ mb < w.heap.size ∧ ∀ b, b < B → kb b < w.heap.size) : SetAt w base tb mb ob B P cO kb kf m cnt nb w2 := by
  obtain ⟨h1, h2, h3, h4⟩ := hold
  refine ⟨⟨(o.block tb (by omega)).trans T.blk, T.map.keep (o.block mb (by omega)), fun b hb => (cell_heapT (o.block ob (by omega))).trans (T.outer b hb), fun b hb => (o.block (kb b) (by have := h4 b hb; omega)).trans (T.rows b hb), T.inj, T.apart, T.pos, T.here, T.there⟩, ⟨o.os.trans t.os, o.tape.trans t.tape, o.output.trans t.output, by rw [o.size]; exact t.size, fun k hk hn => (o.block k (by omega)).trans (t.same k hk hn), fun _ h => .inl h⟩⟩
theorem tab_old {w : World} {base tb mb ob B P cO : Nat} {kb : Nat → Nat} {kf : Nat → Nat → Int} {m : Int → Option Sl} {cnt nb : Nat} (T : TabAt w base tb mb ob B P cO kb kf m cnt nb) : tb < w.heap.size ∧ ob < w.heap.size ∧ mb < w.heap.size ∧ ∀ b, b < B → kb b < w.heap.size :=
  ⟨T.lt, World.block_lt_of_cell? w _ (T.outer 0 T.pos.1), T.map.lt, fun b hb => lt_of_block (T.rows b hb)⟩
set_option maxRecDepth 100000 in
set_option maxHeartbeats 2000000 in
theorem set_new (T : TabAt w base tb mb ob B P cO kb kf m cnt nb) {key : Int} (h0 : 0 ≤ key) (h1 : key ≤ 1073741824) (hnb : nb < maxLen) {b p : Nat} (hbB : b < B) (hpP : p < P) (m0 m1 m2 m3 m4 m5 : Int) (hg : m key = none) (hk : kf b p = -1) :
    Calls Tryd.prog 10 #[.pointer (some ⟨tb, 0, none⟩), .int .i64 key, .agg #[.int .i64 (b : Int), .int .i64 (p : Int)], .agg #[.int .i64 m0, .int .i64 m1, .int .i64 m2, .int .i64 m3, .int .i64 m4, .int .i64 m5]] w fun e w' => e = .returned (.tuple #[.agg #[.int .i64 zSl.b, .int .i64 zSl.p], .bool false, .nilIface]) ∧ SetAt w base tb mb ob B P cO kb (kfS kf b p key) (mS m key ⟨key, b, p, m0, m1, m2, m3, m4, m5⟩) (cnt + 1) (nb + 1) w' := by
  have HT := Lib.hid (And.intro T (And.intro hbB (And.intro hpP (And.intro (And.intro h0 h1) (And.intro hnb (And.intro hg hk))))))
  have hP := T.pos
  obtain ⟨q1, q2, q3, q4, q5, q6⟩ := hP
  unfold maxLen at q6
  have y0 : (0 : Int) ≤ (b : Int) := by omega
  have y1 : (b : Int) < (B : Int) := by omega
  have y2 : (0 : Int) ≤ (p : Int) := by omega
  have y3 : (p : Int) < (P : Int) := by omega
  
  have HNB := Lib.hid (tab_blocks T)
  clear T hbB hpP hnb
  clear hg hk
  go_enter Tryd.func10, Tryd.ntmps10
  go_upto_region 1 with (fail)
  generalize hw : w.alloc (.cells #[.int .i64 (b : Int), .int .i64 (p : Int)] 24 (0, 0)) = w1
  obtain ⟨J1, b1⟩ := newPl w w1 (b : Int) (p : Int) hw
  have hs1 : w1.heap.size = w.heap.size + 1 := by rw [← hw]; simp
  clear hw
  rw [← hs1]
  generalize hw : w1.alloc (.cells #[.int .i64 m0, .int .i64 m1, .int .i64 m2, .int .i64 m3, .int .i64 m4, .int .i64 m5] 36 (0, 0)) = w2
  obtain ⟨J2, b2⟩ := newMe w1 w2 m0 m1 m2 m3 m4 m5 hw
  have hs2 : w2.heap.size = w1.heap.size + 1 := by rw [← hw]; simp
  clear hw
  rw [← hs2]
  generalize hw : w2.alloc (.cells #[.int .i64 0, .int .i64 0] 24 (0, 0)) = w3
  obtain ⟨J3, b3⟩ := newPl w2 w3 0 0 hw
  clear hw
  have b13 := b2.trans (b3.mono b2.size)
  have b03 := b1.trans (b13.mono b1.size)
  obtain ⟨xb, hxb⟩ : ∃ xb, xb = w.heap.size := ⟨_, rfl⟩
  obtain ⟨yb, hyb⟩ : ∃ yb, yb = w1.heap.size := ⟨_, rfl⟩
  obtain ⟨rb, hrb⟩ : ∃ rb, rb = w2.heap.size := ⟨_, rfl⟩
  have HI : Hid (SetI w base tb mb ob B P cO kb kf m cnt nb xb yb rb (b : Int) (p : Int) m0 m1 m2 m3 m4 m5 w3) := by
    refine ⟨HT.out.1.below b03, ?_, ?_, ?_, Tn.below b03⟩
    · rw [hxb]; exact (b13.block _ (lt_of_block J1)).trans J1
    · rw [hyb]; exact (b3.block _ (lt_of_block J2)).trans J2
    · rw [hrb]; exact J3
  have HXY : Hid (w.heap.size ≤ xb ∧ w.heap.size ≤ yb ∧ w.heap.size ≤ rb) := ⟨by omega, by omega, by omega⟩
  rw [← hxb, ← hyb, ← hrb]
  clear J1 J2 J3 b1 b2 b3 b13 b03 hs1 hs2 hxb hyb hrb
  have z0 : decide (key < 0) = false := decide_eq_false (by omega)
  have z1 : decide ((1073741824 : Int) < key) = false := decide_eq_false (by omega)
  obtain ⟨x0, x1, _⟩ := pl_cells HI.out.2.1
  go_wp2_with fail
  refine (is_yes HI.out.1 HT.out.2.1 HT.out.2.2.1).mono ?_
  rintro e w4 ⟨rfl, b4⟩
  replace HI := Lib.hid (HI.out.below b4)
  clear b4 x0 x1 z0 z1
  obtain ⟨x0, x1, _⟩ := pl_cells HI.out.2.1
  obtain ⟨k0, k1, _⟩ := HI.out.1.cells
  have k2 := HI.out.1.outer b HT.out.2.1
  have k3 := (HI.out.1.page HT.out.2.1 HT.out.2.2.1).1
  rw [HT.out.2.2.2.2.2.2] at k3
  go_upto_region 3 with (fail)
  go_quiet (fail)
  have bq := (Drawn.mk w4 nq).below w4.heap.size
  replace HI := Lib.hid (HI.out.below bq)
  generalize w4.drewN nq = w5 at HI ⊢
  clear bq x0 x1 k0 k1 k2 k3
  have hl := HI.out.1.map.look (wf_key HT.out.2.2.2.1.1 HT.out.2.2.2.1.2)
  obtain ⟨k0, _, _⟩ := HI.out.1.cells
  rw [HT.out.2.2.2.2.2.1] at hl
  have hl' : (Instr.lookup 69 (.map (some mb)) (.int .i64 key) true).run Tryd.prog w5 = .ok (.tuple #[.agg #[.int .i64 zSl.k, .int .i64 zSl.b, .int .i64 zSl.p, .int .i64 zSl.m0, .int .i64 zSl.m1, .int .i64 zSl.m2, .int .i64 zSl.m3, .int .i64 zSl.m4, .int .i64 zSl.m5], .bool false]) w5 := hl
  clear hl
  go_upto_region 7 with (fail)
  generalize hw : w5.alloc (.cells #[.int .i64 zSl.k, .int .i64 zSl.b, .int .i64 zSl.p, .int .i64 zSl.m0, .int .i64 zSl.m1, .int .i64 zSl.m2, .int .i64 zSl.m3, .int .i64 zSl.m4, .int .i64 zSl.m5] 47 (0, 0)) = w6
  obtain ⟨KZ, b6⟩ := newSl w5 w6 zSl hw
  clear hw k0
  obtain ⟨zb, hzb⟩ : ∃ zb, zb = w5.heap.size := ⟨_, rfl⟩
  have HN : Hid (w.heap.size ≤ zb ∧ ∀ z, w.heap.size ≤ z → z ∉ mb :: (List.range B).map kb) := ⟨by rw [hzb]; exact HI.out.2.2.2.2.size, HNB.out⟩
  rw [← hzb] at KZ ⊢
  clear hzb
  replace HI := Lib.hid (HI.out.below b6)
  clear b6
  go_wp2_with fail
  refine (drop_no HI.out.1 (wf_key HT.out.2.2.2.1.1 HT.out.2.2.2.1.2) HT.out.2.2.2.2.2.1).mono ?_
  rintro e w7 ⟨rfl, b7⟩
  replace KZ := (b7.block _ (lt_of_block KZ)).trans KZ
  replace HI := Lib.hid (HI.out.below b7)
  have HG : Hid (m key = none ∧ kf b p = -1) := HT.out.2.2.2.2.2
  clear b7
  go_upto_region 8 with (fail)
  refine wp_region_still_tail 9 (by kernel_rfl) (by kernel_rfl) ?_
  simp only [List.take_succ_cons, List.take_zero, List.drop_succ_cons, List.drop_zero]
  change wpStill _ _ w7.drew (fun a' => wpList _ _ _ _ a' w7.drew) _ _
  have bd : Below w7.heap.size w7 w7.drew := (Drawn.mk w7 1).below w7.heap.size
  replace HI := Lib.hid (HI.out.below bd)
  have KZ8 := (bd.block _ (lt_of_block KZ)).trans KZ
  generalize w7.drew = w8 at HI KZ8 ⊢
  clear bd KZ
  obtain ⟨x0, x1, _⟩ := pl_cells HI.out.2.1
  obtain ⟨v0, v1, v2, v3, v4, v5⟩ := me_cells HI.out.2.2.1
  obtain ⟨k0, k1, _⟩ := HI.out.1.cells
  iterate 9 still_step
  refine wpStill_nil ?_
  obtain ⟨w9, hput, hm9, ht9⟩ := HI.out.1.map.put HT.out.2.2.2.2.1 (wf_key HT.out.2.2.2.1.1 HT.out.2.2.2.1.2) HG.out.1 ⟨key, b, p, m0, m1, m2, m3, m4, m5⟩
  have hput' : (Instr.mapUpdate 69 (.map (some mb)) (.int .i64 key) (.agg #[.int .i64 key, .int .i64 (b : Int), .int .i64 (p : Int), .int .i64 m0, .int .i64 m1, .int .i64 m2, .int .i64 m3, .int .i64 m4, .int .i64 m5])).run Tryd.prog w8 = .ok () w9 := hput
  have KZ9 : w9.heap[zb]? = some (.cells #[.int .i64 zSl.k, .int .i64 zSl.b, .int .i64 zSl.p, .int .i64 zSl.m0, .int .i64 zSl.m1, .int .i64 zSl.m2, .int .i64 zSl.m3, .int .i64 zSl.m4, .int .i64 zSl.m5] 47 (0, 0)) := (ht9.2.2.2.2 zb (fun e => HN.out.2 zb HN.out.1 (by rw [e]; exact List.mem_cons_self ..))).trans KZ8
  have H9 := Lib.hid (And.intro hm9 (And.intro ht9 KZ9))
  clear hput hm9 ht9 KZ8 KZ9
  go_upto_region 9 with (fail)
  clear hput' x0 x1 v0 v1 v2 v3 v4 v5 k0 k1
  refine wp_region_still_tail 12 (by kernel_rfl) (by kernel_rfl) ?_
  simp only [List.take_succ_cons, List.take_zero, List.drop_succ_cons, List.drop_zero]
  change wpStill _ _ w9.drew (fun a' => wpList _ _ _ _ a' w9.drew) _ _
  have hz9 : ∀ z, z ≠ mb → w9.drew.heap[z]? = w8.heap[z]? := fun z hz => H9.out.2.1.2.2.2.2 z hz
  have ht10 : Turned w8 w9.drew mb := H9.out.2.1
  have hm10 : MapAt w9.drew mb (mS m key ⟨key, b, p, m0, m1, m2, m3, m4, m5⟩) (cnt + 1) (nb + 1) := H9.out.1
  have KZ10 : w9.drew.heap[zb]? = some (.cells #[.int .i64 zSl.k, .int .i64 zSl.b, .int .i64 zSl.p, .int .i64 zSl.m0, .int .i64 zSl.m1, .int .i64 zSl.m2, .int .i64 zSl.m3, .int .i64 zSl.m4, .int .i64 zSl.m5] 47 (0, 0)) := H9.out.2.2
  generalize w9.drew = w10 at hz9 ht10 hm10 KZ10 ⊢
  have ap := HI.out.1.apart
  obtain ⟨x0, x1, _⟩ := pl_cells ((hz9 xb (fun e => HN.out.2 xb HXY.out.1 (by rw [e]; exact List.mem_cons_self ..))).trans HI.out.2.1)
  obtain ⟨_, k1, _⟩ := HI.out.1.cells
  have k1' := (cell_heapT (hz9 tb (Ne.symm ap.2.2.2.1))).trans k1
  have k2' := (cell_heapT (hz9 ob ap.2.2.2.2.2.1)).trans (HI.out.1.outer b HT.out.2.1)
  have hkb := (ap.2.2.2.2.2.2 b HT.out.2.1).2.2.1
  have hr : Blk64 w10 (kb b) ((List.range P).map (kf b)) := (hz9 (kb b) hkb).trans (HI.out.1.rows b HT.out.2.1)
  have k3 := hr.cell (i := p) (by simp; exact HT.out.2.2.1)
  have k4 := hr.free p
  have hS := HI.out.1.stored HG.out.1 rfl HT.out.2.2.2.1.1 HT.out.2.2.2.1.2 rfl rfl HT.out.2.1 HT.out.2.2.1 HG.out.2 hm10 ht10
  have H10 := Lib.hid (And.intro (HI.out.turn HN.out.2 HXY.out hS.1 hS.2) ((Only.setCell w10 ⟨kb b, p, none⟩ (.int .i64 key)).block zb (fun e => HN.out.2 zb HN.out.1 (by show zb ∈ _; rw [e]; exact List.mem_cons_of_mem _ (List.mem_map.2 ⟨b, List.mem_range.2 HT.out.2.1, rfl⟩)))))
  have HZ10 := Lib.hid KZ10
  clear hz9 ht10 hm10 KZ10 ap k1 hkb hr hS H9 HI
  iterate 12 still_step
  refine wpStill_nil ?_
  go_upto_region 10 with (fail)
  generalize w10.setCell ⟨kb b, p, none⟩ (.int .i64 key) = w11 at H10 ⊢
  clear x0 x1 k1' k2' k3 k4
  obtain ⟨_, _, _, r3, t3⟩ := H10.out.1
  have z3 : w11.heap[zb]? = some (.cells #[.int .i64 zSl.k, .int .i64 zSl.b, .int .i64 zSl.p, .int .i64 zSl.m0, .int .i64 zSl.m1, .int .i64 zSl.m2, .int .i64 zSl.m3, .int .i64 zSl.m4, .int .i64 zSl.m5] 47 (0, 0)) := H10.out.2.trans HZ10.out
  obtain ⟨c1, c2⟩ := sl_cells (s := zSl) z3
  obtain ⟨r0, r1, rf⟩ := pl_cells r3
  have f0 := rf 0
  have f1 := rf 1
  have hR : ((w11.setCell ⟨rb, 0, none⟩ (.int .i64 zSl.b)).setCell ⟨rb, 1, none⟩ (.int .i64 zSl.p)).heap[rb]? = some (.cells #[.int .i64 zSl.b, .int .i64 zSl.p] 24 (0, 0)) := heap_setCell_same _ _ 1 _ _ _ (heap_setCell_same _ _ 0 _ _ _ r3)
  have oR : Only rb w11 ((w11.setCell ⟨rb, 0, none⟩ (.int .i64 zSl.b)).setCell ⟨rb, 1, none⟩ (.int .i64 zSl.p)) := (Only.setCell w11 ⟨rb, 0, none⟩ _).trans (Only.setCell _ ⟨rb, 1, none⟩ _)
  have HF : Hid (SetAt w base tb mb ob B P cO kb (kfS kf b p key) (mS m key ⟨key, b, p, m0, m1, m2, m3, m4, m5⟩) (cnt + 1) (nb + 1) ((w11.setCell ⟨rb, 0, none⟩ (.int .i64 zSl.b)).setCell ⟨rb, 1, none⟩ (.int .i64 zSl.p))) := setAt_of H10.out.1.1 t3 oR HXY.out.2.2 (tab_old HT.out.1)
  have HR := Lib.hid hR
  clear r3 z3 rf hR oR t3 H10 HZ10
  go_wp2_with fail
  obtain ⟨s0, s1, _⟩ := pl_cells HR.out
  have hF := HF.out
  generalize ((w11.setCell ⟨rb, 0, none⟩ (.int .i64 zSl.b)).setCell ⟨rb, 1, none⟩ (.int .i64 zSl.p)) = w12 at s0 s1 hF ⊢
  exact bodyPost_ret (v := .tuple #[.agg #[.int .i64 zSl.b, .int .i64 zSl.p], .bool false, .nilIface]) (by simp [results, Tryd.results10, go_sem, s0, s1]) rfl ⟨rfl, hF⟩
set_option maxRecDepth 100000 in
set_option maxHeartbeats 2000000 in
theorem set_hadF (T : TabAt w base tb mb ob B P cO kb kf m cnt nb) {key : Int} (h0 : 0 ≤ key) (h1 : key ≤ 1073741824) (hnb : nb < maxLen) {b p : Nat} (hbB : b < B) (hpP : p < P) (m0 m1 m2 m3 m4 m5 : Int) {s : Sl} (hg : m key = some s) (hk : kf b p = -1) :
    Calls Tryd.prog 10 #[.pointer (some ⟨tb, 0, none⟩), .int .i64 key, .agg #[.int .i64 (b : Int), .int .i64 (p : Int)], .agg #[.int .i64 m0, .int .i64 m1, .int .i64 m2, .int .i64 m3, .int .i64 m4, .int .i64 m5]] w fun e w' => e = .returned (.tuple #[.agg #[.int .i64 s.b, .int .i64 s.p], .bool true, .nilIface]) ∧ SetAt w base tb mb ob B P cO kb (kfS (kfD kf s.b.toNat s.p.toNat) b p key) (mS (mD m key) key ⟨key, b, p, m0, m1, m2, m3, m4, m5⟩) ((cnt - 1) + 1) (nb + 1) w' := by
  have HT := Lib.hid (And.intro T (And.intro hbB (And.intro hpP (And.intro (And.intro h0 h1) (And.intro hnb (And.intro hg hk))))))
  have hP := T.pos
  obtain ⟨q1, q2, q3, q4, q5, q6⟩ := hP
  unfold maxLen at q6
  have y0 : (0 : Int) ≤ (b : Int) := by omega
  have y1 : (b : Int) < (B : Int) := by omega
  have y2 : (0 : Int) ≤ (p : Int) := by omega
  have y3 : (p : Int) < (P : Int) := by omega
  
  have HNB := Lib.hid (tab_blocks T)
  clear T hbB hpP hnb
  clear hg hk
  go_enter Tryd.func10, Tryd.ntmps10
  go_upto_region 1 with (fail)
  generalize hw : w.alloc (.cells #[.int .i64 (b : Int), .int .i64 (p : Int)] 24 (0, 0)) = w1
  obtain ⟨J1, b1⟩ := newPl w w1 (b : Int) (p : Int) hw
  have hs1 : w1.heap.size = w.heap.size + 1 := by rw [← hw]; simp
  clear hw
  rw [← hs1]
  generalize hw : w1.alloc (.cells #[.int .i64 m0, .int .i64 m1, .int .i64 m2, .int .i64 m3, .int .i64 m4, .int .i64 m5] 36 (0, 0)) = w2
  obtain ⟨J2, b2⟩ := newMe w1 w2 m0 m1 m2 m3 m4 m5 hw
  have hs2 : w2.heap.size = w1.heap.size + 1 := by rw [← hw]; simp
  clear hw
  rw [← hs2]
  generalize hw : w2.alloc (.cells #[.int .i64 0, .int .i64 0] 24 (0, 0)) = w3
  obtain ⟨J3, b3⟩ := newPl w2 w3 0 0 hw
  clear hw
  have b13 := b2.trans (b3.mono b2.size)
  have b03 := b1.trans (b13.mono b1.size)
  obtain ⟨xb, hxb⟩ : ∃ xb, xb = w.heap.size := ⟨_, rfl⟩
  obtain ⟨yb, hyb⟩ : ∃ yb, yb = w1.heap.size := ⟨_, rfl⟩
  obtain ⟨rb, hrb⟩ : ∃ rb, rb = w2.heap.size := ⟨_, rfl⟩
  have HI : Hid (SetI w base tb mb ob B P cO kb kf m cnt nb xb yb rb (b : Int) (p : Int) m0 m1 m2 m3 m4 m5 w3) := by
    refine ⟨HT.out.1.below b03, ?_, ?_, ?_, Tn.below b03⟩
    · rw [hxb]; exact (b13.block _ (lt_of_block J1)).trans J1
    · rw [hyb]; exact (b3.block _ (lt_of_block J2)).trans J2
    · rw [hrb]; exact J3
  have HXY : Hid (w.heap.size ≤ xb ∧ w.heap.size ≤ yb ∧ w.heap.size ≤ rb) := ⟨by omega, by omega, by omega⟩
  rw [← hxb, ← hyb, ← hrb]
  clear J1 J2 J3 b1 b2 b3 b13 b03 hs1 hs2 hxb hyb hrb
  have z0 : decide (key < 0) = false := decide_eq_false (by omega)
  have z1 : decide ((1073741824 : Int) < key) = false := decide_eq_false (by omega)
  obtain ⟨x0, x1, _⟩ := pl_cells HI.out.2.1
  go_wp2_with fail
  refine (is_yes HI.out.1 HT.out.2.1 HT.out.2.2.1).mono ?_
  rintro e w4 ⟨rfl, b4⟩
  replace HI := Lib.hid (HI.out.below b4)
  clear b4 x0 x1 z0 z1
  obtain ⟨x0, x1, _⟩ := pl_cells HI.out.2.1
  obtain ⟨k0, k1, _⟩ := HI.out.1.cells
  have k2 := HI.out.1.outer b HT.out.2.1
  have k3 := (HI.out.1.page HT.out.2.1 HT.out.2.2.1).1
  rw [HT.out.2.2.2.2.2.2] at k3
  go_upto_region 3 with (fail)
  go_quiet (fail)
  have bq := (Drawn.mk w4 nq).below w4.heap.size
  replace HI := Lib.hid (HI.out.below bq)
  generalize w4.drewN nq = w5 at HI ⊢
  clear bq x0 x1 k0 k1 k2 k3
  have hl := HI.out.1.map.look (wf_key HT.out.2.2.2.1.1 HT.out.2.2.2.1.2)
  obtain ⟨k0, _, _⟩ := HI.out.1.cells
  rw [HT.out.2.2.2.2.2.1] at hl
  have hl' : (Instr.lookup 69 (.map (some mb)) (.int .i64 key) true).run Tryd.prog w5 = .ok (.tuple #[.agg #[.int .i64 s.k, .int .i64 s.b, .int .i64 s.p, .int .i64 s.m0, .int .i64 s.m1, .int .i64 s.m2, .int .i64 s.m3, .int .i64 s.m4, .int .i64 s.m5], .bool true]) w5 := hl
  clear hl
  go_upto_region 7 with (fail)
  generalize hw : w5.alloc (.cells #[.int .i64 s.k, .int .i64 s.b, .int .i64 s.p, .int .i64 s.m0, .int .i64 s.m1, .int .i64 s.m2, .int .i64 s.m3, .int .i64 s.m4, .int .i64 s.m5] 47 (0, 0)) = w6
  obtain ⟨KZ, b6⟩ := newSl w5 w6 s hw
  clear hw k0
  obtain ⟨zb, hzb⟩ : ∃ zb, zb = w5.heap.size := ⟨_, rfl⟩
  have HN : Hid (w.heap.size ≤ zb ∧ ∀ z, w.heap.size ≤ z → z ∉ mb :: (List.range B).map kb) := ⟨by rw [hzb]; exact HI.out.2.2.2.2.size, HNB.out⟩
  rw [← hzb] at KZ ⊢
  clear hzb
  replace HI := Lib.hid (HI.out.below b6)
  clear b6
  go_wp2_with fail
  obtain ⟨hsk, _, _, c, q, hc, hq, hcB, hqP, hkc⟩ := HI.out.1.here key s HT.out.2.2.2.2.2.1
  refine (drop_yes HI.out.1 (wf_key HT.out.2.2.2.1.1 HT.out.2.2.2.1.2) HT.out.2.2.2.2.2.1 hc hq hcB hqP hkc).mono ?_
  rintro e w7 ⟨rfl, T7, t7⟩
  replace KZ := (t7.same zb (lt_of_block KZ) (HN.out.2 zb HN.out.1)).trans KZ
  replace HI := Lib.hid (HI.out.turn HN.out.2 HXY.out T7 t7)
  have HG : Hid (mD m key key = none ∧ kfD kf c q b p = -1) := ⟨by unfold mD; simp, by
    unfold kfD
    by_cases e : b = c ∧ p = q
    · rw [if_pos e]
    · rw [if_neg e]
      exact HT.out.2.2.2.2.2.2⟩
  have hc' : c = s.b.toNat := by omega
  have hq' : q = s.p.toNat := by omega
  have HCQ := Lib.hid (And.intro hc' hq')
  rw [hc', hq'] at HG HI
  clear T7 t7 hsk hc hq hcB hqP hkc hc' hq'
  go_upto_region 8 with (fail)
  refine wp_region_still_tail 9 (by kernel_rfl) (by kernel_rfl) ?_
  simp only [List.take_succ_cons, List.take_zero, List.drop_succ_cons, List.drop_zero]
  change wpStill _ _ w7.drew (fun a' => wpList _ _ _ _ a' w7.drew) _ _
  have bd : Below w7.heap.size w7 w7.drew := (Drawn.mk w7 1).below w7.heap.size
  replace HI := Lib.hid (HI.out.below bd)
  have KZ8 := (bd.block _ (lt_of_block KZ)).trans KZ
  generalize w7.drew = w8 at HI KZ8 ⊢
  clear bd KZ
  obtain ⟨x0, x1, _⟩ := pl_cells HI.out.2.1
  obtain ⟨v0, v1, v2, v3, v4, v5⟩ := me_cells HI.out.2.2.1
  obtain ⟨k0, k1, _⟩ := HI.out.1.cells
  iterate 9 still_step
  refine wpStill_nil ?_
  obtain ⟨w9, hput, hm9, ht9⟩ := HI.out.1.map.put HT.out.2.2.2.2.1 (wf_key HT.out.2.2.2.1.1 HT.out.2.2.2.1.2) HG.out.1 ⟨key, b, p, m0, m1, m2, m3, m4, m5⟩
  have hput' : (Instr.mapUpdate 69 (.map (some mb)) (.int .i64 key) (.agg #[.int .i64 key, .int .i64 (b : Int), .int .i64 (p : Int), .int .i64 m0, .int .i64 m1, .int .i64 m2, .int .i64 m3, .int .i64 m4, .int .i64 m5])).run Tryd.prog w8 = .ok () w9 := hput
  have KZ9 : w9.heap[zb]? = some (.cells #[.int .i64 s.k, .int .i64 s.b, .int .i64 s.p, .int .i64 s.m0, .int .i64 s.m1, .int .i64 s.m2, .int .i64 s.m3, .int .i64 s.m4, .int .i64 s.m5] 47 (0, 0)) := (ht9.2.2.2.2 zb (fun e => HN.out.2 zb HN.out.1 (by rw [e]; exact List.mem_cons_self ..))).trans KZ8
  have H9 := Lib.hid (And.intro hm9 (And.intro ht9 KZ9))
  clear hput hm9 ht9 KZ8 KZ9
  go_upto_region 9 with (fail)
  clear hput' x0 x1 v0 v1 v2 v3 v4 v5 k0 k1
  refine wp_region_still_tail 12 (by kernel_rfl) (by kernel_rfl) ?_
  simp only [List.take_succ_cons, List.take_zero, List.drop_succ_cons, List.drop_zero]
  change wpStill _ _ w9.drew (fun a' => wpList _ _ _ _ a' w9.drew) _ _
  have hz9 : ∀ z, z ≠ mb → w9.drew.heap[z]? = w8.heap[z]? := fun z hz => H9.out.2.1.2.2.2.2 z hz
  have ht10 : Turned w8 w9.drew mb := H9.out.2.1
  have hm10 : MapAt w9.drew mb (mS (mD m key) key ⟨key, b, p, m0, m1, m2, m3, m4, m5⟩) ((cnt - 1) + 1) (nb + 1) := H9.out.1
  have KZ10 : w9.drew.heap[zb]? = some (.cells #[.int .i64 s.k, .int .i64 s.b, .int .i64 s.p, .int .i64 s.m0, .int .i64 s.m1, .int .i64 s.m2, .int .i64 s.m3, .int .i64 s.m4, .int .i64 s.m5] 47 (0, 0)) := H9.out.2.2
  generalize w9.drew = w10 at hz9 ht10 hm10 KZ10 ⊢
  have ap := HI.out.1.apart
  obtain ⟨x0, x1, _⟩ := pl_cells ((hz9 xb (fun e => HN.out.2 xb HXY.out.1 (by rw [e]; exact List.mem_cons_self ..))).trans HI.out.2.1)
  obtain ⟨_, k1, _⟩ := HI.out.1.cells
  have k1' := (cell_heapT (hz9 tb (Ne.symm ap.2.2.2.1))).trans k1
  have k2' := (cell_heapT (hz9 ob ap.2.2.2.2.2.1)).trans (HI.out.1.outer b HT.out.2.1)
  have hkb := (ap.2.2.2.2.2.2 b HT.out.2.1).2.2.1
  have hr : Blk64 w10 (kb b) ((List.range P).map ((kfD kf s.b.toNat s.p.toNat) b)) := (hz9 (kb b) hkb).trans (HI.out.1.rows b HT.out.2.1)
  have k3 := hr.cell (i := p) (by simp; exact HT.out.2.2.1)
  have k4 := hr.free p
  have hS := HI.out.1.stored HG.out.1 rfl HT.out.2.2.2.1.1 HT.out.2.2.2.1.2 rfl rfl HT.out.2.1 HT.out.2.2.1 HG.out.2 hm10 ht10
  have H10 := Lib.hid (And.intro (HI.out.turn HN.out.2 HXY.out hS.1 hS.2) ((Only.setCell w10 ⟨kb b, p, none⟩ (.int .i64 key)).block zb (fun e => HN.out.2 zb HN.out.1 (by show zb ∈ _; rw [e]; exact List.mem_cons_of_mem _ (List.mem_map.2 ⟨b, List.mem_range.2 HT.out.2.1, rfl⟩)))))
  have HZ10 := Lib.hid KZ10
  clear hz9 ht10 hm10 KZ10 ap k1 hkb hr hS H9 HI
  iterate 12 still_step
  refine wpStill_nil ?_
  go_upto_region 10 with (fail)
  generalize w10.setCell ⟨kb b, p, none⟩ (.int .i64 key) = w11 at H10 ⊢
  clear x0 x1 k1' k2' k3 k4
  obtain ⟨_, _, _, r3, t3⟩ := H10.out.1
  have z3 : w11.heap[zb]? = some (.cells #[.int .i64 s.k, .int .i64 s.b, .int .i64 s.p, .int .i64 s.m0, .int .i64 s.m1, .int .i64 s.m2, .int .i64 s.m3, .int .i64 s.m4, .int .i64 s.m5] 47 (0, 0)) := H10.out.2.trans HZ10.out
  obtain ⟨c1, c2⟩ := sl_cells (s := s) z3
  obtain ⟨r0, r1, rf⟩ := pl_cells r3
  have f0 := rf 0
  have f1 := rf 1
  have hR : ((w11.setCell ⟨rb, 0, none⟩ (.int .i64 s.b)).setCell ⟨rb, 1, none⟩ (.int .i64 s.p)).heap[rb]? = some (.cells #[.int .i64 s.b, .int .i64 s.p] 24 (0, 0)) := heap_setCell_same _ _ 1 _ _ _ (heap_setCell_same _ _ 0 _ _ _ r3)
  have oR : Only rb w11 ((w11.setCell ⟨rb, 0, none⟩ (.int .i64 s.b)).setCell ⟨rb, 1, none⟩ (.int .i64 s.p)) := (Only.setCell w11 ⟨rb, 0, none⟩ _).trans (Only.setCell _ ⟨rb, 1, none⟩ _)
  have HF : Hid (SetAt w base tb mb ob B P cO kb (kfS (kfD kf s.b.toNat s.p.toNat) b p key) (mS (mD m key) key ⟨key, b, p, m0, m1, m2, m3, m4, m5⟩) ((cnt - 1) + 1) (nb + 1) ((w11.setCell ⟨rb, 0, none⟩ (.int .i64 s.b)).setCell ⟨rb, 1, none⟩ (.int .i64 s.p))) := setAt_of H10.out.1.1 t3 oR HXY.out.2.2 (tab_old HT.out.1)
  have HR := Lib.hid hR
  clear r3 z3 rf hR oR t3 H10 HZ10
  go_wp2_with fail
  obtain ⟨s0, s1, _⟩ := pl_cells HR.out
  have hF := HF.out
  generalize ((w11.setCell ⟨rb, 0, none⟩ (.int .i64 s.b)).setCell ⟨rb, 1, none⟩ (.int .i64 s.p)) = w12 at s0 s1 hF ⊢
  exact bodyPost_ret (v := .tuple #[.agg #[.int .i64 s.b, .int .i64 s.p], .bool true, .nilIface]) (by simp [results, Tryd.results10, go_sem, s0, s1]) rfl ⟨rfl, hF⟩
set_option maxRecDepth 100000 in
set_option maxHeartbeats 2000000 in
theorem set_hadO (T : TabAt w base tb mb ob B P cO kb kf m cnt nb) {key : Int} (h0 : 0 ≤ key) (h1 : key ≤ 1073741824) (hnb : nb < maxLen) {b p : Nat} (hbB : b < B) (hpP : p < P) (m0 m1 m2 m3 m4 m5 : Int) {s : Sl} (hg : m key = some s) (hk : kf b p = key) :
    Calls Tryd.prog 10 #[.pointer (some ⟨tb, 0, none⟩), .int .i64 key, .agg #[.int .i64 (b : Int), .int .i64 (p : Int)], .agg #[.int .i64 m0, .int .i64 m1, .int .i64 m2, .int .i64 m3, .int .i64 m4, .int .i64 m5]] w fun e w' => e = .returned (.tuple #[.agg #[.int .i64 s.b, .int .i64 s.p], .bool true, .nilIface]) ∧ SetAt w base tb mb ob B P cO kb (kfS (kfD kf s.b.toNat s.p.toNat) b p key) (mS (mD m key) key ⟨key, b, p, m0, m1, m2, m3, m4, m5⟩) ((cnt - 1) + 1) (nb + 1) w' := by
  have HT := Lib.hid (And.intro T (And.intro hbB (And.intro hpP (And.intro (And.intro h0 h1) (And.intro hnb (And.intro hg hk))))))
  have hP := T.pos
  obtain ⟨q1, q2, q3, q4, q5, q6⟩ := hP
  unfold maxLen at q6
  have y0 : (0 : Int) ≤ (b : Int) := by omega
  have y1 : (b : Int) < (B : Int) := by omega
  have y2 : (0 : Int) ≤ (p : Int) := by omega
  have y3 : (p : Int) < (P : Int) := by omega
  
  have HNB := Lib.hid (tab_blocks T)
  clear T hbB hpP hnb
  clear hg hk
  go_enter Tryd.func10, Tryd.ntmps10
  go_upto_region 1 with (fail)
  generalize hw : w.alloc (.cells #[.int .i64 (b : Int), .int .i64 (p : Int)] 24 (0, 0)) = w1
  obtain ⟨J1, b1⟩ := newPl w w1 (b : Int) (p : Int) hw
  have hs1 : w1.heap.size = w.heap.size + 1 := by rw [← hw]; simp
  clear hw
  rw [← hs1]
  generalize hw : w1.alloc (.cells #[.int .i64 m0, .int .i64 m1, .int .i64 m2, .int .i64 m3, .int .i64 m4, .int .i64 m5] 36 (0, 0)) = w2
  obtain ⟨J2, b2⟩ := newMe w1 w2 m0 m1 m2 m3 m4 m5 hw
  have hs2 : w2.heap.size = w1.heap.size + 1 := by rw [← hw]; simp
  clear hw
  rw [← hs2]
  generalize hw : w2.alloc (.cells #[.int .i64 0, .int .i64 0] 24 (0, 0)) = w3
  obtain ⟨J3, b3⟩ := newPl w2 w3 0 0 hw
  clear hw
  have b13 := b2.trans (b3.mono b2.size)
  have b03 := b1.trans (b13.mono b1.size)
  obtain ⟨xb, hxb⟩ : ∃ xb, xb = w.heap.size := ⟨_, rfl⟩
  obtain ⟨yb, hyb⟩ : ∃ yb, yb = w1.heap.size := ⟨_, rfl⟩
  obtain ⟨rb, hrb⟩ : ∃ rb, rb = w2.heap.size := ⟨_, rfl⟩
  have HI : Hid (SetI w base tb mb ob B P cO kb kf m cnt nb xb yb rb (b : Int) (p : Int) m0 m1 m2 m3 m4 m5 w3) := by
    refine ⟨HT.out.1.below b03, ?_, ?_, ?_, Tn.below b03⟩
    · rw [hxb]; exact (b13.block _ (lt_of_block J1)).trans J1
    · rw [hyb]; exact (b3.block _ (lt_of_block J2)).trans J2
    · rw [hrb]; exact J3
  have HXY : Hid (w.heap.size ≤ xb ∧ w.heap.size ≤ yb ∧ w.heap.size ≤ rb) := ⟨by omega, by omega, by omega⟩
  rw [← hxb, ← hyb, ← hrb]
  clear J1 J2 J3 b1 b2 b3 b13 b03 hs1 hs2 hxb hyb hrb
  have z0 : decide (key < 0) = false := decide_eq_false (by omega)
  have z1 : decide ((1073741824 : Int) < key) = false := decide_eq_false (by omega)
  obtain ⟨x0, x1, _⟩ := pl_cells HI.out.2.1
  go_wp2_with fail
  refine (is_yes HI.out.1 HT.out.2.1 HT.out.2.2.1).mono ?_
  rintro e w4 ⟨rfl, b4⟩
  replace HI := Lib.hid (HI.out.below b4)
  clear b4 x0 x1 z0 z1
  obtain ⟨x0, x1, _⟩ := pl_cells HI.out.2.1
  obtain ⟨k0, k1, _⟩ := HI.out.1.cells
  have k2 := HI.out.1.outer b HT.out.2.1
  have k3 := (HI.out.1.page HT.out.2.1 HT.out.2.2.1).1
  rw [HT.out.2.2.2.2.2.2] at k3
  have u1 : (key == -1) = false := by rw [beq_eq_false_iff_ne]; omega
  have u2 : (key != -1) = true := by rw [bne, u1]; rfl
  have u3 : (key == key) = true := by simp
  go_upto_region 3 with (fail)
  go_quiet (fail)
  have bq := (Drawn.mk w4 nq).below w4.heap.size
  replace HI := Lib.hid (HI.out.below bq)
  generalize w4.drewN nq = w5 at HI ⊢
  clear bq x0 x1 k0 k1 k2 k3
  have hl := HI.out.1.map.look (wf_key HT.out.2.2.2.1.1 HT.out.2.2.2.1.2)
  obtain ⟨k0, _, _⟩ := HI.out.1.cells
  rw [HT.out.2.2.2.2.2.1] at hl
  have hl' : (Instr.lookup 69 (.map (some mb)) (.int .i64 key) true).run Tryd.prog w5 = .ok (.tuple #[.agg #[.int .i64 s.k, .int .i64 s.b, .int .i64 s.p, .int .i64 s.m0, .int .i64 s.m1, .int .i64 s.m2, .int .i64 s.m3, .int .i64 s.m4, .int .i64 s.m5], .bool true]) w5 := hl
  clear hl
  go_upto_region 7 with (fail)
  generalize hw : w5.alloc (.cells #[.int .i64 s.k, .int .i64 s.b, .int .i64 s.p, .int .i64 s.m0, .int .i64 s.m1, .int .i64 s.m2, .int .i64 s.m3, .int .i64 s.m4, .int .i64 s.m5] 47 (0, 0)) = w6
  obtain ⟨KZ, b6⟩ := newSl w5 w6 s hw
  clear hw k0
  obtain ⟨zb, hzb⟩ : ∃ zb, zb = w5.heap.size := ⟨_, rfl⟩
  have HN : Hid (w.heap.size ≤ zb ∧ ∀ z, w.heap.size ≤ z → z ∉ mb :: (List.range B).map kb) := ⟨by rw [hzb]; exact HI.out.2.2.2.2.size, HNB.out⟩
  rw [← hzb] at KZ ⊢
  clear hzb
  replace HI := Lib.hid (HI.out.below b6)
  clear b6
  go_wp2_with fail
  obtain ⟨hsk, _, _, c, q, hc, hq, hcB, hqP, hkc⟩ := HI.out.1.here key s HT.out.2.2.2.2.2.1
  refine (drop_yes HI.out.1 (wf_key HT.out.2.2.2.1.1 HT.out.2.2.2.1.2) HT.out.2.2.2.2.2.1 hc hq hcB hqP hkc).mono ?_
  rintro e w7 ⟨rfl, T7, t7⟩
  replace KZ := (t7.same zb (lt_of_block KZ) (HN.out.2 zb HN.out.1)).trans KZ
  replace HI := Lib.hid (HI.out.turn HN.out.2 HXY.out T7 t7)
  have HG : Hid (mD m key key = none ∧ kfD kf c q b p = -1) := ⟨by unfold mD; simp, by
    unfold kfD
    by_cases e : b = c ∧ p = q
    · rw [if_pos e]
    · rw [if_neg e]
      exact absurd (uniq_page HT.out.1 HT.out.2.1 HT.out.2.2.1 hcB hqP (by rw [HT.out.2.2.2.2.2.2, hkc]) (by rw [HT.out.2.2.2.2.2.2]; have := HT.out.2.2.2.1.1; omega)) e⟩
  have hc' : c = s.b.toNat := by omega
  have hq' : q = s.p.toNat := by omega
  have HCQ := Lib.hid (And.intro hc' hq')
  rw [hc', hq'] at HG HI
  clear T7 t7 hsk hc hq hcB hqP hkc hc' hq'
  go_upto_region 8 with (fail)
  refine wp_region_still_tail 9 (by kernel_rfl) (by kernel_rfl) ?_
  simp only [List.take_succ_cons, List.take_zero, List.drop_succ_cons, List.drop_zero]
  change wpStill _ _ w7.drew (fun a' => wpList _ _ _ _ a' w7.drew) _ _
  have bd : Below w7.heap.size w7 w7.drew := (Drawn.mk w7 1).below w7.heap.size
  replace HI := Lib.hid (HI.out.below bd)
  have KZ8 := (bd.block _ (lt_of_block KZ)).trans KZ
  generalize w7.drew = w8 at HI KZ8 ⊢
  clear bd KZ
  obtain ⟨x0, x1, _⟩ := pl_cells HI.out.2.1
  obtain ⟨v0, v1, v2, v3, v4, v5⟩ := me_cells HI.out.2.2.1
  obtain ⟨k0, k1, _⟩ := HI.out.1.cells
  iterate 9 still_step
  refine wpStill_nil ?_
  obtain ⟨w9, hput, hm9, ht9⟩ := HI.out.1.map.put HT.out.2.2.2.2.1 (wf_key HT.out.2.2.2.1.1 HT.out.2.2.2.1.2) HG.out.1 ⟨key, b, p, m0, m1, m2, m3, m4, m5⟩
  have hput' : (Instr.mapUpdate 69 (.map (some mb)) (.int .i64 key) (.agg #[.int .i64 key, .int .i64 (b : Int), .int .i64 (p : Int), .int .i64 m0, .int .i64 m1, .int .i64 m2, .int .i64 m3, .int .i64 m4, .int .i64 m5])).run Tryd.prog w8 = .ok () w9 := hput
  have KZ9 : w9.heap[zb]? = some (.cells #[.int .i64 s.k, .int .i64 s.b, .int .i64 s.p, .int .i64 s.m0, .int .i64 s.m1, .int .i64 s.m2, .int .i64 s.m3, .int .i64 s.m4, .int .i64 s.m5] 47 (0, 0)) := (ht9.2.2.2.2 zb (fun e => HN.out.2 zb HN.out.1 (by rw [e]; exact List.mem_cons_self ..))).trans KZ8
  have H9 := Lib.hid (And.intro hm9 (And.intro ht9 KZ9))
  clear hput hm9 ht9 KZ8 KZ9
  go_upto_region 9 with (fail)
  clear hput' x0 x1 v0 v1 v2 v3 v4 v5 k0 k1
  refine wp_region_still_tail 12 (by kernel_rfl) (by kernel_rfl) ?_
  simp only [List.take_succ_cons, List.take_zero, List.drop_succ_cons, List.drop_zero]
  change wpStill _ _ w9.drew (fun a' => wpList _ _ _ _ a' w9.drew) _ _
  have hz9 : ∀ z, z ≠ mb → w9.drew.heap[z]? = w8.heap[z]? := fun z hz => H9.out.2.1.2.2.2.2 z hz
  have ht10 : Turned w8 w9.drew mb := H9.out.2.1
  have hm10 : MapAt w9.drew mb (mS (mD m key) key ⟨key, b, p, m0, m1, m2, m3, m4, m5⟩) ((cnt - 1) + 1) (nb + 1) := H9.out.1
  have KZ10 : w9.drew.heap[zb]? = some (.cells #[.int .i64 s.k, .int .i64 s.b, .int .i64 s.p, .int .i64 s.m0, .int .i64 s.m1, .int .i64 s.m2, .int .i64 s.m3, .int .i64 s.m4, .int .i64 s.m5] 47 (0, 0)) := H9.out.2.2
  generalize w9.drew = w10 at hz9 ht10 hm10 KZ10 ⊢
  have ap := HI.out.1.apart
  obtain ⟨x0, x1, _⟩ := pl_cells ((hz9 xb (fun e => HN.out.2 xb HXY.out.1 (by rw [e]; exact List.mem_cons_self ..))).trans HI.out.2.1)
  obtain ⟨_, k1, _⟩ := HI.out.1.cells
  have k1' := (cell_heapT (hz9 tb (Ne.symm ap.2.2.2.1))).trans k1
  have k2' := (cell_heapT (hz9 ob ap.2.2.2.2.2.1)).trans (HI.out.1.outer b HT.out.2.1)
  have hkb := (ap.2.2.2.2.2.2 b HT.out.2.1).2.2.1
  have hr : Blk64 w10 (kb b) ((List.range P).map ((kfD kf s.b.toNat s.p.toNat) b)) := (hz9 (kb b) hkb).trans (HI.out.1.rows b HT.out.2.1)
  have k3 := hr.cell (i := p) (by simp; exact HT.out.2.2.1)
  have k4 := hr.free p
  have hS := HI.out.1.stored HG.out.1 rfl HT.out.2.2.2.1.1 HT.out.2.2.2.1.2 rfl rfl HT.out.2.1 HT.out.2.2.1 HG.out.2 hm10 ht10
  have H10 := Lib.hid (And.intro (HI.out.turn HN.out.2 HXY.out hS.1 hS.2) ((Only.setCell w10 ⟨kb b, p, none⟩ (.int .i64 key)).block zb (fun e => HN.out.2 zb HN.out.1 (by show zb ∈ _; rw [e]; exact List.mem_cons_of_mem _ (List.mem_map.2 ⟨b, List.mem_range.2 HT.out.2.1, rfl⟩)))))
  have HZ10 := Lib.hid KZ10
  clear hz9 ht10 hm10 KZ10 ap k1 hkb hr hS H9 HI
  iterate 12 still_step
  refine wpStill_nil ?_
  go_upto_region 10 with (fail)
  generalize w10.setCell ⟨kb b, p, none⟩ (.int .i64 key) = w11 at H10 ⊢
  clear x0 x1 k1' k2' k3 k4
  obtain ⟨_, _, _, r3, t3⟩ := H10.out.1
  have z3 : w11.heap[zb]? = some (.cells #[.int .i64 s.k, .int .i64 s.b, .int .i64 s.p, .int .i64 s.m0, .int .i64 s.m1, .int .i64 s.m2, .int .i64 s.m3, .int .i64 s.m4, .int .i64 s.m5] 47 (0, 0)) := H10.out.2.trans HZ10.out
  obtain ⟨c1, c2⟩ := sl_cells (s := s) z3
  obtain ⟨r0, r1, rf⟩ := pl_cells r3
  have f0 := rf 0
  have f1 := rf 1
  have hR : ((w11.setCell ⟨rb, 0, none⟩ (.int .i64 s.b)).setCell ⟨rb, 1, none⟩ (.int .i64 s.p)).heap[rb]? = some (.cells #[.int .i64 s.b, .int .i64 s.p] 24 (0, 0)) := heap_setCell_same _ _ 1 _ _ _ (heap_setCell_same _ _ 0 _ _ _ r3)
  have oR : Only rb w11 ((w11.setCell ⟨rb, 0, none⟩ (.int .i64 s.b)).setCell ⟨rb, 1, none⟩ (.int .i64 s.p)) := (Only.setCell w11 ⟨rb, 0, none⟩ _).trans (Only.setCell _ ⟨rb, 1, none⟩ _)
  have HF : Hid (SetAt w base tb mb ob B P cO kb (kfS (kfD kf s.b.toNat s.p.toNat) b p key) (mS (mD m key) key ⟨key, b, p, m0, m1, m2, m3, m4, m5⟩) ((cnt - 1) + 1) (nb + 1) ((w11.setCell ⟨rb, 0, none⟩ (.int .i64 s.b)).setCell ⟨rb, 1, none⟩ (.int .i64 s.p))) := setAt_of H10.out.1.1 t3 oR HXY.out.2.2 (tab_old HT.out.1)
  have HR := Lib.hid hR
  clear r3 z3 rf hR oR t3 H10 HZ10
  go_wp2_with fail
  obtain ⟨s0, s1, _⟩ := pl_cells HR.out
  have hF := HF.out
  generalize ((w11.setCell ⟨rb, 0, none⟩ (.int .i64 s.b)).setCell ⟨rb, 1, none⟩ (.int .i64 s.p)) = w12 at s0 s1 hF ⊢
  exact bodyPost_ret (v := .tuple #[.agg #[.int .i64 s.b, .int .i64 s.p], .bool true, .nilIface]) (by simp [results, Tryd.results10, go_sem, s0, s1]) rfl ⟨rfl, hF⟩
end
end Go.Proofs.YtpbckjagiebmjaaDoor.Tb
/- Two records, compared by the reference. By the verifier of shale. -/
namespace Go.Proofs.YtpbckjagiebmjaaDoor.Tb
open Go Go.RowKit
set_option linter.unusedVariables false
set_option linter.unusedSimpArgs false
set_option maxHeartbeats 4000000 in
set_option maxRecDepth 100000 in
theorem sameMe (a0 a1 a2 a3 a4 a5 b0 b1 b2 b3 b4 b5 : Int) (w : World) : Calls Tryd.prog 30 #[.agg #[.int .i64 a0, .int .i64 a1, .int .i64 a2, .int .i64 a3, .int .i64 a4, .int .i64 a5], .agg #[.int .i64 b0, .int .i64 b1, .int .i64 b2, .int .i64 b3, .int .i64 b4, .int .i64 b5]] w fun e w' => e = .returned (.bool ((a0 == b0) && (a1 == b1) && (a2 == b2) && (a3 == b3) && (a4 == b4) && (a5 == b5))) ∧ Below w.heap.size w w' := by
  have key : ∀ c0 c1 c2 c3 c4 c5 : Bool, (a0 == b0) = c0 → (a1 == b1) = c1 → (a2 == b2) = c2 → (a3 == b3) = c3 → (a4 == b4) = c4 → (a5 == b5) = c5 → Calls Tryd.prog 30 #[.agg #[.int .i64 a0, .int .i64 a1, .int .i64 a2, .int .i64 a3, .int .i64 a4, .int .i64 a5], .agg #[.int .i64 b0, .int .i64 b1, .int .i64 b2, .int .i64 b3, .int .i64 b4, .int .i64 b5]] w fun e w' => e = .returned (.bool (c0 && c1 && c2 && c3 && c4 && c5)) ∧ Below w.heap.size w w' := by
    intro c0 c1 c2 c3 c4 c5 h0 h1 h2 h3 h4 h5
    go_enter Tryd.func30, Tryd.ntmps30
    go_upto_region 1 with (fail)
    generalize hw : w.alloc (.cells #[.int .i64 a0, .int .i64 a1, .int .i64 a2, .int .i64 a3, .int .i64 a4, .int .i64 a5] 36 (0, 0)) = w1
    obtain ⟨k1, q1⟩ := newMe w w1 a0 a1 a2 a3 a4 a5 hw
    have hs1 : w1.heap.size = w.heap.size + 1 := by rw [← hw]; simp
    clear hw
    rw [← hs1]
    generalize hw : w1.alloc (.cells #[.int .i64 b0, .int .i64 b1, .int .i64 b2, .int .i64 b3, .int .i64 b4, .int .i64 b5] 36 (0, 0)) = w2
    obtain ⟨k2, q2⟩ := newMe w1 w2 b0 b1 b2 b3 b4 b5 hw
    clear hw
    obtain ⟨xb, hxb⟩ : ∃ xb, xb = w.heap.size := ⟨_, rfl⟩
    obtain ⟨yb, hyb⟩ : ∃ yb, yb = w1.heap.size := ⟨_, rfl⟩
    have HB : Hid (Below w.heap.size w w2) := q1.trans (q2.mono q1.size)
    rw [← hxb] at k1
    rw [← hyb] at k2
    have k1' := (q2.block xb (lt_of_block k1)).trans k1
    rw [← hxb, ← hyb]
    clear hs1 hxb hyb q1 q2 k1
    obtain ⟨x0, x1, x2, x3, x4, x5⟩ := me_cells k1'
    obtain ⟨y0, y1, y2, y3, y4, y5⟩ := me_cells k2
    clear k1' k2
    cases c0
    · go_wp2_with fail
      go_ret
      exact ⟨rfl, HB.out⟩
    cases c1
    · go_wp2_with fail
      go_ret
      exact ⟨rfl, HB.out⟩
    cases c2
    · go_wp2_with fail
      go_ret
      exact ⟨rfl, HB.out⟩
    cases c3
    · go_wp2_with fail
      go_ret
      exact ⟨rfl, HB.out⟩
    cases c4
    · go_wp2_with fail
      go_ret
      exact ⟨rfl, HB.out⟩
    cases c5
    · go_wp2_with fail
      go_ret
      exact ⟨rfl, HB.out⟩
    · go_wp2_with fail
      go_ret
      exact ⟨rfl, HB.out⟩
  exact key _ _ _ _ _ _ rfl rfl rfl rfl rfl rfl
end Go.Proofs.YtpbckjagiebmjaaDoor.Tb
/- A range over a function that hands the body memory of its own making: each element comes with blocks that the body may keep and turn. By the verifier of shale. -/
namespace Go.Proofs.YtpbckjagiebmjaaDoor
open Go Go.RowKit
set_option linter.unusedVariables false
set_option linter.unusedSimpArgs false
/-- how the body of a round may be left. -/
def leftGift {α : Type} (I : List α → List Nat → World → Prop) (Ix : Code → List α → List Nat → World → Prop) (gx : List Nat) (xs : List α) (bl : List Nat) (W : World) : Exit → Act → World → Prop
  | .normal, _, W' => ∃ bl', Tn (gx ++ bl) W W' bl' ∧ I xs bl' W'
  | .ret, _, W' => ∃ bl', Tn (gx ++ bl) W W' bl' ∧ Ix .ret xs bl' W'
  | .exit id, _, W' => ∃ bl', Tn (gx ++ bl) W W' bl' ∧ Ix (.exit id) xs bl' W'
  | .goto t, _, W' => ∃ bl', Tn (gx ++ bl) W W' bl' ∧ Ix (.goto t) xs bl' W'
  | .panic _, _, _ => False
  | .outgrown, _, _ => False
/-- the iterator's side: O is what is carried on for the body and the loop; ol the blocks that they own; C what the iterator finds. -/
def IterGift {α : Type} (n : Nat) (P : Program) (gf : Nat) (lb : Array Value) (encs : α → Array Value) (gift : α → List Nat) (B : Nat) (cl : List Nat) (V : List α → α → List Nat → World → Prop) (S Sp : List α → Prop) (C : List Nat → World → Prop) : Prop :=
  ∀ (l : Nat) (O : List α → List Nat → World → Prop) (Ox : Code → List α → List Nat → World → Prop) (ol : List Nat) (W : World),
    (∀ pre ol X Y, O pre ol X → Fr B cl ol X Y → O pre ol Y) → (∀ c pre ol X Y, Ox c pre ol X → Fr B cl ol X Y → Ox c pre ol Y) →
    (∀ pre ol X, O pre ol X → ∀ k ∈ ol, k < X.heap.size) →
    (∀ pre x ol X, O pre ol X → V pre x ol X → YieldAt Fence.wide n P l (encs x) X fun e Y => ∃ ol', Tn (gift x ++ ol) X Y ol' ∧
      ((e = .returned (.bool true) ∧ O (pre ++ [x]) ol' Y) ∨ (e = .returned (.bool false) ∧ ∃ c, Ox c (pre ++ [x]) ol' Y))) →
    B ≤ W.heap.size → O [] ol W → C ol W →
    CallsIn Fence.wide n P gf (#[.func (.yield l) #[] #[]] ++ lb) W fun e W' => (∃ v, e = .returned v) ∧
      ((∃ xs ol', S xs ∧ O xs ol' W') ∨ (∃ pre c ol', Sp pre ∧ Ox c pre ol' W'))
/-- **THE STATEMENT.** -/
theorem range_gift {α : Type} {n : Nat} {P : Program} {g : Operand} {ps : Array Tmp} {assign body : Code} {Q : Exit → Act → World → Prop} {a : Act} {w : World}
    {gf : Nat} {lb : Array Value} (hg : a.eval g = .func (.func gf) #[] lb) (eg : ∀ args w, (callFunc gf args).run P w = .ok (.enter gf args) w)
    {encs : α → Array Value} (hps : ∀ x, (encs x).size = ps.size) {gift : α → List Nat} {V : List α → α → List Nat → World → Prop} {S Sp : List α → Prop} (cl : List Nat) {C : List Nat → World → Prop}
    (I : List α → List Nat → World → Prop) (Ix : Code → List α → List Nat → World → Prop)
    (hI : ∀ pre bl X Y, I pre bl X → Fr w.heap.size cl bl X Y → I pre bl Y) (hIx : ∀ c pre bl X Y, Ix c pre bl X → Fr w.heap.size cl bl X Y → Ix c pre bl Y)
    (hIl : ∀ pre bl X, I pre bl X → ∀ k ∈ bl, k < X.heap.size) {bl0 : List Nat} (h0 : I [] bl0 w)
    (hC : ∀ W, Below w.heap.size w W → C (w.heap.size :: (w.heap.size + 1) :: bl0) W)
    (hVg : ∀ pre x ol X, V pre x ol X → ∀ k ∈ gift x, k ∉ ol) (hVl : ∀ pre x ol X, V pre x ol X → ∀ k ∈ gift x, k < X.heap.size) (hVs : ∀ pre x ol X Y, V pre x ol X → Tn ol X Y ol → V pre x ol Y)
    (hit : IterGift (n - 1) P gf lb encs gift w.heap.size cl V S Sp C) (a₁ : α → World → Act) (w₁ : α → World → World) (hw₁ : ∀ x W, Below W.heap.size W (w₁ x W))
    (hassign : ∀ (l : Nat) (x : α) (W : World) (K : Act → World → Prop), K (a₁ x W) (w₁ x W) →
      assign.wpIn (Fence.wide.inRound l) (n - 1) P (Exit.then K (fun _ _ _ => False)) { tmps := (ps.zip (encs x)).foldl (fun t (p, v) => t.setIfInBounds p v) a.tmps, defers := [] } W)
    (hbody : ∀ (l : Nat) (pre : List α) (bl : List Nat) (x : α) (W0 W : World), w.heap.size + 1 < W0.heap.size → W.heap.size = (w₁ x W0).heap.size → (∀ k, k < (w₁ x W0).heap.size → k ≠ w.heap.size + 1 → W.heap[k]? = (w₁ x W0).heap[k]?) → (∀ k ∈ bl, k < W0.heap.size) → (∀ k ∈ gift x, k < W0.heap.size) → I pre bl W → V pre x (w.heap.size :: (w.heap.size + 1) :: bl) W → body.wpIn (Fence.wide.inRound l) (n - 1) P (leftGift I Ix (gift x) (pre ++ [x]) bl W) (a₁ x W0) W)
    (hdone : ∀ (D : Nat) (xs : List α) (bl : List Nat) (W : World), w.heap.size ≤ D → D < W.heap.size → D ∉ bl → S xs → I xs bl W → W.heap[D]? = some (.deferred (some [])) → Q .normal { a with defers := { target := .collected D, args := #[] } :: a.defers } W)
    (hstop : ∀ (D : Nat) (c : Code) (pre : List α) (bl : List Nat) (W : World), w.heap.size ≤ D → D < W.heap.size → D ∉ bl → Sp pre → Ix c pre bl W → W.heap[D]? = some (.deferred (some [])) → c.wpIn Fence.wide n P Q { a with defers := { target := .collected D, args := #[] } :: a.defers } W) :
    (Code.rangeFunc g ps assign body).wpIn Fence.wide n P Q a w := by
  refine wpIn_rangeFunc ?_
  intro fn hfn
  obtain ⟨B, hB⟩ : ∃ B, B = w.heap.size := ⟨_, rfl⟩
  let rec' : LoopState → Option Code → Loop := fun st pe => { state := st, pending := pe, fn, tmps := a.tmps, params := ps, assign, body, defers := B }
  obtain ⟨W1, hW1⟩ : ∃ W1, (w.alloc (.deferred (some []))).alloc (.loop (rec' .ready none)) = W1 := ⟨_, rfl⟩
  have hbel : Below B w W1 := by rw [← hW1, hB]; exact ((Below.refl _ _).alloc (Nat.le_refl _) _).alloc (by simp) _
  have hD1 : W1.heap[B]? = some (.deferred (some [])) := by
    rw [← hW1, hB]; exact (Below.heap_alloc _ _ _ (by simp)).trans (World.alloc_heap_new w _)
  have hL1 : W1.heap[B + 1]? = some (.loop (rec' .ready none)) := by
    rw [← hW1]
    have := World.alloc_heap_new (w.alloc (.deferred (some []))) (.loop (rec' .ready none))
    rw [World.size_alloc] at this
    rw [hB]; exact this
  -- the two blocks of the loop's own, in whatever state
  let At : LoopState → Option Code → World → Prop := fun st pe W => W.heap[B + 1]? = some (.loop (rec' st pe)) ∧ W.heap[B]? = some (.deferred (some []))
  have hlt : ∀ {st pe W}, At st pe W → B + 1 < W.heap.size := fun h => (Array.getElem?_eq_some_iff.1 h.1).1
  have hAtF : ∀ {st pe cl ol X Y}, At st pe X → B ∈ ol → B + 1 ∈ ol → Fr B cl ol X Y → At st pe Y := by
    intro st pe cl ol X Y h m1 m2 f
    have := hlt h
    exact ⟨(f.same _ (.inr m2) (hlt h)).trans h.1, (f.same _ (.inr m1) (by omega)).trans h.2⟩
  have hAtT : ∀ {st pe bl bl' X Y}, At st pe X → B ∉ bl → B + 1 ∉ bl → Tn bl X Y bl' → At st pe Y ∧ B ∉ bl' ∧ B + 1 ∉ bl' := by
    intro st pe bl bl' X Y h m1 m2 t
    have := hlt h
    refine ⟨⟨(t.same _ (hlt h) m2).trans h.1, (t.same _ (by omega) m1).trans h.2⟩, fun hb => ?_, fun hb => ?_⟩
    · rcases t.new _ hb with h1 | h1
      · exact m1 h1
      · omega
    · rcases t.new _ hb with h1 | h1
      · exact m2 h1
      · omega
  -- a turn of the record
  have turn : ∀ (W : World) (st st' : LoopState) (pe pe' : Option Code), At st pe W → At st' pe' (W.putObj (B + 1) (.loop (rec' st' pe'))) ∧ Tn [B + 1] W (W.putObj (B + 1) (.loop (rec' st' pe'))) [B + 1] := by
    intro W st st' pe pe' h
    refine ⟨⟨World.putObj_heap_same (hlt h), (World.putObj_heap_other (by omega)).trans h.2⟩, ⟨rfl, rfl, rfl, by simp, fun k _ hk => World.putObj_heap_other (by simpa using hk), fun _ h => .inl h⟩⟩
  -- such a turn frames what the body owns
  have fr : ∀ {bl X Y}, B + 1 ∉ bl → Tn [B + 1] X Y [B + 1] → Fr B cl bl X Y := by
    intro bl X Y m t
    refine ⟨t.os, t.tape, t.output, t.size, fun k hk hl => t.same k hl fun hm => ?_⟩
    rw [List.mem_singleton.1 hm] at hk
    rcases hk with ⟨h1, _⟩ | h1
    · omega
    · exact m h1
  rw [← hB] at hI hIx hC hit
  refine ⟨B + 1, [{ target := .collected B, args := #[] }], W1, { target := .fn (.func gf) lb, args := #[.func (.yield (B + 1)) #[] #[]] }, W1, gf, #[.func (.yield (B + 1)) #[] #[]] ++ lb, W1, ?_, ?_, ?_, ?_, fun h => by simp [Fence.wide] at h, ?_⟩
  · rw [← hW1]
    subst hB
    exact run_enterLoop_outer _ _ _ _ _
  · simp only [resolve, hg]
    simp [go_sem]
  · intro f' _; trivial
  · simp [invoke, go_sem, eg]
  have m0 : B ∉ bl0 ∧ B + 1 ∉ bl0 := ⟨fun h => by have := hIl _ _ _ h0 _ h; omega, fun h => by have := hIl _ _ _ h0 _ h; omega⟩
  have hBW1 : B ≤ W1.heap.size := by have := hbel.size; omega
  refine (hit (B + 1) (fun pre ol W => ∃ bl, ol = B :: (B + 1) :: bl ∧ B ∉ bl ∧ B + 1 ∉ bl ∧ I pre bl W ∧ At .ready none W) (fun c pre ol W => ∃ bl, ol = B :: (B + 1) :: bl ∧ B ∉ bl ∧ B + 1 ∉ bl ∧ Ix c pre bl W ∧ At .done (some c) W)
    (B :: (B + 1) :: bl0) W1 ?_ ?_ ?_ ?_ hBW1 ⟨bl0, rfl, m0.1, m0.2, hI _ _ _ _ h0 (.below (by rw [← hB]; exact hbel)), hL1, hD1⟩ (hC _ hbel)).mono ?_
  · rintro pre ol X Y ⟨bl, rfl, m1, m2, hi, hK⟩ f
    exact ⟨bl, rfl, m1, m2, hI _ _ _ _ hi (f.sub (Nat.le_refl _) fun k hk => .inl (by simp [hk])), hAtF hK (by simp) (by simp) f⟩
  · rintro c pre ol X Y ⟨bl, rfl, m1, m2, hi, hK⟩ f
    exact ⟨bl, rfl, m1, m2, hIx _ _ _ _ _ hi (f.sub (Nat.le_refl _) fun k hk => .inl (by simp [hk])), hAtF hK (by simp) (by simp) f⟩
  · rintro pre ol X ⟨bl, rfl, m1, m2, hi, hK⟩ k hk
    have := hlt hK
    rcases List.mem_cons.1 hk with rfl | hk
    · omega
    · rcases List.mem_cons.1 hk with rfl | hk
      · exact this
      · exact hIl _ _ _ hi k hk
  · -- one round
    rintro pre x ol W ⟨bl, rfl, m1, m2, hi, hK⟩ hv
    have hg := hVg _ _ _ _ hv
    have g1 : B ∉ gift x ++ bl := fun h => by
      rcases List.mem_append.1 h with h | h
      · exact hg _ h (by simp)
      · exact m1 h
    have g2 : B + 1 ∉ gift x ++ bl := fun h => by
      rcases List.mem_append.1 h with h | h
      · exact hg _ h (by simp)
      · exact m2 h
    have hb1 := hw₁ x W
    have hK1 : At .ready none (w₁ x W) := ⟨(hb1.block _ (hlt hK)).trans hK.1, (hb1.block _ (by have := hlt hK; omega)).trans hK.2⟩
    refine ⟨fn, _, assign, body, run_yield hK.1 (hps x), roundIn_wide (n := n - 1) (roundIn_of_wpIn trivial (hassign _ x W _ ⟨_, run_beginRound hK1.1 rfl, ?_⟩))⟩
    obtain ⟨k2, b2⟩ := turn (w₁ x W) .ready .busy none none hK1
    have lift : ∀ {bl2 X Y}, Tn [B + 1] X Y [B + 1] → Tn (B :: (B + 1) :: bl2) X Y (B :: (B + 1) :: bl2) := by
      intro bl2 X Y t
      exact ⟨t.os, t.tape, t.output, t.size, fun k hk hb => t.same k hk (by simp only [List.mem_singleton]; rintro rfl; exact hb (by simp)), fun _ h => .inl h⟩
    have liftg : ∀ {X Y}, Tn [B + 1] X Y [B + 1] → Tn (gift x ++ (B :: (B + 1) :: bl)) X Y (gift x ++ (B :: (B + 1) :: bl)) := by
      intro X Y t
      exact ⟨t.os, t.tape, t.output, t.size, fun k hk hb => t.same k hk (by simp only [List.mem_singleton]; rintro rfl; exact hb (by simp)), fun _ h => .inl h⟩
    have lift2 : ∀ {bl3 X Y}, Tn (gift x ++ bl) X Y bl3 → Tn (gift x ++ (B :: (B + 1) :: bl)) X Y (B :: (B + 1) :: bl3) := by
      intro bl3 X Y t
      refine ⟨t.os, t.tape, t.output, t.size, fun k hk hb => t.same k hk fun h => hb ?_, fun k hk => ?_⟩
      · rcases List.mem_append.1 h with h | h
        · exact List.mem_append_left _ h
        · exact List.mem_append_right _ (by simp [h])
      · rcases List.mem_cons.1 hk with rfl | hk
        · exact .inl (by simp)
        · rcases List.mem_cons.1 hk with rfl | hk
          · exact .inl (by simp)
          · rcases t.new k hk with h | h
            · refine .inl ?_
              rcases List.mem_append.1 h with h | h
              · exact List.mem_append_left _ h
              · exact List.mem_append_right _ (by simp [h])
            · exact .inr h
    have hl9 := hIl _ _ _ hi
    have hg9 := hVl _ _ _ _ hv
    refine wpIn_mono (hbody _ pre bl x W _ (by rw [← hB]; exact hlt hK) (by simp) (fun k hk hne => World.putObj_heap_other (by rw [← hB] at hne; exact hne)) hl9 hg9 (hI _ _ _ _ (hI _ _ _ _ hi (.below hb1)) (fr m2 b2)) (by rw [← hB]; exact hVs _ _ _ _ _ (hVs _ _ _ _ _ hv (Tn.below hb1)) (lift b2))) ?_
    have fin : ∀ (jump : Option Code) (bl' : List Nat) (W3 : World), Tn (gift x ++ bl) ((w₁ x W).putObj (B + 1) (.loop (rec' .busy none))) W3 bl' → At .busy none W3 ∧ B ∉ bl' ∧ B + 1 ∉ bl' ∧
        (Instr.endRound (B + 1) jump).run P W3 = .ok (.bool jump.isNone) (W3.putObj (B + 1) (.loop (rec' (if jump.isNone then .ready else .done) jump))) := by
      intro jump bl' W3 h3
      obtain ⟨k3, n1, n2⟩ := hAtT k2 g1 g2 h3
      exact ⟨k3, n1, n2, run_endRound jump k3.1⟩
    rintro e a3 W3 hp
    cases e with
    | normal =>
      obtain ⟨bl', t3, i3⟩ := hp
      obtain ⟨k3, n1, n2, r3⟩ := fin none bl' W3 t3
      obtain ⟨k4, b4⟩ := turn W3 .busy .ready none none k3
      exact ⟨_, _, r3, _, ((((Tn.below hb1).trans (liftg b2)).trans (lift2 t3)).trans (lift b4)), .inl ⟨rfl, bl', rfl, n1, n2, hI _ _ _ _ i3 (fr n2 b4), k4⟩⟩
    | ret =>
      obtain ⟨bl', t3, i3⟩ := hp
      obtain ⟨k3, n1, n2, r3⟩ := fin (some .ret) bl' W3 t3
      obtain ⟨k4, b4⟩ := turn W3 .busy .done none (some .ret) k3
      exact ⟨_, _, r3, _, ((((Tn.below hb1).trans (liftg b2)).trans (lift2 t3)).trans (lift b4)), .inr ⟨rfl, _, bl', rfl, n1, n2, hIx _ _ _ _ _ i3 (fr n2 b4), k4⟩⟩
    | exit id =>
      obtain ⟨bl', t3, i3⟩ := hp
      obtain ⟨k3, n1, n2, r3⟩ := fin (some (.exit id)) bl' W3 t3
      obtain ⟨k4, b4⟩ := turn W3 .busy .done none (some (.exit id)) k3
      exact ⟨_, _, r3, _, ((((Tn.below hb1).trans (liftg b2)).trans (lift2 t3)).trans (lift b4)), .inr ⟨rfl, _, bl', rfl, n1, n2, hIx _ _ _ _ _ i3 (fr n2 b4), k4⟩⟩
    | goto t =>
      obtain ⟨bl', t3, i3⟩ := hp
      obtain ⟨k3, n1, n2, r3⟩ := fin (some (.goto t)) bl' W3 t3
      obtain ⟨k4, b4⟩ := turn W3 .busy .done none (some (.goto t)) k3
      exact ⟨_, _, r3, _, ((((Tn.below hb1).trans (liftg b2)).trans (lift2 t3)).trans (lift b4)), .inr ⟨rfl, _, bl', rfl, n1, n2, hIx _ _ _ _ _ i3 (fr n2 b4), k4⟩⟩
    | panic ch => exact hp.elim
    | outgrown => exact hp.elim
  · -- behind the iterator
    rintro e W2 ⟨⟨v, rfl⟩, (⟨xs, ol', hS, bl, rfl, m1, m2, hi, hK⟩ | ⟨pre, c, ol', hSp, bl, rfl, m1, m2, hi, hK⟩)⟩
    · obtain ⟨k3, b3⟩ := turn W2 .ready .exhausted none none hK
      exact ⟨none, _, run_endLoop hK.1 (by simp [rec']), hdone _ xs bl _ (by omega) (Array.getElem?_eq_some_iff.1 k3.2).1 m1 hS (hI _ _ _ _ hi (fr m2 b3)) k3.2⟩
    · obtain ⟨k3, b3⟩ := turn W2 .done .exhausted (some c) (some c) hK
      exact ⟨some c, _, run_endLoop hK.1 (by simp [rec']), hstop _ c pre bl _ (by omega) (Array.getElem?_eq_some_iff.1 k3.2).1 m1 hSp (hIx _ _ _ _ _ hi (fr m2 b3)) k3.2⟩
end Go.Proofs.YtpbckjagiebmjaaDoor
/- A table's Set where it tells an error; is of no place. By the verifier of shale. -/
namespace Go.Proofs.YtpbckjagiebmjaaDoor.Tb
open Go Go.RowKit
set_option linter.unusedVariables false
set_option linter.unusedSimpArgs false
section
variable {w : World} {base tb mb ob B P cO : Nat} {kb : Nat → Nat} {kf : Nat → Nat → Int} {m : Int → Option Sl} {cnt nb : Nat}
set_option maxHeartbeats 1000000 in
theorem is_no (T : TabAt w base tb mb ob B P cO kb kf m cnt nb) {b p : Nat} (hb : B ≤ b) : Calls Tryd.prog 26 #[.pointer (some ⟨tb, 0, none⟩), .agg #[.int .i64 (b : Int), .int .i64 (p : Int)]] w fun e w' => e = .returned (.bool false) ∧ Below w.heap.size w w' := by
  go_enter Tryd.func26, Tryd.ntmps26
  go_upto_region 1 with (fail)
  generalize hw : w.alloc (.cells #[.int .i64 (b : Int), .int .i64 (p : Int)] 24 (0, 0)) = w1
  obtain ⟨K1, b1⟩ := newPl w w1 b p hw
  clear hw
  obtain ⟨x0, x1, _⟩ := pl_cells K1
  obtain ⟨xb, hxb⟩ : ∃ xb, xb = w.heap.size := ⟨_, rfl⟩
  rw [← hxb] at x0 x1 ⊢
  have T1 := T.below b1
  obtain ⟨k0, k1, _⟩ := T1.cells
  have HX := Lib.hid (And.intro hxb b1)
  have y0 : (0 : Int) ≤ (b : Int) := by omega
  have z0 : decide ((0 : Int) ≤ (b : Int)) = true := decide_eq_true y0
  have z1 : decide ((b : Int) < (B : Int)) = false := decide_eq_false (by omega)
  have z1' : decide (b < B) = false := decide_eq_false (by omega)
  clear T T1 K1 b1 hxb hb
  go_quiet (fail)
  have HD : Hid (Below w.heap.size w (w1.drewN nq)) := HX.out.2.trans (((Drawn.mk w1 nq).below w1.heap.size).mono HX.out.2.size)
  generalize w1.drewN nq = w2 at HD ⊢
  go_wp2_with fail
  go_ret
  exact ⟨rfl, HD.out⟩
set_option maxRecDepth 100000 in
set_option maxHeartbeats 2000000 in
theorem set_num (T : TabAt w base tb mb ob B P cO kb kf m cnt nb) {key : Int} (h0 : 0 ≤ key) (h1 : key ≤ 1073741824) {b p : Nat} (hbB : B ≤ b) (m0 m1 m2 m3 m4 m5 : Int) {y : Addr} (E : ErrAt w 2 y) :
    Calls Tryd.prog 10 #[.pointer (some ⟨tb, 0, none⟩), .int .i64 key, .agg #[.int .i64 (b : Int), .int .i64 (p : Int)], .agg #[.int .i64 m0, .int .i64 m1, .int .i64 m2, .int .i64 m3, .int .i64 m4, .int .i64 m5]] w fun e w' => e = .returned (.tuple #[.agg #[.int .i64 0, .int .i64 0], .bool false, errOf y]) ∧ Below w.heap.size w w' := by
  have HT := Lib.hid (And.intro T hbB)
  have HY := Lib.hid E
  clear T E hbB
  go_enter Tryd.func10, Tryd.ntmps10
  go_upto_region 1 with (fail)
  generalize hw : w.alloc (.cells #[.int .i64 (b : Int), .int .i64 (p : Int)] 24 (0, 0)) = w1
  obtain ⟨J1, b1⟩ := newPl w w1 (b : Int) (p : Int) hw
  have hs1 : w1.heap.size = w.heap.size + 1 := by rw [← hw]; simp
  clear hw
  rw [← hs1]
  generalize hw : w1.alloc (.cells #[.int .i64 m0, .int .i64 m1, .int .i64 m2, .int .i64 m3, .int .i64 m4, .int .i64 m5] 36 (0, 0)) = w2
  obtain ⟨J2, b2⟩ := newMe w1 w2 m0 m1 m2 m3 m4 m5 hw
  have hs2 : w2.heap.size = w1.heap.size + 1 := by rw [← hw]; simp
  clear hw
  rw [← hs2]
  generalize hw : w2.alloc (.cells #[.int .i64 0, .int .i64 0] 24 (0, 0)) = w3
  obtain ⟨J3, b3⟩ := newPl w2 w3 0 0 hw
  clear hw
  have b13 := b2.trans (b3.mono b2.size)
  have b03 := b1.trans (b13.mono b1.size)
  have HB03 := Lib.hid b03
  obtain ⟨xb, hxb⟩ : ∃ xb, xb = w.heap.size := ⟨_, rfl⟩
  obtain ⟨yb, hyb⟩ : ∃ yb, yb = w1.heap.size := ⟨_, rfl⟩
  obtain ⟨rb, hrb⟩ : ∃ rb, rb = w2.heap.size := ⟨_, rfl⟩
  have HI : Hid (SetI w base tb mb ob B P cO kb kf m cnt nb xb yb rb (b : Int) (p : Int) m0 m1 m2 m3 m4 m5 w3) := by
    refine ⟨HT.out.1.below b03, ?_, ?_, ?_, Tn.below b03⟩
    · rw [hxb]; exact (b13.block _ (lt_of_block J1)).trans J1
    · rw [hyb]; exact (b3.block _ (lt_of_block J2)).trans J2
    · rw [hrb]; exact J3
  have HXY : Hid (w.heap.size ≤ xb ∧ w.heap.size ≤ yb ∧ w.heap.size ≤ rb) := ⟨by omega, by omega, by omega⟩
  rw [← hxb, ← hyb, ← hrb]
  clear J1 J2 J3 b1 b2 b3 b13 b03 hs1 hs2 hxb hyb hrb
  have z0 : decide (key < 0) = false := decide_eq_false (by omega)
  have z1 : decide ((1073741824 : Int) < key) = false := decide_eq_false (by omega)
  obtain ⟨x0, x1, _⟩ := pl_cells HI.out.2.1
  go_wp2_with fail
  refine (is_no HI.out.1 HT.out.2).mono ?_
  rintro e w4 ⟨rfl, b4⟩
  have HBW0 : Hid (Below w.heap.size w w3) := HB03.out
  replace HI := Lib.hid (HI.out.below b4)
  have HBW4 : Hid (Below w.heap.size w w4) := HBW0.out.trans (b4.mono HBW0.out.size)
  clear b4 x0 x1 z0 z1
  have HBW := HBW4
  obtain ⟨_, _, _, r3, t3⟩ := HI.out
  obtain ⟨r0, r1, rf⟩ := pl_cells r3
  have f0 := rf 0
  have f1 := rf 1
  have q0 : w4.cell? ⟨2, 0, none⟩ = some (errOf y) := (HY.out.below HBW.out).1
  have hR : ((w4.setCell ⟨rb, 0, none⟩ (.int .i64 0)).setCell ⟨rb, 1, none⟩ (.int .i64 0)).drew.heap[rb]? = some (.cells #[.int .i64 0, .int .i64 0] 24 (0, 0)) := heap_setCell_same _ _ 1 _ _ _ (heap_setCell_same _ _ 0 _ _ _ r3)
  have oR : Only rb w4 ((w4.setCell ⟨rb, 0, none⟩ (.int .i64 0)).setCell ⟨rb, 1, none⟩ (.int .i64 0)).drew := ((Only.setCell w4 ⟨rb, 0, none⟩ _).trans (Only.setCell _ ⟨rb, 1, none⟩ _)).drew
  have HF : Hid (Below w.heap.size w ((w4.setCell ⟨rb, 0, none⟩ (.int .i64 0)).setCell ⟨rb, 1, none⟩ (.int .i64 0)).drew) := HBW.out.trans (oR.below HXY.out.2.2)
  have q1 : ((w4.setCell ⟨rb, 0, none⟩ (.int .i64 0)).setCell ⟨rb, 1, none⟩ (.int .i64 0)).cell? ⟨2, 0, none⟩ = some (errOf y) := (cell_heapT (((Only.setCell w4 ⟨rb, 0, none⟩ _).trans (Only.setCell _ ⟨rb, 1, none⟩ _)).block _ (by have hlt : 2 < w.heap.size := World.block_lt_of_cell? w _ HY.out.1; have := HXY.out.2.2; show 2 ≠ rb; omega))).trans q0
  have HR := Lib.hid hR
  clear r3 rf hR oR t3 HI
  go_upto_region 2 with (fail)
  go_region
  all_goals
    go_wp2_with fail
    obtain ⟨s0, s1, _⟩ := pl_cells HR.out
    have hF := HF.out
    generalize ((w4.setCell ⟨rb, 0, none⟩ (.int .i64 0)).setCell ⟨rb, 1, none⟩ (.int .i64 0)).drew = w12 at s0 s1 hF ⊢
    exact bodyPost_ret (v := .tuple #[.agg #[.int .i64 0, .int .i64 0], .bool false, errOf y]) (by simp [results, Tryd.results10, go_sem, s0, s1]) rfl ⟨rfl, hF⟩
set_option maxRecDepth 100000 in
set_option maxHeartbeats 2000000 in
theorem set_ord (T : TabAt w base tb mb ob B P cO kb kf m cnt nb) {key : Int} (h0 : 0 ≤ key) (h1 : key ≤ 1073741824) {b p : Nat} (hbB : b < B) (hpP : p < P) (hk1 : kf b p ≠ -1) (hk2 : kf b p ≠ key) (m0 m1 m2 m3 m4 m5 : Int) {y : Addr} (E : ErrAt w 1 y) :
    Calls Tryd.prog 10 #[.pointer (some ⟨tb, 0, none⟩), .int .i64 key, .agg #[.int .i64 (b : Int), .int .i64 (p : Int)], .agg #[.int .i64 m0, .int .i64 m1, .int .i64 m2, .int .i64 m3, .int .i64 m4, .int .i64 m5]] w fun e w' => e = .returned (.tuple #[.agg #[.int .i64 0, .int .i64 0], .bool false, errOf y]) ∧ Below w.heap.size w w' := by
  have HT := Lib.hid (And.intro T (And.intro hbB (And.intro hpP (And.intro hk1 hk2))))
  have HY := Lib.hid E
  have hP := T.pos
  obtain ⟨q1, q2, q3, q4, q5, q6⟩ := hP
  unfold maxLen at q6
  have y0 : (0 : Int) ≤ (b : Int) := by omega
  have y1 : (b : Int) < (B : Int) := by omega
  have y2 : (0 : Int) ≤ (p : Int) := by omega
  have y3 : (p : Int) < (P : Int) := by omega
  clear T E hbB hpP hk1 hk2
  go_enter Tryd.func10, Tryd.ntmps10
  go_upto_region 1 with (fail)
  generalize hw : w.alloc (.cells #[.int .i64 (b : Int), .int .i64 (p : Int)] 24 (0, 0)) = w1
  obtain ⟨J1, b1⟩ := newPl w w1 (b : Int) (p : Int) hw
  have hs1 : w1.heap.size = w.heap.size + 1 := by rw [← hw]; simp
  clear hw
  rw [← hs1]
  generalize hw : w1.alloc (.cells #[.int .i64 m0, .int .i64 m1, .int .i64 m2, .int .i64 m3, .int .i64 m4, .int .i64 m5] 36 (0, 0)) = w2
  obtain ⟨J2, b2⟩ := newMe w1 w2 m0 m1 m2 m3 m4 m5 hw
  have hs2 : w2.heap.size = w1.heap.size + 1 := by rw [← hw]; simp
  clear hw
  rw [← hs2]
  generalize hw : w2.alloc (.cells #[.int .i64 0, .int .i64 0] 24 (0, 0)) = w3
  obtain ⟨J3, b3⟩ := newPl w2 w3 0 0 hw
  clear hw
  have b13 := b2.trans (b3.mono b2.size)
  have b03 := b1.trans (b13.mono b1.size)
  have HB03 := Lib.hid b03
  obtain ⟨xb, hxb⟩ : ∃ xb, xb = w.heap.size := ⟨_, rfl⟩
  obtain ⟨yb, hyb⟩ : ∃ yb, yb = w1.heap.size := ⟨_, rfl⟩
  obtain ⟨rb, hrb⟩ : ∃ rb, rb = w2.heap.size := ⟨_, rfl⟩
  have HI : Hid (SetI w base tb mb ob B P cO kb kf m cnt nb xb yb rb (b : Int) (p : Int) m0 m1 m2 m3 m4 m5 w3) := by
    refine ⟨HT.out.1.below b03, ?_, ?_, ?_, Tn.below b03⟩
    · rw [hxb]; exact (b13.block _ (lt_of_block J1)).trans J1
    · rw [hyb]; exact (b3.block _ (lt_of_block J2)).trans J2
    · rw [hrb]; exact J3
  have HXY : Hid (w.heap.size ≤ xb ∧ w.heap.size ≤ yb ∧ w.heap.size ≤ rb) := ⟨by omega, by omega, by omega⟩
  rw [← hxb, ← hyb, ← hrb]
  clear J1 J2 J3 b1 b2 b3 b13 b03 hs1 hs2 hxb hyb hrb
  have z0 : decide (key < 0) = false := decide_eq_false (by omega)
  have z1 : decide ((1073741824 : Int) < key) = false := decide_eq_false (by omega)
  obtain ⟨x0, x1, _⟩ := pl_cells HI.out.2.1
  go_wp2_with fail
  refine (is_yes HI.out.1 HT.out.2.1 HT.out.2.2.1).mono ?_
  rintro e w4 ⟨rfl, b4⟩
  have HBW0 : Hid (Below w.heap.size w w3) := HB03.out
  replace HI := Lib.hid (HI.out.below b4)
  have HBW4 : Hid (Below w.heap.size w w4) := HBW0.out.trans (b4.mono HBW0.out.size)
  clear b4 x0 x1 z0 z1
  obtain ⟨x0, x1, _⟩ := pl_cells HI.out.2.1
  obtain ⟨k0, k1, _⟩ := HI.out.1.cells
  have k2 := HI.out.1.outer b HT.out.2.1
  have k3 := (HI.out.1.page HT.out.2.1 HT.out.2.2.1).1
  have hk1 := HT.out.2.2.2.1
  have hk2 := HT.out.2.2.2.2
  generalize kf b p = kk at k3 hk1 hk2
  have u1 : (kk == -1) = false := by rw [beq_eq_false_iff_ne]; exact hk1
  have u2 : (kk != -1) = true := by rw [bne, u1]; rfl
  have u3 : (kk == key) = false := by rw [beq_eq_false_iff_ne]; exact hk2
  have u4 : (kk != key) = true := by rw [bne, u3]; rfl
  clear hk1 hk2
  go_upto_region 3 with (fail)
  go_quiet (fail)
  have bq := (Drawn.mk w4 nq).below w4.heap.size
  replace HI := Lib.hid (HI.out.below bq)
  have HBW5 : Hid (Below w.heap.size w (w4.drewN nq)) := HBW4.out.trans (bq.mono HBW4.out.size)
  generalize w4.drewN nq = w5 at HI HBW5 ⊢
  have HBW : Hid (Below w.heap.size w w5) := HBW5.out
  clear bq x0 x1 k0 k1 k2 k3
  obtain ⟨_, _, _, r3, t3⟩ := HI.out
  obtain ⟨r0, r1, rf⟩ := pl_cells r3
  have f0 := rf 0
  have f1 := rf 1
  have q0 : w5.cell? ⟨1, 0, none⟩ = some (errOf y) := (HY.out.below HBW.out).1
  have hR : ((w5.setCell ⟨rb, 0, none⟩ (.int .i64 0)).setCell ⟨rb, 1, none⟩ (.int .i64 0)).drew.heap[rb]? = some (.cells #[.int .i64 0, .int .i64 0] 24 (0, 0)) := heap_setCell_same _ _ 1 _ _ _ (heap_setCell_same _ _ 0 _ _ _ r3)
  have oR : Only rb w5 ((w5.setCell ⟨rb, 0, none⟩ (.int .i64 0)).setCell ⟨rb, 1, none⟩ (.int .i64 0)).drew := ((Only.setCell w5 ⟨rb, 0, none⟩ _).trans (Only.setCell _ ⟨rb, 1, none⟩ _)).drew
  have HF : Hid (Below w.heap.size w ((w5.setCell ⟨rb, 0, none⟩ (.int .i64 0)).setCell ⟨rb, 1, none⟩ (.int .i64 0)).drew) := HBW.out.trans (oR.below HXY.out.2.2)
  have q1 : ((w5.setCell ⟨rb, 0, none⟩ (.int .i64 0)).setCell ⟨rb, 1, none⟩ (.int .i64 0)).cell? ⟨1, 0, none⟩ = some (errOf y) := (cell_heapT (((Only.setCell w5 ⟨rb, 0, none⟩ _).trans (Only.setCell _ ⟨rb, 1, none⟩ _)).block _ (by have hlt : 1 < w.heap.size := World.block_lt_of_cell? w _ HY.out.1; have := HXY.out.2.2; show 1 ≠ rb; omega))).trans q0
  have HR := Lib.hid hR
  clear r3 rf hR oR t3 HI
  go_upto_region 5 with (fail)
  go_region
  all_goals
    go_wp2_with fail
    obtain ⟨s0, s1, _⟩ := pl_cells HR.out
    have hF := HF.out
    generalize ((w5.setCell ⟨rb, 0, none⟩ (.int .i64 0)).setCell ⟨rb, 1, none⟩ (.int .i64 0)).drew = w12 at s0 s1 hF ⊢
    exact bodyPost_ret (v := .tuple #[.agg #[.int .i64 0, .int .i64 0], .bool false, errOf y]) (by simp [results, Tryd.results10, go_sem, s0, s1]) rfl ⟨rfl, hF⟩
end
end Go.Proofs.YtpbckjagiebmjaaDoor.Tb
/- A table's Set where key or place is none, whatever they are. By the verifier of shale. -/
namespace Go.Proofs.YtpbckjagiebmjaaDoor.Tb
open Go Go.RowKit
set_option linter.unusedVariables false
set_option linter.unusedSimpArgs false
section
variable {w : World} {base tb mb ob B P cO : Nat} {kb : Nat → Nat} {kf : Nat → Nat → Int} {m : Int → Option Sl} {cnt nb : Nat}
set_option maxHeartbeats 1000000 in
theorem is_b1 (T : TabAt w base tb mb ob B P cO kb kf m cnt nb) {b p : Int} (h1 : b < 0) : Calls Tryd.prog 26 #[.pointer (some ⟨tb, 0, none⟩), .agg #[.int .i64 b, .int .i64 p]] w fun e w' => e = .returned (.bool false) ∧ Below w.heap.size w w' := by
  go_enter Tryd.func26, Tryd.ntmps26
  go_upto_region 1 with (fail)
  generalize hw : w.alloc (.cells #[.int .i64 b, .int .i64 p] 24 (0, 0)) = w1
  obtain ⟨K1, b1⟩ := newPl w w1 b p hw
  clear hw
  obtain ⟨x0, x1, _⟩ := pl_cells K1
  obtain ⟨xb, hxb⟩ : ∃ xb, xb = w.heap.size := ⟨_, rfl⟩
  rw [← hxb] at x0 x1 ⊢
  have T1 := T.below b1
  obtain ⟨k0, k1, _⟩ := T1.cells
  have k2 := T1.outer 0 T.pos.1
  have hP := T.pos
  have HX := Lib.hid (And.intro hxb b1)
  have y4 : (0 : Int) < (B : Int) := by omega
  obtain ⟨q1, q2, q3, q4, q5, q6⟩ := hP
  unfold maxLen at q6
  clear T T1 K1 b1 hxb
  have z0 : decide ((0 : Int) ≤ b) = false := decide_eq_false (by omega)
  go_quiet (fail)
  have HD : Hid (Below w.heap.size w (w1.drewN nq)) := HX.out.2.trans (((Drawn.mk w1 nq).below w1.heap.size).mono HX.out.2.size)
  generalize w1.drewN nq = w2 at HD ⊢
  go_wp2_with fail
  go_ret
  exact ⟨rfl, HD.out⟩
set_option maxHeartbeats 1000000 in
theorem is_b2 (T : TabAt w base tb mb ob B P cO kb kf m cnt nb) {b p : Int} (h1 : 0 ≤ b) (h2 : (B : Int) ≤ b) : Calls Tryd.prog 26 #[.pointer (some ⟨tb, 0, none⟩), .agg #[.int .i64 b, .int .i64 p]] w fun e w' => e = .returned (.bool false) ∧ Below w.heap.size w w' := by
  go_enter Tryd.func26, Tryd.ntmps26
  go_upto_region 1 with (fail)
  generalize hw : w.alloc (.cells #[.int .i64 b, .int .i64 p] 24 (0, 0)) = w1
  obtain ⟨K1, b1⟩ := newPl w w1 b p hw
  clear hw
  obtain ⟨x0, x1, _⟩ := pl_cells K1
  obtain ⟨xb, hxb⟩ : ∃ xb, xb = w.heap.size := ⟨_, rfl⟩
  rw [← hxb] at x0 x1 ⊢
  have T1 := T.below b1
  obtain ⟨k0, k1, _⟩ := T1.cells
  have k2 := T1.outer 0 T.pos.1
  have hP := T.pos
  have HX := Lib.hid (And.intro hxb b1)
  have y4 : (0 : Int) < (B : Int) := by omega
  obtain ⟨q1, q2, q3, q4, q5, q6⟩ := hP
  unfold maxLen at q6
  clear T T1 K1 b1 hxb
  have z0 : decide ((0 : Int) ≤ b) = true := decide_eq_true h1
  have z1 : decide (b < (B : Int)) = false := decide_eq_false (by omega)
  go_quiet (fail)
  have HD : Hid (Below w.heap.size w (w1.drewN nq)) := HX.out.2.trans (((Drawn.mk w1 nq).below w1.heap.size).mono HX.out.2.size)
  generalize w1.drewN nq = w2 at HD ⊢
  go_wp2_with fail
  go_ret
  exact ⟨rfl, HD.out⟩
set_option maxHeartbeats 1000000 in
theorem is_b3 (T : TabAt w base tb mb ob B P cO kb kf m cnt nb) {b p : Int} (h1 : 0 ≤ b) (h2 : b < (B : Int)) (h3 : p < 0) : Calls Tryd.prog 26 #[.pointer (some ⟨tb, 0, none⟩), .agg #[.int .i64 b, .int .i64 p]] w fun e w' => e = .returned (.bool false) ∧ Below w.heap.size w w' := by
  go_enter Tryd.func26, Tryd.ntmps26
  go_upto_region 1 with (fail)
  generalize hw : w.alloc (.cells #[.int .i64 b, .int .i64 p] 24 (0, 0)) = w1
  obtain ⟨K1, b1⟩ := newPl w w1 b p hw
  clear hw
  obtain ⟨x0, x1, _⟩ := pl_cells K1
  obtain ⟨xb, hxb⟩ : ∃ xb, xb = w.heap.size := ⟨_, rfl⟩
  rw [← hxb] at x0 x1 ⊢
  have T1 := T.below b1
  obtain ⟨k0, k1, _⟩ := T1.cells
  have k2 := T1.outer 0 T.pos.1
  have hP := T.pos
  have HX := Lib.hid (And.intro hxb b1)
  have y4 : (0 : Int) < (B : Int) := by omega
  obtain ⟨q1, q2, q3, q4, q5, q6⟩ := hP
  unfold maxLen at q6
  clear T T1 K1 b1 hxb
  have z0 : decide ((0 : Int) ≤ b) = true := decide_eq_true h1
  have z1 : decide (b < (B : Int)) = true := decide_eq_true h2
  have z2 : decide ((0 : Int) ≤ p) = false := decide_eq_false (by omega)
  go_quiet (fail)
  have HD : Hid (Below w.heap.size w (w1.drewN nq)) := HX.out.2.trans (((Drawn.mk w1 nq).below w1.heap.size).mono HX.out.2.size)
  generalize w1.drewN nq = w2 at HD ⊢
  go_wp2_with fail
  go_ret
  exact ⟨rfl, HD.out⟩
set_option maxHeartbeats 1000000 in
theorem is_b4 (T : TabAt w base tb mb ob B P cO kb kf m cnt nb) {b p : Int} (h1 : 0 ≤ b) (h2 : b < (B : Int)) (h3 : 0 ≤ p) (h4 : (P : Int) ≤ p) : Calls Tryd.prog 26 #[.pointer (some ⟨tb, 0, none⟩), .agg #[.int .i64 b, .int .i64 p]] w fun e w' => e = .returned (.bool false) ∧ Below w.heap.size w w' := by
  go_enter Tryd.func26, Tryd.ntmps26
  go_upto_region 1 with (fail)
  generalize hw : w.alloc (.cells #[.int .i64 b, .int .i64 p] 24 (0, 0)) = w1
  obtain ⟨K1, b1⟩ := newPl w w1 b p hw
  clear hw
  obtain ⟨x0, x1, _⟩ := pl_cells K1
  obtain ⟨xb, hxb⟩ : ∃ xb, xb = w.heap.size := ⟨_, rfl⟩
  rw [← hxb] at x0 x1 ⊢
  have T1 := T.below b1
  obtain ⟨k0, k1, _⟩ := T1.cells
  have k2 := T1.outer 0 T.pos.1
  have hP := T.pos
  have HX := Lib.hid (And.intro hxb b1)
  have y4 : (0 : Int) < (B : Int) := by omega
  obtain ⟨q1, q2, q3, q4, q5, q6⟩ := hP
  unfold maxLen at q6
  clear T T1 K1 b1 hxb
  have z0 : decide ((0 : Int) ≤ b) = true := decide_eq_true h1
  have z1 : decide (b < (B : Int)) = true := decide_eq_true h2
  have z2 : decide ((0 : Int) ≤ p) = true := decide_eq_true h3
  have z3 : decide (p < (P : Int)) = false := decide_eq_false (by omega)
  go_quiet (fail)
  have HD : Hid (Below w.heap.size w (w1.drewN nq)) := HX.out.2.trans (((Drawn.mk w1 nq).below w1.heap.size).mono HX.out.2.size)
  generalize w1.drewN nq = w2 at HD ⊢
  go_wp2_with fail
  go_ret
  exact ⟨rfl, HD.out⟩
theorem is_bad (T : TabAt w base tb mb ob B P cO kb kf m cnt nb) {b p : Int} (h : ¬ (0 ≤ b ∧ b < (B : Int) ∧ 0 ≤ p ∧ p < (P : Int))) : Calls Tryd.prog 26 #[.pointer (some ⟨tb, 0, none⟩), .agg #[.int .i64 b, .int .i64 p]] w fun e w' => e = .returned (.bool false) ∧ Below w.heap.size w w' := by
  by_cases h1 : 0 ≤ b
  · by_cases h2 : b < (B : Int)
    · by_cases h3 : 0 ≤ p
      · exact is_b4 T h1 h2 h3 (by omega)
      · exact is_b3 T h1 h2 (by omega)
    · exact is_b2 T h1 (by omega)
  · exact is_b1 T (by omega)
set_option maxRecDepth 100000 in
set_option maxHeartbeats 2000000 in
theorem set_badP (T : TabAt w base tb mb ob B P cO kb kf m cnt nb) {key : Int} (h0 : 0 ≤ key) (h1 : key ≤ 1073741824) {b p : Int} (hbB : ¬ (0 ≤ b ∧ b < (B : Int) ∧ 0 ≤ p ∧ p < (P : Int))) (m0 m1 m2 m3 m4 m5 : Int) {y : Addr} (E : ErrAt w 2 y) :
    Calls Tryd.prog 10 #[.pointer (some ⟨tb, 0, none⟩), .int .i64 key, .agg #[.int .i64 (b : Int), .int .i64 (p : Int)], .agg #[.int .i64 m0, .int .i64 m1, .int .i64 m2, .int .i64 m3, .int .i64 m4, .int .i64 m5]] w fun e w' => e = .returned (.tuple #[.agg #[.int .i64 0, .int .i64 0], .bool false, errOf y]) ∧ Below w.heap.size w w' := by
  have HT := Lib.hid (And.intro T hbB)
  have HY := Lib.hid E
  clear T E hbB
  go_enter Tryd.func10, Tryd.ntmps10
  go_upto_region 1 with (fail)
  generalize hw : w.alloc (.cells #[.int .i64 (b : Int), .int .i64 (p : Int)] 24 (0, 0)) = w1
  obtain ⟨J1, b1⟩ := newPl w w1 (b : Int) (p : Int) hw
  have hs1 : w1.heap.size = w.heap.size + 1 := by rw [← hw]; simp
  clear hw
  rw [← hs1]
  generalize hw : w1.alloc (.cells #[.int .i64 m0, .int .i64 m1, .int .i64 m2, .int .i64 m3, .int .i64 m4, .int .i64 m5] 36 (0, 0)) = w2
  obtain ⟨J2, b2⟩ := newMe w1 w2 m0 m1 m2 m3 m4 m5 hw
  have hs2 : w2.heap.size = w1.heap.size + 1 := by rw [← hw]; simp
  clear hw
  rw [← hs2]
  generalize hw : w2.alloc (.cells #[.int .i64 0, .int .i64 0] 24 (0, 0)) = w3
  obtain ⟨J3, b3⟩ := newPl w2 w3 0 0 hw
  clear hw
  have b13 := b2.trans (b3.mono b2.size)
  have b03 := b1.trans (b13.mono b1.size)
  have HB03 := Lib.hid b03
  obtain ⟨xb, hxb⟩ : ∃ xb, xb = w.heap.size := ⟨_, rfl⟩
  obtain ⟨yb, hyb⟩ : ∃ yb, yb = w1.heap.size := ⟨_, rfl⟩
  obtain ⟨rb, hrb⟩ : ∃ rb, rb = w2.heap.size := ⟨_, rfl⟩
  have HI : Hid (SetI w base tb mb ob B P cO kb kf m cnt nb xb yb rb (b : Int) (p : Int) m0 m1 m2 m3 m4 m5 w3) := by
    refine ⟨HT.out.1.below b03, ?_, ?_, ?_, Tn.below b03⟩
    · rw [hxb]; exact (b13.block _ (lt_of_block J1)).trans J1
    · rw [hyb]; exact (b3.block _ (lt_of_block J2)).trans J2
    · rw [hrb]; exact J3
  have HXY : Hid (w.heap.size ≤ xb ∧ w.heap.size ≤ yb ∧ w.heap.size ≤ rb) := ⟨by omega, by omega, by omega⟩
  rw [← hxb, ← hyb, ← hrb]
  clear J1 J2 J3 b1 b2 b3 b13 b03 hs1 hs2 hxb hyb hrb
  have z0 : decide (key < 0) = false := decide_eq_false (by omega)
  have z1 : decide ((1073741824 : Int) < key) = false := decide_eq_false (by omega)
  obtain ⟨x0, x1, _⟩ := pl_cells HI.out.2.1
  go_wp2_with fail
  refine (is_bad HI.out.1 HT.out.2).mono ?_
  rintro e w4 ⟨rfl, b4⟩
  have HBW0 : Hid (Below w.heap.size w w3) := HB03.out
  replace HI := Lib.hid (HI.out.below b4)
  have HBW4 : Hid (Below w.heap.size w w4) := HBW0.out.trans (b4.mono HBW0.out.size)
  clear b4 x0 x1 z0 z1
  have HBW := HBW4
  obtain ⟨_, _, _, r3, t3⟩ := HI.out
  obtain ⟨r0, r1, rf⟩ := pl_cells r3
  have f0 := rf 0
  have f1 := rf 1
  have q0 : w4.cell? ⟨2, 0, none⟩ = some (errOf y) := (HY.out.below HBW.out).1
  have hR : ((w4.setCell ⟨rb, 0, none⟩ (.int .i64 0)).setCell ⟨rb, 1, none⟩ (.int .i64 0)).drew.heap[rb]? = some (.cells #[.int .i64 0, .int .i64 0] 24 (0, 0)) := heap_setCell_same _ _ 1 _ _ _ (heap_setCell_same _ _ 0 _ _ _ r3)
  have oR : Only rb w4 ((w4.setCell ⟨rb, 0, none⟩ (.int .i64 0)).setCell ⟨rb, 1, none⟩ (.int .i64 0)).drew := ((Only.setCell w4 ⟨rb, 0, none⟩ _).trans (Only.setCell _ ⟨rb, 1, none⟩ _)).drew
  have HF : Hid (Below w.heap.size w ((w4.setCell ⟨rb, 0, none⟩ (.int .i64 0)).setCell ⟨rb, 1, none⟩ (.int .i64 0)).drew) := HBW.out.trans (oR.below HXY.out.2.2)
  have q1 : ((w4.setCell ⟨rb, 0, none⟩ (.int .i64 0)).setCell ⟨rb, 1, none⟩ (.int .i64 0)).cell? ⟨2, 0, none⟩ = some (errOf y) := (cell_heapT (((Only.setCell w4 ⟨rb, 0, none⟩ _).trans (Only.setCell _ ⟨rb, 1, none⟩ _)).block _ (by have hlt : 2 < w.heap.size := World.block_lt_of_cell? w _ HY.out.1; have := HXY.out.2.2; show 2 ≠ rb; omega))).trans q0
  have HR := Lib.hid hR
  clear r3 rf hR oR t3 HI
  go_upto_region 2 with (fail)
  go_region
  all_goals
    go_wp2_with fail
    obtain ⟨s0, s1, _⟩ := pl_cells HR.out
    have hF := HF.out
    generalize ((w4.setCell ⟨rb, 0, none⟩ (.int .i64 0)).setCell ⟨rb, 1, none⟩ (.int .i64 0)).drew = w12 at s0 s1 hF ⊢
    exact bodyPost_ret (v := .tuple #[.agg #[.int .i64 0, .int .i64 0], .bool false, errOf y]) (by simp [results, Tryd.results10, go_sem, s0, s1]) rfl ⟨rfl, hF⟩
set_option maxRecDepth 100000 in
set_option maxHeartbeats 2000000 in
theorem set_badK (T : TabAt w base tb mb ob B P cO kb kf m cnt nb) {key : Int} (hbB : key < 0 ∨ 1073741824 < key) {b p : Int} (m0 m1 m2 m3 m4 m5 : Int) {y : Addr} (E : ErrAt w 2 y) :
    Calls Tryd.prog 10 #[.pointer (some ⟨tb, 0, none⟩), .int .i64 key, .agg #[.int .i64 (b : Int), .int .i64 (p : Int)], .agg #[.int .i64 m0, .int .i64 m1, .int .i64 m2, .int .i64 m3, .int .i64 m4, .int .i64 m5]] w fun e w' => e = .returned (.tuple #[.agg #[.int .i64 0, .int .i64 0], .bool false, errOf y]) ∧ Below w.heap.size w w' := by
  have HT := Lib.hid (And.intro T hbB)
  have HY := Lib.hid E
  clear T E hbB
  go_enter Tryd.func10, Tryd.ntmps10
  go_upto_region 1 with (fail)
  generalize hw : w.alloc (.cells #[.int .i64 (b : Int), .int .i64 (p : Int)] 24 (0, 0)) = w1
  obtain ⟨J1, b1⟩ := newPl w w1 (b : Int) (p : Int) hw
  have hs1 : w1.heap.size = w.heap.size + 1 := by rw [← hw]; simp
  clear hw
  rw [← hs1]
  generalize hw : w1.alloc (.cells #[.int .i64 m0, .int .i64 m1, .int .i64 m2, .int .i64 m3, .int .i64 m4, .int .i64 m5] 36 (0, 0)) = w2
  obtain ⟨J2, b2⟩ := newMe w1 w2 m0 m1 m2 m3 m4 m5 hw
  have hs2 : w2.heap.size = w1.heap.size + 1 := by rw [← hw]; simp
  clear hw
  rw [← hs2]
  generalize hw : w2.alloc (.cells #[.int .i64 0, .int .i64 0] 24 (0, 0)) = w3
  obtain ⟨J3, b3⟩ := newPl w2 w3 0 0 hw
  clear hw
  have b13 := b2.trans (b3.mono b2.size)
  have b03 := b1.trans (b13.mono b1.size)
  have HB03 := Lib.hid b03
  obtain ⟨xb, hxb⟩ : ∃ xb, xb = w.heap.size := ⟨_, rfl⟩
  obtain ⟨yb, hyb⟩ : ∃ yb, yb = w1.heap.size := ⟨_, rfl⟩
  obtain ⟨rb, hrb⟩ : ∃ rb, rb = w2.heap.size := ⟨_, rfl⟩
  have HI : Hid (SetI w base tb mb ob B P cO kb kf m cnt nb xb yb rb (b : Int) (p : Int) m0 m1 m2 m3 m4 m5 w3) := by
    refine ⟨HT.out.1.below b03, ?_, ?_, ?_, Tn.below b03⟩
    · rw [hxb]; exact (b13.block _ (lt_of_block J1)).trans J1
    · rw [hyb]; exact (b3.block _ (lt_of_block J2)).trans J2
    · rw [hrb]; exact J3
  have HXY : Hid (w.heap.size ≤ xb ∧ w.heap.size ≤ yb ∧ w.heap.size ≤ rb) := ⟨by omega, by omega, by omega⟩
  rw [← hxb, ← hyb, ← hrb]
  clear J1 J2 J3 b1 b2 b3 b13 b03 hs1 hs2 hxb hyb hrb
  have HBW : Hid (Below w.heap.size w w3) := HB03.out
  obtain ⟨_, _, _, r3, t3⟩ := HI.out
  obtain ⟨r0, r1, rf⟩ := pl_cells r3
  have f0 := rf 0
  have f1 := rf 1
  have q0 : w3.cell? ⟨2, 0, none⟩ = some (errOf y) := (HY.out.below HBW.out).1
  have hR : ((w3.setCell ⟨rb, 0, none⟩ (.int .i64 0)).setCell ⟨rb, 1, none⟩ (.int .i64 0)).drew.heap[rb]? = some (.cells #[.int .i64 0, .int .i64 0] 24 (0, 0)) := heap_setCell_same _ _ 1 _ _ _ (heap_setCell_same _ _ 0 _ _ _ r3)
  have oR : Only rb w3 ((w3.setCell ⟨rb, 0, none⟩ (.int .i64 0)).setCell ⟨rb, 1, none⟩ (.int .i64 0)).drew := ((Only.setCell w3 ⟨rb, 0, none⟩ _).trans (Only.setCell _ ⟨rb, 1, none⟩ _)).drew
  have HF : Hid (Below w.heap.size w ((w3.setCell ⟨rb, 0, none⟩ (.int .i64 0)).setCell ⟨rb, 1, none⟩ (.int .i64 0)).drew) := HBW.out.trans (oR.below HXY.out.2.2)
  have q1 : ((w3.setCell ⟨rb, 0, none⟩ (.int .i64 0)).setCell ⟨rb, 1, none⟩ (.int .i64 0)).cell? ⟨2, 0, none⟩ = some (errOf y) := (cell_heapT (((Only.setCell w3 ⟨rb, 0, none⟩ _).trans (Only.setCell _ ⟨rb, 1, none⟩ _)).block _ (by have hlt : 2 < w.heap.size := World.block_lt_of_cell? w _ HY.out.1; have := HXY.out.2.2; show 2 ≠ rb; omega))).trans q0
  have HR := Lib.hid hR
  clear r3 rf hR oR t3 HI
  by_cases hk0 : key < 0
  · have z0 : decide (key < 0) = true := decide_eq_true hk0
    go_upto_region 2 with (fail)
    go_region
    all_goals
      go_wp2_with fail
      obtain ⟨s0, s1, _⟩ := pl_cells HR.out
      have hF := HF.out
      generalize ((w3.setCell ⟨rb, 0, none⟩ (.int .i64 0)).setCell ⟨rb, 1, none⟩ (.int .i64 0)).drew = w12 at s0 s1 hF ⊢
      exact bodyPost_ret (v := .tuple #[.agg #[.int .i64 0, .int .i64 0], .bool false, errOf y]) (by simp [results, Tryd.results10, go_sem, s0, s1]) rfl ⟨rfl, hF⟩
  · have z0 : decide (key < 0) = false := decide_eq_false hk0
    have z1 : decide ((1073741824 : Int) < key) = true := decide_eq_true (by have := HT.out.2; omega)
    go_upto_region 2 with (fail)
    go_region
    all_goals
      go_wp2_with fail
      obtain ⟨s0, s1, _⟩ := pl_cells HR.out
      have hF := HF.out
      generalize ((w3.setCell ⟨rb, 0, none⟩ (.int .i64 0)).setCell ⟨rb, 1, none⟩ (.int .i64 0)).drew = w12 at s0 s1 hF ⊢
      exact bodyPost_ret (v := .tuple #[.agg #[.int .i64 0, .int .i64 0], .bool false, errOf y]) (by simp [results, Tryd.results10, go_sem, s0, s1]) rfl ⟨rfl, hF⟩
end
end Go.Proofs.YtpbckjagiebmjaaDoor.Tb
/- slices.Repeat of one number. By the verifier of shale. -/
namespace Go.Proofs.YtpbckjagiebmjaaDoor.Tb
open Go Go.RowKit
set_option linter.unusedVariables false
set_option linter.unusedSimpArgs false
theorem andM (n : Nat) (h : n ≤ 1000) : bits .and .u64 (n : Int) 4294967295 = (n : Int) := by
  show IntKind.u64.wrap ((BitVec.ofInt 64 (n : Int) &&& BitVec.ofInt 64 4294967295).toNat : Int) = _
  rw [BitVec.toNat_and, show (BitVec.ofInt 64 4294967295).toNat = 2 ^ 32 - 1 by decide, Nat.and_two_pow_sub_one_eq_mod, BitVec.toNat_ofInt]
  rw [show ((((n : Int) % ((2 ^ 64 : Nat) : Int)).toNat % 2 ^ 32 : Nat) : Int) = (n : Int) by omega]
  simp [IntKind.wrap, IntKind.bits, IntKind.signed]
  omega
set_option maxHeartbeats 1000000 in
theorem mul64_any (n : Nat) (h : n ≤ 1000) (w : World) : Calls Tryd.prog 46 #[.int .u64 1, .int .u64 (n : Int)] w fun e w' => e = .returned (.tuple #[.int .u64 0, .int .u64 (n : Int)]) ∧ w = w' := by
  have ba := andM n h
  have bb : bits .and .u64 1 4294967295 = 1 := by decide
  have b0 : bits .and .u64 0 4294967295 = 0 := by decide
  have d0 : (n : Int) / 4294967296 = 0 := by omega
  have hn0 : (0 : Int) ≤ (n : Int) := by omega
  go_enter Tryd.func46, Tryd.ntmps46
  go_wp2_with fail
  go_ret2
  exact ⟨rfl, rfl⟩
set_option maxHeartbeats 1000000 in
theorem mul_any (n : Nat) (h : n ≤ 1000) (w : World) : Calls Tryd.prog 40 #[.int .u64 1, .int .u64 (n : Int)] w fun e w' => e = .returned (.tuple #[.int .u64 0, .int .u64 (n : Int)]) ∧ w = w' := by
  go_enter Tryd.func40, Tryd.ntmps40
  go_wp2_with fail
  refine (mul64_any n h w).mono ?_
  rintro e w' ⟨rfl, rfl⟩
  go_wp2_with fail
  go_ret2
  exact ⟨rfl, rfl⟩
/-- k times the number, and zeros behind. -/
def repL (P k : Nat) (v : Int) : List Int := List.replicate k v ++ List.replicate (P - k) 0
theorem repL_len {P k : Nat} {v : Int} (h : k ≤ P) : (repL P k v).length = P := by unfold repL; simp; omega
theorem repL_full (P : Nat) (v : Int) : repL P P v = List.replicate P v := by unfold repL; simp
theorem repL_nth {P k i : Nat} {v : Int} (hi : i < k) : nth64 (repL P k v) i = v := by
  unfold nth64 repL
  rw [List.getD_eq_getElem?_getD, List.getElem?_append_left (by simpa using hi)]
  simp [hi]
theorem repL_splice {P k c : Nat} {v : Int} (h : k + c ≤ P) : splice (cells64 (repL P k v)) k (List.replicate c (Value.int .i64 v)) = cells64 (repL P (k + c) v) := by
  unfold splice cells64 repL
  simp only [List.map_append, List.map_replicate, List.length_replicate]
  rw [List.take_append_of_le_length (by simp), List.take_of_length_le (by simp)]
  rw [List.drop_append, List.drop_of_length_le (by simp)]
  simp only [List.length_replicate, List.nil_append, List.drop_replicate]
  rw [← List.append_assoc, List.replicate_append_replicate]
  congr 2
  omega
theorem size64 : (Tryd.prog.info? 3).map (·.size) = some 1 := by kernel_rfl
set_option maxRecDepth 100000 in
set_option maxHeartbeats 2000000 in
theorem repeat_any {g0 c0 P : Nat} {v : Int} (hP : 0 < P) (hP64 : P ≤ 64) (w : World) (h0 : w.cell? ⟨g0, 0, none⟩ = some (.int .i64 v)) :
    Calls Tryd.prog 25 #[.slice (some ⟨g0, 0, none⟩) 1 c0, .int .i64 (P : Int)] w fun e w' => e = .returned (.slice (some ⟨w.heap.size, 0, none⟩) P P) ∧ Blk64 w' w.heap.size (List.replicate P v) ∧ Below w.heap.size w w' := by
  have hg0 := World.block_lt_of_cell? w _ h0
  have t0 : decide ((P : Int) < 0) = false := decide_eq_false (by omega)
  have hmk := made64 w P (by omega)
  obtain ⟨O0, hO0⟩ : ∃ O, O = obj64 (List.replicate P 0) := ⟨_, rfl⟩
  have HW0 : Hid (Blk64 (w.alloc (obj64 (List.replicate P 0))) w.heap.size (repL P 0 v) ∧ Below w.heap.size w (w.alloc (obj64 (List.replicate P 0)))) := ⟨by have := Blk64.new w (List.replicate P 0); unfold repL; simpa using this, (Below.refl _ _).alloc (Nat.le_refl _) _⟩
  rw [← hO0] at hmk HW0
  have H0 := Lib.hid (And.intro h0 hg0)
  have hwp1 : IntKind.u64.wrap (P : Int) = (P : Int) := by simp [IntKind.wrap, IntKind.bits, IntKind.signed]; omega
  have hwp2 : IntKind.i64.wrap (P : Int) = (P : Int) := IntWalk.i64_in _ (by omega)
  have z1 : decide ((9223372036854775807 : Int) < (P : Int)) = false := decide_eq_false (by omega)
  clear h0 hg0 hO0
  go_enter Tryd.func25, Tryd.ntmps25
  go_wp2_with fail
  refine (mul_any P (by omega) w).mono ?_
  rintro e w' ⟨rfl, rfl⟩
  go_upto_region 7 with (fail)
  generalize w.alloc O0 = w1 at HW0 ⊢
  clear hmk
  obtain ⟨gb, hgb⟩ : ∃ gb, gb = w.heap.size := ⟨_, rfl⟩
  have HGB := Lib.hid hgb
  rw [← hgb] at HW0 ⊢
  clear hgb
  have hsrc : w1.cell? ⟨g0, 0, none⟩ = some (.int .i64 v) := (HW0.out.2.cell (p := ⟨g0, 0, none⟩) (by rw [HGB.out]; exact H0.out.2)).trans H0.out.1
  have HSRC := Lib.hid hsrc
  clear hsrc
  have HC : Hid (w1.heap[gb]? = some (.cells (cells64 (repL P 0 v)).toArray 3 (0, 0))) := HW0.out.1
  have HCL : Hid ((cells64 (repL P 0 v)).length = P) := by show _ = _; rw [cells64_length, repL_len (by omega)]
  go_wp2_with ((with_reducible show wpList _ _ _ _ _ _); refine wpList_copy_splice (o := ⟨some 33, _, _, _, _, _⟩) rfl (.tmp 31) (.tmp 32) 73 73 rfl 3 Tryd.underlying73 size64 (some ⟨gb, 0, none⟩) (some ⟨g0, 0, none⟩) P P 1 c0 rfl rfl gb 0 (cells64 (repL P 0 v)) 3 HC.out [.int .i64 v] (by show 1 = Nat.min 1 P; exact (Nat.min_eq_left hP).symm) (fun _ => ⟨rfl, _, rfl, fun j u hj => by
      match j, hj with
      | 0, hj => cases hj; exact HSRC.out⟩) (by rw [HCL.out]; show 0 + 1 ≤ P; omega) (by intro u hu; rw [List.mem_singleton.1 hu]; rfl) gb w HW0.out.2 (Nat.le_refl _) ?_; intro w2 hw2 hb2)
  have HL : Hid (Blk64 w2 gb (repL P 1 v) ∧ Below gb w w2) := ⟨by
    have h : w2.heap[gb]? = _ := hw2.out
    have h2 := repL_splice (P := P) (k := 0) (c := 1) (v := v) (by omega)
    rw [show List.replicate 1 (Value.int .i64 v) = [Value.int .i64 v] from rfl] at h2
    rw [h2] at h
    exact h, hb2⟩
  clear hw2 hb2 HC HCL HSRC HW0 z1 hwp1 t0
  go_loopg [8] P (fun gh s8 wx => ∃ k : Nat, gh = P + 1 - k ∧ 1 ≤ k ∧ k ≤ P ∧ s8 = .int .i64 (k : Int) ∧ Hid (Blk64 wx gb (repL P k v) ∧ Below gb w wx))
  case atStart => exact ⟨1, by omega, Nat.le_refl _, hP, rfl, HL⟩
  case round =>
    clear HL
    obtain ⟨k, hg, hk1, hk, rfl, HX⟩ := hrel
    have HI := Lib.hid hg
    clear hg
    by_cases hlt : k < P
    · have x1 : (k : Int) < (P : Int) := by omega
      have x0 : (0 : Int) ≤ (k : Int) := by omega
      have x2 : ¬ P = k := by omega
      have x3 : (k : Int) ≤ (P : Int) := by omega
      have x4 : ((k : Int)).toNat = k := by omega
      go_upto_region 9 with (fail)
      have HX2 : Hid (Blk64 wr.drew gb (repL P k v) ∧ Below gb w wr.drew) := ⟨HX.out.1, HX.out.2.drew⟩
      have hcp : ∃ (c : Nat) (w4 : World), k + c ≤ P ∧ 1 ≤ c ∧ (Builtin.copy_ #[73, 73] 3 #[.slice (some ⟨gb, k, none⟩) (P - k) (P - k), .slice (some ⟨gb, 0, none⟩) k P]).run Tryd.prog wr.drew = .ok (.int .i64 (c : Int)) w4 ∧ Blk64 w4 gb (repL P (k + c) v) ∧ Below gb w w4 := by
        obtain ⟨c, hc⟩ : ∃ c, c = Nat.min k (P - k) := ⟨_, rfl⟩
        have h1 : c ≤ k := by rw [hc]; exact Nat.min_le_left k (P - k)
        have h2 : c ≤ P - k := by rw [hc]; exact Nat.min_le_right k (P - k)
        have h3 : 1 ≤ c := by rw [hc]; exact Nat.le_min.2 ⟨hk1, by omega⟩
        have hrun := run_copy_row (P := Tryd.prog) wr.drew 73 73 3 3 gb k (P - k) (P - k) ⟨gb, 0, none⟩ k P (cells64 (repL P k v)).toArray 3 (List.replicate c (Value.int .i64 v)) Tryd.underlying73 size64 HX2.out.1 (by rw [List.length_replicate, hc]) (fun j u hj => by
          have hj2 : j < c := by have := (List.getElem?_eq_some_iff.1 hj).1; rwa [List.length_replicate] at this
          have hadd : (⟨gb, 0, none⟩ : Addr).add j = ⟨gb, j, none⟩ := by by_cases h : j = 0 <;> simp [Addr.add, h]
          rw [hadd]
          have h4 := HX2.out.1.cell (i := j) (by rw [repL_len (by omega)]; omega)
          rw [repL_nth (by omega)] at h4
          rw [h4]
          rw [List.getElem?_replicate] at hj
          simp only [hj2, if_true] at hj
          exact hj) (by rw [List.length_replicate]; simp [cells64_length, repL_len hk]; omega) (fun u hu => by rw [(List.mem_replicate.1 hu).2]; rfl)
        have hsp := repL_splice (P := P) (k := k) (c := c) (v := v) (by omega)
        rw [List.length_replicate] at hrun
        refine ⟨c, _, by omega, h3, hrun, ?_, below_setRow HX2.out.2 (Nat.le_refl _) _⟩
        have h5 := setRow_heap wr.drew gb _ ((cells64 (repL P k v)).toArray.toList.take k ++ List.replicate c (Value.int .i64 v) ++ (cells64 (repL P k v)).toArray.toList.drop (k + c)).toArray 3 _ HX2.out.1
        have h6 : (cells64 (repL P k v)).toArray.toList.take k ++ List.replicate c (Value.int .i64 v) ++ (cells64 (repL P k v)).toArray.toList.drop (k + c) = cells64 (repL P (k + c) v) := by
          rw [← hsp]
          simp [splice]
        rw [h6] at h5
        rw [h6]
        exact h5
      obtain ⟨c, w4, hc1, hc2, hrun, hb4, hw4⟩ := hcp
      have HN : Hid (Blk64 w4 gb (repL P (k + c) v) ∧ Below gb w w4) := ⟨hb4, hw4⟩
      have HC1 := Lib.hid hc1
      clear hb4 hw4 HX2 HX
      go_region
      all_goals
        go_wp2_with fail
        go_roundg (P + 1 - (k + c))
        case measure => have := HI.out; have := HC1.out; omega
        case rel => exact ⟨k + c, rfl, by omega, HC1.out, by go_num, HN⟩
    · obtain rfl : k = P := by omega
      go_wp2_with fail
      go_ret
      exact ⟨by rw [HGB.out]; rfl, by rw [HGB.out] at HX; have h := HX.out.1; rw [repL_full] at h; exact h, by have h := HX.out.2; rw [HGB.out] at h; exact h⟩
end Go.Proofs.YtpbckjagiebmjaaDoor.Tb
/- A table made anew. By the verifier of shale. -/
namespace Go.Proofs.YtpbckjagiebmjaaDoor.Tb
open Go Go.RowKit
set_option linter.unusedVariables false
set_option linter.unusedSimpArgs false
theorem infoR : ∃ i, Tryd.prog.info? 73 = some i ∧ i.zero = some (.slice none 0 0) ∧ i.size = 1 ∧ i.bytes = 24 :=
  info_parts (show (Tryd.prog.info? 73).map (fun i => (i.zero, i.size, i.bytes)) = some (some (.slice none 0 0), 1, 24) by kernel_rfl)
def rowsV (kb : Nat → Nat) (P i : Nat) : List Value := (List.range i).map fun b => .slice (some ⟨kb b, 0, none⟩) P P
theorem rowsV_succ (kb : Nat → Nat) (P i : Nat) : rowsV kb P (i + 1) = rowsV kb P i ++ [.slice (some ⟨kb i, 0, none⟩) P P] := by unfold rowsV; rw [List.range_succ, List.map_append]; rfl
theorem rowsV_more (kb : Nat → Nat) (P i g : Nat) : rowsV (fun b => if b = i then g else kb b) P i = rowsV kb P i := by
  unfold rowsV
  apply List.map_congr_left
  intro b hb
  have := List.mem_range.1 hb
  dsimp only
  rw [if_neg (by omega)]
/-- the table so far. -/
structure NewI (w : World) (tb mb P i : Nat) (v : Value) (kb : Nat → Nat) (wx : World) : Prop where
  blk : wx.heap[tb]? = some (.cells #[.map (some mb), v] 72 (0, 0))
  map : wx.heap[mb]? = some (.map #[] 0)
  row : wx.ownsRow (tb + 1) 73 1 v i (rowsV kb P i)
  rows : ∀ b, b < i → Blk64 wx (kb b) (List.replicate P (-1)) ∧ tb < kb b ∧ v.ownBlock ≠ some (kb b)
  inj : ∀ a b, a < i → b < i → kb a = kb b → a = b
  wx : Below w.heap.size w wx
/-- what the region of a round wants to know. -/
structure RoundT (tb P i gL gR : Nat) (v : Value) (kb : Nat → Nat) (w5 : World) : Prop where
  c5 : w5.cell? ⟨tb, 1, none⟩ = some v
  c6 : (w5.alloc (.cells #[.slice (some ⟨gR, 0, none⟩) P P] 73 (0, 0))).cell? ⟨tb, 1, none⟩ = some v
  own : (w5.alloc (.cells #[.slice (some ⟨gR, 0, none⟩) P P] 73 (0, 0))).ownsRow (tb + 1) 73 1 v i (rowsV kb P i)
  news : ∀ j u, [Value.slice (some ⟨gR, 0, none⟩) P P][j]? = some u → (w5.alloc (.cells #[.slice (some ⟨gR, 0, none⟩) P P] 73 (0, 0))).cell? ((⟨w5.heap.size, 0, none⟩ : Addr).add j) = some u
  base : tb + 1 ≤ (w5.alloc (.cells #[.slice (some ⟨gR, 0, none⟩) P P] 73 (0, 0))).heap.size
  q3 : ∀ w9, (w5.alloc (.cells #[.slice (some ⟨gR, 0, none⟩) P P] 73 (0, 0))).grownBy w9 v.ownBlock → w9.cell? ⟨tb, 1, none⟩ = some v ∧ w9.frozen? ⟨tb, 1, none⟩ = false
theorem newI_round {w wr w5 : World} {tb mb P i gL : Nat} {v : Value} {kb : Nat → Nat} (h : NewI w tb mb P i v kb wr) (b5 : Below wr.heap.size wr w5) (gR : Nat) : RoundT tb P i gL gR v kb w5 := by
  have ht := lt_of_block h.blk
  have hvt : v.ownBlock ≠ some tb := fun e => by have := (h.row.lt tb e).1; omega
  have e5 := (b5.block tb ht).trans h.blk
  have e6 : (w5.alloc (.cells #[.slice (some ⟨gR, 0, none⟩) P P] 73 (0, 0))).heap[tb]? = _ := (Below.heap_alloc w5 _ _ (lt_of_block e5)).trans e5
  refine ⟨(pl_cells e5).2.1, (pl_cells e6).2.1, ?_, World.news_of_block (cs := #[.slice (some ⟨gR, 0, none⟩) P P]) (fr := (0, 0)) (t := 73) (heap_alloc_new w5 _), ?_, fun w9 hg => ?_⟩
  · refine World.ownsRow.alloc ?_ _
    refine ⟨h.row.1, ?_⟩
    rcases h.row.2 with h0 | ⟨g', cap', cur, hv, hbg, hh, r⟩
    · exact .inl h0
    · exact .inr ⟨g', cap', cur, hv, hbg, (b5.block g' (lt_of_block hh)).trans hh, r⟩
  · rw [World.size_alloc]; have := b5.size; omega
  · have e9 := (hg.block tb (lt_of_block e6) (Ne.symm hvt)).trans e6
    exact ⟨(pl_cells e9).2.1, (pl_cells e9).2.2 1⟩
theorem newI_next {w wr w5 w9 : World} {tb mb P i gR g1 cap1 : Nat} {v : Value} {kb : Nat → Nat} (h : NewI w tb mb P i v kb wr) (hm : mb < tb) (b5 : Below wr.heap.size wr w5) (hgR : wr.heap.size ≤ gR) (hR : Blk64 w5 gR (List.replicate P (-1)))
    (hown : w9.ownsRow (tb + 1) 73 1 (.slice (some ⟨g1, 0, none⟩) (i + 1) cap1) (i + 1) (rowsV kb P i ++ [.slice (some ⟨gR, 0, none⟩) P P])) (hg : (w5.alloc (.cells #[.slice (some ⟨gR, 0, none⟩) P P] 73 (0, 0))).grownBy w9 v.ownBlock) (hor : v.ownBlock = some g1 ∨ g1 = w5.heap.size + 1) (hw : w.heap.size ≤ mb) :
    NewI w tb mb P (i + 1) (.slice (some ⟨g1, 0, none⟩) (i + 1) cap1) (fun b => if b = i then gR else kb b) (w9.setCell ⟨tb, 1, none⟩ (.slice (some ⟨g1, 0, none⟩) (i + 1) cap1)) := by
  have ht := lt_of_block h.blk
  have hvt : v.ownBlock ≠ some tb := fun e => by have := (h.row.lt tb e).1; omega
  have h5 := b5.size
  have hRl := lt_of_block hR
  have hvl : ∀ z, v.ownBlock = some z → tb < z ∧ z < wr.heap.size := fun z hz => by have := h.row.lt z hz; omega
  have hg1 := hown.lt g1 rfl
  have hal : ∀ z, z < w5.heap.size → v.ownBlock ≠ some z → w9.heap[z]? = w5.heap[z]? := fun z hz hn => (hg.block z (by rw [World.size_alloc]; omega) (Ne.symm hn)).trans (Below.heap_alloc w5 _ _ hz)
  have o := Only.setCell w9 ⟨tb, 1, none⟩ (.slice (some ⟨g1, 0, none⟩) (i + 1) cap1)
  have old : ∀ z, z < wr.heap.size → v.ownBlock ≠ some z → w9.heap[z]? = wr.heap[z]? := fun z hz hn => (hal z (by omega) hn).trans (b5.block z hz)
  refine ⟨heap_setCell_same _ _ 1 _ _ _ ((old tb ht hvt).trans h.blk), ?_, ?_, fun b hb => ?_, fun a b ha hb e => ?_, ?_⟩
  · have hml := lt_of_block h.map
    exact (o.block mb (by show mb ≠ tb; omega)).trans ((old mb hml (fun e => by have := hvl mb e; omega)).trans h.map)
  · rw [rowsV_succ, rowsV_more]
    simp only [if_true]
    refine ⟨hown.1, ?_⟩
    rcases hown.2 with h0 | ⟨g', cap', cur, hv, hbg, hh, r⟩
    · exact .inl h0
    · refine .inr ⟨g', cap', cur, hv, hbg, (o.block g' ?_).trans hh, r⟩
      show g' ≠ tb
      omega
  · by_cases e : b = i
    · rw [if_pos e]
      refine ⟨(o.block gR (by show gR ≠ tb; omega)).trans ((hal gR hRl (fun e' => by have := hvl gR e'; omega)).trans hR), by omega, fun e' => ?_⟩
      have e2 : g1 = gR := Option.some.inj e'
      rcases hor with hor | hor
      · have := hvl g1 hor; omega
      · omega
    · rw [if_neg e]
      obtain ⟨r1, r2, r3⟩ := h.rows b (by omega)
      have hl := lt_of_block r1
      refine ⟨(o.block (kb b) (by show kb b ≠ tb; omega)).trans ((old (kb b) hl r3).trans r1), r2, fun e' => ?_⟩
      have e2 : g1 = kb b := Option.some.inj e'
      rcases hor with hor | hor
      · exact r3 (by rw [hor, e2])
      · omega
  · have hlk : ∀ c, c < i → kb c < wr.heap.size := fun c hc => lt_of_block (h.rows c hc).1
    by_cases ea : a = i
    · by_cases eb : b = i
      · omega
      · simp only [if_pos ea, if_neg eb] at e
        have := hlk b (by omega); omega
    · by_cases eb : b = i
      · simp only [if_neg ea, if_pos eb] at e
        have := hlk a (by omega); omega
      · simp only [if_neg ea, if_neg eb] at e
        exact h.inj a b (by omega) (by omega) e
  · have hws := h.wx.size
    have b9 : Below w.heap.size w w9 := ⟨hg.os.trans (b5.os.trans h.wx.os), hg.tape.trans (b5.tape.trans h.wx.tape), hg.output.trans (b5.output.trans h.wx.output), by have := hg.size; rw [World.size_alloc] at this; omega, fun k hk => (old k (by omega) (fun e => by have := hvl k e; omega)).trans (h.wx.block k hk)⟩
    exact b9.setCell (by show w.heap.size ≤ tb; omega) _
end Go.Proofs.YtpbckjagiebmjaaDoor.Tb
/- The walk over a table's New. By the verifier of shale. -/
namespace Go.Proofs.YtpbckjagiebmjaaDoor.Tb
open Go Go.RowKit
set_option linter.unusedVariables false
set_option linter.unusedSimpArgs false
/-- what New makes. -/
def MadeT (w : World) (B P : Nat) (e : Ending) (w' : World) : Prop := ∃ tb mb ob cO kb, e = .returned (.tuple #[.pointer (some ⟨tb, 0, none⟩), .nilIface]) ∧ TabAt w' w.heap.size tb mb ob B P cO kb (fun _ _ => -1) (fun _ => none) 0 0 ∧ Below w.heap.size w w'
theorem made_of {w wx : World} {tb mb P B : Nat} {v : Value} {kb : Nat → Nat} (h : NewI w tb mb P B v kb wx) (hB : 0 < B) (hB64 : B ≤ 64) (hP : 0 < P) (hP64 : P ≤ 64) (hm : w.heap.size ≤ mb) (hmt : mb < tb) : ∃ ob cO, v = .slice (some ⟨ob, 0, none⟩) B cO ∧ TabAt wx w.heap.size tb mb ob B P cO kb (fun _ _ => -1) (fun _ => none) 0 0 := by
  obtain ⟨ob, cO, rfl, hob, hol⟩ := h.row.form hB
  have hcap : B ≤ cO ∧ cO ≤ maxLen := by
    rcases h.row.2 with ⟨_, h0⟩ | ⟨g, cap, cur, hv, _, _, h3, h4, _⟩
    · omega
    · cases hv; exact ⟨h3, h4⟩
  refine ⟨ob, cO, rfl, h.blk, ?_, fun b hb => ?_, fun b hb => ?_, h.inj, ⟨by omega, hm, by omega, by omega, by omega, by omega, fun b hb => ?_⟩, ⟨hB, hB64, hP, hP64, hcap⟩, (fun k s hs => by cases hs), fun b p hb hp hn => absurd rfl hn⟩
  · exact MapAt.fresh h.map
  · have hc := h.row.cells (g := ob) rfl
    have := hc b (.slice (some ⟨kb b, 0, none⟩) P P) (by unfold rowsV; simp [hb])
    have hadd : (⟨ob, 0, none⟩ : Addr).add b = ⟨ob, b, none⟩ := by by_cases h : b = 0 <;> simp [Addr.add, h]
    rwa [hadd] at this
  · have h1 := (h.rows b hb).1
    have : (List.range P).map (fun _ => (-1 : Int)) = List.replicate P (-1) := by
      apply List.ext_getElem?
      intro j
      by_cases hj : j < P
      · simp [hj]
      · simp [hj]
    show Blk64 wx (kb b) ((List.range P).map fun _ => (-1 : Int))
    rw [this]
    exact h1
  · obtain ⟨_, h2, h3⟩ := h.rows b hb
    exact ⟨by omega, by omega, by omega, fun e => h3 (by rw [e]; rfl)⟩
set_option maxRecDepth 100000 in
set_option maxHeartbeats 2000000 in
theorem new_any {B P : Nat} (hB : 0 < B) (hB64 : B ≤ 64) (hP : 0 < P) (hP64 : P ≤ 64) (w : World) : Calls Tryd.prog 7 #[.int .i64 (B : Int), .int .i64 (P : Int)] w (MadeT w B P) := by
  obtain ⟨i0, hi, hz0, hz1, hz2⟩ := infoR
  have t1 : decide ((B : Int) < 1) = false := decide_eq_false (by omega)
  have t2 : decide ((64 : Int) < (B : Int)) = false := decide_eq_false (by omega)
  have t3 : decide ((P : Int) < 1) = false := decide_eq_false (by omega)
  have t4 : decide ((64 : Int) < (P : Int)) = false := decide_eq_false (by omega)
  have HBP := Lib.hid (And.intro hB (And.intro hB64 (And.intro hP hP64)))
  have hmk : (Instr.makeMap 69 none).run Tryd.prog w = .ok (.map (some w.heap.size)) (w.alloc (.map #[] 0)) := run_makeMap _ _
  go_enter Tryd.func7, Tryd.ntmps7
  go_upto_region 4 with (fail)
  clear t1 t2 t3 t4 hmk
  generalize hw : w.alloc (.map #[] 0) = w1
  have hs1 : w1.heap.size = w.heap.size + 1 := by rw [← hw]; simp
  have K1 : w1.heap[w.heap.size]? = some (.map #[] 0) := by rw [← hw]; exact heap_alloc_new w _
  have b1 : Below w.heap.size w w1 := by rw [← hw]; exact (Below.refl _ _).alloc (Nat.le_refl _) _
  clear hw
  rw [← hs1]
  generalize hw : w1.alloc (.cells #[.map (some w.heap.size), .slice none 0 0] 72 (0, 0)) = w2
  have K2 : w2.heap[w1.heap.size]? = some (.cells #[.map (some w.heap.size), .slice none 0 0] 72 (0, 0)) := by rw [← hw]; exact heap_alloc_new w1 _
  have b2 : Below w1.heap.size w1 w2 := by rw [← hw]; exact (Below.refl _ _).alloc (Nat.le_refl _) _
  clear hw
  obtain ⟨mb, hmb⟩ : ∃ mb, mb = w.heap.size := ⟨_, rfl⟩
  obtain ⟨tb, htb⟩ : ∃ tb, tb = w1.heap.size := ⟨_, rfl⟩
  rw [← hmb] at K1 K2 ⊢
  rw [← htb] at K2 ⊢
  have HMT : Hid (w.heap.size ≤ mb ∧ mb < tb) := ⟨by omega, by omega⟩
  have HN0 : Hid (NewI w tb mb P 0 (.slice none 0 0) (fun _ => 0) w2) := ⟨K2, (b2.block mb (lt_of_block K1)).trans K1, World.ownsRow_nil _ _ _ _, fun b hb => absurd hb (Nat.not_lt_zero b), fun a b ha => absurd ha (Nat.not_lt_zero a), b1.trans (b2.mono b1.size)⟩
  clear K1 K2 b1 b2 hs1 hmb htb
  go_wp2_with fail
  go_loopg [26] B (fun gh s26 wx => ∃ i : Nat, gh = B - i ∧ i ≤ B ∧ s26 = .int .i64 (i : Int) ∧ ∃ v kb, Hid (NewI w tb mb P i v kb wx))
  case atStart => exact ⟨0, rfl, Nat.zero_le _, rfl, _, _, HN0⟩
  case round =>
    clear HN0
    obtain ⟨i, hg, hk, rfl, v, kb, HX⟩ := hrel
    have HI := Lib.hid hg
    clear hg
    by_cases hlt : i < B
    · have x1 : (i : Int) < (B : Int) := by omega
      have x0 : (0 : Int) ≤ (i : Int) := by omega
      go_upto_region 6 with (fail)
      have c1 : wr.drew.cell? ⟨tb, 1, none⟩ = some v := (pl_cells HX.out.blk).2.1
      have htl := lt_of_block HX.out.blk
      have c1' : wr.cell? ⟨tb, 1, none⟩ = some v := c1
      have c2 : ((wr.alloc (.cells #[.int .i64 (-1)] 3 (0, 0))).drew).cell? ⟨tb, 1, none⟩ = some v := (cell_heapT (Below.heap_alloc wr _ _ htl)).trans c1
      have c2' : (wr.alloc (.cells #[.int .i64 (-1)] 3 (0, 0))).cell? ⟨tb, 1, none⟩ = some v := c2
      have hb0 : Below wr.heap.size wr ((wr.alloc (.cells #[.int .i64 (-1)] 3 (0, 0))).drew) := Below.drew ((Below.refl _ _).alloc (Nat.le_refl _) _)
      have hsz : ((wr.alloc (.cells #[.int .i64 (-1)] 3 (0, 0))).drew).heap.size = wr.heap.size + 1 := World.size_alloc _ _
      have h0 : ((wr.alloc (.cells #[.int .i64 (-1)] 3 (0, 0))).drew).cell? ⟨wr.heap.size, 0, none⟩ = some (.int .i64 (-1)) := by
        have h := cell_one_new wr (.int .i64 (-1)) 3 0 _ rfl
        rwa [show (⟨wr.heap.size, 0, none⟩ : Addr).add 0 = ⟨wr.heap.size, 0, none⟩ by simp [Addr.add]] at h
      have HRep : Hid (Calls Tryd.prog 25 #[.slice (some ⟨wr.heap.size, 0, none⟩) 1 1, .int .i64 (P : Int)] ((wr.alloc (.cells #[.int .i64 (-1)] 3 (0, 0))).drew) fun e w' => e = .returned (.slice (some ⟨wr.heap.size + 1, 0, none⟩) P P) ∧ Blk64 w' (wr.heap.size + 1) (List.replicate P (-1)) ∧ Below wr.heap.size wr w') := by
        have h := repeat_any (c0 := 1) HBP.out.2.2.1 HBP.out.2.2.2 _ h0
        rw [hsz] at h
        refine h.mono ?_
        rintro e w' ⟨rfl, r1, r2⟩
        exact ⟨rfl, r1, hb0.trans (r2.mono (by omega))⟩
      have HRT : Hid (∀ w5, Below wr.heap.size wr w5 → RoundT tb P i 0 (wr.heap.size + 1) v kb w5) := fun w5 b5 => newI_round HX.out b5 _
      have HIP := Lib.hid (And.intro hlt hk)
      have hi64 : i ≤ 64 := by have := HBP.out.2.1; omega
      clear htl hb0 hsz h0
      go_region_law (first
        | (go_simp; go_at_call 25; refine Calls.mono HRep.out ?_; rintro e w5 ⟨rfl, hR5, b5⟩; have r5 := Lib.hid (HRT.out w5 b5); have c5 := r5.out.c5; have c6 := r5.out.c6)
        | (refine step_append_lies _ (by rfl) _ _ _ (by rfl) (tb + 1) 73 i0 (.slice none 0 0) 1 24 Tryd.underlying70 hi hz0 hz1 hz2 rfl (by decide) v i (rowsV kb P i) (by rfl) r5.out.own ⟨w5.heap.size, 0, none⟩ 1 1 [.slice (some ⟨wr.heap.size + 1, 0, none⟩) P P] (by rfl) rfl r5.out.news (by intro u hu; rw [List.mem_singleton.1 hu]; rfl) (by decide) (by unfold maxLen; omega) (by omega) r5.out.base (w5.heap.size + 1) (by simp) ?_; intro g1 cap1 w9 hown9 hg9 hor9 hlt9; have q3 := (r5.out.q3 w9 hg9).1; have q4 := (r5.out.q3 w9 hg9).2))
      all_goals
        have HN : Hid (NewI w tb mb P (i + 1) (.slice (some ⟨g1, 0, none⟩) (i + 1) cap1) (fun b => if b = i then wr.heap.size + 1 else kb b) (w9.setCell ⟨tb, 1, none⟩ (.slice (some ⟨g1, 0, none⟩) (i + 1) cap1))) := newI_next HX.out HMT.out.2 b5 (Nat.le_succ _) hR5 hown9 hg9 hor9 HMT.out.1
        clear hown9 hg9 hor9 hlt9 q3 q4 r5 c5 c6 hR5 b5 c1 c2 c1' c2' HRep HRT
        go_wp2_with fail
        go_roundg (B - (i + 1))
        case measure => have := HI.out; have := HIP.out; omega
        case rel => exact ⟨i + 1, rfl, HIP.out.1, by go_num, _, _, HN⟩
    · obtain rfl : i = B := by omega
      go_wp2_with fail
      go_ret2
      obtain ⟨ob, cO, rfl, T⟩ := made_of HX.out HBP.out.1 HBP.out.2.1 HBP.out.2.2.1 HBP.out.2.2.2 HMT.out.1 HMT.out.2
      exact ⟨tb, mb, ob, cO, kb, rfl, T, HX.out.wx⟩
end Go.Proofs.YtpbckjagiebmjaaDoor.Tb
/- The examples of chapter 20, as the statements ask them first of all. By the verifier of shale. -/
namespace Go.Proofs.YtpbckjagiebmjaaDoor.Tb
open Go Go.RowKit
set_option linter.unusedVariables false
set_option linter.unusedSimpArgs false
theorem SetAt.bel {w w' : World} {base tb mb ob B P cO : Nat} {kb : Nat → Nat} {kf kf' : Nat → Nat → Int} {m m' : Int → Option Sl} {cnt nb cnt' nb' : Nat} (T : TabAt w base tb mb ob B P cO kb kf m cnt nb) (h : SetAt w base tb mb ob B P cO kb kf' m' cnt' nb' w') : Below base w w' := by
  refine { os := h.2.os, tape := h.2.tape, output := h.2.output, size := h.2.size, block := fun k hk => h.2.same k (by have := T.lt; have := T.apart.1; omega) fun hm => ?_ }
  rcases List.mem_cons.1 hm with rfl | hm
  · have := T.apart.2.1; omega
  · obtain ⟨c, hc, rfl⟩ := List.mem_map.1 hm
    have := (T.apart.2.2.2.2.2.2 c (List.mem_range.1 hc)).1
    omega
theorem belB {w X Y : World} {base : Nat} (hbase : base = w.heap.size) (B : Below base w X) (b : Below X.heap.size X Y) : Below base w Y := B.trans (b.mono (by rw [hbase]; exact B.size))
abbrev kf0 : Nat → Nat → Int := fun _ _ => -1
abbrev m0 : Int → Option Sl := fun _ => none
abbrev kf1 : Nat → Nat → Int := kfS kf0 0 1 5
abbrev s1 : Sl := ⟨5, 0, 1, 0, 0, 0, 0, 0, 0⟩
abbrev m1 : Int → Option Sl := mS m0 5 s1
abbrev kf2 : Nat → Nat → Int := kfS (kfD kf1 0 1) 1 1 5
abbrev s2 : Sl := ⟨5, 1, 1, 0, 0, 0, 0, 0, 0⟩
abbrev m2 : Int → Option Sl := mS (mD m1 5) 5 s2
abbrev meZ : Value := .agg #[.int .i64 0, .int .i64 0, .int .i64 0, .int .i64 0, .int .i64 0, .int .i64 0]
set_option maxRecDepth 100000 in
set_option maxHeartbeats 4000000 in
theorem first20_any (w : World) {yo yn : Addr} (EO : ErrAt w 1 yo) (EN : ErrAt w 2 yn) :
    Calls Tryd.prog 6 #[] w fun e w' => e = .returned (.bool true) ∧ Below w.heap.size w w' := by
  obtain ⟨base, hbase⟩ : ∃ base, base = w.heap.size := ⟨_, rfl⟩
  have HBS := Lib.hid hbase
  have HE : Hid (∀ W, Below base w W → ErrAt W 1 yo ∧ ErrAt W 2 yn) := fun W b => by rw [hbase] at b; exact ⟨EO.below b, EN.below b⟩
  have HNew : Hid (Calls Tryd.prog 7 #[.int .i64 4, .int .i64 8] w (MadeT w 4 8)) := new_any (B := 4) (P := 8) (by decide) (by decide) (by decide) (by decide) w
  rw [← hbase]
  clear EO EN hbase
  go_enter Tryd.func6, Tryd.ntmps6
  go_wp2_with fail
  refine HNew.out.mono ?_
  rintro e w1 ⟨tb, mb, ob, cO, kb, rfl, T1, b1⟩
  rw [← HBS.out] at T1 b1
  have HT1 := Lib.hid (And.intro T1 b1)
  have h1 : Hid (Calls Tryd.prog 10 #[.pointer (some ⟨tb, 0, none⟩), .int .i64 5, .agg #[.int .i64 0, .int .i64 1], meZ] w1 fun e w' => e = .returned (.tuple #[.agg #[.int .i64 0, .int .i64 0], .bool false, .nilIface]) ∧ SetAt w1 base tb mb ob 4 8 cO kb kf1 m1 1 1 w') := set_new (b := 0) (p := 1) T1 (by decide) (by decide) (by decide) (by decide) (by decide) 0 0 0 0 0 0 rfl rfl
  clear T1 b1 HNew
  go_wp2_with fail
  refine h1.out.mono ?_
  rintro e w2 ⟨rfl, S2⟩
  clear h1
  go_wp2_with fail
  generalize hw : w2.alloc (.cells #[.int .i64 0, .int .i64 0] 24 (0, 0)) = w3
  obtain ⟨_, b3⟩ := newPl w2 w3 0 0 hw
  clear hw
  have HT3 : Hid (TabAt w3 base tb mb ob 4 8 cO kb kf1 m1 1 1 ∧ Below base w w3) := ⟨S2.1.below b3, belB HBS.out (HT1.out.2.trans (SetAt.bel HT1.out.1 S2)) b3⟩
  obtain ⟨z3, hz3⟩ : ∃ z, z = w2.heap.size := ⟨_, rfl⟩
  rw [← hz3]
  have h2 : Hid (Calls Tryd.prog 10 #[.pointer (some ⟨tb, 0, none⟩), .int .i64 5, .agg #[.int .i64 1, .int .i64 1], meZ] w3 fun e w' => e = .returned (.tuple #[.agg #[.int .i64 0, .int .i64 1], .bool true, .nilIface]) ∧ SetAt w3 base tb mb ob 4 8 cO kb kf2 m2 1 2 w') := set_hadF (b := 1) (p := 1) (s := s1) HT3.out.1 (by decide) (by decide) (by decide) (by decide) (by decide) 0 0 0 0 0 0 (by simp [mS]) (by decide)
  clear S2 b3 hz3 HT1
  refine h2.out.mono ?_
  rintro e w4 ⟨rfl, S4⟩
  clear h2
  go_wp2_with fail
  generalize hw : w4.alloc (.cells #[.int .i64 0, .int .i64 1] 24 (0, 0)) = w5
  obtain ⟨K5, b5⟩ := newPl w4 w5 0 1 hw
  clear hw
  obtain ⟨z5, hz5⟩ : ∃ z, z = w4.heap.size := ⟨_, rfl⟩
  rw [← hz5] at K5 ⊢
  have HT5 : Hid (TabAt w5 base tb mb ob 4 8 cO kb kf2 m2 1 2 ∧ Below base w w5 ∧ w5.heap[z5]? = some (.cells #[.int .i64 0, .int .i64 1] 24 (0, 0))) := ⟨S4.1.below b5, belB HBS.out (HT3.out.2.trans (SetAt.bel HT3.out.1 S4)) b5, K5⟩
  have h3 : Hid (Calls Tryd.prog 10 #[.pointer (some ⟨tb, 0, none⟩), .int .i64 6, .agg #[.int .i64 1, .int .i64 1], meZ] w5 fun e w' => e = .returned (.tuple #[.agg #[.int .i64 0, .int .i64 0], .bool false, errOf yo]) ∧ Below w5.heap.size w5 w') := set_ord (b := 1) (p := 1) HT5.out.1 (by decide) (by decide) (by decide) (by decide) (by decide) (by decide) 0 0 0 0 0 0 (HE.out w5 HT5.out.2.1).1
  clear S4 b5 hz5 HT3 K5
  refine h3.out.mono ?_
  rintro e w6 ⟨rfl, b6⟩
  clear h3
  go_wp2_with fail
  generalize hw : w6.alloc (.cells #[.int .i64 0, .int .i64 0] 24 (0, 0)) = w7
  obtain ⟨_, b7⟩ := newPl w6 w7 0 0 hw
  clear hw
  have b57 := b6.trans (b7.mono b6.size)
  have HT7 : Hid (TabAt w7 base tb mb ob 4 8 cO kb kf2 m2 1 2 ∧ Below base w w7 ∧ w7.heap[z5]? = some (.cells #[.int .i64 0, .int .i64 1] 24 (0, 0))) := ⟨HT5.out.1.below b57, belB HBS.out HT5.out.2.1 b57, (b57.block z5 (lt_of_block HT5.out.2.2)).trans HT5.out.2.2⟩
  obtain ⟨z6, hz6⟩ : ∃ z, z = w6.heap.size := ⟨_, rfl⟩
  rw [← hz6]
  have h4 : Hid (Calls Tryd.prog 10 #[.pointer (some ⟨tb, 0, none⟩), .int .i64 6, .agg #[.int .i64 4, .int .i64 0], meZ] w7 fun e w' => e = .returned (.tuple #[.agg #[.int .i64 0, .int .i64 0], .bool false, errOf yn]) ∧ Below w7.heap.size w7 w') := set_num (b := 4) (p := 0) HT7.out.1 (by decide) (by decide) (by decide) 0 0 0 0 0 0 (HE.out w7 HT7.out.2.1).2
  clear b6 b7 b57 hz6 HT5
  refine h4.out.mono ?_
  rintro e w8 ⟨rfl, b8⟩
  clear h4
  go_wp2_with fail
  generalize hw : w8.alloc (.cells #[.int .i64 0, .int .i64 0] 24 (0, 0)) = w9
  obtain ⟨_, b9⟩ := newPl w8 w9 0 0 hw
  clear hw
  have b79 := b8.trans (b9.mono b8.size)
  have HT9 : Hid (TabAt w9 base tb mb ob 4 8 cO kb kf2 m2 1 2 ∧ Below base w w9 ∧ w9.heap[z5]? = some (.cells #[.int .i64 0, .int .i64 1] 24 (0, 0))) := ⟨HT7.out.1.below b79, belB HBS.out HT7.out.2.1 b79, (b79.block z5 (lt_of_block HT7.out.2.2)).trans HT7.out.2.2⟩
  obtain ⟨z8, hz8⟩ : ∃ z, z = w8.heap.size := ⟨_, rfl⟩
  rw [← hz8]
  have h5 : Hid (Calls Tryd.prog 15 #[.pointer (some ⟨tb, 0, none⟩), .agg #[.int .i64 0, .int .i64 1]] w9 fun e w' => e = .returned (.tuple #[.int .i64 0, .bool false]) ∧ Below w9.heap.size w9 w') := at_no (b := 0) (p := 1) HT9.out.1 (by decide) (by decide) (by decide)
  clear b8 b9 b79 hz8 HT7
  refine h5.out.mono ?_
  rintro e wA ⟨rfl, bA⟩
  clear h5
  have HTA : Hid (TabAt wA base tb mb ob 4 8 cO kb kf2 m2 1 2 ∧ Below base w wA) := ⟨HT9.out.1.below bA, belB HBS.out HT9.out.2.1 bA⟩
  have KA := (bA.block z5 (lt_of_block HT9.out.2.2)).trans HT9.out.2.2
  obtain ⟨x0, x1, _⟩ := pl_cells KA
  have q1 : wA.cell? ⟨1, 0, none⟩ = some (errOf yo) := (HE.out wA HTA.out.2).1.1
  have q2 : wA.cell? ⟨2, 0, none⟩ = some (errOf yn) := (HE.out wA HTA.out.2).2.1
  have eq1 : ∀ W, (binOp .eql 28 (errOf yo) (errOf yo)).run Tryd.prog W = .ok (.bool true) W := fun W => eql_err yo W
  have eq2 : ∀ W, (binOp .eql 28 (errOf yn) (errOf yn)).run Tryd.prog W = .ok (.bool true) W := fun W => eql_err yn W
  have HL0 : Hid (Calls Tryd.prog 19 #[.pointer (some ⟨tb, 0, none⟩), .int .i64 0] wA fun e w' => e = .returned (.int .i64 0) ∧ wA = w') := live_any (b := 0) HTA.out.1 (by decide)
  have HL1 : Hid (Calls Tryd.prog 19 #[.pointer (some ⟨tb, 0, none⟩), .int .i64 1] wA fun e w' => e = .returned (.int .i64 1) ∧ wA = w') := live_any (b := 1) HTA.out.1 (by decide)
  clear KA bA HT9
  go_wp2_with (first
    | (go_at_call 19; (with_reducible refine Calls.mono HL0.out ?_); rintro e' w' ⟨rfl, rfl⟩)
    | (go_at_call 19; (with_reducible refine Calls.mono HL1.out ?_); rintro e' w' ⟨rfl, rfl⟩))
  go_ret
  exact ⟨rfl, HTA.out.2⟩
end Go.Proofs.YtpbckjagiebmjaaDoor.Tb
/- A table that holds one key: its steps. By the verifier of shale. -/
namespace Go.Proofs.YtpbckjagiebmjaaDoor.Tb
open Go Go.RowKit
set_option linter.unusedVariables false
set_option linter.unusedSimpArgs false
/-- the table's own blocks lie below lb. -/
def Under (tb mb ob lb : Nat) (kb : Nat → Nat) : Prop := tb < lb ∧ ob < lb ∧ mb < lb ∧ ∀ b, b < 8 → kb b < lb
theorem Under.not {tb mb ob lb : Nat} {kb : Nat → Nat} (h : Under tb mb ob lb kb) : lb ∉ mb :: (List.range 8).map kb := by
  intro hm
  obtain ⟨_, _, h3, h4⟩ := h
  rcases List.mem_cons.1 hm with e | hm
  · omega
  · obtain ⟨c, hc, e⟩ := List.mem_map.1 hm
    have := h4 c (List.mem_range.1 hc)
    omega
section
variable {w W W' : World} {base tb mb ob cO lb : Nat} {kb : Nat → Nat}
theorem tab_only {kf : Nat → Nat → Int} {m : Int → Option Sl} {cnt nb : Nat} (T : TabAt W base tb mb ob 8 8 cO kb kf m cnt nb) (U : Under tb mb ob lb kb) (o : Only lb W W') : TabAt W' base tb mb ob 8 8 cO kb kf m cnt nb := by
  obtain ⟨h1, h2, h3, h4⟩ := U
  exact ⟨(o.block tb (by omega)).trans T.blk, T.map.keep (o.block mb (by omega)), fun b hb => (cell_heapT (o.block ob (by omega))).trans (T.outer b hb), fun b hb => (o.block (kb b) (by have := h4 b hb; omega)).trans (T.rows b hb), T.inj, T.apart, T.pos, T.here, T.there⟩
/-- the table holds one key K, at the page p of the block b. -/
def One (W : World) (base tb mb ob cO : Nat) (kb : Nat → Nat) (K : Int) (i b p : Nat) : Prop := ∃ kf m s, TabAt W base tb mb ob 8 8 cO kb kf m 1 i ∧ m K = some s ∧ s.b = (b : Int) ∧ s.p = (p : Int) ∧ (∀ j, j ≠ K → m j = none) ∧ b < 8 ∧ p < 8 ∧ kf b p = K ∧ ∀ b' p' : Nat, b' < 8 → p' < 8 → ¬ (b' = b ∧ p' = p) → kf b' p' = -1
theorem one_of {kf : Nat → Nat → Int} {m : Int → Option Sl} {s : Sl} {K : Int} {i b p : Nat} (T : TabAt W base tb mb ob 8 8 cO kb kf m 1 i) (hs : m K = some s) (hb : s.b = (b : Int)) (hp : s.p = (p : Int)) (ho : ∀ j, j ≠ K → m j = none) : One W base tb mb ob cO kb K i b p := by
  obtain ⟨_, _, _, b1, p1, e1, e2, l1, l2, hk⟩ := T.here K s hs
  obtain rfl : b1 = b := by omega
  obtain rfl : p1 = p := by omega
  refine ⟨kf, m, s, T, hs, hb, hp, ho, l1, l2, hk, fun b' p' hb' hp' hn => ?_⟩
  by_cases e : kf b' p' = -1
  · exact e
  · obtain ⟨s', h1, h2, h3⟩ := T.there b' p' hb' hp' e
    by_cases eK : kf b' p' = K
    · rw [eK, hs] at h1
      cases h1
      exact absurd ⟨by omega, by omega⟩ hn
    · rw [ho _ eK] at h1
      cases h1
theorem One.below {K : Int} {i b p : Nat} (h : One W base tb mb ob cO kb K i b p) (q : Below W.heap.size W W') : One W' base tb mb ob cO kb K i b p := by
  obtain ⟨kf, m, s, T, r⟩ := h
  exact ⟨kf, m, s, T.below q, r⟩
theorem One.only {K : Int} {i b p : Nat} (h : One W base tb mb ob cO kb K i b p) (U : Under tb mb ob lb kb) (o : Only lb W W') : One W' base tb mb ob cO kb K i b p := by
  obtain ⟨kf, m, s, T, r⟩ := h
  exact ⟨kf, m, s, tab_only T U o, r⟩
/-- the blocks that a Set may write. -/
abbrev tbl (mb : Nat) (kb : Nat → Nat) : List Nat := mb :: (List.range 8).map kb
/-- what one Set more leaves. -/
def Moved (W : World) (base tb mb ob cO : Nat) (kb : Nat → Nat) (K : Int) (i b p : Nat) (w' : World) : Prop := One w' base tb mb ob cO kb K i b p ∧ Tn (tbl mb kb) W w' (tbl mb kb) ∧ Below base W w'
theorem One.set {K : Int} {i b p : Nat} (h : One W base tb mb ob cO kb K i b p) (h0 : 0 ≤ K) (h1 : K ≤ 1073741824) (hi : i < maxLen) {b' p' : Nat} (hb' : b' < 8) (hp' : p' < 8) (m0 m1 m2 m3 m4 m5 : Int) :
    Calls Tryd.prog 10 #[.pointer (some ⟨tb, 0, none⟩), .int .i64 K, .agg #[.int .i64 (b' : Int), .int .i64 (p' : Int)], .agg #[.int .i64 m0, .int .i64 m1, .int .i64 m2, .int .i64 m3, .int .i64 m4, .int .i64 m5]] W fun e w' => e = .returned (.tuple #[.agg #[.int .i64 (b : Int), .int .i64 (p : Int)], .bool true, .nilIface]) ∧ Moved W base tb mb ob cO kb K (i + 1) b' p' w' := by
  obtain ⟨kf, m, s, T, hs, hb, hp, ho, hb8, hp8, hk, hf⟩ := h
  have fin : ∀ {kf'} (e : Ending) (w' : World), (e = .returned (.tuple #[.agg #[.int .i64 s.b, .int .i64 s.p], .bool true, .nilIface]) ∧ SetAt W base tb mb ob 8 8 cO kb kf' (mS (mD m K) K ⟨K, b', p', m0, m1, m2, m3, m4, m5⟩) ((1 - 1) + 1) (i + 1) w') → e = .returned (.tuple #[.agg #[.int .i64 (b : Int), .int .i64 (p : Int)], .bool true, .nilIface]) ∧ Moved W base tb mb ob cO kb K (i + 1) b' p' w' := by
    rintro kf' e w' ⟨rfl, S⟩
    refine ⟨by rw [hb, hp], one_of (s := ⟨K, b', p', m0, m1, m2, m3, m4, m5⟩) S.1 (by simp [mS]) rfl rfl (fun j hj => by simp [mS, mD, hj, ho]), S.2, SetAt.bel T S⟩
  by_cases e : kf b' p' = -1
  · exact (set_hadF T h0 h1 hi hb' hp' m0 m1 m2 m3 m4 m5 hs e).mono fin
  · have eK : kf b' p' = K := by
      by_cases hbp : b' = b ∧ p' = p
      · rw [hbp.1, hbp.2]; exact hk
      · exact absurd (hf b' p' hb' hp' hbp) e
    exact (set_hadO T h0 h1 hi hb' hp' m0 m1 m2 m3 m4 m5 hs eK).mono fin
theorem One.len {K : Int} {i b p : Nat} (h : One W base tb mb ob cO kb K i b p) : Calls Tryd.prog 18 #[.pointer (some ⟨tb, 0, none⟩)] W fun e w' => e = .returned (.int .i64 1) ∧ W = w' := by
  obtain ⟨kf, m, s, T, r⟩ := h
  exact len_any T
/-- the table holds two keys, K at the page p of the block b. -/
def Two (W : World) (base tb mb ob cO : Nat) (kb : Nat → Nat) (K : Int) (b p : Nat) : Prop := ∃ kf m s nb, TabAt W base tb mb ob 8 8 cO kb kf m 2 nb ∧ m K = some s ∧ s.b = (b : Int) ∧ s.p = (p : Int) ∧ b < 8 ∧ p < 8 ∧ kf b p = K ∧ 0 ≤ K ∧ K ≤ 1073741824
theorem Two.below {K : Int} {b p : Nat} (h : Two W base tb mb ob cO kb K b p) (q : Below W.heap.size W W') : Two W' base tb mb ob cO kb K b p := by
  obtain ⟨kf, m, s, nb, T, r⟩ := h
  exact ⟨kf, m, s, nb, T.below q, r⟩
theorem Two.len {K : Int} {b p : Nat} (h : Two W base tb mb ob cO kb K b p) : Calls Tryd.prog 18 #[.pointer (some ⟨tb, 0, none⟩)] W fun e w' => e = .returned (.int .i64 2) ∧ W = w' := by
  obtain ⟨kf, m, s, nb, T, r⟩ := h
  exact len_any T
/-- what is left when K is gone. -/
def Gone (W : World) (base tb mb ob cO : Nat) (kb : Nat → Nat) (K : Int) : Prop := ∃ kf m nb, TabAt W base tb mb ob 8 8 cO kb kf m 1 nb ∧ m K = none ∧ (Lit.int .i64 K).wf = true
theorem Two.drop {K : Int} {b p : Nat} (h : Two W base tb mb ob cO kb K b p) : Calls Tryd.prog 8 #[.pointer (some ⟨tb, 0, none⟩), .int .i64 K] W fun e w' => e = .returned (.bool true) ∧ Gone w' base tb mb ob cO kb K ∧ Below base W w' := by
  obtain ⟨kf, m, s, nb, T, hs, hb, hp, hb8, hp8, hk, k0, k1⟩ := h
  refine (drop_yes T (wf_key k0 k1) hs hb hp hb8 hp8 hk).mono ?_
  rintro e w' ⟨rfl, S⟩
  exact ⟨rfl, ⟨_, _, _, S.1, by simp [mD], wf_key k0 k1⟩, SetAt.bel T S⟩
theorem Gone.len {K : Int} (h : Gone W base tb mb ob cO kb K) : Calls Tryd.prog 18 #[.pointer (some ⟨tb, 0, none⟩)] W fun e w' => e = .returned (.int .i64 1) ∧ W = w' := by
  obtain ⟨kf, m, nb, T, r⟩ := h
  exact len_any T
theorem Gone.drop {K : Int} (h : Gone W base tb mb ob cO kb K) : Calls Tryd.prog 8 #[.pointer (some ⟨tb, 0, none⟩), .int .i64 K] W fun e w' => e = .returned (.bool false) ∧ Below W.heap.size W w' := by
  obtain ⟨kf, m, nb, T, hg, wf⟩ := h
  exact drop_no T wf hg
end
end Go.Proofs.YtpbckjagiebmjaaDoor.Tb
/- A table that is told anything: how many pages are some key's. By the verifier of shale. -/
namespace Go.Proofs.YtpbckjagiebmjaaDoor.Tb
open Go Go.RowKit
set_option linter.unusedVariables false
set_option linter.unusedSimpArgs false
theorem liveN_put {f : Nat → Int} {p : Nat} {v : Int} (hv : v ≠ -1) (hf : f p = -1) : ∀ n, liveN (fun j => if j = p then v else f j) n = liveN f n + if p < n then 1 else 0
  | 0 => by simp [liveN]
  | n + 1 => by
    rw [liveN_succ, liveN_succ, liveN_put hv hf n]
    by_cases e : n = p
    · subst e
      simp [hv, hf]
    · simp only [if_neg e]
      by_cases h1 : p < n
      · rw [if_pos h1, if_pos (show p < n + 1 by omega)]; omega
      · rw [if_neg h1, if_neg (show ¬ p < n + 1 by omega)]; omega
theorem liveN_cut {f : Nat → Int} {p : Nat} (hf : f p ≠ -1) : ∀ n, liveN (fun j => if j = p then -1 else f j) n + (if p < n then 1 else 0) = liveN f n
  | 0 => by simp [liveN]
  | n + 1 => by
    have ih := liveN_cut hf n
    rw [liveN_succ, liveN_succ]
    by_cases e : n = p
    · subst e
      simp [hf] at ih ⊢
      omega
    · simp only [if_neg e]
      by_cases h1 : p < n
      · rw [if_pos h1] at ih; rw [if_pos (show p < n + 1 by omega)]; omega
      · rw [if_neg h1] at ih; rw [if_neg (show ¬ p < n + 1 by omega)]; omega
/-- so many pages of the first B blocks are some key's. -/
def totN (kf : Nat → Nat → Int) (P : Nat) : Nat → Nat
  | 0 => 0
  | B + 1 => totN kf P B + liveN (kf B) P
theorem tot_put {kf : Nat → Nat → Int} {P b p : Nat} {k : Int} (hk : k ≠ -1) (hf : kf b p = -1) (hp : p < P) : ∀ B, totN (kfS kf b p k) P B = totN kf P B + if b < B then 1 else 0
  | 0 => by simp [totN]
  | B + 1 => by
    have ih := tot_put hk hf hp B
    unfold totN
    rw [ih]
    by_cases e : B = b
    · subst e
      have : kfS kf B p k B = fun j => if j = p then k else kf B j := by funext j; simp [kfS]
      rw [this, liveN_put hk hf P, if_pos hp]
      simp
      omega
    · have : kfS kf b p k B = kf B := by funext j; simp [kfS, e]
      rw [this]
      by_cases h1 : b < B
      · rw [if_pos h1, if_pos (show b < B + 1 by omega)]; omega
      · rw [if_neg h1, if_neg (show ¬ b < B + 1 by omega)]; omega
theorem tot_cut {kf : Nat → Nat → Int} {P b p : Nat} (hf : kf b p ≠ -1) (hp : p < P) : ∀ B, totN (kfD kf b p) P B + (if b < B then 1 else 0) = totN kf P B
  | 0 => by simp [totN]
  | B + 1 => by
    have ih := tot_cut hf hp B
    unfold totN
    by_cases e : B = b
    · subst e
      have : kfD kf B p B = fun j => if j = p then -1 else kf B j := by funext j; simp [kfD]
      have h2 := liveN_cut hf P
      rw [if_pos hp] at h2
      rw [this]
      simp at ih ⊢
      omega
    · have : kfD kf b p B = kf B := by funext j; simp [kfD, e]
      rw [this]
      by_cases h1 : b < B
      · rw [if_pos h1] at ih; rw [if_pos (show b < B + 1 by omega)]; omega
      · rw [if_neg h1] at ih; rw [if_neg (show ¬ b < B + 1 by omega)]; omega
/-- a table that was told at most c things. -/
def OkT (W : World) (base tb mb ob cO : Nat) (kb : Nat → Nat) (c : Nat) : Prop := ∃ kf m cnt nb, TabAt W base tb mb ob 8 8 cO kb kf m cnt nb ∧ cnt ≤ c ∧ nb ≤ c ∧ totN kf 8 8 = cnt
section
variable {w W W' : World} {base tb mb ob cO lb : Nat} {kb : Nat → Nat}
theorem OkT.keep {c : Nat} (h : OkT W base tb mb ob cO kb c) (o : ∀ k, base ≤ k → k < W.heap.size → W'.heap[k]? = W.heap[k]?) : OkT W' base tb mb ob cO kb c := by
  obtain ⟨kf, m, cnt, nb, T, r⟩ := h
  exact ⟨kf, m, cnt, nb, T.far o, r⟩
theorem OkT.below {c : Nat} (h : OkT W base tb mb ob cO kb c) (q : Below W.heap.size W W') : OkT W' base tb mb ob cO kb c := h.keep fun k _ hk => q.block k hk
theorem OkT.size {c : Nat} (h : OkT W base tb mb ob cO kb c) : base ≤ W.heap.size := by
  obtain ⟨kf, m, cnt, nb, T, r⟩ := h
  have := T.lt
  have := T.apart.1
  omega
theorem OkT.set {c : Nat} (h : OkT W base tb mb ob cO kb c) (hc : c < 1000) (key b p m0 m1 m2 m3 m4 m5 : Int) {yo yn : Addr} (EO : ErrAt W 1 yo) (EN : ErrAt W 2 yn) :
    Calls Tryd.prog 10 #[.pointer (some ⟨tb, 0, none⟩), .int .i64 key, .agg #[.int .i64 b, .int .i64 p], .agg #[.int .i64 m0, .int .i64 m1, .int .i64 m2, .int .i64 m3, .int .i64 m4, .int .i64 m5]] W fun e w' => (∃ v, e = .returned v) ∧ OkT w' base tb mb ob cO kb (c + 1) ∧ Tn (tbl mb kb) W w' (tbl mb kb) ∧ Below base W w' := by
  have hsz := h.size
  have bad : ∀ (e : Ending) (w' : World) (v : Value), (e = .returned v ∧ Below W.heap.size W w') → (∃ v, e = .returned v) ∧ OkT w' base tb mb ob cO kb (c + 1) ∧ Tn (tbl mb kb) W w' (tbl mb kb) ∧ Below base W w' := by
    rintro e w' v ⟨rfl, q⟩
    obtain ⟨kf, m, cnt, nb, T, h1, h2, h3⟩ := h
    exact ⟨⟨_, rfl⟩, ⟨kf, m, cnt, nb, T.below q, by omega, by omega, h3⟩, Tn.below q, q.mono hsz⟩
  by_cases hk : key < 0 ∨ 1073741824 < key
  · obtain ⟨kf, m, cnt, nb, T, _⟩ := h
    exact (set_badK T hk m0 m1 m2 m3 m4 m5 EN).mono fun e w' h => bad e w' _ h
  have h0 : 0 ≤ key := by omega
  have h1 : key ≤ 1073741824 := by omega
  by_cases hp : 0 ≤ b ∧ b < ((8 : Nat) : Int) ∧ 0 ≤ p ∧ p < ((8 : Nat) : Int)
  · obtain ⟨b', rfl⟩ : ∃ b' : Nat, b = (b' : Int) := ⟨b.toNat, by omega⟩
    obtain ⟨p', rfl⟩ : ∃ p' : Nat, p = (p' : Int) := ⟨p.toNat, by omega⟩
    have hb8 : b' < 8 := by omega
    have hp8 : p' < 8 := by omega
    obtain ⟨kf, m, cnt, nb, T, c1, c2, c3⟩ := h
    by_cases e1 : kf b' p' = -1
    · cases hg : m key with
      | none =>
        refine (set_new T h0 h1 (by unfold maxLen; omega) hb8 hp8 m0 m1 m2 m3 m4 m5 hg e1).mono ?_
        rintro e w' ⟨rfl, S⟩
        refine ⟨⟨_, rfl⟩, ⟨_, _, _, _, S.1, by omega, by omega, ?_⟩, S.2, SetAt.bel T S⟩
        rw [tot_put (by omega) e1 hp8 8, c3, if_pos hb8]
      | some s =>
        obtain ⟨_, _, _, b1, p1, s1, s2, l1, l2, hkk⟩ := T.here key s hg
        refine (set_hadF T h0 h1 (by unfold maxLen; omega) hb8 hp8 m0 m1 m2 m3 m4 m5 hg e1).mono ?_
        rintro e w' ⟨rfl, S⟩
        have hb1 : s.b.toNat = b1 := by omega
        have hp1 : s.p.toNat = p1 := by omega
        rw [hb1, hp1] at S
        have ht := tot_cut (kf := kf) (P := 8) (b := b1) (p := p1) (by rw [hkk]; omega) l2 8
        rw [if_pos l1] at ht
        refine ⟨⟨_, rfl⟩, ⟨_, _, _, _, S.1, by omega, by omega, ?_⟩, S.2, SetAt.bel T S⟩
        rw [tot_put (by omega) (by unfold kfD; split <;> first | rfl | exact e1) hp8 8, if_pos hb8]
        omega
    · by_cases e2 : kf b' p' = key
      · obtain ⟨s, hg, sb, sp⟩ := T.there b' p' hb8 hp8 e1
        rw [e2] at hg
        refine (set_hadO T h0 h1 (by unfold maxLen; omega) hb8 hp8 m0 m1 m2 m3 m4 m5 hg e2).mono ?_
        rintro e w' ⟨rfl, S⟩
        have hb1 : s.b.toNat = b' := by omega
        have hp1 : s.p.toNat = p' := by omega
        rw [hb1, hp1] at S
        have ht := tot_cut (kf := kf) (P := 8) (b := b') (p := p') e1 hp8 8
        rw [if_pos hb8] at ht
        refine ⟨⟨_, rfl⟩, ⟨_, _, _, _, S.1, by omega, by omega, ?_⟩, S.2, SetAt.bel T S⟩
        rw [tot_put (by omega) (by unfold kfD; rw [if_pos ⟨rfl, rfl⟩]) hp8 8, if_pos hb8]
        omega
      · exact (set_ord T h0 h1 hb8 hp8 e1 e2 m0 m1 m2 m3 m4 m5 EO).mono fun e w' h => bad e w' _ h
  · obtain ⟨kf, m, cnt, nb, T, _⟩ := h
    exact (set_badP T h0 h1 hp m0 m1 m2 m3 m4 m5 EN).mono fun e w' h => bad e w' _ h
end
end Go.Proofs.YtpbckjagiebmjaaDoor.Tb
/- A function's return behind ranges over functions, each of which has left its mark. By the verifier of shale. -/
namespace Go.Proofs.YtpbckjagiebmjaaDoor
open Go Go.RowKit
set_option linter.unusedVariables false
set_option linter.unusedSimpArgs false
/-- the mark of a loop's put-off calls. -/
def mark (D : Nat) : Deferred := { target := .collected D, args := #[] }
theorem marks_post {F : Fence} {n : Nat} {P : Program} {fn : Func} {tmps : Array Value} {R : Ending → World → Prop} : ∀ (ds : List Nat) (W : World), ds.Nodup → (∀ D ∈ ds, W.heap[D]? = some (.deferred (some []))) →
    (∀ W', W'.os = W.os → W'.tape = W.tape → W'.output = W.output → W'.heap.size = W.heap.size → (∀ k, k ∉ ds → W'.heap[k]? = W.heap[k]?) → ∃ v, (results fn tmps).run P W' = .ok v W' ∧ R (.returned v) W') →
    bodyPostM F n P fn R .ret { tmps := tmps, defers := ds.map mark } W
  | [], W, _, _, h => h W rfl rfl rfl rfl fun _ _ => rfl
  | D :: ds, W, hn, hd, h => by
    rw [List.nodup_cons] at hn
    refine ⟨by simp, .inl ⟨D, _, rfl, run_takeDeferred (hd D (List.mem_cons_self ..)), marks_post (F := F) (n := n) (P := P) (fn := fn) (tmps := tmps) (R := R) ds _ hn.2 (fun X hX => ?_) fun W' e1 e2 e3 e4 e5 => ?_⟩⟩
    · exact (World.putObj_heap_other (fun e => hn.1 (by rw [← e]; exact hX))).trans (hd X (List.mem_cons_of_mem _ hX))
    · refine h W' e1 e2 e3 (by rw [e4]; simp) fun k hk => ?_
      rw [List.mem_cons, not_or] at hk
      exact (e5 k hk.2).trans (World.putObj_heap_other (fun e => hk.1 e))
/-- behind two ranges. -/
theorem marks_two {F : Fence} {n : Nat} {P : Program} {fn : Func} {tmps : Array Value} {R : Ending → World → Prop} {D E : Nat} {W : World} (hDE : D ≠ E) (hD : W.heap[D]? = some (.deferred (some []))) (hE : W.heap[E]? = some (.deferred (some [])))
    (h : ∀ W', W'.os = W.os → W'.tape = W.tape → W'.output = W.output → W'.heap.size = W.heap.size → (∀ k, k ≠ D → k ≠ E → W'.heap[k]? = W.heap[k]?) → ∃ v, (results fn tmps).run P W' = .ok v W' ∧ R (.returned v) W') :
    bodyPostM F n P fn R .ret { tmps := tmps, defers := [{ target := .collected D, args := #[] }, { target := .collected E, args := #[] }] } W :=
  marks_post [D, E] W (by simp [hDE]) (fun X hX => by
    simp only [List.mem_cons, List.not_mem_nil, or_false] at hX
    rcases hX with rfl | rfl
    · exact hD
    · exact hE) (fun W' e1 e2 e3 e4 e5 => h W' e1 e2 e3 e4 fun k hk1 hk2 => e5 k (by simp [hk1, hk2]))
end Go.Proofs.YtpbckjagiebmjaaDoor
/- A region that draws its order, within a round of a range over a function: what it does leaves the world in a class; one walk in the text's order serves all. By the verifier of shale. -/
namespace Go.Proofs.YtpbckjagiebmjaaDoor
open Go Go.RowKit
set_option linter.unusedVariables false
/-- nothing is put off. -/
def noDefer (o : Oper) : Bool := match o.op with
  | .defer _ => false
  | _ => true
theorem noDefer_op {o : Oper} (h : noDefer o = true) : ∀ c, o.op ≠ .defer c := by
  intro c e
  unfold noDefer at h
  rw [e] at h
  cases h
section
variable {l n : Nat} {P : Program} {ops : Array Oper} {md : Region.Mode} {C : World → Prop}
theorem opIn_round {o : Oper} {a : Act} {K : Act → Prop} {K' : Act → World → Prop} {Q' : Exit → Act → World → Prop} {w : World} (hd : noDefer o = true) (hw : C w) (h : ∀ a w', C w' → K a → K' a w') (hh : o.quiet P a C K) : o.wpIn (Fence.wide.inRound l) n P a w K' Q' := by
  obtain ⟨v, h1, h2⟩ := hh
  have h3 := h1 w hw
  refine ⟨fun _ _ => trivial, ?_⟩
  show o.uponIn (Fence.wide.inRound l) n P a K' Q' ((Oper.semAt (some l) a.eval o).run P w)
  rw [Oper.semAt_some l _ _ (noDefer_op hd)]
  unfold Oper.quietAt at h3
  revert h3
  generalize (execOp a.eval o).run P w = r
  intro h3
  match r, h3 with
  | .ok (.value u) w', h3 =>
    obtain ⟨e1, e2⟩ := h3
    show K' (a.put o.dst u) w'
    rw [e1, e2]
    exact h _ _ hw h2
  | .ok .skip w', h3 =>
    obtain ⟨e1, e2⟩ := h3
    show K' (a.put o.dst undef) w'
    rw [e1, ← e2]
    exact h _ _ hw h2
  | .ok (.enter f args) w', h3 =>
    obtain ⟨e1, hc⟩ := h3
    rw [e1]
    refine ⟨fun e => absurd e (by simp [Fence.wide]), (CallsIn.inRound l (callsIn_wide.2 hc)).mono ?_⟩
    rintro e w'' ⟨he, hw''⟩
    subst he
    exact h _ _ hw'' h2
theorem anyIn_round {Q : Act → Prop} {Q' : Exit → Act → World → Prop} (hd : ∀ (i : Nat) (o : Oper), ops[i]? = some o → noDefer o = true) (hQ : ∀ a w, C w → Q a → Q' .normal a w) : ∀ (f : Nat) (s : Array Bool) (a : Act) (w : World), C w →
    wpAnyQ P md ops C Q f s a → wpAnyIn (Fence.wide.inRound l) n P md ops Q' f s a w
  | 0, s, a, w, hw, h => ⟨h.1, hQ _ _ hw h.2⟩
  | f + 1, s, a, w, hw, h => by
    refine ⟨fun h0 => hQ _ _ hw (h.1 h0), fun i hi => ?_⟩
    have hq := h.2 i hi
    unfold qOp at hq
    unfold wpOpIn
    cases ho : ops[i]? with
    | none =>
      rw [ho] at hq
      exact anyIn_round hd hQ f _ _ _ hw hq
    | some o =>
      rw [ho] at hq
      simp only at hq ⊢
      by_cases hwt : Region.wanted o (yielded ops a.tmps) = true
      · rw [if_pos hwt] at hq ⊢
        exact opIn_round (hd i o ho) hw (fun a' w' hw' h' => anyIn_round hd hQ f _ a' w' hw' h') hq
      · rw [if_neg hwt] at hq ⊢
        exact ⟨fun _ _ => trivial, anyIn_round hd hQ f _ _ _ hw hq⟩
/-- **THE STATEMENT.** -/
theorem wpIn_round_quiet {id : Nat} {Q : Exit → Act → World → Prop} {a : Act} {w : World} {os : List Oper} (hm : P.follows .mixedOrders = true) (hB : Region.lexB .any os.toArray = true) (hn : os.all noDefer = true) (hC : C { w with drawn := w.drawn + 1 })
    (h : wpQuiet P os.toArray C (fun a' => ∀ w', C w' → Q .normal a' w') os a) : (Code.region id os.toArray true).wpIn (Fence.wide.inRound l) n P Q a w := by
  simp only [Region.lexB, Bool.and_eq_true] at hB
  have hd : ∀ (i : Nat) (o : Oper), os.toArray[i]? = some o → noDefer o = true := fun i o ho => by
    rw [List.getElem?_toArray] at ho
    exact List.all_eq_true.1 hn o (List.mem_of_getElem? ho)
  refine wpIn_region_any hm (anyIn_round (Q := fun a' => ∀ w', C w' → Q .normal a' w') hd (fun _ w' hw' h => h w' hw') _ _ _ _ hC ?_)
  have := wpAnyQ_lex (P := P) (ops := os.toArray) (C := C) (md := .any) (Q := fun a' => ∀ w', C w' → Q .normal a' w') hB.1 os 0 (Array.replicate os.toArray.size false) a (by simp) (by simpa using hB.2) h
  simpa using this
end
end Go.Proofs.YtpbckjagiebmjaaDoor
