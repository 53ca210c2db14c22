/- Texts of the verifier of shale, laid into one: RangeOwn, RangeSep, MoMap, BinVal, RefSame, RangeGiftM, Marks, QuietRound, RoundHeld. -/
import Derived.Test.YtbngkmlipmhgdaaDoorGreat1
import Derived.RangeFuncNested
import Derived.RangeFuncBound
import Derived.RangeFuncCalls
import Derived.RangeFuncLeaves
import Derived.Below
import Derived.Maps.OwnSet
import Derived.Lib.BitFns
import Derived.WalkKit
import Derived.WalkSpells
import Derived.WalkLawsBesides
import Derived.Laws.BytesArg
import Derived.BigQuiet
import Derived.OrdersIn
import Derived.TacticsIn
import Derived.Lib.QuietBelow
import Derived.Deep.RegionHeld3
/- A range over a function whose iterator keeps state in cells of its own: one invariant for what the iterator and the body hold together, all of it below the blocks that the loop itself lays. By the verifier of shale. -/
namespace Go.Proofs.YtbngkmlipmhgdaaDoor
open Go Go.RowKit
set_option linter.unusedVariables false
/-- what lies at or above B and was there lies as it lay. -/
structure Hi (B : Nat) (W W' : World) : Prop where
  size : W.heap.size ≤ W'.heap.size
  same : ∀ k, B ≤ k → k < W.heap.size → W'.heap[k]? = W.heap[k]?
theorem Hi.refl (B : Nat) (W : World) : Hi B W W := ⟨Nat.le_refl _, fun _ _ _ => rfl⟩
theorem Hi.trans {B : Nat} {X Y Z : World} (h : Hi B X Y) (k : Hi B Y Z) : Hi B X Z :=
  ⟨Nat.le_trans h.size k.size, fun i hB hi => (k.same i hB (Nat.lt_of_lt_of_le hi h.size)).trans (h.same i hB hi)⟩
theorem Hi.below {B : Nat} {W W' : World} (h : Below W.heap.size W W') : Hi B W W' := ⟨h.size, fun k _ hk => h.block k hk⟩
theorem Hi.setCell {B : Nat} (W : World) (p : Addr) (u : Value) (hp : p.block < B) : Hi B W (W.setCell p u) :=
  ⟨by simp [World.setCell], fun k hB _ => Below.heap_setCell _ _ _ _ (by omega)⟩
/-- whatever lies below B, block s aside, lies as it lay. -/
structure Others (B s : Nat) (W W' : World) : Prop where
  size : W.heap.size ≤ W'.heap.size
  same : ∀ k, k < B → k ≠ s → W'.heap[k]? = W.heap[k]?
theorem Others.trans {B s : Nat} {X Y Z : World} (h : Others B s X Y) (k : Others B s Y Z) : Others B s X Z :=
  ⟨Nat.le_trans h.size k.size, fun i hi hs => (k.same i hi hs).trans (h.same i hi hs)⟩
theorem Others.below {B s : Nat} {X Y : World} (h : Below B X Y) : Others B s X Y := ⟨h.size, fun k hk _ => h.block k hk⟩
theorem Others.setCell {B s : Nat} (W : World) (p : Addr) (u : Value) (hp : p.block = s) : Others B s W (W.setCell p u) :=
  ⟨by simp [World.setCell], fun k _ hs => Below.heap_setCell _ _ _ _ (by omega)⟩
theorem roundIn_wide {n m : Nat} {P : Program} {l : Nat} {f : FuncId} {tmps : Array Value} {assign body : Code} {w : World} {R : Ending → World → Prop}
    (h : RoundIn Fence.wide n P l f tmps assign body w R) : RoundIn Fence.wide m P l f tmps assign body w R := ⟨h.1, fun c cs _ => h.2 c cs (room_wide _)⟩
end Go.Proofs.YtbngkmlipmhgdaaDoor
/- A range over a function whose iterator and whose body each own blocks of their own (captured cells, lists that grow in place): what either does leaves alone what the other owns. By the verifier of shale. -/
namespace Go.Proofs.YtbngkmlipmhgdaaDoor
open Go Go.RowKit
set_option linter.unusedVariables false
/-- below B (cl aside) and in bl all lies as it lay. -/
structure Fr (B : Nat) (cl bl : List Nat) (X Y : World) : Prop where
  os : Y.os = X.os
  tape : Y.tape = X.tape
  output : Y.output = X.output
  size : X.heap.size ≤ Y.heap.size
  same : ∀ k, (k < B ∧ k ∉ cl) ∨ k ∈ bl → k < X.heap.size → Y.heap[k]? = X.heap[k]?
theorem Fr.refl (B : Nat) (cl bl : List Nat) (X : World) : Fr B cl bl X X := ⟨rfl, rfl, rfl, Nat.le_refl _, fun _ _ _ => rfl⟩
theorem Fr.trans {B : Nat} {cl bl : List Nat} {X Y Z : World} (h : Fr B cl bl X Y) (k : Fr B cl bl Y Z) : Fr B cl bl X Z :=
  ⟨k.os.trans h.os, k.tape.trans h.tape, k.output.trans h.output, Nat.le_trans h.size k.size, fun i hi hs => (k.same i hi (Nat.lt_of_lt_of_le hs h.size)).trans (h.same i hi hs)⟩
theorem Fr.below {B : Nat} {cl bl : List Nat} {X Y : World} (h : Below X.heap.size X Y) : Fr B cl bl X Y := ⟨h.os, h.tape, h.output, h.size, fun k _ hk => h.block k hk⟩
theorem Fr.sub {B B' : Nat} {cl bl bl' : List Nat} {X Y : World} (h : Fr B cl bl X Y) (hB : B' ≤ B) (hs : ∀ k ∈ bl', k ∈ bl ∨ (k < B ∧ k ∉ cl)) : Fr B' cl bl' X Y :=
  ⟨h.os, h.tape, h.output, h.size, fun k hk hl => h.same k (by
    rcases hk with ⟨h1, h2⟩ | h1
    · exact .inl ⟨by omega, h2⟩
    · rcases hs k h1 with h2 | h2
      · exact .inr h2
      · exact .inl h2) hl⟩
/-- a store into a block that is none of these. -/
theorem Fr.setCell {B : Nat} {cl bl : List Nat} (X : World) (p : Addr) (u : Value) (h1 : p.block < B → p.block ∈ cl) (h2 : p.block ∉ bl) : Fr B cl bl X (X.setCell p u) :=
  ⟨rfl, rfl, rfl, by simp [World.setCell], fun k hk _ => Below.heap_setCell _ _ _ _ (by
    rintro rfl
    rcases hk with ⟨h, h'⟩ | h
    · exact h' (h1 h)
    · exact h2 h)⟩
/-- what the owner of bl may do: it turns these, and makes new ones. -/
structure Tn (bl : List Nat) (X Y : World) (bl' : List Nat) : Prop where
  os : Y.os = X.os
  tape : Y.tape = X.tape
  output : Y.output = X.output
  size : X.heap.size ≤ Y.heap.size
  same : ∀ k, k < X.heap.size → k ∉ bl → Y.heap[k]? = X.heap[k]?
  new : ∀ k ∈ bl', k ∈ bl ∨ X.heap.size ≤ k
theorem Tn.refl (bl : List Nat) (X : World) : Tn bl X X bl := ⟨rfl, rfl, rfl, Nat.le_refl _, fun _ _ _ => rfl, fun _ h => .inl h⟩
theorem Tn.trans {b1 b2 b3 : List Nat} {X Y Z : World} (h : Tn b1 X Y b2) (k : Tn b2 Y Z b3) : Tn b1 X Z b3 := by
  refine ⟨k.os.trans h.os, k.tape.trans h.tape, k.output.trans h.output, Nat.le_trans h.size k.size, fun i hi hs => ?_, fun i hi => ?_⟩
  · refine (k.same i (Nat.lt_of_lt_of_le hi h.size) fun hb => ?_).trans (h.same i hi hs)
    rcases h.new i hb with h1 | h1
    · exact hs h1
    · omega
  · rcases k.new i hi with h1 | h1
    · exact h.new i h1
    · exact .inr (Nat.le_trans h.size h1)
theorem Tn.below {bl : List Nat} {X Y : World} (h : Below X.heap.size X Y) : Tn bl X Y bl := ⟨h.os, h.tape, h.output, h.size, fun k hk _ => h.block k hk, fun _ h => .inl h⟩
theorem Tn.setCell {bl : List Nat} (X : World) (p : Addr) (u : Value) (h : p.block ∈ bl) : Tn bl X (X.setCell p u) bl :=
  ⟨rfl, rfl, rfl, by simp [World.setCell], fun k _ hk => Below.heap_setCell _ _ _ _ (by rintro rfl; exact hk h), fun _ h => .inl h⟩
end Go.Proofs.YtbngkmlipmhgdaaDoor
/- A map from numbers to rows of bytes, as a model has it. By the verifier of shale. -/
namespace Go.Proofs.YtbngkmlipmhgdaaDoor.Mo
open Go Go.RowKit Go.Maps Go.ChangeMaps Go.MapKept
open Go.WideElems (Fit)
set_option linter.unusedVariables false
set_option linter.unusedSimpArgs false
/-- where a row of bytes lies, how long it is and may be. -/
structure Sd where
  q : Option (Nat × Nat)
  n : Nat
  c : Nat
def Sd.addr (s : Sd) : Option Addr := s.q.map fun p => ⟨p.1, p.2, none⟩
def zSd : Sd := ⟨none, 0, 0⟩
abbrev sdV (s : Sd) : Value := .slice s.addr s.n s.c
def ints (s : Sd) : List Int := [match s.q with | none => 0 | some _ => 1, ((s.q.getD (0, 0)).1 : Int), ((s.q.getD (0, 0)).2 : Int), (s.n : Int), (s.c : Int)]
theorem ints_inj {s t : Sd} (h : ints s = ints t) : s = t := by
  obtain ⟨p, a1, a2⟩ := s
  obtain ⟨r, b1, b2⟩ := t
  simp only [ints, List.cons.injEq, and_true] at h
  obtain ⟨h0, h1, h2, h3, h4⟩ := h
  have e3 : a1 = b1 := by omega
  have e4 : a2 = b2 := by omega
  subst e3 e4
  cases p with
  | none => cases r with
    | none => rfl
    | some r => simp at h0
  | some p => cases r with
    | none => simp at h0
    | some r =>
      obtain ⟨p1, p2⟩ := p
      obtain ⟨r1, r2⟩ := r
      simp only [Option.getD_some] at h1 h2
      have e1 : p1 = r1 := by omega
      have e2 : p2 = r2 := by omega
      subst e1 e2
      rfl
theorem sdV_inj {s t : Sd} (h : sdV s = sdV t) : s = t := by
  obtain ⟨p, a1, a2⟩ := s
  obtain ⟨r, b1, b2⟩ := t
  simp only [Value.slice.injEq, Sd.addr] at h
  obtain ⟨h0, rfl, rfl⟩ := h
  cases p with
  | none => cases r with
    | none => rfl
    | some r => simp at h0
  | some p => cases r with
    | none => simp at h0
    | some r =>
      obtain ⟨p1, p2⟩ := p
      obtain ⟨r1, r2⟩ := r
      simp only [Option.map_some, Option.some.injEq, Addr.mk.injEq, and_true] at h0
      obtain ⟨rfl, rfl⟩ := h0
      rfl
def litD (x : Int) : DataW Unit := .lit (.int .i64 x)
def sdD (s : Sd) : DataW Unit := .agg ((ints s).map litD)
theorem litD_inj {l m : List Int} (h : l.map litD = m.map litD) : l = m := by
  have : ∀ x y : Int, litD x = litD y → x = y := fun x y e => by unfold litD at e; cases e; rfl
  induction l generalizing m with
  | nil => cases m with
    | nil => rfl
    | cons b m => cases h
  | cons a l ih => cases m with
    | nil => cases h
    | cons b m =>
      rw [List.map_cons, List.map_cons, List.cons.injEq] at h
      rw [this _ _ h.1, ih h.2]
theorem sdD_inj {s t : Sd} (h : sdD s = sdD t) : s = t := by
  unfold sdD at h
  have h2 : (ints s).map litD = (ints t).map litD := by injection h
  exact ints_inj (litD_inj h2)
open Classical in
/-- how an element of the map reads. -/
noncomputable def sdR (v : Value) : Option (DataW Unit × List MemPlace) := if h : ∃ s, v = sdV s then some (sdD h.choose, []) else none
theorem sdR_mk (s : Sd) : sdR (sdV s) = some (sdD s, []) := by
  unfold sdR
  have h : ∃ t, sdV s = sdV t := ⟨s, rfl⟩
  rw [dif_pos h]
  rw [← sdV_inj h.choose_spec]
theorem sdR_inv {v : Value} {s : Sd} {ps : List MemPlace} (h : sdR v = some (sdD s, ps)) : v = sdV s := by
  unfold sdR at h
  split at h
  · rename_i hv
    have h1 := hv.choose_spec
    simp only [Option.some.injEq, Prod.mk.injEq] at h
    rw [h1, sdD_inj h.1]
  · cases h
abbrev kL (k : Int) : Lit := .int .i64 k
theorem kL_ne {a b : Int} (h : a ≠ b) : kL a ≠ kL b := fun e => h (by cases e; rfl)
/-- the map's block: for each key its row, nb stores at most so far. -/
def MapS (w : World) (mb : Nat) (m : Int → Option Sd) (nb : Nat) : Prop := ∃ D : DataW Unit, w.ownsMap Tryd.prog 3 sdR mb nb D ∧ ∀ k, (Lit.int .i64 k).wf = true → (m k = none ∧ Maps.has D (kL k) = false) ∨ (∃ s, m k = some s ∧ Maps.has D (kL k) = true ∧ ∀ z, D.atKey (kL k) z = sdD s)
theorem keyI : Keyed Tryd.prog 3 := int_keyed Tryd.underlying3
theorem keyM {k : Int} (h : (Lit.int .i64 k).wf = true) : keyOf Tryd.prog 3 (.int .i64 k) = some (kL k) := keyOf_int_mk Tryd.underlying3 h
theorem mapU : Tryd.prog.underlying 60 = some (.map 3 31) := Tryd.underlying60
theorem zeroS (w : World) : (zeroValue 31).run Tryd.prog w = .ok (sdV zSd) w := by kernel_rfl
theorem isKey {k : Int} (h : (Lit.int .i64 k).wf = true) : WideAt.IsKeyLit (kL k) := by
  first | exact keyI.one.1 _ ⟨_, keyM h⟩ | exact WideAt.isKeyLit_int _ | simp [WideAt.IsKeyLit]
theorem MapS.lt {w : World} {mb nb : Nat} {m : Int → Option Sd} (h : MapS w mb m nb) : mb < w.heap.size := by
  obtain ⟨D, h1, _⟩ := h
  exact h1.lt
theorem MapS.fresh {w : World} {mb : Nat} (h : w.heap[mb]? = some (.map #[] 0)) : MapS w mb (fun _ => none) 0 := by
  obtain ⟨es, c, h1, h2⟩ := World.ownsMap_made (H := Unit) w Tryd.prog 3 sdR
  rw [heap_alloc_new] at h1
  exact ⟨.map [], ⟨es, c, h.trans h1, h2⟩, fun k _ => .inl ⟨rfl, rfl⟩⟩
theorem MapS.keep {w w' : World} {mb nb : Nat} {m : Int → Option Sd} (h : MapS w mb m nb) (e : w'.heap[mb]? = w.heap[mb]?) : MapS w' mb m nb := by
  obtain ⟨D, ⟨es, c, h1, h2⟩, h3⟩ := h
  exact ⟨D, ⟨es, c, e.trans h1, h2⟩, h3⟩
theorem MapS.mono {w : World} {mb nb nb' : Nat} {m : Int → Option Sd} (h : MapS w mb m nb) (e : nb ≤ nb') : MapS w mb m nb' := by
  obtain ⟨D, h1, h3⟩ := h
  exact ⟨D, h1.mono e, h3⟩
/-- what a look-up gives. -/
theorem MapS.look {w : World} {mb nb : Nat} {m : Int → Option Sd} (h : MapS w mb m nb) {k : Int} (hk : (Lit.int .i64 k).wf = true) : (Instr.lookup 60 (.map (some mb)) (.int .i64 k) false).run Tryd.prog w = .ok (sdV ((m k).getD zSd)) w := by
  obtain ⟨D, h1, h3⟩ := h
  obtain ⟨v, ps, hr, hv⟩ := h1.lookup keyI mapU (zeroS w) (sdR_mk zSd) (keyM hk)
  rw [hr]
  rcases h3 k hk with ⟨e1, e2⟩ | ⟨s, e1, e2, e3⟩
  · rw [Maps.atKey_of_not_has e2] at hv
    rw [sdR_inv hv, e1]
    rfl
  · rw [e3] at hv
    rw [sdR_inv hv, e1]
    rfl
/-- all but one block as it was. -/
def Turned (w w' : World) (b : Nat) : Prop := w'.os = w.os ∧ w'.tape = w.tape ∧ w'.output = w.output ∧ w'.heap.size = w.heap.size ∧ ∀ k, k ≠ b → w'.heap[k]? = w.heap[k]?
theorem turned_of {w w' : World} {b : Nat} (h : w.mapTurned w' b) : Turned w w' b := by
  obtain ⟨es, c, es', c', hb, rfl⟩ := h
  exact ⟨rfl, rfl, rfl, by simp [setBlock], fun k hk => heap_setBlock_other hb _ hk⟩
def upM (m : Int → Option Sd) (k : Int) (s : Sd) : Int → Option Sd := fun j => if j = k then some s else m j
theorem MapS.put {w : World} {mb nb : Nat} {m : Int → Option Sd} (h : MapS w mb m nb) (hn : nb < maxLen) {k : Int} (hk : (Lit.int .i64 k).wf = true) (s : Sd) : ∃ w', (Instr.mapUpdate 60 (.map (some mb)) (.int .i64 k) (sdV s)).run Tryd.prog w = .ok () w' ∧ MapS w' mb (upM m k s) (nb + 1) ∧ Turned w w' mb := by
  obtain ⟨D, h1, h3⟩ := h
  obtain ⟨w', hr, h4, h5⟩ := h1.store keyI mapU hn (keyM hk) (sdR_mk s)
  refine ⟨w', hr, ⟨_, h4, fun j hj => ?_⟩, turned_of h5⟩
  unfold upM
  by_cases e : j = k
  · subst e
    exact .inr ⟨s, by simp, Maps.has_put_same h1.isMap (isKey hj) _, fun z => Maps.atKey_put_same h1.isMap (isKey hj) _ z⟩
  · have hne := kL_ne e
    simp only [if_neg e]
    rcases h3 j hj with ⟨e1, e2⟩ | ⟨t, e1, e2, e3⟩
    · exact .inl ⟨e1, by rw [Maps.has_put_other hne]; exact e2⟩
    · exact .inr ⟨t, e1, by rw [Maps.has_put_other hne]; exact e2, fun z => by rw [Maps.atKey_put_other hne]; exact e3 z⟩
theorem mclone_any {w : World} {mb nb : Nat} {m : Int → Option Sd} (h : MapS w mb m nb) :
    Calls Tryd.prog 30 #[.map (some mb)] w fun e w' => e = .returned (.map (some w.heap.size)) ∧ MapS w' w.heap.size m nb ∧ Below w.heap.size w w' ∧ w'.heap.size = w.heap.size + 1 := by
  obtain ⟨D, h1, h3⟩ := h
  obtain ⟨es, clock, hb, F, hs, hD⟩ := h1
  have hcon := AnyW.maps_Clone Tryd.cloneM mb es clock w hb
  change Calls Tryd.prog 30 _ _ _ at hcon
  refine hcon.mono fun e w' ⟨he, hw⟩ => ?_
  subst hw
  exact ⟨he, ⟨D, ⟨es, clock, heap_alloc_new w _, F, hs, hD⟩, h3⟩, (Below.refl _ w).alloc (Nat.le_refl _) _, by simp⟩
end Go.Proofs.YtbngkmlipmhgdaaDoor.Mo
/- Bytes as polynomials: bit i of byte k is the coefficient of x^(8k + i). By the verifier of shale. -/
namespace Go.Proofs.YtbngkmlipmhgdaaDoor.Bin
open Go Go.RowKit
set_option linter.unusedVariables false
def val : List (BitVec 8) → Nat
  | [] => 0
  | c :: l => c.toNat + 256 * val l
end Go.Proofs.YtbngkmlipmhgdaaDoor.Bin
/- shaleref.SameBytes: are two lists of bytes the same? By the verifier of shale. -/
namespace Go.Proofs.YtbngkmlipmhgdaaDoor
open Go Go.RowKit
set_option linter.unusedVariables false
/-- bytes as a string. -/
def strOf (l : List (BitVec 8)) : ByteArray := strOfNums (l.map Bits32.b)
theorem strOf_inj (l m : List (BitVec 8)) (h : strOf l = strOf m) : l = m := by
  have e := congrArg (fun s : ByteArray => s.data.toList) h
  simp only [strOf, strOfNums_data, List.map_map] at e
  have key : ∀ (l m : List (BitVec 8)), l.map ((fun n : Int => UInt8.ofNat n.toNat) ∘ Bits32.b) = m.map ((fun n : Int => UInt8.ofNat n.toNat) ∘ Bits32.b) → l = m := by
    intro l
    induction l with
    | nil => intro m h; cases m with | nil => rfl | cons _ _ => simp at h
    | cons a l ih =>
      intro m h
      cases m with
      | nil => simp at h
      | cons b m =>
        simp only [List.map_cons, List.cons.injEq, Function.comp] at h
        rw [ih m h.2]
        congr 1
        have e := congrArg UInt8.toNat h.1
        unfold Bits32.b at e
        simp at e
        have := a.isLt
        have := b.isLt
        apply BitVec.eq_of_toNat_eq
        omega
  exact key l m e
/-- bytes in a slice, as SameBytes reads them. -/
def Str8 (w : World) (v : Value) (l : List (BitVec 8)) : Prop := ∀ w', (∀ b, b < w.heap.size → w'.heap[b]? = w.heap[b]?) → (convert 31 9 v).run Tryd.prog w' = .ok (.string (strOf l)) w'
theorem Str8.nil (w : World) (p : Option Addr) (c : Nat) : Str8 w (.slice p 0 c) [] := by
  intro w' h
  rw [run_convert_bytes_string w' 31 9 5 p 0 c Tryd.underlying31 Tryd.underlying5 Tryd.underlying9]
  cases p with
  | none => simp [Conv.bytesToString]; rfl
  | some a =>
    have hl : (loadCells a 0).run Tryd.prog w' = .ok #[] w' := by
      have := run_loadCells_list (P := Tryd.prog) w' a [] (fun j v hj => by simp at hj)
      simpa using this
    rw [run_bytesToString w' a 0 c [] (by simpa using hl)]
    rfl
theorem Str8.of {w : World} {v : Value} {l : List (BitVec 8)} (h : IsBytes w v l) : Str8 w v l := by
  rcases h with ⟨rfl, p, c, rfl⟩ | ⟨bb, off, cap, rfl, hr, hb⟩
  · exact Str8.nil w p c
  · intro w' hw
    have := run_convert_bytes_arg (P := Tryd.prog) w' 31 5 Tryd.underlying31 Tryd.underlying5 bb off l.length cap (l.map Bits32.b) (by simp)
      (fun i hi => by
        rw [World.cell?_of_block (w := w) (hw bb hb), hr i hi]
        unfold nth8
        simp [hi]) 9 Tryd.underlying9
    exact this
set_option maxHeartbeats 400000 in
theorem same_any (l m : List (BitVec 8)) (v u : Value) (w : World) (hv : Str8 w v l) (hu : Str8 w u m) :
    Calls Tryd.prog 14 #[v, u] w fun e w' => e = .returned (.bool (decide (l = m))) ∧ w = w' := by
  have h1 := hv w (fun _ _ => rfl)
  have h2 := hu w (fun _ _ => rfl)
  go_enter Tryd.func14, Tryd.ntmps14
  go_wp2
  go_ret
  refine ⟨?_, rfl⟩
  have e : ((strOf l).toList == (strOf m).toList) = decide (l = m) := by
    rw [Bool.eq_iff_iff, beq_iff_eq, decide_eq_true_iff]
    constructor
    · intro h
      rw [ByteArray.toList_eq, ByteArray.toList_eq] at h
      exact strOf_inj l m (by
        have : (strOf l).data = (strOf m).data := Array.toList_inj.1 h
        cases hl : strOf l; cases hm : strOf m
        simp_all)
    · intro h; rw [h]
  rw [← e]; rfl
/-- the same memory, but for draws. -/
def SameHeap (W w : World) : Prop := w.heap = W.heap
theorem SameHeap.refl (W : World) : SameHeap W W := rfl
theorem SameHeap.drew {W w : World} (h : SameHeap W w) : SameHeap W w.drew := h
theorem Str8.since {W w : World} {v : Value} {l : List (BitVec 8)} (h : Str8 W v l) (o : ∀ b, b < W.heap.size → w.heap[b]? = W.heap[b]?) (hs : W.heap.size ≤ w.heap.size) : Str8 w v l :=
  fun w' hw => h w' (fun b hb => (hw b (Nat.lt_of_lt_of_le hb hs)).trans (o b hb))
theorem same_since {l m : List (BitVec 8)} {v u : Value} {W w : World} (hv : Str8 W v l) (hu : Str8 W u m) (h : SameHeap W w) :
    Calls Tryd.prog 14 #[v, u] w fun e w' => e = .returned (.bool (decide (l = m))) ∧ w = w' :=
  same_any l m v u w (hv.since (fun b _ => by rw [show w.heap = W.heap from h]) (by rw [show w.heap = W.heap from h]; exact Nat.le_refl _)) (hu.since (fun b _ => by rw [show w.heap = W.heap from h]) (by rw [show w.heap = W.heap from h]; exact Nat.le_refl _))
/-- SameBytes answers c of these two, in whatever world that has W's memory. -/
def Sames (W : World) (v u : Value) (c : Bool) : Prop := ∀ w, SameHeap W w → Calls Tryd.prog 14 #[v, u] w fun e w' => e = .returned (.bool c) ∧ w = w'
theorem Sames.mk {W : World} {v u : Value} {l m : List (BitVec 8)} {c : Bool} (hv : Str8 W v l) (hu : Str8 W u m) (hc : decide (l = m) = c) : Sames W v u c := by
  intro w h; rw [← hc]; exact same_since hv hu h
end Go.Proofs.YtbngkmlipmhgdaaDoor
/- A range over a function that hands the body memory of its own making, and that is told of memory which the body may turn when it leaves, but not else (M). By the verifier of shale. -/
namespace Go.Proofs.YtbngkmlipmhgdaaDoor
open Go Go.RowKit
set_option linter.unusedVariables false
set_option linter.unusedSimpArgs false
/-- how the body of a round may be left. -/
def leftGiftM {α : Type} (I : List α → List Nat → World → Prop) (Ix : Code → List α → List Nat → World → Prop) (gx : List Nat) (xs : List α) (bl : List Nat) (W : World) : Exit → Act → World → Prop
  | .normal, _, W' => ∃ bl', Tn (gx ++ bl) W W' bl' ∧ I xs bl' W'
  | .ret, _, W' => ∃ bl', Tn (gx ++ bl) W W' bl' ∧ Ix .ret xs bl' W'
  | .exit id, _, W' => ∃ bl', Tn (gx ++ bl) W W' bl' ∧ Ix (.exit id) xs bl' W'
  | .goto t, _, W' => ∃ bl', Tn (gx ++ bl) W W' bl' ∧ Ix (.goto t) xs bl' W'
  | .panic _, _, _ => False
  | .outgrown, _, _ => False
/-- the iterator's side: O is what is carried on for the body and the loop; ol the blocks that they own; C what the iterator finds. -/
def IterGiftM {α : Type} (n : Nat) (P : Program) (gf : Nat) (lb : Array Value) (encs : α → Array Value) (gift : α → List Nat) (B : Nat) (cl : List Nat) (M : World → Prop) (V : List α → α → List Nat → World → Prop) (S Sp : List α → Prop) (C : List Nat → World → Prop) : Prop :=
  ∀ (l : Nat) (O : List α → List Nat → World → Prop) (Ox : Code → List α → List Nat → World → Prop) (ol : List Nat) (W : World),
    (∀ pre ol X Y, O pre ol X → Fr B cl ol X Y → O pre ol Y) → (∀ c pre ol X Y, Ox c pre ol X → Fr B cl ol X Y → Ox c pre ol Y) →
    (∀ pre ol X, O pre ol X → ∀ k ∈ ol, k < X.heap.size) → (∀ pre ol X, O pre ol X → M X) →
    (∀ pre x ol X, O pre ol X → V pre x ol X → YieldAt Fence.wide n P l (encs x) X fun e Y => ∃ ol', Tn (gift x ++ ol) X Y ol' ∧
      ((e = .returned (.bool true) ∧ O (pre ++ [x]) ol' Y) ∨ (e = .returned (.bool false) ∧ ∃ c, Ox c (pre ++ [x]) ol' Y))) →
    B ≤ W.heap.size → O [] ol W → C ol W →
    CallsIn Fence.wide n P gf (#[.func (.yield l) #[] #[]] ++ lb) W fun e W' => (∃ v, e = .returned v) ∧
      ((∃ xs ol', S xs ∧ O xs ol' W') ∨ (∃ pre c ol', Sp pre ∧ Ox c pre ol' W'))
/-- **THE STATEMENT.** -/
theorem range_giftM {α : Type} {n : Nat} {P : Program} {g : Operand} {ps : Array Tmp} {assign body : Code} {Q : Exit → Act → World → Prop} {a : Act} {w : World}
    {gf : Nat} {lb : Array Value} (hg : a.eval g = .func (.func gf) #[] lb) (eg : ∀ args w, (callFunc gf args).run P w = .ok (.enter gf args) w)
    {encs : α → Array Value} (hps : ∀ x, (encs x).size = ps.size) {gift : α → List Nat} {V : List α → α → List Nat → World → Prop} {S Sp : List α → Prop} (cl : List Nat) {M : World → Prop} {C : List Nat → World → Prop}
    (I : List α → List Nat → World → Prop) (Ix : Code → List α → List Nat → World → Prop)
    (hI : ∀ pre bl X Y, I pre bl X → Fr w.heap.size cl bl X Y → I pre bl Y) (hIx : ∀ c pre bl X Y, Ix c pre bl X → Fr w.heap.size cl bl X Y → Ix c pre bl Y)
    (hIl : ∀ pre bl X, I pre bl X → ∀ k ∈ bl, k < X.heap.size) (hM : ∀ pre bl X, I pre bl X → M X) {bl0 : List Nat} (h0 : I [] bl0 w)
    (hC : ∀ W, Below w.heap.size w W → C (w.heap.size :: (w.heap.size + 1) :: bl0) W)
    (hVg : ∀ pre x ol X, V pre x ol X → ∀ k ∈ gift x, k ∉ ol) (hVl : ∀ pre x ol X, V pre x ol X → ∀ k ∈ gift x, k < X.heap.size) (hVs : ∀ pre x ol X Y, V pre x ol X → Tn ol X Y ol → V pre x ol Y)
    (hit : IterGiftM (n - 1) P gf lb encs gift w.heap.size cl M V S Sp C) (a₁ : α → World → Act) (w₁ : α → World → World) (hw₁ : ∀ x W, Below W.heap.size W (w₁ x W))
    (hassign : ∀ (l : Nat) (x : α) (W : World) (K : Act → World → Prop), K (a₁ x W) (w₁ x W) →
      assign.wpIn (Fence.wide.inRound l) (n - 1) P (Exit.then K (fun _ _ _ => False)) { tmps := (ps.zip (encs x)).foldl (fun t (p, v) => t.setIfInBounds p v) a.tmps, defers := [] } W)
    (hbody : ∀ (l : Nat) (pre : List α) (bl : List Nat) (x : α) (W0 W : World), w.heap.size + 1 < W0.heap.size → W.heap.size = (w₁ x W0).heap.size → (∀ k, k < (w₁ x W0).heap.size → k ≠ w.heap.size + 1 → W.heap[k]? = (w₁ x W0).heap[k]?) → (∀ k ∈ bl, k < W0.heap.size) → (∀ k ∈ gift x, k < W0.heap.size) → I pre bl W → V pre x (w.heap.size :: (w.heap.size + 1) :: bl) W → body.wpIn (Fence.wide.inRound l) (n - 1) P (leftGiftM I Ix (gift x) (pre ++ [x]) bl W) (a₁ x W0) W)
    (hdone : ∀ (D : Nat) (xs : List α) (bl : List Nat) (W : World), w.heap.size ≤ D → D < W.heap.size → D ∉ bl → S xs → I xs bl W → W.heap[D]? = some (.deferred (some [])) → Q .normal { a with defers := { target := .collected D, args := #[] } :: a.defers } W)
    (hstop : ∀ (D : Nat) (c : Code) (pre : List α) (bl : List Nat) (W : World), w.heap.size ≤ D → D < W.heap.size → D ∉ bl → Sp pre → Ix c pre bl W → W.heap[D]? = some (.deferred (some [])) → c.wpIn Fence.wide n P Q { a with defers := { target := .collected D, args := #[] } :: a.defers } W) :
    (Code.rangeFunc g ps assign body).wpIn Fence.wide n P Q a w := by
  refine wpIn_rangeFunc ?_
  intro fn hfn
  obtain ⟨B, hB⟩ : ∃ B, B = w.heap.size := ⟨_, rfl⟩
  let rec' : LoopState → Option Code → Loop := fun st pe => { state := st, pending := pe, fn, tmps := a.tmps, params := ps, assign, body, defers := B }
  obtain ⟨W1, hW1⟩ : ∃ W1, (w.alloc (.deferred (some []))).alloc (.loop (rec' .ready none)) = W1 := ⟨_, rfl⟩
  have hbel : Below B w W1 := by rw [← hW1, hB]; exact ((Below.refl _ _).alloc (Nat.le_refl _) _).alloc (by simp) _
  have hD1 : W1.heap[B]? = some (.deferred (some [])) := by
    rw [← hW1, hB]; exact (Below.heap_alloc _ _ _ (by simp)).trans (World.alloc_heap_new w _)
  have hL1 : W1.heap[B + 1]? = some (.loop (rec' .ready none)) := by
    rw [← hW1]
    have := World.alloc_heap_new (w.alloc (.deferred (some []))) (.loop (rec' .ready none))
    rw [World.size_alloc] at this
    rw [hB]; exact this
  -- the two blocks of the loop's own, in whatever state
  let At : LoopState → Option Code → World → Prop := fun st pe W => W.heap[B + 1]? = some (.loop (rec' st pe)) ∧ W.heap[B]? = some (.deferred (some []))
  have hlt : ∀ {st pe W}, At st pe W → B + 1 < W.heap.size := fun h => (Array.getElem?_eq_some_iff.1 h.1).1
  have hAtF : ∀ {st pe cl ol X Y}, At st pe X → B ∈ ol → B + 1 ∈ ol → Fr B cl ol X Y → At st pe Y := by
    intro st pe cl ol X Y h m1 m2 f
    have := hlt h
    exact ⟨(f.same _ (.inr m2) (hlt h)).trans h.1, (f.same _ (.inr m1) (by omega)).trans h.2⟩
  have hAtT : ∀ {st pe bl bl' X Y}, At st pe X → B ∉ bl → B + 1 ∉ bl → Tn bl X Y bl' → At st pe Y ∧ B ∉ bl' ∧ B + 1 ∉ bl' := by
    intro st pe bl bl' X Y h m1 m2 t
    have := hlt h
    refine ⟨⟨(t.same _ (hlt h) m2).trans h.1, (t.same _ (by omega) m1).trans h.2⟩, fun hb => ?_, fun hb => ?_⟩
    · rcases t.new _ hb with h1 | h1
      · exact m1 h1
      · omega
    · rcases t.new _ hb with h1 | h1
      · exact m2 h1
      · omega
  -- a turn of the record
  have turn : ∀ (W : World) (st st' : LoopState) (pe pe' : Option Code), At st pe W → At st' pe' (W.putObj (B + 1) (.loop (rec' st' pe'))) ∧ Tn [B + 1] W (W.putObj (B + 1) (.loop (rec' st' pe'))) [B + 1] := by
    intro W st st' pe pe' h
    refine ⟨⟨World.putObj_heap_same (hlt h), (World.putObj_heap_other (by omega)).trans h.2⟩, ⟨rfl, rfl, rfl, by simp, fun k _ hk => World.putObj_heap_other (by simpa using hk), fun _ h => .inl h⟩⟩
  -- such a turn frames what the body owns
  have fr : ∀ {bl X Y}, B + 1 ∉ bl → Tn [B + 1] X Y [B + 1] → Fr B cl bl X Y := by
    intro bl X Y m t
    refine ⟨t.os, t.tape, t.output, t.size, fun k hk hl => t.same k hl fun hm => ?_⟩
    rw [List.mem_singleton.1 hm] at hk
    rcases hk with ⟨h1, _⟩ | h1
    · omega
    · exact m h1
  rw [← hB] at hI hIx hC hit
  refine ⟨B + 1, [{ target := .collected B, args := #[] }], W1, { target := .fn (.func gf) lb, args := #[.func (.yield (B + 1)) #[] #[]] }, W1, gf, #[.func (.yield (B + 1)) #[] #[]] ++ lb, W1, ?_, ?_, ?_, ?_, fun h => by simp [Fence.wide] at h, ?_⟩
  · rw [← hW1]
    subst hB
    exact run_enterLoop_outer _ _ _ _ _
  · simp only [resolve, hg]
    simp [go_sem]
  · intro f' _; trivial
  · simp [invoke, go_sem, eg]
  have m0 : B ∉ bl0 ∧ B + 1 ∉ bl0 := ⟨fun h => by have := hIl _ _ _ h0 _ h; omega, fun h => by have := hIl _ _ _ h0 _ h; omega⟩
  have hBW1 : B ≤ W1.heap.size := by have := hbel.size; omega
  refine (hit (B + 1) (fun pre ol W => ∃ bl, ol = B :: (B + 1) :: bl ∧ B ∉ bl ∧ B + 1 ∉ bl ∧ I pre bl W ∧ At .ready none W) (fun c pre ol W => ∃ bl, ol = B :: (B + 1) :: bl ∧ B ∉ bl ∧ B + 1 ∉ bl ∧ Ix c pre bl W ∧ At .done (some c) W)
    (B :: (B + 1) :: bl0) W1 ?_ ?_ ?_ ?_ ?_ hBW1 ⟨bl0, rfl, m0.1, m0.2, hI _ _ _ _ h0 (.below (by rw [← hB]; exact hbel)), hL1, hD1⟩ (hC _ hbel)).mono ?_
  · rintro pre ol X Y ⟨bl, rfl, m1, m2, hi, hK⟩ f
    exact ⟨bl, rfl, m1, m2, hI _ _ _ _ hi (f.sub (Nat.le_refl _) fun k hk => .inl (by simp [hk])), hAtF hK (by simp) (by simp) f⟩
  · rintro c pre ol X Y ⟨bl, rfl, m1, m2, hi, hK⟩ f
    exact ⟨bl, rfl, m1, m2, hIx _ _ _ _ _ hi (f.sub (Nat.le_refl _) fun k hk => .inl (by simp [hk])), hAtF hK (by simp) (by simp) f⟩
  · rintro pre ol X ⟨bl, rfl, m1, m2, hi, hK⟩ k hk
    have := hlt hK
    rcases List.mem_cons.1 hk with rfl | hk
    · omega
    · rcases List.mem_cons.1 hk with rfl | hk
      · exact this
      · exact hIl _ _ _ hi k hk
  · rintro pre ol X ⟨bl, rfl, m1, m2, hi, hK⟩
    exact hM _ _ _ hi
  · -- one round
    rintro pre x ol W ⟨bl, rfl, m1, m2, hi, hK⟩ hv
    have hg := hVg _ _ _ _ hv
    have g1 : B ∉ gift x ++ bl := fun h => by
      rcases List.mem_append.1 h with h | h
      · exact hg _ h (by simp)
      · exact m1 h
    have g2 : B + 1 ∉ gift x ++ bl := fun h => by
      rcases List.mem_append.1 h with h | h
      · exact hg _ h (by simp)
      · exact m2 h
    have hb1 := hw₁ x W
    have hK1 : At .ready none (w₁ x W) := ⟨(hb1.block _ (hlt hK)).trans hK.1, (hb1.block _ (by have := hlt hK; omega)).trans hK.2⟩
    refine ⟨fn, _, assign, body, run_yield hK.1 (hps x), roundIn_wide (n := n - 1) (roundIn_of_wpIn trivial (hassign _ x W _ ⟨_, run_beginRound hK1.1 rfl, ?_⟩))⟩
    obtain ⟨k2, b2⟩ := turn (w₁ x W) .ready .busy none none hK1
    have lift : ∀ {bl2 X Y}, Tn [B + 1] X Y [B + 1] → Tn (B :: (B + 1) :: bl2) X Y (B :: (B + 1) :: bl2) := by
      intro bl2 X Y t
      exact ⟨t.os, t.tape, t.output, t.size, fun k hk hb => t.same k hk (by simp only [List.mem_singleton]; rintro rfl; exact hb (by simp)), fun _ h => .inl h⟩
    have liftg : ∀ {X Y}, Tn [B + 1] X Y [B + 1] → Tn (gift x ++ (B :: (B + 1) :: bl)) X Y (gift x ++ (B :: (B + 1) :: bl)) := by
      intro X Y t
      exact ⟨t.os, t.tape, t.output, t.size, fun k hk hb => t.same k hk (by simp only [List.mem_singleton]; rintro rfl; exact hb (by simp)), fun _ h => .inl h⟩
    have lift2 : ∀ {bl3 X Y}, Tn (gift x ++ bl) X Y bl3 → Tn (gift x ++ (B :: (B + 1) :: bl)) X Y (B :: (B + 1) :: bl3) := by
      intro bl3 X Y t
      refine ⟨t.os, t.tape, t.output, t.size, fun k hk hb => t.same k hk fun h => hb ?_, fun k hk => ?_⟩
      · rcases List.mem_append.1 h with h | h
        · exact List.mem_append_left _ h
        · exact List.mem_append_right _ (by simp [h])
      · rcases List.mem_cons.1 hk with rfl | hk
        · exact .inl (by simp)
        · rcases List.mem_cons.1 hk with rfl | hk
          · exact .inl (by simp)
          · rcases t.new k hk with h | h
            · refine .inl ?_
              rcases List.mem_append.1 h with h | h
              · exact List.mem_append_left _ h
              · exact List.mem_append_right _ (by simp [h])
            · exact .inr h
    have hl9 := hIl _ _ _ hi
    have hg9 := hVl _ _ _ _ hv
    refine wpIn_mono (hbody _ pre bl x W _ (by rw [← hB]; exact hlt hK) (by simp) (fun k hk hne => World.putObj_heap_other (by rw [← hB] at hne; exact hne)) hl9 hg9 (hI _ _ _ _ (hI _ _ _ _ hi (.below hb1)) (fr m2 b2)) (by rw [← hB]; exact hVs _ _ _ _ _ (hVs _ _ _ _ _ hv (Tn.below hb1)) (lift b2))) ?_
    have fin : ∀ (jump : Option Code) (bl' : List Nat) (W3 : World), Tn (gift x ++ bl) ((w₁ x W).putObj (B + 1) (.loop (rec' .busy none))) W3 bl' → At .busy none W3 ∧ B ∉ bl' ∧ B + 1 ∉ bl' ∧
        (Instr.endRound (B + 1) jump).run P W3 = .ok (.bool jump.isNone) (W3.putObj (B + 1) (.loop (rec' (if jump.isNone then .ready else .done) jump))) := by
      intro jump bl' W3 h3
      obtain ⟨k3, n1, n2⟩ := hAtT k2 g1 g2 h3
      exact ⟨k3, n1, n2, run_endRound jump k3.1⟩
    rintro e a3 W3 hp
    cases e with
    | normal =>
      obtain ⟨bl', t3, i3⟩ := hp
      obtain ⟨k3, n1, n2, r3⟩ := fin none bl' W3 t3
      obtain ⟨k4, b4⟩ := turn W3 .busy .ready none none k3
      exact ⟨_, _, r3, _, ((((Tn.below hb1).trans (liftg b2)).trans (lift2 t3)).trans (lift b4)), .inl ⟨rfl, bl', rfl, n1, n2, hI _ _ _ _ i3 (fr n2 b4), k4⟩⟩
    | ret =>
      obtain ⟨bl', t3, i3⟩ := hp
      obtain ⟨k3, n1, n2, r3⟩ := fin (some .ret) bl' W3 t3
      obtain ⟨k4, b4⟩ := turn W3 .busy .done none (some .ret) k3
      exact ⟨_, _, r3, _, ((((Tn.below hb1).trans (liftg b2)).trans (lift2 t3)).trans (lift b4)), .inr ⟨rfl, _, bl', rfl, n1, n2, hIx _ _ _ _ _ i3 (fr n2 b4), k4⟩⟩
    | exit id =>
      obtain ⟨bl', t3, i3⟩ := hp
      obtain ⟨k3, n1, n2, r3⟩ := fin (some (.exit id)) bl' W3 t3
      obtain ⟨k4, b4⟩ := turn W3 .busy .done none (some (.exit id)) k3
      exact ⟨_, _, r3, _, ((((Tn.below hb1).trans (liftg b2)).trans (lift2 t3)).trans (lift b4)), .inr ⟨rfl, _, bl', rfl, n1, n2, hIx _ _ _ _ _ i3 (fr n2 b4), k4⟩⟩
    | goto t =>
      obtain ⟨bl', t3, i3⟩ := hp
      obtain ⟨k3, n1, n2, r3⟩ := fin (some (.goto t)) bl' W3 t3
      obtain ⟨k4, b4⟩ := turn W3 .busy .done none (some (.goto t)) k3
      exact ⟨_, _, r3, _, ((((Tn.below hb1).trans (liftg b2)).trans (lift2 t3)).trans (lift b4)), .inr ⟨rfl, _, bl', rfl, n1, n2, hIx _ _ _ _ _ i3 (fr n2 b4), k4⟩⟩
    | panic ch => exact hp.elim
    | outgrown => exact hp.elim
  · -- behind the iterator
    rintro e W2 ⟨⟨v, rfl⟩, (⟨xs, ol', hS, bl, rfl, m1, m2, hi, hK⟩ | ⟨pre, c, ol', hSp, bl, rfl, m1, m2, hi, hK⟩)⟩
    · obtain ⟨k3, b3⟩ := turn W2 .ready .exhausted none none hK
      exact ⟨none, _, run_endLoop hK.1 (by simp [rec']), hdone _ xs bl _ (by omega) (Array.getElem?_eq_some_iff.1 k3.2).1 m1 hS (hI _ _ _ _ hi (fr m2 b3)) k3.2⟩
    · obtain ⟨k3, b3⟩ := turn W2 .done .exhausted (some c) (some c) hK
      exact ⟨some c, _, run_endLoop hK.1 (by simp [rec']), hstop _ c pre bl _ (by omega) (Array.getElem?_eq_some_iff.1 k3.2).1 m1 hSp (hIx _ _ _ _ _ hi (fr m2 b3)) k3.2⟩
end Go.Proofs.YtbngkmlipmhgdaaDoor
/- A function's return behind ranges over functions, each of which has left its mark. By the verifier of shale. -/
namespace Go.Proofs.YtbngkmlipmhgdaaDoor
open Go Go.RowKit
set_option linter.unusedVariables false
set_option linter.unusedSimpArgs false
/-- the mark of a loop's put-off calls. -/
def mark (D : Nat) : Deferred := { target := .collected D, args := #[] }
theorem marks_post {F : Fence} {n : Nat} {P : Program} {fn : Func} {tmps : Array Value} {R : Ending → World → Prop} : ∀ (ds : List Nat) (W : World), ds.Nodup → (∀ D ∈ ds, W.heap[D]? = some (.deferred (some []))) →
    (∀ W', W'.os = W.os → W'.tape = W.tape → W'.output = W.output → W'.heap.size = W.heap.size → (∀ k, k ∉ ds → W'.heap[k]? = W.heap[k]?) → ∃ v, (results fn tmps).run P W' = .ok v W' ∧ R (.returned v) W') →
    bodyPostM F n P fn R .ret { tmps := tmps, defers := ds.map mark } W
  | [], W, _, _, h => h W rfl rfl rfl rfl fun _ _ => rfl
  | D :: ds, W, hn, hd, h => by
    rw [List.nodup_cons] at hn
    refine ⟨by simp, .inl ⟨D, _, rfl, run_takeDeferred (hd D (List.mem_cons_self ..)), marks_post (F := F) (n := n) (P := P) (fn := fn) (tmps := tmps) (R := R) ds _ hn.2 (fun X hX => ?_) fun W' e1 e2 e3 e4 e5 => ?_⟩⟩
    · exact (World.putObj_heap_other (fun e => hn.1 (by rw [← e]; exact hX))).trans (hd X (List.mem_cons_of_mem _ hX))
    · refine h W' e1 e2 e3 (by rw [e4]; simp) fun k hk => ?_
      rw [List.mem_cons, not_or] at hk
      exact (e5 k hk.2).trans (World.putObj_heap_other (fun e => hk.1 e))
end Go.Proofs.YtbngkmlipmhgdaaDoor
/- A region that draws its order, within a round of a range over a function: what it does leaves the world in a class; one walk in the text's order serves all. By the verifier of shale. -/
namespace Go.Proofs.YtbngkmlipmhgdaaDoor
open Go Go.RowKit
set_option linter.unusedVariables false
/-- nothing is put off. -/
def noDefer (o : Oper) : Bool := match o.op with
  | .defer _ => false
  | _ => true
theorem noDefer_op {o : Oper} (h : noDefer o = true) : ∀ c, o.op ≠ .defer c := by
  intro c e
  unfold noDefer at h
  rw [e] at h
  cases h
section
variable {l n : Nat} {P : Program} {ops : Array Oper} {md : Region.Mode} {C : World → Prop}
end
end Go.Proofs.YtbngkmlipmhgdaaDoor
/- A region that draws its order, within a round of a range over a function: walked by the laws of a region outside of it. By the verifier of shale. -/
namespace Go.Proofs.YtbngkmlipmhgdaaDoor
open Go Go.RowKit
set_option linter.unusedVariables false
section
variable {l n : Nat} {P : Program} {ops : Array Oper} {md : Region.Mode}
theorem opIn_any {o : Oper} {a : Act} {K : Act → World → Prop} {Q : Exit → Act → World → Prop} {w : World} (hd : noDefer o = true) (h : o.wp P a w K Q) : o.wpIn (Fence.wide.inRound l) n P a w K Q := by
  refine ⟨fun _ _ => trivial, ?_⟩
  show o.uponIn (Fence.wide.inRound l) n P a K Q ((Oper.semAt (some l) a.eval o).run P w)
  rw [Oper.semAt_some l _ _ (noDefer_op hd)]
  unfold Oper.wp at h
  revert h
  generalize (execOp a.eval o).run P w = r
  intro h
  match r, h with
  | .ok (.value u) w', h => exact h
  | .ok .skip w', h => exact h
  | .ok (.defer d) w', h => exact h
  | .ok (.enter f args) w', h => exact ⟨fun e => absurd e (by simp [Fence.wide]), CallsIn.inRound l (callsIn_wide.2 h)⟩
  | .ok (.row r args) w', h => exact ⟨fun e => absurd e (by simp [Fence.wide]), fun c cs _ => let ⟨v, w2, r1, s⟩ := h c cs; ⟨v, w2, r1, (stepsIn_wide (P := P)).2 s⟩⟩
  | .halt (.panic v) w', h => exact h
theorem anyIn_any {Q : Exit → Act → World → Prop} (hd : ∀ (i : Nat) (o : Oper), ops[i]? = some o → noDefer o = true) (hL : ¬ LetsOut Q) : ∀ (f : Nat) (s : Array Bool) (a : Act) (w : World), wpAny P md ops Q f s a w → wpAnyIn (Fence.wide.inRound l) n P md ops Q f s a w
  | 0, s, a, w, h => h
  | f + 1, s, a, w, h => by
    refine ⟨h.1, fun i hi => ?_⟩
    have hq := h.2 i hi
    unfold wpOp at hq
    unfold wpOpIn
    cases ho : ops[i]? with
    | none =>
      rw [ho] at hq
      exact anyIn_any hd hL f _ _ _ hq
    | some o =>
      rw [ho] at hq
      simp only at hq ⊢
      by_cases hwt : Region.wanted o (yielded ops a.tmps) = true
      · rw [if_pos hwt] at hq ⊢
        rcases hq with hq | ⟨_, hq⟩
        · exact Oper.wpIn_mono (fun a' w' h' => anyIn_any hd hL f _ a' w' h') (opIn_any (hd i o ho) hq)
        · exact absurd hq hL
      · rw [if_neg hwt] at hq ⊢
        exact ⟨fun _ _ => trivial, anyIn_any hd hL f _ _ _ hq⟩
/-- **THE STATEMENT.** -/
theorem wpIn_round_held {id : Nat} {Q : Exit → Act → World → Prop} {a : Act} {w : World} {S : World → Prop} {os : List Oper} (hm : P.follows .mixedOrders = true) (hn : os.all noDefer = true) (hL : ¬ LetsOut Q) (hS : S w.drew)
    (h : S w.drew → wpAnyH P .any os.toArray Q S os.toArray.size (Array.replicate os.toArray.size false) a w.drew) : (Code.region id os.toArray true).wpIn (Fence.wide.inRound l) n P Q a w := by
  have hd : ∀ (i : Nat) (o : Oper), os.toArray[i]? = some o → noDefer o = true := fun i o ho => by
    rw [List.getElem?_toArray] at ho
    exact List.all_eq_true.1 hn o (List.mem_of_getElem? ho)
  exact wpIn_region_any hm (anyIn_any hd hL _ _ _ _ (wpAny_of_held _ _ _ _ (h hS)))
end
end Go.Proofs.YtbngkmlipmhgdaaDoor
