/- Texts of the verifier of shale, laid into one: RangeSep, FldOrd, FldTrace, SeaSteps, SeaRoots, SeaPlain, SeaRootsP, SeaOf, SeaOps, SeaFirst, SeaLaw, LocRow, LocSt, LocSum, LocMend, LocRun, LocRunW, LocOps, Args. -/
import Derived.Test.YthmfneepnkgmgaaGreatDoorGreat1
import Derived.Test.YthmfneepnkgmgaaGreatDoorGreat2
import Derived.Shelf.Abstract
import Derived.Shelf.RegionOpen
import Derived.WalkKit
import Derived.OwnWalkIn
import Derived.TacticsInMore
import Derived.LoopNIn
import Derived.LoopIn
import Derived.Deep.RegionHeld3
import Derived.Deep.LoopGhost
import Derived.Deep.Cut
import Derived.Maps.OwnIn
import Derived.Stop.RegionWithIn
import Derived.Deep.QuietTactic
import Derived.BigQuiet
import Derived.Deep.AppendLies
import Derived.Deep.RegionLaw
import Derived.Deep.Fields
import Derived.ChangeArms
import Derived.WideShapes
import Derived.ProofKit
import Derived.ChangeOld
/- A range over a function whose iterator and whose body each own blocks of their own (captured cells, lists that grow in place): what either does leaves alone what the other owns. By the verifier of shale. -/
namespace Go.Proofs.YthmfneepnkgmgaaGreatDoor
open Go Go.RowKit
set_option linter.unusedVariables false
/-- below B (cl aside) and in bl all lies as it lay. -/
structure Fr (B : Nat) (cl bl : List Nat) (X Y : World) : Prop where
  os : Y.os = X.os
  tape : Y.tape = X.tape
  output : Y.output = X.output
  size : X.heap.size ≤ Y.heap.size
  same : ∀ k, (k < B ∧ k ∉ cl) ∨ k ∈ bl → k < X.heap.size → Y.heap[k]? = X.heap[k]?
theorem Fr.refl (B : Nat) (cl bl : List Nat) (X : World) : Fr B cl bl X X := ⟨rfl, rfl, rfl, Nat.le_refl _, fun _ _ _ => rfl⟩
theorem Fr.trans {B : Nat} {cl bl : List Nat} {X Y Z : World} (h : Fr B cl bl X Y) (k : Fr B cl bl Y Z) : Fr B cl bl X Z :=
  ⟨k.os.trans h.os, k.tape.trans h.tape, k.output.trans h.output, Nat.le_trans h.size k.size, fun i hi hs => (k.same i hi (Nat.lt_of_lt_of_le hs h.size)).trans (h.same i hi hs)⟩
theorem Fr.below {B : Nat} {cl bl : List Nat} {X Y : World} (h : Below X.heap.size X Y) : Fr B cl bl X Y := ⟨h.os, h.tape, h.output, h.size, fun k _ hk => h.block k hk⟩
theorem Fr.sub {B B' : Nat} {cl bl bl' : List Nat} {X Y : World} (h : Fr B cl bl X Y) (hB : B' ≤ B) (hs : ∀ k ∈ bl', k ∈ bl ∨ (k < B ∧ k ∉ cl)) : Fr B' cl bl' X Y :=
  ⟨h.os, h.tape, h.output, h.size, fun k hk hl => h.same k (by
    rcases hk with ⟨h1, h2⟩ | h1
    · exact .inl ⟨by omega, h2⟩
    · rcases hs k h1 with h2 | h2
      · exact .inr h2
      · exact .inl h2) hl⟩
/-- a store into a block that is none of these. -/
theorem Fr.setCell {B : Nat} {cl bl : List Nat} (X : World) (p : Addr) (u : Value) (h1 : p.block < B → p.block ∈ cl) (h2 : p.block ∉ bl) : Fr B cl bl X (X.setCell p u) :=
  ⟨rfl, rfl, rfl, by simp [World.setCell], fun k hk _ => Below.heap_setCell _ _ _ _ (by
    rintro rfl
    rcases hk with ⟨h, h'⟩ | h
    · exact h' (h1 h)
    · exact h2 h)⟩
/-- what the owner of bl may do: it turns these, and makes new ones. -/
structure Tn (bl : List Nat) (X Y : World) (bl' : List Nat) : Prop where
  os : Y.os = X.os
  tape : Y.tape = X.tape
  output : Y.output = X.output
  size : X.heap.size ≤ Y.heap.size
  same : ∀ k, k < X.heap.size → k ∉ bl → Y.heap[k]? = X.heap[k]?
  new : ∀ k ∈ bl', k ∈ bl ∨ X.heap.size ≤ k
theorem Tn.refl (bl : List Nat) (X : World) : Tn bl X X bl := ⟨rfl, rfl, rfl, Nat.le_refl _, fun _ _ _ => rfl, fun _ h => .inl h⟩
theorem Tn.trans {b1 b2 b3 : List Nat} {X Y Z : World} (h : Tn b1 X Y b2) (k : Tn b2 Y Z b3) : Tn b1 X Z b3 := by
  refine ⟨k.os.trans h.os, k.tape.trans h.tape, k.output.trans h.output, Nat.le_trans h.size k.size, fun i hi hs => ?_, fun i hi => ?_⟩
  · refine (k.same i (Nat.lt_of_lt_of_le hi h.size) fun hb => ?_).trans (h.same i hi hs)
    rcases h.new i hb with h1 | h1
    · exact hs h1
    · omega
  · rcases k.new i hi with h1 | h1
    · exact h.new i h1
    · exact .inr (Nat.le_trans h.size h1)
theorem Tn.below {bl : List Nat} {X Y : World} (h : Below X.heap.size X Y) : Tn bl X Y bl := ⟨h.os, h.tape, h.output, h.size, fun k hk _ => h.block k hk, fun _ h => .inl h⟩
theorem Tn.setCell {bl : List Nat} (X : World) (p : Addr) (u : Value) (h : p.block ∈ bl) : Tn bl X (X.setCell p u) bl :=
  ⟨rfl, rfl, rfl, by simp [World.setCell], fun k _ hk => Below.heap_setCell _ _ _ _ (by rintro rfl; exact hk h), fun _ h => .inl h⟩
/-- how the body of a round may be left. -/
def leftSep {α : Type} (I : List α → List Nat → World → Prop) (Ix : Code → List α → List Nat → World → Prop) (xs : List α) (bl : List Nat) (W : World) : Exit → Act → World → Prop
  | .normal, _, W' => ∃ bl', Tn bl W W' bl' ∧ I xs bl' W'
  | .ret, _, W' => ∃ bl', Tn bl W W' bl' ∧ Ix .ret xs bl' W'
  | .exit id, _, W' => ∃ bl', Tn bl W W' bl' ∧ Ix (.exit id) xs bl' W'
  | .goto t, _, W' => ∃ bl', Tn bl W W' bl' ∧ Ix (.goto t) xs bl' W'
  | .panic _, _, _ => False
  | .outgrown, _, _ => False
/-- the iterator's side: O is what is carried on for the body and the loop; ol the blocks that they own; C what the iterator finds. -/
def IterSep {α : Type} (n : Nat) (P : Program) (gf : Nat) (lb : Array Value) (encs : α → Array Value) (B : Nat) (cl : List Nat) (V : List α → α → Prop) (S Sp : List α → Prop) (C : List Nat → World → Prop) : Prop :=
  ∀ (l : Nat) (O : List α → List Nat → World → Prop) (Ox : Code → List α → List Nat → World → Prop) (ol : List Nat) (W : World),
    (∀ pre ol X Y, O pre ol X → Fr B cl ol X Y → O pre ol Y) → (∀ c pre ol X Y, Ox c pre ol X → Fr B cl ol X Y → Ox c pre ol Y) →
    (∀ pre ol X, O pre ol X → ∀ k ∈ ol, k < X.heap.size) →
    (∀ pre x ol X, O pre ol X → V pre x → YieldAt Fence.wide n P l (encs x) X fun e Y => ∃ ol', Tn ol X Y ol' ∧
      ((e = .returned (.bool true) ∧ O (pre ++ [x]) ol' Y) ∨ (e = .returned (.bool false) ∧ ∃ c, Ox c (pre ++ [x]) ol' Y))) →
    B ≤ W.heap.size → O [] ol W → C ol W →
    CallsIn Fence.wide n P gf (#[.func (.yield l) #[] #[]] ++ lb) W fun e W' => (∃ v, e = .returned v) ∧
      ((∃ xs ol', S xs ∧ O xs ol' W') ∨ (∃ pre c ol', Sp pre ∧ Ox c pre ol' W'))
/-- **THE STATEMENT.** -/
theorem range_sep {α : Type} {n : Nat} {P : Program} {g : Operand} {ps : Array Tmp} {assign body : Code} {Q : Exit → Act → World → Prop} {a : Act} {w : World}
    {gf : Nat} {lb : Array Value} (hg : a.eval g = .func (.func gf) #[] lb) (eg : ∀ args w, (callFunc gf args).run P w = .ok (.enter gf args) w)
    {encs : α → Array Value} (hps : ∀ x, (encs x).size = ps.size) {V : List α → α → Prop} {S Sp : List α → Prop} (cl : List Nat) {C : List Nat → World → Prop}
    (I : List α → List Nat → World → Prop) (Ix : Code → List α → List Nat → World → Prop)
    (hI : ∀ pre bl X Y, I pre bl X → Fr w.heap.size cl bl X Y → I pre bl Y) (hIx : ∀ c pre bl X Y, Ix c pre bl X → Fr w.heap.size cl bl X Y → Ix c pre bl Y)
    (hIl : ∀ pre bl X, I pre bl X → ∀ k ∈ bl, k < X.heap.size) {bl0 : List Nat} (h0 : I [] bl0 w)
    (hC : ∀ W, Below w.heap.size w W → C (w.heap.size :: (w.heap.size + 1) :: bl0) W)
    (hit : IterSep (n - 1) P gf lb encs w.heap.size cl V S Sp C) (a₁ : α → Act)
    (hassign : ∀ (l : Nat) (x : α) (W : World) (K : Act → World → Prop), K (a₁ x) W →
      assign.wpIn (Fence.wide.inRound l) (n - 1) P (Exit.then K (fun _ _ _ => False)) { tmps := (ps.zip (encs x)).foldl (fun t (p, v) => t.setIfInBounds p v) a.tmps, defers := [] } W)
    (hbody : ∀ (l : Nat) (pre : List α) (bl : List Nat) (x : α) (W : World), I pre bl W → V pre x → body.wpIn (Fence.wide.inRound l) (n - 1) P (leftSep I Ix (pre ++ [x]) bl W) (a₁ x) W)
    (hdone : ∀ (D : Nat) (xs : List α) (bl : List Nat) (W : World), w.heap.size ≤ D → D < W.heap.size → D ∉ bl → S xs → I xs bl W → W.heap[D]? = some (.deferred (some [])) → Q .normal { a with defers := { target := .collected D, args := #[] } :: a.defers } W)
    (hstop : ∀ (D : Nat) (c : Code) (pre : List α) (bl : List Nat) (W : World), w.heap.size ≤ D → D < W.heap.size → D ∉ bl → Sp pre → Ix c pre bl W → W.heap[D]? = some (.deferred (some [])) → c.wpIn Fence.wide n P Q { a with defers := { target := .collected D, args := #[] } :: a.defers } W) :
    (Code.rangeFunc g ps assign body).wpIn Fence.wide n P Q a w := by
  refine wpIn_rangeFunc ?_
  intro fn hfn
  obtain ⟨B, hB⟩ : ∃ B, B = w.heap.size := ⟨_, rfl⟩
  let rec' : LoopState → Option Code → Loop := fun st pe => { state := st, pending := pe, fn, tmps := a.tmps, params := ps, assign, body, defers := B }
  obtain ⟨W1, hW1⟩ : ∃ W1, (w.alloc (.deferred (some []))).alloc (.loop (rec' .ready none)) = W1 := ⟨_, rfl⟩
  have hbel : Below B w W1 := by rw [← hW1, hB]; exact ((Below.refl _ _).alloc (Nat.le_refl _) _).alloc (by simp) _
  have hD1 : W1.heap[B]? = some (.deferred (some [])) := by
    rw [← hW1, hB]; exact (Below.heap_alloc _ _ _ (by simp)).trans (World.alloc_heap_new w _)
  have hL1 : W1.heap[B + 1]? = some (.loop (rec' .ready none)) := by
    rw [← hW1]
    have := World.alloc_heap_new (w.alloc (.deferred (some []))) (.loop (rec' .ready none))
    rw [World.size_alloc] at this
    rw [hB]; exact this
  -- the two blocks of the loop's own, in whatever state
  let At : LoopState → Option Code → World → Prop := fun st pe W => W.heap[B + 1]? = some (.loop (rec' st pe)) ∧ W.heap[B]? = some (.deferred (some []))
  have hlt : ∀ {st pe W}, At st pe W → B + 1 < W.heap.size := fun h => (Array.getElem?_eq_some_iff.1 h.1).1
  have hAtF : ∀ {st pe cl ol X Y}, At st pe X → B ∈ ol → B + 1 ∈ ol → Fr B cl ol X Y → At st pe Y := by
    intro st pe cl ol X Y h m1 m2 f
    have := hlt h
    exact ⟨(f.same _ (.inr m2) (hlt h)).trans h.1, (f.same _ (.inr m1) (by omega)).trans h.2⟩
  have hAtT : ∀ {st pe bl bl' X Y}, At st pe X → B ∉ bl → B + 1 ∉ bl → Tn bl X Y bl' → At st pe Y ∧ B ∉ bl' ∧ B + 1 ∉ bl' := by
    intro st pe bl bl' X Y h m1 m2 t
    have := hlt h
    refine ⟨⟨(t.same _ (hlt h) m2).trans h.1, (t.same _ (by omega) m1).trans h.2⟩, fun hb => ?_, fun hb => ?_⟩
    · rcases t.new _ hb with h1 | h1
      · exact m1 h1
      · omega
    · rcases t.new _ hb with h1 | h1
      · exact m2 h1
      · omega
  -- a turn of the record
  have turn : ∀ (W : World) (st st' : LoopState) (pe pe' : Option Code), At st pe W → At st' pe' (W.putObj (B + 1) (.loop (rec' st' pe'))) ∧ Tn [B + 1] W (W.putObj (B + 1) (.loop (rec' st' pe'))) [B + 1] := by
    intro W st st' pe pe' h
    refine ⟨⟨World.putObj_heap_same (hlt h), (World.putObj_heap_other (by omega)).trans h.2⟩, ⟨rfl, rfl, rfl, by simp, fun k _ hk => World.putObj_heap_other (by simpa using hk), fun _ h => .inl h⟩⟩
  -- such a turn frames what the body owns
  have fr : ∀ {bl X Y}, B + 1 ∉ bl → Tn [B + 1] X Y [B + 1] → Fr B cl bl X Y := by
    intro bl X Y m t
    refine ⟨t.os, t.tape, t.output, t.size, fun k hk hl => t.same k hl fun hm => ?_⟩
    rw [List.mem_singleton.1 hm] at hk
    rcases hk with ⟨h1, _⟩ | h1
    · omega
    · exact m h1
  rw [← hB] at hI hIx hC hit
  refine ⟨B + 1, [{ target := .collected B, args := #[] }], W1, { target := .fn (.func gf) lb, args := #[.func (.yield (B + 1)) #[] #[]] }, W1, gf, #[.func (.yield (B + 1)) #[] #[]] ++ lb, W1, ?_, ?_, ?_, ?_, fun h => by simp [Fence.wide] at h, ?_⟩
  · rw [← hW1]
    subst hB
    exact run_enterLoop_outer _ _ _ _ _
  · simp only [resolve, hg]
    simp [go_sem]
  · intro f' _; trivial
  · simp [invoke, go_sem, eg]
  have m0 : B ∉ bl0 ∧ B + 1 ∉ bl0 := ⟨fun h => by have := hIl _ _ _ h0 _ h; omega, fun h => by have := hIl _ _ _ h0 _ h; omega⟩
  have hBW1 : B ≤ W1.heap.size := by have := hbel.size; omega
  refine (hit (B + 1) (fun pre ol W => ∃ bl, ol = B :: (B + 1) :: bl ∧ B ∉ bl ∧ B + 1 ∉ bl ∧ I pre bl W ∧ At .ready none W) (fun c pre ol W => ∃ bl, ol = B :: (B + 1) :: bl ∧ B ∉ bl ∧ B + 1 ∉ bl ∧ Ix c pre bl W ∧ At .done (some c) W)
    (B :: (B + 1) :: bl0) W1 ?_ ?_ ?_ ?_ hBW1 ⟨bl0, rfl, m0.1, m0.2, hI _ _ _ _ h0 (.below (by rw [← hB]; exact hbel)), hL1, hD1⟩ (hC _ hbel)).mono ?_
  · rintro pre ol X Y ⟨bl, rfl, m1, m2, hi, hK⟩ f
    exact ⟨bl, rfl, m1, m2, hI _ _ _ _ hi (f.sub (Nat.le_refl _) fun k hk => .inl (by simp [hk])), hAtF hK (by simp) (by simp) f⟩
  · rintro c pre ol X Y ⟨bl, rfl, m1, m2, hi, hK⟩ f
    exact ⟨bl, rfl, m1, m2, hIx _ _ _ _ _ hi (f.sub (Nat.le_refl _) fun k hk => .inl (by simp [hk])), hAtF hK (by simp) (by simp) f⟩
  · rintro pre ol X ⟨bl, rfl, m1, m2, hi, hK⟩ k hk
    have := hlt hK
    rcases List.mem_cons.1 hk with rfl | hk
    · omega
    · rcases List.mem_cons.1 hk with rfl | hk
      · exact this
      · exact hIl _ _ _ hi k hk
  · -- one round
    rintro pre x ol W ⟨bl, rfl, m1, m2, hi, hK⟩ hlen
    refine ⟨fn, _, assign, body, run_yield hK.1 (hps x), roundIn_wide (n := n - 1) (roundIn_of_wpIn trivial (hassign _ x W _ ⟨_, run_beginRound hK.1 rfl, ?_⟩))⟩
    obtain ⟨k2, b2⟩ := turn W .ready .busy none none hK
    refine wpIn_mono (hbody _ pre bl x _ (hI _ _ _ _ hi (fr m2 b2)) hlen) ?_
    have lift : ∀ {bl2 X Y}, Tn [B + 1] X Y [B + 1] → Tn (B :: (B + 1) :: bl2) X Y (B :: (B + 1) :: bl2) := by
      intro bl2 X Y t
      exact ⟨t.os, t.tape, t.output, t.size, fun k hk hb => t.same k hk (by simp only [List.mem_singleton]; rintro rfl; exact hb (by simp)), fun _ h => .inl h⟩
    have lift2 : ∀ {bl2 bl3 X Y}, Tn bl2 X Y bl3 → Tn (B :: (B + 1) :: bl2) X Y (B :: (B + 1) :: bl3) := by
      intro bl2 bl3 X Y t
      refine ⟨t.os, t.tape, t.output, t.size, fun k hk hb => t.same k hk fun h => hb (by simp [h]), fun k hk => ?_⟩
      rcases List.mem_cons.1 hk with rfl | hk
      · exact .inl (by simp)
      · rcases List.mem_cons.1 hk with rfl | hk
        · exact .inl (by simp)
        · rcases t.new k hk with h | h
          · exact .inl (by simp [h])
          · exact .inr h
    have fin : ∀ (jump : Option Code) (bl' : List Nat) (W3 : World), Tn bl (W.putObj (B + 1) (.loop (rec' .busy none))) W3 bl' → At .busy none W3 ∧ B ∉ bl' ∧ B + 1 ∉ bl' ∧
        (Instr.endRound (B + 1) jump).run P W3 = .ok (.bool jump.isNone) (W3.putObj (B + 1) (.loop (rec' (if jump.isNone then .ready else .done) jump))) := by
      intro jump bl' W3 h3
      obtain ⟨k3, n1, n2⟩ := hAtT k2 m1 m2 h3
      exact ⟨k3, n1, n2, run_endRound jump k3.1⟩
    rintro e a3 W3 hp
    cases e with
    | normal =>
      obtain ⟨bl', t3, i3⟩ := hp
      obtain ⟨k3, n1, n2, r3⟩ := fin none bl' W3 t3
      obtain ⟨k4, b4⟩ := turn W3 .busy .ready none none k3
      exact ⟨_, _, r3, _, ((lift b2).trans (lift2 t3)).trans (lift b4), .inl ⟨rfl, bl', rfl, n1, n2, hI _ _ _ _ i3 (fr n2 b4), k4⟩⟩
    | ret =>
      obtain ⟨bl', t3, i3⟩ := hp
      obtain ⟨k3, n1, n2, r3⟩ := fin (some .ret) bl' W3 t3
      obtain ⟨k4, b4⟩ := turn W3 .busy .done none (some .ret) k3
      exact ⟨_, _, r3, _, ((lift b2).trans (lift2 t3)).trans (lift b4), .inr ⟨rfl, _, bl', rfl, n1, n2, hIx _ _ _ _ _ i3 (fr n2 b4), k4⟩⟩
    | exit id =>
      obtain ⟨bl', t3, i3⟩ := hp
      obtain ⟨k3, n1, n2, r3⟩ := fin (some (.exit id)) bl' W3 t3
      obtain ⟨k4, b4⟩ := turn W3 .busy .done none (some (.exit id)) k3
      exact ⟨_, _, r3, _, ((lift b2).trans (lift2 t3)).trans (lift b4), .inr ⟨rfl, _, bl', rfl, n1, n2, hIx _ _ _ _ _ i3 (fr n2 b4), k4⟩⟩
    | goto t =>
      obtain ⟨bl', t3, i3⟩ := hp
      obtain ⟨k3, n1, n2, r3⟩ := fin (some (.goto t)) bl' W3 t3
      obtain ⟨k4, b4⟩ := turn W3 .busy .done none (some (.goto t)) k3
      exact ⟨_, _, r3, _, ((lift b2).trans (lift2 t3)).trans (lift b4), .inr ⟨rfl, _, bl', rfl, n1, n2, hIx _ _ _ _ _ i3 (fr n2 b4), k4⟩⟩
    | panic ch => exact hp.elim
    | outgrown => exact hp.elim
  · -- behind the iterator
    rintro e W2 ⟨⟨v, rfl⟩, (⟨xs, ol', hS, bl, rfl, m1, m2, hi, hK⟩ | ⟨pre, c, ol', hSp, bl, rfl, m1, m2, hi, hK⟩)⟩
    · obtain ⟨k3, b3⟩ := turn W2 .ready .exhausted none none hK
      exact ⟨none, _, run_endLoop hK.1 (by simp [rec']), hdone _ xs bl _ (by omega) (Array.getElem?_eq_some_iff.1 k3.2).1 m1 hS (hI _ _ _ _ hi (fr m2 b3)) k3.2⟩
    · obtain ⟨k3, b3⟩ := turn W2 .done .exhausted (some c) (some c) hK
      exact ⟨some c, _, run_endLoop hK.1 (by simp [rec']), hstop _ c pre bl _ (by omega) (Array.getElem?_eq_some_iff.1 k3.2).1 m1 hSp (hIx _ _ _ _ _ hi (fr m2 b3)) k3.2⟩
end Go.Proofs.YthmfneepnkgmgaaGreatDoor
/- The last methods of a field: orders, what is an element; the maker's error. By the verifier of shale. -/
namespace Go.Proofs.YthmfneepnkgmgaaGreatDoor.Fld
open Go Go.RowKit Bits16
set_option linter.unusedVariables false
/-- is that a field's element? -/
def isB (m : Nat) (a : Int) : Bool := decide (0 ≤ a ∧ a < (els m : Int))
theorem ret2_i64 {a b : Int} {v : Value} (e : a = b) : Ending.returned (.tuple #[.int .i64 a, v]) = Ending.returned (.tuple #[.int .i64 b, v]) := by rw [e]
section
variable {m s be ce bl : Nat}
variable (h1 : 3 ≤ m) (h2 : m ≤ 14)
include h1 h2
end
set_option maxHeartbeats 400000 in
theorem new_out (m : Int) (hm : m < 3 ∨ 14 < m) (w : World) (p : Addr) (hs : Sent w 4 p) (hg : 4 < w.heap.size) :
    Calls Tryz.prog 53 #[.int .i64 m] w fun e w' => e = .returned (.tuple #[.pointer none, errOf p]) ∧ Below w.heap.size w w' := by
  have hp := fun w => poly_out m hm w
  have HP := Lib.hid hp
  have hs' : w.cell? ⟨4, 0, none⟩ = some (errOf p) := hs
  clear hp hs hm
  go_enter Tryz.func53, Tryz.ntmps53
  go_wp2_with fail
  refine (HP.out w).mono ?_
  rintro e w1 ⟨rfl, b1⟩
  have hs1 := (b1.cell (p := ⟨4, 0, none⟩) hg).trans hs'
  go_wp2_with fail
  go_quiet (fail)
  go_wp2_with fail
  go_ret2
  exact ⟨rfl, b1.trans ((Drawn.mk _ _).below _)⟩
end Go.Proofs.YthmfneepnkgmgaaGreatDoor.Fld
/- Traces: a range over the squares of an element. By the verifier of shale. -/
namespace Go.Proofs.YthmfneepnkgmgaaGreatDoor.Fld
open Go Go.RowKit Bits16 Go.Shelf
set_option linter.unusedVariables false
attribute [local go_sem] Oper.semAt_some
/-- a block of one cell. -/
def Box (W : World) (b : Nat) (v : Value) (t : TypeId) : Prop := W.heap[b]? = some (.cells #[v] t (0, 0))
theorem Box.cell {W : World} {b : Nat} {v : Value} {t : TypeId} (e : Box W b v t) : W.cell? ⟨b, 0, none⟩ = some v := cell_of_one e
theorem Box.free {W : World} {b : Nat} {v : Value} {t : TypeId} (e : Box W b v t) : W.frozen? ⟨b, 0, none⟩ = false := free_of_one e
theorem Box.drawn {W W' : World} {b : Nat} {v : Value} {t : TypeId} (e : Box W b v t) (d : Drawn W W') : Box W' b v t := by obtain ⟨n, rfl⟩ := d; exact e
theorem Box.put {W : World} {b : Nat} {v : Value} {t : TypeId} (e : Box W b v t) (u : Value) : Box (W.setCell ⟨b, 0, none⟩ u) b u t := one_setCell e
theorem Box.other {W : World} {b : Nat} {v : Value} {t : TypeId} (e : Box W b v t) (p : Addr) (u : Value) (hp : b ≠ p.block) : Box (W.setCell p u) b v t := (Below.heap_setCell _ _ _ _ hp).trans e
theorem hi_drawn {B : Nat} {W W' : World} (d : Drawn W W') : Hi B W W' := .below (d.below _)
/-- the sum of these. -/
def xsum (l : List (BitVec 16)) : BitVec 16 := l.foldl (· ^^^ ·) 0
theorem xsum_snoc (l : List (BitVec 16)) (x : BitVec 16) : xsum (l ++ [x]) = xsum l ^^^ x := by simp [xsum]
/-- the first k squares. -/
def sqL (m : Nat) (E : BitVec 16) (k : Nat) : List (BitVec 16) := (List.range k).map fun i => sqs m i E
theorem sqL_succ (m : Nat) (E : BitVec 16) (k : Nat) : sqL m E (k + 1) = sqL m E k ++ [sqs m k E] := by simp [sqL, List.range_succ]
theorem sqL_length (m : Nat) (E : BitVec 16) (k : Nat) : (sqL m E k).length = k := by simp [sqL]
theorem xsum_sqL (m : Nat) (E : BitVec 16) : ∀ k, xsum (sqL m E k) = trTo m E k
  | 0 => rfl
  | k + 1 => by rw [sqL_succ, xsum_snoc, xsum_sqL m E k]; rfl
/-- what the loop's body holds: the sum so far, in a box of its own. -/
def TrI (sb : Nat) (w0 : World) (pre : List (BitVec 16)) (W : World) : Prop := Box W sb (.int .i64 (h (xsum pre))) 3 ∧ Below sb w0 W
theorem TrI.drawn {sb : Nat} {w0 W W' : World} {pre : List (BitVec 16)} (e : TrI sb w0 pre W) (d : Drawn W W') : TrI sb w0 pre W' := ⟨e.1.drawn d, e.2.trans (d.below _)⟩
theorem TrI.put {sb : Nat} {w0 W : World} {pre : List (BitVec 16)} (e : TrI sb w0 pre W) (p : Addr) (u : Value) (hp : sb < p.block) : TrI sb w0 pre (W.setCell p u) := ⟨e.1.other p u (by omega), e.2.setCell (by omega) _⟩
section
variable {m s be ce bl : Nat} (h1 : 3 ≤ m) (h2 : m ≤ 14)
include h1 h2
theorem mul_at (x y : BitVec 16) (hx : x.toNat < 2 ^ m) (hy : y.toNat < 2 ^ m) (w : World) (f : FldAt m w s be ce bl) :
    Calls Tryz.prog 121 #[.pointer (some ⟨s, 0, none⟩), .int .i64 (h x), .int .i64 (h y)] w fun e w' => e = .returned (.int .i64 (h (fmul m x y))) ∧ Drawn w w' := by
  have := mul_any h1 h2 (h x) (h y) w f
  rwa [el_of m h2 x hx, el_of m h2 y hy] at this
end
section
attribute [local go_sem] rxor
variable {m s be ce bl : Nat} (h1 : 3 ≤ m) (h2 : m ≤ 14)
include h1 h2
end
end Go.Proofs.YthmfneepnkgmgaaGreatDoor.Fld
/- The walk over package search's steps. By the verifier of shale. -/
namespace Go.Proofs.YthmfneepnkgmgaaGreatDoor.Sea
open Go Go.RowKit Pl Fld Bits16 Loc
set_option linter.unusedVariables false
theorem own_free {w : World} {base n k g c : Nat} {l : List Int} (h : Own64 w base (.slice (some ⟨g, 0, none⟩) n c) k l) (i : Nat) : w.frozen? ⟨g, i, none⟩ = false := by
  rcases h.2 with ⟨h0, _⟩ | ⟨g', cap', cur, hv, hbg, hh, _⟩
  · cases h0
  · simp only [Value.slice.injEq, Option.some.injEq, Addr.mk.injEq] at hv
    obtain ⟨⟨rfl, _⟩, _⟩ := hv
    unfold World.frozen?
    simp only
    rw [hh]; rfl
theorem own_store {w : World} {base n g c : Nat} {l : List Int} (h : Own64 w base (.slice (some ⟨g, 0, none⟩) n c) n l) (i : Nat) (hi : i < n) (z : Int) : Own64 (w.setCell ⟨g, i, none⟩ (.int .i64 z)) base (.slice (some ⟨g, 0, none⟩) n c) n (l.set i z) := by
  have hl := h.len
  refine ⟨by rw [cells64_length, List.length_set]; omega, ?_⟩
  rcases h.2 with ⟨h0, _⟩ | ⟨g', cap', cur, hv, hbg, hh, hnc, hm, hs, ht⟩
  · cases h0
  · simp only [Value.slice.injEq, Option.some.injEq, Addr.mk.injEq] at hv
    obtain ⟨⟨rfl, _⟩, _, rfl⟩ := hv
    refine Or.inr ⟨g, c, cur.setIfInBounds i (.int .i64 z), rfl, hbg, heap_setCell_same w g i cur _ _ hh, hnc, hm, by simpa using hs, ?_⟩
    rw [Array.toList_setIfInBounds, List.take_set, ht]
    unfold cells64
    rw [List.map_set]
/-- a search in block cb. -/
def chB (w : World) (cb g s : Nat) (a : Option Addr) (n c : Nat) (nn : Int) : Prop := w.heap[cb]? = some (.cells #[.pointer (some ⟨g, 0, none⟩), .pointer (some ⟨s, 0, none⟩), .slice a n c, .int .i64 nn] 138 (0, 0))
theorem chB.cells {w : World} {cb g s : Nat} {a : Option Addr} {n c : Nat} {nn : Int} (h : chB w cb g s a n c nn) :
    w.cell? ⟨cb, 0, none⟩ = some (.pointer (some ⟨g, 0, none⟩)) ∧ w.cell? ⟨cb, 1, none⟩ = some (.pointer (some ⟨s, 0, none⟩)) ∧ w.cell? ⟨cb, 2, none⟩ = some (.slice a n c) ∧ w.cell? ⟨cb, 3, none⟩ = some (.int .i64 nn) := by
  have e : w.heap[cb]? = _ := h
  refine ⟨?_, ?_, ?_, ?_⟩ <;> (unfold World.cell?; simp only; rw [e]; rfl)
abbrev chV (g s : Nat) (a : Option Addr) (n c : Nat) (nn : Int) : Value := .agg #[.pointer (some ⟨g, 0, none⟩), .pointer (some ⟨s, 0, none⟩), .slice a n c, .int .i64 nn]
set_option maxHeartbeats 400000 in
theorem steps_any (g s : Nat) (a : Option Addr) (n c : Nat) (nn : Int) (w : World) :
    Calls Tryz.prog 100 #[chV g s a n c nn] w fun e w' => e = .returned (.func (.func 128) #[] #[.pointer (some ⟨w.heap.size, 0, none⟩)]) ∧ chB w' w.heap.size g s a n c nn ∧ Below w.heap.size w w' := by
  have h1 : Hid (chB (w.alloc (.cells #[.pointer (some ⟨g, 0, none⟩), .pointer (some ⟨s, 0, none⟩), .slice a n c, .int .i64 nn] 138 (0, 0))) w.heap.size g s a n c nn ∧ Below w.heap.size w (w.alloc (.cells #[.pointer (some ⟨g, 0, none⟩), .pointer (some ⟨s, 0, none⟩), .slice a n c, .int .i64 nn] 138 (0, 0)))) :=
    ⟨heap_alloc_new w _, (Below.refl _ _).alloc (Nat.le_refl _) _⟩
  go_enter Tryz.func100, Tryz.ntmps100
  go_wp2_with fail
  go_ret
  exact ⟨rfl, h1.out.1, h1.out.2⟩
theorem intsN_at (l : List Nat) (j : Nat) (hj : j < l.length) : nth64 (intsN l) j = ((l.getD j 0 : Nat) : Int) := by
  unfold nth64 intsN
  simp [hj]
section
variable {m : Nat} [M : Mid m]
/-- what the iterator finds. -/
def Finds (w0 : World) (cb g s : Nat) (a : Option Addr) (n c : Nat) (nn : Int) (ol : List Nat) (W : World) : Prop :=
  Below w0.heap.size w0 W ∧ chB W cb g s a n c nn ∧ w0.heap.size ≤ cb ∧ ∀ k ∈ ol, w0.heap.size ≤ k ∧ k ≠ cb
abbrev encP (p : Ser (El m)) (n : Nat) (i : Nat) : Array Value := #[.int .i64 (i : Int), .int .i64 (zn (ev n p (pt m i)))]
set_option maxRecDepth 100000 in
set_option maxHeartbeats 2000000 in
theorem steps_iter (nf B : Nat) {K : Nat} {w0 : World} {s be ce bl cb g : Nat} {a : Option Addr} {n c : Nat} {p : Ser (El m)} {nn : Int} {y : Addr} (F : FldAt m w0 s be ce bl) (P : NV m w0 K a n c p) (hn : n ≤ 2048) (hnn : nn ≤ 16383) (E : ErrAt w0 5 y) :
    IterSep nf Tryz.prog 128 #[.pointer (some ⟨cb, 0, none⟩)] (encP p n) B [] (fun pre x => pre = List.range x ∧ x < nn.toNat) (fun xs => xs = List.range nn.toNat) (fun pre => ∃ k, k ≤ nn.toNat ∧ pre = List.range k) (Finds w0 cb g s a n c nn) := by
  obtain ⟨i0, hi, hz0, hz1, hz2⟩ := info64
  intro l O Ox ol W hO hOx hOl hY hBW h0 hC
  refine callsIn_wide.2 ?_
  obtain ⟨hB0, hch, hcb, hol⟩ := hC
  obtain ⟨c0, c1, c2, c3⟩ := hch.cells
  have HYY := Lib.hid hY
  have HOO := Lib.hid (And.intro hO (And.intro hOx hOl))
  have H0 := Lib.hid h0
  have HF := Lib.hid (And.intro F (And.intro P (And.intro E hB0)))
  have HC := Lib.hid (And.intro hch (And.intro hcb hol))
  clear hO hOx hOl hY h0 F P E hB0 hch hol
  go_enter Tryz.func128, Tryz.ntmps128
  go_wp2_with fail
  have hsW : cb < W.heap.size := lt_of_block HC.out.1
  have HW : Hid (∀ wx, Below W.heap.size W wx → chB wx cb g s a n c nn ∧ Below w0.heap.size w0 wx) := fun wx b => ⟨(b.block _ hsW).trans HC.out.1, HF.out.2.2.2.trans (b.mono HF.out.2.2.2.size)⟩
  clear c0 c1 c2 c3
  go_loopg [3, 4, 16] n (fun gh s3 s4 s16 wx => ∃ (k q : Nat), gh = n - k ∧ k ≤ n ∧ s16 = .int .i64 (k : Int) ∧ Hid (q = (nz p k).length) ∧ q ≤ k ∧ Hid (Own64 wx W.heap.size s3 q ((nz p k).map fun j => (lg m (p j).val : Int)) ∧ Own64 wx W.heap.size s4 q (intsN (nz p k)) ∧ ∀ x, s3.ownBlock = some x → s4.ownBlock ≠ some x) ∧ Below W.heap.size W wx)
  case atStart => exact ⟨0, 0, rfl, Nat.zero_le _, rfl, rfl, Nat.le_refl _, ⟨Own64.nil W _, Own64.nil W _, fun x hx => by cases hx⟩, Below.refl _ _⟩
  case round =>
    obtain ⟨k, q, hg, hk, rfl, HQ, hq, HO, hB⟩ := hrel
    have HG := Lib.hid hg
    clear hg
    obtain ⟨hch, hB0⟩ := HW.out wr hB
    obtain ⟨c0, c1, c2, c3⟩ := hch.cells
    obtain ⟨x3, y3, e3⟩ := own_slice HO.out.1
    obtain ⟨x4, y4, e4⟩ := own_slice HO.out.2.1
    subst e3 e4
    by_cases hlt : k < n
    · have u1 : (k : Int) < (n : Int) := by omega
      have u2 : (0 : Int) ≤ (k : Int) := by omega
      obtain ⟨bb, off, rfl, cc, _⟩ := (HF.out.2.1.row.below hB0).row k hlt
      rw [nums_at _ _ _ hlt] at cc
      have hf := HF.out.1.below M.lo hB0
      have hzz : el m (zn (p k)) = (p k).val := congrArg Subtype.val (elm_zn (p k))
      have HI1 : Hid (k + 1 ≤ n) := hlt
      have HBk := Lib.hid hB
      by_cases h0 : p k = 0
      · have hnz : nz p (k + 1) = nz p k := by
          unfold nz
          rw [hits_succ, show (!decide (p k = 0)) = false by simp [h0]]
          exact List.append_nil _
        have HNZ := Lib.hid hnz
        have hl := log_zero M.lo M.hi (zn (p k)) wr hf (by rw [hzz, h0]; rfl) y (HF.out.2.2.1.below hB0).1
        generalize zn (p k) = z at cc hl
        clear hnz h0 hzz hf hlt hB hB0 hch
        go_wp2_with fail
        refine hl.mono ?_
        rintro e w5 ⟨rfl, d⟩
        have HN : Hid (Own64 w5 W.heap.size (.slice x3 q y3) q ((nz p k).map fun j => (lg m (p j).val : Int)) ∧ Own64 w5 W.heap.size (.slice x4 q y4) q (intsN (nz p k)) ∧ ∀ x, (Value.slice x3 q y3).ownBlock = some x → (Value.slice x4 q y4).ownBlock ≠ some x) := by
          obtain ⟨nd, rfl⟩ := d
          exact HO.out
        have hB5 := HBk.out.trans (d.below _)
        clear d hl cc c0 c1 c2 c3
        go_wp2_with fail
        go_roundg (n - (k + 1))
        case measure => have := HG.out; have := HI1.out; omega
        case rel => exact ⟨k + 1, q, rfl, HI1.out, by go_num, by rw [HNZ.out]; exact HQ, by omega, by rw [HNZ.out]; exact HN, hB5⟩
      · have hnz : nz p (k + 1) = nz p k ++ [k] := by
          unfold nz
          rw [hits_succ, show (!decide (p k = 0)) = true by simp [h0]]
          rfl
        have HNZ := Lib.hid hnz
        have hl := log_any M.lo M.hi (zn (p k)) wr hf (by rw [hzz]; exact fun e => h0 (El.ext e))
        rw [hzz] at hl
        have hm1 : ((nz p (k + 1)).map fun j => (lg m (p j).val : Int)) = ((nz p k).map fun j => (lg m (p j).val : Int)) ++ [(lg m (p k).val : Int)] := by rw [hnz, List.map_append]; rfl
        have hm2 : intsN (nz p (k + 1)) = intsN (nz p k) ++ [(k : Int)] := by rw [hnz]; simp [intsN]
        have HM := Lib.hid (And.intro hm1 hm2)
        obtain ⟨L1, hL1⟩ : ∃ L1, L1 = ((nz p k).map fun j => (lg m (p j).val : Int)) := ⟨_, rfl⟩
        obtain ⟨L2, hL2⟩ : ∃ L2, L2 = intsN (nz p k) := ⟨_, rfl⟩
        rw [← hL1, ← hL2] at HO HM
        generalize zn (p k) = z at cc hl
        generalize (lg m (p k).val : Int) = lz at hl HM
        have hbs := HBk.out.size
        have ho3 := HO.out.1
        have ho4 := HO.out.2.1
        have hap := HO.out.2.2
        have hb4 : ∀ x, (Value.slice x4 q y4).ownBlock = some x → x < wr.heap.size := fun x hx => (ho4.block x hx).2
        clear hnz h0 hzz hf hlt hB hB0 hch hm1 hm2 hL1 hL2 HO
        go_wp2_with fail
        refine hl.mono ?_
        rintro e w5 ⟨rfl, rfl⟩
        clear hl
        have hH := Lib.hid (And.intro hap hb4)
        clear hap hb4
        go_wp2_with (first
          | (at_builtin; refine wpList_append_lies _ rfl _ _ 33 rfl W.heap.size 3 i0 (.int .i64 0) 1 8 Tryz.underlying33 hi hz0 hz1 hz2 rfl (by decide) (.slice x3 q y3) q (cells64 L1) rfl (World.ownsRow.alloc ho3 _) ⟨wr.heap.size, 0, none⟩ 1 1 [.int .i64 lz] rfl rfl (cell_one_new _ _ _) (ints_oneCell .i64 [_]) (by decide) (by unfold maxLen; omega) (by omega) (by simp; omega) _ rfl ?_; intro g3 cap3 w5 hown3 hgrow3 hat3 hlt3; have ho4' : Own64 w5 W.heap.size (.slice x4 q y4) q L2 := (ho4.keep fun x hx => (hgrow3.block x (by have := hH.out.2 x hx; simp; omega) (fun e => hH.out.1 x e.symm hx)).trans (Below.heap_alloc wr _ x (hH.out.2 x hx))); have hs5 : W.heap.size ≤ w5.heap.size := Nat.le_trans hbs (Nat.le_trans (by simp) hgrow3.size))
          | (at_builtin; refine wpList_append_lies _ rfl _ _ 33 rfl W.heap.size 3 i0 (.int .i64 0) 1 8 Tryz.underlying33 hi hz0 hz1 hz2 rfl (by decide) (.slice x4 q y4) q (cells64 L2) rfl (World.ownsRow.alloc ho4' _) ⟨w5.heap.size, 0, none⟩ 1 1 [.int .i64 (k : Int)] rfl rfl (cell_one_new _ _ _) (ints_oneCell .i64 [_]) (by decide) (by unfold maxLen; omega) (by omega) (by simp; omega) _ rfl ?_; intro g4 cap4 w6 hown4 hgrow4 hat4 hlt4))
        have hne : (Value.slice x4 q y4).ownBlock ≠ some g3 := by
          rcases hat3 with h | h
          · exact hH.out.1 _ h
          · intro hx
            have := hH.out.2 _ hx
            rw [h] at this
            simp at this
            omega
        have hne4 : g3 ≠ g4 := by
          rintro rfl
          rcases hat4 with h | h
          · exact hne h
          · rw [h, World.size_alloc] at hlt3; omega
        have b5 : Below W.heap.size wr w5 := ((Below.refl W.heap.size wr).alloc hbs _).grown hgrow3 (Nat.le_trans hbs (by simp)) (fun x hx => (ho3.block x hx).1)
        have b6 : Below W.heap.size w5 w6 := ((Below.refl W.heap.size w5).alloc hs5 _).grown hgrow4 (Nat.le_trans hs5 (by simp)) (fun x hx => (ho4'.block x hx).1)
        have HN : Hid ((Own64 w6 W.heap.size (.slice (some ⟨g3, 0, none⟩) (q + 1) cap3) (q + 1) ((nz p (k + 1)).map fun j => (lg m (p j).val : Int)) ∧ Own64 w6 W.heap.size (.slice (some ⟨g4, 0, none⟩) (q + 1) cap4) (q + 1) (intsN (nz p (k + 1))) ∧ ∀ x, (Value.slice (some ⟨g3, 0, none⟩) (q + 1) cap3).ownBlock = some x → (Value.slice (some ⟨g4, 0, none⟩) (q + 1) cap4).ownBlock ≠ some x) ∧ Below W.heap.size W w6) := by
          refine ⟨⟨?_, ?_, ?_⟩, HBk.out.trans (b5.trans b6)⟩
          · rw [HM.out.1]
            have h3 : Own64 w5 W.heap.size (.slice (some ⟨g3, 0, none⟩) (q + 1) cap3) (q + 1) (L1 ++ [lz]) := by unfold Own64; rw [← cells64_append]; exact hown3
            refine h3.keep fun x hx => ?_
            simp only [Value.ownBlock, Option.some.injEq] at hx
            subst hx
            exact (hgrow4.block _ (by simp; omega) (fun e => hne e.symm)).trans (Below.heap_alloc w5 _ _ hlt3)
          · rw [HM.out.2]
            unfold Own64; rw [← cells64_append]; exact hown4
          · intro x h1 h2
            simp only [Value.ownBlock, Option.some.injEq] at h1 h2
            omega
        have HQ2 : Hid (q + 1 = (nz p (k + 1)).length) := by show _ = _; rw [HNZ.out, List.length_append, ← HQ.out]; rfl
        clear hne hne4 b5 b6 hown3 hown4 hgrow3 hgrow4 hat3 hat4 hlt3 hlt4 ho3 ho4 ho4' hH HM
        go_wp2_with fail
        go_roundg (n - (k + 1))
        case measure => have := HG.out; have := HI1.out; omega
        case rel => exact ⟨k + 1, q + 1, rfl, HI1.out, by go_num, HQ2, by omega, HN.out.1, HN.out.2⟩
    · obtain rfl : k = n := by omega
      obtain ⟨L, hL⟩ : ∃ L, L = nz p k := ⟨_, rfl⟩
      have HL := Lib.hid hL
      have hlg : ((nz p k).map fun j => (lg m (p j).val : Int)) = lgs p L 0 0 := by rw [hL, lgs_zero]
      rw [hlg, ← hL] at HO
      rw [← hL] at HQ
      have hfr : Fr B [] ol W wr := ⟨hB.os, hB.tape, hB.output, hB.size, fun x _ hx => hB.block x hx⟩
      have hO0 := HOO.out.1 _ _ _ _ H0.out hfr
      have hlt3 : ∀ x, (Value.slice x3 q y3).ownBlock = some x → W.heap.size ≤ x ∧ x < wr.heap.size := HO.out.1.block
      have hlt4 : ∀ x, (Value.slice x4 q y4).ownBlock = some x → W.heap.size ≤ x ∧ x < wr.heap.size := HO.out.2.1.block
      have hol := HOO.out.2.2 _ _ _ H0.out
      have H1 : Hid (∃ ol', O (List.range 0) ol' wr ∧ (∀ x ∈ ol', w0.heap.size ≤ x ∧ x ≠ cb) ∧ (∀ x, (Value.slice x3 q y3).ownBlock = some x → x ∉ ol') ∧ (∀ x, (Value.slice x4 q y4).ownBlock = some x → x ∉ ol') ∧ chB wr cb g s a k c nn ∧ Below w0.heap.size w0 wr ∧ Own64 wr W.heap.size (.slice x3 q y3) q (lgs p L 0 0) ∧ Own64 wr W.heap.size (.slice x4 q y4) q (intsN L)) := by
        refine ⟨ol, hO0, HC.out.2.2, fun x hx h => ?_, fun x hx h => ?_, hch, hB0, HO.out.1, HO.out.2.1⟩
        · have := (hlt3 x hx).1; have := hol x h; omega
        · have := (hlt4 x hx).1; have := hol x h; omega
      have HAP := Lib.hid HO.out.2.2
      obtain ⟨NN, hNN⟩ : ∃ NN, NN = nn.toNat := ⟨_, rfl⟩
      have HNN := Lib.hid hNN
      have hNN2 : NN ≤ 16383 := by omega
      have hqn : q ≤ 2048 := by omega
      have HHB := Lib.hid hB
      have hnnz : (nn ≤ 0 ∧ NN = 0) ∨ nn = (NN : Int) := by omega
      clear hL hlg hfr hO0 hlt3 hlt4 hol HO hB hch hB0 HG hlt hk hNN
      go_wp2_with fail
      clear c0 c1 c2 c3
      go_loopg [41] NN (fun gh s41 wx => ∃ i : Nat, gh = NN - i ∧ i ≤ NN ∧ s41 = .int .i64 (i : Int) ∧ Hid (∃ ol', O (List.range i) ol' wx ∧ (∀ x ∈ ol', w0.heap.size ≤ x ∧ x ≠ cb) ∧ (∀ x, (Value.slice x3 q y3).ownBlock = some x → x ∉ ol') ∧ (∀ x, (Value.slice x4 q y4).ownBlock = some x → x ∉ ol') ∧ chB wx cb g s a k c nn ∧ Below w0.heap.size w0 wx ∧ Own64 wx W.heap.size (.slice x3 q y3) q (lgs p L i 0) ∧ Own64 wx W.heap.size (.slice x4 q y4) q (intsN L)))
      case atStart => exact ⟨0, rfl, Nat.zero_le _, rfl, H1⟩
      case round =>
        clear H1
        obtain ⟨i, hg, hi2, rfl, HI⟩ := hrel
        have HG2 := Lib.hid hg
        clear hg
        obtain ⟨W5, hW5⟩ : ∃ W5, W5 = wr := ⟨_, rfl⟩
        rw [← hW5] at HI ⊢
        clear hW5
        by_cases hlt : i < NN
        · have v1 : (i : Int) < nn := by omega
          have hii : i + 1 ≤ NN := hlt
          clear hlt
          obtain ⟨ol', hOi, hol', hn3, hn4, hch, hB0, ho3, ho4⟩ := HI.out
          have c3 := hch.cells.2.2.2
          have HI0 : Hid (O (List.range i) ol' W5 ∧ chB W5 cb g s a k c nn ∧ Below w0.heap.size w0 W5 ∧ Own64 W5 W.heap.size (.slice x3 q y3) q (lgs p L i 0) ∧ Own64 W5 W.heap.size (.slice x4 q y4) q (intsN L)) := ⟨hOi, hch, hB0, ho3, ho4⟩
          have HN3 := Lib.hid (And.intro hol' (And.intro hn3 hn4))
          clear hOi hol' hn3 hn4 hch hB0 ho3 ho4 HI
          go_wp2_with fail
          clear c3
          go_loopg [10, 46] q (fun gh s10 s46 wx => ∃ j : Nat, gh = q - j ∧ j ≤ q ∧ s46 = .int .i64 (j : Int) ∧ s10 = .int .i64 (zn (tsum p (pt m i) (L.take j))) ∧ Hid (O (List.range i) ol' wx ∧ chB wx cb g s a k c nn ∧ Below w0.heap.size w0 wx ∧ Own64 wx W.heap.size (.slice x3 q y3) q (lgs p L i j) ∧ Own64 wx W.heap.size (.slice x4 q y4) q (intsN L)))
          case atStart => exact ⟨0, rfl, Nat.zero_le _, rfl, rfl, HI0⟩
          case round =>
            clear HI0
            obtain ⟨j, hg, hj, rfl, rfl, HJ⟩ := hrel
            have HG3 := Lib.hid hg
            clear hg
            by_cases hlt : j < q
            · have z1 : (j : Int) < (q : Int) := by omega
              have z2 : (0 : Int) ≤ (j : Int) := by omega
              obtain ⟨hOi, hch, hB0, ho3, ho4⟩ := HJ.out
              have hjl : j < L.length := by rw [← HQ.out]; exact hlt
              obtain ⟨g3, cap3, e3, hb3, hl3, hc3, hcell3⟩ := ho3.cells (by omega)
              simp only [Value.slice.injEq] at e3
              obtain ⟨rfl, _, rfl⟩ := e3
              obtain ⟨g4, cap4, e4, hb4, hl4, hc4, hcell4⟩ := ho4.cells (by omega)
              simp only [Value.slice.injEq] at e4
              obtain ⟨rfl, _, rfl⟩ := e4
              have cc3 := hcell3 j hlt
              have ff3 := own_free ho3 j
              have cc4 := hcell4 j hlt
              rw [intsN_at L j hjl] at cc4
              have elg : nth64 (lgs p L i j) j = lgt p i (L.getD j 0) := lgs_at p L i j j hjl (Nat.le_refl _)
              rw [elg] at cc3
              obtain ⟨d1, d1e⟩ : ∃ d1, d1 = hch.cells.2.1 := ⟨_, rfl⟩
              have k1 := hch.cells.2.1
              have hmem : L.getD j 0 ∈ nz p k := by
                rw [← HL.out, List.getD_eq_getElem?_getD, List.getElem?_eq_getElem hjl]
                exact List.getElem_mem hjl
              have hjk := (hits_mem.1 hmem).1
              have hpj : p (L.getD j 0) ≠ 0 := by
                have := (hits_mem.1 hmem).2
                simpa using this
              have hex := fexp_any M.lo M.hi (lgt p i (L.getD j 0)) wr (HF.out.1.below M.lo hB0)
              have hez : h (pwZ m (lgt p i (L.getD j 0))) = zn (p (L.getD j 0) * pwK (pt m i) (L.getD j 0)) := by
                rw [← lgt_exp hpj i]; rfl
              rw [hez] at hex
              have hx := zn_add (tsum p (pt m i) (L.take j)) (p (L.getD j 0) * pwK (pt m i) (L.getD j 0))
              have htk : L.take (j + 1) = L.take j ++ [L.getD j 0] := by
                rw [List.take_add_one, List.getElem?_eq_getElem hjl, List.getD_eq_getElem?_getD, List.getElem?_eq_getElem hjl]; rfl
              rw [← tsum_snoc, ← htk] at hx
              have hset := lgs_set p L i j
              obtain ⟨lv, hlv⟩ : ∃ lv, lv = lgt p i (L.getD j 0) := ⟨_, rfl⟩
              obtain ⟨jj, hjj⟩ : ∃ jj, jj = L.getD j 0 := ⟨_, rfl⟩
              have hij : i * jj ≤ 16383 * 2048 := Nat.mul_le_mul (by omega) (by rw [hjj]; omega)
              have hlgm : lg m (p jj).val < size m := (lg_spec m M.lo M.hi _ (p jj).2 (fun e => hpj (by rw [← hjj]; exact El.ext e))).1
              have hsz := size_hi m M.hi
              have hlv2 : lv = (lg m (p jj).val : Int) - ((i * jj : Nat) : Int) := by rw [hlv, ← hjj]; unfold lgt; rw [Int.natCast_mul]
              have b1 : -40000000 ≤ lv := by omega
              have b2 : lv ≤ 16383 := by omega
              have b3 : (jj : Int) ≤ 2048 := by rw [hjj]; omega
              have b4 : (0 : Int) ≤ (jj : Int) := by omega
              have HSt : Hid (O (List.range i) ol' (wr.setCell ⟨g3, j, none⟩ (.int .i64 (lv - (jj : Int)))) ∧ chB (wr.setCell ⟨g3, j, none⟩ (.int .i64 (lv - (jj : Int)))) cb g s a k c nn ∧ Below w0.heap.size w0 (wr.setCell ⟨g3, j, none⟩ (.int .i64 (lv - (jj : Int)))) ∧ Own64 (wr.setCell ⟨g3, j, none⟩ (.int .i64 (lv - (jj : Int)))) W.heap.size (.slice (some ⟨g3, 0, none⟩) q y3) q (lgs p L i (j + 1)) ∧ Own64 (wr.setCell ⟨g3, j, none⟩ (.int .i64 (lv - (jj : Int)))) W.heap.size (.slice (some ⟨g4, 0, none⟩) q y4) q (intsN L)) := by
                have hwW := HF.out.2.2.2.size
                refine ⟨HOO.out.1 _ _ _ _ hOi (Fr.setCell _ _ _ (fun h => absurd h (by show ¬ g3 < B; omega)) (HN3.out.2.1 g3 rfl)), (Below.heap_setCell _ _ _ _ (by show cb ≠ g3; omega)).trans hch, hB0.setCell (by show _ ≤ g3; omega) _, ?_, ?_⟩
                · rw [← hset, ← hlv, ← hjj]
                  exact own_store ho3 j hlt _
                · refine ho4.keep fun x hx' => Below.heap_setCell _ _ _ _ ?_
                  simp only [Value.ownBlock, Option.some.injEq] at hx'
                  subst hx'
                  intro h
                  exact HAP.out g3 rfl (by rw [show (Value.slice (some ⟨g4, 0, none⟩) q y4).ownBlock = some g4 from rfl, h])
              have HJ1 : Hid (j + 1 ≤ q) := hlt
              rw [← hlv] at cc3 hex
              rw [← hjj] at cc4
              have HT2 : Hid (zn (tsum p (pt m i) (L.take (j + 1))) = zn (tsum p (pt m i) (L.take (j + 1)))) := rfl
              generalize zn (p (L.getD j 0) * pwK (pt m i) (L.getD j 0)) = q1 at hex hx
              generalize zn (tsum p (pt m i) (L.take j)) = q2 at hx ⊢
              generalize hq3 : zn (tsum p (pt m i) (L.take (j + 1))) = q3 at hx
              have HQ3 := Lib.hid hq3
              clear d1e d1 hOi hch hB0 ho3 ho4 hcell3 hcell4 elg hmem hpj hez htk hset hlv hjj hij hlgm hsz hlv2 hq3 HT2 HJ hb3 hb4 hl3 hl4 hc3 hc4 hlt hjk hjl
              go_wp2_with fail
              refine hex.mono ?_
              rintro e w6 ⟨rfl, rfl⟩
              clear hex
              go_wp2_with fail
              go_roundg (q - (j + 1))
              case measure => have := HG3.out; have := HJ1.out; omega
              case rel => exact ⟨j + 1, rfl, HJ1.out, by go_num, by rw [HQ3.out], HSt⟩
            · obtain rfl : j = q := by omega
              obtain ⟨hOi, hch, hB0, ho3, ho4⟩ := HJ.out
              have hHQ := HQ.out
              have etk : L.take j = L := by rw [hHQ]; exact List.take_length
              have ev1 : tsum p (pt m i) (L.take j) = ev k p (pt m i) := by rw [etk, HL.out]; exact tsum_nz _ _ _
              rw [ev1]
              have elg : lgs p L i j = lgs p L (i + 1) 0 := by rw [hHQ]; exact lgs_all p L i
              rw [elg] at ho3
              obtain ⟨fn, tmps, assign, body, hy, hR⟩ := HYY.out (List.range i) i ol' wr hOi ⟨rfl, by omega⟩
              have HR := Lib.hid hR
              have HK := Lib.hid (And.intro hOi (And.intro hch (And.intro hB0 (And.intro ho3 ho4))))
              clear hOi hch hB0 ho3 ho4 hR ev1 etk elg hHQ HJ hlt
              go_upto_region 18 with (fail)
              refine (wpIn_wide (n := nf)).1 ?_
              gi_wp2
              refine ⟨fun e => by simp [Fence.wide] at e, (roundIn_wide HR.out).mono ?_⟩
              rintro e W6 ⟨ol2, ht, (⟨rfl, hO6⟩ | ⟨rfl, cx, hO6⟩)⟩
              · obtain ⟨hOi, hch, hB0, ho3, ho4⟩ := HK.out
                obtain ⟨hol, hn3, hn4⟩ := HN3.out
                have hsz := HF.out.2.2.2.size
                have hck : cb < wr.heap.size := lt_of_block hch
                have hw0 : w0.heap.size ≤ wr.heap.size := hB0.size
                have HZ : Hid (∃ ol', O (List.range (i + 1)) ol' W6 ∧ (∀ x ∈ ol', w0.heap.size ≤ x ∧ x ≠ cb) ∧ (∀ x, (Value.slice x3 j y3).ownBlock = some x → x ∉ ol') ∧ (∀ x, (Value.slice x4 j y4).ownBlock = some x → x ∉ ol') ∧ chB W6 cb g s a k c nn ∧ Below w0.heap.size w0 W6 ∧ Own64 W6 W.heap.size (.slice x3 j y3) j (lgs p L (i + 1) 0) ∧ Own64 W6 W.heap.size (.slice x4 j y4) j (intsN L)) := by
                  have hnew : ∀ x, x < wr.heap.size → x ∉ ol' → x ∉ ol2 := fun x hx hm hm2 => by
                    rcases ht.new x hm2 with h | h
                    · exact hm h
                    · omega
                  refine ⟨ol2, by rw [List.range_succ]; exact hO6, fun x hx => ?_, fun x hx => hnew x (ho3.block x hx).2 (hn3 x hx), fun x hx => hnew x (ho4.block x hx).2 (hn4 x hx), (ht.same cb hck (fun hm => (hol _ hm).2 rfl)).trans hch, ?_, ho3.keep fun x hx => ht.same x (ho3.block x hx).2 (hn3 x hx), ho4.keep fun x hx => ht.same x (ho4.block x hx).2 (hn4 x hx)⟩
                  · rcases ht.new x hx with h | h
                    · exact hol x h
                    · omega
                  · exact hB0.trans { os := ht.os, tape := ht.tape, output := ht.output, size := ht.size, block := fun x hx => ht.same x (by omega) fun hm => by have := (hol x hm).1; omega }
                clear hOi hch hB0 ho3 ho4 hol hn3 hn4 ht hO6 hsz hck hw0 hy HR HK
                gi_wp2
                go_wp2_with fail
                go_roundg (NN - (i + 1))
                case measure => have := HG2.out; omega
                case rel => exact ⟨i + 1, rfl, hii, by go_num, HZ⟩
              · have HX := Lib.hid hO6
                clear hy HR HK hO6
                gi_wp2
                go_wp2_with fail
                refine bodyPost_ret (results_none rfl _ _ _) rfl ?_
                exact ⟨⟨_, rfl⟩, .inr ⟨List.range (i + 1), cx, ol2, ⟨i + 1, by rw [← HNN.out]; exact hii, rfl⟩, by rw [List.range_succ]; exact HX.out⟩⟩
        · obtain rfl : i = NN := by omega
          have v1 : ¬ (i : Int) < nn := by omega
          obtain ⟨ol', hOi, hol', hn3, hn4, hch, hB0, ho3, ho4⟩ := HI.out
          have c3 := hch.cells.2.2.2
          have HX := Lib.hid hOi
          clear hOi hol' hn3 hn4 hch hB0 ho3 ho4 hlt
          go_wp2_with fail
          go_end0
          exact ⟨⟨_, rfl⟩, .inl ⟨ol', by rw [← HNN.out]; exact HX.out⟩⟩
end
end Go.Proofs.YthmfneepnkgmgaaGreatDoor.Sea
/- The places at which package search's ways find 0. By the verifier of shale. -/
namespace Go.Proofs.YthmfneepnkgmgaaGreatDoor.Sea
open Go Go.RowKit Pl Fld Bits16 Loc Go.Shelf
set_option linter.unusedVariables false
attribute [local go_sem] Oper.semAt_some
section
variable {m : Nat} [M : Mid m]
/-- what the loop's body holds: the places so far, in a box of its own. -/
def RtI (w0 : World) (p : Ser (El m)) (n lb B : Nat) (pre : List Nat) (bl : List Nat) (W : World) : Prop :=
  ∃ (x : Option Addr) (k y : Nat), bl = lb :: (Value.slice x k y).ownBlock.toList ∧ Box W lb (.slice x k y) 33 ∧ k = (pre.filter (zAt p n)).length ∧ Own64 W B (.slice x k y) k (intsN (pre.filter (zAt p n))) ∧ Below w0.heap.size w0 W ∧ w0.heap.size ≤ lb ∧ lb < B ∧ B ≤ W.heap.size
theorem RtI.fr {w0 : World} {p : Ser (El m)} {n lb B : Nat} {pre bl : List Nat} {X Y : World} (h : RtI w0 p n lb B pre bl X) (hB : w0.heap.size ≤ B) (f : Fr B [] bl X Y) : RtI w0 p n lb B pre bl Y := by
  obtain ⟨x, k, y, rfl, b, hk, o, hw, h1, h2, h3⟩ := h
  refine ⟨x, k, y, rfl, (f.same lb (.inr (List.mem_cons_self ..)) (lt_of_block b)).trans b, hk, o.keep fun z hz => f.same z (.inr (by simp [hz])) (o.block z hz).2, hw.trans { os := f.os, tape := f.tape, output := f.output, size := f.size, block := fun z hz => f.same z (.inl ⟨by omega, by simp⟩) (by have := hw.size; omega) }, h1, h2, Nat.le_trans h3 f.size⟩
theorem RtI.lt {w0 : World} {p : Ser (El m)} {n lb B : Nat} {pre bl : List Nat} {X : World} (h : RtI w0 p n lb B pre bl X) : ∀ k ∈ bl, k < X.heap.size := by
  obtain ⟨x, k, y, rfl, b, hk, o, hw, h1, h2, h3⟩ := h
  intro z hz
  rcases List.mem_cons.1 hz with rfl | hz
  · exact lt_of_block b
  · exact (o.block z (by simpa using hz)).2
theorem rt_skip {w0 : World} {p : Ser (El m)} {n lb B x : Nat} {pre bl : List Nat} {X : World} (h : RtI w0 p n lb B pre bl X) (hx : zAt p n x = false) : RtI w0 p n lb B (pre ++ [x]) bl X := by
  obtain ⟨a, k, y, rfl, b, hk, o, hw, h1, h2, h3⟩ := h
  have e : (pre ++ [x]).filter (zAt p n) = pre.filter (zAt p n) := by simp [hx]
  refine ⟨a, k, y, rfl, b, by rw [e]; exact hk, by rw [e]; exact o, hw, h1, h2, h3⟩
theorem filter_snoc {p : Ser (El m)} {n x : Nat} {pre : List Nat} (hx : zAt p n x = true) : (pre ++ [x]).filter (zAt p n) = pre.filter (zAt p n) ++ [x] := by simp [hx]
theorem rt_add {w0 : World} {p : Ser (El m)} {n lb B x k y : Nat} {a : Option Addr} {pre : List Nat} {W W5 : World} {v : Value} {ob : Obj} (hx : zAt p n x = true) (hb : Box W lb (.slice a k y) 33) (hk : k = (pre.filter (zAt p n)).length) (ho : Own64 W B (.slice a k y) k (intsN (pre.filter (zAt p n)))) (hw : Below w0.heap.size w0 W) (h1 : w0.heap.size ≤ lb) (h2 : lb < B) (hB : B ≤ W.heap.size)
    (hown : W5.ownsRow B 3 1 v (k + 1) (cells64 (intsN (pre.filter (zAt p n))) ++ [.int .i64 (x : Int)])) (hgrow : (W.alloc ob).grownBy W5 (Value.slice a k y).ownBlock) (hat : v.ownBlock = (Value.slice a k y).ownBlock ∨ v.ownBlock = some (W.alloc ob).heap.size) :
    Tn (lb :: (Value.slice a k y).ownBlock.toList) W (W5.setCell ⟨lb, 0, none⟩ v) (lb :: v.ownBlock.toList) ∧ RtI w0 p n lb B (pre ++ [x]) (lb :: v.ownBlock.toList) (W5.setCell ⟨lb, 0, none⟩ v) := by
  have hlW := lt_of_block hb
  have hbel : Below B W W5 := ((Below.refl B W).alloc hB _).grown hgrow (by rw [World.size_alloc]; omega) (fun x hx => (ho.block x hx).1)
  have hsame : ∀ z, z < W.heap.size → z ∉ (Value.slice a k y).ownBlock.toList → W5.heap[z]? = W.heap[z]? := fun z hz hn => (hgrow.block z (by rw [World.size_alloc]; omega) (fun e => hn (by simp [← e]))).trans (Below.heap_alloc W _ z hz)
  have hlb5 : Box W5 lb (.slice a k y) 33 := (hbel.block lb h2).trans hb
  have ho5 : Own64 W5 B v (k + 1) (intsN ((pre ++ [x]).filter (zAt p n))) := by
    rw [filter_snoc hx, show intsN (pre.filter (zAt p n) ++ [x]) = intsN (pre.filter (zAt p n)) ++ [(x : Int)] by simp [intsN]]
    unfold Own64; rw [← cells64_append]; exact hown
  obtain ⟨av, cv, rfl⟩ := own_slice ho5
  refine ⟨⟨hbel.os, hbel.tape, hbel.output, by show W.heap.size ≤ (World.setCell _ _ _).heap.size; simp [World.setCell]; exact hbel.size, fun z hz hn => ?_, fun z hz => ?_⟩, av, k + 1, cv, rfl, hlb5.put _, by rw [filter_snoc hx, List.length_append, ← hk]; rfl, ?_, (hw.trans (hbel.mono (by omega))).setCell h1 _, h1, h2, by simp [World.setCell]; have := hbel.size; omega⟩
  · rw [List.mem_cons, not_or] at hn
    exact (Below.heap_setCell _ _ _ _ hn.1).trans (hsame z hz hn.2)
  · rcases List.mem_cons.1 hz with rfl | hz
    · exact .inl (List.mem_cons_self ..)
    · rcases hat with h | h
      · exact .inl (List.mem_cons_of_mem _ (by rw [← h]; exact hz))
      · rw [h] at hz
        simp only [Option.toList_some, List.mem_singleton] at hz
        rw [World.size_alloc] at hz
        exact .inr (by omega)
  · exact ho5.keep fun z hz => Below.heap_setCell _ _ _ _ (by have := (ho5.block z hz).1; show z ≠ lb; omega)
theorem zAt_eq {p : Ser (El m)} {n x : Nat} {z : Int} (hz : z = zn (ev n p (pt m x))) : zAt p n x = (z == 0) := by rw [hz]; rfl
set_option maxRecDepth 100000 in
set_option maxHeartbeats 2000000 in
theorem roots_steps {K : Nat} {w : World} {s be ce bl g : Nat} {a : Option Addr} {n c : Nat} {p : Ser (El m)} {nn : Int} {y : Addr} (F : FldAt m w s be ce bl) (R : RingAt m w g s be ce bl) (P : NV m w K a n c p) (hn : n ≤ 2048) (hnn : nn ≤ 16383) (E : ErrAt w 5 y) :
    Calls Tryz.prog 99 #[chV g s a n c nn, .func (.func 100) #[] #[]] w fun e w' => ∃ v k pre, e = .returned v ∧ Own64 w' w.heap.size v k (intsN (pre.filter (zAt p n))) ∧ Below w.heap.size w w' ∧ (pre = List.range nn.toNat ∨ ∃ j, j ≤ nn.toNat ∧ pre = List.range j ∧ 0 < n ∧ (pre.filter (zAt p n)).length = n - 1) := by
  obtain ⟨i0, hi, hz0, hz1, hz2⟩ := info64
  refine (callsIn_wide (n := 3)).1 ?_
  refine callsIn_of_wp_marks Tryz.func99 rfl trivial ?_ rfl
  simp only [Tryz.ntmps99, List.size_toArray, List.length_cons, List.length_nil, Nat.reduceAdd, Nat.reduceSub, Array.replicate_succ, Array.replicate_zero, List.push_toArray, List.append_toArray, List.nil_append, List.cons_append]
  refine wpIn_wide.2 ?_
  go_wp2_with fail
  obtain ⟨w1, hw1⟩ : ∃ w1, w1 = ((w.alloc (.cells #[.pointer (some ⟨g, 0, none⟩), .pointer (some ⟨s, 0, none⟩), .slice a n c, .int .i64 nn] 138 (0, 0))).alloc (.cells #[.slice none 0 0] 33)) := ⟨_, rfl⟩
  rw [← hw1]
  have hs1 : w1.heap.size = w.heap.size + 2 := by rw [hw1]; simp
  have hb1 : Below w.heap.size w w1 := by rw [hw1]; exact ((Below.refl _ _).alloc (Nat.le_refl _) _).alloc (by simp) _
  have hc1 : chB w1 w.heap.size g s a n c nn := by rw [hw1]; exact (Below.heap_alloc _ _ _ (by simp)).trans (heap_alloc_new w _)
  have hl1 : Box w1 (w.heap.size + 1) (.slice none 0 0) 33 := by
    rw [hw1]
    have := heap_alloc_new (w.alloc (.cells #[.pointer (some ⟨g, 0, none⟩), .pointer (some ⟨s, 0, none⟩), .slice a n c, .int .i64 nn] 138 (0, 0))) (.cells #[.slice none 0 0] 33)
    rwa [World.size_alloc] at this
  clear hw1
  refine (steps_any g s a n c nn w1).mono ?_
  rintro e w2 ⟨rfl, hcb, hb2⟩
  have hl2 : Box w2 (w.heap.size + 1) (.slice none 0 0) 33 := (hb2.block _ (by omega)).trans hl1
  have hc2 : chB w2 w.heap.size g s a n c nn := (hb2.block _ (by omega)).trans hc1
  have hb := hb1.trans (hb2.mono hb1.size)
  have hlt2 : w1.heap.size < w2.heap.size := lt_of_block hcb
  have HF := Lib.hid (And.intro F (And.intro P (And.intro E R)))
  have H2 := Lib.hid (And.intro hl2 (And.intro hc2 (And.intro hb (And.intro hcb (And.intro hlt2 hs1)))))
  obtain ⟨cb, hcbe⟩ : ∃ cb, cb = w1.heap.size := ⟨_, rfl⟩
  have HCB := Lib.hid hcbe
  rw [← hcbe]
  clear hl1 hc1 hb1 hb2 hl2 hc2 hb hcb hlt2 hs1 F P E R hcbe
  go_wp2_with fail
  refine wpIn_wide.1 (range_sep (n := 3) (gf := 128) (lb := #[.pointer (some ⟨cb, 0, none⟩)]) rfl (enters_of Tryz.func128 (by kernel_rfl) rfl)
    (encs := encP p n) (fun _ => rfl) (V := (fun pre x => pre = List.range x ∧ x < nn.toNat)) [] (C := Finds w cb g s a n c nn)
    (fun pre bl W => RtI w p n (w.heap.size + 1) w2.heap.size pre bl W ∧ chB W w.heap.size g s a n c nn)
    (fun cde pre bl W => cde = .exit 0 ∧ (RtI w p n (w.heap.size + 1) w2.heap.size pre bl W ∧ chB W w.heap.size g s a n c nn) ∧ 0 < n ∧ (pre.filter (zAt p n)).length = n - 1)
    ?_ ?_ ?_ (bl0 := [w.heap.size + 1]) ?_ ?_
    (steps_iter 2 w2.heap.size HF.out.1 HF.out.2.1 hn hnn HF.out.2.2.1)
    (fun x => { tmps := #[chV g s a n c nn, .func (.func 100) #[] #[], .pointer (some ⟨w.heap.size, 0, none⟩), undef, .slice none 0 0, .pointer (some ⟨w.heap.size + 1, 0, none⟩), .int .i64 (x : Int), .int .i64 (zn (ev n p (pt m x))), .func (.func 100) #[] #[], chV g s a n c nn, .func (.func 128) #[] #[.pointer (some ⟨cb, 0, none⟩)], .int .i64 (x : Int), .int .i64 (zn (ev n p (pt m x))), undef, undef, undef, undef, undef, undef, undef, undef, undef, undef, undef, undef, undef, undef, undef, undef, undef, undef, undef, undef], defers := [] }) ?_ ?_ ?_ ?_)
  · rintro pre bl X Y ⟨h1, h2⟩ f
    have := H2.out.2.2.2.2
    exact ⟨h1.fr (by omega) f, (f.same _ (.inl ⟨by omega, by simp⟩) (lt_of_block h2)).trans h2⟩
  · rintro cde pre bl X Y ⟨h0, ⟨h1, h2⟩, h3⟩ f
    have := H2.out.2.2.2.2
    exact ⟨h0, ⟨h1.fr (by omega) f, (f.same _ (.inl ⟨by omega, by simp⟩) (lt_of_block h2)).trans h2⟩, h3⟩
  · rintro pre bl X ⟨h1, _⟩
    exact h1.lt
  · have := H2.out.2.2.2.2
    exact ⟨⟨none, 0, 0, rfl, H2.out.1, rfl, Own64.nil _ _, H2.out.2.2.1, by omega, by omega, Nat.le_refl _⟩, H2.out.2.1⟩
  · intro W hW
    have h2 := H2.out
    have hcbe := HCB.out
    refine ⟨h2.2.2.1.trans (hW.mono h2.2.2.1.size), (hW.block _ (by rw [hcbe]; exact h2.2.2.2.2.1)).trans (by rw [hcbe]; exact h2.2.2.2.1), by omega, fun k hk => ?_⟩
    simp only [List.mem_cons, List.not_mem_nil, or_false] at hk
    omega
  · intro l x W K hK
    gi_wp2
    exact hK
  · rintro l pre bl x W ⟨hi', hc⟩ hV
    have hlen : pre.length < nn.toNat := by rw [hV.1, List.length_range]; exact hV.2
    clear hV
    have hii := hi'
    obtain ⟨xa, k, y', rfl, hb, hk, ho, hw, h1, h2, hwB⟩ := hii
    have g1 := hb.cell
    have g2 := hb.free
    have g3 := hc.cells.2.2.1
    obtain ⟨z, hz⟩ : ∃ z, z = zn (ev n p (pt m x)) := ⟨_, rfl⟩
    have HZ := Lib.hid (zAt_eq hz)
    show Code.wpIn _ _ _ _ _ ({ tmps := #[chV g s a n c nn, .func (.func 100) #[] #[], .pointer (some ⟨w.heap.size, 0, none⟩), undef, .slice none 0 0, .pointer (some ⟨w.heap.size + 1, 0, none⟩), .int .i64 (x : Int), .int .i64 (zn (ev n p (pt m x))), .func (.func 100) #[] #[], chV g s a n c nn, .func (.func 128) #[] #[.pointer (some ⟨cb, 0, none⟩)], .int .i64 (x : Int), .int .i64 (zn (ev n p (pt m x))), undef, undef, undef, undef, undef, undef, undef, undef, undef, undef, undef, undef, undef, undef, undef, undef, undef, undef, undef, undef], defers := [] }) _
    rw [← hz]
    clear hz
    have hkl : k ≤ pre.length := by rw [hk]; exact List.length_filter_le _ _
    have hk16 : k ≤ 16383 := by omega
    have HI := Lib.hid (And.intro hi' (And.intro hc (And.intro hw (And.intro h1 (And.intro h2 (And.intro hb hk))))))
    have HL := Lib.hid hlen
    clear hi' hc hw h1 h2 hb hlen
    by_cases hzz : z = 0
    · have hzb : (z == 0) = true := by simp [hzz]
      have hx : Hid (zAt p n x = true) := by show _ = _; rw [HZ.out]; exact hzb
      have HK := Lib.hid hk
      clear hk
      by_cases hn0 : 0 < n
      · by_cases hs : (k : Int) + 1 = (n : Int) - 1
        · have hs2 : ((k : Int) + 1 == (n : Int) - 1) = true := by simp [hs]
          have HS := Lib.hid hs
          clear hs
          gi_wp2_with (first
            | (gi_at_builtin; refine wpListIn_append_own_at _ rfl _ _ 33 rfl w2.heap.size 3 i0 (.int .i64 0) 1 8 Tryz.underlying33 hi hz0 hz1 hz2 rfl (by decide) (.slice xa k y') k (cells64 (intsN (pre.filter (zAt p n)))) rfl (World.ownsRow.alloc ho _) ⟨W.heap.size, 0, none⟩ 1 1 [.int .i64 (x : Int)] rfl rfl (cell_one_new _ _ _) (ints_oneCell .i64 [_]) (by unfold maxLen; omega) (by omega) (by rw [World.size_alloc]; omega) ?_; intro v' w5 hown hgrow hnil hat; have hadd := rt_add hx.out HI.out.2.2.2.2.2.1 HI.out.2.2.2.2.2.2 ho HI.out.2.2.1 HI.out.2.2.2.1 HI.out.2.2.2.2.1 hwB hown hgrow hat; obtain ⟨av, cv, rfl⟩ := own_slice (show Own64 w5 w2.heap.size v' (k + 1) (intsN (pre.filter (zAt p n)) ++ [(x : Int)]) by unfold Own64; rw [← cells64_append]; exact hown); have HB5 : Hid (Below w2.heap.size W w5) := (((Below.refl w2.heap.size W).alloc hwB _).grown hgrow (by rw [World.size_alloc]; omega) (fun x hx => (ho.block x hx).1)); have b5 : Box w5 (w.heap.size + 1) (.slice xa k y') 33 := (HB5.out.block _ HI.out.2.2.2.2.1).trans HI.out.2.2.2.2.2.1; have g4 := b5.free; have g8 := b5.cell; have c6 : chB (w5.setCell ⟨w.heap.size + 1, 0, none⟩ (.slice av (k + 1) cv)) w.heap.size g s a n c nn := (Below.heap_setCell _ _ _ _ (by show w.heap.size ≠ w.heap.size + 1; omega)).trans ((HB5.out.block _ (by have := HI.out.2.2.2.2.1; omega)).trans HI.out.2.1); have g5 := (b5.put (.slice av (k + 1) cv)).cell; have g6 := c6.cells.2.2.1; have g7 := (chB.cells ((HB5.out.block _ (by have := HI.out.2.2.2.2.1; omega)).trans HI.out.2.1 : chB w5 w.heap.size g s a n c nn)).2.2.1; have HA := Lib.hid (And.intro hadd c6); clear g1 g2 g3 hadd c6 b5 hown hgrow hnil hat ho)
            | fail)
          exact ⟨_, HA.out.1.1, rfl, ⟨HA.out.1.2, HA.out.2⟩, hn0, by rw [filter_snoc hx.out, List.length_append, ← HK.out]; have := HS.out; show k + 1 = n - 1; omega⟩
        · have hs2 : ((k : Int) + 1 == (n : Int) - 1) = false := by simp [hs]
          have HS := Lib.hid hs
          clear hs
          gi_wp2_with (first
            | (gi_at_builtin; refine wpListIn_append_own_at _ rfl _ _ 33 rfl w2.heap.size 3 i0 (.int .i64 0) 1 8 Tryz.underlying33 hi hz0 hz1 hz2 rfl (by decide) (.slice xa k y') k (cells64 (intsN (pre.filter (zAt p n)))) rfl (World.ownsRow.alloc ho _) ⟨W.heap.size, 0, none⟩ 1 1 [.int .i64 (x : Int)] rfl rfl (cell_one_new _ _ _) (ints_oneCell .i64 [_]) (by unfold maxLen; omega) (by omega) (by rw [World.size_alloc]; omega) ?_; intro v' w5 hown hgrow hnil hat; have hadd := rt_add hx.out HI.out.2.2.2.2.2.1 HI.out.2.2.2.2.2.2 ho HI.out.2.2.1 HI.out.2.2.2.1 HI.out.2.2.2.2.1 hwB hown hgrow hat; obtain ⟨av, cv, rfl⟩ := own_slice (show Own64 w5 w2.heap.size v' (k + 1) (intsN (pre.filter (zAt p n)) ++ [(x : Int)]) by unfold Own64; rw [← cells64_append]; exact hown); have HB5 : Hid (Below w2.heap.size W w5) := (((Below.refl w2.heap.size W).alloc hwB _).grown hgrow (by rw [World.size_alloc]; omega) (fun x hx => (ho.block x hx).1)); have b5 : Box w5 (w.heap.size + 1) (.slice xa k y') 33 := (HB5.out.block _ HI.out.2.2.2.2.1).trans HI.out.2.2.2.2.2.1; have g4 := b5.free; have g8 := b5.cell; have c6 : chB (w5.setCell ⟨w.heap.size + 1, 0, none⟩ (.slice av (k + 1) cv)) w.heap.size g s a n c nn := (Below.heap_setCell _ _ _ _ (by show w.heap.size ≠ w.heap.size + 1; omega)).trans ((HB5.out.block _ (by have := HI.out.2.2.2.2.1; omega)).trans HI.out.2.1); have g5 := (b5.put (.slice av (k + 1) cv)).cell; have g6 := c6.cells.2.2.1; have g7 := (chB.cells ((HB5.out.block _ (by have := HI.out.2.2.2.2.1; omega)).trans HI.out.2.1 : chB w5 w.heap.size g s a n c nn)).2.2.1; have HA := Lib.hid (And.intro hadd c6); clear g1 g2 g3 hadd c6 b5 hown hgrow hnil hat ho)
            | fail)
          exact ⟨_, HA.out.1.1, HA.out.1.2, HA.out.2⟩
      · gi_wp2_with (first
          | (gi_at_builtin; refine wpListIn_append_own_at _ rfl _ _ 33 rfl w2.heap.size 3 i0 (.int .i64 0) 1 8 Tryz.underlying33 hi hz0 hz1 hz2 rfl (by decide) (.slice xa k y') k (cells64 (intsN (pre.filter (zAt p n)))) rfl (World.ownsRow.alloc ho _) ⟨W.heap.size, 0, none⟩ 1 1 [.int .i64 (x : Int)] rfl rfl (cell_one_new _ _ _) (ints_oneCell .i64 [_]) (by unfold maxLen; omega) (by omega) (by rw [World.size_alloc]; omega) ?_; intro v' w5 hown hgrow hnil hat; have hadd := rt_add hx.out HI.out.2.2.2.2.2.1 HI.out.2.2.2.2.2.2 ho HI.out.2.2.1 HI.out.2.2.2.1 HI.out.2.2.2.2.1 hwB hown hgrow hat; obtain ⟨av, cv, rfl⟩ := own_slice (show Own64 w5 w2.heap.size v' (k + 1) (intsN (pre.filter (zAt p n)) ++ [(x : Int)]) by unfold Own64; rw [← cells64_append]; exact hown); have HB5 : Hid (Below w2.heap.size W w5) := (((Below.refl w2.heap.size W).alloc hwB _).grown hgrow (by rw [World.size_alloc]; omega) (fun x hx => (ho.block x hx).1)); have b5 : Box w5 (w.heap.size + 1) (.slice xa k y') 33 := (HB5.out.block _ HI.out.2.2.2.2.1).trans HI.out.2.2.2.2.2.1; have g4 := b5.free; have g8 := b5.cell; have c6 : chB (w5.setCell ⟨w.heap.size + 1, 0, none⟩ (.slice av (k + 1) cv)) w.heap.size g s a n c nn := (Below.heap_setCell _ _ _ _ (by show w.heap.size ≠ w.heap.size + 1; omega)).trans ((HB5.out.block _ (by have := HI.out.2.2.2.2.1; omega)).trans HI.out.2.1); have g5 := (b5.put (.slice av (k + 1) cv)).cell; have g6 := c6.cells.2.2.1; have g7 := (chB.cells ((HB5.out.block _ (by have := HI.out.2.2.2.2.1; omega)).trans HI.out.2.1 : chB w5 w.heap.size g s a n c nn)).2.2.1; have HA := Lib.hid (And.intro hadd c6); clear g1 g2 g3 hadd c6 b5 hown hgrow hnil hat ho)
          | fail)
        exact ⟨_, HA.out.1.1, HA.out.1.2, HA.out.2⟩
    · have hzb : (z == 0) = false := by simp [hzz]
      have hx : Hid (zAt p n x = false) := by show _ = _; rw [HZ.out]; exact hzb
      have HK := Lib.hid hk
      clear hk
      by_cases hn0 : 0 < n
      · by_cases hs : (k : Int) = (n : Int) - 1
        · have hs2 : ((k : Int) == (n : Int) - 1) = true := by simp [hs]
          have HS := Lib.hid hs
          clear hs
          gi_wp2
          exact ⟨_, Tn.refl _ _, rfl, ⟨rt_skip HI.out.1 hx.out, HI.out.2.1⟩, hn0, by rw [show (pre ++ [x]).filter (zAt p n) = pre.filter (zAt p n) by simp [hx.out], ← HK.out]; have := HS.out; omega⟩
        · have hs2 : ((k : Int) == (n : Int) - 1) = false := by simp [hs]
          have HS := Lib.hid hs
          clear hs
          gi_wp2
          exact ⟨_, Tn.refl _ _, rt_skip HI.out.1 hx.out, HI.out.2.1⟩
      · gi_wp2
        exact ⟨_, Tn.refl _ _, rt_skip HI.out.1 hx.out, HI.out.2.1⟩
  · intro D xs bl W hD hDl hDb hS hi' hdef
    obtain ⟨⟨xa, k, y', rfl, hb, hk, ho, hw, h1, h2, hwB⟩, hc⟩ := hi'
    have g1 := hb.cell
    have HX := Lib.hid (And.intro hk (And.intro ho (And.intro hw (And.intro hc (And.intro hS (And.intro hD hDb))))))
    clear hk ho hw hc hS hD hDb
    go_wp2
    obtain ⟨hk, ho, hw, hc, hS, hD, hDb⟩ := HX.out
    refine ⟨by simp, .inl ⟨_, _, rfl, run_takeDeferred hdef, ?_⟩⟩
    exact ⟨_, results_tmp rfl _ _ _, _, k, xs, rfl, own_from ((ho.keep fun z hz => World.putObj_heap_other (fun e => hDb (by rw [← e]; simp [hz])))) (by omega), hw.trans ⟨rfl, rfl, rfl, by simp, fun z hz => World.putObj_heap_other (by have := hw.size; omega)⟩, .inl hS⟩
  · intro D cde pre bl W hD hDl hDb hS hix hdef
    obtain ⟨rfl, ⟨⟨xa, k, y', rfl, hb, hk, ho, hw, h1, h2, hwB⟩, hc⟩, hn0, hlen⟩ := hix
    have g1 := hb.cell
    have HX := Lib.hid (And.intro hk (And.intro ho (And.intro hw (And.intro hc (And.intro hS (And.intro hD hDb))))))
    clear hk ho hw hc hS hD hDb
    gi_wp2
    go_wp2_with fail
    obtain ⟨hk, ho, hw, hc, hS, hD, hDb⟩ := HX.out
    refine ⟨by simp, .inl ⟨_, _, rfl, run_takeDeferred hdef, ?_⟩⟩
    exact ⟨_, results_tmp rfl _ _ _, _, k, pre, rfl, own_from ((ho.keep fun z hz => World.putObj_heap_other (fun e => hDb (by rw [← e]; simp [hz])))) (by omega), hw.trans ⟨rfl, rfl, rfl, by simp, fun z hz => World.putObj_heap_other (by have := hw.size; omega)⟩, .inr ⟨_, hS.choose_spec.1, hS.choose_spec.2, hn0, hlen⟩⟩
end
end Go.Proofs.YthmfneepnkgmgaaGreatDoor.Sea
/- The walk over package search's places, each by an evaluation. By the verifier of shale. -/
namespace Go.Proofs.YthmfneepnkgmgaaGreatDoor.Sea
open Go Go.RowKit Pl Fld Bits16 Loc
set_option linter.unusedVariables false
section
variable {m : Nat} [M : Mid m]
end
end Go.Proofs.YthmfneepnkgmgaaGreatDoor.Sea
/- The places at which package search's Plain finds 0. By the verifier of shale. -/
namespace Go.Proofs.YthmfneepnkgmgaaGreatDoor.Sea
open Go Go.RowKit Pl Fld Bits16 Loc Go.Shelf
set_option linter.unusedVariables false
attribute [local go_sem] Oper.semAt_some
section
variable {m : Nat} [M : Mid m]
end
end Go.Proofs.YthmfneepnkgmgaaGreatDoor.Sea
/- The contracts of package search: of, Search, Plain, Steps. By the verifier of shale. -/
namespace Go.Proofs.YthmfneepnkgmgaaGreatDoor.Sea
open Go Go.RowKit Pl Fld Bits16 Loc
set_option linter.unusedVariables false
section
variable {m : Nat} [M : Mid m]
theorem trimB {g s be ce bl : Nat} {w : World} {k : Nat} {a : Option Addr} {n c : Nat} {p : Ser (El m)} (R : RingAt m w g s be ce bl) (h1 : PV m w k a n c p) (hK2 : k ≤ 2048) :
    Calls Tryz.prog 124 #[.pointer (some ⟨g, 0, none⟩), .slice a n c] w fun e w' => ∃ t, e = .returned (.slice (some ⟨w.heap.size, 0, none⟩) t t) ∧ Blk64 w' w.heap.size (nums p t) ∧ (∀ X, Blk64 X w.heap.size (nums p t) → NV m X k (some ⟨w.heap.size, 0, none⟩) t t p) ∧ Below w.heap.size w w' := by
  have hb := h1.bd
  have hn := h1.bdn
  have ht := top_of h1
  have hle := top_le p k
  obtain ⟨l1, r1, rfl, n1⟩ := h1
  refine (trim_any a n c l1 w R r1 (by omega)).mono ?_
  rintro e w1 ⟨rfl, hB, b⟩
  refine ⟨_, rfl, hB, fun X hX => ⟨?_, top_bd hn, top_full hn rfl, by rw [ht]; exact hle⟩, b⟩
  have hr := Blk64.row hX _ (by rw [nums_length]; exact Nat.le_refl _) (by rw [nums_length]; omega)
  rw [nums_take _ (Nat.le_refl _), nums_length] at hr
  exact hr
set_option maxRecDepth 100000 in
set_option maxHeartbeats 1000000 in
theorem seaOf_any {s be ce bl : Nat} {K : Nat} {a : Option Addr} {n c : Nat} {p : Ser (El m)} (nn : Int) (w : World) (F : FldAt m w s be ce bl) (P : PV m w K a n c p) (hK : K ≤ 2048) :
    Calls Tryz.prog 98 #[.pointer (some ⟨s, 0, none⟩), .slice a n c, .int .i64 nn] w fun e w' => ∃ g a' n' c', e = .returned (chV g s a' n' c' (min nn (size m : Int))) ∧ RingAt m w' g s be ce bl ∧ NV m w' K a' n' c' p ∧ Below w.heap.size w w' := by
  have hn : n ≤ K := by obtain ⟨_, _, _, h3⟩ := P; exact h3
  have x3 : n ≤ c := by obtain ⟨_, r, _⟩ := P; exact r.hcap
  have hz := size_hi m M.hi
  have he := els_eq m
  have x1 : ¬ 2048 < n := by omega
  have x2 : (els m : Int) - 1 = (size m : Int) := by omega
  have HM : Hid (min nn (size m : Int) = if (size m : Int) < nn then (size m : Int) else nn) := by show _ = _; split <;> omega
  have HF := Lib.hid (And.intro F P)
  clear F P he
  go_enter Tryz.func98, Tryz.ntmps98
  go_wp2_with fail
  obtain ⟨w1, hw1⟩ : ∃ w1, w1 = w.alloc (.cells #[.pointer none, .pointer none, .slice none 0 0, .int .i64 0] 138 (0, 0)) := ⟨_, rfl⟩
  have b1 : Below w.heap.size w w1 := by rw [hw1]; exact (Below.refl _ _).alloc (Nat.le_refl _) _
  have h1 : w1.heap[w.heap.size]? = some (.cells #[.pointer none, .pointer none, .slice none 0 0, .int .i64 0] 138 (0, 0)) := by rw [hw1]; exact heap_alloc_new w _
  rw [← hw1]
  clear hw1
  refine (pnew_any w1 (HF.out.1.below M.lo b1)).mono ?_
  rintro e w2 ⟨g, rfl, R, b2⟩
  have h2 : w2.heap[w.heap.size]? = some (.cells #[.pointer none, .pointer none, .slice none 0 0, .int .i64 0] 138 (0, 0)) := (b2.block _ (lt_of_block h1)).trans h1
  have B2 := b1.trans (b2.mono b1.size)
  have HR := Lib.hid (And.intro R (And.intro B2 h2))
  clear R b1 b2 B2 h1 h2
  go_wp2_with fail
  refine (trimB HR.out.1 (HF.out.2.below HR.out.2.1) hK).mono ?_
  rintro e w3 ⟨t3, rfl, K3, N3, b3⟩
  have B3 := HR.out.2.1.trans (b3.mono HR.out.2.1.size)
  have h3 := (b3.block _ (lt_of_block HR.out.2.2)).trans HR.out.2.2
  have R3 := HR.out.1.below b3
  obtain ⟨kk, hkk⟩ : ∃ kk, kk = w2.heap.size := ⟨_, rfl⟩
  have hne : w.heap.size ≠ kk := by have := lt_of_block HR.out.2.2; omega
  rw [← hkk] at K3 N3 ⊢
  have H3 := Lib.hid (And.intro N3 (And.intro R3 (And.intro B3 (And.intro K3 hne))))
  have H4 := Lib.hid h3
  clear N3 R3 b3 B3 h3 K3 hkk hne
  have hmin := HM.out.symm
  go_wp2_with fail
  refine (size_any w3 H3.out.2.1.2).mono ?_
  rintro e w4 ⟨rfl, rfl⟩
  have h4 := H4.out
  have hc0 : w3.cell? ⟨w.heap.size, 0, none⟩ = some (.pointer none) := by unfold World.cell?; simp only; rw [h4]; rfl
  have hc1 : w3.cell? ⟨w.heap.size, 1, none⟩ = some (.pointer none) := by unfold World.cell?; simp only; rw [h4]; rfl
  have hc2 : w3.cell? ⟨w.heap.size, 2, none⟩ = some (.slice none 0 0) := by unfold World.cell?; simp only; rw [h4]; rfl
  have hc3 : w3.cell? ⟨w.heap.size, 3, none⟩ = some (.int .i64 0) := by unfold World.cell?; simp only; rw [h4]; rfl
  have hf0 : ∀ i, w3.frozen? ⟨w.heap.size, i, none⟩ = false := fun i => by unfold World.frozen?; simp only; rw [h4]; rfl
  have f0 := hf0 0
  have f1 := hf0 1
  have f2 := hf0 2
  have f3 := hf0 3
  clear h4 hf0
  go_wp2_with fail
  obtain ⟨w5, hw5⟩ : ∃ w5, w5 = ((((w3.setCell ⟨w.heap.size, 0, none⟩ (.pointer (some ⟨g, 0, none⟩))).setCell ⟨w.heap.size, 1, none⟩ (.pointer (some ⟨s, 0, none⟩))).setCell ⟨w.heap.size, 2, none⟩ (.slice (some ⟨kk, 0, none⟩) t3 t3)).setCell ⟨w.heap.size, 3, none⟩ (.int .i64 (min nn (size m : Int)))) := ⟨_, rfl⟩
  rw [← hw5]
  have h5 : chB w5 w.heap.size g s (some ⟨kk, 0, none⟩) t3 t3 (min nn (size m : Int)) := by
    rw [hw5]
    exact heap_setCell_same _ _ 3 _ _ _ (heap_setCell_same _ _ 2 _ _ _ (heap_setCell_same _ _ 1 _ _ _ (heap_setCell_same _ _ 0 _ _ _ H4.out)))
  have o5 : ∀ z, z ≠ w.heap.size → w5.heap[z]? = w3.heap[z]? := fun z hz => by
    rw [hw5]
    exact (((Below.heap_setCell _ _ _ _ hz).trans (Below.heap_setCell _ _ _ _ hz)).trans (Below.heap_setCell _ _ _ _ hz)).trans (Below.heap_setCell _ _ _ _ hz)
  have B5 : Below w.heap.size w w5 := by
    rw [hw5]
    exact (((H3.out.2.2.1.setCell (Nat.le_refl _) _).setCell (Nat.le_refl _) _).setCell (Nat.le_refl _) _).setCell (Nat.le_refl _) _
  obtain ⟨k0, k1, k2, k3⟩ := h5.cells
  have hg : g ≠ w.heap.size := fun e => by
    have h := H3.out.2.1.1
    rw [e, H4.out] at h
    cases h
  have R5 : RingAt m w5 g s be ce bl := ⟨(o5 g hg).trans H3.out.2.1.1, HF.out.1.below M.lo B5⟩
  have N5 := H3.out.1 w5 ((o5 kk H3.out.2.2.2.2.symm).trans H3.out.2.2.2.1)
  exact bodyPost_ret (v := chV g s (some ⟨kk, 0, none⟩) t3 t3 (min nn (size m : Int))) (by simp [results, Tryz.results98, go_sem, k0, k1, k2, k3]) rfl ⟨g, _, _, _, rfl, R5, N5, B5⟩
end
end Go.Proofs.YthmfneepnkgmgaaGreatDoor.Sea
/- The contracts of package search's Search, Plain, Steps. By the verifier of shale. -/
namespace Go.Proofs.YthmfneepnkgmgaaGreatDoor.Sea
open Go Go.RowKit Pl Fld Bits16 Loc
set_option linter.unusedVariables false
section
variable {m : Nat} [M : Mid m]
/-- how many places are gone through. -/
def lim (m : Nat) (nn : Int) : Nat := (min nn (size m : Int)).toNat
theorem lim_le (m : Nat) (nn : Int) : lim m nn ≤ size m := by unfold lim; omega
theorem zAt_more {p : Ser (El m)} {n k : Nat} (h : Bd p n) (hk : n ≤ k) : zAt p k = zAt p n := funext fun i => by
  unfold zAt; rw [ev_more _ n k p h hk]
/-- what a way finds is all that there is. -/
theorem found {w : World} {K : Nat} {a : Option Addr} {n c : Nat} {p : Ser (El m)} (P : NV m w K a n c p) {nn : Int} {pre : List Nat} (h : pre = List.range (min nn (size m : Int)).toNat ∨ ∃ j, j ≤ (min nn (size m : Int)).toNat ∧ pre = List.range j ∧ 0 < n ∧ (pre.filter (zAt p n)).length = n - 1) : pre.filter (zAt p n) = hits (zAt p K) (lim m nn) := by
  rw [zAt_more P.bd P.le]
  rcases h with rfl | ⟨j, hj, rfl, h0, hl⟩
  · rfl
  · obtain ⟨N, rfl⟩ : ∃ N, n = N + 1 := ⟨n - 1, by omega⟩
    have hd : Dg p N := dg_top P.bd (by rw [P.top])
    exact (hits_stop (f := zAt p (N + 1)) (d := N) (k := j) (n := lim m nn) hj hl (hits_few hd (lim_le m nn))).symm
set_option maxRecDepth 100000 in
set_option maxHeartbeats 1000000 in
theorem search_any {s be ce bl : Nat} {K : Nat} {a : Option Addr} {n c : Nat} {p : Ser (El m)} {y : Addr} (nn : Int) (w : World) (F : FldAt m w s be ce bl) (P : PV m w K a n c p) (hK : K ≤ 2048) (E : ErrAt w 5 y) :
    Calls Tryz.prog 65 #[.pointer (some ⟨s, 0, none⟩), .slice a n c, .int .i64 nn] w fun e w' => ∃ v k, e = .returned v ∧ Own64 w' w.heap.size v k (intsN (hits (zAt p K) (lim m nn))) ∧ Below w.heap.size w w' := by
  have hz := size_hi m M.hi
  have HF := Lib.hid (And.intro F (And.intro P E))
  clear F P E
  go_enter Tryz.func65, Tryz.ntmps65
  go_wp2_with fail
  refine (seaOf_any nn w HF.out.1 HF.out.2.1 hK).mono ?_
  rintro e w1 ⟨g, a', n', c', rfl, R, N, b1⟩
  have hn := N.le
  have HR := Lib.hid (And.intro R (And.intro N b1))
  clear R N b1
  go_wp2_with fail
  refine (roots_steps (HF.out.1.below M.lo HR.out.2.2) HR.out.1 HR.out.2.1 (by omega) (by omega) (HF.out.2.2.below HR.out.2.2)).mono ?_
  rintro e w2 ⟨v, k, pre, rfl, o, b2, hp⟩
  have HO : Hid (Own64 w2 w.heap.size v k (intsN (hits (zAt p K) (lim m nn))) ∧ Below w.heap.size w w2) := by
    refine ⟨?_, HR.out.2.2.trans (b2.mono HR.out.2.2.size)⟩
    rw [found HR.out.2.1 hp] at o
    exact own_from o HR.out.2.2.size
  clear o b2 hp
  go_wp2_with fail
  go_ret
  exact ⟨v, k, rfl, HO.out.1, HO.out.2⟩
end
end Go.Proofs.YthmfneepnkgmgaaGreatDoor.Sea
/- The field of a statement of chapter 9, its examples. By the verifier of shale. -/
namespace Go.Proofs.YthmfneepnkgmgaaGreatDoor.Sea
open Go Go.RowKit Pl Fld Bits16 Loc
set_option linter.unusedVariables false
/-- the m that a statement makes of any number. -/
def mk9 (z : Int) : Nat := (z % 6).toNat + 3
instance (z : Int) : Mid (mk9 z) := ⟨by unfold mk9; omega, by unfold mk9; omega⟩
theorem mk9_hi (z : Int) : mk9 z ≤ 8 := by unfold mk9; omega
theorem mk9_go (z : Int) : z.tmod 6 % 6 + 3 = (mk9 z : Int) := by
  unfold mk9
  have : z.tmod 6 % 6 = z % 6 := by rw [Int.tmod_eq_emod]; split <;> omega
  omega
def MadeAt (m : Nat) (w : World) (e : Ending) (w' : World) : Prop := ∃ s be ce bl, e = .returned (.tuple #[.pointer (some ⟨s, 0, none⟩), .int .i64 (m : Int)]) ∧ FldAt m w' s be ce bl ∧ Below w.heap.size w w'
section
variable {m : Nat} [M : Mid m]
/-- Search, its answer a list handed on. -/
theorem searchZ {s be ce bl : Nat} {K : Nat} {a : Option Addr} {n c : Nat} {p : Ser (El m)} {y : Addr} (nn : Int) (w : World) (F : FldAt m w s be ce bl) (P : PV m w K a n c p) (hK : K ≤ 2048) (E : ErrAt w 5 y) :
    Calls Tryz.prog 65 #[.pointer (some ⟨s, 0, none⟩), .slice a n c, .int .i64 nn] w fun e w' => ∃ a' c', e = .returned (.slice a' (hits (zAt p K) (lim m nn)).length c') ∧ RowZ w' a' (hits (zAt p K) (lim m nn)).length c' (intsN (hits (zAt p K) (lim m nn))) ∧ Below w.heap.size w w' := by
  refine (search_any nn w F P hK E).mono ?_
  rintro e w1 ⟨v, k, rfl, o, b⟩
  obtain ⟨av, cv, rfl⟩ := own_slice o
  obtain rfl : k = (hits (zAt p K) (lim m nn)).length := by have := o.len; rw [← this]; simp [intsN]
  exact ⟨av, cv, rfl, (own_rowz o).1, b⟩
theorem sameOk {a1 : Option Addr} {n1 c1 : Nat} {l : List Int} {a2 : Option Addr} {n2 c2 : Nat} {k : List Int} {w : World} (h1 : RowZ w a1 n1 c1 l) (h2 : RowZ w a2 n2 c2 k) (e : l = k) :
    Calls Tryz.prog 18 #[.slice a1 n1 c1, .slice a2 n2 c2] w fun e w' => e = .returned (.bool true) ∧ Drawn w w' := by
  have := sameZ_any a1 n1 c1 l a2 n2 c2 k w h1 h2
  rwa [show decide (l = k) = true by simp [e]] at this
end
theorem ex_a : hits (zAt (sr 4 [1, 3, 2]) 3) (lim 4 15) = [0, 1] := by decide +kernel
theorem ex_b : hits (zAt (sr 4 [1, 1]) 2) (lim 4 15) = [0] := by decide +kernel
theorem ex_c : hits (zAt (sr 4 [1]) 1) (lim 4 15) = [] := by decide +kernel
theorem ex_d : hits (zAt (sr 4 [1, 3, 2]) 3) (lim 4 1) = [0] := by decide +kernel
end Go.Proofs.YthmfneepnkgmgaaGreatDoor.Sea
/- Small words for the laws of chapter 9. By the verifier of shale. -/
namespace Go.Proofs.YthmfneepnkgmgaaGreatDoor.Sea
open Go Go.RowKit Pl Fld Bits16 Loc
set_option linter.unusedVariables false
theorem hits_at {f : Nat → Bool} {n i : Nat} (h : i < (hits f n).length) : (hits f n).getD i 0 < n ∧ f ((hits f n).getD i 0) = true := by
  have : (hits f n).getD i 0 ∈ hits f n := by
    rw [List.getD_eq_getElem?_getD, List.getElem?_eq_getElem h]
    exact List.getElem_mem h
  exact hits_mem.1 this
theorem hits_rise {f : Nat → Bool} {n i : Nat} (h : i + 1 < (hits f n).length) : (hits f n).getD i 0 < (hits f n).getD (i + 1) 0 := by
  have hp : (hits f n).Pairwise (· < ·) := List.Pairwise.filter _ List.pairwise_lt_range
  have := List.pairwise_iff_getElem.1 hp i (i + 1) (by omega) h (by omega)
  rw [List.getD_eq_getElem?_getD, List.getElem?_eq_getElem (by omega), List.getD_eq_getElem?_getD, List.getElem?_eq_getElem h]
  exact this
theorem hits_all {f : Nat → Bool} {n : Nat} (h : ∀ i, f i = true) : hits f n = List.range n := by
  unfold hits
  exact List.filter_eq_self.2 fun i _ => h i
section
variable {m : Nat} [M : Mid m]
theorem zAt_zero {p : Ser (El m)} {K i : Nat} (h : zAt p K i = true) : zn (ev K p (pt m i)) = 0 := by
  unfold zAt at h
  simpa using h
theorem zAt_pz (K i : Nat) : zAt (pz : Ser (El m)) K i = true := by
  rw [zAt_iff, ev_more (pt m i) 0 K pz (fun _ _ => rfl) (Nat.zero_le _)]; rfl
theorem pt_num (i : Nat) : h (pwZ m (-(i : Int))) = zn (pt m i) := rfl
end
theorem lim_pos {m : Nat} {nn : Int} {i : Nat} (h : i < lim m nn) : (i : Int) < nn ∧ i < size m := by unfold lim at h; omega
theorem lim_max (m : Nat) (nn : Int) : (if (0 : Int) < (if (size m : Int) < nn then (size m : Int) else nn) then (if (size m : Int) < nn then (size m : Int) else nn) else 0) = (lim m nn : Int) := by
  unfold lim
  split <;> split <;> omega
theorem rem_in (z : Int) (L : Nat) (h : 0 < L) : ∃ k : Nat, k < L ∧ z.tmod L % L = (k : Int) := by
  have h1 := Int.emod_nonneg (z.tmod L) (b := (L : Int)) (by omega)
  have h2 := Int.emod_lt_of_pos (z.tmod L) (b := (L : Int)) (by omega)
  exact ⟨(z.tmod L % L).toNat, by omega, by omega⟩
theorem rem_lo (z : Int) (L : Nat) (h : 0 < L) : -(L : Int) < z.tmod L ∧ z.tmod L < (L : Int) := by
  have a1 := Int.tmod_lt_of_pos z (b := (L : Int)) (by omega)
  have := Int.tmod_lt_of_pos (-z) (b := (L : Int)) (by omega)
  rw [Int.neg_tmod] at this
  omega
/-- places that are turned by some. -/
theorem hits_turn {f g : Nat → Bool} {b r : Nat} (h : ∀ i, i < b + r → g i = f ((i + r) % (b + r))) : (hits g (b + r)).length = (hits f (b + r)).length := by
  unfold hits
  rw [← List.countP_eq_length_filter, ← List.countP_eq_length_filter]
  have e1 : List.countP g (List.range (b + r)) = List.countP g (List.range b) + List.countP (g ∘ (b + ·)) (List.range r) := by
    rw [List.range_add, List.countP_append, List.countP_map]
  have e2 : List.countP f (List.range (b + r)) = List.countP f (List.range r) + List.countP (f ∘ (r + ·)) (List.range b) := by
    rw [Nat.add_comm b r, List.range_add, List.countP_append, List.countP_map]
  rw [e1, e2, Nat.add_comm]
  congr 1
  · refine List.countP_congr fun i hi => ?_
    have hi := List.mem_range.1 hi
    show g (b + i) = true ↔ f i = true
    rw [h _ (by omega), show b + i + r = i + (b + r) by omega, Nat.add_mod_right, Nat.mod_eq_of_lt (by omega)]
  · refine List.countP_congr fun i hi => ?_
    have hi := List.mem_range.1 hi
    show g i = true ↔ f (r + i) = true
    rw [h _ (by omega), Nat.mod_eq_of_lt (by omega), Nat.add_comm]
section
variable {m : Nat} [M : Mid m]
theorem pwK_both (b x : El m) : ∀ n, pwK (b * x) n = pwK b n * pwK x n
  | 0 => (Fl.mul_one _).symm
  | n + 1 => by
    show (b * x) * pwK (b * x) n = (b * pwK b n) * (x * pwK x n)
    rw [pwK_both b x n]
    ac_rfl
theorem evs_tw (b x : El m) (p : Ser (El m)) : ∀ n, evs (tw b p) x n = evs p (b * x) n
  | 0 => rfl
  | n + 1 => by
    show evs (tw b p) x n + (p n * pwK b n) * pwK x n = evs p (b * x) n + p n * pwK (b * x) n
    rw [evs_tw b x p n, pwK_both, Fl.mul_assoc]
theorem ev_tw (b x : El m) (p : Ser (El m)) (n : Nat) : ev n (tw b p) x = ev n p (b * x) := by rw [ev_evs, ev_evs, evs_tw]
theorem exK_pow (z : Int) : ∀ i : Nat, pwK (exK m z) i = exK m (z * (i : Int))
  | 0 => by rw [show z * ((0 : Nat) : Int) = 0 by simp, exK_zero]; rfl
  | i + 1 => by
    show exK m z * pwK (exK m z) i = _
    rw [exK_pow z i, exK_mul]
    congr 1
    rw [Int.natCast_succ, Int.mul_add]; omega
theorem zAt_turn (p : Ser (El m)) (K b r i : Nat) (hs : size m = b + r) : zAt (tw (exK m (b : Int)) p) K i = zAt p K ((i + r) % (b + r)) := by
  unfold zAt
  have e : exK m (b : Int) * pt m i = pt m ((i + r) % (b + r)) := by
    unfold pt
    rw [exK_mul]
    refine El.ext (pwZ_congr m _ _ ?_)
    rw [hs]
    have h1 := Nat.div_add_mod (i + r) (b + r)
    generalize (i + r) / (b + r) = q at h1
    generalize (i + r) % (b + r) = x at h1
    have : (b : Int) + -(i : Int) = -(x : Int) + ((b + r : Nat) : Int) * (1 - (q : Int)) := by
      rw [Int.mul_sub, ← Int.natCast_mul]; omega
    rw [this, Int.add_mul_emod_self_left]
  rw [ev_tw, e]
end
section
variable {m : Nat} [M : Mid m]
theorem pt_inv (i : Nat) : pt m i = (exK m (i : Int))⁻¹ := inv_unique (by
  unfold pt
  rw [exK_mul, show (i : Int) + -(i : Int) = 0 by omega, exK_zero])
theorem exK_nat {i j : Nat} (hi : i < size m) (hj : j < size m) (e : exK m (i : Int) = exK m (j : Int)) : i = j := by
  refine pw_inj m M.lo M.hi i j hi hj ?_
  rw [← pwZ_nat m M.lo M.hi i, ← pwZ_nat m M.lo M.hi j]
  exact congrArg Subtype.val e
/-- the polynomial of places is 0 just there. -/
theorem lam_at {l : List Nat} (hl : ∀ p ∈ l, p < size m) {K i : Nat} (hK : l.length + 1 ≤ K) (hi : i < size m) : zAt (lamZ m (intsN l)) K i = decide (i ∈ l) := by
  have hne : ∀ a ∈ (intsN l).map (exK m), a ≠ 0 := fun a ha => by
    obtain ⟨z, _, rfl⟩ := List.mem_map.1 ha
    exact exK_ne z
  have hlen : ((intsN l).map (exK m)).length = l.length := by simp [intsN]
  have hb : Bd (lamZ m (intsN l)) (l.length + 1) := by
    have := lamZ_bd (m := m) (intsN l)
    rwa [show (intsN l).length = l.length by simp [intsN]] at this
  rw [zAt_more hb hK]
  refine Bool.eq_iff_iff.2 ?_
  rw [zAt_iff, pt_inv]
  have h := lam_root hne (b := exK m (i : Int)) (exK_ne _)
  rw [hlen] at h
  refine h.trans ?_
  rw [decide_eq_true_iff]
  constructor
  · intro hm
    obtain ⟨z, hz, e⟩ := List.mem_map.1 hm
    obtain ⟨p, hp, rfl⟩ := List.mem_map.1 hz
    have := exK_nat (hl p hp) hi e
    rwa [← this]
  · intro hm
    exact List.mem_map.2 ⟨(i : Int), List.mem_map.2 ⟨i, hm, rfl⟩, rfl⟩
theorem hits_same {f g : Nat → Bool} {n : Nat} (h : ∀ i, i < n → f i = g i) : hits f n = hits g n := by
  unfold hits
  exact List.filter_congr fun i hi => h i (List.mem_range.1 hi)
end
end Go.Proofs.YthmfneepnkgmgaaGreatDoor.Sea
/- Rows that stand apart from one block; part sums of a product. By the verifier of shale. -/
namespace Go.Proofs.YthmfneepnkgmgaaGreatDoor.Loc
open Go Go.RowKit Pl Fld Bits16
set_option linter.unusedVariables false
section
variable {K : Type} [Fl K]
/-- the first k coefficients. -/
def cut (k : Nat) (p : Ser K) : Ser K := fun i => if i < k then p i else 0
theorem cut_zero (p : Ser K) : cut 0 p = pz := funext fun i => if_neg (Nat.not_lt_zero i)
theorem cut_succ (k : Nat) (p : Ser K) : cut (k + 1) p = padd (cut k p) (mono k (p k)) := funext fun i => by
  show (if i < k + 1 then p i else 0) = (if i < k then p i else 0) + (if i = k then p k else 0)
  by_cases h : i < k
  · rw [if_pos h, if_pos (by omega), if_neg (by omega), Fl.add_zero]
  · by_cases e : i = k
    · subst e; rw [if_neg h, if_pos (by omega), if_pos rfl, zero_add]
    · rw [if_neg h, if_neg (by omega), if_neg e, Fl.add_zero]
theorem cut_bd {k n : Nat} {p : Ser K} (h : Bd p n) (hk : n ≤ k) : cut k p = p := funext fun i => by
  unfold cut
  by_cases e : i < k
  · rw [if_pos e]
  · rw [if_neg e, h i (by omega)]
/-- the sum of the first k. -/
def part (p q : Ser K) (n k : Nat) : K := cv (cut k p) q n
theorem part_zero (p q : Ser K) (n : Nat) : part p q n 0 = 0 := by unfold part; rw [cut_zero]; exact cv_zero_left _ _
theorem part_succ (p q : Ser K) (n k : Nat) (h : k ≤ n) : part p q n (k + 1) = part p q n k + p k * q (n - k) := by
  unfold part
  rw [cut_succ, cv_add_left, cv_mono, if_neg (by omega)]
/-- what is cut off is 0, or not reached. -/
theorem part_all (p q : Ser K) (n k k' : Nat) (h : ∀ i, k ≤ i → i < k' → i ≤ n → p i = 0) (h' : ∀ i, k' ≤ i → i < k → i ≤ n → p i = 0) : part p q n k = part p q n k' := by
  refine cv_ext (fun i hi => ?_) fun _ _ => rfl
  unfold cut
  by_cases a : i < k <;> by_cases b : i < k'
  · rw [if_pos a, if_pos b]
  · rw [if_pos a, if_neg b]; exact h' i (by omega) a hi
  · rw [if_neg a, if_pos b]; exact (h i (by omega) b hi).symm
  · rw [if_neg a, if_neg b]
theorem part_cv {p : Ser K} {m : Nat} (q : Ser K) (n k : Nat) (h : Bd p m) (hk : m ≤ k) : part p q n k = cv p q n := by unfold part; rw [cut_bd h hk]
end
section
variable {m : Nat} [M : Mid m]
/-- numbers handed in, apart from the block x. -/
def PA (m : Nat) [M : Mid m] (w : World) (K : Nat) (a : Option Addr) (n c : Nat) (p : Ser (El m)) (x : Nat) : Prop := (∃ l, RowZ w a n c l ∧ sr m l = p) ∧ n ≤ K ∧ ∀ q, a = some q → q.block ≠ x
theorem PA.pv {w : World} {K : Nat} {a : Option Addr} {n c : Nat} {p : Ser (El m)} {x : Nat} (h : PA m w K a n c p x) : PV m w K a n c p := by
  obtain ⟨⟨l, h1, h2⟩, h3, _⟩ := h
  exact ⟨l, h1, h2, h3⟩
theorem PA.keep {w w' : World} {K : Nat} {a : Option Addr} {n c : Nat} {p : Ser (El m)} {x : Nat} (h : PA m w K a n c p x) (hk : ∀ q, q ≠ x → q < w.heap.size → w'.heap[q]? = w.heap[q]?) (hs : w.heap.size ≤ w'.heap.size) : PA m w' K a n c p x := by
  obtain ⟨⟨l, h1, h2⟩, h3, h4⟩ := h
  refine ⟨⟨l, ⟨h1.hlen, h1.hcap, h1.hmost, fun i hi => ?_⟩, h2⟩, h3, h4⟩
  obtain ⟨bb, off, e, hc, hb⟩ := h1.row i hi
  refine ⟨bb, off, e, ?_, by omega⟩
  rw [← hc]
  have := hk bb (h4 _ e) hb
  unfold World.cell?
  simp only
  rw [this]
theorem PA.below {w w' : World} {K : Nat} {a : Option Addr} {n c : Nat} {p : Ser (El m)} {x : Nat} (h : PA m w K a n c p x) (b : Below w.heap.size w w') : PA m w' K a n c p x := h.keep (fun q _ hq => b.block q hq) b.size
theorem PA.only {w : World} {K : Nat} {a : Option Addr} {n c : Nat} {p : Ser (El m)} {x i : Nat} {v : Value} (h : PA m w K a n c p x) : PA m (w.setCell ⟨x, i, none⟩ v) K a n c p x :=
  h.keep (fun q hq _ => (Only.setCell w ⟨x, i, none⟩ v).block q hq) (Nat.le_of_eq (Only.setCell w ⟨x, i, none⟩ v).size.symm)
theorem PA.more {w : World} {K K' : Nat} {a : Option Addr} {n c : Nat} {p : Ser (El m)} {x : Nat} (h : PA m w K a n c p x) (hK : n ≤ K') : PA m w K' a n c p x := ⟨h.1, hK, h.2.2⟩
/-- new numbers. -/
structure NP (m : Nat) [M : Mid m] (w0 w : World) (K : Nat) (a : Option Addr) (n c : Nat) (p : Ser (El m)) : Prop where
  nv : NV m w K a n c p
  new : ∀ q, a = some q → w0.heap.size ≤ q.block
theorem NP.pa {w0 w : World} {K : Nat} {a : Option Addr} {n c : Nat} {p : Ser (El m)} (h : NP m w0 w K a n c p) {x : Nat} (hx : x < w0.heap.size) : PA m w K a n c p x := by
  obtain ⟨l, h1, h2, h3⟩ := h.nv.pol
  exact ⟨⟨l, h1, h2⟩, h3, fun q hq e => by have := h.new q hq; omega⟩
theorem out_new {w0 w : World} {a : Option Addr} {n c : Nat} {p : Ser (El m)} (h : Out m w0 w a n c p) : ∀ q, a = some q → w0.heap.size ≤ q.block := by
  rintro q rfl
  rcases h with ⟨h, _⟩ | ⟨g, N, h, hg, _⟩
  · cases h
  · cases h; exact hg
section
variable {g s be ce bl : Nat} {w : World}
theorem addN {k k' : Nat} {a a' : Option Addr} {n c n' c' : Nat} {p q : Ser (El m)} (R : RingAt m w g s be ce bl) (K : Nat) (h1 : PV m w k a n c p) (h2 : PV m w k' a' n' c' q) (hK : k ≤ 2048) (hK' : k' ≤ 2048) (hb : Bd (padd p q) K) :
    Calls Tryz.prog 140 #[.pointer (some ⟨g, 0, none⟩), .slice a n c, .slice a' n' c'] w fun e w' => ∃ a n c, e = .returned (.slice a n c) ∧ NP m w w' K a n c (padd p q) ∧ Below w.heap.size w w' := by
  obtain ⟨l1, r1, rfl, n1⟩ := h1
  obtain ⟨l2, r2, rfl, n2⟩ := h2
  refine (padd_any a n c l1 a' n' c' l2 w R r1 r2 (by omega) (by omega)).mono ?_
  rintro e w1 ⟨a3, n3, c3, rfl, hO, b⟩
  exact ⟨a3, n3, c3, rfl, ⟨outV hO hb, out_new hO⟩, b⟩
end
end
end Go.Proofs.YthmfneepnkgmgaaGreatDoor.Loc
/- The block of package locate's search. By the verifier of shale. -/
namespace Go.Proofs.YthmfneepnkgmgaaGreatDoor.Loc
open Go Go.RowKit Pl Fld Bits16
set_option linter.unusedVariables false
/-- block x is a search. -/
def objS (s : Nat) (c b : Value) (L k : Nat) (d : Int) : Obj := .cells #[.pointer (some ⟨s, 0, none⟩), c, b, .int .i64 (L : Int), .int .i64 (k : Int), .int .i64 d] 159 (0, 0)
def SrB (w : World) (x s : Nat) (c b : Value) (L k : Nat) (d : Int) : Prop := w.heap[x]? = some (objS s c b L k d)
section
variable {w w' : World} {x s : Nat} {c b : Value} {L k : Nat} {d : Int}
theorem SrB.cells (h : SrB w x s c b L k d) :
    w.cell? ⟨x, 0, none⟩ = some (.pointer (some ⟨s, 0, none⟩)) ∧ w.cell? ⟨x, 1, none⟩ = some c ∧ w.cell? ⟨x, 2, none⟩ = some b ∧ w.cell? ⟨x, 3, none⟩ = some (.int .i64 (L : Int)) ∧ w.cell? ⟨x, 4, none⟩ = some (.int .i64 (k : Int)) ∧ w.cell? ⟨x, 5, none⟩ = some (.int .i64 d) := by
  have e : w.heap[x]? = _ := h
  refine ⟨?_, ?_, ?_, ?_, ?_, ?_⟩ <;> (unfold World.cell?; simp only; rw [e]; rfl)
theorem SrB.free (h : SrB w x s c b L k d) (i : Nat) : w.frozen? ⟨x, i, none⟩ = false := by
  unfold World.frozen?
  simp only
  rw [show w.heap[x]? = _ from h]; rfl
theorem SrB.lt (h : SrB w x s c b L k d) : x < w.heap.size := lt_of_block h
theorem SrB.below (h : SrB w x s c b L k d) (u : Below w.heap.size w w') : SrB w' x s c b L k d := (u.block x h.lt).trans h
theorem SrB.drew (h : SrB w x s c b L k d) : SrB w.drew x s c b L k d := h
theorem SrB.new (w : World) (s : Nat) (c b : Value) (L k : Nat) (d : Int) : SrB (w.alloc (objS s c b L k d)) w.heap.size s c b L k d := heap_alloc_new w _
theorem SrB.set1 (h : SrB w x s c b L k d) (v : Value) : SrB (w.setCell ⟨x, 1, none⟩ v) x s v b L k d := by
  have hlt := h.lt
  have e' : w.heap[x] = objS s c b L k d := by simpa [SrB, Array.getElem?_eq_getElem hlt] using h
  show (w.heap.modify x _)[x]? = _
  rw [Array.getElem?_eq_getElem (by simpa using hlt), Array.getElem_modify_self, e']; rfl
theorem SrB.set2 (h : SrB w x s c b L k d) (v : Value) : SrB (w.setCell ⟨x, 2, none⟩ v) x s c v L k d := by
  have hlt := h.lt
  have e' : w.heap[x] = objS s c b L k d := by simpa [SrB, Array.getElem?_eq_getElem hlt] using h
  show (w.heap.modify x _)[x]? = _
  rw [Array.getElem?_eq_getElem (by simpa using hlt), Array.getElem_modify_self, e']; rfl
theorem SrB.set3 (h : SrB w x s c b L k d) (L' : Nat) (v : Int) (hv : v = (L' : Int)) : SrB (w.setCell ⟨x, 3, none⟩ (.int .i64 v)) x s c b L' k d := by
  subst hv
  have hlt := h.lt
  have e' : w.heap[x] = objS s c b L k d := by simpa [SrB, Array.getElem?_eq_getElem hlt] using h
  show (w.heap.modify x _)[x]? = _
  rw [Array.getElem?_eq_getElem (by simpa using hlt), Array.getElem_modify_self, e']; rfl
theorem SrB.set4 (h : SrB w x s c b L k d) (k' : Nat) (v : Int) (hv : v = (k' : Int)) : SrB (w.setCell ⟨x, 4, none⟩ (.int .i64 v)) x s c b L k' d := by
  subst hv
  have hlt := h.lt
  have e' : w.heap[x] = objS s c b L k d := by simpa [SrB, Array.getElem?_eq_getElem hlt] using h
  show (w.heap.modify x _)[x]? = _
  rw [Array.getElem?_eq_getElem (by simpa using hlt), Array.getElem_modify_self, e']; rfl
theorem SrB.set5 (h : SrB w x s c b L k d) (v : Int) : SrB (w.setCell ⟨x, 5, none⟩ (.int .i64 v)) x s c b L k v := by
  have hlt := h.lt
  have e' : w.heap[x] = objS s c b L k d := by simpa [SrB, Array.getElem?_eq_getElem hlt] using h
  show (w.heap.modify x _)[x]? = _
  rw [Array.getElem?_eq_getElem (by simpa using hlt), Array.getElem_modify_self, e']; rfl
end
section
variable {m : Nat} [M : Mid m]
/-- the field's blocks are none of x. -/
def FA (m : Nat) (w : World) (s be ce bl x : Nat) : Prop := FldAt m w s be ce bl ∧ s ≠ x ∧ be ≠ x ∧ bl ≠ x
theorem FA.keep {w w' : World} {s be ce bl x : Nat} (f : FA m w s be ce bl x) (hk : ∀ q, q ≠ x → q < w.heap.size → w'.heap[q]? = w.heap[q]?) : FA m w' s be ce bl x := by
  obtain ⟨f, n1, n2, n3⟩ := f
  obtain ⟨l1, l2, l3⟩ := f.lt M.lo
  have hc : ∀ {p : Addr}, p.block ≠ x → p.block < w.heap.size → w'.cell? p = w.cell? p := fun h1 h2 => World.cell?_of_block (w := w) (hk _ h1 h2)
  exact ⟨⟨(hk s n1 l1).trans f.1, f.2.1, fun i hi => (hc (p := ⟨be, i, none⟩) n2 l2).trans (f.2.2.1 i hi), fun y hy => (hc (p := ⟨bl, _, none⟩) n3 l3).trans (f.2.2.2 y hy)⟩, n1, n2, n3⟩
theorem FA.below {w w' : World} {s be ce bl x : Nat} (f : FA m w s be ce bl x) (b : Below w.heap.size w w') : FA m w' s be ce bl x := f.keep fun q _ hq => b.block q hq
theorem FA.only {w : World} {s be ce bl x i : Nat} {v : Value} (f : FA m w s be ce bl x) : FA m (w.setCell ⟨x, i, none⟩ v) s be ce bl x :=
  f.keep fun q hq _ => (Only.setCell w ⟨x, i, none⟩ v).block q hq
/-- block x is the search in the state t; its polynomials are at most K long. -/
structure SrAt (m : Nat) [M : Mid m] (w : World) (x s be ce bl K : Nat) (t : St (El m)) (a : Option Addr) (n c : Nat) (a' : Option Addr) (n' c' : Nat) : Prop where
  blk : SrB w x s (.slice a n c) (.slice a' n' c') t.L t.k (zn t.d)
  fld : FA m w s be ce bl x
  pc : PA m w K a n c t.c x
  pb : PA m w K a' n' c' t.b x
theorem SrAt.below {w w' : World} {x s be ce bl K : Nat} {t : St (El m)} {a : Option Addr} {n c : Nat} {a' : Option Addr} {n' c' : Nat} (h : SrAt m w x s be ce bl K t a n c a' n' c') (u : Below w.heap.size w w') : SrAt m w' x s be ce bl K t a n c a' n' c' :=
  ⟨h.blk.below u, h.fld.below u, h.pc.below u, h.pb.below u⟩
end
end Go.Proofs.YthmfneepnkgmgaaGreatDoor.Loc
/- The walks over package locate: sum, begin. By the verifier of shale. -/
namespace Go.Proofs.YthmfneepnkgmgaaGreatDoor.Loc
open Go Go.RowKit Pl Fld Bits16
set_option linter.unusedVariables false
section
variable {m : Nat} [M : Mid m]
/-- how many products sum adds. -/
def rounds (L n n1 : Nat) : Nat := min (L + 1) (min (n + 1) n1)
theorem rounds_spec (L n n1 : Nat) : rounds L n n1 ≤ L + 1 ∧ rounds L n n1 ≤ n + 1 ∧ rounds L n n1 ≤ n1 ∧ (rounds L n n1 = L + 1 ∨ rounds L n n1 = n + 1 ∨ rounds L n n1 = n1) := by unfold rounds; omega
theorem part_rounds (p q : Ser (El m)) (n L n1 : Nat) (hp : Bd p n1) : part p q n (rounds L n n1) = part p q n (L + 1) := by
  obtain ⟨h1, h2, h3, h4⟩ := rounds_spec L n n1
  refine part_all p q n _ _ (fun i a b c => ?_) fun i a b c => ?_
  · rcases h4 with h | h | h
    · omega
    · omega
    · exact hp i (by omega)
  · omega
abbrev mulOf (s : Nat) : Value := .func (.func 121) #[.pointer (some ⟨s, 0, none⟩)] #[]
set_option maxRecDepth 100000 in
set_option maxHeartbeats 1000000 in
theorem lsum_any {s be ce bl : Nat} (a b : Option Addr) (n1 c1 n2 c2 : Nat) (l1 l2 : List Int) (n L : Nat) (w : World) (F : FldAt m w s be ce bl) (r1 : RowZ w a n1 c1 l1) (r2 : RowZ w b n2 c2 l2) (hn : n < n2) (hL : L ≤ 1000000000) :
    Calls Tryz.prog 122 #[.slice a n1 c1, .slice b n2 c2, .int .i64 (n : Int), .int .i64 (L : Int), mulOf s] w
      fun e w' => e = .returned (.int .i64 (zn (part (sr m l1) (sr m l2) n (rounds L n n1)))) ∧ Drawn w w' := by
  obtain ⟨t1, t2, t3, t4⟩ := rounds_spec L n n1
  generalize rounds L n n1 = T at t1 t2 t3 t4 ⊢
  have HF := Lib.hid F
  have R1 := Lib.hid r1
  have R2 := Lib.hid r2
  have hm : n1 ≤ maxLen := Nat.le_trans r1.hcap r1.hmost
  have hm2 : n2 ≤ maxLen := Nat.le_trans r2.hcap r2.hmost
  unfold maxLen at hm hm2
  clear F r1 r2
  have HT : Hid (T ≤ L + 1 ∧ T ≤ n + 1 ∧ T ≤ n1 ∧ (T = L + 1 ∨ T = n + 1 ∨ T = n1)) := ⟨t1, t2, t3, t4⟩
  obtain ⟨A, hA⟩ : ∃ A : Nat, A = min L n := ⟨_, rfl⟩
  have e1 : (if n < L then (n : Int) else (L : Int)) = (A : Int) := by split <;> omega
  have e2 : (if (n1 : Int) - 1 < (A : Int) then (n1 : Int) - 1 else (A : Int)) = (T : Int) - 1 := by split <;> omega
  have HE := Lib.hid (And.intro e1 e2)
  have hT9 : T ≤ 1000000001 := by omega
  clear t1 t2 t3 t4 e1 e2 hA
  go_enter Tryz.func122, Tryz.ntmps122
  go_wp2_with fail
  go_loopg [11, 12] T (fun gh s11 s12 wx => ∃ k : Nat, gh = T - k ∧ k ≤ T ∧ s12 = .int .i64 (k : Int) ∧ s11 = .int .i64 (zn (part (sr m l1) (sr m l2) n k)) ∧ Drawn w wx)
  case atStart => exact ⟨0, rfl, Nat.zero_le _, rfl, by rw [part_zero]; rfl, Drawn.refl _⟩
  case round =>
    obtain ⟨k, hg, hk, rfl, rfl, hD⟩ := hrel
    have HG := Lib.hid hg
    clear hg
    by_cases hlt : k < T
    · have y1 : (k : Int) ≤ (T : Int) - 1 := by omega
      obtain ⟨e1, e2⟩ := HE.out
      have z0 : (0 : Int) ≤ (k : Int) := by omega
      have z1 : (k : Int) < (n1 : Int) := by have := HT.out; omega
      have z2 : (0 : Int) ≤ (n : Int) - (k : Int) := by have := HT.out; omega
      have z3 : (n : Int) - (k : Int) < (n2 : Int) := by omega
      have z4 : ((n : Int) - (k : Int)).toNat = n - k := by omega
      have z5 : IntKind.i64.wrap ((n : Int) - (k : Int)) = (n : Int) - (k : Int) := IntWalk.i64_in _ (by omega)
      obtain ⟨b1, o1, rfl, cc1, _⟩ := (R1.out.below (hD.below _)).row k (by have := HT.out; omega)
      obtain ⟨b2, o2, rfl, cc2, _⟩ := (R2.out.below (hD.below _)).row (n - k) (by omega)
      have HFw := Lib.hid (HF.out.drawn M.lo hD)
      have HX := zn_add (part (sr m l1) (sr m l2) n k) (sr m l1 k * sr m l2 (n - k))
      rw [← part_succ _ _ _ _ (by have := HT.out; omega)] at HX
      have HM : Hid (∀ nn, Calls Tryz.prog 121 #[.pointer (some ⟨s, 0, none⟩), .int .i64 (l1.getD k 0), .int .i64 (l2.getD (n - k) 0)] (wr.drewN nn) fun e w' => e = .returned (.int .i64 (zn (sr m l1 k * sr m l2 (n - k)))) ∧ Drawn (wr.drewN nn) w') := fun nn =>
        mul_any M.lo M.hi (l1.getD k 0) (l2.getD (n - k) 0) (wr.drewN nn) (HFw.out.drawn M.lo (Drawn.mk wr nn))
      generalize zn (sr m l1 k * sr m l2 (n - k)) = v1 at HM HX
      generalize zn (part (sr m l1) (sr m l2) n k) = v2 at HX ⊢
      generalize hv3 : zn (part (sr m l1) (sr m l2) n (k + 1)) = v3 at HX
      have HV := Lib.hid hv3
      generalize l1.getD k 0 = u1 at cc1 HM
      generalize l2.getD (n - k) 0 = u2 at cc2 HM
      clear hv3
      go_wp2_with fail
      go_quiet ((go_at_call 121; exact quiet_drawn (HM.out _)))
      have hd2 : Drawn w (wr.drewN nq) := hD.trans (Drawn.mk _ _)
      generalize wr.drewN nq = w5 at hd2 ⊢
      clear cc1 cc2 z0 z1 z2 z3 z4 z5 y1 HX e1 e2
      go_wp2_with fail
      go_roundg (T - (k + 1))
      case measure => have := HG.out; omega
      case rel => exact ⟨k + 1, rfl, hlt, by go_num, by rw [HV.out], hd2⟩
    · obtain rfl : k = T := by omega
      have y1 : ¬ ((k : Int) ≤ (k : Int) - 1) := by omega
      obtain ⟨e1, e2⟩ := HE.out
      go_wp2_with fail
      go_ret
      exact ⟨rfl, hD⟩
/-- begin: a search in its first state. -/
theorem begin_any {s be ce bl : Nat} (w : World) (F : FldAt m w s be ce bl) :
    Calls Tryz.prog 95 #[.pointer (some ⟨s, 0, none⟩)] w fun e w' => ∃ x a a', e = .returned (.pointer (some ⟨x, 0, none⟩)) ∧ w.heap.size ≤ x ∧ SrAt m w' x s be ce bl 1 st0 a 1 1 a' 1 1 ∧ Below w.heap.size w w' := by
  have HF := Lib.hid F
  clear F
  have b1 : Below w.heap.size w (w.alloc (.cells #[.int .i64 1] 3 (0, 0))) := (Below.refl _ _).alloc (Nat.le_refl _) _
  have r1 := row_one w
  generalize hw1 : w.alloc (.cells #[.int .i64 1] 3 (0, 0)) = w1 at b1 r1
  have s1 : w1.heap.size = w.heap.size + 1 := by rw [← hw1]; exact Array.size_push _
  have b2 : Below w1.heap.size w1 (w1.alloc (.cells #[.int .i64 1] 3 (0, 0))) := (Below.refl _ _).alloc (Nat.le_refl _) _
  have r2 := row_one w1
  generalize hw2 : w1.alloc (.cells #[.int .i64 1] 3 (0, 0)) = w2 at b2 r2
  have s2 : w2.heap.size = w1.heap.size + 1 := by rw [← hw2]; exact Array.size_push _
  have b3 : Below w2.heap.size w2 (w2.alloc (objS s (.slice (some ⟨w.heap.size, 0, none⟩) 1 1) (.slice (some ⟨w1.heap.size, 0, none⟩) 1 1) 0 1 1)) := (Below.refl _ _).alloc (Nat.le_refl _) _
  have r3 := SrB.new w2 s (.slice (some ⟨w.heap.size, 0, none⟩) 1 1) (.slice (some ⟨w1.heap.size, 0, none⟩) 1 1) 0 1 1
  have hB : Below w.heap.size w (w2.alloc (objS s (.slice (some ⟨w.heap.size, 0, none⟩) 1 1) (.slice (some ⟨w1.heap.size, 0, none⟩) 1 1) 0 1 1)) := b1.trans ((b2.trans (b3.mono b2.size)).mono b1.size)
  have HR : Hid (SrAt m (w2.alloc (objS s (.slice (some ⟨w.heap.size, 0, none⟩) 1 1) (.slice (some ⟨w1.heap.size, 0, none⟩) 1 1) 0 1 1)) w2.heap.size s be ce bl 1 st0 (some ⟨w.heap.size, 0, none⟩) 1 1 (some ⟨w1.heap.size, 0, none⟩) 1 1) := by
    obtain ⟨l1, l2, l3⟩ := HF.out.lt M.lo
    refine ⟨r3, ⟨HF.out.below M.lo hB, by omega, by omega, by omega⟩, ⟨⟨[1], (r1.below b2).below b3, sr_one⟩, Nat.le_refl _, ?_⟩, ⟨⟨[1], r2.below b3, sr_one⟩, Nat.le_refl _, ?_⟩⟩
    · rintro _ ⟨⟩; show w.heap.size ≠ _; omega
    · rintro _ ⟨⟩; show w1.heap.size ≠ _; omega
  have HW : Hid (w.alloc (.cells #[.int .i64 1] 3 (0, 0)) = w1 ∧ w1.alloc (.cells #[.int .i64 1] 3 (0, 0)) = w2 ∧ w1.heap.size = w.heap.size + 1 ∧ w2.heap.size = w1.heap.size + 1) := ⟨hw1, hw2, s1, s2⟩
  have HB := Lib.hid hB
  clear hw1 hw2 b1 b2 b3 r1 r2 r3 s1 s2 hB
  go_enter Tryz.func95, Tryz.ntmps95
  go_wp2_with fail
  go_ret
  obtain ⟨h1, h2, s1, s2⟩ := HW.out
  have hr := HR.out
  have hb := HB.out
  rw [s2, s1] at hr
  rw [s1] at hb
  subst h1 h2
  exact ⟨_, _, _, rfl, by omega, hr, hb⟩
end
end Go.Proofs.YthmfneepnkgmgaaGreatDoor.Loc
/- The walks over package locate: minus, mend, mendWhole. By the verifier of shale. -/
namespace Go.Proofs.YthmfneepnkgmgaaGreatDoor.Loc
open Go Go.RowKit Pl Fld Bits16
set_option linter.unusedVariables false
section
variable {m : Nat} [M : Mid m]
theorem sr_up (k : Nat) (l : List Int) : sr m (List.replicate k 0 ++ l) = up k (sr m l) := funext fun i => by
  rw [up_at]
  show elm m ((List.replicate k 0 ++ l).getD i 0) = _
  by_cases h : i < k
  · rw [if_pos h, List.getD_eq_getElem?_getD, List.getElem?_append_left (by simpa using h)]
    simp [h, elm_zero]
  · rw [if_neg h, List.getD_eq_getElem?_getD, List.getElem?_append_right (by simpa using h)]
    simp [sr, List.getD_eq_getElem?_getD]
theorem own_row {w : World} {base n : Nat} {a : Option Addr} {k c : Nat} {l : List Int} (h : Own64 w base (.slice a k c) n l) (hk : k = n) (hc : n ≤ c) (hm : c ≤ maxLen) : RowZ w a n c l := by
  refine ⟨h.len.symm, hc, hm, fun i hi => ?_⟩
  obtain ⟨g, cap, e, _, hlt, hnc, hcell⟩ := h.cells (by omega)
  simp only [Value.slice.injEq] at e
  obtain ⟨rfl, rfl, rfl⟩ := e
  exact ⟨g, 0, rfl, by rw [Nat.zero_add]; exact hcell i hi, hlt⟩
theorem own_room {w : World} {base n g c : Nat} {l : List Int} (h : Own64 w base (.slice (some ⟨g, 0, none⟩) n c) n l) : n ≤ c ∧ c ≤ maxLen := by
  rcases h.2 with ⟨h0, _⟩ | ⟨g', cap', cur, hv, hbg, hh, hnc, hm, _⟩
  · cases h0
  · simp only [Value.slice.injEq] at hv
    obtain ⟨_, _, rfl⟩ := hv
    exact ⟨hnc, hm⟩
set_option maxRecDepth 100000 in
set_option maxHeartbeats 1000000 in
theorem minus_any {K1 K2 : Nat} (K : Nat) {x s be ce bl L k : Nat} {cv : Value} {d : Int} {a a' : Option Addr} {n c n' c' : Nat} {p q : Ser (El m)} (z : Int) (w : World)
    (hB : SrB w x s cv (.slice a' n' c') L k d) (F : FldAt m w s be ce bl) (hp : PV m w K1 a n c p) (hq : PV m w K2 a' n' c' q) (h0 : 0 < n') (hK1 : K1 ≤ 1000) (hK2 : K2 ≤ 1000) (hk : k ≤ 1000) (hb : Bd (padd p (psm (elm m z) (up k q))) K) :
    Calls Tryz.prog 126 #[.pointer (some ⟨x, 0, none⟩), .slice a n c, .int .i64 z] w
      fun e w' => ∃ a n c, e = .returned (.slice a n c) ∧ NP m w w' K a n c (padd p (psm (elm m z) (up k q))) ∧ Below w.heap.size w w' := by
  obtain ⟨i0, hi, hz0, hz1, hz2⟩ := info64
  have hmk := fun w => made64 w k (by omega)
  obtain ⟨lq, rq, hlq, hn'⟩ := hq
  obtain ⟨bq, oq, rfl, _, _⟩ := rq.row 0 h0
  obtain ⟨c0, c1, c2, c3, c4, c5⟩ := hB.cells
  have hx := hB.lt
  have hrow := RowZ.news rq
  have hbq : bq < w.heap.size := by
    obtain ⟨b1, o1, e1, _, hb1⟩ := rq.row 0 h0
    simp only [Option.some.injEq, Addr.mk.injEq] at e1
    obtain ⟨rfl, _⟩ := e1
    exact hb1
  have HRow := Lib.hid hrow
  have HF := Lib.hid F
  have HP := Lib.hid hp
  have HL := Lib.hid rq.hlen
  have HQ := Lib.hid hlq
  have HB := Lib.hid hb
  clear hB F hp rq hlq hb hrow c1 c3 c5
  go_enter Tryz.func126, Tryz.ntmps126
  go_wp2_with fail
  have hx1 : Below w.heap.size w (w.alloc (obj64 (List.replicate k 0))).drew := ((Below.refl _ _).alloc (Nat.le_refl _) _).drew
  have ho : Own64 (w.alloc (obj64 (List.replicate k 0))).drew w.heap.size (.slice (some ⟨w.heap.size, 0, none⟩) k k) k (List.replicate k 0) := Blk64.own (Blk64.new w (List.replicate k 0) : Blk64 (w.alloc (obj64 (List.replicate k 0))).drew w.heap.size _) (Nat.le_refl _) (by simp) (by unfold maxLen; omega)
  have hnews : ∀ j u, (cells64 lq)[j]? = some u → (w.alloc (obj64 (List.replicate k 0))).drew.cell? ((⟨bq, oq, none⟩ : Addr).add j) = some u := fun j u hu => (hx1.cell (by rw [add_row]; exact hbq)).trans (HRow.out j u hu)
  have hsz : (w.alloc (obj64 (List.replicate k 0))).drew.heap.size = w.heap.size + 1 := Array.size_push _
  go_region_held3 (fun w' => w'.cell? ⟨x, 2, none⟩ = some (.slice (some ⟨bq, oq, none⟩) n' c') ∧ w'.cell? ⟨x, 4, none⟩ = some (.int .i64 (k : Int)))
    (first | go_keep | exact ⟨(hgrow.cell_far ⟨x, 2, none⟩ (by rw [hsz]; show x < _; omega) (by simp [Value.ownBlock]; omega)).trans ((hx1.cell (p := ⟨x, 2, none⟩) hx).trans c2), (hgrow.cell_far ⟨x, 4, none⟩ (by rw [hsz]; show x < _; omega) (by simp [Value.ownBlock]; omega)).trans ((hx1.cell (p := ⟨x, 4, none⟩) hx).trans c4)⟩)
    ((refine step_append_lies _ (by rfl) _ _ _ (by rfl) w.heap.size 3 i0 (.int .i64 0) 1 8 Tryz.underlying33 hi hz0 hz1 hz2 rfl (by decide) (.slice (some ⟨w.heap.size, 0, none⟩) k k) k (cells64 (List.replicate k 0)) (by rfl) ho ⟨bq, oq, none⟩ n' c' (cells64 lq) (by rfl) (by rw [cells64_length, ← HL.out, Nat.mul_one]) hnews (cells64_one _) h0 (by unfold maxLen; omega) (by omega) (by rw [hsz]; omega) (w.heap.size + 1) hsz ?_; intro gg cap w1 hown1 hgrow hat hlt))
  have b1 : Below w.heap.size w w1 := hx1.grown hgrow (by omega) (fun g hg => by simp only [Value.ownBlock, Option.some.injEq] at hg; omega)
  have ho1 : Own64 w1 w.heap.size (.slice (some ⟨gg, 0, none⟩) (k + n') cap) (k + n') (List.replicate k 0 ++ lq) := by unfold Own64; rw [← cells64_append]; exact hown1
  have hsh : PV m w1 2000 (some ⟨gg, 0, none⟩) (k + n') cap (up k q) := ⟨_, own_row ho1 rfl (own_room ho1).1 (own_room ho1).2, by rw [sr_up, HQ.out], by omega⟩
  have c0 := (b1.cell (p := ⟨x, 0, none⟩) hx).trans c0
  clear hown1 hgrow hat hlt ho1 hx1 ho hnews hsz c2 c4 hmk
  rename_i hheld
  clear hheld
  go_wp2_with fail
  refine (pnew_any w1 (HF.out.below M.lo b1)).mono ?_
  rintro e w2 ⟨g, rfl, R, b2⟩
  clear c0
  go_wp2_with fail
  refine (scaleV z R (hsh.below b2) (by omega)).mono ?_
  rintro e w3 ⟨a3, n3, cc3, rfl, nv3, b3⟩
  have b13 := b1.trans ((b2.trans (b3.mono b2.size)).mono b1.size)
  go_wp2_with fail
  refine (addN (R.below b3) K (HP.out.below b13) nv3.pol (by omega) (by omega) HB.out).mono ?_
  rintro e w4 ⟨a4, n4, cc4, rfl, np, b4⟩
  have b14 := b13.trans (b4.mono b13.size)
  have hs := b13.size
  go_wp2_with fail
  go_ret
  exact ⟨_, _, _, rfl, ⟨np.nv, fun q hq => Nat.le_trans hs (np.new q hq)⟩, b14⟩
theorem divK (a d : El m) (h0 : d ≠ 0) : h (fmul m (el m (zn a)) (pwZ m (-(lg m (el m (zn d)) : Int)))) = zn (a * d⁻¹) := by
  rw [h_inj _ _ (inv_zz d h0), show el m (zn a) = a.val from congrArg Subtype.val (elm_zn a)]; rfl
theorem zn_el (d : El m) (h0 : d ≠ 0) : el m (zn d) ≠ 0 := by
  rw [show el m (zn d) = d.val from congrArg Subtype.val (elm_zn d)]
  exact fun e => h0 (El.ext e)
set_option maxRecDepth 100000 in
set_option maxHeartbeats 1000000 in
theorem mend_any {K1 : Nat} (K : Nat) {x s be ce bl : Nat} {t : St (El m)} {a a' : Option Addr} {n c n' c' : Nat} (A : El m) (w : World)
    (h : SrAt m w x s be ce bl K1 t a n c a' n' c') (h0 : 0 < n') (hK1 : K1 ≤ 1000) (hk : t.k ≤ 1000) (hd : t.d ≠ 0) (hb : Bd (fix t A) K) :
    Calls Tryz.prog 97 #[.pointer (some ⟨x, 0, none⟩), .int .i64 (zn A)] w
      fun e w' => ∃ a n c, e = .returned (.slice a n c) ∧ NP m w w' K a n c (fix t A) ∧ Below w.heap.size w w' := by
  obtain ⟨c0, c1, c2, c3, c4, c5⟩ := h.blk.cells
  have HH := Lib.hid h
  have HB := Lib.hid hb
  have HD : Hid (∀ nn, Calls Tryz.prog 125 #[.pointer (some ⟨s, 0, none⟩), .int .i64 (zn A), .int .i64 (zn t.d)] (w.drewN nn) fun e w' => e = .returned (.tuple #[.int .i64 (zn (A * t.d⁻¹)), .nilIface]) ∧ Drawn (w.drewN nn) w') := fun nn => by
    have := div_any M.lo M.hi (zn A) (zn t.d) (w.drewN nn) (h.fld.1.drawn M.lo (Drawn.mk w nn)) (zn_el _ hd)
    rw [divK _ _ hd] at this
    exact this
  clear h hb c2 c3 c4 hd
  go_enter Tryz.func97, Tryz.ntmps97
  go_wp2_with fail
  go_quiet ((go_at_call 125; exact quiet_drawn (HD.out _)))
  have b1 : Below w.heap.size w (w.drewN nq) := (Drawn.mk w nq).below _
  have c1 := drewn_cell c1 nq
  generalize w.drewN nq = w1 at b1 c1 ⊢
  clear c0 c5
  go_wp2_with fail
  have h1 := HH.out.below b1
  refine (minus_any K (zn (A * t.d⁻¹)) w1 h1.blk h1.fld.1 h1.pc.pv h1.pb.pv h0 hK1 hK1 hk (by rw [elm_zn]; exact HB.out)).mono ?_
  rintro e w2 ⟨a2, n2, c2, rfl, np, b2⟩
  rw [elm_zn] at np
  have hs := b1.size
  go_wp2_with fail
  go_ret
  exact ⟨_, _, _, rfl, ⟨np.nv, fun q hq => Nat.le_trans hs (np.new q hq)⟩, b1.trans (b2.mono hs)⟩
/-- what mendWhole makes. -/
def fixF (t : St (El m)) (a : El m) : Ser (El m) := padd (psm t.d t.c) (psm a (up t.k t.b))
end
end Go.Proofs.YthmfneepnkgmgaaGreatDoor.Loc
/- The walk over package locate's run. By the verifier of shale. -/
namespace Go.Proofs.YthmfneepnkgmgaaGreatDoor.Loc
open Go Go.RowKit Pl Fld Bits16
set_option linter.unusedVariables false
section
variable {m : Nat} [M : Mid m]
/-- a way through the values. -/
structure Steps (S : Ser (El m)) (fx : St (El m) → El m → Ser (El m)) (G : Nat → St (El m)) : Prop where
  zero : G 0 = st0
  stay : ∀ k, cv (G k).c S k = 0 → G (k + 1) = { G k with k := (G k).k + 1 }
  same : ∀ k, cv (G k).c S k ≠ 0 → k < 2 * (G k).L → G (k + 1) = { G k with c := fx (G k) (cv (G k).c S k), k := (G k).k + 1 }
  grow : ∀ k, cv (G k).c S k ≠ 0 → ¬ k < 2 * (G k).L → G (k + 1) = ⟨fx (G k) (cv (G k).c S k), (G k).c, k + 1 - (G k).L, 1, cv (G k).c S k⟩
  len : ∀ k, (G k).L ≤ k
  kk : ∀ k, (G k).k ≤ k + 1
  bd : ∀ k, Bd (G k).c ((G k).L + 1)
  cne : ∀ k, (G k).c ≠ pz
  dne : ∀ k, (G k).d ≠ 0
variable {S : Ser (El m)} {fx : St (El m) → El m → Ser (El m)} {G : Nat → St (El m)}
theorem pone_ne : (pone : Ser (El m)) ≠ pz := fun e => Fl.one_ne (K := El m) (congrFun e 0)
theorem Steps.bne (h : Steps S fx G) : ∀ k, (G k).b ≠ pz
  | 0 => by rw [h.zero]; exact pone_ne
  | k + 1 => by
    by_cases h0 : cv (G k).c S k = 0
    · rw [h.stay k h0]; exact h.bne k
    · by_cases h1 : k < 2 * (G k).L
      · rw [h.same k h0 h1]; exact h.bne k
      · rw [h.grow k h0 h1]; exact h.cne k
theorem Steps.fbd (h : Steps S fx G) (k : Nat) (h0 : cv (G k).c S k ≠ 0) : Bd (fx (G k) (cv (G k).c S k)) (k + 2) := by
  have h2 := (h.bd (k + 1)).mono (show (G (k + 1)).L + 1 ≤ k + 2 by have := h.len (k + 1); omega)
  by_cases h1 : k < 2 * (G k).L
  · rw [h.same k h0 h1] at h2; exact h2
  · rw [h.grow k h0 h1] at h2; exact h2
theorem steps_bm (S : Ser (El m)) : Steps S fix (bm S) :=
  ⟨rfl, fun k h => step_zero h, fun k h h2 => step_same h h2, fun k h h2 => step_grow h h2, fun k => (bm_inv S k).le, fun k => (bm_inv S k).room.1, fun k => (bm_inv S k).bd,
    fun k e => Fl.one_ne (K := El m) ((bm_inv S k).one ▸ congrFun e 0), fun k => (bm_inv S k).d0⟩
theorem psm_ne {x : El m} (hx : x ≠ 0) {p : Ser (El m)} (hp : p ≠ pz) : psm x p ≠ pz := fun e => hp (funext fun i => by
  have : x * p i = 0 := congrFun e i
  exact Classical.byContradiction fun h => mul_ne hx h this)
theorem steps_bmF (S : Ser (El m)) : Steps S fixF (bmF S) := by
  have hl := like_bm S
  have hi := bm_inv S
  refine ⟨rfl, fun k h => ?_, fun k h h2 => ?_, fun k h h2 => ?_, fun k => ?_, fun k => ?_, fun k => ?_, fun k => ?_, fun k => ?_⟩
  · show stepF S k (bmF S k) = _
    unfold stepF; rw [if_pos h]
  · show stepF S k (bmF S k) = _
    unfold stepF; rw [if_neg h, if_pos h2]; rfl
  · show stepF S k (bmF S k) = _
    unfold stepF; rw [if_neg h, if_neg h2]; rfl
  · obtain ⟨x, y, hx, hy, h1, h2, h3, h4, h5⟩ := hl k
    rw [h3]; exact (hi k).le
  · obtain ⟨x, y, hx, hy, h1, h2, h3, h4, h5⟩ := hl k
    rw [h4]; exact (hi k).room.1
  · obtain ⟨x, y, hx, hy, h1, h2, h3, h4, h5⟩ := hl k
    rw [h3, h1]; exact (hi k).bd.sm x
  · obtain ⟨x, y, hx, hy, h1, h2, h3, h4, h5⟩ := hl k
    rw [h1]; exact psm_ne hx ((steps_bm S).cne k)
  · obtain ⟨x, y, hx, hy, h1, h2, h3, h4, h5⟩ := hl k
    rw [h5]; exact mul_ne hy (hi k).d0
theorem pa_pos {w : World} {K : Nat} {a : Option Addr} {n c : Nat} {p : Ser (El m)} {x : Nat} (h : PA m w K a n c p x) (h0 : p ≠ pz) : 0 < n :=
  Nat.pos_of_ne_zero fun e => h0 (by have := h.pv.bdn; rw [e] at this; exact this.zero)
section
variable {w w1 : World} {x s be ce bl K : Nat} {t : St (El m)} {a : Option Addr} {n c : Nat} {a' : Option Addr} {n' c' : Nat}
theorem SrAt.step0 (h : SrAt m w x s be ce bl K t a n c a' n' c') (v : Int) (hv : v = ((t.k + 1 : Nat) : Int)) : SrAt m (w.setCell ⟨x, 4, none⟩ (.int .i64 v)) x s be ce bl K { t with k := t.k + 1 } a n c a' n' c' :=
  ⟨h.blk.set4 (t.k + 1) v hv, h.fld.only, h.pc.only, h.pb.only⟩
theorem SrAt.step1 (h : SrAt m w1 x s be ce bl K t a n c a' n' c') {P : Ser (El m)} {a2 : Option Addr} {n2 c2 : Nat} (hp : PA m w1 K a2 n2 c2 P x) : SrAt m (w1.setCell ⟨x, 1, none⟩ (.slice a2 n2 c2)) x s be ce bl K { t with c := P } a2 n2 c2 a' n' c' :=
  ⟨h.blk.set1 _, h.fld.only, hp.only, h.pb.only⟩
theorem SrAt.step2 (h : SrAt m w1 x s be ce bl K t a n c a' n' c') {P : Ser (El m)} {a2 : Option Addr} {n2 c2 : Nat} (hp : PA m w1 K a2 n2 c2 P x) : SrAt m ((w1.setCell ⟨x, 1, none⟩ (.slice a2 n2 c2)).setCell ⟨x, 2, none⟩ (.slice a n c)) x s be ce bl K { t with c := P, b := t.c } a2 n2 c2 a n c :=
  ⟨(h.blk.set1 _).set2 _, h.fld.only.only, hp.only.only, h.pc.only.only⟩
theorem SrAt.step3 (h : SrAt m w x s be ce bl K t a n c a' n' c') (L' : Nat) (v : Int) (hv : v = (L' : Int)) (A : El m) : SrAt m (((w.setCell ⟨x, 3, none⟩ (.int .i64 v)).setCell ⟨x, 5, none⟩ (.int .i64 (zn A))).setCell ⟨x, 4, none⟩ (.int .i64 1)) x s be ce bl K ⟨t.c, t.b, L', 1, A⟩ a n c a' n' c' :=
  ⟨((h.blk.set3 L' v hv).set5 (zn A)).set4 1 1 rfl, h.fld.only.only.only, h.pc.only.only.only, h.pb.only.only.only⟩
end
/-- what a call of mend is to answer. -/
def MendAt (F : FuncId) (fx : St (El m) → El m → Ser (El m)) (x s be ce bl : Nat) : Prop := ∀ (t : St (El m)) (K : Nat) (a a' : Option Addr) (n c n' c' : Nat) (A : El m) (w : World), SrAt m w x s be ce bl 100 t a n c a' n' c' → 0 < n' → t.k ≤ 1000 → t.d ≠ 0 → Bd (fx t A) K →
  Calls Tryz.prog F #[.pointer (some ⟨x, 0, none⟩), .int .i64 (zn A)] w fun e w' => ∃ a n c, e = .returned (.slice a n c) ∧ NP m w w' K a n c (fx t A) ∧ Below w.heap.size w w'
theorem mendAt_div (x s be ce bl : Nat) : MendAt (m := m) 97 fix x s be ce bl := fun t K a a' n c n' c' A w h h0 hk hd hb => mend_any K A w h h0 (by omega) hk hd hb
set_option maxRecDepth 100000 in
set_option maxHeartbeats 2000000 in
theorem run_any (hS : Steps S fx G) {x s be ce bl : Nat} (w0 w : World) (hM : MendAt 97 fx x s be ce bl) (a ac bc : Option Addr) (n c nc cc nb cb : Nat) (l : List Int) (hx : w0.heap.size ≤ x) (B : Below w0.heap.size w0 w) (h : SrAt m w x s be ce bl 1 st0 ac nc cc bc nb cb)
    (r : RowZ w0 a n c l) (N : Nat) (hN : N = min n 80) (hSl : ∀ i, i < N → S i = sr m l i) :
    Calls Tryz.prog 96 #[.pointer (some ⟨x, 0, none⟩), .slice a n c, .func (.func 97) #[.pointer (some ⟨x, 0, none⟩)] #[]] w fun e w' => ∃ a n c, e = .returned (.tuple #[.slice a n c, .int .i64 ((G N).L : Int)]) ∧ NV m w' 100 a n c (G N).c ∧ Below w0.heap.size w0 w' := by
  have h100 : SrAt m w x s be ce bl 100 st0 ac nc cc bc nb cb := ⟨h.blk, h.fld, h.pc.more (Nat.le_trans h.pc.2.1 (by omega)), h.pb.more (Nat.le_trans h.pb.2.1 (by omega))⟩
  have HM := Lib.hid hM
  have HS := Lib.hid hS
  have HR := Lib.hid r
  have H0 := Lib.hid (And.intro h100 B)
  have HX := Lib.hid hx
  have HSl := Lib.hid hSl
  have hcap := r.hcap
  have hmost := r.hmost
  unfold maxLen at hmost
  have hN1 : N ≤ n := by omega
  have hN2 : N ≤ 80 := by omega
  have eN : (if (80 : Int) < (n : Int) then (80 : Int) else (n : Int)) = (N : Int) := by split <;> omega
  have y1 : (0 : Int) ≤ (N : Int) := by omega
  have y2 : (N : Int) ≤ (c : Int) := by omega
  clear hM hS r h h100 B hx hSl hN
  go_enter Tryz.func96, Tryz.ntmps96
  go_wp2_with fail
  clear eN
  go_loopg [17] N (fun gh s17 wx => ∃ (k : Nat) (a1 : Option Addr) (n1 c1 : Nat) (a2 : Option Addr) (n2 c2 : Nat), gh = N - k ∧ k ≤ N ∧ s17 = .int .i64 (k : Int) ∧ SrAt m wx x s be ce bl 100 (G k) a1 n1 c1 a2 n2 c2 ∧ Below w0.heap.size w0 wx)
  case atStart => exact ⟨0, _, _, _, _, _, _, rfl, Nat.zero_le _, rfl, by rw [HS.out.zero]; exact H0.out.1, H0.out.2⟩
  case round =>
    clear H0
    obtain ⟨k, a1, n1, c1, a2, n2, c2, hg, hk, rfl, hA, hB⟩ := hrel
    have HG := Lib.hid hg
    clear hg
    by_cases hlt : k < N
    · have x0 : (k : Int) < (N : Int) := by omega
      obtain ⟨t, ht⟩ : ∃ t, t = G k := ⟨_, rfl⟩
      have hLk : t.L ≤ k := by rw [ht]; exact HS.out.len k
      have hkk : t.k ≤ k + 1 := by rw [ht]; exact HS.out.kk k
      have hbd : Bd t.c (t.L + 1) := by rw [ht]; exact HS.out.bd k
      have hcn : t.c ≠ pz := by rw [ht]; exact HS.out.cne k
      have hbn : t.b ≠ pz := by rw [ht]; exact HS.out.bne k
      have hdn : t.d ≠ 0 := by rw [ht]; exact HS.out.dne k
      rw [← ht] at hA
      obtain ⟨A, hAe⟩ : ∃ A, A = cv t.c S k := ⟨_, rfl⟩
      have HAE : Hid (A = cv (G k).c S k) := by rw [← ht]; exact hAe
      have hfb : A ≠ 0 → Bd (fx t A) (k + 2) := by
        intro h0
        rw [ht, HAE.out]
        exact HS.out.fbd k (by rw [← HAE.out]; exact h0)
      obtain ⟨⟨l1, r1, e1⟩, _, _⟩ := hA.pc
      have HSum : Hid (∀ nn, Calls Tryz.prog 122 #[.slice a1 n1 c1, .slice a N c, .int .i64 (k : Int), .int .i64 (t.L : Int), mulOf s] (wr.drewN nn) fun e w' => e = .returned (.int .i64 (zn A)) ∧ Drawn (wr.drewN nn) w') := fun nn => by
        have b := (Drawn.mk wr nn).below wr.heap.size
        have h1 := lsum_any (m := m) a1 a n1 c1 N c l1 (l.take N) k t.L (wr.drewN nn) ((hA.below b).fld.1) (r1.below b) (((HR.out.below hB).take N hN1).below b) hlt (by omega)
        have e2 : part (sr m l1) (sr m (l.take N)) k (rounds t.L k n1) = A := by
          rw [part_rounds _ _ _ _ _ (by rw [r1.hlen]; exact sr_bd _), part_cv _ _ _ (by rw [e1]; exact hbd) (Nat.le_refl _), e1, hAe]
          refine cv_ext (fun _ _ => rfl) fun i hi => ?_
          rw [HSl.out i (by omega)]
          show elm m ((l.take N).getD i 0) = elm m (l.getD i 0)
          rw [List.getD_eq_getElem?_getD, List.getD_eq_getElem?_getD, List.getElem?_take_of_lt (by omega)]
        rw [e2] at h1
        exact h1
      obtain ⟨cc0, cc1, cc2, cc3, cc4, cc5⟩ := hA.blk.cells
      have HA := Lib.hid (And.intro hA hB)
      have HT := Lib.hid (And.intro ht (And.intro hAe hfb))
      have HNE := Lib.hid (And.intro hbn hdn)
      clear hA hB r1 e1 hbd hcn hbn hdn hAe hfb ht
      have hze := zn_eq0 A
      go_wp2_with fail
      go_quiet ((go_at_call 122; exact quiet_drawn (HSum.out _)))
      have b5 := (Drawn.mk wr nq).below wr.heap.size
      generalize wr.drewN nq = w5 at b5 ⊢
      have h5 := HA.out.1.below b5
      have B5 := HA.out.2.trans (b5.mono HA.out.2.size)
      have HA5 := Lib.hid (And.intro h5 B5)
      clear cc0 cc1 cc2 cc3 cc4 cc5 b5
      obtain ⟨cc0, cc1, cc2, cc3, cc4, cc5⟩ := h5.blk.cells
      have ff := h5.blk.free
      have f1 := ff 1
      have f2 := ff 2
      have f3 := ff 3
      have f4 := ff 4
      have f5 := ff 5
      clear ff h5 B5
      by_cases hz : A = 0
      · replace hze : (zn A == 0) = true := hze.trans (decide_eq_true hz)
        have HN : Hid (SrAt m (w5.setCell ⟨x, 4, none⟩ (.int .i64 ((t.k : Int) + 1))) x s be ce bl 100 (G (k + 1)) a1 n1 c1 a2 n2 c2 ∧ Below w0.heap.size w0 (w5.setCell ⟨x, 4, none⟩ (.int .i64 ((t.k : Int) + 1)))) := by
          refine ⟨?_, HA5.out.2.setCell HX.out _⟩
          rw [HS.out.stay k (by rw [← HAE.out]; exact hz), ← HT.out.1]
          exact HA5.out.1.step0 _ (by omega)
        clear HT HNE HA HA5 HSum
        generalize zn A = zA at hze
        clear hz
        go_wp2_with fail
        go_roundg (N - (k + 1))
        case measure => have := HG.out; omega
        case rel => exact ⟨k + 1, a1, n1, c1, a2, n2, c2, rfl, hlt, by go_num, HN.out.1, HN.out.2⟩
      · replace hze : (zn A == 0) = false := hze.trans (decide_eq_false hz)
        have hz0 : cv (G k).c S k ≠ 0 := by rw [← HAE.out]; exact hz
        have HMc : Hid (Calls Tryz.prog 97 #[.pointer (some ⟨x, 0, none⟩), .int .i64 (zn A)] w5 fun e w' => ∃ a n c, e = .returned (.slice a n c) ∧ NP m w5 w' 100 a n c (fx t A) ∧ Below w5.heap.size w5 w') :=
          HM.out t 100 a1 a2 n1 c1 n2 c2 A w5 HA5.out.1 (pa_pos HA5.out.1.pb HNE.out.1) (by omega) HNE.out.2 ((HT.out.2.2 hz).mono (by omega))
        by_cases h2 : k < 2 * t.L
        · have HSt := Lib.hid (HS.out.same k hz0 (by rw [← HT.out.1]; exact h2))
          have g1 : (k : Int) < 2 * (t.L : Int) := by omega
          clear hz hz0
          go_wp2_with fail
          refine HMc.out.mono ?_
          rintro e w6 ⟨a3, n3, c3, rfl, np, b6⟩
          have B6 := HA5.out.2.trans (b6.mono HA5.out.2.size)
          have h6 := HA5.out.1.below b6
          have hx5 := HA5.out.1.blk.lt
          have s1 := h6.step1 (np.pa hx5)
          have e4 := s1.blk.cells.2.2.2.2.1
          have f4' := s1.blk.free 4
          have e1 := h6.blk.cells.2.1
          have f1' := h6.blk.free 1
          have HN : Hid (SrAt m ((w6.setCell ⟨x, 1, none⟩ (.slice a3 n3 c3)).setCell ⟨x, 4, none⟩ (.int .i64 ((t.k : Int) + 1))) x s be ce bl 100 (G (k + 1)) a3 n3 c3 a2 n2 c2 ∧ Below w0.heap.size w0 ((w6.setCell ⟨x, 1, none⟩ (.slice a3 n3 c3)).setCell ⟨x, 4, none⟩ (.int .i64 ((t.k : Int) + 1)))) := by
            refine ⟨?_, (B6.setCell HX.out _).setCell HX.out _⟩
            rw [HSt.out, ← HAE.out, ← HT.out.1]
            exact s1.step0 _ (by show (t.k : Int) + 1 = ((t.k + 1 : Nat) : Int); omega)
          clear cc0 cc1 cc2 cc3 cc4 cc5 f1 f2 f3 f4 f5 s1 h6 B6 b6 np HT HNE HA HA5 HSum HMc
          go_wp2_with fail
          go_roundg (N - (k + 1))
          case measure => have := HG.out; omega
          case rel => exact ⟨k + 1, a3, n3, c3, a2, n2, c2, rfl, hlt, by go_num, HN.out.1, HN.out.2⟩
        · have HSt := Lib.hid (HS.out.grow k hz0 (by rw [← HT.out.1]; exact h2))
          have g1 : ¬ ((k : Int) < 2 * (t.L : Int)) := by omega
          have HMl : Hid (∀ wx, Drawn w5 wx → Calls Tryz.prog 97 #[.pointer (some ⟨x, 0, none⟩), .int .i64 (zn A)] wx fun e w' => ∃ a n c, e = .returned (.slice a n c) ∧ NP m wx w' 100 a n c (fx t A) ∧ Below w5.heap.size w5 w') := fun wx d => by
            have b := d.below w5.heap.size
            refine (HM.out t 100 a1 a2 n1 c1 n2 c2 A wx (HA5.out.1.below b) (pa_pos HA5.out.1.pb HNE.out.1) (by omega) HNE.out.2 ((HT.out.2.2 hz).mono (by omega))).mono ?_
            rintro e w' ⟨a3, n3, c3, he, np, b6⟩
            exact ⟨a3, n3, c3, he, np, b.trans (b6.mono b.size)⟩
          clear hz hz0 HMc
          have hx5 := HA5.out.1.blk.lt
          go_wp2_with fail
          go_region_law (first | (go_simp; go_at_call 97; refine Calls.mono (HMl.out _ (Drawn.mk w5 1)) ?_; rintro e w6 ⟨a3, n3, c3, rfl, np, b6⟩; have h6 := HA5.out.1.below b6; have s1 := h6.step1 (np.pa hx5); have e1 := h6.blk.cells.2.1; have f1' := h6.blk.free 1; have e2 := s1.blk.cells.2.2.1; have f2' := s1.blk.free 2))
          all_goals
            have s2 := h6.step2 (np.pa hx5)
            have B6 := (((HA5.out.2.trans (b6.mono HA5.out.2.size)).setCell (p := ⟨x, 1, none⟩) HX.out (.slice a3 n3 c3)).setCell (p := ⟨x, 2, none⟩) HX.out (.slice a1 n1 c1))
            clear cc0 cc1 cc2 cc3 cc4 cc5 f1 f2 f3 f4 f5 h6 s1 e1 e2 f1' f2' b6 np HMl HSum
            generalize (w6.setCell ⟨x, 1, none⟩ (.slice a3 n3 c3)).setCell ⟨x, 2, none⟩ (.slice a1 n1 c1) = w7 at s2 B6 ⊢
            have s3 := s2.blk.set3 (k + 1 - t.L) ((k : Int) + 1 - (t.L : Int)) (by omega)
            have s4 := s3.set5 (zn A)
            have d1 := s2.blk.cells.2.2.2.1
            have d2 := s2.blk.free 3
            have d3 := s3.cells.2.2.2.2.2
            have d4 := s3.free 5
            have d5 := s4.cells.2.2.2.2.1
            have d6 := s4.free 4
            have HN : Hid (SrAt m (((w7.setCell ⟨x, 3, none⟩ (.int .i64 ((k : Int) + 1 - (t.L : Int)))).setCell ⟨x, 5, none⟩ (.int .i64 (zn A))).setCell ⟨x, 4, none⟩ (.int .i64 1)) x s be ce bl 100 (G (k + 1)) a3 n3 c3 a1 n1 c1 ∧ Below w0.heap.size w0 (((w7.setCell ⟨x, 3, none⟩ (.int .i64 ((k : Int) + 1 - (t.L : Int)))).setCell ⟨x, 5, none⟩ (.int .i64 (zn A))).setCell ⟨x, 4, none⟩ (.int .i64 1))) := by
              refine ⟨?_, ((B6.setCell HX.out _).setCell HX.out _).setCell HX.out _⟩
              rw [HSt.out, ← HAE.out, ← HT.out.1]
              exact s2.step3 (k + 1 - t.L) _ (by omega) A
            clear s2 s3 s4 B6 HT HNE HA HA5
            generalize zn A = zA at hze HN d3 d4 d5 d6 ⊢
            go_wp2_with fail
            go_roundg (N - (k + 1))
            case measure => have := HG.out; omega
            case rel => exact ⟨k + 1, a3, n3, c3, a1, n1, c1, rfl, hlt, by go_num, HN.out.1, HN.out.2⟩
    · obtain rfl : k = N := by omega
      obtain ⟨cc0, cc1, cc2, cc3, cc4, cc5⟩ := hA.blk.cells
      have hx5 := hA.blk.lt
      have HC : Hid (∀ w', Below wr.heap.size wr w' → w'.cell? ⟨x, 0, none⟩ = some (.pointer (some ⟨s, 0, none⟩)) ∧ w'.cell? ⟨x, 1, none⟩ = some (.slice a1 n1 c1) ∧ w'.cell? ⟨x, 3, none⟩ = some (.int .i64 ((G k).L : Int))) := fun w' b => ⟨(b.cell (p := ⟨x, 0, none⟩) hx5).trans cc0, (b.cell (p := ⟨x, 1, none⟩) hx5).trans cc1, (b.cell (p := ⟨x, 3, none⟩) hx5).trans cc3⟩
      have HA := Lib.hid hA
      have HB := Lib.hid hB
      clear hA hB cc2 cc4 cc5
      have B0 : Below wr.heap.size wr wr.drew := (Drawn.mk wr 1).below _
      go_wp2_with fail
      go_region_held3 (fun w' => w'.cell? ⟨x, 0, none⟩ = some (.pointer (some ⟨s, 0, none⟩)) ∧ w'.cell? ⟨x, 1, none⟩ = some (.slice a1 n1 c1) ∧ w'.cell? ⟨x, 3, none⟩ = some (.int .i64 ((G k).L : Int)))
        (first | go_keep | exact HC.out _ B2 | exact HC.out _ B1)
        ((first
          | (go_at_call 123; refine Calls.mono (pnew_any _ (HA.out.below B0).fld.1) ?_; rintro e w1 ⟨g, rfl, R, b1⟩; have B1 := B0.trans (b1.mono B0.size))
          | (go_at_call 124; refine Calls.mono (trimV R (HA.out.below B1).pc.pv (by omega)) ?_; rintro e w2 ⟨a3, n3, cc3, rfl, nv, b2⟩; have B2 := B1.trans (b2.mono B1.size))))
      go_wp2_with fail
      go_ret2
      exact ⟨_, _, _, rfl, nv, HB.out.trans (B2.mono HB.out.size)⟩
end
end Go.Proofs.YthmfneepnkgmgaaGreatDoor.Loc
/- The walk over package locate's run, without a division. By the verifier of shale. -/
namespace Go.Proofs.YthmfneepnkgmgaaGreatDoor.Loc
open Go Go.RowKit Pl Fld Bits16
set_option linter.unusedVariables false
section
variable {m : Nat} [M : Mid m]
variable {S : Ser (El m)} {fx : St (El m) → El m → Ser (El m)} {G : Nat → St (El m)}
end
end Go.Proofs.YthmfneepnkgmgaaGreatDoor.Loc
/- The contracts of package locate: Locate, Fast, Of, Makes. By the verifier of shale. -/
namespace Go.Proofs.YthmfneepnkgmgaaGreatDoor.Loc
open Go Go.RowKit Pl Fld Bits16
set_option linter.unusedVariables false
section
variable {m : Nat} [M : Mid m]
set_option maxRecDepth 100000 in
set_option maxHeartbeats 1000000 in
theorem locate_any {s be ce bl : Nat} (a : Option Addr) (n c : Nat) (l : List Int) (w : World) (F : FldAt m w s be ce bl) (r : RowZ w a n c l) (S : Ser (El m)) (N : Nat) (hN : N = min n 80) (hS : ∀ i, i < N → S i = sr m l i) :
    Calls Tryz.prog 62 #[.pointer (some ⟨s, 0, none⟩), .slice a n c] w fun e w' => ∃ a n c, e = .returned (.tuple #[.slice a n c, .int .i64 ((bm S N).L : Int)]) ∧ NV m w' 100 a n c (bm S N).c ∧ Below w.heap.size w w' := by
  have HF := Lib.hid F
  have HR := Lib.hid r
  have HS := Lib.hid hS
  have HN := Lib.hid hN
  clear F r hS hN
  go_enter Tryz.func62, Tryz.ntmps62
  go_wp2_with fail
  refine (begin_any w HF.out).mono ?_
  rintro e w1 ⟨x, a1, a2, rfl, hx, h1, b1⟩
  go_wp2_with fail
  refine (run_any (steps_bm S) w w1 (mendAt_div x s be ce bl) a a1 a2 n c 1 1 1 1 l hx b1 h1 HR.out N HN.out HS.out).mono ?_
  rintro e w2 ⟨a3, n3, c3, rfl, nv, b2⟩
  go_wp2_with fail
  go_ret2
  exact ⟨_, _, _, rfl, nv, b2⟩
/-- does p, so long, make s (the first n of it)? -/
def MakesP (p s : Ser (El m)) (L n : Nat) : Prop := ∀ i, L ≤ i → i < n → part p s i (L + 1) = 0
open Classical in
noncomputable def makesB (p s : Ser (El m)) (L n : Nat) : Bool := decide (MakesP p s L n)
end
end Go.Proofs.YthmfneepnkgmgaaGreatDoor.Loc
/- Structs of integers that came in by value. By the verifier of shale. -/
namespace Go.Proofs.YthmfneepnkgmgaaGreatDoor
open Go Go.RowKit Go.ChangeShapes Go.WideShapes Go.Deep
/-- a struct of integers alone, handed in by value: its cells are integers that fit. -/
theorem open_ints_struct {H : Type} {enc : TypeId × Value → H} {P : Program} {w : World} {base b0 : Nat} {spare : Nat → Bool} {held : Bool} {r : Reach} {k : IntKind} {t : TypeId} {fs : Array Field} {v : Value} {d : DataW H} {p : List MemPlace}
    (hs : P.underlying t = some (.struct fs)) (hone : oneCellFields P fs = true) (hC : P.cellsOf t = fs.size) (hi : ∀ (j : Nat) (f : Field), fs[j]? = some f → P.underlying f.type = some (.int k))
    (hv : Value.okWide P w r b0 t v) (h : DataW.Trod enc P w base spare held t v d p) :
    ∃ n : Nat → Int, v = .agg ((List.range fs.size).map fun i => .int k (n i)).toArray ∧ ∀ i, i < fs.size → (Lit.int k (n i)).wf = true := by
  obtain ⟨cs, rfl, hsz⟩ := okWide_struct hs hv
  obtain ⟨fuel, hf⟩ := h
  obtain ⟨xs, n, _, _, hl, _, hg⟩ := DataW.trod_struct hs hf
  have each : ∀ j, j < fs.size → ∃ m, cs[j]? = some (.int k m) ∧ (Lit.int k m).wf = true := by
    intro j hj
    have hf0 : fs[j]? = some (fs[j]'hj) := Array.getElem?_eq_getElem hj
    obtain ⟨o, c⟩ := hone_of hone j _ hf0
    have g := hg j _ hf0
    rw [o, c] at g
    have hx : j < xs.length := by omega
    rw [List.getElem?_eq_getElem hx] at g
    obtain ⟨m, e, _, hw⟩ := DataW.trod_int (hi j _ hf0) g
    refine ⟨m, ?_, hw⟩
    have hj2 : j < cs.toList.length := by rw [Array.length_toList]; omega
    have e2 : (cs.toList.drop j).take 1 = [.int k m] := by simpa [Value.cells] using e
    rw [List.drop_eq_getElem_cons hj2] at e2
    simp only [List.take_succ_cons, List.take_zero, List.cons.injEq, and_true] at e2
    rw [Array.getElem?_eq_getElem (by simpa using hj2)]
    congr 1
  refine ⟨fun j => match cs[j]? with | some (.int _ m) => m | _ => 0, ?_, fun i hi => ?_⟩
  · congr 1
    apply Array.ext_getElem?
    intro j
    by_cases hj : j < fs.size
    · obtain ⟨m, e, _⟩ := each j hj
      rw [e]
      simp [hj, e]
    · have h1 : cs.size ≤ j := by omega
      rw [Array.getElem?_eq_none h1, Array.getElem?_eq_none (by simp; omega)]
  · obtain ⟨m, e, hw⟩ := each i hi
    simp only [e]
    exact hw
end Go.Proofs.YthmfneepnkgmgaaGreatDoor
