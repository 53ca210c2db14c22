/- A range over a function whose iterator and whose body each own blocks of their own (captured cells, lists that grow in place): what either does leaves alone what the other owns. By the verifier of shale. -/
import Derived.Test.YtbngkmlipmhgdaaDoorRangeOwn
namespace Go.Proofs.YtbngkmlipmhgdaaDoor
open Go Go.RowKit
set_option linter.unusedVariables false
/-- below B (cl aside) and in bl all lies as it lay. -/
structure Fr (B : Nat) (cl bl : List Nat) (X Y : World) : Prop where
  os : Y.os = X.os
  tape : Y.tape = X.tape
  output : Y.output = X.output
  size : X.heap.size ≤ Y.heap.size
  same : ∀ k, (k < B ∧ k ∉ cl) ∨ k ∈ bl → k < X.heap.size → Y.heap[k]? = X.heap[k]?
theorem Fr.refl (B : Nat) (cl bl : List Nat) (X : World) : Fr B cl bl X X := ⟨rfl, rfl, rfl, Nat.le_refl _, fun _ _ _ => rfl⟩
theorem Fr.trans {B : Nat} {cl bl : List Nat} {X Y Z : World} (h : Fr B cl bl X Y) (k : Fr B cl bl Y Z) : Fr B cl bl X Z :=
  ⟨k.os.trans h.os, k.tape.trans h.tape, k.output.trans h.output, Nat.le_trans h.size k.size, fun i hi hs => (k.same i hi (Nat.lt_of_lt_of_le hs h.size)).trans (h.same i hi hs)⟩
theorem Fr.below {B : Nat} {cl bl : List Nat} {X Y : World} (h : Below X.heap.size X Y) : Fr B cl bl X Y := ⟨h.os, h.tape, h.output, h.size, fun k _ hk => h.block k hk⟩
theorem Fr.sub {B B' : Nat} {cl bl bl' : List Nat} {X Y : World} (h : Fr B cl bl X Y) (hB : B' ≤ B) (hs : ∀ k ∈ bl', k ∈ bl ∨ (k < B ∧ k ∉ cl)) : Fr B' cl bl' X Y :=
  ⟨h.os, h.tape, h.output, h.size, fun k hk hl => h.same k (by
    rcases hk with ⟨h1, h2⟩ | h1
    · exact .inl ⟨by omega, h2⟩
    · rcases hs k h1 with h2 | h2
      · exact .inr h2
      · exact .inl h2) hl⟩
/-- a store into a block that is none of these. -/
theorem Fr.setCell {B : Nat} {cl bl : List Nat} (X : World) (p : Addr) (u : Value) (h1 : p.block < B → p.block ∈ cl) (h2 : p.block ∉ bl) : Fr B cl bl X (X.setCell p u) :=
  ⟨rfl, rfl, rfl, by simp [World.setCell], fun k hk _ => Below.heap_setCell _ _ _ _ (by
    rintro rfl
    rcases hk with ⟨h, h'⟩ | h
    · exact h' (h1 h)
    · exact h2 h)⟩
/-- what the owner of bl may do: it turns these, and makes new ones. -/
structure Tn (bl : List Nat) (X Y : World) (bl' : List Nat) : Prop where
  os : Y.os = X.os
  tape : Y.tape = X.tape
  output : Y.output = X.output
  size : X.heap.size ≤ Y.heap.size
  same : ∀ k, k < X.heap.size → k ∉ bl → Y.heap[k]? = X.heap[k]?
  new : ∀ k ∈ bl', k ∈ bl ∨ X.heap.size ≤ k
theorem Tn.refl (bl : List Nat) (X : World) : Tn bl X X bl := ⟨rfl, rfl, rfl, Nat.le_refl _, fun _ _ _ => rfl, fun _ h => .inl h⟩
theorem Tn.trans {b1 b2 b3 : List Nat} {X Y Z : World} (h : Tn b1 X Y b2) (k : Tn b2 Y Z b3) : Tn b1 X Z b3 := by
  refine ⟨k.os.trans h.os, k.tape.trans h.tape, k.output.trans h.output, Nat.le_trans h.size k.size, fun i hi hs => ?_, fun i hi => ?_⟩
  · refine (k.same i (Nat.lt_of_lt_of_le hi h.size) fun hb => ?_).trans (h.same i hi hs)
    rcases h.new i hb with h1 | h1
    · exact hs h1
    · omega
  · rcases k.new i hi with h1 | h1
    · exact h.new i h1
    · exact .inr (Nat.le_trans h.size h1)
theorem Tn.below {bl : List Nat} {X Y : World} (h : Below X.heap.size X Y) : Tn bl X Y bl := ⟨h.os, h.tape, h.output, h.size, fun k hk _ => h.block k hk, fun _ h => .inl h⟩
theorem Tn.setCell {bl : List Nat} (X : World) (p : Addr) (u : Value) (h : p.block ∈ bl) : Tn bl X (X.setCell p u) bl :=
  ⟨rfl, rfl, rfl, by simp [World.setCell], fun k _ hk => Below.heap_setCell _ _ _ _ (by rintro rfl; exact hk h), fun _ h => .inl h⟩
/-- how the body of a round may be left. -/
def leftSep {α : Type} (I : List α → List Nat → World → Prop) (Ix : Code → List α → List Nat → World → Prop) (xs : List α) (bl : List Nat) (W : World) : Exit → Act → World → Prop
  | .normal, _, W' => ∃ bl', Tn bl W W' bl' ∧ I xs bl' W'
  | .ret, _, W' => ∃ bl', Tn bl W W' bl' ∧ Ix .ret xs bl' W'
  | .exit id, _, W' => ∃ bl', Tn bl W W' bl' ∧ Ix (.exit id) xs bl' W'
  | .goto t, _, W' => ∃ bl', Tn bl W W' bl' ∧ Ix (.goto t) xs bl' W'
  | .panic _, _, _ => False
  | .outgrown, _, _ => False
/-- the iterator's side: O is what is carried on for the body and the loop; ol the blocks that they own; C what the iterator finds. -/
def IterSep {α : Type} (n : Nat) (P : Program) (gf : Nat) (lb : Array Value) (encs : α → Array Value) (B : Nat) (cl : List Nat) (V : List α → α → Prop) (S Sp : List α → Prop) (C : List Nat → World → Prop) : Prop :=
  ∀ (l : Nat) (O : List α → List Nat → World → Prop) (Ox : Code → List α → List Nat → World → Prop) (ol : List Nat) (W : World),
    (∀ pre ol X Y, O pre ol X → Fr B cl ol X Y → O pre ol Y) → (∀ c pre ol X Y, Ox c pre ol X → Fr B cl ol X Y → Ox c pre ol Y) →
    (∀ pre ol X, O pre ol X → ∀ k ∈ ol, k < X.heap.size) →
    (∀ pre x ol X, O pre ol X → V pre x → YieldAt Fence.wide n P l (encs x) X fun e Y => ∃ ol', Tn ol X Y ol' ∧
      ((e = .returned (.bool true) ∧ O (pre ++ [x]) ol' Y) ∨ (e = .returned (.bool false) ∧ ∃ c, Ox c (pre ++ [x]) ol' Y))) →
    B ≤ W.heap.size → O [] ol W → C ol W →
    CallsIn Fence.wide n P gf (#[.func (.yield l) #[] #[]] ++ lb) W fun e W' => (∃ v, e = .returned v) ∧
      ((∃ xs ol', S xs ∧ O xs ol' W') ∨ (∃ pre c ol', Sp pre ∧ Ox c pre ol' W'))
/-- **THE STATEMENT.** -/
theorem range_sep {α : Type} {n : Nat} {P : Program} {g : Operand} {ps : Array Tmp} {assign body : Code} {Q : Exit → Act → World → Prop} {a : Act} {w : World}
    {gf : Nat} {lb : Array Value} (hg : a.eval g = .func (.func gf) #[] lb) (eg : ∀ args w, (callFunc gf args).run P w = .ok (.enter gf args) w)
    {encs : α → Array Value} (hps : ∀ x, (encs x).size = ps.size) {V : List α → α → Prop} {S Sp : List α → Prop} (cl : List Nat) {C : List Nat → World → Prop}
    (I : List α → List Nat → World → Prop) (Ix : Code → List α → List Nat → World → Prop)
    (hI : ∀ pre bl X Y, I pre bl X → Fr w.heap.size cl bl X Y → I pre bl Y) (hIx : ∀ c pre bl X Y, Ix c pre bl X → Fr w.heap.size cl bl X Y → Ix c pre bl Y)
    (hIl : ∀ pre bl X, I pre bl X → ∀ k ∈ bl, k < X.heap.size) {bl0 : List Nat} (h0 : I [] bl0 w)
    (hC : ∀ W, Below w.heap.size w W → C (w.heap.size :: (w.heap.size + 1) :: bl0) W)
    (hit : IterSep (n - 1) P gf lb encs w.heap.size cl V S Sp C) (a₁ : α → Act)
    (hassign : ∀ (l : Nat) (x : α) (W : World) (K : Act → World → Prop), K (a₁ x) W →
      assign.wpIn (Fence.wide.inRound l) (n - 1) P (Exit.then K (fun _ _ _ => False)) { tmps := (ps.zip (encs x)).foldl (fun t (p, v) => t.setIfInBounds p v) a.tmps, defers := [] } W)
    (hbody : ∀ (l : Nat) (pre : List α) (bl : List Nat) (x : α) (W : World), I pre bl W → V pre x → body.wpIn (Fence.wide.inRound l) (n - 1) P (leftSep I Ix (pre ++ [x]) bl W) (a₁ x) W)
    (hdone : ∀ (D : Nat) (xs : List α) (bl : List Nat) (W : World), w.heap.size ≤ D → D < W.heap.size → D ∉ bl → S xs → I xs bl W → W.heap[D]? = some (.deferred (some [])) → Q .normal { a with defers := { target := .collected D, args := #[] } :: a.defers } W)
    (hstop : ∀ (D : Nat) (c : Code) (pre : List α) (bl : List Nat) (W : World), w.heap.size ≤ D → D < W.heap.size → D ∉ bl → Sp pre → Ix c pre bl W → W.heap[D]? = some (.deferred (some [])) → c.wpIn Fence.wide n P Q { a with defers := { target := .collected D, args := #[] } :: a.defers } W) :
    (Code.rangeFunc g ps assign body).wpIn Fence.wide n P Q a w := by
  refine wpIn_rangeFunc ?_
  intro fn hfn
  obtain ⟨B, hB⟩ : ∃ B, B = w.heap.size := ⟨_, rfl⟩
  let rec' : LoopState → Option Code → Loop := fun st pe => { state := st, pending := pe, fn, tmps := a.tmps, params := ps, assign, body, defers := B }
  obtain ⟨W1, hW1⟩ : ∃ W1, (w.alloc (.deferred (some []))).alloc (.loop (rec' .ready none)) = W1 := ⟨_, rfl⟩
  have hbel : Below B w W1 := by rw [← hW1, hB]; exact ((Below.refl _ _).alloc (Nat.le_refl _) _).alloc (by simp) _
  have hD1 : W1.heap[B]? = some (.deferred (some [])) := by
    rw [← hW1, hB]; exact (Below.heap_alloc _ _ _ (by simp)).trans (World.alloc_heap_new w _)
  have hL1 : W1.heap[B + 1]? = some (.loop (rec' .ready none)) := by
    rw [← hW1]
    have := World.alloc_heap_new (w.alloc (.deferred (some []))) (.loop (rec' .ready none))
    rw [World.size_alloc] at this
    rw [hB]; exact this
  -- the two blocks of the loop's own, in whatever state
  let At : LoopState → Option Code → World → Prop := fun st pe W => W.heap[B + 1]? = some (.loop (rec' st pe)) ∧ W.heap[B]? = some (.deferred (some []))
  have hlt : ∀ {st pe W}, At st pe W → B + 1 < W.heap.size := fun h => (Array.getElem?_eq_some_iff.1 h.1).1
  have hAtF : ∀ {st pe cl ol X Y}, At st pe X → B ∈ ol → B + 1 ∈ ol → Fr B cl ol X Y → At st pe Y := by
    intro st pe cl ol X Y h m1 m2 f
    have := hlt h
    exact ⟨(f.same _ (.inr m2) (hlt h)).trans h.1, (f.same _ (.inr m1) (by omega)).trans h.2⟩
  have hAtT : ∀ {st pe bl bl' X Y}, At st pe X → B ∉ bl → B + 1 ∉ bl → Tn bl X Y bl' → At st pe Y ∧ B ∉ bl' ∧ B + 1 ∉ bl' := by
    intro st pe bl bl' X Y h m1 m2 t
    have := hlt h
    refine ⟨⟨(t.same _ (hlt h) m2).trans h.1, (t.same _ (by omega) m1).trans h.2⟩, fun hb => ?_, fun hb => ?_⟩
    · rcases t.new _ hb with h1 | h1
      · exact m1 h1
      · omega
    · rcases t.new _ hb with h1 | h1
      · exact m2 h1
      · omega
  -- a turn of the record
  have turn : ∀ (W : World) (st st' : LoopState) (pe pe' : Option Code), At st pe W → At st' pe' (W.putObj (B + 1) (.loop (rec' st' pe'))) ∧ Tn [B + 1] W (W.putObj (B + 1) (.loop (rec' st' pe'))) [B + 1] := by
    intro W st st' pe pe' h
    refine ⟨⟨World.putObj_heap_same (hlt h), (World.putObj_heap_other (by omega)).trans h.2⟩, ⟨rfl, rfl, rfl, by simp, fun k _ hk => World.putObj_heap_other (by simpa using hk), fun _ h => .inl h⟩⟩
  -- such a turn frames what the body owns
  have fr : ∀ {bl X Y}, B + 1 ∉ bl → Tn [B + 1] X Y [B + 1] → Fr B cl bl X Y := by
    intro bl X Y m t
    refine ⟨t.os, t.tape, t.output, t.size, fun k hk hl => t.same k hl fun hm => ?_⟩
    rw [List.mem_singleton.1 hm] at hk
    rcases hk with ⟨h1, _⟩ | h1
    · omega
    · exact m h1
  rw [← hB] at hI hIx hC hit
  refine ⟨B + 1, [{ target := .collected B, args := #[] }], W1, { target := .fn (.func gf) lb, args := #[.func (.yield (B + 1)) #[] #[]] }, W1, gf, #[.func (.yield (B + 1)) #[] #[]] ++ lb, W1, ?_, ?_, ?_, ?_, fun h => by simp [Fence.wide] at h, ?_⟩
  · rw [← hW1]
    subst hB
    exact run_enterLoop_outer _ _ _ _ _
  · simp only [resolve, hg]
    simp [go_sem]
  · intro f' _; trivial
  · simp [invoke, go_sem, eg]
  have m0 : B ∉ bl0 ∧ B + 1 ∉ bl0 := ⟨fun h => by have := hIl _ _ _ h0 _ h; omega, fun h => by have := hIl _ _ _ h0 _ h; omega⟩
  have hBW1 : B ≤ W1.heap.size := by have := hbel.size; omega
  refine (hit (B + 1) (fun pre ol W => ∃ bl, ol = B :: (B + 1) :: bl ∧ B ∉ bl ∧ B + 1 ∉ bl ∧ I pre bl W ∧ At .ready none W) (fun c pre ol W => ∃ bl, ol = B :: (B + 1) :: bl ∧ B ∉ bl ∧ B + 1 ∉ bl ∧ Ix c pre bl W ∧ At .done (some c) W)
    (B :: (B + 1) :: bl0) W1 ?_ ?_ ?_ ?_ hBW1 ⟨bl0, rfl, m0.1, m0.2, hI _ _ _ _ h0 (.below (by rw [← hB]; exact hbel)), hL1, hD1⟩ (hC _ hbel)).mono ?_
  · rintro pre ol X Y ⟨bl, rfl, m1, m2, hi, hK⟩ f
    exact ⟨bl, rfl, m1, m2, hI _ _ _ _ hi (f.sub (Nat.le_refl _) fun k hk => .inl (by simp [hk])), hAtF hK (by simp) (by simp) f⟩
  · rintro c pre ol X Y ⟨bl, rfl, m1, m2, hi, hK⟩ f
    exact ⟨bl, rfl, m1, m2, hIx _ _ _ _ _ hi (f.sub (Nat.le_refl _) fun k hk => .inl (by simp [hk])), hAtF hK (by simp) (by simp) f⟩
  · rintro pre ol X ⟨bl, rfl, m1, m2, hi, hK⟩ k hk
    have := hlt hK
    rcases List.mem_cons.1 hk with rfl | hk
    · omega
    · rcases List.mem_cons.1 hk with rfl | hk
      · exact this
      · exact hIl _ _ _ hi k hk
  · -- one round
    rintro pre x ol W ⟨bl, rfl, m1, m2, hi, hK⟩ hlen
    refine ⟨fn, _, assign, body, run_yield hK.1 (hps x), roundIn_wide (n := n - 1) (roundIn_of_wpIn trivial (hassign _ x W _ ⟨_, run_beginRound hK.1 rfl, ?_⟩))⟩
    obtain ⟨k2, b2⟩ := turn W .ready .busy none none hK
    refine wpIn_mono (hbody _ pre bl x _ (hI _ _ _ _ hi (fr m2 b2)) hlen) ?_
    have lift : ∀ {bl2 X Y}, Tn [B + 1] X Y [B + 1] → Tn (B :: (B + 1) :: bl2) X Y (B :: (B + 1) :: bl2) := by
      intro bl2 X Y t
      exact ⟨t.os, t.tape, t.output, t.size, fun k hk hb => t.same k hk (by simp only [List.mem_singleton]; rintro rfl; exact hb (by simp)), fun _ h => .inl h⟩
    have lift2 : ∀ {bl2 bl3 X Y}, Tn bl2 X Y bl3 → Tn (B :: (B + 1) :: bl2) X Y (B :: (B + 1) :: bl3) := by
      intro bl2 bl3 X Y t
      refine ⟨t.os, t.tape, t.output, t.size, fun k hk hb => t.same k hk fun h => hb (by simp [h]), fun k hk => ?_⟩
      rcases List.mem_cons.1 hk with rfl | hk
      · exact .inl (by simp)
      · rcases List.mem_cons.1 hk with rfl | hk
        · exact .inl (by simp)
        · rcases t.new k hk with h | h
          · exact .inl (by simp [h])
          · exact .inr h
    have fin : ∀ (jump : Option Code) (bl' : List Nat) (W3 : World), Tn bl (W.putObj (B + 1) (.loop (rec' .busy none))) W3 bl' → At .busy none W3 ∧ B ∉ bl' ∧ B + 1 ∉ bl' ∧
        (Instr.endRound (B + 1) jump).run P W3 = .ok (.bool jump.isNone) (W3.putObj (B + 1) (.loop (rec' (if jump.isNone then .ready else .done) jump))) := by
      intro jump bl' W3 h3
      obtain ⟨k3, n1, n2⟩ := hAtT k2 m1 m2 h3
      exact ⟨k3, n1, n2, run_endRound jump k3.1⟩
    rintro e a3 W3 hp
    cases e with
    | normal =>
      obtain ⟨bl', t3, i3⟩ := hp
      obtain ⟨k3, n1, n2, r3⟩ := fin none bl' W3 t3
      obtain ⟨k4, b4⟩ := turn W3 .busy .ready none none k3
      exact ⟨_, _, r3, _, ((lift b2).trans (lift2 t3)).trans (lift b4), .inl ⟨rfl, bl', rfl, n1, n2, hI _ _ _ _ i3 (fr n2 b4), k4⟩⟩
    | ret =>
      obtain ⟨bl', t3, i3⟩ := hp
      obtain ⟨k3, n1, n2, r3⟩ := fin (some .ret) bl' W3 t3
      obtain ⟨k4, b4⟩ := turn W3 .busy .done none (some .ret) k3
      exact ⟨_, _, r3, _, ((lift b2).trans (lift2 t3)).trans (lift b4), .inr ⟨rfl, _, bl', rfl, n1, n2, hIx _ _ _ _ _ i3 (fr n2 b4), k4⟩⟩
    | exit id =>
      obtain ⟨bl', t3, i3⟩ := hp
      obtain ⟨k3, n1, n2, r3⟩ := fin (some (.exit id)) bl' W3 t3
      obtain ⟨k4, b4⟩ := turn W3 .busy .done none (some (.exit id)) k3
      exact ⟨_, _, r3, _, ((lift b2).trans (lift2 t3)).trans (lift b4), .inr ⟨rfl, _, bl', rfl, n1, n2, hIx _ _ _ _ _ i3 (fr n2 b4), k4⟩⟩
    | goto t =>
      obtain ⟨bl', t3, i3⟩ := hp
      obtain ⟨k3, n1, n2, r3⟩ := fin (some (.goto t)) bl' W3 t3
      obtain ⟨k4, b4⟩ := turn W3 .busy .done none (some (.goto t)) k3
      exact ⟨_, _, r3, _, ((lift b2).trans (lift2 t3)).trans (lift b4), .inr ⟨rfl, _, bl', rfl, n1, n2, hIx _ _ _ _ _ i3 (fr n2 b4), k4⟩⟩
    | panic ch => exact hp.elim
    | outgrown => exact hp.elim
  · -- behind the iterator
    rintro e W2 ⟨⟨v, rfl⟩, (⟨xs, ol', hS, bl, rfl, m1, m2, hi, hK⟩ | ⟨pre, c, ol', hSp, bl, rfl, m1, m2, hi, hK⟩)⟩
    · obtain ⟨k3, b3⟩ := turn W2 .ready .exhausted none none hK
      exact ⟨none, _, run_endLoop hK.1 (by simp [rec']), hdone _ xs bl _ (by omega) (Array.getElem?_eq_some_iff.1 k3.2).1 m1 hS (hI _ _ _ _ hi (fr m2 b3)) k3.2⟩
    · obtain ⟨k3, b3⟩ := turn W2 .done .exhausted (some c) (some c) hK
      exact ⟨some c, _, run_endLoop hK.1 (by simp [rec']), hstop _ c pre bl _ (by omega) (Array.getElem?_eq_some_iff.1 k3.2).1 m1 hSp (hIx _ _ _ _ _ hi (fr m2 b3)) k3.2⟩
end Go.Proofs.YtbngkmlipmhgdaaDoor
