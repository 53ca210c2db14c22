/- A table's slots, collected. By the verifier of shale. -/
import Derived.Test.YtpbckjagiebmjaaDoorTbCmp
import Derived.Test.YtpbckjagiebmjaaDoorTbSet
import Derived.Maps.RangeWalk
import Derived.Maps.AppendAt
import Derived.Sort.OwnSorted
import Derived.Deep.Cut
namespace Go.Proofs.YtpbckjagiebmjaaDoor.Tb
open Go Go.RowKit Go.Maps Go.Sort
set_option linter.unusedVariables false
set_option linter.unusedSimpArgs false
abbrev slC (s : Sl) : List Value := [.int .i64 s.k, .int .i64 s.b, .int .i64 s.p, .int .i64 s.m0, .int .i64 s.m1, .int .i64 s.m2, .int .i64 s.m3, .int .i64 s.m4, .int .i64 s.m5]
def scells (L : List Sl) : List Value := L.flatMap slC
theorem scells_snoc (L : List Sl) (s : Sl) : scells (L ++ [s]) = scells L ++ slC s := by unfold scells; simp
theorem scells_len (L : List Sl) : (scells L).length = L.length * 9 := by
  induction L with
  | nil => rfl
  | cons s L ih => unfold scells at *; simp only [List.flatMap_cons, List.length_append, ih, List.length_cons]; simp; omega
/-- what was met so far and is wanted. -/
def Coll (m : Int → Option Sl) (want : Sl → Bool) (left : Lit → Bool) (L : List Sl) : Prop := (∀ s, s ∈ L ↔ m s.k = some s ∧ want s = true ∧ left (kL s.k) = false) ∧ (L.map Sl.k).Nodup
theorem slR_some {v : Value} {y : DataW Unit × List MemPlace} (h : slR v = some y) : ∃ c, v = slV c := by
  unfold slR at h
  split at h
  · rename_i hv
    exact hv
  · cases h
theorem keyInv (key : Value) (kl : Lit) (h : keyOf Tryd.prog 3 key = some kl) : ∃ x : Int, key = .int .i64 x := by
  obtain ⟨x, rfl, _⟩ := Maps.keyOf_int_inv Tryd.underlying3 h
  exact ⟨x, rfl⟩
theorem sameKey_int (a b : Int) : (kL a).sameKey (kL b) = decide (a = b) := by
  first | rfl | (simp [Lit.sameKey, kL])
theorem Coll.start {m : Int → Option Sl} {want : Sl → Bool} {D : DataW Unit} (hm : ∀ k s, m k = some s → (Lit.int .i64 k).wf = true) (hD : ∀ k, (Lit.int .i64 k).wf = true → (m k = none ∧ Maps.has D (kL k) = false) ∨ (∃ s, m k = some s ∧ Maps.has D (kL k) = true ∧ ∀ z, D.atKey (kL k) z = slD s)) : Coll m want (Maps.has D) [] := by
  refine ⟨fun s => ⟨fun h => (nomatch h), ?_⟩, List.nodup_nil⟩
  rintro ⟨h1, _, h2⟩
  rcases hD s.k (hm _ _ h1) with ⟨e, _⟩ | ⟨_, _, e, _⟩
  · rw [h1] at e; cases e
  · rw [h2] at e; cases e
theorem Coll.step {m : Int → Option Sl} {want : Sl → Bool} {left : Lit → Bool} {L : List Sl} {x : Int} {c : Sl} (h : Coll m want left L) (hk : ∀ k s, m k = some s → s.k = k) (hc : m x = some c) (hl : left (kL x) = true) :
    Coll m want (fun z => left z && !z.sameKey (kL x)) (if want c = true then L ++ [c] else L) := by
  have hck := hk _ _ hc
  have key : ∀ s : Sl, m s.k = some s → ((left (kL s.k) && !(kL s.k).sameKey (kL x)) = false ↔ left (kL s.k) = false ∨ s = c) := by
    intro s hs
    rw [sameKey_int]
    by_cases e : s.k = x
    · have : s = c := by rw [e, hc] at hs; exact (Option.some.inj hs).symm
      subst this; simp [hck]
    · have : s ≠ c := fun e2 => e (by rw [e2, hck])
      simp [e, this]
  have hcL : c ∉ L := fun hm => by
    have := ((h.1 c).1 hm).2.2
    rw [hck, hl] at this
    cases this
  by_cases hw : want c = true
  · rw [if_pos hw]
    refine ⟨fun s => ?_, ?_⟩
    · rw [List.mem_append, h.1 s, List.mem_singleton]
      constructor
      · rintro (⟨h1, h2, h3⟩ | rfl)
        · exact ⟨h1, h2, (key s h1).2 (.inl h3)⟩
        · exact ⟨by rw [hck]; exact hc, hw, (key s (by rw [hck]; exact hc)).2 (.inr rfl)⟩
      · rintro ⟨h1, h2, h3⟩
        rcases (key s h1).1 h3 with h4 | h4
        · exact .inl ⟨h1, h2, h4⟩
        · exact .inr h4
    · rw [List.map_append, List.nodup_append]
      refine ⟨h.2, by simp, fun a ha b hb => ?_⟩
      simp only [List.map_cons, List.map_nil, List.mem_singleton] at hb
      subst hb
      intro e
      obtain ⟨s, hs, rfl⟩ := List.mem_map.1 ha
      obtain ⟨h1, _, h3⟩ := (h.1 s).1 hs
      rw [e, hck, hl] at h3
      cases h3
  · rw [if_neg hw]
    refine ⟨fun s => ?_, h.2⟩
    rw [h.1 s]
    constructor
    · rintro ⟨h1, h2, h3⟩
      exact ⟨h1, h2, (key s h1).2 (.inl h3)⟩
    · rintro ⟨h1, h2, h3⟩
      rcases (key s h1).1 h3 with h4 | h4
      · exact ⟨h1, h2, h4⟩
      · rw [h4] at h2; exact absurd h2 hw
/-- the row so far. -/
def SrtI (w : World) (m : Int → Option Sl) (want : Sl → Bool) (cT : Nat) (s7 : Value) (left : Lit → Bool) (cnt : Nat) (L : List Sl) (wr : World) : Prop := wr.ownsRow w.heap.size 47 9 s7 L.length (scells L) ∧ Coll m want left L ∧ L.length + cnt ≤ cT ∧ Below w.heap.size w wr
theorem grown_below {w w' : World} (b : Below w.heap.size w w') (row : Option Nat) : w.grownBy w' row := ⟨b.os, b.tape, b.output, b.size, fun k hk _ => b.block k hk⟩
theorem below_grown {w wr w' : World} {row : Option Nat} (b : Below w.heap.size w wr) (g : wr.grownBy w' row) (h : ∀ k, row = some k → w.heap.size ≤ k) : Below w.heap.size w w' :=
  ⟨g.os.trans b.os, g.tape.trans b.tape, g.output.trans b.output, Nat.le_trans b.size g.size, fun k hk => (g.block k (Nat.lt_of_lt_of_le hk b.size) fun e => by have := h k e.symm; omega).trans (b.block k hk)⟩
theorem sl_cells9 {w : World} {g : Nat} {s : Sl} (e : w.heap[g]? = some (.cells #[.int .i64 s.k, .int .i64 s.b, .int .i64 s.p, .int .i64 s.m0, .int .i64 s.m1, .int .i64 s.m2, .int .i64 s.m3, .int .i64 s.m4, .int .i64 s.m5] 47 (0, 0))) : w.cell? ⟨g, 0, none⟩ = some (.int .i64 s.k) ∧ w.cell? ⟨g, 1, none⟩ = some (.int .i64 s.b) ∧ w.cell? ⟨g, 2, none⟩ = some (.int .i64 s.p) ∧ w.cell? ⟨g, 3, none⟩ = some (.int .i64 s.m0) ∧ w.cell? ⟨g, 4, none⟩ = some (.int .i64 s.m1) ∧ w.cell? ⟨g, 5, none⟩ = some (.int .i64 s.m2) ∧ w.cell? ⟨g, 6, none⟩ = some (.int .i64 s.m3) ∧ w.cell? ⟨g, 7, none⟩ = some (.int .i64 s.m4) ∧ w.cell? ⟨g, 8, none⟩ = some (.int .i64 s.m5) := by
  refine ⟨?_, ?_, ?_, ?_, ?_, ?_, ?_, ?_, ?_⟩ <;> (unfold World.cell?; simp only; rw [e]; rfl)
/-- what a sort of a row of slots by their keys leaves. -/
def SortP (Bs : Nat) (v : Value) (L : List Sl) (ord : Sl → Int) (wr : World) (e : Ending) (w' : World) : Prop := e = .returned (.tuple #[]) ∧ ∃ L' : List Sl, L'.Perm L ∧ L'.Pairwise (fun x y => ord x ≤ ord y) ∧ w'.ownsRow Bs 47 9 v L'.length (scells L') ∧ wr.grownBy w' v.ownBlock
/-- what a list of slots, answered, is. -/
def SlotsP (w : World) (m : Int → Option Sl) (want : Sl → Bool) (ord : Sl → Int) (e : Ending) (w' : World) : Prop := ∃ v L, e = .returned v ∧ w'.ownsRow w.heap.size 47 9 v L.length (scells L) ∧ (∀ s, s ∈ L ↔ m s.k = some s ∧ want s = true) ∧ (L.map Sl.k).Nodup ∧ L.Pairwise (fun x y => ord x ≤ ord y) ∧ L.length ≤ 1000 ∧ Below w.heap.size w w'
theorem SrtI.fin {w wr w' : World} {m : Int → Option Sl} {want : Sl → Bool} {ord : Sl → Int} {cT cnt : Nat} {v : Value} {left : Lit → Bool} {L : List Sl} {e : Ending} (h : SrtI w m want cT v left cnt L wr) (hc : cT ≤ 1000) (hl : ∀ kl, left kl = false) (hs : SortP w.heap.size v L ord wr e w') : SlotsP w m want ord (.returned v) w' := by
  obtain ⟨h1, h2, h3, h4⟩ := h
  obtain ⟨_, L', p1, p2, p3, p4⟩ := hs
  refine ⟨v, L', rfl, p3, fun s => ?_, ((p1.map Sl.k).nodup_iff).2 h2.2, p2, by rw [p1.length_eq]; omega, below_grown h4 p4 fun k hk => (h1.lt k hk).1⟩
  rw [p1.mem_iff, h2.1 s]
  exact ⟨fun h => ⟨h.1, h.2.1⟩, fun h => ⟨h.1, h.2, hl _⟩⟩
theorem infoS : ∃ i, Tryd.prog.info? 47 = some i ∧ i.zero = some (slV zSl) ∧ i.size = 9 ∧ i.bytes = 72 := info_parts (by kernel_rfl)
end Go.Proofs.YtpbckjagiebmjaaDoor.Tb
