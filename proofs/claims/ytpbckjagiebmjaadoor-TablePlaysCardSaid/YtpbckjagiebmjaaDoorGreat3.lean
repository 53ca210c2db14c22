/- Texts of the verifier of shale, laid into one: TbColl, TbInh, TbRef, TbRefDrop, TbRefNo, TbRefSet, TbSort, TbAll, TbEq, TbSm, TbLen, TbRefEq, TbKeys, TbSlots, TbSlo, TbGet, TbRefOf, TbOut, TbPair, TbTrip, TbAsk, TbC, TbLow, TbR. -/
import Derived.Test.YtpbckjagiebmjaaDoorGreat1
import Derived.Test.YtpbckjagiebmjaaDoorGreat2
import Derived.Maps.RangeWalk
import Derived.Maps.AppendAt
import Derived.Sort.OwnSorted
import Derived.Deep.Cut
import Derived.BigRegion
import Derived.Deep.RegionHeld3
import Derived.Lib.QuietBelow
import Derived.Deep.CutRange
import Derived.Deep.CutBlock
import Derived.Sort.OwnSortedInts
import Derived.Laws.OwnMore
import Derived.RangeFuncNested
import Derived.LoopN
import Derived.Shelf.Abstract
import Derived.RangeFuncCalls
/- A table's slots, collected. By the verifier of shale. -/
namespace Go.Proofs.YtpbckjagiebmjaaDoor.Tb
open Go Go.RowKit Go.Maps Go.Sort
set_option linter.unusedVariables false
set_option linter.unusedSimpArgs false
abbrev slC (s : Sl) : List Value := [.int .i64 s.k, .int .i64 s.b, .int .i64 s.p, .int .i64 s.m0, .int .i64 s.m1, .int .i64 s.m2, .int .i64 s.m3, .int .i64 s.m4, .int .i64 s.m5]
def scells (L : List Sl) : List Value := L.flatMap slC
theorem scells_snoc (L : List Sl) (s : Sl) : scells (L ++ [s]) = scells L ++ slC s := by unfold scells; simp
theorem scells_len (L : List Sl) : (scells L).length = L.length * 9 := by
  induction L with
  | nil => rfl
  | cons s L ih => unfold scells at *; simp only [List.flatMap_cons, List.length_append, ih, List.length_cons]; simp; omega
/-- what was met so far and is wanted. -/
def Coll (m : Int → Option Sl) (want : Sl → Bool) (left : Lit → Bool) (L : List Sl) : Prop := (∀ s, s ∈ L ↔ m s.k = some s ∧ want s = true ∧ left (kL s.k) = false) ∧ (L.map Sl.k).Nodup
theorem slR_some {v : Value} {y : DataW Unit × List MemPlace} (h : slR v = some y) : ∃ c, v = slV c := by
  unfold slR at h
  split at h
  · rename_i hv
    exact hv
  · cases h
theorem keyInv (key : Value) (kl : Lit) (h : keyOf Tryd.prog 3 key = some kl) : ∃ x : Int, key = .int .i64 x := by
  obtain ⟨x, rfl, _⟩ := Maps.keyOf_int_inv Tryd.underlying3 h
  exact ⟨x, rfl⟩
theorem sameKey_int (a b : Int) : (kL a).sameKey (kL b) = decide (a = b) := by
  first | rfl | (simp [Lit.sameKey, kL])
theorem Coll.start {m : Int → Option Sl} {want : Sl → Bool} {D : DataW Unit} (hm : ∀ k s, m k = some s → (Lit.int .i64 k).wf = true) (hD : ∀ k, (Lit.int .i64 k).wf = true → (m k = none ∧ Maps.has D (kL k) = false) ∨ (∃ s, m k = some s ∧ Maps.has D (kL k) = true ∧ ∀ z, D.atKey (kL k) z = slD s)) : Coll m want (Maps.has D) [] := by
  refine ⟨fun s => ⟨fun h => (nomatch h), ?_⟩, List.nodup_nil⟩
  rintro ⟨h1, _, h2⟩
  rcases hD s.k (hm _ _ h1) with ⟨e, _⟩ | ⟨_, _, e, _⟩
  · rw [h1] at e; cases e
  · rw [h2] at e; cases e
theorem Coll.step {m : Int → Option Sl} {want : Sl → Bool} {left : Lit → Bool} {L : List Sl} {x : Int} {c : Sl} (h : Coll m want left L) (hk : ∀ k s, m k = some s → s.k = k) (hc : m x = some c) (hl : left (kL x) = true) :
    Coll m want (fun z => left z && !z.sameKey (kL x)) (if want c = true then L ++ [c] else L) := by
  have hck := hk _ _ hc
  have key : ∀ s : Sl, m s.k = some s → ((left (kL s.k) && !(kL s.k).sameKey (kL x)) = false ↔ left (kL s.k) = false ∨ s = c) := by
    intro s hs
    rw [sameKey_int]
    by_cases e : s.k = x
    · have : s = c := by rw [e, hc] at hs; exact (Option.some.inj hs).symm
      subst this; simp [hck]
    · have : s ≠ c := fun e2 => e (by rw [e2, hck])
      simp [e, this]
  have hcL : c ∉ L := fun hm => by
    have := ((h.1 c).1 hm).2.2
    rw [hck, hl] at this
    cases this
  by_cases hw : want c = true
  · rw [if_pos hw]
    refine ⟨fun s => ?_, ?_⟩
    · rw [List.mem_append, h.1 s, List.mem_singleton]
      constructor
      · rintro (⟨h1, h2, h3⟩ | rfl)
        · exact ⟨h1, h2, (key s h1).2 (.inl h3)⟩
        · exact ⟨by rw [hck]; exact hc, hw, (key s (by rw [hck]; exact hc)).2 (.inr rfl)⟩
      · rintro ⟨h1, h2, h3⟩
        rcases (key s h1).1 h3 with h4 | h4
        · exact .inl ⟨h1, h2, h4⟩
        · exact .inr h4
    · rw [List.map_append, List.nodup_append]
      refine ⟨h.2, by simp, fun a ha b hb => ?_⟩
      simp only [List.map_cons, List.map_nil, List.mem_singleton] at hb
      subst hb
      intro e
      obtain ⟨s, hs, rfl⟩ := List.mem_map.1 ha
      obtain ⟨h1, _, h3⟩ := (h.1 s).1 hs
      rw [e, hck, hl] at h3
      cases h3
  · rw [if_neg hw]
    refine ⟨fun s => ?_, h.2⟩
    rw [h.1 s]
    constructor
    · rintro ⟨h1, h2, h3⟩
      exact ⟨h1, h2, (key s h1).2 (.inl h3)⟩
    · rintro ⟨h1, h2, h3⟩
      rcases (key s h1).1 h3 with h4 | h4
      · exact ⟨h1, h2, h4⟩
      · rw [h4] at h2; exact absurd h2 hw
/-- the row so far. -/
def SrtI (w : World) (m : Int → Option Sl) (want : Sl → Bool) (cT : Nat) (s7 : Value) (left : Lit → Bool) (cnt : Nat) (L : List Sl) (wr : World) : Prop := wr.ownsRow w.heap.size 47 9 s7 L.length (scells L) ∧ Coll m want left L ∧ L.length + cnt ≤ cT ∧ Below w.heap.size w wr
theorem grown_below {w w' : World} (b : Below w.heap.size w w') (row : Option Nat) : w.grownBy w' row := ⟨b.os, b.tape, b.output, b.size, fun k hk _ => b.block k hk⟩
theorem below_grown {w wr w' : World} {row : Option Nat} (b : Below w.heap.size w wr) (g : wr.grownBy w' row) (h : ∀ k, row = some k → w.heap.size ≤ k) : Below w.heap.size w w' :=
  ⟨g.os.trans b.os, g.tape.trans b.tape, g.output.trans b.output, Nat.le_trans b.size g.size, fun k hk => (g.block k (Nat.lt_of_lt_of_le hk b.size) fun e => by have := h k e.symm; omega).trans (b.block k hk)⟩
theorem sl_cells9 {w : World} {g : Nat} {s : Sl} (e : w.heap[g]? = some (.cells #[.int .i64 s.k, .int .i64 s.b, .int .i64 s.p, .int .i64 s.m0, .int .i64 s.m1, .int .i64 s.m2, .int .i64 s.m3, .int .i64 s.m4, .int .i64 s.m5] 47 (0, 0))) : w.cell? ⟨g, 0, none⟩ = some (.int .i64 s.k) ∧ w.cell? ⟨g, 1, none⟩ = some (.int .i64 s.b) ∧ w.cell? ⟨g, 2, none⟩ = some (.int .i64 s.p) ∧ w.cell? ⟨g, 3, none⟩ = some (.int .i64 s.m0) ∧ w.cell? ⟨g, 4, none⟩ = some (.int .i64 s.m1) ∧ w.cell? ⟨g, 5, none⟩ = some (.int .i64 s.m2) ∧ w.cell? ⟨g, 6, none⟩ = some (.int .i64 s.m3) ∧ w.cell? ⟨g, 7, none⟩ = some (.int .i64 s.m4) ∧ w.cell? ⟨g, 8, none⟩ = some (.int .i64 s.m5) := by
  refine ⟨?_, ?_, ?_, ?_, ?_, ?_, ?_, ?_, ?_⟩ <;> (unfold World.cell?; simp only; rw [e]; rfl)
/-- what a sort of a row of slots by their keys leaves. -/
def SortP (Bs : Nat) (v : Value) (L : List Sl) (ord : Sl → Int) (wr : World) (e : Ending) (w' : World) : Prop := e = .returned (.tuple #[]) ∧ ∃ L' : List Sl, L'.Perm L ∧ L'.Pairwise (fun x y => ord x ≤ ord y) ∧ w'.ownsRow Bs 47 9 v L'.length (scells L') ∧ wr.grownBy w' v.ownBlock
/-- what a list of slots, answered, is. -/
def SlotsP (w : World) (m : Int → Option Sl) (want : Sl → Bool) (ord : Sl → Int) (e : Ending) (w' : World) : Prop := ∃ v L, e = .returned v ∧ w'.ownsRow w.heap.size 47 9 v L.length (scells L) ∧ (∀ s, s ∈ L ↔ m s.k = some s ∧ want s = true) ∧ (L.map Sl.k).Nodup ∧ L.Pairwise (fun x y => ord x ≤ ord y) ∧ L.length ≤ 1000 ∧ Below w.heap.size w w'
theorem SrtI.fin {w wr w' : World} {m : Int → Option Sl} {want : Sl → Bool} {ord : Sl → Int} {cT cnt : Nat} {v : Value} {left : Lit → Bool} {L : List Sl} {e : Ending} (h : SrtI w m want cT v left cnt L wr) (hc : cT ≤ 1000) (hl : ∀ kl, left kl = false) (hs : SortP w.heap.size v L ord wr e w') : SlotsP w m want ord (.returned v) w' := by
  obtain ⟨h1, h2, h3, h4⟩ := h
  obtain ⟨_, L', p1, p2, p3, p4⟩ := hs
  refine ⟨v, L', rfl, p3, fun s => ?_, ((p1.map Sl.k).nodup_iff).2 h2.2, p2, by rw [p1.length_eq]; omega, below_grown h4 p4 fun k hk => (h1.lt k hk).1⟩
  rw [p1.mem_iff, h2.1 s]
  exact ⟨fun h => ⟨h.1, h.2.1⟩, fun h => ⟨h.1, h.2, hl _⟩⟩
theorem infoS : ∃ i, Tryd.prog.info? 47 = some i ∧ i.zero = some (slV zSl) ∧ i.size = 9 ∧ i.bytes = 72 := info_parts (by kernel_rfl)
end Go.Proofs.YtpbckjagiebmjaaDoor.Tb
/- Slots: a list's cells, one by one. By the verifier of shale. -/
namespace Go.Proofs.YtpbckjagiebmjaaDoor.Tb
open Go Go.RowKit
set_option linter.unusedVariables false
set_option linter.unusedSimpArgs false
instance : Inhabited Sl := ⟨zSl⟩
theorem scells_get : ∀ (L : List Sl) (i c : Nat), i < L.length → c < 9 → (scells L)[i * 9 + c]? = (slC (L[i]!))[c]?
  | [], i, c, hi, _ => absurd hi (by simp)
  | s :: L, 0, c, _, hc => by
    unfold scells
    rw [List.flatMap_cons, Nat.zero_mul, Nat.zero_add, List.getElem?_append_left (by simpa using hc)]
    rfl
  | s :: L, i + 1, c, hi, hc => by
    have ih := scells_get L i c (by simpa using hi) hc
    unfold scells at ih ⊢
    rw [List.flatMap_cons, List.getElem?_append_right (by simp; omega)]
    rw [show (i + 1) * 9 + c - (slC s).length = i * 9 + c by simp; omega, ih]
    simp
end Go.Proofs.YtpbckjagiebmjaaDoor.Tb
/- The document's table, in memory: its lists, made anew. By the verifier of shale. -/
namespace Go.Proofs.YtpbckjagiebmjaaDoor.Tb
open Go Go.RowKit
set_option linter.unusedVariables false
set_option linter.unusedSimpArgs false
theorem scells_append (L M : List Sl) : scells (L ++ M) = scells L ++ scells M := by unfold scells; simp
theorem scells_getR (L : List Sl) {i j : Nat} (hi : i < L.length) (hj : j < 9) : (scells L)[i * 9 + j]? = (slC (L[i]!))[j]? := by
  induction L generalizing i with
  | nil => simp at hi
  | cons s L ih =>
    have e : scells (s :: L) = slC s ++ scells L := rfl
    cases i with
    | zero => rw [e, List.getElem?_append_left (by simp; omega), Nat.zero_mul, Nat.zero_add]; rfl
    | succ i =>
      rw [e, List.getElem?_append_right (by simp; omega), show (i + 1) * 9 + j - (slC s).length = i * 9 + j from by simp; omega, ih (by simpa using hi)]
      rfl
theorem scells_take (L : List Sl) (i : Nat) : scells (L.take i) = (scells L).take (i * 9) := by
  induction L generalizing i with
  | nil => simp [scells]
  | cons s L ih =>
    cases i with
    | zero => simp [scells]
    | succ i =>
      have e : scells (s :: L) = slC s ++ scells L := rfl
      have e2 : scells ((s :: L).take (i + 1)) = slC s ++ scells (L.take i) := rfl
      rw [e, e2, ih, List.take_append, show (i + 1) * 9 - (slC s).length = i * 9 from by show (i + 1) * 9 - 9 = _; omega, List.take_of_length_le (l := slC s) (i := (i + 1) * 9) (by show 9 ≤ _; omega)]
theorem scells_drop (L : List Sl) (i : Nat) : scells (L.drop i) = (scells L).drop (i * 9) := by
  induction L generalizing i with
  | nil => simp [scells]
  | cons s L ih =>
    cases i with
    | zero => simp [scells]
    | succ i =>
      have e : scells (s :: L) = slC s ++ scells L := rfl
      have e2 : scells ((s :: L).drop (i + 1)) = scells (L.drop i) := rfl
      rw [e, e2, ih, List.drop_append, show (i + 1) * 9 - (slC s).length = i * 9 from by show (i + 1) * 9 - 9 = _; omega, (List.drop_eq_nil_of_le (by show 9 ≤ (i + 1) * 9; omega) : (slC s).drop ((i + 1) * 9) = []), List.nil_append]
theorem scells_one (L : List Sl) : ∀ u ∈ scells L, u.oneCell' = true := by
  intro u hu
  unfold scells at hu
  obtain ⟨x, _, h⟩ := List.mem_flatMap.1 hu
  simp only [List.mem_cons, List.not_mem_nil, or_false] at h
  rcases h with rfl | rfl | rfl | rfl | rfl | rfl | rfl | rfl | rfl <;> rfl
abbrev zC : Array Value := #[.int .i64 0, .int .i64 0, .int .i64 0, .int .i64 0, .int .i64 0, .int .i64 0, .int .i64 0, .int .i64 0, .int .i64 0]
theorem infoT : ∃ i, Tryd.prog.info? 52 = some i ∧ i.zero = some (.agg zC) ∧ i.size = 9 ∧ i.bytes = 72 :=
  info_parts (show (Tryd.prog.info? 52).map (fun i => (i.zero, i.size, i.bytes)) = some (some (.agg zC), 9, 72) by kernel_rfl)
/-- so many slots, as they are read. -/
def SrcT (w : World) (a : Option Addr) (R : List Sl) : Prop := (a = none → R = []) ∧ ∀ p, a = some p → ∃ g o, p = ⟨g, o, none⟩ ∧ ∀ j u, (scells R)[j]? = some u → w.cell? ⟨g, o + j, none⟩ = some u
/-- a slice that reads as these slots, wherever it lies. -/
def ReadsT (w : World) (base xb : Nat) (a : Option Addr) (R : List Sl) : Prop := (0 < R.length → a ≠ none) ∧ ∀ p, a = some p → ∃ g o, p = ⟨g, o, none⟩ ∧ base ≤ g ∧ g < w.heap.size ∧ g ≠ xb ∧ ∀ j u, (scells R)[j]? = some u → w.cell? ⟨g, o + j, none⟩ = some u
structure RefT (w : World) (base xb : Nat) (Bl Pg : Int) (a : Option Addr) (c : Nat) (R : List Sl) : Prop where
  x0 : base ≤ xb
  blk : w.heap[xb]? = some (.cells #[.int .i64 Bl, .int .i64 Pg, .slice a R.length c] 34 (0, 0))
  cap : R.length ≤ c ∧ c ≤ maxLen
  row : ReadsT w base xb a R
def tblR (xb : Nat) (a : Option Addr) : List Nat := xb :: a.toList.map Addr.block
section
variable {w w' : World} {base xb c : Nat} {Bl Pg : Int} {a : Option Addr} {R : List Sl}
theorem RefT.lt (h : RefT w base xb Bl Pg a c R) : xb < w.heap.size := lt_of_block h.blk
theorem RefT.cell (h : RefT w base xb Bl Pg a c R) : w.cell? ⟨xb, 0, none⟩ = some (.int .i64 Bl) ∧ w.cell? ⟨xb, 1, none⟩ = some (.int .i64 Pg) ∧ w.cell? ⟨xb, 2, none⟩ = some (.slice a R.length c) ∧ ∀ i, w.frozen? ⟨xb, i, none⟩ = false := by
  refine ⟨?_, ?_, ?_, fun i => ?_⟩
  · unfold World.cell?; simp only; rw [h.blk]; rfl
  · unfold World.cell?; simp only; rw [h.blk]; rfl
  · unfold World.cell?; simp only; rw [h.blk]; rfl
  · unfold World.frozen?; simp only; rw [h.blk]; rfl
theorem ReadsT.same (h : ReadsT w base xb a R) (hs : w.heap.size ≤ w'.heap.size) (o : ∀ p, a = some p → w'.heap[p.block]? = w.heap[p.block]?) : ReadsT w' base xb a R := by
  refine ⟨h.1, fun p hp => ?_⟩
  obtain ⟨g, q, rfl, h1, h2, h3, h4⟩ := h.2 p hp
  exact ⟨g, q, rfl, h1, by omega, h3, fun j u hj => (World.cell?_of_block (a := ⟨g, _, none⟩) (show w'.heap[g]? = w.heap[g]? from o _ hp)).trans (h4 j u hj)⟩
theorem RefT.bl_lt (h : RefT w base xb Bl Pg a c R) : ∀ k ∈ tblR xb a, base ≤ k ∧ k < w.heap.size := by
  intro k hk
  rcases List.mem_cons.1 hk with rfl | hk
  · exact ⟨h.x0, h.lt⟩
  · obtain ⟨p, hp, rfl⟩ := List.mem_map.1 hk
    obtain ⟨g, q, rfl, h1, h2, _⟩ := h.row.2 p (by simpa using hp)
    exact ⟨h1, h2⟩
theorem RefT.same (h : RefT w base xb Bl Pg a c R) (hs : w.heap.size ≤ w'.heap.size) (o : ∀ k ∈ tblR xb a, w'.heap[k]? = w.heap[k]?) : RefT w' base xb Bl Pg a c R :=
  ⟨h.x0, (o xb (List.mem_cons_self ..)).trans h.blk, h.cap, h.row.same hs fun p hp => o _ (List.mem_cons_of_mem _ (List.mem_map.2 ⟨p, by simp [hp], rfl⟩))⟩
theorem RefT.below (h : RefT w base xb Bl Pg a c R) (b : Below w.heap.size w w') : RefT w' base xb Bl Pg a c R := h.same b.size fun k hk => b.block k (h.bl_lt k hk).2
/-- the cells of one slot. -/
def SlAt (w : World) (g o : Nat) (s : Sl) : Prop := w.cell? ⟨g, o, none⟩ = some (.int .i64 s.k) ∧ w.cell? ⟨g, o + 1, none⟩ = some (.int .i64 s.b) ∧ w.cell? ⟨g, o + 2, none⟩ = some (.int .i64 s.p) ∧ w.cell? ⟨g, o + 3, none⟩ = some (.int .i64 s.m0) ∧ w.cell? ⟨g, o + 4, none⟩ = some (.int .i64 s.m1) ∧ w.cell? ⟨g, o + 5, none⟩ = some (.int .i64 s.m2) ∧ w.cell? ⟨g, o + 6, none⟩ = some (.int .i64 s.m3) ∧ w.cell? ⟨g, o + 7, none⟩ = some (.int .i64 s.m4) ∧ w.cell? ⟨g, o + 8, none⟩ = some (.int .i64 s.m5)
theorem RefT.item (h : RefT w base xb Bl Pg a c R) {i : Nat} (hi : i < R.length) : ∃ g o, a = some ⟨g, o, none⟩ ∧ g ≠ xb ∧ SlAt w g (o + i * 9) (R[i]!) := by
  cases a with
  | none => exact absurd rfl (h.row.1 (by omega))
  | some p =>
    obtain ⟨g, o, rfl, _, _, h3, h4⟩ := h.row.2 p rfl
    have hc : ∀ j u, j < 9 → (slC (R[i]!))[j]? = some u → w.cell? ⟨g, o + i * 9 + j, none⟩ = some u := fun j u hj hu => by
      rw [Nat.add_assoc]
      exact h4 _ u (by rw [scells_getR R hi hj]; exact hu)
    exact ⟨g, o, rfl, h3, hc 0 _ (by omega) rfl, hc 1 _ (by omega) rfl, hc 2 _ (by omega) rfl, hc 3 _ (by omega) rfl, hc 4 _ (by omega) rfl, hc 5 _ (by omega) rfl, hc 6 _ (by omega) rfl, hc 7 _ (by omega) rfl, hc 8 _ (by omega) rfl⟩
end
/-- append onto a row of one's own, whatever is appended. -/
theorem app_slots {W : World} {base h n cap : Nat} {xs : List Value} (hown : W.ownsRow base 52 9 (.slice (some ⟨h, 0, none⟩) n cap) n xs) (hb : base ≤ W.heap.size) {a : Option Addr} {m c : Nat} {R : List Sl} (hm : m = R.length) (hS : SrcT W a R) (hn : n + m ≤ 5000) (ty : TypeId) :
    ∃ g' cap' W', (Builtin.append_ #[32, 32] ty #[.slice (some ⟨h, 0, none⟩) n cap, .slice a m c]).run Tryd.prog W = .ok (.slice (some ⟨g', 0, none⟩) (n + m) cap') W' ∧ W'.ownsRow base 52 9 (.slice (some ⟨g', 0, none⟩) (n + m) cap') (n + m) (xs ++ scells R) ∧ W.grownBy W' (some h) ∧ (g' = h ∨ g' = W.heap.size) := by
  obtain ⟨i0, hi, hz0, hz1, hz2⟩ := infoT
  have hU := Tryd.underlying32
  cases a with
  | none =>
    have hR := hS.1 rfl
    subst hR
    have hm0 : m = 0 := hm
    subst hm0
    have hnc : n ≤ cap := by
      rcases hown.2 with ⟨h0, _⟩ | ⟨g, cap', cur, e, _, _, h1, _⟩
      · cases h0
      · cases e; exact h1
    refine ⟨h, cap, W, ?_, by simpa [scells] using hown, World.grownBy.refl W _, .inl rfl⟩
    simp [Builtin.append_, run_underlying hU, sizeOf, typeInfo, hi, Builtin.lenOf, Builtin.firstCells, hnc, storeCells]
  | some p =>
    obtain ⟨g, o, rfl, hc⟩ := hS.2 p rfl
    have hnews : ∀ j u, (scells R)[j]? = some u → W.cell? ((⟨g, o, none⟩ : Addr).add j) = some u := by
      intro j u hj
      rw [add_row]
      exact hc j u hj
    obtain ⟨v', w', hrun, h2, h3, h4, h5⟩ := run_append_own_at (P := Tryd.prog) W base 32 ty 52 i0 (.agg zC) 9 72 hU hi hz0 hz1 hz2 rfl (by decide) _ n xs hown ⟨g, o, none⟩ m c (scells R) (by rw [scells_len, hm]) hnews (scells_one R) (by unfold maxLen; omega) (by omega) hb
    rcases h2.2 with ⟨e, h0⟩ | ⟨g', cap', cur, rfl, _⟩
    · exact absurd (h4.1 e).1 (by simp)
    · refine ⟨g', cap', w', hrun, h2, h3, ?_⟩
      rcases h5 with h5 | h5
      · left; simpa [Value.ownBlock] using h5
      · right; simpa [Value.ownBlock] using h5
def slotObj (N : Nat) : Obj := .cells (madeCells (Value.agg zC).cells (N * 9)) 52 (0, 0)
theorem madeS (W : World) (N : Nat) (hN : N ≤ 5000) : (Instr.makeSlice 32 (.int .i64 0) (.int .i64 (N : Int))).run Tryd.prog W = .ok (.slice (some ⟨W.heap.size, 0, none⟩) 0 N) (W.alloc (slotObj N)) := by
  obtain ⟨i0, hi, hz0, hz1, hz2⟩ := infoT
  rw [run_make (P := Tryd.prog) W 32 52 i0 (.agg zC) Tryd.underlying32 hi hz0 .i64 .i64 0 (N : Int) (by omega) (by omega) (by rw [hz2]; omega) (by omega)]
  unfold slotObj
  rw [hz1]
  rfl
theorem madeS_own (W : World) (N : Nat) (hN : N ≤ 5000) : (W.alloc (slotObj N)).ownsRow W.heap.size 52 9 (.slice (some ⟨W.heap.size, 0, none⟩) 0 N) 0 [] :=
  ⟨by simp, .inr ⟨_, N, _, rfl, Nat.le_refl _, heap_alloc_new W _, Nat.zero_le _, by unfold maxLen; omega, size_madeCells _ _, by simp⟩⟩
theorem srcT_take {w : World} {base xb : Nat} {a : Option Addr} {R : List Sl} (h : ReadsT w base xb a R) (i : Nat) : SrcT w a (R.take i) := by
  refine ⟨fun e => ?_, fun p hp => ?_⟩
  · have : R = [] := by
      by_cases h0 : 0 < R.length
      · exact absurd e (h.1 h0)
      · exact List.length_eq_zero_iff.1 (by omega)
    rw [this]; simp
  · obtain ⟨g, o, rfl, _, _, _, h4⟩ := h.2 p hp
    refine ⟨g, o, rfl, fun j u hj => h4 j u ?_⟩
    rw [scells_take] at hj
    have hlt : j < i * 9 := by
      have := (List.getElem?_eq_some_iff.1 hj).1
      simp at this
      omega
    rw [List.getElem?_take_of_lt hlt] at hj
    exact hj
theorem srcT_drop {w : World} {base xb g o : Nat} {R : List Sl} (h : ReadsT w base xb (some ⟨g, o, none⟩) R) (j : Nat) : SrcT w (some ⟨g, o + j * 9, none⟩) (R.drop j) := by
  refine ⟨(fun e => (nomatch e)), fun p hp => ?_⟩
  obtain ⟨g', o', e, _, _, _, h4⟩ := h.2 _ rfl
  cases e
  cases hp
  refine ⟨g, o + j * 9, rfl, fun k u hk => ?_⟩
  rw [scells_drop, List.getElem?_drop] at hk
  rw [Nat.add_assoc]
  exact h4 _ u hk
theorem srcT_none {w : World} {a : Option Addr} (h : ∀ p, a = some p → ∃ g o, p = (⟨g, o, none⟩ : Addr)) : SrcT w a [] := ⟨fun _ => rfl, fun p hp => by
  obtain ⟨g, o, rfl⟩ := h p hp
  exact ⟨g, o, rfl, fun j u hj => absurd hj (by simp [scells])⟩⟩
theorem SrcT.same {w w' : World} {a : Option Addr} {R : List Sl} (h : SrcT w a R) (o : ∀ p, a = some p → w'.heap[p.block]? = w.heap[p.block]?) : SrcT w' a R := by
  refine ⟨h.1, fun p hp => ?_⟩
  obtain ⟨g, q, rfl, h4⟩ := h.2 p hp
  exact ⟨g, q, rfl, fun j u hj => (World.cell?_of_block (a := ⟨g, _, none⟩) (show w'.heap[g]? = w.heap[g]? from o _ hp)).trans (h4 j u hj)⟩
/-- what a call leaves of the document's table. -/
def TOut (w : World) (base xb : Nat) (Bl Pg : Int) (a : Option Addr) (R : List Sl) (r : Value) (e : Ending) (w' : World) : Prop := ∃ a' c', e = .returned r ∧ RefT w' base xb Bl Pg a' c' R ∧ Tn (tblR xb a) w w' (tblR xb a') ∧ a' ≠ none
/-- the new list, laid into the table. -/
theorem refT_new {w W1 : World} {base xb c g cap m : Nat} {Bl Pg : Int} {a : Option Addr} {R R' : List Sl} {r : Value} (Q : RefT w base xb Bl Pg a c R) (b : Below w.heap.size w W1) (hown : W1.ownsRow w.heap.size 52 9 (.slice (some ⟨g, 0, none⟩) m cap) m (scells R')) (hm : m = R'.length) :
    TOut w base xb Bl Pg a R' r (.returned r) (W1.setCell ⟨xb, 2, none⟩ (.slice (some ⟨g, 0, none⟩) m cap)) := by
  subst hm
  have hg : w.heap.size ≤ g ∧ g < W1.heap.size := hown.lt g rfl
  have hxb := Q.lt
  have hne : g ≠ xb := by omega
  have o := Only.setCell W1 ⟨xb, 2, none⟩ (.slice (some ⟨g, 0, none⟩) R'.length cap)
  have hcap : R'.length ≤ cap ∧ cap ≤ maxLen ∧ ∀ j u, (scells R')[j]? = some u → W1.cell? ⟨g, j, none⟩ = some u := by
    rcases hown.2 with ⟨h0, _⟩ | ⟨g', cap', cur, hv, hbg, hh, hnc, hmx, hs, ht⟩
    · cases h0
    · cases hv
      refine ⟨hnc, hmx, fun j u hu => ?_⟩
      have hj := (List.getElem?_eq_some_iff.1 hu).1
      rw [scells_len] at hj
      unfold World.cell?
      simp only
      rw [hh]
      have e2 : cur.toList[j]? = (scells R')[j]? := by rw [← ht, List.getElem?_take_of_lt (by omega)]
      rw [hu] at e2
      simpa using e2
  have hx0 := Q.x0
  refine ⟨some ⟨g, 0, none⟩, cap, rfl, ⟨Q.x0, heap_setCell_same _ _ 2 _ _ _ ((b.block xb hxb).trans Q.blk), ⟨hcap.1, hcap.2.1⟩, ⟨(fun _ e => (nomatch e)), fun p hp => ?_⟩⟩, ⟨o.os.trans b.os, o.tape.trans b.tape, o.output.trans b.output, by rw [o.size]; exact b.size, fun k hk hn => ?_, fun k hk => ?_⟩, by simp⟩
  · cases hp
    refine ⟨g, 0, rfl, by omega, by rw [o.size]; exact hg.2, hne, fun j u hj => ?_⟩
    rw [Nat.zero_add]
    exact (o.cell (p := ⟨g, _, none⟩) hne).trans (hcap.2.2 j u hj)
  · exact (o.block k fun e => hn (by rw [e]; exact List.mem_cons_self ..)).trans (b.block k hk)
  · rcases List.mem_cons.1 hk with rfl | hk
    · exact .inl (List.mem_cons_self ..)
    · have : k = g := by simpa using hk
      right; omega
end Go.Proofs.YtpbckjagiebmjaaDoor.Tb
/- The document's table: its Drop. By the verifier of shale. -/
namespace Go.Proofs.YtpbckjagiebmjaaDoor.Tb
open Go Go.RowKit
set_option linter.unusedVariables false
set_option linter.unusedSimpArgs false
def idxK (L : List Sl) (b : Int) : Option Nat := L.findIdx? fun x => decide (x.k = b)
theorem idxK_some {L : List Sl} {b : Int} {i : Nat} (hi : i < L.length) (h : (L[i]!).k = b) (hn : ∀ k, k < i → (L[k]!).k ≠ b) : idxK L b = some i := by
  unfold idxK
  rw [List.findIdx?_eq_some_iff_getElem]
  refine ⟨hi, ?_, fun j hj => ?_⟩
  · rw [getElem!_pos L i hi] at h
    simpa using h
  · have := hn j hj
    rw [getElem!_pos L j (by omega)] at this
    simpa using this
theorem idxK_none {L : List Sl} {b : Int} (hn : ∀ k, k < L.length → (L[k]!).k ≠ b) : idxK L b = none := by
  unfold idxK
  rw [List.findIdx?_eq_none_iff]
  intro x hx
  obtain ⟨k, hk, rfl⟩ := List.mem_iff_getElem.1 hx
  have := hn k hk
  rw [getElem!_pos L k hk] at this
  simpa using this
def TDrop (w : World) (base xb : Nat) (Bl Pg : Int) (a : Option Addr) (R : List Sl) (b : Int) (e : Ending) (w' : World) : Prop := (idxK R b = none ∧ e = .returned (.bool false) ∧ w = w') ∨ (∃ i, idxK R b = some i ∧ TOut w base xb Bl Pg a (R.eraseIdx i) (.bool true) e w')
set_option maxRecDepth 100000 in
set_option maxHeartbeats 4000000 in
theorem tdrop_any {w : World} {base xb c : Nat} {a : Option Addr} {Bl Pg : Int} {R : List Sl} (Q : RefT w base xb Bl Pg a c R) (hL : R.length ≤ 1000) (b : Int) :
    Calls Tryd.prog 9 #[.pointer (some ⟨xb, 0, none⟩), .int .i64 b] w (TDrop w base xb Bl Pg a R b) := by
  obtain ⟨n, hn⟩ : ∃ n, n = R.length := ⟨_, rfl⟩
  have HQ := Lib.hid (And.intro Q (And.intro hn hL))
  have hkw : ∀ W, Below w.heap.size w W → W.cell? ⟨xb, 2, none⟩ = some (.slice a n c) := fun W d => by rw [hn]; exact (Q.below d).cell.2.2.1
  have HK := Lib.hid hkw
  have HFz : Hid (∀ W, Below w.heap.size w W → W.frozen? ⟨xb, 2, none⟩ = false) := fun W d => (Q.below d).cell.2.2.2 2
  have hcap := Q.cap
  rw [← hn] at hL hcap
  unfold maxLen at hcap
  have k0 := hkw w (Below.refl _ _)
  clear Q hn hkw
  go_enter Tryd.func9, Tryd.ntmps9
  go_wp2_with fail
  go_loop [5] (fun s5 => ∃ i : Nat, i ≤ n ∧ s5 = .int .i64 (i : Int) ∧ Hid (∀ j, j < i → (R[j]!).k ≠ b)) (fun s5 => n - (intOf s5).toNat)
  case atStart => exact ⟨0, Nat.zero_le _, rfl, fun j hj => absurd hj (Nat.not_lt_zero _)⟩
  case round =>
    obtain ⟨i, hin, rfl, HX⟩ := hrel
    have x0 : (0 : Int) ≤ (i : Int) := by omega
    have x2 : (i : Int) ≤ 1000 := by omega
    by_cases hlt : i < n
    · have x1 : (i : Int) < (n : Int) := by omega
      obtain ⟨g, o, ha, hgx, c0, _, _, _, _, _, _, _, _⟩ := HQ.out.1.item (i := i) (by rw [← HQ.out.2.1]; exact hlt)
      obtain ⟨x, hx⟩ : ∃ x, x = R[i]! := ⟨_, rfl⟩
      rw [← hx] at c0
      have HXX := Lib.hid hx
      have HA := Lib.hid (And.intro ha hgx)
      clear hx hgx
      cases hb : (x.k == b)
      · have HNE : Hid (x.k ≠ b) := by show x.k ≠ b; simpa using hb
        subst ha
        go_wp2_with fail
        go_round
        case rel => exact ⟨i + 1, by omega, by go_num, fun j hj => by
          by_cases e : j = i
          · rw [e, ← HXX.out]; exact HNE.out
          · exact HX.out j (by omega)⟩
        case measure => simp [intOf]; omega
      · have HNE : Hid (x.k = b) := by show x.k = b; simpa using hb
        have HF1 : Hid (idxK R b = some i) := idxK_some (i := i) (by rw [← HQ.out.2.1]; exact hlt) (by rw [← HXX.out]; exact HNE.out) HX.out
        obtain ⟨R'', hR''⟩ : ∃ R'', R'' = R.eraseIdx i := ⟨_, rfl⟩
        obtain ⟨j, hj⟩ : ∃ j, j = i + 1 := ⟨_, rfl⟩
        have HRR : Hid (R'' = R.take i ++ R.drop j ∧ R''.length = n - 1) := ⟨by rw [hR'', hj]; exact List.eraseIdx_eq_take_drop_succ R i, by rw [hR'', List.length_eraseIdx_of_lt (by rw [← HQ.out.2.1]; exact hlt), ← HQ.out.2.1]⟩
        have HRE := Lib.hid hR''
        have hmk := madeS w.drew n (by omega)
        have hmk2 : (Instr.makeSlice 32 (.int .i64 0) (.int .i64 (n : Int))).run Tryd.prog w.drew = .ok (.slice (some ⟨w.heap.size, 0, none⟩) 0 n) ((w.alloc (slotObj n)).drew) := hmk
        have b3 : Below w.heap.size w ((w.alloc (slotObj n)).drew) := ((Below.refl w.heap.size w).alloc (Nat.le_refl _) _).drew
        have hap := app_slots (W := (w.alloc (slotObj n)).drew) (base := w.heap.size) (h := w.heap.size) (n := 0) (cap := n) (xs := []) (madeS_own w n (by omega)) b3.size (R := R.take i) (m := i) (c := c) (a := a) (by rw [List.length_take, ← HQ.out.2.1]; omega) ((srcT_take HQ.out.1.row i).same fun p hp => by
          obtain ⟨g', o', rfl, _, h2, _⟩ := HQ.out.1.row.2 p hp
          exact b3.block g' h2) (by omega) 32
        rw [Nat.zero_add, List.nil_append] at hap
        obtain ⟨g1, cap1, w4, hr1, hown1, hg1, hor1⟩ := hap
        have HBW : Hid (Below w.heap.size w w4) := b3.grown hg1 b3.size fun k hk => by cases hk; exact Nat.le_refl _
        have HB1 : Hid (w.heap.size ≤ w4.heap.size) := HBW.out.size
        have HGE : Hid (w.heap.size ≤ g1) := by
          rcases hor1 with h | h
          · rw [h]; exact Nat.le_refl _
          · rw [h]; exact b3.size
        have k3 := HK.out _ b3
        have kd : w.drew.cell? ⟨xb, 2, none⟩ = some (.slice a n c) := HK.out w.drew (Below.refl w.heap.size w).drew
        have y1 : i ≤ c := by omega
        have y2 : (i : Int) ≤ (c : Int) := by omega
        have y3 : (i : Int) ≤ (n : Int) := by omega
        have HLT := Lib.hid hlt
        have q1 : (i : Int) + 1 = (j : Int) := by omega
        have q2 : (j : Int) ≤ (n : Int) := by omega
        have q3 : (0 : Int) ≤ (j : Int) := by omega
        have q4 : (n : Int) ≤ (c : Int) := by omega
        have q5 : (j : Int) ≤ (c : Int) := by omega
        have q6 : j ≤ n := by omega
        have q7 : j ≤ c := by omega
        clear hmk hR'' hg1 hor1 b3 hj
        subst ha
        go_upto_region 5 with (fail)
        clear hb
        have HR1 := Lib.hid hr1
        clear hr1
        have k4 := HK.out w4 HBW.out
        go_region_held3 (fun w' => w'.cell? ⟨xb, 2, none⟩ = some (.slice (some ⟨g, o, none⟩) n c))
          (first | go_keep | exact k4)
          (refine step_app_run (by rfl) _ _ _ (by rfl) _ _ _ (by rfl) (by rfl) _ HR1.out ?_)
        clear hmk2 kd k3 k4
        rename_i hheld
        clear hheld
        by_cases hcj : c = j
        · have q8 : (c : Int) = (j : Int) := by omega
          have HJ := Lib.hid (show n = j by omega)
          have HCJ := Lib.hid hcj
          clear hcj
          have hsrc : SrcT w4 (some ⟨g, o, none⟩) (R.drop j) := by rw [List.drop_eq_nil_of_le (by rw [← HQ.out.2.1, HJ.out]; exact Nat.le_refl _)]; exact srcT_none fun p hp => by cases hp; exact ⟨g, o, rfl⟩
          have hap2 := app_slots hown1 HB1.out (R := R.drop j) (m := n - j) (c := c - j) (a := some ⟨g, o, none⟩) (by rw [List.length_drop, ← HQ.out.2.1]) hsrc (by omega) 32
          obtain ⟨g2, cap2, w5, hr2, hown2, hg2, hor2⟩ := hap2
          have HR2 := Lib.hid hr2
          have bb : Below w.heap.size w w5 := HBW.out.grown hg2 HB1.out fun k hk => by cases hk; exact HGE.out
          have HF : Hid (TDrop w base xb Bl Pg (some ⟨g, o, none⟩) R b (.returned (.bool true)) (w5.setCell ⟨xb, 2, none⟩ (.slice (some ⟨g2, 0, none⟩) (i + (n - j)) cap2))) := by
            have hown3 := hown2
            rw [← scells_append, ← HRR.out.1] at hown3
            have h := refT_new (r := .bool true) HQ.out.1 bb hown3 (by rw [HRR.out.2]; omega)
            rw [HRE.out] at h
            exact .inr ⟨i, HF1.out, h⟩
          have k4 : w4.cell? ⟨xb, 2, none⟩ = some (.slice (some ⟨g, o, none⟩) n c) := HK.out w4 HBW.out
          have k5 : w5.cell? ⟨xb, 2, none⟩ = some (.slice (some ⟨g, o, none⟩) n c) := HK.out w5 bb
          have f5 : w5.frozen? ⟨xb, 2, none⟩ = false := HFz.out w5 bb
          clear hown1 hown2 hg2 hor2 hr2 bb hsrc
          go_wp2_with (at_builtin; refine list_app_run rfl _ _ _ rfl _ _ _ rfl rfl _ HR2.out ?_)
          go_ret
          exact HF.out
        · have q8 : ¬ ((c : Int) = (j : Int)) := by omega
          have q9 : ¬ (c = j) := hcj
          have hsrc : SrcT w4 (some ⟨g, o + j * 9, none⟩) (R.drop j) := (srcT_drop HQ.out.1.row j).same fun p hp => by cases hp; obtain ⟨g1, o1, e, _, h2, _⟩ := HQ.out.1.row.2 _ rfl; cases e; exact HBW.out.block g h2
          have hap2 := app_slots hown1 HB1.out (R := R.drop j) (m := n - j) (c := c - j) (a := some ⟨g, o + j * 9, none⟩) (by rw [List.length_drop, ← HQ.out.2.1]) hsrc (by omega) 32
          obtain ⟨g2, cap2, w5, hr2, hown2, hg2, hor2⟩ := hap2
          have HR2 := Lib.hid hr2
          have bb : Below w.heap.size w w5 := HBW.out.grown hg2 HB1.out fun k hk => by cases hk; exact HGE.out
          have HF : Hid (TDrop w base xb Bl Pg (some ⟨g, o, none⟩) R b (.returned (.bool true)) (w5.setCell ⟨xb, 2, none⟩ (.slice (some ⟨g2, 0, none⟩) (i + (n - j)) cap2))) := by
            have hown3 := hown2
            rw [← scells_append, ← HRR.out.1] at hown3
            have h := refT_new (r := .bool true) HQ.out.1 bb hown3 (by rw [HRR.out.2]; omega)
            rw [HRE.out] at h
            exact .inr ⟨i, HF1.out, h⟩
          have k4 : w4.cell? ⟨xb, 2, none⟩ = some (.slice (some ⟨g, o, none⟩) n c) := HK.out w4 HBW.out
          have k5 : w5.cell? ⟨xb, 2, none⟩ = some (.slice (some ⟨g, o, none⟩) n c) := HK.out w5 bb
          have f5 : w5.frozen? ⟨xb, 2, none⟩ = false := HFz.out w5 bb
          clear hown1 hown2 hg2 hor2 hr2 bb hsrc
          go_wp2_with (at_builtin; refine list_app_run rfl _ _ _ rfl _ _ _ rfl rfl _ HR2.out ?_)
          go_ret
          exact HF.out
    · obtain rfl : n = i := by omega
      have HF : Hid (idxK R b = none) := idxK_none (by rw [← HQ.out.2.1]; exact HX.out)
      go_wp2_with fail
      go_ret
      exact .inl ⟨HF.out, rfl, rfl⟩
end Go.Proofs.YtpbckjagiebmjaaDoor.Tb
/- The document's table: its Set, where it refuses. By the verifier of shale. -/
namespace Go.Proofs.YtpbckjagiebmjaaDoor.Tb
open Go Go.RowKit
set_option linter.unusedVariables false
set_option linter.unusedSimpArgs false
theorem countT_any (n : Int) (w : World) : Calls Tryd.prog 27 #[.int .i64 n] w fun e w' => e = .returned (.bool (decide (0 ≤ n) && decide (n ≤ 1073741824))) ∧ w = w' := by
  by_cases h1 : 0 ≤ n
  · have t1 : decide (0 ≤ n) = true := decide_eq_true h1
    cases t2 : decide (n ≤ 1073741824)
    · go_enter Tryd.func27, Tryd.ntmps27
      go_wp2_with fail
      go_ret
      exact ⟨by simp [h1, t2], rfl⟩
    · go_enter Tryd.func27, Tryd.ntmps27
      go_wp2_with fail
      go_ret
      exact ⟨by simp [h1, t2], rfl⟩
  · have t1 : decide (0 ≤ n) = false := decide_eq_false h1
    go_enter Tryd.func27, Tryd.ntmps27
    go_wp2_with fail
    go_ret
    exact ⟨by simp [h1], rfl⟩
/-- the call's own boxes: the place, the record, the place that is told. -/
structure BxS (w : World) (pb mb ob : Nat) (s : Sl) (W : World) : Prop where
  bel : Below w.heap.size w W
  p : W.heap[pb]? = some (.cells #[.int .i64 s.b, .int .i64 s.p] 24 (0, 0))
  m : W.heap[mb]? = some (.cells #[.int .i64 s.m0, .int .i64 s.m1, .int .i64 s.m2, .int .i64 s.m3, .int .i64 s.m4, .int .i64 s.m5] 36 (0, 0))
  o : W.heap[ob]? = some (.cells #[.int .i64 0, .int .i64 0] 24 (0, 0))
  p0 : w.heap.size ≤ pb
  m0 : w.heap.size ≤ mb
  o0 : w.heap.size ≤ ob
  po : pb < mb
  mo : mb < ob
theorem BxS.below {w W W' : World} {pb mb ob : Nat} {s : Sl} (h : BxS w pb mb ob s W) (b : Below W.heap.size W W') : BxS w pb mb ob s W' :=
  ⟨h.bel.trans (b.mono h.bel.size), (b.block pb (lt_of_block h.p)).trans h.p, (b.block mb (lt_of_block h.m)).trans h.m, (b.block ob (lt_of_block h.o)).trans h.o, h.p0, h.m0, h.o0, h.po, h.mo⟩
set_option maxRecDepth 100000 in
set_option maxHeartbeats 4000000 in
theorem tset_bad {w : World} {base xb c : Nat} {Bl Pg : Int} {a : Option Addr} {R : List Sl} (Q : RefT w base xb Bl Pg a c R) (s : Sl) (h : ¬ (0 ≤ s.k ∧ s.k ≤ 1073741824 ∧ 0 ≤ s.b ∧ s.b < Bl ∧ 0 ≤ s.p ∧ s.p < Pg)) :
    Calls Tryd.prog 11 #[.pointer (some ⟨xb, 0, none⟩), .int .i64 s.k, .agg #[.int .i64 s.b, .int .i64 s.p], .agg #[.int .i64 s.m0, .int .i64 s.m1, .int .i64 s.m2, .int .i64 s.m3, .int .i64 s.m4, .int .i64 s.m5]] w fun e w' => e = .returned (.tuple #[.agg #[.int .i64 0, .int .i64 0], .bool false, .int .i64 102]) ∧ Below w.heap.size w w' := by
  have HQ := Lib.hid Q
  have go : ∀ d0 d1 d2 d3 d4 : Bool, (decide (0 ≤ s.k) && decide (s.k ≤ 1073741824)) = d0 → decide (s.b < 0) = d1 → decide (Bl ≤ s.b) = d2 → decide (s.p < 0) = d3 → decide (Pg ≤ s.p) = d4 → (!d0 || d1 || d2 || d3 || d4) = true → Calls Tryd.prog 11 #[.pointer (some ⟨xb, 0, none⟩), .int .i64 s.k, .agg #[.int .i64 s.b, .int .i64 s.p], .agg #[.int .i64 s.m0, .int .i64 s.m1, .int .i64 s.m2, .int .i64 s.m3, .int .i64 s.m4, .int .i64 s.m5]] w fun e w' => e = .returned (.tuple #[.agg #[.int .i64 0, .int .i64 0], .bool false, .int .i64 102]) ∧ Below w.heap.size w w' := by
    intro d0 d1 d2 d3 d4 e0 e1 e2 e3 e4 hh
    have HC0 := Lib.hid (countT_any s.k)
    rw [e0] at HC0
    clear e0 Q h
    have HC : Hid (∀ W q os, Calls Tryd.prog 27 #[.int .i64 s.k] (Sort.grow (redrawn W q) os) fun e w' => e = .returned (.bool d0) ∧ ∃ p : Regrown, w' = Sort.grow (redrawn W p.d) p.os) := fun W q os => Calls.regrown_of ((HC0.out _).mono fun e w' h => ⟨h.1, by rw [← h.2]; exact Below.refl _ _⟩)
    clear HC0
    go_enter Tryd.func11, Tryd.ntmps11
    go_upto_region 1 with (fail)
    generalize hw : w.alloc (.cells #[.int .i64 s.b, .int .i64 s.p] 24 (0, 0)) = w1
    obtain ⟨J1, b1⟩ := newPl w w1 s.b s.p hw
    have hs1 : w1.heap.size = w.heap.size + 1 := by rw [← hw]; simp
    clear hw
    rw [← hs1]
    generalize hw : w1.alloc (.cells #[.int .i64 s.m0, .int .i64 s.m1, .int .i64 s.m2, .int .i64 s.m3, .int .i64 s.m4, .int .i64 s.m5] 36 (0, 0)) = w2
    obtain ⟨J2, b2⟩ := newMe w1 w2 s.m0 s.m1 s.m2 s.m3 s.m4 s.m5 hw
    have hs2 : w2.heap.size = w1.heap.size + 1 := by rw [← hw]; simp
    clear hw
    rw [← hs2]
    generalize hw : w2.alloc (.cells #[.int .i64 0, .int .i64 0] 24 (0, 0)) = w3
    obtain ⟨J3, b3⟩ := newPl w2 w3 0 0 hw
    clear hw
    have b13 := b2.trans (b3.mono b2.size)
    have b03 := b1.trans (b13.mono b1.size)
    obtain ⟨pb, hpb⟩ : ∃ pb, pb = w.heap.size := ⟨_, rfl⟩
    obtain ⟨mb, hmb⟩ : ∃ mb, mb = w1.heap.size := ⟨_, rfl⟩
    obtain ⟨ob, hob⟩ : ∃ ob, ob = w2.heap.size := ⟨_, rfl⟩
    have HI : Hid (BxS w pb mb ob s w3) := by
      refine ⟨b03, ?_, ?_, ?_, by omega, by omega, by omega, by omega, by omega⟩
      · rw [hpb]; exact (b13.block _ (lt_of_block J1)).trans J1
      · rw [hmb]; exact (b3.block _ (lt_of_block J2)).trans J2
      · rw [hob]; exact J3
    rw [← hpb, ← hmb, ← hob]
    clear J1 J2 J3 b1 b2 b3 b13 b03 hs1 hs2 hpb hmb hob
    replace HC := Lib.hid (HC.out w3)
    cases d0
    · clear hh
      have k0 := cell_regrown (HQ.out.below HI.out.bel).cell.1
      have k1 := cell_regrown (HQ.out.below HI.out.bel).cell.2.1
      have p0 := cell_regrown (pl_cells HI.out.p).1
      have p1 := cell_regrown (pl_cells HI.out.p).2.1
      refine wp_region_quiet_below (by kernel_rfl) (by kernel_rfl) ?_
      repeat (go_big_quiet_step (first | (go_at_call 27; with_reducible exact HC.out _ _)))
      refine wpQuiet_nil ?_
      intro _ hw'
      obtain ⟨⟨dq, osq⟩, hw''⟩ := hw'
      subst hw''
      have b5 := below_regrown w3 dq osq
      generalize Sort.grow (redrawn w3 dq) osq = wz at b5 ⊢
      have HZ := Lib.hid (HI.out.below b5)
      clear k0 k1 p0 p1 b5 HI HC
      obtain ⟨r0, r1, rf⟩ := pl_cells HZ.out.o
      have f0 := rf 0
      have f1 := rf 1
      have hR : ((wz.setCell ⟨ob, 0, none⟩ (.int .i64 0)).setCell ⟨ob, 1, none⟩ (.int .i64 0)).heap[ob]? = some (.cells #[.int .i64 0, .int .i64 0] 24 (0, 0)) := heap_setCell_same _ _ 1 _ _ _ (heap_setCell_same _ _ 0 _ _ _ HZ.out.o)
      have oR : Only ob wz ((wz.setCell ⟨ob, 0, none⟩ (.int .i64 0)).setCell ⟨ob, 1, none⟩ (.int .i64 0)) := (Only.setCell wz ⟨ob, 0, none⟩ _).trans (Only.setCell _ ⟨ob, 1, none⟩ _)
      have HF : Hid (Below w.heap.size w ((wz.setCell ⟨ob, 0, none⟩ (.int .i64 0)).setCell ⟨ob, 1, none⟩ (.int .i64 0))) := HZ.out.bel.trans (oR.below HZ.out.o0)
      have HR := Lib.hid hR
      clear rf hR oR HZ
      go_wp2_with fail
      obtain ⟨s0, s1, _⟩ := pl_cells HR.out
      have hF := HF.out
      generalize ((wz.setCell ⟨ob, 0, none⟩ (.int .i64 0)).setCell ⟨ob, 1, none⟩ (.int .i64 0)) = w12 at s0 s1 hF ⊢
      exact bodyPost_ret (v := .tuple #[.agg #[.int .i64 0, .int .i64 0], .bool false, .int .i64 102]) (by simp [results, Tryd.results11, go_sem, s0, s1]) rfl ⟨rfl, hF⟩
    · cases d1
      · cases d2
        · cases d3
          · cases d4
            · exact absurd hh (by decide)
            · clear hh
              have k0 := cell_regrown (HQ.out.below HI.out.bel).cell.1
              have k1 := cell_regrown (HQ.out.below HI.out.bel).cell.2.1
              have p0 := cell_regrown (pl_cells HI.out.p).1
              have p1 := cell_regrown (pl_cells HI.out.p).2.1
              refine wp_region_quiet_below (by kernel_rfl) (by kernel_rfl) ?_
              repeat (go_big_quiet_step (first | (go_at_call 27; with_reducible exact HC.out _ _)))
              refine wpQuiet_nil ?_
              intro _ hw'
              obtain ⟨⟨dq, osq⟩, hw''⟩ := hw'
              subst hw''
              have b5 := below_regrown w3 dq osq
              generalize Sort.grow (redrawn w3 dq) osq = wz at b5 ⊢
              have HZ := Lib.hid (HI.out.below b5)
              clear k0 k1 p0 p1 b5 HI HC
              obtain ⟨r0, r1, rf⟩ := pl_cells HZ.out.o
              have f0 := rf 0
              have f1 := rf 1
              have hR : ((wz.setCell ⟨ob, 0, none⟩ (.int .i64 0)).setCell ⟨ob, 1, none⟩ (.int .i64 0)).heap[ob]? = some (.cells #[.int .i64 0, .int .i64 0] 24 (0, 0)) := heap_setCell_same _ _ 1 _ _ _ (heap_setCell_same _ _ 0 _ _ _ HZ.out.o)
              have oR : Only ob wz ((wz.setCell ⟨ob, 0, none⟩ (.int .i64 0)).setCell ⟨ob, 1, none⟩ (.int .i64 0)) := (Only.setCell wz ⟨ob, 0, none⟩ _).trans (Only.setCell _ ⟨ob, 1, none⟩ _)
              have HF : Hid (Below w.heap.size w ((wz.setCell ⟨ob, 0, none⟩ (.int .i64 0)).setCell ⟨ob, 1, none⟩ (.int .i64 0))) := HZ.out.bel.trans (oR.below HZ.out.o0)
              have HR := Lib.hid hR
              clear rf hR oR HZ
              go_wp2_with fail
              obtain ⟨s0, s1, _⟩ := pl_cells HR.out
              have hF := HF.out
              generalize ((wz.setCell ⟨ob, 0, none⟩ (.int .i64 0)).setCell ⟨ob, 1, none⟩ (.int .i64 0)) = w12 at s0 s1 hF ⊢
              exact bodyPost_ret (v := .tuple #[.agg #[.int .i64 0, .int .i64 0], .bool false, .int .i64 102]) (by simp [results, Tryd.results11, go_sem, s0, s1]) rfl ⟨rfl, hF⟩
          · clear hh
            have k0 := cell_regrown (HQ.out.below HI.out.bel).cell.1
            have k1 := cell_regrown (HQ.out.below HI.out.bel).cell.2.1
            have p0 := cell_regrown (pl_cells HI.out.p).1
            have p1 := cell_regrown (pl_cells HI.out.p).2.1
            refine wp_region_quiet_below (by kernel_rfl) (by kernel_rfl) ?_
            repeat (go_big_quiet_step (first | (go_at_call 27; with_reducible exact HC.out _ _)))
            refine wpQuiet_nil ?_
            intro _ hw'
            obtain ⟨⟨dq, osq⟩, hw''⟩ := hw'
            subst hw''
            have b5 := below_regrown w3 dq osq
            generalize Sort.grow (redrawn w3 dq) osq = wz at b5 ⊢
            have HZ := Lib.hid (HI.out.below b5)
            clear k0 k1 p0 p1 b5 HI HC
            obtain ⟨r0, r1, rf⟩ := pl_cells HZ.out.o
            have f0 := rf 0
            have f1 := rf 1
            have hR : ((wz.setCell ⟨ob, 0, none⟩ (.int .i64 0)).setCell ⟨ob, 1, none⟩ (.int .i64 0)).heap[ob]? = some (.cells #[.int .i64 0, .int .i64 0] 24 (0, 0)) := heap_setCell_same _ _ 1 _ _ _ (heap_setCell_same _ _ 0 _ _ _ HZ.out.o)
            have oR : Only ob wz ((wz.setCell ⟨ob, 0, none⟩ (.int .i64 0)).setCell ⟨ob, 1, none⟩ (.int .i64 0)) := (Only.setCell wz ⟨ob, 0, none⟩ _).trans (Only.setCell _ ⟨ob, 1, none⟩ _)
            have HF : Hid (Below w.heap.size w ((wz.setCell ⟨ob, 0, none⟩ (.int .i64 0)).setCell ⟨ob, 1, none⟩ (.int .i64 0))) := HZ.out.bel.trans (oR.below HZ.out.o0)
            have HR := Lib.hid hR
            clear rf hR oR HZ
            go_wp2_with fail
            obtain ⟨s0, s1, _⟩ := pl_cells HR.out
            have hF := HF.out
            generalize ((wz.setCell ⟨ob, 0, none⟩ (.int .i64 0)).setCell ⟨ob, 1, none⟩ (.int .i64 0)) = w12 at s0 s1 hF ⊢
            exact bodyPost_ret (v := .tuple #[.agg #[.int .i64 0, .int .i64 0], .bool false, .int .i64 102]) (by simp [results, Tryd.results11, go_sem, s0, s1]) rfl ⟨rfl, hF⟩
        · clear hh
          have k0 := cell_regrown (HQ.out.below HI.out.bel).cell.1
          have k1 := cell_regrown (HQ.out.below HI.out.bel).cell.2.1
          have p0 := cell_regrown (pl_cells HI.out.p).1
          have p1 := cell_regrown (pl_cells HI.out.p).2.1
          refine wp_region_quiet_below (by kernel_rfl) (by kernel_rfl) ?_
          repeat (go_big_quiet_step (first | (go_at_call 27; with_reducible exact HC.out _ _)))
          refine wpQuiet_nil ?_
          intro _ hw'
          obtain ⟨⟨dq, osq⟩, hw''⟩ := hw'
          subst hw''
          have b5 := below_regrown w3 dq osq
          generalize Sort.grow (redrawn w3 dq) osq = wz at b5 ⊢
          have HZ := Lib.hid (HI.out.below b5)
          clear k0 k1 p0 p1 b5 HI HC
          obtain ⟨r0, r1, rf⟩ := pl_cells HZ.out.o
          have f0 := rf 0
          have f1 := rf 1
          have hR : ((wz.setCell ⟨ob, 0, none⟩ (.int .i64 0)).setCell ⟨ob, 1, none⟩ (.int .i64 0)).heap[ob]? = some (.cells #[.int .i64 0, .int .i64 0] 24 (0, 0)) := heap_setCell_same _ _ 1 _ _ _ (heap_setCell_same _ _ 0 _ _ _ HZ.out.o)
          have oR : Only ob wz ((wz.setCell ⟨ob, 0, none⟩ (.int .i64 0)).setCell ⟨ob, 1, none⟩ (.int .i64 0)) := (Only.setCell wz ⟨ob, 0, none⟩ _).trans (Only.setCell _ ⟨ob, 1, none⟩ _)
          have HF : Hid (Below w.heap.size w ((wz.setCell ⟨ob, 0, none⟩ (.int .i64 0)).setCell ⟨ob, 1, none⟩ (.int .i64 0))) := HZ.out.bel.trans (oR.below HZ.out.o0)
          have HR := Lib.hid hR
          clear rf hR oR HZ
          go_wp2_with fail
          obtain ⟨s0, s1, _⟩ := pl_cells HR.out
          have hF := HF.out
          generalize ((wz.setCell ⟨ob, 0, none⟩ (.int .i64 0)).setCell ⟨ob, 1, none⟩ (.int .i64 0)) = w12 at s0 s1 hF ⊢
          exact bodyPost_ret (v := .tuple #[.agg #[.int .i64 0, .int .i64 0], .bool false, .int .i64 102]) (by simp [results, Tryd.results11, go_sem, s0, s1]) rfl ⟨rfl, hF⟩
      · clear hh
        have k0 := cell_regrown (HQ.out.below HI.out.bel).cell.1
        have k1 := cell_regrown (HQ.out.below HI.out.bel).cell.2.1
        have p0 := cell_regrown (pl_cells HI.out.p).1
        have p1 := cell_regrown (pl_cells HI.out.p).2.1
        refine wp_region_quiet_below (by kernel_rfl) (by kernel_rfl) ?_
        repeat (go_big_quiet_step (first | (go_at_call 27; with_reducible exact HC.out _ _)))
        refine wpQuiet_nil ?_
        intro _ hw'
        obtain ⟨⟨dq, osq⟩, hw''⟩ := hw'
        subst hw''
        have b5 := below_regrown w3 dq osq
        generalize Sort.grow (redrawn w3 dq) osq = wz at b5 ⊢
        have HZ := Lib.hid (HI.out.below b5)
        clear k0 k1 p0 p1 b5 HI HC
        obtain ⟨r0, r1, rf⟩ := pl_cells HZ.out.o
        have f0 := rf 0
        have f1 := rf 1
        have hR : ((wz.setCell ⟨ob, 0, none⟩ (.int .i64 0)).setCell ⟨ob, 1, none⟩ (.int .i64 0)).heap[ob]? = some (.cells #[.int .i64 0, .int .i64 0] 24 (0, 0)) := heap_setCell_same _ _ 1 _ _ _ (heap_setCell_same _ _ 0 _ _ _ HZ.out.o)
        have oR : Only ob wz ((wz.setCell ⟨ob, 0, none⟩ (.int .i64 0)).setCell ⟨ob, 1, none⟩ (.int .i64 0)) := (Only.setCell wz ⟨ob, 0, none⟩ _).trans (Only.setCell _ ⟨ob, 1, none⟩ _)
        have HF : Hid (Below w.heap.size w ((wz.setCell ⟨ob, 0, none⟩ (.int .i64 0)).setCell ⟨ob, 1, none⟩ (.int .i64 0))) := HZ.out.bel.trans (oR.below HZ.out.o0)
        have HR := Lib.hid hR
        clear rf hR oR HZ
        go_wp2_with fail
        obtain ⟨s0, s1, _⟩ := pl_cells HR.out
        have hF := HF.out
        generalize ((wz.setCell ⟨ob, 0, none⟩ (.int .i64 0)).setCell ⟨ob, 1, none⟩ (.int .i64 0)) = w12 at s0 s1 hF ⊢
        exact bodyPost_ret (v := .tuple #[.agg #[.int .i64 0, .int .i64 0], .bool false, .int .i64 102]) (by simp [results, Tryd.results11, go_sem, s0, s1]) rfl ⟨rfl, hF⟩
  refine go _ _ _ _ _ rfl rfl rfl rfl rfl ?_
  rw [Bool.eq_iff_iff]
  simp only [Bool.or_eq_true, Bool.not_eq_true', Bool.and_eq_false_iff, decide_eq_true_eq, decide_eq_false_iff_not, iff_true]
  omega
end Go.Proofs.YtpbckjagiebmjaaDoor.Tb
/- The document's table: its Set. By the verifier of shale. -/
namespace Go.Proofs.YtpbckjagiebmjaaDoor.Tb
open Go Go.RowKit
set_option linter.unusedVariables false
set_option linter.unusedSimpArgs false
theorem own_mono {W : World} {b b' : Nat} (h : b' ≤ b) {t : TypeId} {k n : Nat} {v : Value} {xs : List Value} (o : W.ownsRow b t k v n xs) : W.ownsRow b' t k v n xs := by
  refine ⟨o.1, ?_⟩
  rcases o.2 with h0 | ⟨g, cap, cur, e1, e2, e3⟩
  · exact .inl h0
  · exact .inr ⟨g, cap, cur, e1, by omega, e3⟩
/-- the first slot that does not come before. -/
def insK (R : List Sl) (key : Int) (i : Nat) : Prop := i ≤ R.length ∧ (∀ j, j < i → (R[j]!).k < key) ∧ (i < R.length → ¬ (R[i]!).k < key)
def atOther (s x : Sl) : Prop := x.k ≠ s.k ∧ x.b = s.b ∧ x.p = s.p
def TSet (w : World) (base xb : Nat) (Bl Pg : Int) (a : Option Addr) (R : List Sl) (s : Sl) (e : Ending) (w' : World) : Prop :=
  ((∃ j, j < R.length ∧ atOther s (R[j]!)) ∧ e = .returned (.tuple #[.agg #[.int .i64 0, .int .i64 0], .bool false, .int .i64 110]) ∧ Below w.heap.size w w') ∨
  ((∀ j, j < R.length → ¬ atOther s (R[j]!)) ∧ ∃ i, insK R s.k i ∧
    ((i < R.length ∧ (R[i]!).k = s.k ∧ TOut w base xb Bl Pg a (R.take i ++ s :: R.drop (i + 1)) (.tuple #[.agg #[.int .i64 (R[i]!).b, .int .i64 (R[i]!).p], .bool true, .int .i64 0]) e w') ∨
     ((i < R.length → (R[i]!).k ≠ s.k) ∧ TOut w base xb Bl Pg a (R.take i ++ s :: R.drop i) (.tuple #[.agg #[.int .i64 0, .int .i64 0], .bool false, .int .i64 0]) e w')))
/-- the new list is laid in, and the place that the key had is told. -/
theorem tset_fin {w W9 : World} {base xb c g cap m ob : Nat} {Bl Pg : Int} {a : Option Addr} {R R' : List Sl} {r : Value} (Q : RefT w base xb Bl Pg a c R) (b : Below w.heap.size w W9) (hown : W9.ownsRow w.heap.size 52 9 (.slice (some ⟨g, 0, none⟩) m cap) m (scells R')) (hm : m = R'.length)
    (ho : W9.heap[ob]? = some (.cells #[.int .i64 0, .int .i64 0] 24 (0, 0))) (ho0 : w.heap.size ≤ ob) (x y : Int) :
    TOut w base xb Bl Pg a R' r (.returned r) (((W9.setCell ⟨xb, 2, none⟩ (.slice (some ⟨g, 0, none⟩) m cap)).setCell ⟨ob, 0, none⟩ (.int .i64 x)).setCell ⟨ob, 1, none⟩ (.int .i64 y)) ∧
    (((W9.setCell ⟨xb, 2, none⟩ (.slice (some ⟨g, 0, none⟩) m cap)).setCell ⟨ob, 0, none⟩ (.int .i64 x)).setCell ⟨ob, 1, none⟩ (.int .i64 y)).heap[ob]? = some (.cells #[.int .i64 x, .int .i64 y] 24 (0, 0)) := by
  have hgo : g ≠ ob := by
    rintro rfl
    rcases hown.2 with ⟨h0, _⟩ | ⟨g', cap', cur, hv, hbg, hh, _⟩
    · cases h0
    · cases hv
      rw [ho] at hh
      simp only [Option.some.injEq, Obj.cells.injEq] at hh
      exact absurd hh.2.1 (by decide)
  have hxb := Q.lt
  have hxo : xb ≠ ob := by omega
  obtain ⟨a', c', _, h, t, hne⟩ := refT_new (r := r) Q b hown hm
  have h10 : (W9.setCell ⟨xb, 2, none⟩ (.slice (some ⟨g, 0, none⟩) m cap)).heap[xb]? = some (.cells #[.int .i64 Bl, .int .i64 Pg, .slice (some ⟨g, 0, none⟩) m cap] 34 (0, 0)) := heap_setCell_same _ _ 2 _ _ _ ((b.block xb hxb).trans Q.blk)
  have ea : a' = some ⟨g, 0, none⟩ := by
    have e := h.blk
    rw [h10] at e
    simp only [Option.some.injEq, Obj.cells.injEq, Array.mk.injEq, List.cons.injEq, Value.slice.injEq, and_true, true_and] at e
    exact e.1.symm
  subst ea
  have o10 : (W9.setCell ⟨xb, 2, none⟩ (.slice (some ⟨g, 0, none⟩) m cap)).heap[ob]? = some (.cells #[.int .i64 0, .int .i64 0] 24 (0, 0)) := ((Only.setCell W9 ⟨xb, 2, none⟩ _).block ob (Ne.symm hxo)).trans ho
  generalize W9.setCell ⟨xb, 2, none⟩ (.slice (some ⟨g, 0, none⟩) m cap) = W at h t o10 ⊢
  have o := (Only.setCell W ⟨ob, 0, none⟩ (.int .i64 x)).trans (Only.setCell _ ⟨ob, 1, none⟩ (.int .i64 y))
  refine ⟨⟨_, c', rfl, h.same (by rw [o.size]; exact Nat.le_refl _) fun k hk => o.block k ?_, ⟨o.os.trans t.os, o.tape.trans t.tape, o.output.trans t.output, by rw [o.size]; exact t.size, fun k hk hn => (o.block k (by show k ≠ ob; omega)).trans (t.same k hk hn), t.new⟩, hne⟩, heap_setCell_same _ _ 1 _ _ _ (heap_setCell_same _ _ 0 _ _ _ o10)⟩
  rcases List.mem_cons.1 hk with rfl | hk
  · exact hxo
  · have : k = g := by simpa using hk
    rw [this]; exact hgo
set_option maxRecDepth 100000 in
set_option maxHeartbeats 20000000 in
theorem tset_any {w : World} {base xb c : Nat} {Bl Pg : Int} {a : Option Addr} {R : List Sl} (Q : RefT w base xb Bl Pg a c R) (hnil : a = none → c = 0) (hL : R.length ≤ 1000) (s : Sl) (h0 : 0 ≤ s.k) (h1 : s.k ≤ 1073741824) (h2 : 0 ≤ s.b) (h3 : s.b < Bl) (h4 : 0 ≤ s.p) (h5 : s.p < Pg) :
    Calls Tryd.prog 11 #[.pointer (some ⟨xb, 0, none⟩), .int .i64 s.k, .agg #[.int .i64 s.b, .int .i64 s.p], .agg #[.int .i64 s.m0, .int .i64 s.m1, .int .i64 s.m2, .int .i64 s.m3, .int .i64 s.m4, .int .i64 s.m5]] w (TSet w base xb Bl Pg a R s) := by
  have HC0 := Lib.hid (countT_any s.k)
  rw [show (decide (0 ≤ s.k) && decide (s.k ≤ 1073741824)) = true from by simp [h0, h1]] at HC0
  have HC : Hid (∀ W q os, Calls Tryd.prog 27 #[.int .i64 s.k] (Sort.grow (redrawn W q) os) fun e w' => e = .returned (.bool true) ∧ ∃ p : Regrown, w' = Sort.grow (redrawn W p.d) p.os) := fun W q os => Calls.regrown_of ((HC0.out _).mono fun e w' h => ⟨h.1, by rw [← h.2]; exact Below.refl _ _⟩)
  have e1 : decide (s.b < 0) = false := decide_eq_false (by omega)
  have e2 : decide (Bl ≤ s.b) = false := decide_eq_false (by omega)
  have e3 : decide (s.p < 0) = false := decide_eq_false (by omega)
  have e4 : decide (Pg ≤ s.p) = false := decide_eq_false (by omega)
  obtain ⟨n, hn⟩ : ∃ n, n = R.length := ⟨_, rfl⟩
  have HQ := Lib.hid Q
  have HL := Lib.hid (And.intro hn hL)
  have HNIL := Lib.hid hnil
  have hK : ∀ W, Below w.heap.size w W → W.cell? ⟨xb, 2, none⟩ = some (.slice a n c) ∧ W.frozen? ⟨xb, 2, none⟩ = false := fun W d => by rw [hn]; exact ⟨(Q.below d).cell.2.2.1, (Q.below d).cell.2.2.2 2⟩
  have HK := Lib.hid hK
  have hcap := Q.cap
  rw [← hn] at hL hcap
  unfold maxLen at hcap
  clear HC0 Q hn hK hnil h0 h1 h2 h3 h4 h5
  go_enter Tryd.func11, Tryd.ntmps11
  go_upto_region 1 with (fail)
  generalize hw : w.alloc (.cells #[.int .i64 s.b, .int .i64 s.p] 24 (0, 0)) = w1
  obtain ⟨J1, b1⟩ := newPl w w1 s.b s.p hw
  have hs1 : w1.heap.size = w.heap.size + 1 := by rw [← hw]; simp
  clear hw
  rw [← hs1]
  generalize hw : w1.alloc (.cells #[.int .i64 s.m0, .int .i64 s.m1, .int .i64 s.m2, .int .i64 s.m3, .int .i64 s.m4, .int .i64 s.m5] 36 (0, 0)) = w2
  obtain ⟨J2, b2⟩ := newMe w1 w2 s.m0 s.m1 s.m2 s.m3 s.m4 s.m5 hw
  have hs2 : w2.heap.size = w1.heap.size + 1 := by rw [← hw]; simp
  clear hw
  rw [← hs2]
  generalize hw : w2.alloc (.cells #[.int .i64 0, .int .i64 0] 24 (0, 0)) = w3
  obtain ⟨J3, b3⟩ := newPl w2 w3 0 0 hw
  clear hw
  have b13 := b2.trans (b3.mono b2.size)
  have b03 := b1.trans (b13.mono b1.size)
  obtain ⟨pb, hpb⟩ : ∃ pb, pb = w.heap.size := ⟨_, rfl⟩
  obtain ⟨mb, hmb⟩ : ∃ mb, mb = w1.heap.size := ⟨_, rfl⟩
  obtain ⟨ob, hob⟩ : ∃ ob, ob = w2.heap.size := ⟨_, rfl⟩
  have HI : Hid (BxS w pb mb ob s w3) := by
    refine ⟨b03, ?_, ?_, ?_, by omega, by omega, by omega, by omega, by omega⟩
    · rw [hpb]; exact (b13.block _ (lt_of_block J1)).trans J1
    · rw [hmb]; exact (b3.block _ (lt_of_block J2)).trans J2
    · rw [hob]; exact J3
  rw [← hpb, ← hmb, ← hob]
  clear J1 J2 J3 b1 b2 b3 b13 b03 hs1 hs2 hpb hmb hob
  replace HC := Lib.hid (HC.out w3)
  have k0 := cell_regrown (HQ.out.below HI.out.bel).cell.1
  have k1 := cell_regrown (HQ.out.below HI.out.bel).cell.2.1
  have p0 := cell_regrown (pl_cells HI.out.p).1
  have p1 := cell_regrown (pl_cells HI.out.p).2.1
  refine wp_region_quiet_below (by kernel_rfl) (by kernel_rfl) ?_
  repeat (go_big_quiet_step (first | (go_at_call 27; with_reducible exact HC.out _ _)))
  refine wpQuiet_nil ?_
  intro _ hw'
  obtain ⟨⟨dq, osq⟩, hw''⟩ := hw'
  subst hw''
  have b5 := below_regrown w3 dq osq
  generalize Sort.grow (redrawn w3 dq) osq = wz at b5 ⊢
  have HZ : Hid (BxS w pb mb ob s wz ∧ ∀ j, j < 0 → ¬ atOther s (R[j]!)) := ⟨HI.out.below b5, fun j hj => absurd hj (Nat.not_lt_zero _)⟩
  clear k0 k1 p0 p1 b5 HI HC e1 e2 e3 e4
  go_wp2_with fail
  go_loopg [11] n (fun gh s11 wx => ∃ i : Nat, gh = n - i ∧ i ≤ n ∧ s11 = .int .i64 (i : Int) ∧ Hid (BxS w pb mb ob s wx ∧ ∀ j, j < i → ¬ atOther s (R[j]!)))
  case atStart => exact ⟨0, rfl, Nat.zero_le _, rfl, HZ⟩
  case round =>
    clear HZ
    obtain ⟨i, hg, hin, rfl, HX⟩ := hrel
    have HG := Lib.hid (And.intro hg hin)
    have x0 : (0 : Int) ≤ (i : Int) := by omega
    have x2 : (i : Int) ≤ 1000 := by omega
    have k2 := (HK.out wr HX.out.1.bel).1
    clear hg
    by_cases hlt : i < n
    · have x1 : (i : Int) < (n : Int) := by omega
      obtain ⟨g, o, rfl, _, z0, z1, z2, _⟩ := (HQ.out.below HX.out.1.bel).item (i := i) (by rw [← HL.out.1]; exact hlt)
      obtain ⟨y, hy⟩ : ∃ y, y = R[i]! := ⟨_, rfl⟩
      rw [← hy] at z0 z1 z2
      have HY := Lib.hid hy
      have HLT := Lib.hid hlt
      clear hy hlt hin
      go_upto_region 6 with (fail)
      replace k2 := cell_regrown k2
      replace z0 := cell_regrown z0
      replace z1 := cell_regrown z1
      replace z2 := cell_regrown z2
      have p0 := cell_regrown (pl_cells HX.out.1.p).1
      have p1 := cell_regrown (pl_cells HX.out.1.p).2.1
      have HSP : Hid (∀ q os, Calls Tryd.prog 12 #[.agg #[.int .i64 y.b, .int .i64 y.p], .agg #[.int .i64 s.b, .int .i64 s.p]] (Sort.grow (redrawn wr q) os) fun e w' => e = .returned (.bool (decide (y.b = s.b) && decide (y.p = s.p))) ∧ ∃ p : Regrown, w' = Sort.grow (redrawn wr p.d) p.os) := fun q os => Calls.regrown_of (samePlace_any y.b y.p s.b s.p _)
      by_cases hk : y.k = s.k
      · have q1 : (y.k != s.k) = false := by simp [hk]
        have HNO : Hid (¬ atOther s y) := fun h => h.1 hk
        clear hk
        refine wp_region_quiet_below (by kernel_rfl) (by kernel_rfl) ?_
        repeat (go_big_quiet_step (first | (go_at_call 12; with_reducible exact HSP.out _ _)))
        refine wpQuiet_nil ?_
        intro _ hw'
        obtain ⟨⟨dq, osq⟩, hw''⟩ := hw'
        subst hw''
        have b5 := below_regrown wr dq osq
        generalize Sort.grow (redrawn wr dq) osq = wy at b5 ⊢
        have HZ := Lib.hid (HX.out.1.below b5)
        clear k2 z0 z1 z2 p0 p1 b5 HSP q1
        have HN2 : Hid (BxS w pb mb ob s wy ∧ ∀ j, j < i + 1 → ¬ atOther s (R[j]!)) := ⟨HZ.out, fun j hj => by
          by_cases e : j = i
          · rw [e, ← HY.out]; exact HNO.out
          · exact HX.out.2 j (by omega)⟩
        clear HX HZ
        go_wp2_with fail
        go_roundg (n - (i + 1))
        case measure => have := HG.out; have := HLT.out; omega
        case rel => exact ⟨i + 1, rfl, HLT.out, by go_num, HN2⟩
      · have q1 : (y.k != s.k) = true := by simp [hk]
        cases hr : (decide (y.b = s.b) && decide (y.p = s.p))
        · have HNO : Hid (¬ atOther s y) := fun h => by
            rw [h.2.1, h.2.2] at hr
            simp at hr
          rw [hr] at HSP
          clear hk hr
          refine wp_region_quiet_below (by kernel_rfl) (by kernel_rfl) ?_
          repeat (go_big_quiet_step (first | (go_at_call 12; with_reducible exact HSP.out _ _)))
          refine wpQuiet_nil ?_
          intro _ hw'
          obtain ⟨⟨dq, osq⟩, hw''⟩ := hw'
          subst hw''
          have b5 := below_regrown wr dq osq
          generalize Sort.grow (redrawn wr dq) osq = wy at b5 ⊢
          have HZ := Lib.hid (HX.out.1.below b5)
          clear k2 z0 z1 z2 p0 p1 b5 HSP q1
          have HN2 : Hid (BxS w pb mb ob s wy ∧ ∀ j, j < i + 1 → ¬ atOther s (R[j]!)) := ⟨HZ.out, fun j hj => by
            by_cases e : j = i
            · rw [e, ← HY.out]; exact HNO.out
            · exact HX.out.2 j (by omega)⟩
          clear HX HZ
          go_wp2_with fail
          go_roundg (n - (i + 1))
          case measure => have := HG.out; have := HLT.out; omega
          case rel => exact ⟨i + 1, rfl, HLT.out, by go_num, HN2⟩
        · have HYES : Hid (∃ j, j < R.length ∧ atOther s (R[j]!)) := ⟨i, by rw [← HL.out.1]; exact HLT.out, by
            rw [← HY.out]
            simp only [Bool.and_eq_true, decide_eq_true_eq] at hr
            exact ⟨hk, hr⟩⟩
          rw [hr] at HSP
          clear hk hr
          refine wp_region_quiet_below (by kernel_rfl) (by kernel_rfl) ?_
          repeat (go_big_quiet_step (first | (go_at_call 12; with_reducible exact HSP.out _ _)))
          refine wpQuiet_nil ?_
          intro _ hw'
          obtain ⟨⟨dq, osq⟩, hw''⟩ := hw'
          subst hw''
          have b5 := below_regrown wr dq osq
          generalize Sort.grow (redrawn wr dq) osq = wy at b5 ⊢
          have HZ := Lib.hid (HX.out.1.below b5)
          clear k2 z0 z1 z2 p0 p1 b5 HSP q1
          obtain ⟨r0, r1, rf⟩ := pl_cells HZ.out.o
          have f0 := rf 0
          have f1 := rf 1
          have hR : ((wy.setCell ⟨ob, 0, none⟩ (.int .i64 0)).setCell ⟨ob, 1, none⟩ (.int .i64 0)).heap[ob]? = some (.cells #[.int .i64 0, .int .i64 0] 24 (0, 0)) := heap_setCell_same _ _ 1 _ _ _ (heap_setCell_same _ _ 0 _ _ _ HZ.out.o)
          have oR : Only ob wy ((wy.setCell ⟨ob, 0, none⟩ (.int .i64 0)).setCell ⟨ob, 1, none⟩ (.int .i64 0)) := (Only.setCell wy ⟨ob, 0, none⟩ _).trans (Only.setCell _ ⟨ob, 1, none⟩ _)
          have HF : Hid (Below w.heap.size w ((wy.setCell ⟨ob, 0, none⟩ (.int .i64 0)).setCell ⟨ob, 1, none⟩ (.int .i64 0))) := HZ.out.bel.trans (oR.below HZ.out.o0)
          have HR := Lib.hid hR
          clear rf hR oR HZ HX
          go_wp2_with fail
          obtain ⟨s0, s1, _⟩ := pl_cells HR.out
          have hF := HF.out
          generalize ((wy.setCell ⟨ob, 0, none⟩ (.int .i64 0)).setCell ⟨ob, 1, none⟩ (.int .i64 0)) = w12 at s0 s1 hF ⊢
          exact bodyPost_ret (v := .tuple #[.agg #[.int .i64 0, .int .i64 0], .bool false, .int .i64 110]) (by simp [results, Tryd.results11, go_sem, s0, s1]) rfl (.inl ⟨HYES.out, rfl, hF⟩)
    · obtain rfl : i = n := by omega
      have HNC : Hid (∀ j, j < R.length → ¬ atOther s (R[j]!)) := by rw [← HL.out.1]; exact HX.out.2
      have HZ := Lib.hid HX.out.1
      clear HX hlt HG
      go_upto_block 2 with (fail)
      clear k2
      go_cut [12] from 80 to 100 (fun s12 wx => ∃ k : Nat, s12 = .int .i64 (k : Int) ∧ insK R s.k k ∧ Hid (BxS w pb mb ob s wx))
      case first =>
        go_wp2_with fail
        go_loopg [12] i (fun gh s12 wx => ∃ k : Nat, gh = i - k ∧ k ≤ i ∧ s12 = .int .i64 (k : Int) ∧ (∀ j, j < k → (R[j]!).k < s.k) ∧ Hid (BxS w pb mb ob s wx))
        case atStart => exact ⟨0, rfl, Nat.zero_le _, rfl, (fun j hj => absurd hj (Nat.not_lt_zero _)), HZ⟩
        case round =>
          clear HZ
          obtain ⟨k, hg, hkn, rfl, hbf, HX⟩ := hrel
          have HG := Lib.hid (And.intro hg hkn)
          have HBF := Lib.hid hbf
          have x0 : (0 : Int) ≤ (k : Int) := by omega
          have x2 : (k : Int) ≤ 1000 := by omega
          have k2 := (HK.out wr HX.out.bel).1
          clear hg hbf
          by_cases hlt : k < i
          · have x1 : (k : Int) < (i : Int) := by omega
            obtain ⟨g, o, rfl, _, z0, _⟩ := (HQ.out.below HX.out.bel).item (i := k) (by rw [← HL.out.1]; exact hlt)
            obtain ⟨y, hy⟩ : ∃ y, y = R[k]! := ⟨_, rfl⟩
            rw [← hy] at z0
            have HY := Lib.hid hy
            have HLT := Lib.hid hlt
            clear hy
            by_cases hk : y.k < s.k
            · have q1 : decide (y.k < s.k) = true := decide_eq_true hk
              have HN2 : Hid (∀ j, j < k + 1 → (R[j]!).k < s.k) := fun j hj => by
                by_cases e : j = k
                · rw [e, ← HY.out]; exact hk
                · exact HBF.out j (by omega)
              go_wp2_with fail
              go_roundg (i - (k + 1))
              case measure => have := HG.out; have := HLT.out; omega
              case rel => exact ⟨k + 1, rfl, HLT.out, by go_num, HN2.out, HX⟩
            · have q1 : decide (y.k < s.k) = false := decide_eq_false hk
              have HIN : Hid (insK R s.k k) := ⟨by rw [← HL.out.1]; exact hkn, HBF.out, fun _ => by rw [← HY.out]; exact hk⟩
              clear hk
              go_wp2_with fail
              go_meet
              case rel => exact ⟨k, rfl, HIN.out, HX⟩
          · obtain rfl : k = i := by omega
            have HIN : Hid (insK R s.k k) := ⟨by rw [← HL.out.1]; exact Nat.le_refl _, HBF.out, fun h => absurd h (by rw [← HL.out.1]; omega)⟩
            go_wp2_with fail
            go_meet
            case rel => exact ⟨k, rfl, HIN.out, HX⟩
      case rest =>
        obtain ⟨k, rfl, hins, HX⟩ := hcut
        have hkn : k ≤ i := by have := hins.1; rw [← HL.out.1] at this; exact this
        have HINS := Lib.hid hins
        obtain ⟨N1, hN1⟩ : ∃ N1, N1 = i + 1 := ⟨_, rfl⟩
        have HN1 := Lib.hid hN1
        have hN1le : N1 ≤ 1001 := by omega
        clear hins hN1 HZ
        have hmk : (Instr.makeSlice 32 (.int .i64 0) (.int .i64 ((i : Int) + 1))).run Tryd.prog wc.drew = .ok (.slice (some ⟨wc.heap.size, 0, none⟩) 0 N1) ((wc.alloc (slotObj N1)).drew) := by
          rw [show (i : Int) + 1 = (N1 : Int) from by have := HN1.out; omega]
          exact madeS wc.drew N1 (by omega)
        have b3 : Below wc.heap.size wc ((wc.alloc (slotObj N1)).drew) := ((Below.refl wc.heap.size wc).alloc (Nat.le_refl _) _).drew
        have eN : IntKind.i64.wrap ((i : Int) + 1) = (i : Int) + 1 := IntWalk.i64_in _ (by omega)
        have x0 : (0 : Int) ≤ (k : Int) := by omega
        have x2 : (k : Int) ≤ 1000 := by omega
        have y1 : k ≤ c := by omega
        have y2 : (k : Int) ≤ (c : Int) := by omega
        have y3 : (k : Int) ≤ (i : Int) := by omega
        have q4 : (i : Int) ≤ (c : Int) := by omega
        cases a with
        | none =>
          have hc0 := HNIL.out rfl
          have q8 : (c : Int) = (k : Int) := by omega
          have hik : i = k := by omega
          have HIK := Lib.hid hik
          clear hc0 hik
          have QW := HQ.out.below HX.out.bel
          have hap := app_slots (W := (wc.alloc (slotObj N1)).drew) (base := wc.heap.size) (h := wc.heap.size) (n := 0) (cap := N1) (xs := []) (madeS_own wc N1 (by omega)) b3.size (R := R.take k) (m := k) (c := c) (a := none) (by rw [List.length_take, ← HL.out.1]; omega) ((srcT_take QW.row k).same fun p hp => by
            obtain ⟨g', o', rfl, _, h2, _⟩ := QW.row.2 p hp
            exact b3.block g' h2) (by omega) 32
          rw [Nat.zero_add, List.nil_append] at hap
          obtain ⟨g1, cap1, w4, hr1, hown1, hg1, _⟩ := hap
          have HBW : Hid (Below wc.heap.size wc w4) := b3.grown hg1 b3.size fun k hk => by cases hk; exact Nat.le_refl _
          have HGE : Hid (wc.heap.size ≤ g1) := (hown1.lt g1 rfl).1
          have HB4 := Lib.hid (HX.out.below HBW.out)
          have k3 := (HK.out _ (HX.out.bel.trans (b3.mono HX.out.bel.size))).1
          have k4 := (HK.out w4 HB4.out.bel).1
          have kd : wc.drew.cell? ⟨xb, 2, none⟩ = some (.slice (none) i c) := (HK.out wc.drew HX.out.bel.drew).1
          have HR1 := Lib.hid hr1
          clear hr1 b3 hg1 QW
          go_upto_region 11 with (fail)
          go_region_held3 (fun w' => w'.cell? ⟨xb, 2, none⟩ = some (.slice (none) i c))
            (first | go_keep | exact k4)
            (refine step_app_run (by rfl) _ _ _ (by rfl) _ _ _ (by rfl) (by rfl) _ HR1.out ?_)
          clear hmk kd k3 k4 eN
          rename_i hheld
          clear hheld
          obtain ⟨p0, p1, _⟩ := pl_cells HB4.out.p
          obtain ⟨c0, c1, c2, c3, c4, c5⟩ := me_cells HB4.out.m
          have b5 : Below wc.heap.size wc (w4.alloc (.cells #[.int .i64 s.k, .int .i64 s.b, .int .i64 s.p, .int .i64 s.m0, .int .i64 s.m1, .int .i64 s.m2, .int .i64 s.m3, .int .i64 s.m4, .int .i64 s.m5] 52 (0, 0))) := HBW.out.alloc HBW.out.size _
          have hown1' : (w4.alloc (.cells #[.int .i64 s.k, .int .i64 s.b, .int .i64 s.p, .int .i64 s.m0, .int .i64 s.m1, .int .i64 s.m2, .int .i64 s.m3, .int .i64 s.m4, .int .i64 s.m5] 52 (0, 0))).ownsRow wc.heap.size 52 9 (.slice (some ⟨g1, 0, none⟩) k cap1) k (scells (R.take k)) := World.ownsRow.alloc hown1 _
          have hap2 := app_slots hown1' b5.size (R := [s]) (m := 1) (c := 1) (a := some ⟨w4.heap.size, 0, none⟩) rfl ⟨(fun e => (nomatch e)), fun p hp => by
            cases hp
            refine ⟨_, 0, rfl, fun j u hj => ?_⟩
            have h := World.news_of_block (cs := #[.int .i64 s.k, .int .i64 s.b, .int .i64 s.p, .int .i64 s.m0, .int .i64 s.m1, .int .i64 s.m2, .int .i64 s.m3, .int .i64 s.m4, .int .i64 s.m5]) (fr := (0, 0)) (t := 52) (heap_alloc_new w4 _) j u (by simpa [scells] using hj)
            rw [add_row] at h
            exact h⟩ (by omega) 32
          obtain ⟨g2, cap2, w6, hr2, hown2, hg2, _⟩ := hap2
          have HR2 := Lib.hid hr2
          have HBW2 : Hid (Below wc.heap.size wc w6) := b5.grown hg2 b5.size fun k hk => by cases hk; exact HGE.out
          have HGE2 : Hid (wc.heap.size ≤ g2 ∧ g2 < w6.heap.size) := hown2.lt g2 rfl
          clear hown1 hown1' hr2 hg2 b5
          go_upto_region 13 with (at_builtin; refine list_app_run rfl _ _ _ rfl (.slice (some ⟨g1, 0, none⟩) k cap1) (.slice (some ⟨w4.heap.size, 0, none⟩) 1 1) _ (by rfl) (by rfl) _ HR2.out ?_)
          clear p0 p1 c0 c1 c2 c3 c4 c5 HR1 HR2 HB4
          have hown7 : (w6.alloc (.cells #[.int .i64 0, .int .i64 0] 24 (0, 0))).ownsRow wc.heap.size 52 9 (.slice (some ⟨g2, 0, none⟩) (k + 1) cap2) (k + 1) (scells (R.take k) ++ scells [s]) := World.ownsRow.alloc hown2 _
          go_upto_region 14 with (fail)
          generalize hw : w6.alloc (.cells #[.int .i64 0, .int .i64 0] 24 (0, 0)) = w7 at hown7
          obtain ⟨J7, b7⟩ := newPl w6 w7 0 0 hw
          clear hw
          obtain ⟨qb, hqb⟩ : ∃ qb, qb = w6.heap.size := ⟨_, rfl⟩
          rw [← hqb] at J7 ⊢
          have HBW7 : Hid (Below wc.heap.size wc w7) := HBW2.out.trans (b7.mono HBW2.out.size)
          have HQB : Hid (g2 ≠ qb ∧ xb ≠ qb ∧ wc.heap.size ≤ qb ∧ ob ≠ qb) := ⟨by have := HGE2.out.2; omega, by have := HQ.out.lt; have := HX.out.bel.size; have := HBW2.out.size; omega, by rw [hqb]; exact HBW2.out.size, by have := lt_of_block HX.out.o; have := HBW2.out.size; omega⟩
          have k7 := (HK.out w7 (HX.out.bel.trans (HBW7.out.mono HX.out.bel.size))).1
          have H7 := Lib.hid (And.intro hown7 J7)
          clear hown2 hown7 J7 b7 hqb HBW2
          have hik := HIK.out
          have d9 : decide ((k : Int) < (i : Int)) = false := decide_eq_false (by omega)
          have d9' : decide (k < i) = false := decide_eq_false (by omega)
          clear hik
          go_upto_region 18 with (fail)
          clear k7 d9 d9'
          have hsrc : SrcT w7 (none) (R.drop k) := by rw [List.drop_eq_nil_of_le (by rw [← HL.out.1]; have := HIK.out; omega)]; exact srcT_none fun p hp => by cases hp
          have hap3 := app_slots H7.out.1 HBW7.out.size (R := R.drop k) (m := i - k) (c := c - k) (a := none) (by rw [List.length_drop, ← HL.out.1]) hsrc (by omega) 32
          obtain ⟨g3, cap3, w9, hr3, hown3, hg3, _⟩ := hap3
          have HR3 := Lib.hid hr3
          have bb : Below wc.heap.size wc w9 := HBW7.out.grown hg3 HBW7.out.size fun k hk => by cases hk; exact HGE2.out.1
          have bw : Below w.heap.size w w9 := HX.out.bel.trans (bb.mono HX.out.bel.size)
          have hown4 := hown3
          rw [← scells_append, ← scells_append, List.append_assoc] at hown4
          have o9 : w9.heap[ob]? = some (.cells #[.int .i64 0, .int .i64 0] 24 (0, 0)) := (bb.block ob (lt_of_block HX.out.o)).trans HX.out.o
          have HF := Lib.hid (tset_fin (R' := R.take k ++ ([s] ++ R.drop k)) (r := (.tuple #[.agg #[.int .i64 0, .int .i64 0], .bool false, .int .i64 0])) HQ.out bw (own_mono HX.out.bel.size hown4) (by simp; rw [← HL.out.1]; omega) o9 HX.out.o0 0 0)
          have f9 : w9.frozen? ⟨xb, 2, none⟩ = false := (HK.out w9 bw).2
          have kX : w7.cell? ⟨xb, 2, none⟩ = some (.slice (none) i c) := (HK.out w7 (HX.out.bel.trans (HBW7.out.mono HX.out.bel.size))).1
          have k9 : w9.cell? ⟨xb, 2, none⟩ = some (.slice (none) i c) := (HK.out w9 bw).1
          have o10 : (w9.setCell ⟨xb, 2, none⟩ (.slice (some ⟨g3, 0, none⟩) (k + 1 + (i - k)) cap3)).heap[ob]? = some (.cells #[.int .i64 0, .int .i64 0] 24 (0, 0)) := ((Only.setCell w9 ⟨xb, 2, none⟩ _).block ob (by have := HQ.out.lt; have := HX.out.o0; show ob ≠ xb; omega)).trans o9
          have q10 : (w9.setCell ⟨xb, 2, none⟩ (.slice (some ⟨g3, 0, none⟩) (k + 1 + (i - k)) cap3)).heap[qb]? = some (.cells #[.int .i64 0, .int .i64 0] 24 (0, 0)) := ((Only.setCell w9 ⟨xb, 2, none⟩ _).block qb (Ne.symm HQB.out.2.1)).trans ((hg3.block qb (lt_of_block H7.out.2) (by simp; exact Ne.symm HQB.out.1)).trans H7.out.2)
          obtain ⟨v0, v1, _⟩ := pl_cells q10
          obtain ⟨r0, r1, rf⟩ := pl_cells o10
          have rf0 := rf 0
          have rf1 := rf 1
          clear hown3 hown4 hg3 hr3 bb bw hsrc o9 q10 o10 rf
          go_wp2_with (at_builtin; refine list_app_run rfl _ _ _ rfl (.slice (some ⟨g2, 0, none⟩) (k + 1) cap2) (.slice (none) (i - k) (c - k)) _ (by rfl) (by rfl) _ HR3.out ?_)
          obtain ⟨s0, s1, _⟩ := pl_cells HF.out.2
          have hF := HF.out.1
          generalize (((w9.setCell ⟨xb, 2, none⟩ (.slice (some ⟨g3, 0, none⟩) (k + 1 + (i - k)) cap3)).setCell ⟨ob, 0, none⟩ (.int .i64 0)).setCell ⟨ob, 1, none⟩ (.int .i64 0)) = w12 at s0 s1 hF ⊢
          exact bodyPost_ret (v := (.tuple #[.agg #[.int .i64 0, .int .i64 0], .bool false, .int .i64 0])) (by simp [results, Tryd.results11, go_sem, s0, s1]) rfl (.inr ⟨HNC.out, k, HINS.out, .inr ⟨fun h => absurd h (by rw [← HL.out.1]; have := HIK.out; omega), hF⟩⟩)
        | some p =>
          obtain ⟨g, o, e, _⟩ := HQ.out.row.2 p rfl
          subst e
          have QW := HQ.out.below HX.out.bel
          have hap := app_slots (W := (wc.alloc (slotObj N1)).drew) (base := wc.heap.size) (h := wc.heap.size) (n := 0) (cap := N1) (xs := []) (madeS_own wc N1 (by omega)) b3.size (R := R.take k) (m := k) (c := c) (a := some ⟨g, o, none⟩) (by rw [List.length_take, ← HL.out.1]; omega) ((srcT_take QW.row k).same fun p hp => by
            obtain ⟨g', o', rfl, _, h2, _⟩ := QW.row.2 p hp
            exact b3.block g' h2) (by omega) 32
          rw [Nat.zero_add, List.nil_append] at hap
          obtain ⟨g1, cap1, w4, hr1, hown1, hg1, _⟩ := hap
          have HBW : Hid (Below wc.heap.size wc w4) := b3.grown hg1 b3.size fun k hk => by cases hk; exact Nat.le_refl _
          have HGE : Hid (wc.heap.size ≤ g1) := (hown1.lt g1 rfl).1
          have HB4 := Lib.hid (HX.out.below HBW.out)
          have k3 := (HK.out _ (HX.out.bel.trans (b3.mono HX.out.bel.size))).1
          have k4 := (HK.out w4 HB4.out.bel).1
          have kd : wc.drew.cell? ⟨xb, 2, none⟩ = some (.slice (some ⟨g, o, none⟩) i c) := (HK.out wc.drew HX.out.bel.drew).1
          have HR1 := Lib.hid hr1
          clear hr1 b3 hg1 QW
          go_upto_region 11 with (fail)
          go_region_held3 (fun w' => w'.cell? ⟨xb, 2, none⟩ = some (.slice (some ⟨g, o, none⟩) i c))
            (first | go_keep | exact k4)
            (refine step_app_run (by rfl) _ _ _ (by rfl) _ _ _ (by rfl) (by rfl) _ HR1.out ?_)
          clear hmk kd k3 k4 eN
          rename_i hheld
          clear hheld
          obtain ⟨p0, p1, _⟩ := pl_cells HB4.out.p
          obtain ⟨c0, c1, c2, c3, c4, c5⟩ := me_cells HB4.out.m
          have b5 : Below wc.heap.size wc (w4.alloc (.cells #[.int .i64 s.k, .int .i64 s.b, .int .i64 s.p, .int .i64 s.m0, .int .i64 s.m1, .int .i64 s.m2, .int .i64 s.m3, .int .i64 s.m4, .int .i64 s.m5] 52 (0, 0))) := HBW.out.alloc HBW.out.size _
          have hown1' : (w4.alloc (.cells #[.int .i64 s.k, .int .i64 s.b, .int .i64 s.p, .int .i64 s.m0, .int .i64 s.m1, .int .i64 s.m2, .int .i64 s.m3, .int .i64 s.m4, .int .i64 s.m5] 52 (0, 0))).ownsRow wc.heap.size 52 9 (.slice (some ⟨g1, 0, none⟩) k cap1) k (scells (R.take k)) := World.ownsRow.alloc hown1 _
          have hap2 := app_slots hown1' b5.size (R := [s]) (m := 1) (c := 1) (a := some ⟨w4.heap.size, 0, none⟩) rfl ⟨(fun e => (nomatch e)), fun p hp => by
            cases hp
            refine ⟨_, 0, rfl, fun j u hj => ?_⟩
            have h := World.news_of_block (cs := #[.int .i64 s.k, .int .i64 s.b, .int .i64 s.p, .int .i64 s.m0, .int .i64 s.m1, .int .i64 s.m2, .int .i64 s.m3, .int .i64 s.m4, .int .i64 s.m5]) (fr := (0, 0)) (t := 52) (heap_alloc_new w4 _) j u (by simpa [scells] using hj)
            rw [add_row] at h
            exact h⟩ (by omega) 32
          obtain ⟨g2, cap2, w6, hr2, hown2, hg2, _⟩ := hap2
          have HR2 := Lib.hid hr2
          have HBW2 : Hid (Below wc.heap.size wc w6) := b5.grown hg2 b5.size fun k hk => by cases hk; exact HGE.out
          have HGE2 : Hid (wc.heap.size ≤ g2 ∧ g2 < w6.heap.size) := hown2.lt g2 rfl
          clear hown1 hown1' hr2 hg2 b5
          go_upto_region 13 with (at_builtin; refine list_app_run rfl _ _ _ rfl (.slice (some ⟨g1, 0, none⟩) k cap1) (.slice (some ⟨w4.heap.size, 0, none⟩) 1 1) _ (by rfl) (by rfl) _ HR2.out ?_)
          clear p0 p1 c0 c1 c2 c3 c4 c5 HR1 HR2 HB4
          have hown7 : (w6.alloc (.cells #[.int .i64 0, .int .i64 0] 24 (0, 0))).ownsRow wc.heap.size 52 9 (.slice (some ⟨g2, 0, none⟩) (k + 1) cap2) (k + 1) (scells (R.take k) ++ scells [s]) := World.ownsRow.alloc hown2 _
          go_upto_region 14 with (fail)
          generalize hw : w6.alloc (.cells #[.int .i64 0, .int .i64 0] 24 (0, 0)) = w7 at hown7
          obtain ⟨J7, b7⟩ := newPl w6 w7 0 0 hw
          clear hw
          obtain ⟨qb, hqb⟩ : ∃ qb, qb = w6.heap.size := ⟨_, rfl⟩
          rw [← hqb] at J7 ⊢
          have HBW7 : Hid (Below wc.heap.size wc w7) := HBW2.out.trans (b7.mono HBW2.out.size)
          have HQB : Hid (g2 ≠ qb ∧ xb ≠ qb ∧ wc.heap.size ≤ qb ∧ ob ≠ qb) := ⟨by have := HGE2.out.2; omega, by have := HQ.out.lt; have := HX.out.bel.size; have := HBW2.out.size; omega, by rw [hqb]; exact HBW2.out.size, by have := lt_of_block HX.out.o; have := HBW2.out.size; omega⟩
          have k7 := (HK.out w7 (HX.out.bel.trans (HBW7.out.mono HX.out.bel.size))).1
          have H7 := Lib.hid (And.intro hown7 J7)
          clear hown2 hown7 J7 b7 hqb HBW2
          by_cases hki : k < i
          · have x1 : (k : Int) < (i : Int) := by omega
            obtain ⟨g', o', e, _, z0, z1, z2, _⟩ := (HQ.out.below (HX.out.bel.trans (HBW7.out.mono HX.out.bel.size))).item (i := k) (by rw [← HL.out.1]; exact hki)
            cases e
            obtain ⟨y, hy⟩ : ∃ y, y = R[k]! := ⟨_, rfl⟩
            rw [← hy] at z0 z1 z2
            have HY := Lib.hid hy
            clear hy
            by_cases hk : y.k = s.k
            · have q1 : (y.k == s.k) = true := by simp [hk]
              have HKK : Hid ((R[k]!).k = s.k) := by rw [← HY.out]; exact hk
              obtain ⟨j, hj⟩ : ∃ j, j = k + 1 := ⟨_, rfl⟩
              have w8h : ((w7.setCell ⟨qb, 0, none⟩ (.int .i64 y.b)).setCell ⟨qb, 1, none⟩ (.int .i64 y.p)).heap[qb]? = some (.cells #[.int .i64 y.b, .int .i64 y.p] 24 (0, 0)) := heap_setCell_same _ _ 1 _ _ _ (heap_setCell_same _ _ 0 _ _ _ H7.out.2)
              have o8 : Only qb w7 ((w7.setCell ⟨qb, 0, none⟩ (.int .i64 y.b)).setCell ⟨qb, 1, none⟩ (.int .i64 y.p)) := (Only.setCell w7 ⟨qb, 0, none⟩ _).trans (Only.setCell _ ⟨qb, 1, none⟩ _)
              have hown8 : ((w7.setCell ⟨qb, 0, none⟩ (.int .i64 y.b)).setCell ⟨qb, 1, none⟩ (.int .i64 y.p)).ownsRow wc.heap.size 52 9 (.slice (some ⟨g2, 0, none⟩) (k + 1) cap2) (k + 1) (scells (R.take k) ++ scells [s]) := by
                refine ⟨H7.out.1.1, ?_⟩
                rcases H7.out.1.2 with ⟨h0, _⟩ | ⟨g9, cap9, cur, e1, e2, e3, e4⟩
                · cases h0
                · cases e1
                  exact .inr ⟨_, _, cur, rfl, e2, (o8.block _ HQB.out.1).trans e3, e4⟩
              have HBW8 : Hid (Below wc.heap.size wc ((w7.setCell ⟨qb, 0, none⟩ (.int .i64 y.b)).setCell ⟨qb, 1, none⟩ (.int .i64 y.p))) := HBW7.out.trans (o8.below HQB.out.2.2.1)
              have H8 := Lib.hid (And.intro hown8 w8h)
              obtain ⟨t0, t1, tf⟩ := pl_cells H7.out.2
              have tf0 := tf 0
              have tf1 := tf 1
              clear w8h o8 hown8 tf
              have HJ : Hid (j = k + 1 ∧ k < i) := ⟨hj, hki⟩
              clear hj
              go_upto_region 18 with (fail)
              rw [← HJ.out.1] at H8 ⊢
              rw [show (k : Int) + 1 = (j : Int) from by have := HJ.out.1; omega]
              generalize ((w7.setCell ⟨qb, 0, none⟩ (.int .i64 y.b)).setCell ⟨qb, 1, none⟩ (.int .i64 y.p)) = w8 at H8 HBW8 ⊢
              clear k7 z0 z1 z2 t0 t1 tf0 tf1 q1 hk H7 HBW7
              have hj := HJ.out.1
              have e2 : (j : Int) ≤ (i : Int) := by omega
              have e3 : (0 : Int) ≤ (j : Int) := by omega
              have e4 : (j : Int) ≤ (c : Int) := by omega
              have e7 : j ≤ c := by omega
              clear hj hki x1
              by_cases hcj : c = j
              · have q8 : (c : Int) = (j : Int) := by omega
                have HIJ := Lib.hid (show i = j by have := HJ.out; omega)
                clear hcj
                have hsrc : SrcT w8 (some ⟨g, o, none⟩) (R.drop j) := by rw [List.drop_eq_nil_of_le (by rw [← HL.out.1]; have := HIJ.out; omega)]; exact srcT_none fun p hp => by cases hp; exact ⟨g, o, rfl⟩
                have hap3 := app_slots H8.out.1 HBW8.out.size (R := R.drop j) (m := i - j) (c := c - j) (a := some ⟨g, o, none⟩) (by rw [List.length_drop, ← HL.out.1]) hsrc (by omega) 32
                obtain ⟨g3, cap3, w9, hr3, hown3, hg3, _⟩ := hap3
                have HR3 := Lib.hid hr3
                have bb : Below wc.heap.size wc w9 := HBW8.out.grown hg3 HBW8.out.size fun k hk => by cases hk; exact HGE2.out.1
                have bw : Below w.heap.size w w9 := HX.out.bel.trans (bb.mono HX.out.bel.size)
                have hown4 := hown3
                rw [← scells_append, ← scells_append, List.append_assoc] at hown4
                have o9 : w9.heap[ob]? = some (.cells #[.int .i64 0, .int .i64 0] 24 (0, 0)) := (bb.block ob (lt_of_block HX.out.o)).trans HX.out.o
                have HF := Lib.hid (tset_fin (R' := R.take k ++ ([s] ++ R.drop j)) (r := (.tuple #[.agg #[.int .i64 y.b, .int .i64 y.p], .bool true, .int .i64 0])) HQ.out bw (own_mono HX.out.bel.size hown4) (by simp; rw [← HL.out.1]; have := HJ.out; omega) o9 HX.out.o0 y.b y.p)
                have f9 : w9.frozen? ⟨xb, 2, none⟩ = false := (HK.out w9 bw).2
                have kX : w8.cell? ⟨xb, 2, none⟩ = some (.slice (some ⟨g, o, none⟩) i c) := (HK.out w8 (HX.out.bel.trans (HBW8.out.mono HX.out.bel.size))).1
                have k9 : w9.cell? ⟨xb, 2, none⟩ = some (.slice (some ⟨g, o, none⟩) i c) := (HK.out w9 bw).1
                have o10 : (w9.setCell ⟨xb, 2, none⟩ (.slice (some ⟨g3, 0, none⟩) (j + (i - j)) cap3)).heap[ob]? = some (.cells #[.int .i64 0, .int .i64 0] 24 (0, 0)) := ((Only.setCell w9 ⟨xb, 2, none⟩ _).block ob (by have := HQ.out.lt; have := HX.out.o0; show ob ≠ xb; omega)).trans o9
                have q10 : (w9.setCell ⟨xb, 2, none⟩ (.slice (some ⟨g3, 0, none⟩) (j + (i - j)) cap3)).heap[qb]? = some (.cells #[.int .i64 y.b, .int .i64 y.p] 24 (0, 0)) := ((Only.setCell w9 ⟨xb, 2, none⟩ _).block qb (Ne.symm HQB.out.2.1)).trans ((hg3.block qb (lt_of_block H8.out.2) (by simp; exact Ne.symm HQB.out.1)).trans H8.out.2)
                obtain ⟨v0, v1, _⟩ := pl_cells q10
                obtain ⟨r0, r1, rf⟩ := pl_cells o10
                have rf0 := rf 0
                have rf1 := rf 1
                clear hown3 hown4 hg3 hr3 bb bw hsrc o9 q10 o10 rf
                go_wp2_with (at_builtin; refine list_app_run rfl _ _ _ rfl (.slice (some ⟨g2, 0, none⟩) (j) cap2) (.slice (some ⟨g, o, none⟩) (i - j) (c - j)) _ (by rfl) (by rfl) _ HR3.out ?_)
                obtain ⟨s0, s1, _⟩ := pl_cells HF.out.2
                have hF := HF.out.1
                generalize (((w9.setCell ⟨xb, 2, none⟩ (.slice (some ⟨g3, 0, none⟩) (j + (i - j)) cap3)).setCell ⟨ob, 0, none⟩ (.int .i64 y.b)).setCell ⟨ob, 1, none⟩ (.int .i64 y.p)) = w12 at s0 s1 hF ⊢
                exact bodyPost_ret (v := (.tuple #[.agg #[.int .i64 y.b, .int .i64 y.p], .bool true, .int .i64 0])) (by simp [results, Tryd.results11, go_sem, s0, s1]) rfl (.inr ⟨HNC.out, k, HINS.out, .inl ⟨by rw [← HL.out.1]; exact HJ.out.2, HKK.out, by have h := hF; rw [HJ.out.1] at h; rw [← HY.out]; exact h⟩⟩)
              · have q8 : ¬ ((c : Int) = (j : Int)) := by omega
                have hsrc : SrcT w8 (some ⟨g, o + j * 9, none⟩) (R.drop j) := (srcT_drop HQ.out.row j).same fun p hp => by cases hp; obtain ⟨g1, o1, e, _, h2, _⟩ := HQ.out.row.2 _ rfl; cases e; exact (HX.out.bel.trans (HBW8.out.mono HX.out.bel.size)).block g h2
                have hap3 := app_slots H8.out.1 HBW8.out.size (R := R.drop j) (m := i - j) (c := c - j) (a := some ⟨g, o + j * 9, none⟩) (by rw [List.length_drop, ← HL.out.1]) hsrc (by omega) 32
                obtain ⟨g3, cap3, w9, hr3, hown3, hg3, _⟩ := hap3
                have HR3 := Lib.hid hr3
                have bb : Below wc.heap.size wc w9 := HBW8.out.grown hg3 HBW8.out.size fun k hk => by cases hk; exact HGE2.out.1
                have bw : Below w.heap.size w w9 := HX.out.bel.trans (bb.mono HX.out.bel.size)
                have hown4 := hown3
                rw [← scells_append, ← scells_append, List.append_assoc] at hown4
                have o9 : w9.heap[ob]? = some (.cells #[.int .i64 0, .int .i64 0] 24 (0, 0)) := (bb.block ob (lt_of_block HX.out.o)).trans HX.out.o
                have HF := Lib.hid (tset_fin (R' := R.take k ++ ([s] ++ R.drop j)) (r := (.tuple #[.agg #[.int .i64 y.b, .int .i64 y.p], .bool true, .int .i64 0])) HQ.out bw (own_mono HX.out.bel.size hown4) (by simp; rw [← HL.out.1]; have := HJ.out; omega) o9 HX.out.o0 y.b y.p)
                have f9 : w9.frozen? ⟨xb, 2, none⟩ = false := (HK.out w9 bw).2
                have kX : w8.cell? ⟨xb, 2, none⟩ = some (.slice (some ⟨g, o, none⟩) i c) := (HK.out w8 (HX.out.bel.trans (HBW8.out.mono HX.out.bel.size))).1
                have k9 : w9.cell? ⟨xb, 2, none⟩ = some (.slice (some ⟨g, o, none⟩) i c) := (HK.out w9 bw).1
                have o10 : (w9.setCell ⟨xb, 2, none⟩ (.slice (some ⟨g3, 0, none⟩) (j + (i - j)) cap3)).heap[ob]? = some (.cells #[.int .i64 0, .int .i64 0] 24 (0, 0)) := ((Only.setCell w9 ⟨xb, 2, none⟩ _).block ob (by have := HQ.out.lt; have := HX.out.o0; show ob ≠ xb; omega)).trans o9
                have q10 : (w9.setCell ⟨xb, 2, none⟩ (.slice (some ⟨g3, 0, none⟩) (j + (i - j)) cap3)).heap[qb]? = some (.cells #[.int .i64 y.b, .int .i64 y.p] 24 (0, 0)) := ((Only.setCell w9 ⟨xb, 2, none⟩ _).block qb (Ne.symm HQB.out.2.1)).trans ((hg3.block qb (lt_of_block H8.out.2) (by simp; exact Ne.symm HQB.out.1)).trans H8.out.2)
                obtain ⟨v0, v1, _⟩ := pl_cells q10
                obtain ⟨r0, r1, rf⟩ := pl_cells o10
                have rf0 := rf 0
                have rf1 := rf 1
                clear hown3 hown4 hg3 hr3 bb bw hsrc o9 q10 o10 rf
                go_wp2_with (at_builtin; refine list_app_run rfl _ _ _ rfl (.slice (some ⟨g2, 0, none⟩) (j) cap2) (.slice (some ⟨g, o + j * 9, none⟩) (i - j) (c - j)) _ (by rfl) (by rfl) _ HR3.out ?_)
                obtain ⟨s0, s1, _⟩ := pl_cells HF.out.2
                have hF := HF.out.1
                generalize (((w9.setCell ⟨xb, 2, none⟩ (.slice (some ⟨g3, 0, none⟩) (j + (i - j)) cap3)).setCell ⟨ob, 0, none⟩ (.int .i64 y.b)).setCell ⟨ob, 1, none⟩ (.int .i64 y.p)) = w12 at s0 s1 hF ⊢
                exact bodyPost_ret (v := (.tuple #[.agg #[.int .i64 y.b, .int .i64 y.p], .bool true, .int .i64 0])) (by simp [results, Tryd.results11, go_sem, s0, s1]) rfl (.inr ⟨HNC.out, k, HINS.out, .inl ⟨by rw [← HL.out.1]; exact HJ.out.2, HKK.out, by have h := hF; rw [HJ.out.1] at h; rw [← HY.out]; exact h⟩⟩)
            · have q1 : (y.k == s.k) = false := by simp [hk]
              have HKK : Hid ((R[k]!).k ≠ s.k) := by rw [← HY.out]; exact hk
              go_upto_region 18 with (fail)
              clear k7 z0 z1 z2 q1 hk
              have q8 : ¬ ((c : Int) = (k : Int)) := by omega
              have q9 : ¬ (c = k) := by omega
              have hsrc : SrcT w7 (some ⟨g, o + k * 9, none⟩) (R.drop k) := (srcT_drop HQ.out.row k).same fun p hp => by cases hp; obtain ⟨g1, o1, e, _, h2, _⟩ := HQ.out.row.2 _ rfl; cases e; exact (HX.out.bel.trans (HBW7.out.mono HX.out.bel.size)).block g h2
              have hap3 := app_slots H7.out.1 HBW7.out.size (R := R.drop k) (m := i - k) (c := c - k) (a := some ⟨g, o + k * 9, none⟩) (by rw [List.length_drop, ← HL.out.1]) hsrc (by omega) 32
              obtain ⟨g3, cap3, w9, hr3, hown3, hg3, _⟩ := hap3
              have HR3 := Lib.hid hr3
              have bb : Below wc.heap.size wc w9 := HBW7.out.grown hg3 HBW7.out.size fun k hk => by cases hk; exact HGE2.out.1
              have bw : Below w.heap.size w w9 := HX.out.bel.trans (bb.mono HX.out.bel.size)
              have hown4 := hown3
              rw [← scells_append, ← scells_append, List.append_assoc] at hown4
              have o9 : w9.heap[ob]? = some (.cells #[.int .i64 0, .int .i64 0] 24 (0, 0)) := (bb.block ob (lt_of_block HX.out.o)).trans HX.out.o
              have HF := Lib.hid (tset_fin (R' := R.take k ++ ([s] ++ R.drop k)) (r := (.tuple #[.agg #[.int .i64 0, .int .i64 0], .bool false, .int .i64 0])) HQ.out bw (own_mono HX.out.bel.size hown4) (by simp; rw [← HL.out.1]; omega) o9 HX.out.o0 0 0)
              have f9 : w9.frozen? ⟨xb, 2, none⟩ = false := (HK.out w9 bw).2
              have kX : w7.cell? ⟨xb, 2, none⟩ = some (.slice (some ⟨g, o, none⟩) i c) := (HK.out w7 (HX.out.bel.trans (HBW7.out.mono HX.out.bel.size))).1
              have k9 : w9.cell? ⟨xb, 2, none⟩ = some (.slice (some ⟨g, o, none⟩) i c) := (HK.out w9 bw).1
              have o10 : (w9.setCell ⟨xb, 2, none⟩ (.slice (some ⟨g3, 0, none⟩) (k + 1 + (i - k)) cap3)).heap[ob]? = some (.cells #[.int .i64 0, .int .i64 0] 24 (0, 0)) := ((Only.setCell w9 ⟨xb, 2, none⟩ _).block ob (by have := HQ.out.lt; have := HX.out.o0; show ob ≠ xb; omega)).trans o9
              have q10 : (w9.setCell ⟨xb, 2, none⟩ (.slice (some ⟨g3, 0, none⟩) (k + 1 + (i - k)) cap3)).heap[qb]? = some (.cells #[.int .i64 0, .int .i64 0] 24 (0, 0)) := ((Only.setCell w9 ⟨xb, 2, none⟩ _).block qb (Ne.symm HQB.out.2.1)).trans ((hg3.block qb (lt_of_block H7.out.2) (by simp; exact Ne.symm HQB.out.1)).trans H7.out.2)
              obtain ⟨v0, v1, _⟩ := pl_cells q10
              obtain ⟨r0, r1, rf⟩ := pl_cells o10
              have rf0 := rf 0
              have rf1 := rf 1
              clear hown3 hown4 hg3 hr3 bb bw hsrc o9 q10 o10 rf
              go_wp2_with (at_builtin; refine list_app_run rfl _ _ _ rfl (.slice (some ⟨g2, 0, none⟩) (k + 1) cap2) (.slice (some ⟨g, o + k * 9, none⟩) (i - k) (c - k)) _ (by rfl) (by rfl) _ HR3.out ?_)
              obtain ⟨s0, s1, _⟩ := pl_cells HF.out.2
              have hF := HF.out.1
              generalize (((w9.setCell ⟨xb, 2, none⟩ (.slice (some ⟨g3, 0, none⟩) (k + 1 + (i - k)) cap3)).setCell ⟨ob, 0, none⟩ (.int .i64 0)).setCell ⟨ob, 1, none⟩ (.int .i64 0)) = w12 at s0 s1 hF ⊢
              exact bodyPost_ret (v := (.tuple #[.agg #[.int .i64 0, .int .i64 0], .bool false, .int .i64 0])) (by simp [results, Tryd.results11, go_sem, s0, s1]) rfl (.inr ⟨HNC.out, k, HINS.out, .inr ⟨fun _ => HKK.out, hF⟩⟩)
          · have hik : i = k := by omega
            have HIK := Lib.hid hik
            have d9 : decide ((k : Int) < (i : Int)) = false := decide_eq_false (by omega)
            have d9' : decide (k < i) = false := decide_eq_false (by omega)
            clear hik
            go_upto_region 18 with (fail)
            clear k7 d9 d9'
            by_cases hck : c = k
            · have q8 : (c : Int) = (k : Int) := by omega
              clear hck
              have hsrc : SrcT w7 (some ⟨g, o, none⟩) (R.drop k) := by rw [List.drop_eq_nil_of_le (by rw [← HL.out.1]; have := HIK.out; omega)]; exact srcT_none fun p hp => by cases hp; exact ⟨g, o, rfl⟩
              have hap3 := app_slots H7.out.1 HBW7.out.size (R := R.drop k) (m := i - k) (c := c - k) (a := some ⟨g, o, none⟩) (by rw [List.length_drop, ← HL.out.1]) hsrc (by omega) 32
              obtain ⟨g3, cap3, w9, hr3, hown3, hg3, _⟩ := hap3
              have HR3 := Lib.hid hr3
              have bb : Below wc.heap.size wc w9 := HBW7.out.grown hg3 HBW7.out.size fun k hk => by cases hk; exact HGE2.out.1
              have bw : Below w.heap.size w w9 := HX.out.bel.trans (bb.mono HX.out.bel.size)
              have hown4 := hown3
              rw [← scells_append, ← scells_append, List.append_assoc] at hown4
              have o9 : w9.heap[ob]? = some (.cells #[.int .i64 0, .int .i64 0] 24 (0, 0)) := (bb.block ob (lt_of_block HX.out.o)).trans HX.out.o
              have HF := Lib.hid (tset_fin (R' := R.take k ++ ([s] ++ R.drop k)) (r := (.tuple #[.agg #[.int .i64 0, .int .i64 0], .bool false, .int .i64 0])) HQ.out bw (own_mono HX.out.bel.size hown4) (by simp; rw [← HL.out.1]; omega) o9 HX.out.o0 0 0)
              have f9 : w9.frozen? ⟨xb, 2, none⟩ = false := (HK.out w9 bw).2
              have kX : w7.cell? ⟨xb, 2, none⟩ = some (.slice (some ⟨g, o, none⟩) i c) := (HK.out w7 (HX.out.bel.trans (HBW7.out.mono HX.out.bel.size))).1
              have k9 : w9.cell? ⟨xb, 2, none⟩ = some (.slice (some ⟨g, o, none⟩) i c) := (HK.out w9 bw).1
              have o10 : (w9.setCell ⟨xb, 2, none⟩ (.slice (some ⟨g3, 0, none⟩) (k + 1 + (i - k)) cap3)).heap[ob]? = some (.cells #[.int .i64 0, .int .i64 0] 24 (0, 0)) := ((Only.setCell w9 ⟨xb, 2, none⟩ _).block ob (by have := HQ.out.lt; have := HX.out.o0; show ob ≠ xb; omega)).trans o9
              have q10 : (w9.setCell ⟨xb, 2, none⟩ (.slice (some ⟨g3, 0, none⟩) (k + 1 + (i - k)) cap3)).heap[qb]? = some (.cells #[.int .i64 0, .int .i64 0] 24 (0, 0)) := ((Only.setCell w9 ⟨xb, 2, none⟩ _).block qb (Ne.symm HQB.out.2.1)).trans ((hg3.block qb (lt_of_block H7.out.2) (by simp; exact Ne.symm HQB.out.1)).trans H7.out.2)
              obtain ⟨v0, v1, _⟩ := pl_cells q10
              obtain ⟨r0, r1, rf⟩ := pl_cells o10
              have rf0 := rf 0
              have rf1 := rf 1
              clear hown3 hown4 hg3 hr3 bb bw hsrc o9 q10 o10 rf
              go_wp2_with (at_builtin; refine list_app_run rfl _ _ _ rfl (.slice (some ⟨g2, 0, none⟩) (k + 1) cap2) (.slice (some ⟨g, o, none⟩) (i - k) (c - k)) _ (by rfl) (by rfl) _ HR3.out ?_)
              obtain ⟨s0, s1, _⟩ := pl_cells HF.out.2
              have hF := HF.out.1
              generalize (((w9.setCell ⟨xb, 2, none⟩ (.slice (some ⟨g3, 0, none⟩) (k + 1 + (i - k)) cap3)).setCell ⟨ob, 0, none⟩ (.int .i64 0)).setCell ⟨ob, 1, none⟩ (.int .i64 0)) = w12 at s0 s1 hF ⊢
              exact bodyPost_ret (v := (.tuple #[.agg #[.int .i64 0, .int .i64 0], .bool false, .int .i64 0])) (by simp [results, Tryd.results11, go_sem, s0, s1]) rfl (.inr ⟨HNC.out, k, HINS.out, .inr ⟨fun h => absurd h (by rw [← HL.out.1]; have := HIK.out; omega), hF⟩⟩)
            · have q8 : ¬ ((c : Int) = (k : Int)) := by omega
              have hsrc : SrcT w7 (some ⟨g, o + k * 9, none⟩) (R.drop k) := (srcT_drop HQ.out.row k).same fun p hp => by cases hp; obtain ⟨g1, o1, e, _, h2, _⟩ := HQ.out.row.2 _ rfl; cases e; exact (HX.out.bel.trans (HBW7.out.mono HX.out.bel.size)).block g h2
              have hap3 := app_slots H7.out.1 HBW7.out.size (R := R.drop k) (m := i - k) (c := c - k) (a := some ⟨g, o + k * 9, none⟩) (by rw [List.length_drop, ← HL.out.1]) hsrc (by omega) 32
              obtain ⟨g3, cap3, w9, hr3, hown3, hg3, _⟩ := hap3
              have HR3 := Lib.hid hr3
              have bb : Below wc.heap.size wc w9 := HBW7.out.grown hg3 HBW7.out.size fun k hk => by cases hk; exact HGE2.out.1
              have bw : Below w.heap.size w w9 := HX.out.bel.trans (bb.mono HX.out.bel.size)
              have hown4 := hown3
              rw [← scells_append, ← scells_append, List.append_assoc] at hown4
              have o9 : w9.heap[ob]? = some (.cells #[.int .i64 0, .int .i64 0] 24 (0, 0)) := (bb.block ob (lt_of_block HX.out.o)).trans HX.out.o
              have HF := Lib.hid (tset_fin (R' := R.take k ++ ([s] ++ R.drop k)) (r := (.tuple #[.agg #[.int .i64 0, .int .i64 0], .bool false, .int .i64 0])) HQ.out bw (own_mono HX.out.bel.size hown4) (by simp; rw [← HL.out.1]; omega) o9 HX.out.o0 0 0)
              have f9 : w9.frozen? ⟨xb, 2, none⟩ = false := (HK.out w9 bw).2
              have kX : w7.cell? ⟨xb, 2, none⟩ = some (.slice (some ⟨g, o, none⟩) i c) := (HK.out w7 (HX.out.bel.trans (HBW7.out.mono HX.out.bel.size))).1
              have k9 : w9.cell? ⟨xb, 2, none⟩ = some (.slice (some ⟨g, o, none⟩) i c) := (HK.out w9 bw).1
              have o10 : (w9.setCell ⟨xb, 2, none⟩ (.slice (some ⟨g3, 0, none⟩) (k + 1 + (i - k)) cap3)).heap[ob]? = some (.cells #[.int .i64 0, .int .i64 0] 24 (0, 0)) := ((Only.setCell w9 ⟨xb, 2, none⟩ _).block ob (by have := HQ.out.lt; have := HX.out.o0; show ob ≠ xb; omega)).trans o9
              have q10 : (w9.setCell ⟨xb, 2, none⟩ (.slice (some ⟨g3, 0, none⟩) (k + 1 + (i - k)) cap3)).heap[qb]? = some (.cells #[.int .i64 0, .int .i64 0] 24 (0, 0)) := ((Only.setCell w9 ⟨xb, 2, none⟩ _).block qb (Ne.symm HQB.out.2.1)).trans ((hg3.block qb (lt_of_block H7.out.2) (by simp; exact Ne.symm HQB.out.1)).trans H7.out.2)
              obtain ⟨v0, v1, _⟩ := pl_cells q10
              obtain ⟨r0, r1, rf⟩ := pl_cells o10
              have rf0 := rf 0
              have rf1 := rf 1
              clear hown3 hown4 hg3 hr3 bb bw hsrc o9 q10 o10 rf
              go_wp2_with (at_builtin; refine list_app_run rfl _ _ _ rfl (.slice (some ⟨g2, 0, none⟩) (k + 1) cap2) (.slice (some ⟨g, o + k * 9, none⟩) (i - k) (c - k)) _ (by rfl) (by rfl) _ HR3.out ?_)
              obtain ⟨s0, s1, _⟩ := pl_cells HF.out.2
              have hF := HF.out.1
              generalize (((w9.setCell ⟨xb, 2, none⟩ (.slice (some ⟨g3, 0, none⟩) (k + 1 + (i - k)) cap3)).setCell ⟨ob, 0, none⟩ (.int .i64 0)).setCell ⟨ob, 1, none⟩ (.int .i64 0)) = w12 at s0 s1 hF ⊢
              exact bodyPost_ret (v := (.tuple #[.agg #[.int .i64 0, .int .i64 0], .bool false, .int .i64 0])) (by simp [results, Tryd.results11, go_sem, s0, s1]) rfl (.inr ⟨HNC.out, k, HINS.out, .inr ⟨fun h => absurd h (by rw [← HL.out.1]; have := HIK.out; omega), hF⟩⟩)
end Go.Proofs.YtpbckjagiebmjaaDoor.Tb
/- A row of slots, sorted by the library. By the verifier of shale. -/
namespace Go.Proofs.YtpbckjagiebmjaaDoor.Tb
open Go Go.RowKit Go.Sort Go.Shelf Go.Lib
set_option linter.unusedVariables false
set_option linter.unusedSimpArgs false
theorem flat_eq (L : List Sl) : flatK slC 9 L.toArray = (scells L).toArray := by
  apply Array.ext
  · rw [size_flatK]; simp [scells_len]
  · intro t h1 h2
    rw [size_flatK] at h1
    have h1' : t < L.length * 9 := by simpa using h1
    have hg := get_flatK slC 9 L.toArray t h1
    have e := scells_get L (t / 9) (t % 9) (by omega) (by omega)
    rw [show t / 9 * 9 + t % 9 = t by omega] at e
    have h3 : (scells L)[t]? = some ((scells L)[t]'(by simpa using h2)) := List.getElem?_eq_getElem _
    rw [h3] at e
    have hc9 : t % 9 < (slC L[t / 9]!).length := by simp; omega
    rw [List.getElem?_eq_getElem hc9] at e
    have e2 := Option.some.inj e
    rw [getElem!_pos _ t (by rw [size_flatK]; exact h1)] at hg
    rw [hg, List.getElem_toArray, e2]
    rw [show (L.toArray)[t / 9]! = L[t / 9]! by simp]
    rw [getElem!_pos _ (t % 9) hc9]
theorem heap_sortedF {w : World} {g n : Nat} {os : Array Obj} {cur : Array Value} {e : TypeId} {fr : Nat × Nat} (d : Array Value) (hb : w.heap[g]? = some (.cells cur e fr)) :
    (grow (putRow id (Sort.ahead w n) g 0 d) os).heap[g]? = some (.cells (putCells id 0 d cur) e fr) := by
  have hg : g < w.heap.size := (Array.getElem?_eq_some_iff.1 hb).1
  rw [heap_grow_old _ _ (by simpa using hg)]
  simp [putRow, mapBlock, Sort.ahead, Array.getElem?_modify, hb, onCells]
theorem grownBy_sortedF {w : World} {g n : Nat} {os : Array Obj} (d : Array Value) : w.grownBy (grow (putRow id (Sort.ahead w n) g 0 d) os) (some g) := by
  refine ⟨rfl, rfl, rfl, by simp, fun k hk hne => ?_⟩
  rw [heap_grow_old _ _ (by simpa using hk)]
  have : g ≠ k := fun e => hne (by rw [e])
  simp [putRow, mapBlock, Sort.ahead, Array.getElem?_modify, this]
theorem take_putCellsF (cur : Array Value) (ts : List Value) (h : ts.length ≤ cur.size) : (putCells id 0 ts.toArray cur).toList.take ts.length = ts := by
  apply List.ext_getElem?
  intro j
  by_cases hj : j < ts.length
  · rw [List.getElem?_take_of_lt hj, Array.getElem?_toList]
    simp [putCells, hj, show j < cur.size by omega]
  · rw [List.getElem?_take_eq_none (by omega), List.getElem?_eq_none (by omega)]
theorem holds_of_blockF {w : World} {g : Nat} {cur : Array Value} {e : TypeId} {ss : List Value} (hb : w.heap[g]? = some (.cells cur e (0, 0))) (ht : cur.toList.take ss.length = ss) : Holds id w g 0 ss.toArray := by
  intro j hj
  have hj' : j < ss.length := by simpa using hj
  refine ⟨?_, by simp [World.frozen?, hb]⟩
  have h1 : (cur.toList.take ss.length)[j]? = ss[j]? := by rw [ht]
  rw [List.getElem?_take_of_lt hj'] at h1
  simp only [World.cell?, hb, Nat.zero_add]
  simp only [Option.isSome_none, Bool.false_eq_true, if_false]
  rw [← Array.getElem?_toList, h1]
  simp [hj']
theorem ltI (f : Sl → Int) (x y : Sl) : ltOf (fun x y : Sl => cmpI (f x) (f y)) x y = decide (f x < f y) := by
  unfold ltOf cmpI
  by_cases h1 : f x < f y
  · simp [h1]
  · by_cases h2 : f y < f x <;> simp [h1, h2]
theorem swoI (f : Sl → Int) : SWO (ltOf fun x y : Sl => cmpI (f x) (f y)) where
  irrefl x := by rw [ltI]; simp
  trans x y z h1 h2 := by rw [ltI] at *; simp at *; omega
  ntrans x y z h1 h2 := by rw [ltI] at *; simp at *; omega
theorem perm_of {a b : Array Sl} {n : Nat} (hn : n = a.size) (h : PermIn 0 n a b) : b.toList.Perm a.toList := by
  obtain ⟨h1, _, h3⟩ := h
  rw [hn] at h3
  rw [Array.extract_eq_self_of_le (by omega), Array.extract_eq_self_of_le (Nat.le_refl _)] at h3
  exact h3
theorem pair_of {f : Sl → Int} {b : Array Sl} {n : Nat} (hn : b.size = n) (h : SortedIn (ltOf fun x y : Sl => cmpI (f x) (f y)) 0 n b) : b.toList.Pairwise (fun x y => f x ≤ f y) := by
  rw [List.pairwise_iff_getElem]
  intro i j hi hj hij
  have h1 := h i j (Nat.zero_le _) hij (by simpa [hn] using hj)
  rw [ltI] at h1
  have hi' : i < b.size := by simpa using hi
  have hj' : j < b.size := by simpa using hj
  rw [getElem!_pos b i hi', getElem!_pos b j hj'] at h1
  have h2 : ¬ f b[j] < f b[i] := of_decide_eq_false h1
  show f b.toList[i] ≤ f b.toList[j]
  rw [Array.getElem_toList, Array.getElem_toList]
  omega
theorem aggS (w : World) : (isAgg 47).run Tryd.prog w = .ok true w := by kernel_rfl
theorem sizeS (w : World) : (Go.sizeOf 47).run Tryd.prog w = .ok 9 w := by kernel_rfl
theorem enterK (args : Array Value) (w : World) : (callFunc 34 args).run Tryd.prog w = .ok (.enter 34 args) w := enters_of Tryd.func34 (by kernel_rfl) rfl args w
theorem enterP (args : Array Value) (w : World) : (callFunc 32 args).run Tryd.prog w = .ok (.enter 32 args) w := enters_of Tryd.func32 (by kernel_rfl) rfl args w
theorem laysK (blk off size : Nat) (w : World) : CmpLays Tryd.prog 34 #[] slC 9 (fun x y => cmpI x.k y.k) blk off size w := fun _ _ _ _ x y => byKey_any x y _
theorem laysP (blk off size : Nat) (w : World) : CmpLays Tryd.prog 32 #[] slC 9 (fun x y => cmpI x.p y.p) blk off size w := fun _ _ _ _ x y => byPage_any x y _
theorem sort_g {g : Nat} {f : Sl → Int} (eg : ∀ args w, (callFunc g args).run Tryd.prog w = .ok (.enter g args) w) (hl : ∀ blk off size w, CmpLays Tryd.prog g #[] slC 9 (fun x y => cmpI (f x) (f y)) blk off size w)
    (Bs : Nat) (wr : World) (v : Value) (L : List Sl) (h : wr.ownsRow Bs 47 9 v L.length (scells L)) (h1000 : L.length ≤ 1000) :
    Calls Tryd.prog 43 #[v, .func (.func g) #[] #[]] wr (SortP Bs v L f wr) := by
  rcases h.2 with ⟨rfl, h0⟩ | ⟨bb, cap, cur, rfl, hbase, hb, h2, h3, h4, h5⟩
  · obtain rfl : L = [] := List.length_eq_zero_iff.1 h0
    have hcon := AnyF.slices_SortFunc_none Tryd.sortFn none 0 (.func (.func g) #[] #[]) wr
    refine hcon.mono ?_
    rintro e w' ⟨rfl, rfl⟩
    exact ⟨rfl, [], List.Perm.refl _, List.Pairwise.nil, h, ⟨rfl, rfl, rfl, Nat.le_refl _, fun _ _ _ => rfl⟩⟩
  · have hH : HoldsK slC 9 wr bb 0 L.toArray := by
      unfold HoldsK
      rw [flat_eq]
      exact holds_of_blockF hb (by rw [scells_len]; exact h5)
    have hcon := AnyQ.slices_SortFunc Tryd.sortFn 9 aggS sizeS slC (fun _ => rfl) (fun x v hv => by simp only [List.mem_cons, List.not_mem_nil, or_false] at hv; rcases hv with rfl | rfl | rfl | rfl | rfl | rfl | rfl | rfl | rfl <;> rfl) (fun x y => cmpI (f x) (f y)) (swoI f) g #[] bb 0 cap L.toArray wr eg (hl bb 0 _ wr) hH (lt_of_block hb) (by simp; omega)
    rw [show L.toArray.size = L.length by simp] at hcon
    refine hcon.mono ?_
    rintro e w' ⟨rfl, d', n, os, hp, hs, rfl⟩
    have hds : d'.size = L.length := by have := hp.1; simpa using this
    have hd' : d'.toList.length = L.length := by simpa using hds
    refine ⟨rfl, d'.toList, by have := perm_of (by simp) hp; simpa using this, pair_of hds hs, ?_, ?_⟩
    · unfold sortWorldK putRowK
      rw [show d' = d'.toList.toArray by simp, flat_eq]
      rw [show (d'.toList.toArray).toList = d'.toList by simp]
      refine ⟨scells_len _, .inr ⟨bb, cap, _, by rw [hd'], hbase, heap_sortedF _ hb, by omega, h3, by simp [putCells, h4], ?_⟩⟩
      rw [← scells_len]
      exact take_putCellsF cur _ (by rw [scells_len, h4]; omega)
    · exact grownBy_sortedF _
end Go.Proofs.YtpbckjagiebmjaaDoor.Tb
/- A table's All: the collecting. By the verifier of shale. -/
namespace Go.Proofs.YtpbckjagiebmjaaDoor.Tb
open Go Go.RowKit Go.Maps Go.Sort
set_option linter.unusedVariables false
set_option linter.unusedSimpArgs false
set_option maxRecDepth 100000 in
set_option maxHeartbeats 2000000 in
theorem all_coll {w : World} {base tb mb ob B P cO : Nat} {kb : Nat → Nat} {kf : Nat → Nat → Int} {m : Int → Option Sl} {cnt nb : Nat} (T : TabAt w base tb mb ob B P cO kb kf m cnt nb) (hc : cnt ≤ 1000)
    (hS : ∀ (wr : World) (v : Value) (L : List Sl), wr.ownsRow w.heap.size 47 9 v L.length (scells L) → L.length ≤ 1000 → Calls Tryd.prog 43 #[v, .func (.func 34) #[] #[]] wr (SortP w.heap.size v L Sl.k wr)) :
    Calls Tryd.prog 31 #[.pointer (some ⟨tb, 0, none⟩), .func (.func 34) #[] #[], .func (.func 35) #[] #[]] w (SlotsP w m (fun _ => true) Sl.k) := by
  obtain ⟨i0, hi, hz0, hz1, hz2⟩ := infoS
  have HT := Lib.hid T
  obtain ⟨k0, _, _⟩ := T.cells
  obtain ⟨D, hown, hsz, hD⟩ := T.map
  have HH : Hid (∀ k s, m k = some s → s.k = k ∧ (Lit.int .i64 k).wf = true) := fun k s hs => ⟨(HT.out.here k s hs).1, wf_key (HT.out.here k s hs).2.1 (HT.out.here k s hs).2.2.1⟩
  have HD := Lib.hid hD
  have HC := Lib.hid hc
  have HSO := Lib.hid hS
  clear T hD hc hS
  go_enter Tryd.func31, Tryd.ntmps31
  go_wp2_with (first
    | (at_range; refine wpList_range_own _ rfl _ 69 rfl 3 47 keyI mapU slR mb nb D rfl hown ?_; intro w0 hrg0 hg0 hs0)
    | go_in)
  go_frame
  have HS : Hid (SrtI w m (fun _ => true) cnt (.slice none 0 0) (Maps.has D) (Maps.size D) [] w0) := by
    refine ⟨World.ownsRow_nil _ _ _ _, Coll.start (fun k s hs => (HH.out k s hs).2) HD.out, by rw [hsz]; simp, ⟨hg0.os, hg0.tape, hg0.output, hg0.size, fun k hk => hg0.block k hk (by simp)⟩⟩
  clear hg0 hs0 hown
  obtain ⟨rb, hrb⟩ : ∃ rb, rb = w.heap.size := ⟨_, rfl⟩
  rw [← hrb] at hrg0 ⊢
  have HRB := Lib.hid hrb
  clear hrb
  go_loopw [7] (fun s7 wr => ∃ (left : Lit → Bool) (cn : Nat) (L : List Sl), wr.ranges Tryd.prog 3 slR mb rb nb D left cn ∧ Hid (SrtI w m (fun _ => true) cnt s7 left cn L wr))
    (fun _ wr => wr.rangeLeft mb rb)
  case atStart => exact ⟨_, _, [], hrg0, HS⟩
  case round =>
    clear HS hrg0
    obtain ⟨left, cn, L, hrg, HX⟩ := hrel
    go_wp2_with (first
      | (at_next; refine wpList_next_ranges _ rfl _ rfl 3 keyI slR (Value.int .i64) slV keyInv (fun v y h => slR_some h) mb rb nb D left cn rfl hrg ?_ ?_)
      | go_in)
    · intro hc0 hl0
      go_wp2_with fail
      refine (HSO.out wr u7 L HX.out.1 (by have := HX.out.2.2.1; have := HC.out; omega)).mono ?_
      rintro e w' hp
      have hF := HX.out.fin HC.out hl0 hp
      obtain ⟨rfl, _⟩ := hp
      have HF := Lib.hid hF
      clear hF
      go_wp2_with fail
      go_ret
      exact HF.out
    · intro x c kl yd yp w1 cnt1 hkey hlk hv hat hrg1 hlt hg1 hs1 hen
      obtain ⟨x', ex, rfl, hwx⟩ := Maps.keyOf_int_inv Tryd.underlying3 hkey
      cases ex
      rw [slR_mk] at hv
      cases hv
      have hmx : m x = some c := by
        rcases HD.out x hwx with ⟨_, e⟩ | ⟨s, e1, _, e3⟩
        · have h1 := hat (.lit (.bool true))
          rw [Maps.atKey_of_not_has e] at h1
          cases h1
        · rw [e1, slD_inj ((e3 .nil).symm.trans (hat .nil))]
      have hne := row_ne_iter HX.out.1 hrg
      have HX1 : Hid (w1.ownsRow w.heap.size 47 9 u7 L.length (scells L) ∧ Below w.heap.size w w1 ∧ L.length + cnt1 < cnt ∧ some rb ≠ u7.ownBlock ∧ some mb ≠ u7.ownBlock ∧ L.length < 1000) := by
        obtain ⟨h1, h2, h3, h4⟩ := HX.out
        refine ⟨h1.kept hg1 (.inr (Ne.symm hne)), below_grown h4 hg1 fun k hk => by cases hk; rw [HRB.out]; exact Nat.le_refl _, by omega, hne, row_ne_low h1 HT.out.map.lt, by have := HC.out; omega⟩
      have HCo : Hid (Coll m (fun _ => true) (fun z => left z && !z.sameKey (kL x)) (L ++ [c])) := HX.out.2.1.step (fun k s hs => (HH.out k s hs).1) hmx hlk
      clear hkey hlk hat hmx hne HX hs1 hwx
      go_upto_region 5 with (fail)
      generalize hw : w1.alloc (.cells #[.int .i64 c.k, .int .i64 c.b, .int .i64 c.p, .int .i64 c.m0, .int .i64 c.m1, .int .i64 c.m2, .int .i64 c.m3, .int .i64 c.m4, .int .i64 c.m5] 47 (0, 0)) = w2
      obtain ⟨J2, b2⟩ := newSl w1 w2 c hw
      clear hw
      obtain ⟨zb, hzb⟩ : ∃ zb, zb = w1.heap.size := ⟨_, rfl⟩
      rw [← hzb] at J2 ⊢
      clear hzb hen
      obtain ⟨z0, z1, z2, z3, z4, z5, z6, z7, z8⟩ := sl_cells9 (s := c) J2
      go_wp2_with fail
      refine (wantAll c w2).mono ?_
      rintro e w3 ⟨rfl, b3⟩
      have J3 := (b3.block zb (lt_of_block J2)).trans J2
      have b13 := b2.trans (b3.mono b2.size)
      clear z0 z1 z2 z3 z4 z5 z6 z7 z8 b2 b3 J2
      obtain ⟨z0, z1, z2, z3, z4, z5, z6, z7, z8⟩ := sl_cells9 (s := c) J3
      have HRo : Hid ((w3.alloc (.cells #[.int .i64 c.k, .int .i64 c.b, .int .i64 c.p, .int .i64 c.m0, .int .i64 c.m1, .int .i64 c.m2, .int .i64 c.m3, .int .i64 c.m4, .int .i64 c.m5] 47 (0, 0))).ownsRow w.heap.size 47 9 u7 L.length (scells L)) := World.ownsRow.alloc (HX1.out.1.kept (grown_below b13 none) (by cases h : u7.ownBlock <;> simp)) _
      have HNW : Hid (∀ j u, (slC c)[j]? = some u → ((w3.alloc (.cells #[.int .i64 c.k, .int .i64 c.b, .int .i64 c.p, .int .i64 c.m0, .int .i64 c.m1, .int .i64 c.m2, .int .i64 c.m3, .int .i64 c.m4, .int .i64 c.m5] 47 (0, 0)))).cell? ((⟨w3.heap.size, 0, none⟩ : Addr).add j) = some u) := World.news_of_block (cs := #[.int .i64 c.k, .int .i64 c.b, .int .i64 c.p, .int .i64 c.m0, .int .i64 c.m1, .int .i64 c.m2, .int .i64 c.m3, .int .i64 c.m4, .int .i64 c.m5]) (fr := (0, 0)) (t := 47) (heap_alloc_new w3 _)
      have HON : Hid (∀ u ∈ slC c, u.oneCell' = true) := by
        intro u hu
        simp only [List.mem_cons, List.not_mem_nil, or_false] at hu
        rcases hu with rfl | rfl | rfl | rfl | rfl | rfl | rfl | rfl | rfl <;> rfl
      have HG3 : Hid (w1.grownBy (w3.alloc (.cells #[.int .i64 c.k, .int .i64 c.b, .int .i64 c.p, .int .i64 c.m0, .int .i64 c.m1, .int .i64 c.m2, .int .i64 c.m3, .int .i64 c.m4, .int .i64 c.m5] 47 (0, 0))) none) := grown_below (b13.trans ((Below.refl _ _).alloc b13.size _)) none
      have hL1 := HX1.out.2.2.2.2.2
      have hws : w.heap.size ≤ (w3.alloc (.cells #[.int .i64 c.k, .int .i64 c.b, .int .i64 c.p, .int .i64 c.m0, .int .i64 c.m1, .int .i64 c.m2, .int .i64 c.m3, .int .i64 c.m4, .int .i64 c.m5] 47 (0, 0))).heap.size := Nat.le_trans HX1.out.2.1.size HG3.out.size
      have HWS := Lib.hid hws
      clear J3 b13 hws
      go_wp2_with (first
        | (at_builtin; refine wpList_append_own_at _ rfl _ _ 55 rfl w.heap.size 47 i0 (slV zSl) 9 72 Tryd.underlying55 hi hz0 hz1 hz2 rfl (by decide) u7 L.length (scells L) rfl HRo.out ⟨w3.heap.size, 0, none⟩ 1 1 (slC c) rfl rfl HNW.out HON.out (by unfold maxLen; omega) (by omega) HWS.out ?_; intro v' w5 hown hgrow hnil hat)
        | go_in)
      have hrg2 := (hrg1.kept HG3.out (by simp) (by simp)).kept hgrow HX1.out.2.2.2.2.1 HX1.out.2.2.2.1
      go_roundw
      case rel =>
        refine ⟨_, cnt1, L ++ [c], hrg2, ?_⟩
        show SrtI _ _ _ _ _ _ _ _ _
        refine ⟨by rw [scells_snoc, List.length_append]; exact hown, HCo.out, by have := HX1.out.2.2.1; simp; omega, below_grown (below_grown HX1.out.2.1 HG3.out fun k hk => by cases hk) hgrow fun k hk => (HRo.out.lt k hk).1⟩
      case measure => rw [hrg2.left_eq, hrg.left_eq]; exact hlt
end Go.Proofs.YtpbckjagiebmjaaDoor.Tb
/- A table's All, Same, Get. By the verifier of shale. -/
namespace Go.Proofs.YtpbckjagiebmjaaDoor.Tb
open Go Go.RowKit Go.Maps Go.Sort
set_option linter.unusedVariables false
set_option linter.unusedSimpArgs false
set_option maxRecDepth 100000 in
set_option maxHeartbeats 2000000 in
theorem all_any {w : World} {base tb mb ob B P cO : Nat} {kb : Nat → Nat} {kf : Nat → Nat → Int} {m : Int → Option Sl} {cnt nb : Nat} (T : TabAt w base tb mb ob B P cO kb kf m cnt nb) (hc : cnt ≤ 1000) :
    Calls Tryd.prog 22 #[.pointer (some ⟨tb, 0, none⟩)] w (SlotsP w m (fun _ => true) Sl.k) := by
  have HA := Lib.hid (all_coll T hc (fun wr v L h hl => sort_g enterK laysK w.heap.size wr v L h hl))
  clear T hc
  go_enter Tryd.func22, Tryd.ntmps22
  go_wp2_with fail
  refine HA.out.mono ?_
  rintro e w' ⟨v, L, rfl, h⟩
  have HF : Hid (SlotsP w m (fun _ => true) Sl.k (.returned v) w') := ⟨v, L, rfl, h⟩
  clear h
  go_wp2_with fail
  go_ret
  exact HF.out
end Go.Proofs.YtpbckjagiebmjaaDoor.Tb
/- A table's Same and Get. By the verifier of shale. -/
namespace Go.Proofs.YtpbckjagiebmjaaDoor.Tb
open Go Go.RowKit Go.Maps Go.Sort
set_option linter.unusedVariables false
set_option linter.unusedSimpArgs false
/-- all slots of a table, by keys. -/
def ListOf (m : Int → Option Sl) (L : List Sl) : Prop := (∀ s, s ∈ L ↔ m s.k = some s) ∧ (L.map Sl.k).Nodup ∧ L.Pairwise (fun x y => x.k ≤ y.k)
theorem listOf_of {w : World} {m : Int → Option Sl} {e : Ending} {w' : World} (h : SlotsP w m (fun _ => true) Sl.k e w') : ∃ v L, e = .returned v ∧ w'.ownsRow w.heap.size 47 9 v L.length (scells L) ∧ ListOf m L ∧ L.length ≤ 1000 ∧ Below w.heap.size w w' := by
  obtain ⟨v, L, h1, h2, h3, h4, h5, h6, h7⟩ := h
  exact ⟨v, L, h1, h2, ⟨fun s => by rw [h3 s]; simp, h4, h5⟩, h6, h7⟩
end Go.Proofs.YtpbckjagiebmjaaDoor.Tb
/- A table's list of slots: how long, and that there is one alone. By the verifier of shale. -/
namespace Go.Proofs.YtpbckjagiebmjaaDoor.Tb
open Go Go.RowKit Go.ChangeMaps Go.MapKept Go.WideShapes
open Go.WideElems (Fit rd rg pl rd_key rd_val rg_of other_key)
open Go.Maps (Keyed)
set_option linter.unusedVariables false
set_option linter.unusedSimpArgs false
set_option maxRecDepth 100000 in
theorem entries_int {w : World} {mb nb : Nat} {D : DataW Unit} (h : w.ownsMap Tryd.prog 3 slR mb nb D) : ∃ es, D = .map es ∧ es.Pairwise (fun p q => p.1 ≠ q.1) ∧ ∀ p ∈ es, ∃ x, p.1 = kL x ∧ (Lit.int .i64 x).wf = true := by
  obtain ⟨es, clock, _, F, _, rfl⟩ := h
  refine ⟨_, rfl, ((sorted_perm _).pairwise_iff (fun {_ _} hne => Ne.symm hne)).2 (Maps.fit_apart keyI F), fun p hp => ?_⟩
  obtain ⟨x, hx, rfl⟩ := List.mem_map.1 (mem_sorted.1 hp)
  obtain ⟨y, hy⟩ := F.reads x hx
  rw [rg_of hy]
  obtain ⟨z, _, hz, hw⟩ := Maps.keyOf_int_inv Tryd.underlying3 (rd_key hy)
  exact ⟨z, hz, hw⟩
theorem list_len {w : World} {base tb mb ob B P cO : Nat} {kb : Nat → Nat} {kf : Nat → Nat → Int} {m : Int → Option Sl} {cnt nb : Nat} (T : TabAt w base tb mb ob B P cO kb kf m cnt nb) {L : List Sl} (h : ListOf m L) : L.length = cnt := by
  obtain ⟨D, hown, hsz, hD⟩ := T.map
  obtain ⟨es, rfl, hp, hk⟩ := entries_int hown
  have hwf : ∀ k s, m k = some s → s.k = k ∧ (Lit.int .i64 k).wf = true := fun k s hs => ⟨(T.here k s hs).1, wf_key (T.here k s hs).2.1 (T.here k s hs).2.2.1⟩
  have n1 : (es.map Prod.fst).Nodup := by
    unfold List.Nodup
    rw [List.pairwise_map]
    exact hp
  have n2 : (L.map fun s => kL s.k).Nodup := by
    have h2 := h.2.1
    unfold List.Nodup at h2 ⊢
    rw [List.pairwise_map] at h2 ⊢
    exact h2.imp fun hne => kL_ne hne
  have hm : ∀ kl, kl ∈ es.map Prod.fst ↔ kl ∈ L.map fun s => kL s.k := by
    intro kl
    constructor
    · intro hkl
      obtain ⟨p, hpe, rfl⟩ := List.mem_map.1 hkl
      obtain ⟨x, hx, hw⟩ := hk p hpe
      have hh : Maps.has (DataW.map es) (kL x) = true := List.any_eq_true.2 ⟨p, hpe, by rw [hx, sameKey_int]; simp⟩
      rcases hD x hw with ⟨_, e⟩ | ⟨s, e, _, _⟩
      · rw [hh] at e; cases e
      · have hsk := (hwf x s e).1
        rw [hx]
        exact List.mem_map.2 ⟨s, (h.1 s).2 (by rw [hsk]; exact e), by rw [hsk]⟩
    · intro hkl
      obtain ⟨s, hs, rfl⟩ := List.mem_map.1 hkl
      have e := (h.1 s).1 hs
      rcases hD s.k (hwf _ _ e).2 with ⟨e2, _⟩ | ⟨_, _, e2, _⟩
      · rw [e] at e2; cases e2
      · obtain ⟨p, hpe, hpk⟩ := List.any_eq_true.1 e2
        obtain ⟨x, hx, hw⟩ := hk p hpe
        rw [hx, sameKey_int] at hpk
        have hxk : x = s.k := by simpa using hpk
        exact List.mem_map.2 ⟨p, hpe, by rw [hx, hxk]⟩
  have hl := ((List.perm_ext_iff_of_nodup n1 n2).2 hm).length_eq
  simp only [List.length_map] at hl
  rw [← hl, ← hsz]
  rfl
theorem sorted_one {α : Type} (f : α → Int) : ∀ L M : List α, L.Pairwise (fun x y => f x < f y) → M.Pairwise (fun x y => f x < f y) → (∀ s, s ∈ L ↔ s ∈ M) → L = M
  | [], [], _, _, _ => rfl
  | [], y :: M, _, _, h => absurd ((h y).2 (List.mem_cons_self ..)) (List.not_mem_nil)
  | x :: L, [], _, _, h => absurd ((h x).1 (List.mem_cons_self ..)) (List.not_mem_nil)
  | x :: L, y :: M, hl, hm, h => by
    obtain ⟨l1, l2⟩ := List.pairwise_cons.1 hl
    obtain ⟨m1, m2⟩ := List.pairwise_cons.1 hm
    have e : x = y := by
      rcases List.mem_cons.1 ((h x).1 (List.mem_cons_self ..)) with e | e
      · exact e
      · rcases List.mem_cons.1 ((h y).2 (List.mem_cons_self ..)) with e2 | e2
        · exact e2.symm
        · have := m1 x e; have := l1 y e2; omega
    subst e
    congr 1
    refine sorted_one f L M l2 m2 fun s => ?_
    constructor
    · intro hs
      rcases List.mem_cons.1 ((h s).1 (List.mem_cons_of_mem _ hs)) with e | e
      · subst e; have := l1 s hs; omega
      · exact e
    · intro hs
      rcases List.mem_cons.1 ((h s).2 (List.mem_cons_of_mem _ hs)) with e | e
      · subst e; have := m1 s hs; omega
      · exact e
theorem ListOf.strict {m : Int → Option Sl} {L : List Sl} (h : ListOf m L) : L.Pairwise (fun x y => x.k < y.k) := by
  have h2 := h.2.1
  unfold List.Nodup at h2
  rw [List.pairwise_map] at h2
  exact (h2.and h.2.2).imp fun ⟨a, b⟩ => by omega
theorem listOf_one {m : Int → Option Sl} {L M : List Sl} (h : ListOf m L) (k : ListOf m M) : L = M := sorted_one Sl.k L M h.strict k.strict fun s => by rw [h.1 s, k.1 s]
end Go.Proofs.YtpbckjagiebmjaaDoor.Tb
/- The document's SameSlots, at two lists that read alike; and the statement's own slots. By the verifier of shale. -/
namespace Go.Proofs.YtpbckjagiebmjaaDoor.Tb
open Go Go.RowKit
set_option linter.unusedVariables false
set_option linter.unusedSimpArgs false
/-- a slice's elements, as they are read. -/
def RdS (w : World) (a : Option Addr) (L : List Sl) : Prop := ∀ i, i < L.length → ∃ g o, a = some ⟨g, o, none⟩ ∧ g < w.heap.size ∧ SlAt w g (o + i * 9) (L[i]!)
theorem SlAt.same {w w' : World} {g o : Nat} {s : Sl} (h : SlAt w g o s) (e : w'.heap[g]? = w.heap[g]?) : SlAt w' g o s := by
  have k : ∀ j u, w.cell? ⟨g, j, none⟩ = some u → w'.cell? ⟨g, j, none⟩ = some u := fun j u hu => (World.cell?_of_block (a := ⟨g, j, none⟩) e).trans hu
  obtain ⟨h0, h1, h2, h3, h4, h5, h6, h7, h8⟩ := h
  exact ⟨k _ _ h0, k _ _ h1, k _ _ h2, k _ _ h3, k _ _ h4, k _ _ h5, k _ _ h6, k _ _ h7, k _ _ h8⟩
theorem RdS.below {w w' : World} {a : Option Addr} {L : List Sl} (h : RdS w a L) (b : Below w.heap.size w w') : RdS w' a L := fun i hi => by
  obtain ⟨g, o, h1, h2, h3⟩ := h i hi
  exact ⟨g, o, h1, Nat.lt_of_lt_of_le h2 b.size, h3.same (b.block g h2)⟩
theorem RefT.rd {w : World} {base xb c : Nat} {Bl Pg : Int} {a : Option Addr} {R : List Sl} (h : RefT w base xb Bl Pg a c R) : RdS w a R := fun i hi => by
  obtain ⟨g, o, h1, _, h2⟩ := h.item hi
  exact ⟨g, o, h1, World.block_lt_of_cell? w _ h2.1, h2⟩
/-- a row of one's own is read so. -/
theorem rd_own {w : World} {base : Nat} {t : TypeId} {v : Value} {L : List Sl} (h : w.ownsRow base t 9 v L.length (scells L)) : ∃ a c, v = .slice a L.length c ∧ RdS w a L := by
  rcases h.2 with ⟨rfl, h0⟩ | ⟨g, cap, cur, rfl, hbg, hh, hnc, hmx, hs, ht⟩
  · have hl : L.length = 0 := by first | exact h0 | exact h0.1 | exact h0.2 | (have := h0; omega)
    exact ⟨none, 0, by rw [hl], fun i hi => by omega⟩
  · refine ⟨some ⟨g, 0, none⟩, cap, rfl, fun i hi => ⟨g, 0, rfl, lt_of_block hh, ?_⟩⟩
    have key : ∀ j u, j < 9 → (slC (L[i]!))[j]? = some u → w.cell? ⟨g, 0 + i * 9 + j, none⟩ = some u := by
      intro j u hj hu
      rw [Nat.zero_add]
      unfold World.cell?
      simp only
      rw [hh]
      have e2 : cur.toList[i * 9 + j]? = (scells L)[i * 9 + j]? := by rw [← ht, List.getElem?_take_of_lt (by omega)]
      rw [scells_getR L hi hj, hu] at e2
      simpa using e2
    exact ⟨key 0 _ (by omega) rfl, key 1 _ (by omega) rfl, key 2 _ (by omega) rfl, key 3 _ (by omega) rfl, key 4 _ (by omega) rfl, key 5 _ (by omega) rfl, key 6 _ (by omega) rfl, key 7 _ (by omega) rfl, key 8 _ (by omega) rfl⟩
set_option maxRecDepth 100000 in
set_option maxHeartbeats 4000000 in
theorem sameSlots_any {w : World} {a b : Option Addr} {n c d : Nat} {L : List Sl} (h1 : RdS w a L) (h2 : RdS w b L) (hn : n = L.length) (hL : L.length ≤ 100000) :
    Calls Tryd.prog 16 #[.slice a n c, .slice b n d] w fun e w' => e = .returned (.bool true) ∧ Below w.heap.size w w' := by
  have HA := Lib.hid h1
  have HB := Lib.hid h2
  have HN := Lib.hid hn
  have hn1 : (n : Int) ≤ 100000 := by omega
  have u0 : ((n : Int) != (n : Int)) = false := by simp
  have HS : Hid (Below w.heap.size w w) := Below.refl _ _
  clear h1 h2 hn hL
  go_enter Tryd.func16, Tryd.ntmps16
  go_wp2_with fail
  go_loopg [5] n (fun gh s5 wx => ∃ i : Nat, gh = n - i ∧ i ≤ n ∧ s5 = .int .i64 (i : Int) ∧ Hid (Below w.heap.size w wx))
  case atStart => exact ⟨0, rfl, Nat.zero_le _, rfl, HS⟩
  case round =>
    clear HS
    obtain ⟨i, hg, hin, rfl, HX⟩ := hrel
    have HG := Lib.hid (And.intro hg hin)
    clear hg
    have y0 : (0 : Int) ≤ (i : Int) := by omega
    have y2 : (i : Int) ≤ 100000 := by omega
    by_cases hlt : i < n
    · have y1 : (i : Int) < (n : Int) := by omega
      obtain ⟨g, o, rfl, hg1, z0, z1, z2, z3, z4, z5, z6, z7, z8⟩ := (HA.out.below HX.out) i (by rw [← HN.out]; exact hlt)
      obtain ⟨g', o', rfl, hg2, x0, x1, x2, x3, x4, x5, x6, x7, x8⟩ := (HB.out.below HX.out) i (by rw [← HN.out]; exact hlt)
      obtain ⟨s, hs⟩ : ∃ s, s = L[i]! := ⟨_, rfl⟩
      rw [← hs] at z0 z1 z2 z3 z4 z5 z6 z7 z8 x0 x1 x2 x3 x4 x5 x6 x7 x8
      have HL2 := Lib.hid hlt
      have HSP : Hid (∀ W q os, Calls Tryd.prog 12 #[.agg #[.int .i64 s.b, .int .i64 s.p], .agg #[.int .i64 s.b, .int .i64 s.p]] (Sort.grow (redrawn W q) os) fun e w' => e = .returned (.bool true) ∧ ∃ p : Regrown, w' = Sort.grow (redrawn W p.d) p.os) := fun W q os => Calls.regrown_of (by
        have h := samePlace_any s.b s.p s.b s.p (Sort.grow (redrawn W q) os)
        simp only [decide_true, Bool.and_self] at h
        exact h)
      have HSM : Hid (∀ W q os, Calls Tryd.prog 30 #[.agg #[.int .i64 s.m0, .int .i64 s.m1, .int .i64 s.m2, .int .i64 s.m3, .int .i64 s.m4, .int .i64 s.m5], .agg #[.int .i64 s.m0, .int .i64 s.m1, .int .i64 s.m2, .int .i64 s.m3, .int .i64 s.m4, .int .i64 s.m5]] (Sort.grow (redrawn W q) os) fun e w' => e = .returned (.bool true) ∧ ∃ p : Regrown, w' = Sort.grow (redrawn W p.d) p.os) := fun W q os => Calls.regrown_of (by
        have h := sameMe s.m0 s.m1 s.m2 s.m3 s.m4 s.m5 s.m0 s.m1 s.m2 s.m3 s.m4 s.m5 (Sort.grow (redrawn W q) os)
        simp only [beq_self_eq_true, Bool.and_self] at h
        exact h)
      clear hs hlt hin hg1 hg2
      go_upto_region 6 with (fail)
      have HZ : Hid (SlAt wr g (o + i * 9) s ∧ SlAt wr g' (o' + i * 9) s) := ⟨⟨z0, z1, z2, z3, z4, z5, z6, z7, z8⟩, ⟨x0, x1, x2, x3, x4, x5, x6, x7, x8⟩⟩
      clear z0 z1 z2 z3 z4 z5 z6 z7 z8 x0 x1 x2 x3 x4 x5 x6 x7 x8
      have z1 := cell_regrown HZ.out.1.2.1
      have z2 := cell_regrown HZ.out.1.2.2.1
      have x1 := cell_regrown HZ.out.2.2.1
      have x2 := cell_regrown HZ.out.2.2.2.1
      have HI := Lib.hid (HSP.out wr)
      refine wp_region_quiet_below (by kernel_rfl) (by kernel_rfl) ?_
      repeat (go_big_quiet_step (first | (go_at_call 12; with_reducible exact HI.out _ _)))
      refine wpQuiet_nil ?_
      intro _ hw'
      obtain ⟨⟨dq, osq⟩, hw''⟩ := hw'
      subst hw''
      have b5 := below_regrown wr dq osq
      generalize Sort.grow (redrawn wr dq) osq = wz at b5 ⊢
      have HZ2 : Hid (SlAt wz g (o + i * 9) s ∧ SlAt wz g' (o' + i * 9) s ∧ Below w.heap.size w wz) := ⟨HZ.out.1.same (b5.block g (World.block_lt_of_cell? wr _ HZ.out.1.1)), HZ.out.2.same (b5.block g' (World.block_lt_of_cell? wr _ HZ.out.2.1)), HX.out.trans (b5.mono HX.out.size)⟩
      clear z1 z2 x1 x2 HI b5 HZ HX
      go_upto_region 7 with (fail)
      have z3 := cell_regrown HZ2.out.1.2.2.2.1
      have z4 := cell_regrown HZ2.out.1.2.2.2.2.1
      have z5 := cell_regrown HZ2.out.1.2.2.2.2.2.1
      have z6 := cell_regrown HZ2.out.1.2.2.2.2.2.2.1
      have z7 := cell_regrown HZ2.out.1.2.2.2.2.2.2.2.1
      have z8 := cell_regrown HZ2.out.1.2.2.2.2.2.2.2.2
      have x3 := cell_regrown HZ2.out.2.1.2.2.2.1
      have x4 := cell_regrown HZ2.out.2.1.2.2.2.2.1
      have x5 := cell_regrown HZ2.out.2.1.2.2.2.2.2.1
      have x6 := cell_regrown HZ2.out.2.1.2.2.2.2.2.2.1
      have x7 := cell_regrown HZ2.out.2.1.2.2.2.2.2.2.2.1
      have x8 := cell_regrown HZ2.out.2.1.2.2.2.2.2.2.2.2
      have HI := Lib.hid (HSM.out wz)
      refine wp_region_quiet_below (by kernel_rfl) (by kernel_rfl) ?_
      repeat (go_big_quiet_step (first | (go_at_call 30; with_reducible exact HI.out _ _)))
      refine wpQuiet_nil ?_
      intro _ hw'
      obtain ⟨⟨dq, osq⟩, hw''⟩ := hw'
      subst hw''
      have b5 := below_regrown wz dq osq
      generalize Sort.grow (redrawn wz dq) osq = wy at b5 ⊢
      have HZ3 : Hid (SlAt wy g (o + i * 9) s ∧ SlAt wy g' (o' + i * 9) s ∧ Below w.heap.size w wy) := ⟨HZ2.out.1.same (b5.block g (World.block_lt_of_cell? wz _ HZ2.out.1.1)), HZ2.out.2.1.same (b5.block g' (World.block_lt_of_cell? wz _ HZ2.out.2.1.1)), HZ2.out.2.2.trans (b5.mono HZ2.out.2.2.size)⟩
      clear z3 z4 z5 z6 z7 z8 x3 x4 x5 x6 x7 x8 HI b5 HZ2 HSP HSM
      go_upto_region 8 with (fail)
      have z0 := cell_regrown HZ3.out.1.1
      have x0 := cell_regrown HZ3.out.2.1.1
      refine wp_region_quiet_below (by kernel_rfl) (by kernel_rfl) ?_
      repeat (go_big_quiet_step (fail))
      refine wpQuiet_nil ?_
      intro _ hw'
      obtain ⟨⟨dq, osq⟩, hw''⟩ := hw'
      subst hw''
      have b5 := below_regrown wy dq osq
      generalize Sort.grow (redrawn wy dq) osq = wu at b5 ⊢
      have HN2 : Hid (Below w.heap.size w wu) := HZ3.out.2.2.trans (b5.mono HZ3.out.2.2.size)
      clear z0 x0 b5 HZ3
      go_wp2_with fail
      go_roundg (n - (i + 1))
      case measure => have := HG.out; have := HL2.out; omega
      case rel => exact ⟨i + 1, rfl, HL2.out, by go_num, HN2⟩
    · obtain rfl : i = n := by omega
      go_wp2_with fail
      go_ret
      exact ⟨rfl, HX.out⟩
end Go.Proofs.YtpbckjagiebmjaaDoor.Tb
/- A table's Keys, told one by one. By the verifier of shale. -/
namespace Go.Proofs.YtpbckjagiebmjaaDoor.Tb
open Go Go.RowKit
set_option linter.unusedVariables false
set_option linter.unusedSimpArgs false
abbrev encK (x : Nat × Sl) : Array Value := #[.int .i64 (x.1 : Int), slV x.2]
/-- what is told: its place, and the slot. -/
def VK (R : List Sl) (pre : List (Nat × Sl)) (x : Nat × Sl) : Prop := x.1 = pre.length ∧ R[pre.length]? = some x.2
/-- what the iterator finds. -/
def FindsK (base tb mb ob B P cO : Nat) (kb : Nat → Nat) (kf : Nat → Nat → Int) (m : Int → Option Sl) (cnt nb cb : Nat) (ol : List Nat) (W : World) : Prop :=
  TabAt W base tb mb ob B P cO kb kf m cnt nb ∧ W.heap[cb]? = some (.cells #[.pointer (some ⟨tb, 0, none⟩)] 26 (0, 0))
/-- what the iterator carries over its rounds. -/
def ItK (R : List Sl) (B0 : Nat) (v1 : Value) (O : List (Nat × Sl) → List Nat → World → Prop) (i : Nat) (wx : World) : Prop :=
  ∃ pre ol, pre.length = i ∧ O pre ol wx ∧ wx.ownsRow B0 47 9 v1 R.length (scells R) ∧ (∀ k, v1.ownBlock = some k → k ∉ ol) ∧ B0 ≤ wx.heap.size
theorem owns_same {w w' : World} {b k n : Nat} {t : TypeId} {v : Value} {xs : List Value} (h : w.ownsRow b t k v n xs) (o : ∀ g, v.ownBlock = some g → w'.heap[g]? = w.heap[g]?) : w'.ownsRow b t k v n xs := by
  refine ⟨h.1, ?_⟩
  rcases h.2 with h0 | ⟨g, cap, cur, rfl, h1, h2, h3⟩
  · exact .inl h0
  · exact .inr ⟨g, cap, cur, rfl, h1, (o g rfl).trans h2, h3⟩
theorem keys_any (tb : Nat) (w : World) : Calls Tryd.prog 23 #[.pointer (some ⟨tb, 0, none⟩)] w fun e w' => e = .returned (.func (.func 36) #[] #[.pointer (some ⟨w.heap.size, 0, none⟩)]) ∧ w'.heap[w.heap.size]? = some (.cells #[.pointer (some ⟨tb, 0, none⟩)] 26 (0, 0)) ∧ Below w.heap.size w w' := by
  have h1 : Hid ((w.alloc (.cells #[.pointer (some ⟨tb, 0, none⟩)] 26 (0, 0))).heap[w.heap.size]? = some (.cells #[.pointer (some ⟨tb, 0, none⟩)] 26 (0, 0)) ∧ Below w.heap.size w (w.alloc (.cells #[.pointer (some ⟨tb, 0, none⟩)] 26 (0, 0)))) := ⟨heap_alloc_new w _, (Below.refl _ _).alloc (Nat.le_refl _) _⟩
  go_enter Tryd.func23, Tryd.ntmps23
  go_wp2_with fail
  go_ret
  exact ⟨rfl, h1.out.1, h1.out.2⟩
set_option maxRecDepth 100000 in
set_option maxHeartbeats 4000000 in
theorem keys_iter (nf Bs base tb mb ob B P cO cb cnt nb : Nat) (kb : Nat → Nat) (kf : Nat → Nat → Int) (m : Int → Option Sl) (R : List Sl) (hR : ListOf m R) (hc : cnt ≤ 1000) (hRl : R.length ≤ 1000) :
    IterSep nf Tryd.prog 36 #[.pointer (some ⟨cb, 0, none⟩)] encK Bs [] (VK R) (fun xs => xs.length = R.length) (fun pre => pre.length ≤ R.length) (FindsK base tb mb ob B P cO kb kf m cnt nb cb) := by
  intro l O Ox ol W hO hOx hOl hY hBW h0 hC
  refine callsIn_wide.2 ?_
  obtain ⟨T, hcb⟩ := hC
  have c0 : W.cell? ⟨cb, 0, none⟩ = some (.pointer (some ⟨tb, 0, none⟩)) := by
    unfold World.cell?; simp only; rw [hcb]; rfl
  have HYY := Lib.hid hY
  have HOO := Lib.hid (And.intro hO (And.intro hOx hOl))
  have HAl := Lib.hid (all_any T hc)
  have HI := Lib.hid (And.intro h0 (And.intro hR hBW))
  obtain ⟨n, hnE⟩ : ∃ n, n = R.length := ⟨_, rfl⟩
  have HN := Lib.hid hnE
  rw [← hnE] at hRl
  clear hO hOx hOl hY h0 T hcb hR hnE hBW
  go_enter Tryd.func36, Tryd.ntmps36
  go_wp2_with fail
  refine HAl.out.mono ?_
  intro e W1 hp
  obtain ⟨v1, L1, rfl, hr1, hL1, hl1, b1⟩ := listOf_of hp
  obtain rfl : R = L1 := listOf_one HI.out.2.1 hL1
  clear HAl c0 hp hL1 hl1
  obtain ⟨a1, c1, rfl, _⟩ := rd_own hr1
  have HI1 : Hid (ItK R W.heap.size (.slice a1 R.length c1) O 0 W1) := by
    obtain ⟨h0, _, _⟩ := HI.out
    refine ⟨[], ol, rfl, HOO.out.1 _ _ _ _ h0 (.below b1), hr1, fun k hk hm => ?_, b1.size⟩
    have h1 := (hr1.lt k hk).1
    have h2 := HOO.out.2.2 _ _ _ h0 k hm
    omega
  rw [← HN.out] at HI1 ⊢
  clear hr1 b1
  go_wp2_with fail
  go_loopg [8] n (fun gh s8 wx => ∃ i : Nat, gh = n - i ∧ i ≤ n ∧ s8 = .int .i64 (i : Int) ∧ Hid (ItK R W.heap.size (.slice a1 n c1) O i wx))
  case atStart => exact ⟨0, rfl, Nat.zero_le _, rfl, HI1⟩
  case round =>
    clear HI1
    obtain ⟨i, hg, hin, rfl, HX⟩ := hrel
    have HG := Lib.hid (And.intro hg hin)
    clear hg
    obtain ⟨w4, rfl⟩ : ∃ w', w' = wr := ⟨_, rfl⟩
    by_cases hlt : i < n
    · have x1 : (i : Int) < (n : Int) := by omega
      have x0 : (0 : Int) ≤ (i : Int) := by omega
      have hi' : i < R.length := by rw [← HN.out]; exact hlt
      obtain ⟨d, hd⟩ : ∃ d, d = R[i]! := ⟨_, rfl⟩
      have hd2 : R[i]? = some d := by rw [hd, getElem!_pos R i hi']; exact List.getElem?_eq_getElem hi'
      obtain ⟨pre, ol', hpl, hO4, hr4, hv4, hB4⟩ := HX.out
      obtain ⟨a', c', ea, hrd⟩ := rd_own hr4
      rw [← HN.out] at ea
      cases ea
      obtain ⟨g1, o1, rfl, _, z0, z1, z2, z3, z4, z5, z6, z7, z8⟩ := hrd i hi'
      rw [← hd] at z0 z1 z2 z3 z4 z5 z6 z7 z8
      have HD := Lib.hid (And.intro hd2 (And.intro hlt hpl))
      have HW4 := Lib.hid (And.intro hO4 (And.intro hr4 (And.intro hv4 hB4)))
      clear hd hd2 hi' hlt hr4 hin hpl hO4 hv4 hB4 HX hrd
      go_upto_region 3 with (fail)
      generalize hw : w4.alloc (.cells #[.int .i64 d.k, .int .i64 d.b, .int .i64 d.p, .int .i64 d.m0, .int .i64 d.m1, .int .i64 d.m2, .int .i64 d.m3, .int .i64 d.m4, .int .i64 d.m5] 47 (0, 0)) = w5
      obtain ⟨K, b5⟩ := newSl w4 w5 d hw
      obtain ⟨eb, heb⟩ : ∃ eb, eb = w4.heap.size := ⟨_, rfl⟩
      rw [← heb] at K ⊢
      clear hw heb z0 z1 z2 z3 z4 z5 z6 z7 z8
      obtain ⟨z0, z1, z2, z3, z4, z5, z6, z7, z8⟩ := sl_cells9 K
      have HB5 := Lib.hid b5
      have hO5 : O pre ol' w5 := HOO.out.1 _ _ _ _ HW4.out.1 (.below b5)
      have hV : VK R pre (i, d) := ⟨HD.out.2.2.symm, by rw [HD.out.2.2]; exact HD.out.1⟩
      obtain ⟨fn, tmps, assign, body, hy, hR⟩ := HYY.out pre (i, d) ol' w5 hO5 hV
      have HR := Lib.hid hR
      clear hR hO5 hV K b5
      refine (wpIn_wide (n := nf)).1 ?_
      gi_wp2
      refine ⟨fun e => by simp [Fence.wide] at e, (roundIn_wide HR.out).mono ?_⟩
      rintro e W7 ⟨ol2, ht, (⟨rfl, hO7⟩ | ⟨rfl, cx, hO7⟩)⟩
      · have HNx : Hid (ItK R W.heap.size (.slice (some ⟨g1, o1, none⟩) n c1) O (i + 1) W7) := by
          obtain ⟨hO4, hr4, hv4, hB4⟩ := HW4.out
          obtain ⟨hd, hlt, hpl⟩ := HD.out
          have b5 := HB5.out
          refine ⟨pre ++ [(i, d)], ol2, by rw [List.length_append, hpl]; rfl, hO7, owns_same hr4 fun k hk => (ht.same k (Nat.lt_of_lt_of_le (hr4.lt k hk).2 b5.size) (hv4 k hk)).trans (b5.block k (hr4.lt k hk).2), fun k hk hm => ?_, Nat.le_trans hB4 (Nat.le_trans b5.size ht.size)⟩
          rcases ht.new k hm with h | h
          · exact hv4 k hk h
          · have := (hr4.lt k hk).2
            have := b5.size
            omega
        have HI2 := Lib.hid HD.out.2.1
        clear ht hO7 HR HB5 HW4 HD hy
        gi_wp2
        go_wp2_with fail
        go_roundg (n - (i + 1))
        case measure => have := HG.out; have := HI2.out; omega
        case rel => exact ⟨i + 1, rfl, HI2.out, by go_num, HNx⟩
      · have HE : Hid ((pre ++ [(i, d)]).length ≤ R.length ∧ Ox cx (pre ++ [(i, d)]) ol2 W7) := ⟨by rw [List.length_append, HD.out.2.2, ← HN.out]; exact HD.out.2.1, hO7⟩
        clear ht hO7 HR HB5 HW4 HD hy
        gi_wp2
        go_wp2_with fail
        refine bodyPost_ret (results_none rfl _ _ _) rfl ?_
        exact ⟨⟨_, rfl⟩, .inr ⟨_, cx, ol2, HE.out.1, HE.out.2⟩⟩
    · obtain rfl : n = i := by omega
      obtain ⟨pre, ol', hpl, hO4, _⟩ := HX.out
      have x1 : ¬ (n : Int) < (n : Int) := by omega
      have HE := Lib.hid (And.intro hpl hO4)
      clear hlt hin HX HG hpl hO4
      go_wp2_with fail
      go_end0
      exact ⟨⟨_, rfl⟩, .inl ⟨pre, HE.out.1.trans HN.out, ol', HE.out.2⟩⟩
theorem keys_gift (nf Bs base tb mb ob B P cO cb cnt nb : Nat) (kb : Nat → Nat) (kf : Nat → Nat → Int) (m : Int → Option Sl) (R : List Sl) (hR : ListOf m R) (hc : cnt ≤ 1000) (hRl : R.length ≤ 1000) :
    IterGift nf Tryd.prog 36 #[.pointer (some ⟨cb, 0, none⟩)] encK (fun _ => []) Bs [] (fun pre x _ _ => VK R pre x) (fun xs => xs.length = R.length) (fun pre => pre.length ≤ R.length) (FindsK base tb mb ob B P cO kb kf m cnt nb cb) :=
  fun l O Ox ol W h1 h2 h3 h4 hB h0 hC => keys_iter nf Bs base tb mb ob B P cO cb cnt nb kb kf m R hR hc hRl l O Ox ol W h1 h2 h3 (fun pre x ol X hO hV => h4 pre x ol X hO hV) hB h0 hC
end Go.Proofs.YtpbckjagiebmjaaDoor.Tb
/- A table's Slots. By the verifier of shale. -/
namespace Go.Proofs.YtpbckjagiebmjaaDoor.Tb
open Go Go.RowKit Go.Maps Go.Sort
set_option linter.unusedVariables false
set_option linter.unusedSimpArgs false
set_option maxRecDepth 100000 in
set_option maxHeartbeats 2000000 in
theorem slots_coll {w : World} {base tb mb ob B P cO : Nat} {kb : Nat → Nat} {kf : Nat → Nat → Int} {m : Int → Option Sl} {cnt nb : Nat} (T : TabAt w base tb mb ob B P cO kb kf m cnt nb) (hc : cnt ≤ 1000) {cb : Nat} {Bk : Int} (hcb : w.cell? ⟨cb, 0, none⟩ = some (.int .i64 Bk))
    (hS : ∀ (wr : World) (v : Value) (L : List Sl), wr.ownsRow w.heap.size 47 9 v L.length (scells L) → L.length ≤ 1000 → Calls Tryd.prog 43 #[v, .func (.func 32) #[] #[]] wr (SortP w.heap.size v L Sl.p wr)) :
    Calls Tryd.prog 31 #[.pointer (some ⟨tb, 0, none⟩), .func (.func 32) #[] #[], .func (.func 33) #[] #[.pointer (some ⟨cb, 0, none⟩)]] w (SlotsP w m (fun s => decide (s.b = Bk)) Sl.p) := by
  obtain ⟨i0, hi, hz0, hz1, hz2⟩ := infoS
  have HT := Lib.hid T
  obtain ⟨k0, _, _⟩ := T.cells
  obtain ⟨D, hown, hsz, hD⟩ := T.map
  have HH : Hid (∀ k s, m k = some s → s.k = k ∧ (Lit.int .i64 k).wf = true) := fun k s hs => ⟨(HT.out.here k s hs).1, wf_key (HT.out.here k s hs).2.1 (HT.out.here k s hs).2.2.1⟩
  have HD := Lib.hid hD
  have HC := Lib.hid hc
  have HSO := Lib.hid hS
  have HCB := Lib.hid hcb
  clear T hD hc hS hcb
  go_enter Tryd.func31, Tryd.ntmps31
  go_wp2_with (first
    | (at_range; refine wpList_range_own _ rfl _ 69 rfl 3 47 keyI mapU slR mb nb D rfl hown ?_; intro w0 hrg0 hg0 hs0)
    | go_in)
  go_frame
  have HS : Hid (SrtI w m (fun s => decide (s.b = Bk)) cnt (.slice none 0 0) (Maps.has D) (Maps.size D) [] w0) := by
    refine ⟨World.ownsRow_nil _ _ _ _, Coll.start (fun k s hs => (HH.out k s hs).2) HD.out, by rw [hsz]; simp, ⟨hg0.os, hg0.tape, hg0.output, hg0.size, fun k hk => hg0.block k hk (by simp)⟩⟩
  clear hg0 hs0 hown
  obtain ⟨rb, hrb⟩ : ∃ rb, rb = w.heap.size := ⟨_, rfl⟩
  rw [← hrb] at hrg0 ⊢
  have HRB := Lib.hid hrb
  clear hrb
  go_loopw [7] (fun s7 wr => ∃ (left : Lit → Bool) (cn : Nat) (L : List Sl), wr.ranges Tryd.prog 3 slR mb rb nb D left cn ∧ Hid (SrtI w m (fun s => decide (s.b = Bk)) cnt s7 left cn L wr))
    (fun _ wr => wr.rangeLeft mb rb)
  case atStart => exact ⟨_, _, [], hrg0, HS⟩
  case round =>
    clear HS hrg0
    obtain ⟨left, cn, L, hrg, HX⟩ := hrel
    go_wp2_with (first
      | (at_next; refine wpList_next_ranges _ rfl _ rfl 3 keyI slR (Value.int .i64) slV keyInv (fun v y h => slR_some h) mb rb nb D left cn rfl hrg ?_ ?_)
      | go_in)
    · intro hc0 hl0
      go_wp2_with fail
      refine (HSO.out wr u7 L HX.out.1 (by have := HX.out.2.2.1; have := HC.out; omega)).mono ?_
      rintro e w' hp
      have hF := HX.out.fin HC.out hl0 hp
      obtain ⟨rfl, _⟩ := hp
      have HF := Lib.hid hF
      clear hF
      go_wp2_with fail
      go_ret
      exact HF.out
    · intro x c kl yd yp w1 cnt1 hkey hlk hv hat hrg1 hlt hg1 hs1 hen
      obtain ⟨x', ex, rfl, hwx⟩ := Maps.keyOf_int_inv Tryd.underlying3 hkey
      cases ex
      rw [slR_mk] at hv
      cases hv
      have hmx : m x = some c := by
        rcases HD.out x hwx with ⟨_, e⟩ | ⟨s, e1, _, e3⟩
        · have h1 := hat (.lit (.bool true))
          rw [Maps.atKey_of_not_has e] at h1
          cases h1
        · rw [e1, slD_inj ((e3 .nil).symm.trans (hat .nil))]
      have hne := row_ne_iter HX.out.1 hrg
      have HX1 : Hid (w1.ownsRow w.heap.size 47 9 u7 L.length (scells L) ∧ Below w.heap.size w w1 ∧ L.length + cnt1 < cnt ∧ some rb ≠ u7.ownBlock ∧ some mb ≠ u7.ownBlock ∧ L.length < 1000) := by
        obtain ⟨h1, h2, h3, h4⟩ := HX.out
        refine ⟨h1.kept hg1 (.inr (Ne.symm hne)), below_grown h4 hg1 fun k hk => by cases hk; rw [HRB.out]; exact Nat.le_refl _, by omega, hne, row_ne_low h1 HT.out.map.lt, by have := HC.out; omega⟩
      have HCo : Hid (Coll m (fun s => decide (s.b = Bk)) (fun z => left z && !z.sameKey (kL x)) (if decide (c.b = Bk) = true then L ++ [c] else L)) := HX.out.2.1.step (fun k s hs => (HH.out k s hs).1) hmx hlk
      clear hkey hlk hat hmx hne HX hs1 hwx
      go_upto_region 5 with (fail)
      generalize hw : w1.alloc (.cells #[.int .i64 c.k, .int .i64 c.b, .int .i64 c.p, .int .i64 c.m0, .int .i64 c.m1, .int .i64 c.m2, .int .i64 c.m3, .int .i64 c.m4, .int .i64 c.m5] 47 (0, 0)) = w2
      obtain ⟨J2, b2⟩ := newSl w1 w2 c hw
      clear hw
      obtain ⟨zb, hzb⟩ : ∃ zb, zb = w1.heap.size := ⟨_, rfl⟩
      rw [← hzb] at J2 ⊢
      clear hzb hen
      obtain ⟨z0, z1, z2, z3, z4, z5, z6, z7, z8⟩ := sl_cells9 (s := c) J2
      go_wp2_with fail
      refine (wantOf c w2 ((cell_heapT ((HX1.out.2.1.trans (b2.mono HX1.out.2.1.size)).block cb (World.block_lt_of_cell? w _ HCB.out))).trans HCB.out)).mono ?_
      rintro e w3 ⟨rfl, b3⟩
      have J3 := (b3.block zb (lt_of_block J2)).trans J2
      have b13 := b2.trans (b3.mono b2.size)
      clear z0 z1 z2 z3 z4 z5 z6 z7 z8 b2 b3 J2
      obtain ⟨z0, z1, z2, z3, z4, z5, z6, z7, z8⟩ := sl_cells9 (s := c) J3
      by_cases hw : c.b = Bk
      · rw [decide_eq_true hw] at HCo ⊢
        rw [if_pos rfl] at HCo
        clear hw
        have HRo : Hid ((w3.alloc (.cells #[.int .i64 c.k, .int .i64 c.b, .int .i64 c.p, .int .i64 c.m0, .int .i64 c.m1, .int .i64 c.m2, .int .i64 c.m3, .int .i64 c.m4, .int .i64 c.m5] 47 (0, 0))).ownsRow w.heap.size 47 9 u7 L.length (scells L)) := World.ownsRow.alloc (HX1.out.1.kept (grown_below b13 none) (by cases h : u7.ownBlock <;> simp)) _
        have HNW : Hid (∀ j u, (slC c)[j]? = some u → ((w3.alloc (.cells #[.int .i64 c.k, .int .i64 c.b, .int .i64 c.p, .int .i64 c.m0, .int .i64 c.m1, .int .i64 c.m2, .int .i64 c.m3, .int .i64 c.m4, .int .i64 c.m5] 47 (0, 0)))).cell? ((⟨w3.heap.size, 0, none⟩ : Addr).add j) = some u) := World.news_of_block (cs := #[.int .i64 c.k, .int .i64 c.b, .int .i64 c.p, .int .i64 c.m0, .int .i64 c.m1, .int .i64 c.m2, .int .i64 c.m3, .int .i64 c.m4, .int .i64 c.m5]) (fr := (0, 0)) (t := 47) (heap_alloc_new w3 _)
        have HON : Hid (∀ u ∈ slC c, u.oneCell' = true) := by
          intro u hu
          simp only [List.mem_cons, List.not_mem_nil, or_false] at hu
          rcases hu with rfl | rfl | rfl | rfl | rfl | rfl | rfl | rfl | rfl <;> rfl
        have HG3 : Hid (w1.grownBy (w3.alloc (.cells #[.int .i64 c.k, .int .i64 c.b, .int .i64 c.p, .int .i64 c.m0, .int .i64 c.m1, .int .i64 c.m2, .int .i64 c.m3, .int .i64 c.m4, .int .i64 c.m5] 47 (0, 0))) none) := grown_below (b13.trans ((Below.refl _ _).alloc b13.size _)) none
        have hL1 := HX1.out.2.2.2.2.2
        have hws : w.heap.size ≤ (w3.alloc (.cells #[.int .i64 c.k, .int .i64 c.b, .int .i64 c.p, .int .i64 c.m0, .int .i64 c.m1, .int .i64 c.m2, .int .i64 c.m3, .int .i64 c.m4, .int .i64 c.m5] 47 (0, 0))).heap.size := Nat.le_trans HX1.out.2.1.size HG3.out.size
        have HWS := Lib.hid hws
        clear J3 b13 hws
        go_wp2_with (first
          | (at_builtin; refine wpList_append_own_at _ rfl _ _ 55 rfl w.heap.size 47 i0 (slV zSl) 9 72 Tryd.underlying55 hi hz0 hz1 hz2 rfl (by decide) u7 L.length (scells L) rfl HRo.out ⟨w3.heap.size, 0, none⟩ 1 1 (slC c) rfl rfl HNW.out HON.out (by unfold maxLen; omega) (by omega) HWS.out ?_; intro v' w5 hown hgrow hnil hat)
          | go_in)
        have hrg2 := (hrg1.kept HG3.out (by simp) (by simp)).kept hgrow HX1.out.2.2.2.2.1 HX1.out.2.2.2.1
        go_roundw
        case rel =>
          refine ⟨_, cnt1, L ++ [c], hrg2, ?_⟩
          show SrtI _ _ _ _ _ _ _ _ _
          refine ⟨by rw [scells_snoc, List.length_append]; exact hown, HCo.out, by have := HX1.out.2.2.1; simp; omega, below_grown (below_grown HX1.out.2.1 HG3.out fun k hk => by cases hk) hgrow fun k hk => (HRo.out.lt k hk).1⟩
        case measure => rw [hrg2.left_eq, hrg.left_eq]; exact hlt
      · rw [decide_eq_false hw] at HCo ⊢
        rw [if_neg (by decide)] at HCo
        clear hw
        have hg3 := grown_below b13 none
        have hrg2 := hrg1.kept hg3 (by simp) (by simp)
        have HX3 : Hid (SrtI w m (fun s => decide (s.b = Bk)) cnt u7 (fun z => left z && !z.sameKey (kL x)) cnt1 L w3) := ⟨HX1.out.1.kept hg3 (by cases h : u7.ownBlock <;> simp), HCo.out, by have := HX1.out.2.2.1; omega, below_grown HX1.out.2.1 hg3 fun k hk => by cases hk⟩
        clear z0 z1 z2 z3 z4 z5 z6 z7 z8 J3 hg3 b13
        go_wp2_with fail
        go_roundw
        case rel => exact ⟨_, cnt1, L, hrg2, HX3⟩
        case measure => rw [hrg2.left_eq, hrg.left_eq]; exact hlt
end Go.Proofs.YtpbckjagiebmjaaDoor.Tb
/- A table's Slots, called. By the verifier of shale. -/
namespace Go.Proofs.YtpbckjagiebmjaaDoor.Tb
open Go Go.RowKit Go.Maps Go.Sort
set_option linter.unusedVariables false
set_option linter.unusedSimpArgs false
set_option maxRecDepth 100000 in
set_option maxHeartbeats 2000000 in
theorem slots_any {w : World} {base tb mb ob B P cO : Nat} {kb : Nat → Nat} {kf : Nat → Nat → Int} {m : Int → Option Sl} {cnt nb : Nat} (T : TabAt w base tb mb ob B P cO kb kf m cnt nb) (hc : cnt ≤ 1000) (Bk : Int) :
    Calls Tryd.prog 21 #[.pointer (some ⟨tb, 0, none⟩), .int .i64 Bk] w fun e w' => ∃ v L, e = .returned v ∧ w'.ownsRow w.heap.size 47 9 v L.length (scells L) ∧ (∀ s, s ∈ L ↔ m s.k = some s ∧ s.b = Bk) ∧ (L.map Sl.k).Nodup ∧ L.Pairwise (fun x y => x.p ≤ y.p) ∧ L.length ≤ 1000 ∧ Below w.heap.size w w' := by
  have HT := Lib.hid (And.intro T hc)
  clear T hc
  go_enter Tryd.func21, Tryd.ntmps21
  go_upto_region 1 with (fail)
  generalize hw : w.alloc (.cells #[.int .i64 Bk] 3 (0, 0)) = w1
  have J1 : w1.heap[w.heap.size]? = some (.cells #[.int .i64 Bk] 3 (0, 0)) := by rw [← hw]; exact heap_alloc_new w _
  have b1 : Below w.heap.size w w1 := by rw [← hw]; exact (Below.refl _ _).alloc (Nat.le_refl _) _
  clear hw
  obtain ⟨cb, hcb⟩ : ∃ cb, cb = w.heap.size := ⟨_, rfl⟩
  rw [← hcb] at J1 ⊢
  have HB := Lib.hid b1
  have hcc : w1.cell? ⟨cb, 0, none⟩ = some (.int .i64 Bk) := by unfold World.cell?; simp only; rw [J1]; rfl
  have HA := Lib.hid (slots_coll (HT.out.1.below b1) HT.out.2 hcc (fun wr v L h hl => sort_g enterP laysP w1.heap.size wr v L h hl))
  clear J1 b1 hcb hcc
  go_wp2_with fail
  refine HA.out.mono ?_
  rintro e w' ⟨v, L, rfl, h1, h2, h3, h4, h5, h6⟩
  have HF : Hid (w'.ownsRow w.heap.size 47 9 v L.length (scells L) ∧ (∀ s, s ∈ L ↔ m s.k = some s ∧ s.b = Bk) ∧ (L.map Sl.k).Nodup ∧ L.Pairwise (fun x y => x.p ≤ y.p) ∧ L.length ≤ 1000 ∧ Below w.heap.size w w') := by
    refine ⟨⟨h1.1, ?_⟩, fun s => by rw [h2 s]; simp, h3, h4, h5, HB.out.trans (h6.mono HB.out.size)⟩
    rcases h1.2 with h | ⟨g, cap, cur, e1, e2, e3⟩
    · exact .inl h
    · exact .inr ⟨g, cap, cur, e1, by have := HB.out.size; omega, e3⟩
  clear h1 h2 h3 h4 h5 h6
  go_wp2_with fail
  go_ret
  exact ⟨v, L, rfl, HF.out⟩
end Go.Proofs.YtpbckjagiebmjaaDoor.Tb
/- A table's Get. By the verifier of shale. -/
namespace Go.Proofs.YtpbckjagiebmjaaDoor.Tb
open Go Go.RowKit
set_option linter.unusedVariables false
set_option linter.unusedSimpArgs false
/-- a slot, written over another. -/
theorem set9 (w2 : World) (zb : Nat) (z s : Sl) (J : w2.heap[zb]? = some (.cells #[.int .i64 z.k, .int .i64 z.b, .int .i64 z.p, .int .i64 z.m0, .int .i64 z.m1, .int .i64 z.m2, .int .i64 z.m3, .int .i64 z.m4, .int .i64 z.m5] 47 (0, 0))) : (((((((((w2.setCell ⟨zb, 0, none⟩ (.int .i64 s.k)).setCell ⟨zb, 1, none⟩ (.int .i64 s.b)).setCell ⟨zb, 2, none⟩ (.int .i64 s.p)).setCell ⟨zb, 3, none⟩ (.int .i64 s.m0)).setCell ⟨zb, 4, none⟩ (.int .i64 s.m1)).setCell ⟨zb, 5, none⟩ (.int .i64 s.m2)).setCell ⟨zb, 6, none⟩ (.int .i64 s.m3)).setCell ⟨zb, 7, none⟩ (.int .i64 s.m4)).setCell ⟨zb, 8, none⟩ (.int .i64 s.m5)).heap[zb]? = some (.cells #[.int .i64 s.k, .int .i64 s.b, .int .i64 s.p, .int .i64 s.m0, .int .i64 s.m1, .int .i64 s.m2, .int .i64 s.m3, .int .i64 s.m4, .int .i64 s.m5] 47 (0, 0)) ∧ Only zb w2 (((((((((w2.setCell ⟨zb, 0, none⟩ (.int .i64 s.k)).setCell ⟨zb, 1, none⟩ (.int .i64 s.b)).setCell ⟨zb, 2, none⟩ (.int .i64 s.p)).setCell ⟨zb, 3, none⟩ (.int .i64 s.m0)).setCell ⟨zb, 4, none⟩ (.int .i64 s.m1)).setCell ⟨zb, 5, none⟩ (.int .i64 s.m2)).setCell ⟨zb, 6, none⟩ (.int .i64 s.m3)).setCell ⟨zb, 7, none⟩ (.int .i64 s.m4)).setCell ⟨zb, 8, none⟩ (.int .i64 s.m5)) := by
  have o0 : Only zb w2 w2 := Only.refl _ _
  have o1 := o0.trans (Only.setCell w2 ⟨zb, 0, none⟩ (.int .i64 s.k))
  have j0 : (w2.setCell ⟨zb, 0, none⟩ (.int .i64 s.k)).heap[zb]? = some (.cells #[.int .i64 s.k, .int .i64 z.b, .int .i64 z.p, .int .i64 z.m0, .int .i64 z.m1, .int .i64 z.m2, .int .i64 z.m3, .int .i64 z.m4, .int .i64 z.m5] 47 (0, 0)) := heap_setCell_same _ _ 0 _ _ _ J
  generalize w2.setCell ⟨zb, 0, none⟩ (.int .i64 s.k) = u1 at o1 j0 ⊢
  have o2 := o1.trans (Only.setCell u1 ⟨zb, 1, none⟩ (.int .i64 s.b))
  have j1 : (u1.setCell ⟨zb, 1, none⟩ (.int .i64 s.b)).heap[zb]? = some (.cells #[.int .i64 s.k, .int .i64 s.b, .int .i64 z.p, .int .i64 z.m0, .int .i64 z.m1, .int .i64 z.m2, .int .i64 z.m3, .int .i64 z.m4, .int .i64 z.m5] 47 (0, 0)) := heap_setCell_same _ _ 1 _ _ _ j0
  generalize u1.setCell ⟨zb, 1, none⟩ (.int .i64 s.b) = u2 at o2 j1 ⊢
  have o3 := o2.trans (Only.setCell u2 ⟨zb, 2, none⟩ (.int .i64 s.p))
  have j2 : (u2.setCell ⟨zb, 2, none⟩ (.int .i64 s.p)).heap[zb]? = some (.cells #[.int .i64 s.k, .int .i64 s.b, .int .i64 s.p, .int .i64 z.m0, .int .i64 z.m1, .int .i64 z.m2, .int .i64 z.m3, .int .i64 z.m4, .int .i64 z.m5] 47 (0, 0)) := heap_setCell_same _ _ 2 _ _ _ j1
  generalize u2.setCell ⟨zb, 2, none⟩ (.int .i64 s.p) = u3 at o3 j2 ⊢
  have o4 := o3.trans (Only.setCell u3 ⟨zb, 3, none⟩ (.int .i64 s.m0))
  have j3 : (u3.setCell ⟨zb, 3, none⟩ (.int .i64 s.m0)).heap[zb]? = some (.cells #[.int .i64 s.k, .int .i64 s.b, .int .i64 s.p, .int .i64 s.m0, .int .i64 z.m1, .int .i64 z.m2, .int .i64 z.m3, .int .i64 z.m4, .int .i64 z.m5] 47 (0, 0)) := heap_setCell_same _ _ 3 _ _ _ j2
  generalize u3.setCell ⟨zb, 3, none⟩ (.int .i64 s.m0) = u4 at o4 j3 ⊢
  have o5 := o4.trans (Only.setCell u4 ⟨zb, 4, none⟩ (.int .i64 s.m1))
  have j4 : (u4.setCell ⟨zb, 4, none⟩ (.int .i64 s.m1)).heap[zb]? = some (.cells #[.int .i64 s.k, .int .i64 s.b, .int .i64 s.p, .int .i64 s.m0, .int .i64 s.m1, .int .i64 z.m2, .int .i64 z.m3, .int .i64 z.m4, .int .i64 z.m5] 47 (0, 0)) := heap_setCell_same _ _ 4 _ _ _ j3
  generalize u4.setCell ⟨zb, 4, none⟩ (.int .i64 s.m1) = u5 at o5 j4 ⊢
  have o6 := o5.trans (Only.setCell u5 ⟨zb, 5, none⟩ (.int .i64 s.m2))
  have j5 : (u5.setCell ⟨zb, 5, none⟩ (.int .i64 s.m2)).heap[zb]? = some (.cells #[.int .i64 s.k, .int .i64 s.b, .int .i64 s.p, .int .i64 s.m0, .int .i64 s.m1, .int .i64 s.m2, .int .i64 z.m3, .int .i64 z.m4, .int .i64 z.m5] 47 (0, 0)) := heap_setCell_same _ _ 5 _ _ _ j4
  generalize u5.setCell ⟨zb, 5, none⟩ (.int .i64 s.m2) = u6 at o6 j5 ⊢
  have o7 := o6.trans (Only.setCell u6 ⟨zb, 6, none⟩ (.int .i64 s.m3))
  have j6 : (u6.setCell ⟨zb, 6, none⟩ (.int .i64 s.m3)).heap[zb]? = some (.cells #[.int .i64 s.k, .int .i64 s.b, .int .i64 s.p, .int .i64 s.m0, .int .i64 s.m1, .int .i64 s.m2, .int .i64 s.m3, .int .i64 z.m4, .int .i64 z.m5] 47 (0, 0)) := heap_setCell_same _ _ 6 _ _ _ j5
  generalize u6.setCell ⟨zb, 6, none⟩ (.int .i64 s.m3) = u7 at o7 j6 ⊢
  have o8 := o7.trans (Only.setCell u7 ⟨zb, 7, none⟩ (.int .i64 s.m4))
  have j7 : (u7.setCell ⟨zb, 7, none⟩ (.int .i64 s.m4)).heap[zb]? = some (.cells #[.int .i64 s.k, .int .i64 s.b, .int .i64 s.p, .int .i64 s.m0, .int .i64 s.m1, .int .i64 s.m2, .int .i64 s.m3, .int .i64 s.m4, .int .i64 z.m5] 47 (0, 0)) := heap_setCell_same _ _ 7 _ _ _ j6
  generalize u7.setCell ⟨zb, 7, none⟩ (.int .i64 s.m4) = u8 at o8 j7 ⊢
  have o9 := o8.trans (Only.setCell u8 ⟨zb, 8, none⟩ (.int .i64 s.m5))
  have j8 : (u8.setCell ⟨zb, 8, none⟩ (.int .i64 s.m5)).heap[zb]? = some (.cells #[.int .i64 s.k, .int .i64 s.b, .int .i64 s.p, .int .i64 s.m0, .int .i64 s.m1, .int .i64 s.m2, .int .i64 s.m3, .int .i64 s.m4, .int .i64 s.m5] 47 (0, 0)) := heap_setCell_same _ _ 8 _ _ _ j7
  generalize u8.setCell ⟨zb, 8, none⟩ (.int .i64 s.m5) = u9 at o9 j8 ⊢
  exact ⟨j8, o9⟩
set_option maxRecDepth 100000 in
set_option maxHeartbeats 2000000 in
theorem get_any {w : World} {base tb mb ob B P cO : Nat} {kb : Nat → Nat} {kf : Nat → Nat → Int} {m : Int → Option Sl} {cnt nb : Nat} (T : TabAt w base tb mb ob B P cO kb kf m cnt nb) {k : Int} (hk : (Lit.int .i64 k).wf = true) : Calls Tryd.prog 14 #[.pointer (some ⟨tb, 0, none⟩), .int .i64 k] w fun e w' => e = .returned (.tuple #[slV ((m k).getD zSl), .bool (m k).isSome]) ∧ Below w.heap.size w w' := by
  have HT := Lib.hid (And.intro T hk)
  obtain ⟨s, hs⟩ : ∃ s, s = (m k).getD zSl := ⟨_, rfl⟩
  obtain ⟨r, hr⟩ : ∃ r, r = (m k).isSome := ⟨_, rfl⟩
  rw [← hs, ← hr]
  have HSR := Lib.hid (And.intro hs hr)
  clear T hk hs hr
  go_enter Tryd.func14, Tryd.ntmps14
  go_upto_region 1 with (fail)
  generalize hw : w.alloc (.cells #[.int .i64 0, .int .i64 0, .int .i64 0, .int .i64 0, .int .i64 0, .int .i64 0, .int .i64 0, .int .i64 0, .int .i64 0] 47 (0, 0)) = w1
  obtain ⟨J1, b1⟩ := newSl w w1 zSl hw
  clear hw
  obtain ⟨zb, hzb⟩ : ∃ zb, zb = w.heap.size := ⟨_, rfl⟩
  rw [← hzb] at J1 ⊢
  have HZ : Hid (w.heap.size ≤ zb) := by rw [hzb]; exact Nat.le_refl _
  have T1 := HT.out.1.below b1
  have hl := T1.map.look HT.out.2
  obtain ⟨k0, _, _⟩ := T1.cells
  rw [← HSR.out.1, ← HSR.out.2] at hl
  clear hzb T1
  go_upto_region 2 with (fail)
  generalize hw : w1.alloc (.cells #[.int .i64 s.k, .int .i64 s.b, .int .i64 s.p, .int .i64 s.m0, .int .i64 s.m1, .int .i64 s.m2, .int .i64 s.m3, .int .i64 s.m4, .int .i64 s.m5] 47 (0, 0)) = w2
  obtain ⟨J2, b2⟩ := newSl w1 w2 s hw
  clear hw hl k0
  obtain ⟨yb, hyb⟩ : ∃ yb, yb = w1.heap.size := ⟨_, rfl⟩
  rw [← hyb] at J2 ⊢
  clear hyb
  replace J1 := (b2.block zb (lt_of_block J1)).trans J1
  have HB : Hid (Below w.heap.size w w2) := b1.trans (b2.mono b1.size)
  obtain ⟨z0, z1, z2, z3, z4, z5, z6, z7, z8⟩ := sl_cells9 (s := zSl) J1
  obtain ⟨y0, y1, y2, y3, y4, y5, y6, y7, y8⟩ := sl_cells9 (s := s) J2
  have fz : ∀ i, w2.frozen? ⟨zb, i, none⟩ = false := fun i => by unfold World.frozen?; simp only; rw [J1]; rfl
  have f0 := fz 0
  have f1 := fz 1
  have f2 := fz 2
  have f3 := fz 3
  have f4 := fz 4
  have f5 := fz 5
  have f6 := fz 6
  have f7 := fz 7
  have f8 := fz 8
  have HKO := Lib.hid (set9 w2 zb zSl s J1)
  have HBB := Lib.hid HB.out
  clear b1 b2 J1 J2 fz HB
  go_wp2_with fail
  have hO := HBB.out.trans (HKO.out.2.below HZ.out)
  obtain ⟨c0, c1, c2, c3, c4, c5, c6, c7, c8⟩ := sl_cells9 (s := s) HKO.out.1
  generalize (((((((((w2.setCell ⟨zb, 0, none⟩ (.int .i64 s.k)).setCell ⟨zb, 1, none⟩ (.int .i64 s.b)).setCell ⟨zb, 2, none⟩ (.int .i64 s.p)).setCell ⟨zb, 3, none⟩ (.int .i64 s.m0)).setCell ⟨zb, 4, none⟩ (.int .i64 s.m1)).setCell ⟨zb, 5, none⟩ (.int .i64 s.m2)).setCell ⟨zb, 6, none⟩ (.int .i64 s.m3)).setCell ⟨zb, 7, none⟩ (.int .i64 s.m4)).setCell ⟨zb, 8, none⟩ (.int .i64 s.m5)) = w3 at c0 c1 c2 c3 c4 c5 c6 c7 c8 hO ⊢
  exact bodyPost_ret (v := .tuple #[slV s, .bool r]) (by simp [results, Tryd.results14, go_sem, c0, c1, c2, c3, c4, c5, c6, c7, c8]) rfl ⟨rfl, hO⟩
end Go.Proofs.YtpbckjagiebmjaaDoor.Tb
/- The document's table: its Of. By the verifier of shale. -/
namespace Go.Proofs.YtpbckjagiebmjaaDoor.Tb
open Go Go.RowKit
set_option linter.unusedVariables false
set_option linter.unusedSimpArgs false
def isAt (Bk : Int) (p : Nat) (s : Sl) : Bool := s.b == Bk && s.p == (p : Int)
def ofL (R : List Sl) (Bk : Int) (P : Nat) : List Sl := (List.range P).flatMap fun q => R.filter (isAt Bk q)
def ofN (R : List Sl) (Bk : Int) (p i : Nat) : List Sl := ofL R Bk p ++ (R.take i).filter (isAt Bk p)
theorem ofN_zero (R : List Sl) (Bk : Int) (p : Nat) : ofN R Bk p 0 = ofL R Bk p := by unfold ofN; simp
theorem ofN_next (R : List Sl) (Bk : Int) (p : Nat) : ofN R Bk p R.length = ofL R Bk (p + 1) := by
  unfold ofN ofL
  rw [List.take_of_length_le (Nat.le_refl _), List.range_succ, List.flatMap_append]
  simp
theorem ofN_step (R : List Sl) (Bk : Int) (p : Nat) {i : Nat} (hi : i < R.length) : ofN R Bk p (i + 1) = if isAt Bk p (R[i]!) = true then ofN R Bk p i ++ [R[i]!] else ofN R Bk p i := by
  unfold ofN
  rw [List.take_add_one, List.getElem?_eq_getElem hi, getElem!_pos R i hi]
  simp only [Option.toList, List.filter_append]
  by_cases h : isAt Bk p R[i] = true
  · rw [if_pos h, List.filter_cons_of_pos h]; simp
  · rw [if_neg h, List.filter_cons_of_neg h]; simp
def OwnO (w : World) (v : Value) (L : List Sl) (b : Nat) (wx : World) : Prop := wx.ownsRow w.heap.size 52 9 v L.length (scells L) ∧ Below w.heap.size w wx ∧ L.length ≤ b
set_option maxRecDepth 100000 in
set_option maxHeartbeats 4000000 in
theorem tof_any {w : World} {base xb c P : Nat} {Bl : Int} {a : Option Addr} {R : List Sl} (Q : RefT w base xb Bl (P : Int) a c R) (hL : R.length ≤ 1000) (hP : P ≤ 64) (Bk : Int) :
    Calls Tryd.prog 20 #[.pointer (some ⟨xb, 0, none⟩), .int .i64 Bk] w fun e w' => ∃ v, e = .returned v ∧ OwnO w v (ofL R Bk P) 64000 w' := by
  obtain ⟨i0, hi, hz0, hz1, hz2⟩ := infoT
  obtain ⟨n, hn⟩ : ∃ n, n = R.length := ⟨_, rfl⟩
  have HK : Hid (∀ W, Below w.heap.size w W → W.cell? ⟨xb, 1, none⟩ = some (.int .i64 (P : Int)) ∧ W.cell? ⟨xb, 2, none⟩ = some (.slice a n c)) := fun W d => by rw [hn]; exact ⟨(Q.below d).cell.2.1, (Q.below d).cell.2.2.1⟩
  have HIt : Hid (∀ W, Below w.heap.size w W → ∀ i, i < n → ∃ g o, a = some ⟨g, o, none⟩ ∧ SlAt W g (o + i * 9) (R[i]!)) := fun W d i hi => by
    obtain ⟨g, o, h1, _, h2⟩ := (Q.below d).item (i := i) (by rw [← hn]; exact hi)
    exact ⟨g, o, h1, h2⟩
  have HS : Hid (OwnO w (.slice none 0 0) (ofL R Bk 0) (0 * n) w) := ⟨World.ownsRow_nil _ _ _ _, Below.refl _ _, Nat.zero_le _⟩
  rw [← hn] at hL
  have HN := Lib.hid (And.intro hn hL)
  have hLi : (n : Int) ≤ 1000 := by omega
  have hPi : (P : Int) ≤ 64 := by omega
  clear Q hn hL
  go_enter Tryd.func20, Tryd.ntmps20
  go_wp2_with fail
  go_loopg [5, 6] P (fun gh s5 s6 wx => ∃ (p : Nat) (v : Value), gh = P - p ∧ p ≤ P ∧ v = s5 ∧ s6 = .int .i64 (p : Int) ∧ Hid (OwnO w v (ofL R Bk p) (p * n) wx))
  case atStart => exact ⟨0, _, rfl, Nat.zero_le _, rfl, rfl, HS⟩
  case round =>
    clear HS
    obtain ⟨p, v, hg, hpP, rfl, rfl, HX⟩ := hrel
    have HG := Lib.hid hg
    clear hg
    obtain ⟨k1, k2⟩ := HK.out wr HX.out.2.1
    have x0 : (0 : Int) ≤ (p : Int) := by omega
    have x2 : (p : Int) ≤ 64 := by omega
    by_cases hlt : p < P
    · have x1 : (p : Int) < (P : Int) := by omega
      have HP := Lib.hid (And.intro hlt hpP)
      have HI0 : Hid (OwnO w v (ofN R Bk p 0) (p * n + 0) wr) := by rw [ofN_zero]; exact HX.out
      clear hlt hpP HX
      go_wp2_with fail
      clear k1 k2
      go_loopg [5, 7] n (fun gh s5 s7 wx => ∃ (i : Nat) (v : Value), gh = n - i ∧ i ≤ n ∧ v = s5 ∧ s7 = .int .i64 (i : Int) ∧ Hid (OwnO w v (ofN R Bk p i) (p * n + i) wx))
      case atStart => exact ⟨0, _, rfl, Nat.zero_le _, rfl, rfl, HI0⟩
      case round =>
        clear HI0
        obtain ⟨i, v, hg, hin, rfl, rfl, HX⟩ := hrel
        have HG2 := Lib.hid (And.intro hg hin)
        clear hg
        obtain ⟨k1, k2⟩ := HK.out wr HX.out.2.1
        have y0 : (0 : Int) ≤ (i : Int) := by omega
        have y2 : (i : Int) ≤ 1000 := by omega
        by_cases hlt2 : i < n
        · have y1 : (i : Int) < (n : Int) := by omega
          obtain ⟨g, o, rfl, z0, z1, z2, z3, z4, z5, z6, z7, z8⟩ := HIt.out wr HX.out.2.1 i hlt2
          have hst := ofN_step R Bk p (i := i) (by rw [← HN.out.1]; exact hlt2)
          obtain ⟨s, hs⟩ : ∃ s, s = R[i]! := ⟨_, rfl⟩
          rw [← hs] at hst z0 z1 z2 z3 z4 z5 z6 z7 z8
          have HL2 := Lib.hid hlt2
          clear hs hlt2 hin
          by_cases e1 : s.b = Bk
          · have q1 : (s.b == Bk) = true := by simp [e1]
            by_cases e2 : s.p = (p : Int)
            · have q2 : (s.p == (p : Int)) = true := by simp [e2]
              have hat : isAt Bk p s = true := by unfold isAt; rw [q1, q2]; rfl
              rw [if_pos hat] at hst
              have HST := Lib.hid hst
              clear hst hat e1 e2
              have HRo : Hid ((wr.alloc (.cells #[.int .i64 s.k, .int .i64 s.b, .int .i64 s.p, .int .i64 s.m0, .int .i64 s.m1, .int .i64 s.m2, .int .i64 s.m3, .int .i64 s.m4, .int .i64 s.m5] 52 (0, 0))).ownsRow w.heap.size 52 9 v (ofN R Bk p i).length (scells (ofN R Bk p i))) := World.ownsRow.alloc HX.out.1 _
              have HNW : Hid (∀ j u, (slC s)[j]? = some u → ((wr.alloc (.cells #[.int .i64 s.k, .int .i64 s.b, .int .i64 s.p, .int .i64 s.m0, .int .i64 s.m1, .int .i64 s.m2, .int .i64 s.m3, .int .i64 s.m4, .int .i64 s.m5] 52 (0, 0)))).cell? ((⟨wr.heap.size, 0, none⟩ : Addr).add j) = some u) := World.news_of_block (cs := #[.int .i64 s.k, .int .i64 s.b, .int .i64 s.p, .int .i64 s.m0, .int .i64 s.m1, .int .i64 s.m2, .int .i64 s.m3, .int .i64 s.m4, .int .i64 s.m5]) (fr := (0, 0)) (t := 52) (heap_alloc_new wr _)
              have HON : Hid (∀ u ∈ slC s, u.oneCell' = true) := by
                intro u hu
                simp only [List.mem_cons, List.not_mem_nil, or_false] at hu
                rcases hu with rfl | rfl | rfl | rfl | rfl | rfl | rfl | rfl | rfl <;> rfl
              have HB3 : Hid (Below w.heap.size w (wr.alloc (.cells #[.int .i64 s.k, .int .i64 s.b, .int .i64 s.p, .int .i64 s.m0, .int .i64 s.m1, .int .i64 s.m2, .int .i64 s.m3, .int .i64 s.m4, .int .i64 s.m5] 52 (0, 0)))) := HX.out.2.1.alloc HX.out.2.1.size _
              have HWS : Hid (w.heap.size ≤ (wr.alloc (.cells #[.int .i64 s.k, .int .i64 s.b, .int .i64 s.p, .int .i64 s.m0, .int .i64 s.m1, .int .i64 s.m2, .int .i64 s.m3, .int .i64 s.m4, .int .i64 s.m5] 52 (0, 0))).heap.size) := HB3.out.size
              have hL1 : (ofN R Bk p i).length ≤ 64000 := by
                have h1 := HX.out.2.2
                have h2 : p * n ≤ 63 * 1000 := Nat.mul_le_mul (by have := HP.out.1; omega) (by omega)
                have h3 := HL2.out
                omega
              have HV := Lib.hid HX.out.2.2
              have HLv := Lib.hid (fun k (hk : v.ownBlock = some k) => (HX.out.1.lt k hk).1)
              clear HX
              go_wp2_with (first
                | (at_builtin; refine wpList_append_own_at _ rfl _ _ 32 rfl w.heap.size 52 i0 (.agg zC) 9 72 Tryd.underlying32 hi hz0 hz1 hz2 rfl (by decide) v (ofN R Bk p i).length (scells (ofN R Bk p i)) rfl HRo.out ⟨wr.heap.size, 0, none⟩ 1 1 (slC s) rfl rfl HNW.out HON.out (by unfold maxLen; omega) (by omega) HWS.out ?_; intro v' w5 hown hgrow hnil hat)
                | go_in)
              have HN2 : Hid (OwnO w v' (ofN R Bk p (i + 1)) (p * n + (i + 1)) w5) := by
                rw [HST.out]
                refine ⟨by rw [scells_snoc, List.length_append]; exact hown, HB3.out.grown hgrow HWS.out fun k hk => HLv.out k hk, by rw [List.length_append]; have := HV.out; simp only [List.length_cons, List.length_nil]; omega⟩
              clear hown hgrow hnil hat HNW HRo HON
              go_roundg (n - (i + 1))
              case measure => have := HG2.out; have := HL2.out; omega
              case rel => exact ⟨i + 1, v', rfl, HL2.out, rfl, by go_num, HN2⟩
            · have q2 : (s.p == (p : Int)) = false := by simp [e2]
              have hat : isAt Bk p s = false := by unfold isAt; rw [q1, q2]; rfl
              rw [hat, if_neg (by decide)] at hst
              have HN2 : Hid (OwnO w v (ofN R Bk p (i + 1)) (p * n + (i + 1)) wr) := by rw [hst]; exact ⟨HX.out.1, HX.out.2.1, by have := HX.out.2.2; omega⟩
              clear hst hat e1 e2 HX
              go_wp2_with fail
              go_roundg (n - (i + 1))
              case measure => have := HG2.out; have := HL2.out; omega
              case rel => exact ⟨i + 1, v, rfl, HL2.out, rfl, by go_num, HN2⟩
          · have q1 : (s.b == Bk) = false := by simp [e1]
            have hat : isAt Bk p s = false := by unfold isAt; rw [q1]; rfl
            rw [hat, if_neg (by decide)] at hst
            have HN2 : Hid (OwnO w v (ofN R Bk p (i + 1)) (p * n + (i + 1)) wr) := by rw [hst]; exact ⟨HX.out.1, HX.out.2.1, by have := HX.out.2.2; omega⟩
            clear hst hat e1 HX
            go_wp2_with fail
            go_roundg (n - (i + 1))
            case measure => have := HG2.out; have := HL2.out; omega
            case rel => exact ⟨i + 1, v, rfl, HL2.out, rfl, by go_num, HN2⟩
        · obtain rfl : i = n := by omega
          have HN2 : Hid (OwnO w v (ofL R Bk (p + 1)) ((p + 1) * i) wr) := by
            have h := HX.out
            rw [HN.out.1] at h
            rw [ofN_next] at h
            rw [Nat.add_mul, Nat.one_mul]
            have e := HN.out.1
            rw [← e] at h
            exact h
          have HP1 := HP.out.1
          clear HX
          go_wp2_with fail
          go_roundg (P - (p + 1))
          case measure => have := HG.out; omega
          case rel => exact ⟨p + 1, v, rfl, HP1, rfl, by go_num, HN2⟩
    · obtain rfl : p = P := by omega
      have HF : Hid (OwnO w v (ofL R Bk p) 64000 wr) := ⟨HX.out.1, HX.out.2.1, by
        have h1 := HX.out.2.2
        have h2 : p * n ≤ 64 * 1000 := Nat.mul_le_mul (by omega) (by omega)
        omega⟩
      clear HX
      go_wp2_with fail
      go_ret
      exact ⟨v, rfl, HF.out⟩
end Go.Proofs.YtpbckjagiebmjaaDoor.Tb
/- The statement's slots: a table's list, as the document has it. By the verifier of shale. -/
namespace Go.Proofs.YtpbckjagiebmjaaDoor.Tb
open Go Go.RowKit
set_option linter.unusedVariables false
set_option linter.unusedSimpArgs false
def OwnQ (w : World) (v : Value) (L : List Sl) (wx : World) : Prop := wx.ownsRow w.heap.size 52 9 v L.length (scells L) ∧ Below w.heap.size w wx
set_option maxRecDepth 100000 in
set_option maxHeartbeats 4000000 in
theorem out_any {w : World} {a : Option Addr} {n c : Nat} {L : List Sl} (h1 : RdS w a L) (hn : n = L.length) (hL : L.length ≤ 5000) :
    Calls Tryd.prog 17 #[.slice a n c] w fun e w' => ∃ v, e = .returned v ∧ OwnQ w v L w' := by
  obtain ⟨i0, hi, hz0, hz1, hz2⟩ := infoT
  have HA := Lib.hid h1
  have HN := Lib.hid (And.intro hn hL)
  have hn1 : (n : Int) ≤ 5000 := by omega
  have HS : Hid (OwnQ w (.slice none 0 0) (L.take 0) w) := ⟨World.ownsRow_nil _ _ _ _, Below.refl _ _⟩
  clear h1 hn hL
  go_enter Tryd.func17, Tryd.ntmps17
  go_wp2_with fail
  go_loopg [3, 4] n (fun gh s3 s4 wx => ∃ (i : Nat) (v : Value), gh = n - i ∧ i ≤ n ∧ v = s3 ∧ s4 = .int .i64 (i : Int) ∧ Hid (OwnQ w v (L.take i) wx))
  case atStart => exact ⟨0, _, rfl, Nat.zero_le _, rfl, rfl, HS⟩
  case round =>
    clear HS
    obtain ⟨i, v, hg, hin, rfl, rfl, HX⟩ := hrel
    have HG := Lib.hid (And.intro hg hin)
    clear hg
    have y0 : (0 : Int) ≤ (i : Int) := by omega
    have y2 : (i : Int) ≤ 5000 := by omega
    by_cases hlt : i < n
    · have y1 : (i : Int) < (n : Int) := by omega
      have hil : i < L.length := by rw [← HN.out.1]; exact hlt
      have hb0 : Below wr.heap.size wr wr.drew := (Drawn.mk wr 1).below _
      obtain ⟨g, o, rfl, hg1, z0, z1, z2, z3, z4, z5, z6, z7, z8⟩ := ((HA.out.below HX.out.2).below hb0) i hil
      have htk : L.take (i + 1) = L.take i ++ [L[i]!] := by
        rw [List.take_add_one, List.getElem?_eq_getElem hil, getElem!_pos L i hil]
        rfl
      obtain ⟨s, hs⟩ : ∃ s, s = L[i]! := ⟨_, rfl⟩
      have HS9 := Lib.hid hs
      rw [← hs] at htk z0 z1 z2 z3 z4 z5 z6 z7 z8
      have hl0 : (L.take i).length = i := by rw [List.length_take]; omega
      have HL2 := Lib.hid (And.intro hlt (And.intro htk hl0))
      clear hs hlt hin hg1 htk hl0 hil
      go_upto_region 5 with (fail)
      have HD6 : Hid (OwnQ w v (L.take i) wr.drew) := ⟨HX.out.1.kept (grown_below hb0 none) (by cases h : v.ownBlock <;> simp), HX.out.2.trans (hb0.mono HX.out.2.size)⟩
      have hba : Below wr.heap.size wr ((wr.alloc (.cells #[.int .i64 s.k, .int .i64 s.b, .int .i64 s.p, .int .i64 s.m0, .int .i64 s.m1, .int .i64 s.m2, .int .i64 s.m3, .int .i64 s.m4, .int .i64 s.m5] 52 (0, 0))).drew) := ((Below.refl wr.heap.size wr).alloc (Nat.le_refl _) _).drew
      have hown0 : ((wr.alloc (.cells #[.int .i64 s.k, .int .i64 s.b, .int .i64 s.p, .int .i64 s.m0, .int .i64 s.m1, .int .i64 s.m2, .int .i64 s.m3, .int .i64 s.m4, .int .i64 s.m5] 52 (0, 0))).drew).ownsRow w.heap.size 52 9 v i (scells (L.take i)) := by
        have h := HX.out.1
        rw [HL2.out.2.2] at h
        exact h.kept (grown_below hba none) (by cases h : v.ownBlock <;> simp)
      have hbw : Below w.heap.size w ((wr.alloc (.cells #[.int .i64 s.k, .int .i64 s.b, .int .i64 s.p, .int .i64 s.m0, .int .i64 s.m1, .int .i64 s.m2, .int .i64 s.m3, .int .i64 s.m4, .int .i64 s.m5] 52 (0, 0))).drew) := HX.out.2.trans (hba.mono HX.out.2.size)
      obtain ⟨v', w7, hrun, hown, hgrow, _, _⟩ := run_append_own_at (P := Tryd.prog) ((wr.alloc (.cells #[.int .i64 s.k, .int .i64 s.b, .int .i64 s.p, .int .i64 s.m0, .int .i64 s.m1, .int .i64 s.m2, .int .i64 s.m3, .int .i64 s.m4, .int .i64 s.m5] 52 (0, 0))).drew) w.heap.size 32 32 52 i0 (.agg zC) 9 72 Tryd.underlying32 hi hz0 hz1 hz2 rfl (by decide) v i (scells (L.take i)) hown0 ⟨wr.heap.size, 0, none⟩ 1 1 (slC s) rfl
        (World.news_of_block (cs := #[.int .i64 s.k, .int .i64 s.b, .int .i64 s.p, .int .i64 s.m0, .int .i64 s.m1, .int .i64 s.m2, .int .i64 s.m3, .int .i64 s.m4, .int .i64 s.m5]) (fr := (0, 0)) (t := 52) (show ((wr.alloc (.cells #[.int .i64 s.k, .int .i64 s.b, .int .i64 s.p, .int .i64 s.m0, .int .i64 s.m1, .int .i64 s.m2, .int .i64 s.m3, .int .i64 s.m4, .int .i64 s.m5] 52 (0, 0))).drew).heap[wr.heap.size]? = _ from heap_alloc_new wr _)) (by
          intro u hu
          simp only [List.mem_cons, List.not_mem_nil, or_false] at hu
          rcases hu with rfl | rfl | rfl | rfl | rfl | rfl | rfl | rfl | rfl <;> rfl) (by unfold maxLen; omega) (by omega) hbw.size
      have HN2 : Hid (OwnQ w v' (L.take (i + 1)) w7) := by
        rw [HL2.out.2.1]
        exact ⟨by rw [scells_snoc, List.length_append, HL2.out.2.2]; exact hown, hbw.grown hgrow hbw.size fun k hk => (hown0.lt k hk).1⟩
      have hgx : g < wr.heap.size := World.block_lt_of_cell? wr.drew _ z0
      have eqa : ((wr.alloc (.cells #[.int .i64 s.k, .int .i64 s.b, .int .i64 s.p, .int .i64 s.m0, .int .i64 s.m1, .int .i64 s.m2, .int .i64 s.m3, .int .i64 s.m4, .int .i64 s.m5] 52 (0, 0))).drew).heap[g]? = wr.heap[g]? := hba.block g hgx
      have kd : wr.drew.cell? ⟨g, o + i * 9, none⟩ = some (.int .i64 s.k) ∧ wr.drew.cell? ⟨g, o + i * 9 + 1, none⟩ = some (.int .i64 s.b) ∧ wr.drew.cell? ⟨g, o + i * 9 + 2, none⟩ = some (.int .i64 s.p) ∧ wr.drew.cell? ⟨g, o + i * 9 + 3, none⟩ = some (.int .i64 s.m0) ∧ wr.drew.cell? ⟨g, o + i * 9 + 4, none⟩ = some (.int .i64 s.m1) ∧ wr.drew.cell? ⟨g, o + i * 9 + 5, none⟩ = some (.int .i64 s.m2) ∧ wr.drew.cell? ⟨g, o + i * 9 + 6, none⟩ = some (.int .i64 s.m3) ∧ wr.drew.cell? ⟨g, o + i * 9 + 7, none⟩ = some (.int .i64 s.m4) ∧ wr.drew.cell? ⟨g, o + i * 9 + 8, none⟩ = some (.int .i64 s.m5) := ⟨z0, z1, z2, z3, z4, z5, z6, z7, z8⟩
      have k3 : ((wr.alloc (.cells #[.int .i64 s.k, .int .i64 s.b, .int .i64 s.p, .int .i64 s.m0, .int .i64 s.m1, .int .i64 s.m2, .int .i64 s.m3, .int .i64 s.m4, .int .i64 s.m5] 52 (0, 0))).drew).cell? ⟨g, o + i * 9, none⟩ = some (.int .i64 s.k) ∧ ((wr.alloc (.cells #[.int .i64 s.k, .int .i64 s.b, .int .i64 s.p, .int .i64 s.m0, .int .i64 s.m1, .int .i64 s.m2, .int .i64 s.m3, .int .i64 s.m4, .int .i64 s.m5] 52 (0, 0))).drew).cell? ⟨g, o + i * 9 + 1, none⟩ = some (.int .i64 s.b) ∧ ((wr.alloc (.cells #[.int .i64 s.k, .int .i64 s.b, .int .i64 s.p, .int .i64 s.m0, .int .i64 s.m1, .int .i64 s.m2, .int .i64 s.m3, .int .i64 s.m4, .int .i64 s.m5] 52 (0, 0))).drew).cell? ⟨g, o + i * 9 + 2, none⟩ = some (.int .i64 s.p) ∧ ((wr.alloc (.cells #[.int .i64 s.k, .int .i64 s.b, .int .i64 s.p, .int .i64 s.m0, .int .i64 s.m1, .int .i64 s.m2, .int .i64 s.m3, .int .i64 s.m4, .int .i64 s.m5] 52 (0, 0))).drew).cell? ⟨g, o + i * 9 + 3, none⟩ = some (.int .i64 s.m0) ∧ ((wr.alloc (.cells #[.int .i64 s.k, .int .i64 s.b, .int .i64 s.p, .int .i64 s.m0, .int .i64 s.m1, .int .i64 s.m2, .int .i64 s.m3, .int .i64 s.m4, .int .i64 s.m5] 52 (0, 0))).drew).cell? ⟨g, o + i * 9 + 4, none⟩ = some (.int .i64 s.m1) ∧ ((wr.alloc (.cells #[.int .i64 s.k, .int .i64 s.b, .int .i64 s.p, .int .i64 s.m0, .int .i64 s.m1, .int .i64 s.m2, .int .i64 s.m3, .int .i64 s.m4, .int .i64 s.m5] 52 (0, 0))).drew).cell? ⟨g, o + i * 9 + 5, none⟩ = some (.int .i64 s.m2) ∧ ((wr.alloc (.cells #[.int .i64 s.k, .int .i64 s.b, .int .i64 s.p, .int .i64 s.m0, .int .i64 s.m1, .int .i64 s.m2, .int .i64 s.m3, .int .i64 s.m4, .int .i64 s.m5] 52 (0, 0))).drew).cell? ⟨g, o + i * 9 + 6, none⟩ = some (.int .i64 s.m3) ∧ ((wr.alloc (.cells #[.int .i64 s.k, .int .i64 s.b, .int .i64 s.p, .int .i64 s.m0, .int .i64 s.m1, .int .i64 s.m2, .int .i64 s.m3, .int .i64 s.m4, .int .i64 s.m5] 52 (0, 0))).drew).cell? ⟨g, o + i * 9 + 7, none⟩ = some (.int .i64 s.m4) ∧ ((wr.alloc (.cells #[.int .i64 s.k, .int .i64 s.b, .int .i64 s.p, .int .i64 s.m0, .int .i64 s.m1, .int .i64 s.m2, .int .i64 s.m3, .int .i64 s.m4, .int .i64 s.m5] 52 (0, 0))).drew).cell? ⟨g, o + i * 9 + 8, none⟩ = some (.int .i64 s.m5) := (SlAt.same (w := wr.drew) ⟨z0, z1, z2, z3, z4, z5, z6, z7, z8⟩ eqa)
      have k7 : w7.cell? ⟨g, o + i * 9, none⟩ = some (.int .i64 s.k) ∧ w7.cell? ⟨g, o + i * 9 + 1, none⟩ = some (.int .i64 s.b) ∧ w7.cell? ⟨g, o + i * 9 + 2, none⟩ = some (.int .i64 s.p) ∧ w7.cell? ⟨g, o + i * 9 + 3, none⟩ = some (.int .i64 s.m0) ∧ w7.cell? ⟨g, o + i * 9 + 4, none⟩ = some (.int .i64 s.m1) ∧ w7.cell? ⟨g, o + i * 9 + 5, none⟩ = some (.int .i64 s.m2) ∧ w7.cell? ⟨g, o + i * 9 + 6, none⟩ = some (.int .i64 s.m3) ∧ w7.cell? ⟨g, o + i * 9 + 7, none⟩ = some (.int .i64 s.m4) ∧ w7.cell? ⟨g, o + i * 9 + 8, none⟩ = some (.int .i64 s.m5) := by
        obtain ⟨g2, o2, e2, _, h2⟩ := (HA.out.below HN2.out.2) i (by have := HL2.out.1; have := HN.out.1; omega)
        cases e2
        rw [← HS9.out] at h2
        exact h2
      have HR := Lib.hid hrun
      clear hb0 hba hown0 hbw hrun hown hgrow HD6 HX hgx eqa z0 z1 z2 z3 z4 z5 z6 z7 z8
      go_region_held3 (fun w' => w'.cell? ⟨g, o + i * 9, none⟩ = some (.int .i64 s.k) ∧ w'.cell? ⟨g, o + i * 9 + 1, none⟩ = some (.int .i64 s.b) ∧ w'.cell? ⟨g, o + i * 9 + 2, none⟩ = some (.int .i64 s.p) ∧ w'.cell? ⟨g, o + i * 9 + 3, none⟩ = some (.int .i64 s.m0) ∧ w'.cell? ⟨g, o + i * 9 + 4, none⟩ = some (.int .i64 s.m1) ∧ w'.cell? ⟨g, o + i * 9 + 5, none⟩ = some (.int .i64 s.m2) ∧ w'.cell? ⟨g, o + i * 9 + 6, none⟩ = some (.int .i64 s.m3) ∧ w'.cell? ⟨g, o + i * 9 + 7, none⟩ = some (.int .i64 s.m4) ∧ w'.cell? ⟨g, o + i * 9 + 8, none⟩ = some (.int .i64 s.m5))
        (first | go_keep | exact kd | exact k3 | exact k7)
        (refine step_app_run (by rfl) _ _ _ (by rfl) _ _ _ (by rfl) (by rfl) _ HR.out ?_)
      clear kd k3 k7
      go_wp2_with fail
      go_roundg (n - (i + 1))
      case measure => have := HG.out; have := HL2.out; omega
      case rel => exact ⟨i + 1, v', rfl, HL2.out.1, rfl, by go_num, HN2⟩
    · obtain rfl : i = n := by omega
      have HF : Hid (OwnQ w v L wr) := by
        have h := HX.out
        rw [List.take_of_length_le (by rw [← HN.out.1]; exact Nat.le_refl _)] at h
        exact h
      clear HX
      go_wp2_with fail
      go_ret
      exact ⟨v, rfl, HF.out⟩
end Go.Proofs.YtpbckjagiebmjaaDoor.Tb
/- The program's table and the document's, side by side. By the verifier of shale. -/
namespace Go.Proofs.YtpbckjagiebmjaaDoor.Tb
open Go Go.RowKit
set_option linter.unusedVariables false
set_option linter.unusedSimpArgs false
/-- both tables: what came before lies below bb, the program's blocks below B4, the document's from B4 on. -/
structure PCt (w : World) (bb B4 xb xp tb mb ob B P cO : Nat) (kb : Nat → Nat) (kf : Nat → Nat → Int) (m : Int → Option Sl) (cnt nb : Nat) (a : Option Addr) (c : Nat) (R : List Sl) (W : World) : Prop where
  t : TabAt W bb tb mb ob B P cO kb kf m cnt nb
  r : RefT W B4 xb (B : Int) (P : Int) a c R
  p : W.heap[xp]? = some (.cells #[.pointer (some ⟨xb, 0, none⟩)] 31 (0, 0))
  lo : tb < B4 ∧ mb < B4 ∧ ob < B4 ∧ ∀ b, b < B → kb b < B4
  hi : B4 ≤ xp ∧ xp ∉ tblR xb a
  nil : a = none → c = 0
  bel : Below bb w W
  bb4 : bb ≤ B4
section
variable {w W W' : World} {bb B4 xb xp tb mb ob B P cO : Nat} {kb : Nat → Nat} {kf kf' : Nat → Nat → Int} {m m' : Int → Option Sl} {cnt nb cnt' nb' : Nat} {a : Option Addr} {c : Nat} {R R' : List Sl}
theorem PCt.size (h : PCt w bb B4 xb xp tb mb ob B P cO kb kf m cnt nb a c R W) : bb ≤ W.heap.size := by
  have h1 := h.bb4
  have h2 := h.hi.1
  have h3 := lt_of_block h.p
  omega
theorem PCt.below (h : PCt w bb B4 xb xp tb mb ob B P cO kb kf m cnt nb a c R W) (b : Below W.heap.size W W') : PCt w bb B4 xb xp tb mb ob B P cO kb kf m cnt nb a c R W' :=
  ⟨h.t.below b, h.r.below b, (b.block xp (lt_of_block h.p)).trans h.p, h.lo, h.hi, h.nil, h.bel.trans (b.mono h.size), h.bb4⟩
theorem PCt.prog (h : PCt w bb B4 xb xp tb mb ob B P cO kb kf m cnt nb a c R W) (s : SetAt W bb tb mb ob B P cO kb kf' m' cnt' nb' W') : PCt w bb B4 xb xp tb mb ob B P cO kb kf' m' cnt' nb' a c R W' ∧ W.heap.size ≤ W'.heap.size ∧ ∀ k, B4 ≤ k → k < W.heap.size → W'.heap[k]? = W.heap[k]? := by
  have hb := SetAt.bel h.t s
  obtain ⟨T, t⟩ := s
  have keep : ∀ k, B4 ≤ k → k < W.heap.size → W'.heap[k]? = W.heap[k]? := fun k h1 h2 => t.same k h2 fun hm => by
    rcases List.mem_cons.1 hm with rfl | hm
    · have := h.lo.2.1; omega
    · obtain ⟨z, hz, rfl⟩ := List.mem_map.1 hm
      have := h.lo.2.2.2 z (List.mem_range.1 hz); omega
  exact ⟨⟨T, h.r.same t.size fun k hk => keep k (h.r.bl_lt k hk).1 (h.r.bl_lt k hk).2, (keep xp h.hi.1 (lt_of_block h.p)).trans h.p, h.lo, h.hi, h.nil, h.bel.trans hb, h.bb4⟩, t.size, keep⟩
theorem TabAt.low {w w' : World} {base : Nat} (T : TabAt w base tb mb ob B P cO kb kf m cnt nb) (lo : tb < B4 ∧ mb < B4 ∧ ob < B4 ∧ ∀ b, b < B → kb b < B4) (o : ∀ k, k < B4 → k < w.heap.size → w'.heap[k]? = w.heap[k]?) : TabAt w' base tb mb ob B P cO kb kf m cnt nb := by
  obtain ⟨l1, l2, l3, l4⟩ := lo
  exact ⟨(o tb l1 T.lt).trans T.blk, T.map.keep (o mb l2 T.map.lt), fun b hb => (cell_heapT (o ob l3 (World.block_lt_of_cell? w _ (T.outer b hb)))).trans (T.outer b hb), fun b hb => (o (kb b) (l4 b hb) (lt_of_block (T.rows b hb))).trans (T.rows b hb), T.inj, T.apart, T.pos, T.here, T.there⟩
theorem PCt.ref {r : Value} {e : Ending} (h : PCt w bb B4 xb xp tb mb ob B P cO kb kf m cnt nb a c R W) (o : TOut W B4 xb (B : Int) (P : Int) a R' r e W') : ∃ a' c', e = .returned r ∧ PCt w bb B4 xb xp tb mb ob B P cO kb kf m cnt nb a' c' R' W' ∧ W.heap.size ≤ W'.heap.size ∧ ∀ k, k < W.heap.size → k ∉ tblR xb a → W'.heap[k]? = W.heap[k]? ∧ k ∉ tblR xb a' := by
  obtain ⟨a', c', rfl, Q, t, hne⟩ := o
  have keep : ∀ k, k < W.heap.size → k ∉ tblR xb a → W'.heap[k]? = W.heap[k]? := fun k h1 h2 => t.same k h1 h2
  have low : ∀ k, k < B4 → k < W.heap.size → W'.heap[k]? = W.heap[k]? := fun k h1 h2 => keep k h2 fun hm => by have := (h.r.bl_lt k hm).1; omega
  have hxp := lt_of_block h.p
  refine ⟨a', c', rfl, ⟨h.t.low h.lo low, Q, (keep xp hxp h.hi.2).trans h.p, h.lo, ⟨h.hi.1, fun hm => ?_⟩, fun e => absurd e hne, h.bel.trans ⟨t.os, t.tape, t.output, t.size, fun k hk => low k (by have := h.bb4; omega) (by have := h.size; omega)⟩, h.bb4⟩, t.size, fun k h1 h2 => ⟨keep k h1 h2, fun hm => (t.new k hm).elim h2 fun h3 => by omega⟩⟩
  rcases t.new xp hm with h1 | h1
  · exact h.hi.2 h1
  · omega
theorem PCt.box (h : PCt w bb B4 xb xp tb mb ob B P cO kb kf m cnt nb a c R W) {z : Nat} (hz : B4 ≤ z) (hn : z ∉ tblR xb a) (hx : z ≠ xp) (x y : Value) : PCt w bb B4 xb xp tb mb ob B P cO kb kf m cnt nb a c R ((W.setCell ⟨z, 0, none⟩ x).setCell ⟨z, 1, none⟩ y) := by
  have o := (Only.setCell W ⟨z, 0, none⟩ x).trans (Only.setCell _ ⟨z, 1, none⟩ y)
  have hs : W.heap.size ≤ ((W.setCell ⟨z, 0, none⟩ x).setCell ⟨z, 1, none⟩ y).heap.size := by rw [o.size]; exact Nat.le_refl _
  refine ⟨h.t.low h.lo fun k h1 h2 => o.block k (by show k ≠ z; omega), h.r.same hs fun k hk => o.block k fun e => hn (by rw [← show k = z from e]; exact hk), (o.block xp fun e => hx (show xp = z from e).symm).trans h.p, h.lo, h.hi, h.nil, h.bel.trans ⟨o.os, o.tape, o.output, hs, fun k hk => o.block k (by have := h.bb4; show k ≠ z; omega)⟩, h.bb4⟩
theorem PCt.ptr (h : PCt w bb B4 xb xp tb mb ob B P cO kb kf m cnt nb a c R W) : W.cell? ⟨xp, 0, none⟩ = some (.pointer (some ⟨xb, 0, none⟩)) := by
  unfold World.cell?; simp only; rw [h.p]; rfl
end
/-! The list by keys. -/
theorem listOf_strict {m : Int → Option Sl} {L : List Sl} (h1 : ∀ s, s ∈ L ↔ m s.k = some s) (h2 : L.Pairwise fun x y => x.k < y.k) : ListOf m L := by
  refine ⟨h1, ?_, h2.imp fun h => by omega⟩
  unfold List.Nodup
  rw [List.pairwise_map]
  exact h2.imp fun h => by omega
theorem idxK_lt {L : List Sl} {b : Int} {i : Nat} (h : idxK L b = some i) : i < L.length ∧ (L[i]!).k = b ∧ ∀ k, k < i → (L[k]!).k ≠ b := by
  unfold idxK at h
  rw [List.findIdx?_eq_some_iff_getElem] at h
  obtain ⟨h1, h2, h3⟩ := h
  refine ⟨h1, by rw [getElem!_pos L i h1]; simpa using h2, fun k hk => ?_⟩
  have := h3 k hk
  rw [getElem!_pos L k (by omega)]
  simpa using this
theorem idxK_not {L : List Sl} {b : Int} (h : idxK L b = none) : ∀ s ∈ L, s.k ≠ b := by
  unfold idxK at h
  rw [List.findIdx?_eq_none_iff] at h
  intro s hs
  simpa using h s hs
theorem memT {L : List Sl} {i : Nat} (hi : i < L.length) : L[i]! ∈ L := by rw [getElem!_pos L i hi]; exact List.getElem_mem hi
section
variable {m : Int → Option Sl} {R : List Sl}
theorem ListOf.no (h : ListOf m R) (hk : ∀ k s, m k = some s → s.k = k) {k : Int} (hn : ∀ s ∈ R, s.k ≠ k) : m k = none := by
  cases hm : m k with
  | none => rfl
  | some s =>
    have e := hk k s hm
    exact absurd e (hn s ((h.1 s).2 (by rw [e]; exact hm)))
theorem ListOf.yes (h : ListOf m R) {i : Nat} (hi : i < R.length) : m (R[i]!).k = some (R[i]!) := (h.1 _).1 (memT hi)
theorem ListOf.lt (h : ListOf m R) {i j : Nat} (hij : i < j) (hj : j < R.length) : (R[i]!).k < (R[j]!).k := by
  have := List.pairwise_iff_getElem.1 h.strict i j (by omega) hj hij
  rw [getElem!_pos R i (by omega), getElem!_pos R j hj]
  exact this
theorem take_drop (i : Nat) (hi : i < R.length) : R = R.take i ++ R[i]! :: R.drop (i + 1) := by
  rw [getElem!_pos R i hi, ← List.drop_eq_getElem_cons hi, List.take_append_drop]
/-- a key's slot is taken out. -/
theorem ListOf.cut (h : ListOf m R) {i : Nat} (hi : i < R.length) : ListOf (mD m (R[i]!).k) (R.eraseIdx i) := by
  have hs := h.strict
  have e := take_drop i hi
  refine listOf_strict (fun s => ?_) (List.Pairwise.sublist (List.eraseIdx_sublist R i) hs)
  rw [List.eraseIdx_eq_take_drop_succ]
  rw [e, List.pairwise_append, List.pairwise_cons] at hs
  obtain ⟨_, ⟨s2, _⟩, s3⟩ := hs
  unfold mD
  have hmem : s ∈ R ↔ s ∈ R.take i ∨ s = R[i]! ∨ s ∈ R.drop (i + 1) := by
    constructor
    · intro hm
      rw [e] at hm
      simpa using hm
    · intro hm
      rw [e]
      simpa using hm
  by_cases hk : s.k = (R[i]!).k
  · rw [if_pos hk]
    constructor
    · intro hm
      rcases List.mem_append.1 hm with hm | hm
      · have := s3 s hm _ (List.mem_cons_self ..); omega
      · have := s2 s hm; omega
    · intro hm; cases hm
  · rw [if_neg hk, ← h.1 s, hmem, List.mem_append]
    constructor
    · rintro (h1 | h1)
      · exact .inl h1
      · exact .inr (.inr h1)
    · rintro (h1 | h1 | h1)
      · exact .inl h1
      · exact absurd (by rw [h1]) hk
      · exact .inr h1
/-- a new key's slot is put in. -/
theorem ListOf.put (h : ListOf m R) {s : Sl} {i : Nat} (hi : insK R s.k i) (hne : i < R.length → (R[i]!).k ≠ s.k) : (∀ t ∈ R, t.k ≠ s.k) ∧ ListOf (mS m s.k s) (R.take i ++ s :: R.drop i) := by
  obtain ⟨i1, i2, i3⟩ := hi
  have hlo : ∀ t ∈ R.take i, t.k < s.k := by
    intro t ht
    obtain ⟨j, hj, rfl⟩ := List.mem_iff_getElem.1 ht
    rw [List.length_take] at hj
    have := i2 j (by omega)
    rw [getElem!_pos R j (by omega)] at this
    rw [List.getElem_take]
    exact this
  have hhi : ∀ t ∈ R.drop i, s.k < t.k := by
    intro t ht
    obtain ⟨j, hj, rfl⟩ := List.mem_iff_getElem.1 ht
    rw [List.length_drop] at hj
    have hil : i < R.length := by omega
    have h1 := i3 hil
    have h2 := hne hil
    rw [List.getElem_drop]
    by_cases e : j = 0
    · subst e
      have : s.k < (R[i]!).k := by omega
      rw [getElem!_pos R i hil] at this
      exact this
    · have := h.lt (i := i) (j := i + j) (by omega) (by omega)
      rw [getElem!_pos R (i + j) (by omega)] at this
      omega
  have hno : ∀ t ∈ R, t.k ≠ s.k := by
    intro t ht
    rw [← List.take_append_drop i R] at ht
    rcases List.mem_append.1 ht with ht | ht
    · have := hlo t ht; omega
    · have := hhi t ht; omega
  refine ⟨hno, listOf_strict (fun t => ?_) ?_⟩
  · unfold mS
    have hmem : t ∈ R.take i ++ s :: R.drop i ↔ t = s ∨ t ∈ R := by
      rw [List.mem_append, List.mem_cons]
      constructor
      · rintro (h1 | h1 | h1)
        · exact .inr (List.mem_of_mem_take h1)
        · exact .inl h1
        · exact .inr (List.mem_of_mem_drop h1)
      · rintro (h1 | h1)
        · exact .inr (.inl h1)
        · rw [← List.take_append_drop i R] at h1
          rcases List.mem_append.1 h1 with h1 | h1
          · exact .inl h1
          · exact .inr (.inr h1)
    rw [hmem]
    by_cases hk : t.k = s.k
    · rw [if_pos hk]
      constructor
      · rintro (h1 | h1)
        · rw [h1]
        · exact absurd hk (hno t h1)
      · intro e; cases e; exact .inl rfl
    · rw [if_neg hk, ← h.1 t]
      constructor
      · rintro (h1 | h1)
        · exact absurd (by rw [h1]) hk
        · exact h1
      · exact .inr
  · rw [List.pairwise_append, List.pairwise_cons]
    have hsplit := h.strict
    rw [← List.take_append_drop i R, List.pairwise_append] at hsplit
    obtain ⟨s1, s2, s3⟩ := hsplit
    refine ⟨s1, ⟨hhi, s2⟩, fun x hx y hy => ?_⟩
    rcases List.mem_cons.1 hy with rfl | hy
    · exact hlo x hx
    · exact s3 x hx y hy
/-- a key's slot is turned. -/
theorem ListOf.turn (h : ListOf m R) {s : Sl} {i : Nat} (hi : i < R.length) (hk : (R[i]!).k = s.k) : ListOf (mS (mD m s.k) s.k s) (R.take i ++ s :: R.drop (i + 1)) := by
  have h1 := h.cut hi
  rw [hk] at h1
  have e := take_drop i hi
  have hs := h.strict
  rw [e, List.pairwise_append, List.pairwise_cons] at hs
  obtain ⟨s1, ⟨s2, s4⟩, s3⟩ := hs
  refine listOf_strict (fun t => ?_) ?_
  · unfold mS
    have hmem : t ∈ R.take i ++ s :: R.drop (i + 1) ↔ t = s ∨ t ∈ R.eraseIdx i := by
      rw [List.eraseIdx_eq_take_drop_succ, List.mem_append, List.mem_cons, List.mem_append]
      constructor
      · rintro (h1 | h1 | h1)
        · exact .inr (.inl h1)
        · exact .inl h1
        · exact .inr (.inr h1)
      · rintro (h1 | h1 | h1)
        · exact .inr (.inl h1)
        · exact .inl h1
        · exact .inr (.inr h1)
    rw [hmem]
    by_cases hk2 : t.k = s.k
    · rw [if_pos hk2]
      constructor
      · rintro (h2 | h2)
        · rw [h2]
        · have := (h1.1 t).1 h2
          unfold mD at this
          rw [if_pos hk2] at this
          cases this
      · intro e; cases e; exact .inl rfl
    · rw [if_neg hk2, ← h1.1 t]
      constructor
      · rintro (h2 | h2)
        · exact absurd (by rw [h2]) hk2
        · exact h2
      · exact .inr
  · rw [List.pairwise_append, List.pairwise_cons]
    refine ⟨s1, ⟨fun y hy => ?_, s4⟩, fun x hx y hy => ?_⟩
    · have := s2 y hy; omega
    · rcases List.mem_cons.1 hy with rfl | hy
      · have := s3 x hx _ (List.mem_cons_self ..); omega
      · exact s3 x hx y (List.mem_cons_of_mem _ hy)
end
end Go.Proofs.YtpbckjagiebmjaaDoor.Tb
/- What a table is told, at both tables. By the verifier of shale. -/
namespace Go.Proofs.YtpbckjagiebmjaaDoor.Tb
open Go Go.RowKit
set_option linter.unusedVariables false
set_option linter.unusedSimpArgs false
/-- both hold the same, so many things told. -/
def PT (w : World) (bb B4 xb xp tb mb ob B P cO : Nat) (kb : Nat → Nat) (n : Nat) (W : World) : Prop := ∃ kf m cnt nb a c R, PCt w bb B4 xb xp tb mb ob B P cO kb kf m cnt nb a c R W ∧ ListOf m R ∧ cnt ≤ n ∧ nb ≤ n
def PTz (w : World) (bb B4 xb xp tb mb ob B P cO : Nat) (kb : Nat → Nat) (n z : Nat) (W : World) : Prop := ∃ kf m cnt nb a c R, PCt w bb B4 xb xp tb mb ob B P cO kb kf m cnt nb a c R W ∧ ListOf m R ∧ cnt ≤ n ∧ nb ≤ n ∧ z ∉ tblR xb a
section
variable {w : World} {bb B4 xb xp tb mb ob B P cO n : Nat} {kb : Nat → Nat} {kf : Nat → Nat → Int} {m : Int → Option Sl} {cnt nb : Nat} {a : Option Addr} {c : Nat} {R : List Sl} {f : Nat → Addr} {S : World → Prop}
theorem PT.of {W : World} (p : PCt w bb B4 xb xp tb mb ob B P cO kb kf m cnt nb a c R W) (h : ListOf m R) (h1 : cnt ≤ n) (h2 : nb ≤ n) : PT w bb B4 xb xp tb mb ob B P cO kb n W := ⟨kf, m, cnt, nb, a, c, R, p, h, h1, h2⟩
theorem PTz.of {W : World} {z : Nat} (p : PCt w bb B4 xb xp tb mb ob B P cO kb kf m cnt nb a c R W) (h : ListOf m R) (h1 : cnt ≤ n) (h2 : nb ≤ n) (hz : z ∉ tblR xb a) : PTz w bb B4 xb xp tb mb ob B P cO kb n z W := ⟨kf, m, cnt, nb, a, c, R, p, h, h1, h2, hz⟩
theorem PTz.box {W : World} {z : Nat} (p : PTz w bb B4 xb xp tb mb ob B P cO kb n z W) (hz : B4 ≤ z) (hx : z ≠ xp) (x y : Value) : PT w bb B4 xb xp tb mb ob B P cO kb n ((W.setCell ⟨z, 0, none⟩ x).setCell ⟨z, 1, none⟩ y) := by
  obtain ⟨kf, m, cnt, nb, a, c, R, p, h, h1, h2, hn⟩ := p
  exact ⟨kf, m, cnt, nb, a, c, R, p.box hz hn hx x y, h, h1, h2⟩
theorem PT.below {W W' : World} (p : PT w bb B4 xb xp tb mb ob B P cO kb n W) (b : Below W.heap.size W W') : PT w bb B4 xb xp tb mb ob B P cO kb n W' := by
  obtain ⟨kf, m, cnt, nb, a, c, R, p, h, h1, h2⟩ := p
  exact ⟨kf, m, cnt, nb, a, c, R, p.below b, h, h1, h2⟩
theorem PCt.hk {W : World} (p : PCt w bb B4 xb xp tb mb ob B P cO kb kf m cnt nb a c R W) : ∀ k s, m k = some s → s.k = k := fun k s hs => (p.t.here k s hs).1
theorem PCt.len {W : World} (p : PCt w bb B4 xb xp tb mb ob B P cO kb kf m cnt nb a c R W) (h : ListOf m R) : R.length = cnt := list_len p.t h
theorem trip_drop (hS : ∀ W kf m cnt nb a c R, PCt w bb B4 xb xp tb mb ob B P cO kb kf m cnt nb a c R W → S W) (h : ListOf m R) (hc : cnt ≤ n) (hb : nb ≤ n) (hn : n ≤ 900) {key : Int} (hk : (Lit.int .i64 key).wf = true) (W0 : World) (P0 : PCt w bb B4 xb xp tb mb ob B P cO kb kf m cnt nb a c R W0) :
    ∃ (r : Bool) (Z2 : World → Prop),
      (∀ W, PCt w bb B4 xb xp tb mb ob B P cO kb kf m cnt nb a c R W → Calls Tryd.prog 8 #[.pointer (some ⟨tb, 0, none⟩), .int .i64 key] W fun e W' => e = .returned (.bool r) ∧ S W' ∧ Z2 W') ∧
      (∀ W, Z2 W → Calls Tryd.prog 9 #[.pointer (some ⟨xb, 0, none⟩), .int .i64 key] W fun e W' => e = .returned (.bool r) ∧ S W' ∧ PT w bb B4 xb xp tb mb ob B P cO kb n W') := by
  have hR : R.length ≤ 1000 := by rw [P0.len h]; omega
  cases hi : idxK R key with
  | none =>
    have hg := h.no P0.hk (idxK_not hi)
    refine ⟨false, PCt w bb B4 xb xp tb mb ob B P cO kb kf m cnt nb a c R, fun W P => ?_, fun W P => ?_⟩
    · refine (drop_no P.t hk hg).mono ?_
      rintro e W' ⟨rfl, b⟩
      exact ⟨rfl, hS _ _ _ _ _ _ _ _ (P.below b), P.below b⟩
    · refine (tdrop_any P.r hR key).mono ?_
      rintro e W' (⟨_, rfl, rfl⟩ | ⟨i, hi2, _⟩)
      · exact ⟨rfl, hS _ _ _ _ _ _ _ _ P, PT.of P h hc hb⟩
      · rw [hi] at hi2; cases hi2
  | some i =>
    obtain ⟨hlt, hb2, _⟩ := idxK_lt hi
    have hms := h.yes hlt
    have hcut := h.cut hlt
    rw [hb2] at hms hcut
    obtain ⟨_, _, _, b, p, e1, e2, e3, e4, e5⟩ := P0.t.here _ _ hms
    refine ⟨true, PCt w bb B4 xb xp tb mb ob B P cO kb (kfD kf b p) (mD m key) (cnt - 1) nb a c R, fun W P => ?_, fun W P => ?_⟩
    · refine (drop_yes P.t hk hms e1 e2 e3 e4 e5).mono ?_
      rintro e W' ⟨rfl, s⟩
      have P' := (P.prog s).1
      exact ⟨rfl, hS _ _ _ _ _ _ _ _ P', P'⟩
    · refine (tdrop_any P.r hR key).mono ?_
      rintro e W' (⟨hi2, _⟩ | ⟨j, hi2, o⟩)
      · rw [hi] at hi2; cases hi2
      · rw [hi] at hi2
        cases hi2
        obtain ⟨a', c', rfl, P', fs, fr⟩ := P.ref o
        exact ⟨rfl, hS _ _ _ _ _ _ _ _ P', PT.of P' hcut (by omega) hb⟩
theorem trip_set (h : ListOf m R) (hc : cnt ≤ n) (hb : nb ≤ n) (hn : n ≤ 900) (s : Sl) (W0 : World) (P0 : PCt w bb B4 xb xp tb mb ob B P cO kb kf m cnt nb a c R W0) (hE : ∀ W, Below bb w W → AllErrs W f) :
    ∃ (vb vp : Int) (had : Bool) (er : Value) (cd : Int) (kf' : Nat → Nat → Int) (m' : Int → Option Sl) (cnt' nb' : Nat),
      (∀ W, PCt w bb B4 xb xp tb mb ob B P cO kb kf m cnt nb a c R W → Calls Tryd.prog 10 #[.pointer (some ⟨tb, 0, none⟩), .int .i64 s.k, .agg #[.int .i64 s.b, .int .i64 s.p], .agg #[.int .i64 s.m0, .int .i64 s.m1, .int .i64 s.m2, .int .i64 s.m3, .int .i64 s.m4, .int .i64 s.m5]] W fun e W' => e = .returned (.tuple #[.agg #[.int .i64 vb, .int .i64 vp], .bool had, er]) ∧ PCt w bb B4 xb xp tb mb ob B P cO kb kf' m' cnt' nb' a c R W' ∧ W.heap.size ≤ W'.heap.size ∧ ∀ k, B4 ≤ k → k < W.heap.size → W'.heap[k]? = W.heap[k]?) ∧
      (∀ W, PCt w bb B4 xb xp tb mb ob B P cO kb kf' m' cnt' nb' a c R W → Calls Tryd.prog 11 #[.pointer (some ⟨xb, 0, none⟩), .int .i64 s.k, .agg #[.int .i64 s.b, .int .i64 s.p], .agg #[.int .i64 s.m0, .int .i64 s.m1, .int .i64 s.m2, .int .i64 s.m3, .int .i64 s.m4, .int .i64 s.m5]] W fun e W' => e = .returned (.tuple #[.agg #[.int .i64 vb, .int .i64 vp], .bool had, .int .i64 cd]) ∧ PT w bb B4 xb xp tb mb ob B P cO kb (n + 1) W' ∧ W.heap.size ≤ W'.heap.size ∧ ∀ k, k < W.heap.size → k ∉ tblR xb a → W'.heap[k]? = W.heap[k]? ∧ PTz w bb B4 xb xp tb mb ob B P cO kb (n + 1) k W') ∧
      (∀ W, Below bb w W → Calls Tryd.prog 13 #[er, .int .i64 cd] W fun e W' => e = .returned (.bool true) ∧ Below W.heap.size W W') := by
  have hR : R.length ≤ 1000 := by rw [P0.len h]; omega
  have hnb : nb < maxLen := by unfold maxLen; omega
  obtain ⟨k, b0, p0, m0, m1, m2, m3, m4, m5⟩ := s
  by_cases hgood : 0 ≤ k ∧ k ≤ 1073741824 ∧ 0 ≤ b0 ∧ b0 < (B : Int) ∧ 0 ≤ p0 ∧ p0 < (P : Int)
  · obtain ⟨g0, g1, g2, g3, g4, g5⟩ := hgood
    obtain ⟨b, rfl⟩ : ∃ b : Nat, b0 = (b : Int) := ⟨b0.toNat, by omega⟩
    obtain ⟨p, rfl⟩ : ∃ p : Nat, p0 = (p : Int) := ⟨p0.toNat, by omega⟩
    have hbB : b < B := by omega
    have hpP : p < P := by omega
    -- the page's key
    have hkey : ∀ j, j < R.length → (R[j]!).b = (b : Int) → (R[j]!).p = (p : Int) → kf b p = (R[j]!).k ∧ 0 ≤ (R[j]!).k := fun j hj e1 e2 => by
      obtain ⟨_, h0, _, b', p', e3, e4, _, _, e5⟩ := P0.t.here _ _ (h.yes hj)
      have eb : b' = b := by omega
      have ep : p' = p := by omega
      rw [eb, ep] at e5
      exact ⟨e5, h0⟩
    have hpage : kf b p ≠ -1 → ∃ j, j < R.length ∧ (R[j]!).k = kf b p ∧ (R[j]!).b = (b : Int) ∧ (R[j]!).p = (p : Int) := fun hne => by
      obtain ⟨s, e1, e2, e3⟩ := P0.t.there b p hbB hpP hne
      have e4 := P0.hk _ _ e1
      have hmem : s ∈ R := (h.1 s).2 (by rw [e4]; exact e1)
      obtain ⟨j, hj, rfl⟩ := List.mem_iff_getElem.1 hmem
      refine ⟨j, hj, ?_⟩
      rw [getElem!_pos R j hj]
      exact ⟨e4, e2, e3⟩
    have hset : ∀ W, PCt w bb B4 xb xp tb mb ob B P cO kb kf m cnt nb a c R W → True := fun _ _ => trivial
    by_cases hex : ∃ j, j < R.length ∧ atOther ⟨k, b, p, m0, m1, m2, m3, m4, m5⟩ (R[j]!)
    · have hk2 : kf b p ≠ -1 ∧ kf b p ≠ k := by
        obtain ⟨j, hj, ha, e1, e2⟩ := hex
        obtain ⟨e3, e4⟩ := hkey j hj e1 e2
        exact ⟨by rw [e3]; omega, by rw [e3]; exact ha⟩
      refine ⟨0, 0, false, errOf (f 9), 110, kf, m, cnt, nb, fun W P => ?_, fun W P => ?_, fun W b => see_err W f (hE W b) 9 (by decide) 110 (by decide)⟩
      · refine (set_ord P.t g0 g1 hbB hpP hk2.1 hk2.2 m0 m1 m2 m3 m4 m5 (hE W P.bel).1.2.2.2.2.2.2.2.2.2.1).mono ?_
        rintro e W' ⟨rfl, b⟩
        exact ⟨rfl, P.below b, b.size, fun k _ hk => b.block k hk⟩
      · refine (tset_any P.r P.nil hR ⟨k, b, p, m0, m1, m2, m3, m4, m5⟩ g0 g1 g2 g3 g4 g5).mono ?_
        rintro e W' (⟨_, rfl, b⟩ | ⟨hno, _⟩)
        · exact ⟨rfl, PT.of (P.below b) h (by omega) (by omega), b.size, fun k hk hz => ⟨b.block k hk, PTz.of (P.below b) h (by omega) (by omega) hz⟩⟩
        · obtain ⟨j, hj, ha⟩ := hex
          exact absurd ha (hno j hj)
    · have hno : ∀ j, j < R.length → ¬ atOther ⟨k, b, p, m0, m1, m2, m3, m4, m5⟩ (R[j]!) := fun j hj ha => hex ⟨j, hj, ha⟩
      have hkk : kf b p = -1 ∨ kf b p = k := by
        by_cases e : kf b p = -1
        · exact .inl e
        · right
          obtain ⟨j, hj, e1, e2, e3⟩ := hpage e
          by_cases e4 : kf b p = k
          · exact e4
          · exact absurd ⟨by show (R[j]!).k ≠ k; rw [e1]; exact e4, e2, e3⟩ (hno j hj)
      cases hmk : m k with
      | none =>
        have hkf : kf b p = -1 := by
          rcases hkk with e | e
          · exact e
          · by_cases e2 : kf b p = -1
            · exact e2
            · obtain ⟨s, e3, _⟩ := P0.t.there b p hbB hpP e2
              rw [e, hmk] at e3
              cases e3
        refine ⟨0, 0, false, .nilIface, 0, kfS kf b p k, mS m k ⟨k, b, p, m0, m1, m2, m3, m4, m5⟩, cnt + 1, nb + 1, fun W P => ?_, fun W P => ?_, fun W b => see_nil W⟩
        · refine (set_new P.t g0 g1 hnb hbB hpP m0 m1 m2 m3 m4 m5 hmk hkf).mono ?_
          rintro e W' ⟨rfl, s⟩
          exact ⟨rfl, P.prog s⟩
        · refine (tset_any P.r P.nil hR ⟨k, b, p, m0, m1, m2, m3, m4, m5⟩ g0 g1 g2 g3 g4 g5).mono ?_
          rintro e W' (⟨⟨j, hj, ha⟩, _⟩ | ⟨_, i, hins, (⟨hi, hik, _⟩ | ⟨hne, o⟩)⟩)
          · exact absurd ha (hno j hj)
          · have := h.yes hi
            rw [hik] at this
            rw [show m (⟨k, b, p, m0, m1, m2, m3, m4, m5⟩ : Sl).k = m k from rfl, hmk] at this
            cases this
          · obtain ⟨a', c', rfl, P', fs, fr⟩ := P.ref o
            exact ⟨rfl, PT.of P' (h.put hins hne).2 (by omega) (by omega), fs, fun k hk hz => ⟨(fr k hk hz).1, PTz.of P' (h.put hins hne).2 (by omega) (by omega) (fr k hk hz).2⟩⟩
      | some s0 =>
        have hs0 := P0.hk _ _ hmk
        obtain ⟨_, _, _, b1, p1, e1, e2, e3, e4, e5⟩ := P0.t.here _ _ hmk
        refine ⟨s0.b, s0.p, true, .nilIface, 0, kfS (kfD kf s0.b.toNat s0.p.toNat) b p k, mS (mD m k) k ⟨k, b, p, m0, m1, m2, m3, m4, m5⟩, (cnt - 1) + 1, nb + 1, fun W P => ?_, fun W P => ?_, fun W b => see_nil W⟩
        · rcases hkk with e | e
          · refine (set_hadF P.t g0 g1 hnb hbB hpP m0 m1 m2 m3 m4 m5 hmk e).mono ?_
            rintro e W' ⟨rfl, s⟩
            exact ⟨rfl, P.prog s⟩
          · refine (set_hadO P.t g0 g1 hnb hbB hpP m0 m1 m2 m3 m4 m5 hmk e).mono ?_
            rintro e W' ⟨rfl, s⟩
            exact ⟨rfl, P.prog s⟩
        · refine (tset_any P.r P.nil hR ⟨k, b, p, m0, m1, m2, m3, m4, m5⟩ g0 g1 g2 g3 g4 g5).mono ?_
          rintro e W' (⟨⟨j, hj, ha⟩, _⟩ | ⟨_, i, hins, (⟨hi, hik, o⟩ | ⟨hne, _⟩)⟩)
          · exact absurd ha (hno j hj)
          · have hy := h.yes hi
            rw [hik] at hy
            have e6 : R[i]! = s0 := by
              rw [show m (⟨k, b, p, m0, m1, m2, m3, m4, m5⟩ : Sl).k = m k from rfl, hmk] at hy
              exact (Option.some.inj hy).symm
            rw [e6] at o
            obtain ⟨a', c', rfl, P', fs, fr⟩ := P.ref o
            exact ⟨rfl, PT.of P' (h.turn hi hik) (by have := P0.len h; omega) (by omega), fs, fun k hk hz => ⟨(fr k hk hz).1, PTz.of P' (h.turn hi hik) (by have := P0.len h; omega) (by omega) (fr k hk hz).2⟩⟩
          · have h1 := (h.put hins hne).1 s0 ((h.1 s0).2 (by rw [hs0]; exact hmk))
            exact absurd hs0 h1
  · refine ⟨0, 0, false, errOf (f 1), 102, kf, m, cnt, nb, fun W P => ?_, fun W P => ?_, fun W b => see_err W f (hE W b) 1 (by decide) 102 (by decide)⟩
    · by_cases h1 : 0 ≤ k ∧ k ≤ 1073741824
      · refine (set_badP P.t h1.1 h1.2 (fun h2 => hgood ⟨h1.1, h1.2, h2⟩) m0 m1 m2 m3 m4 m5 (hE W P.bel).1.2.1).mono ?_
        rintro e W' ⟨rfl, b⟩
        exact ⟨rfl, P.below b, b.size, fun k _ hk => b.block k hk⟩
      · refine (set_badK P.t (show k < 0 ∨ 1073741824 < k by omega) m0 m1 m2 m3 m4 m5 (hE W P.bel).1.2.1).mono ?_
        rintro e W' ⟨rfl, b⟩
        exact ⟨rfl, P.below b, b.size, fun k _ hk => b.block k hk⟩
    · refine (tset_bad P.r ⟨k, b0, p0, m0, m1, m2, m3, m4, m5⟩ hgood).mono ?_
      rintro e W' ⟨rfl, b⟩
      exact ⟨rfl, PT.of (P.below b) h (by omega) (by omega), b.size, fun k hk hz => ⟨b.block k hk, PTz.of (P.below b) h (by omega) (by omega) hz⟩⟩
end
end Go.Proofs.YtpbckjagiebmjaaDoor.Tb
/- What is asked of a table, in the document's words. By the verifier of shale. -/
namespace Go.Proofs.YtpbckjagiebmjaaDoor.Tb
open Go Go.RowKit
set_option linter.unusedVariables false
set_option linter.unusedSimpArgs false
theorem ndR {m : Int → Option Sl} {R : List Sl} (h : ListOf m R) : R.Nodup := h.strict.imp fun h e => by rw [e] at h; omega
theorem lone_of {l : List Sl} (hn : l.Nodup) {s : Sl} (hs : s ∈ l) (ha : ∀ t ∈ l, t = s) : l = [s] := by
  cases l with
  | nil => cases hs
  | cons x l =>
    obtain rfl := ha x (List.mem_cons_self ..)
    cases l with
    | nil => rfl
    | cons y l =>
      have hy := ha y (List.mem_cons_of_mem _ (List.mem_cons_self ..))
      subst hy
      rw [List.nodup_cons] at hn
      exact absurd (List.mem_cons_self ..) hn.1
theorem isAt_iff {Bk : Int} {p : Nat} {s : Sl} : isAt Bk p s = true ↔ s.b = Bk ∧ s.p = (p : Int) := by unfold isAt; simp
section
variable {w : World} {base tb mb ob B P cO : Nat} {kb : Nat → Nat} {kf : Nat → Nat → Int} {m : Int → Option Sl} {cnt nb : Nat} {R : List Sl}
/-- two slots at one page are one. -/
theorem one_page (T : TabAt w base tb mb ob B P cO kb kf m cnt nb) {s t : Sl} (hs : m s.k = some s) (ht : m t.k = some t) (e1 : s.b = t.b) (e2 : s.p = t.p) : s = t := by
  obtain ⟨_, _, _, b, p, h1, h2, _, _, h3⟩ := T.here _ _ hs
  obtain ⟨_, _, _, b', p', h1', h2', _, _, h3'⟩ := T.here _ _ ht
  have eb : b = b' := by omega
  have ep : p = p' := by omega
  subst eb ep
  rw [h3] at h3'
  rw [← h3', hs] at ht
  exact Option.some.inj ht
theorem mem_of (T : TabAt w base tb mb ob B P cO kb kf m cnt nb) (h : ListOf m R) (Bk : Int) (s : Sl) : s ∈ ofL R Bk P ↔ m s.k = some s ∧ s.b = Bk := by
  unfold ofL
  rw [List.mem_flatMap, ← h.1 s]
  constructor
  · rintro ⟨q, _, hq⟩
    obtain ⟨h1, h2⟩ := List.mem_filter.1 hq
    exact ⟨h1, (isAt_iff.1 h2).1⟩
  · rintro ⟨h1, h2⟩
    obtain ⟨_, _, _, b, p, e1, e2, e3, e4, e5⟩ := T.here _ _ ((h.1 s).1 h1)
    exact ⟨p, List.mem_range.2 e4, List.mem_filter.2 ⟨h1, isAt_iff.2 ⟨h2, e2⟩⟩⟩
theorem of_one (T : TabAt w base tb mb ob B P cO kb kf m cnt nb) (h : ListOf m R) {Bk : Int} {L : List Sl} (h1 : ∀ s, s ∈ L ↔ m s.k = some s ∧ s.b = Bk) (h2 : (L.map Sl.k).Nodup) (h3 : L.Pairwise fun x y => x.p ≤ y.p) : L = ofL R Bk P := by
  refine sorted_one Sl.p L (ofL R Bk P) ?_ ?_ fun s => by rw [h1 s, mem_of T h Bk s]
  · have hn : L.Pairwise fun x y => x.k ≠ y.k := by
      have := h2
      unfold List.Nodup at this
      rwa [List.pairwise_map] at this
    refine List.Pairwise.imp_of_mem ?_ (hn.and h3)
    rintro x y hx hy ⟨hne, hle⟩
    obtain ⟨x1, x2⟩ := (h1 x).1 hx
    obtain ⟨y1, y2⟩ := (h1 y).1 hy
    by_cases e : x.p = y.p
    · exact absurd (by rw [one_page T x1 y1 (x2.trans y2.symm) e]) hne
    · omega
  · unfold ofL
    rw [List.pairwise_flatMap]
    refine ⟨fun q _ => ?_, ?_⟩
    · refine List.Pairwise.imp_of_mem ?_ ((ndR h).sublist List.filter_sublist)
      intro x y hx hy hne
      obtain ⟨x1, x2⟩ := List.mem_filter.1 hx
      obtain ⟨y1, y2⟩ := List.mem_filter.1 hy
      obtain ⟨x3, x4⟩ := isAt_iff.1 x2
      obtain ⟨y3, y4⟩ := isAt_iff.1 y2
      exact absurd (one_page T ((h.1 x).1 x1) ((h.1 y).1 y1) (x3.trans y3.symm) (x4.trans y4.symm)) hne
    · refine List.Pairwise.imp ?_ List.pairwise_lt_range
      intro q q' hq x hx y hy
      obtain ⟨x1, x2⟩ := List.mem_filter.1 hx
      obtain ⟨y1, y2⟩ := List.mem_filter.1 hy
      have := (isAt_iff.1 x2).2
      have := (isAt_iff.1 y2).2
      omega
theorem of_len (T : TabAt w base tb mb ob B P cO kb kf m cnt nb) (h : ListOf m R) {b : Nat} (hb : b < B) : ∀ n, n ≤ P → (ofL R (b : Int) n).length = liveN (kf b) n
  | 0, _ => rfl
  | n + 1, hn => by
    have ih := of_len T h hb n (by omega)
    rw [liveN_succ, ← ih]
    have e : ofL R (b : Int) (n + 1) = ofL R (b : Int) n ++ R.filter (isAt (b : Int) n) := by
      unfold ofL
      rw [List.range_succ, List.flatMap_append]
      simp
    rw [e, List.length_append]
    congr 1
    by_cases hk : kf b n = -1
    · rw [if_neg (by simp [hk])]
      rw [List.length_eq_zero_iff, List.filter_eq_nil_iff]
      intro s hs ha
      obtain ⟨a1, a2⟩ := isAt_iff.1 ha
      obtain ⟨_, h0, _, b', p', e1, e2, e3, e4, e5⟩ := T.here _ _ ((h.1 s).1 hs)
      have eb : b' = b := by omega
      have ep : p' = n := by omega
      rw [eb, ep, hk] at e5
      omega
    · rw [if_pos hk]
      obtain ⟨s, h1, h2, h3⟩ := T.there b n hb (by omega) hk
      have hk2 := (T.here _ _ h1).1
      have hs : s ∈ R := (h.1 s).2 (by rw [hk2]; exact h1)
      rw [lone_of (s := s) ((ndR h).sublist List.filter_sublist) (List.mem_filter.2 ⟨hs, isAt_iff.2 ⟨h2, h3⟩⟩) fun t ht => by
        obtain ⟨t1, t2⟩ := List.mem_filter.1 ht
        obtain ⟨a1, a2⟩ := isAt_iff.1 t2
        exact one_page T ((h.1 t).1 t1) ((h.1 s).1 hs) (a1.trans h2.symm) (a2.trans h3.symm)]
      rfl
theorem of_nil (T : TabAt w base tb mb ob B P cO kb kf m cnt nb) (h : ListOf m R) {Bk : Int} (hb : ¬ (0 ≤ Bk ∧ Bk < (B : Int))) : ofL R Bk P = [] := by
  rw [List.eq_nil_iff_forall_not_mem]
  intro s hs
  obtain ⟨h1, h2⟩ := (mem_of T h Bk s).1 hs
  obtain ⟨_, _, _, b, p, e1, _, e3, _⟩ := T.here _ _ h1
  exact hb (by omega)
set_option maxHeartbeats 1000000 in
theorem live_bad (T : TabAt w base tb mb ob B P cO kb kf m cnt nb) {b : Int} (hb : ¬ (0 ≤ b ∧ b < (B : Int))) : Calls Tryd.prog 19 #[.pointer (some ⟨tb, 0, none⟩), .int .i64 b] w fun e w' => e = .returned (.int .i64 0) ∧ w = w' := by
  obtain ⟨k0, k1, _⟩ := T.cells
  clear T
  by_cases h1 : 0 ≤ b
  · have q1 : decide (0 ≤ b) = true := decide_eq_true h1
    have q2 : decide (b < (B : Int)) = false := decide_eq_false (fun h => hb ⟨h1, h⟩)
    clear hb h1
    go_enter Tryd.func19, Tryd.ntmps19
    go_wp2_with fail
    go_ret
    exact ⟨rfl, rfl⟩
  · have q1 : decide (0 ≤ b) = false := decide_eq_false h1
    clear hb h1
    go_enter Tryd.func19, Tryd.ntmps19
    go_wp2_with fail
    go_ret
    exact ⟨rfl, rfl⟩
theorem live_all (T : TabAt w base tb mb ob B P cO kb kf m cnt nb) (h : ListOf m R) (Bk : Int) : Calls Tryd.prog 19 #[.pointer (some ⟨tb, 0, none⟩), .int .i64 Bk] w fun e w' => e = .returned (.int .i64 ((ofL R Bk P).length : Int)) ∧ w = w' := by
  by_cases hb : 0 ≤ Bk ∧ Bk < (B : Int)
  · obtain ⟨b, rfl⟩ : ∃ b : Nat, Bk = (b : Int) := ⟨Bk.toNat, by omega⟩
    have hbB : b < B := by omega
    rw [of_len T h hbB P (Nat.le_refl _)]
    exact live_any T hbB
  · rw [of_nil T h hb]
    exact live_bad T hb
set_option maxRecDepth 100000 in
set_option maxHeartbeats 2000000 in
theorem at_bad (T : TabAt w base tb mb ob B P cO kb kf m cnt nb) {b p : Int} (h : ¬ (0 ≤ b ∧ b < (B : Int) ∧ 0 ≤ p ∧ p < (P : Int))) : Calls Tryd.prog 15 #[.pointer (some ⟨tb, 0, none⟩), .agg #[.int .i64 b, .int .i64 p]] w fun e w' => e = .returned (.tuple #[.int .i64 0, .bool false]) ∧ Below w.heap.size w w' := by
  have HT := Lib.hid (And.intro T h)
  clear T h
  go_enter Tryd.func15, Tryd.ntmps15
  go_upto_region 1 with (fail)
  generalize hw : w.alloc (.cells #[.int .i64 b, .int .i64 p] 24 (0, 0)) = w1
  obtain ⟨K1, b1⟩ := newPl w w1 _ _ hw
  clear hw
  obtain ⟨xb, hxb⟩ : ∃ xb, xb = w.heap.size := ⟨_, rfl⟩
  rw [← hxb] at K1 ⊢
  have T1 := HT.out.1.below b1
  obtain ⟨x0, x1, _⟩ := pl_cells K1
  have HI : Hid (∀ q os, Calls Tryd.prog 26 #[.pointer (some ⟨tb, 0, none⟩), .agg #[.int .i64 b, .int .i64 p]] (Sort.grow (redrawn w1 q) os) fun x w'' => x = .returned (.bool false) ∧ ∃ p : Regrown, w'' = Sort.grow (redrawn w1 p.d) p.os) := fun q os => Calls.regrown_of (is_bad (T1.below (below_regrown w1 q os)) HT.out.2)
  have HX := Lib.hid b1
  replace x0 := cell_regrown x0
  replace x1 := cell_regrown x1
  clear T1 K1 b1 hxb
  refine wp_region_quiet_below (by kernel_rfl) (by kernel_rfl) ?_
  repeat (go_big_quiet_step (first | (go_at_call 26; with_reducible exact HI.out _ _)))
  refine wpQuiet_nil ?_
  intro _ hw'
  obtain ⟨⟨dq, osq⟩, hw''⟩ := hw'
  subst hw''
  have b2 := below_regrown w1 dq osq
  have HD : Hid (Below w.heap.size w (Sort.grow (redrawn w1 dq) osq)) := HX.out.trans (b2.mono HX.out.size)
  generalize Sort.grow (redrawn w1 dq) osq = w2 at HD ⊢
  clear x0 x1 HI b2
  go_wp2_with fail
  go_ret2
  exact ⟨rfl, HD.out⟩
theorem at_all (T : TabAt w base tb mb ob B P cO kb kf m cnt nb) (h : ListOf m R) (b p : Int) : ∃ (k : Int) (r : Bool), ((r = false ∧ k = 0 ∧ ∀ j, j < R.length → ¬ ((R[j]!).b = b ∧ (R[j]!).p = p)) ∨ (r = true ∧ ∃ j : Nat, j < R.length ∧ (R[j]!).b = b ∧ (R[j]!).p = p ∧ k = (R[j]!).k)) ∧ ∀ W, TabAt W base tb mb ob B P cO kb kf m cnt nb → Calls Tryd.prog 15 #[.pointer (some ⟨tb, 0, none⟩), .agg #[.int .i64 b, .int .i64 p]] W fun e w' => e = .returned (.tuple #[.int .i64 k, .bool r]) ∧ Below W.heap.size W w' := by
  have hat : ∀ j, j < R.length → ∃ b' p' : Nat, (R[j]!).b = (b' : Int) ∧ (R[j]!).p = (p' : Int) ∧ b' < B ∧ p' < P ∧ kf b' p' = (R[j]!).k ∧ 0 ≤ (R[j]!).k := fun j hj => by
    obtain ⟨_, h0, _, b', p', e1, e2, e3, e4, e5⟩ := T.here _ _ (h.yes hj)
    exact ⟨b', p', e1, e2, e3, e4, e5, h0⟩
  by_cases hg : 0 ≤ b ∧ b < (B : Int) ∧ 0 ≤ p ∧ p < (P : Int)
  · obtain ⟨g0, g1, g2, g3⟩ := hg
    obtain ⟨b, rfl⟩ : ∃ b' : Nat, b = (b' : Int) := ⟨b.toNat, by omega⟩
    obtain ⟨p, rfl⟩ : ∃ p' : Nat, p = (p' : Int) := ⟨p.toNat, by omega⟩
    have hbB : b < B := by omega
    have hpP : p < P := by omega
    by_cases hk : kf b p = -1
    · refine ⟨0, false, .inl ⟨rfl, rfl, fun j hj ⟨e1, e2⟩ => ?_⟩, fun W TW => at_no TW hbB hpP hk⟩
      obtain ⟨b', p', h1, h2, _, _, h5, h6⟩ := hat j hj
      have eb : b' = b := by omega
      have ep : p' = p := by omega
      rw [eb, ep, hk] at h5
      omega
    · obtain ⟨s, h1, h2, h3⟩ := T.there b p hbB hpP hk
      have h4 := (T.here _ _ h1).1
      have hs : s ∈ R := (h.1 s).2 (by rw [h4]; exact h1)
      obtain ⟨j, hj, rfl⟩ := List.mem_iff_getElem.1 hs
      refine ⟨kf b p, true, .inr ⟨rfl, j, hj, ?_⟩, fun W TW => at_yes TW hbB hpP hk⟩
      rw [getElem!_pos R j hj]
      exact ⟨h2, h3, h4.symm⟩
  · refine ⟨0, false, .inl ⟨rfl, rfl, fun j hj ⟨e1, e2⟩ => ?_⟩, fun W TW => at_bad TW hg⟩
    obtain ⟨b', p', h1, h2, _, _, _⟩ := hat j hj
    exact hg (by omega)
end
set_option maxHeartbeats 1000000 in
theorem new_no (b p : Int) (hb : ¬ (1 ≤ b ∧ b ≤ 64 ∧ 1 ≤ p ∧ p ≤ 64)) (w : World) {y : Addr} (E : ErrAt w 0 y) : Calls Tryd.prog 7 #[.int .i64 b, .int .i64 p] w fun e w' => e = .returned (.tuple #[.pointer none, errOf y]) ∧ Below w.heap.size w w' := by
  have E' : ∀ W, Below w.heap.size w W → W.cell? ⟨0, 0, none⟩ = some (errOf y) := fun W b => (E.below b).1
  have c0 := E' w (Below.refl _ _)
  have HE := Lib.hid E'
  clear E E'
  have fin : ∀ d0 d1 d2 d3 : Bool, decide (b < 1) = d0 → decide (64 < b) = d1 → decide (p < 1) = d2 → decide (64 < p) = d3 → (d0 || d1 || d2 || d3) = true → Calls Tryd.prog 7 #[.int .i64 b, .int .i64 p] w fun e w' => e = .returned (.tuple #[.pointer none, errOf y]) ∧ Below w.heap.size w w' := by
    intro d0 d1 d2 d3 h0 h1 h2 h3 hor
    clear hb
    go_enter Tryd.func7, Tryd.ntmps7
    cases d0 <;> cases d1 <;> cases d2 <;> cases d3 <;> first | (exact absurd hor (by decide)) | (
      clear hor
      go_upto_region 2 with (fail)
      go_quiet (fail)
      have hD : Hid (Below w.heap.size w (w.drewN nq)) := (Drawn.mk w nq).below w.heap.size
      go_wp2_with fail
      go_ret2
      exact ⟨rfl, hD.out⟩)
  refine fin _ _ _ _ rfl rfl rfl rfl ?_
  by_cases h1 : b < 1
  · simp [h1]
  · by_cases h2 : 64 < b
    · simp [h2]
    · by_cases h3 : p < 1
      · simp [h3]
      · have h4 : 64 < p := by omega
        simp [h4]
end Go.Proofs.YtpbckjagiebmjaaDoor.Tb
/- Pieces of TablePlays, taken out of the program's text. By the verifier of shale. -/
namespace Go.Proofs.YtpbckjagiebmjaaDoor.Tb
open Go Go.RowKit
set_option linter.unusedVariables false
def findCond (n : Nat) : Code → Option Code
  | .cond (.tmp k) a b => if k = n then some (.cond (.tmp k) a b) else match findCond n a with
    | some c => some c
    | none => findCond n b
  | .seq a b => match findCond n a with
    | some c => some c
    | none => findCond n b
  | .block _ c => findCond n c
  | .loop c => findCond n c
  | _ => none
noncomputable def code94 : Code := (Tryd.f3.body.bind (findCond 94)).getD .skip
theorem wp_code {P : Program} {c c' : Code} {Q : Exit → Act → World → Prop} {a : Act} {w : World} (h : c = c') (x : Code.wp P c Q a w) : Code.wp P c' Q a w := h ▸ x
theorem box5 {X : World} {z : Nat} (h : X.heap[z]? = some (.cells #[.int .i64 0, .int .i64 0] 24 (0, 0))) (x : Value) : X.cell? ⟨z, 0, none⟩ = some (.int .i64 0) ∧ X.cell? ⟨z, 1, none⟩ = some (.int .i64 0) ∧ X.frozen? ⟨z, 0, none⟩ = false ∧ X.frozen? ⟨z, 1, none⟩ = false ∧ (X.setCell ⟨z, 0, none⟩ x).cell? ⟨z, 1, none⟩ = some (.int .i64 0) ∧ (X.setCell ⟨z, 0, none⟩ x).frozen? ⟨z, 1, none⟩ = false := by
  obtain ⟨a0, a1, a2⟩ := pl_cells h
  obtain ⟨b0, b1, b2⟩ := pl_cells (heap_setCell_same X z 0 #[.int .i64 0, .int .i64 0] 24 x h)
  exact ⟨a0, a1, a2 0, a2 1, b1, b2 1⟩
end Go.Proofs.YtpbckjagiebmjaaDoor.Tb
/- TablePlays: what the parts of its walk share. By the verifier of shale. -/
namespace Go.Proofs.YtpbckjagiebmjaaDoor.walkTablePlays
open Go Go.RowKit Tb
set_option linter.unusedVariables false
set_option linter.unusedSimpArgs false
attribute [local go_sem] Oper.semAt_some
theorem newI64 (w W : World) (x : Int) (h : w.alloc (.cells #[.int .i64 x] 3 (0, 0)) = W) : W.heap[w.heap.size]? = some (.cells #[.int .i64 x] 3 (0, 0)) ∧ Below w.heap.size w W := by
  subst h
  exact ⟨heap_alloc_new w _, (Below.refl _ _).alloc (Nat.le_refl _) _⟩
theorem newBool (w W : World) (x : Bool) (h : w.alloc (.cells #[.bool x] 4 (0, 0)) = W) : W.heap[w.heap.size]? = some (.cells #[.bool x] 4 (0, 0)) ∧ Below w.heap.size w W := by
  subst h
  exact ⟨heap_alloc_new w _, (Below.refl _ _).alloc (Nat.le_refl _) _⟩
theorem newPtr (w W : World) (p : Addr) (h : w.alloc (.cells #[.pointer (some p)] 31 (0, 0)) = W) : W.heap[w.heap.size]? = some (.cells #[.pointer (some p)] 31 (0, 0)) ∧ Below w.heap.size w W := by
  subst h
  exact ⟨heap_alloc_new w _, (Below.refl _ _).alloc (Nat.le_refl _) _⟩
theorem newRef (w W : World) (B P : Int) (h : w.alloc (.cells #[.int .i64 B, .int .i64 P, .slice none 0 0] 34 (0, 0)) = W) : RefT W w.heap.size w.heap.size B P none 0 [] ∧ Below w.heap.size w W ∧ W.heap.size = w.heap.size + 1 := by
  subst h
  exact ⟨⟨Nat.le_refl _, heap_alloc_new w _, ⟨Nat.le_refl _, Nat.zero_le _⟩, fun h => absurd h (by simp), fun p hp => by cases hp⟩, (Below.refl _ _).alloc (Nat.le_refl _) _, by simp⟩
theorem res_bool {fn : Func} (hr : fn.results = #[.cell 12 4]) {tmps : Array Value} {w : World} {g : Nat} {v : Bool} (hp : tmps.getD 12 undef = .pointer (some ⟨g, 0, none⟩)) (hc : w.cell? ⟨g, 0, none⟩ = some (.bool v)) : (results fn tmps).run Tryd.prog w = .ok (.bool v) w := by
  have hp' : tmps[12]?.getD undef = .pointer (some ⟨g, 0, none⟩) := by simpa using hp
  simp [results, hr, hp', asAddr, go_sem, hc]
theorem regrown_start (w : World) : ∃ p : Regrown, w.drew = Sort.grow (redrawn w p.d) p.os := regrown_of_below ((Drawn.mk w 1).below _)
theorem listOf_nil : ListOf (fun _ => none) [] := ⟨fun s => ⟨fun h => (nomatch h), fun h => (nomatch h)⟩, List.nodup_nil, List.Pairwise.nil⟩
/-- the key's place among the first so many. -/
def fndR (R : List Sl) (key : Int) (j : Nat) (fv : Int) : Prop := (fv = -1 ∧ ∀ k, k < j → (R[k]!).k ≠ key) ∨ ∃ k : Nat, k < j ∧ fv = (k : Int) ∧ (R[k]!).k = key
/-- the page's place among the first so many. -/
def lieR0 (R : List Sl) (b p : Int) (j : Nat) (lv : Int) : Prop := (lv = -1 ∧ ∀ k, k < j → ¬ ((R[k]!).b = b ∧ (R[k]!).p = p)) ∨ ∃ k : Nat, k < j ∧ lv = (k : Int) ∧ (R[k]!).b = b ∧ (R[k]!).p = p
theorem fndR.next {R : List Sl} {key fv : Int} {j : Nat} (h : fndR R key j fv) (hn : (R[j]!).k ≠ key) : fndR R key (j + 1) fv := by
  rcases h with ⟨h1, h2⟩ | ⟨k, h1, h2, h3⟩
  · refine .inl ⟨h1, fun k hk => ?_⟩
    by_cases e : k = j
    · rw [e]; exact hn
    · exact h2 k (by omega)
  · exact .inr ⟨k, by omega, h2, h3⟩
theorem lieR0.next {R : List Sl} {b p lv : Int} {j : Nat} (h : lieR0 R b p j lv) (hn : ¬ ((R[j]!).b = b ∧ (R[j]!).p = p)) : lieR0 R b p (j + 1) lv := by
  rcases h with ⟨h1, h2⟩ | ⟨k, h1, h2, h3⟩
  · refine .inl ⟨h1, fun k hk => ?_⟩
    by_cases e : k = j
    · rw [e]; exact hn
    · exact h2 k (by omega)
  · exact .inr ⟨k, by omega, h2, h3⟩
theorem ask_facts {w : World} {base tb mb ob B P cO : Nat} {kb : Nat → Nat} {kf : Nat → Nat → Int} {m : Int → Option Sl} {cnt nb N : Nat} {R : List Sl} (T : TabAt w base tb mb ob B P cO kb kf m cnt nb) (h : ListOf m R) (hN : N = R.length) {key pB pP fv lv ka : Int} {s : Sl} {r ra : Bool} (hs : s = (m key).getD zSl) (hr : r = (m key).isSome)
    (hk : (ra = false ∧ ka = 0 ∧ ∀ j, j < R.length → ¬ ((R[j]!).b = pB ∧ (R[j]!).p = pP)) ∨ (ra = true ∧ ∃ j : Nat, j < R.length ∧ (R[j]!).b = pB ∧ (R[j]!).p = pP ∧ ka = (R[j]!).k)) (hf : fndR R key N fv) (hl : lieR0 R pB pP N lv) :
    ((fv = -1 ∧ r = false) ∨ ∃ q : Nat, q < R.length ∧ fv = (q : Int) ∧ r = true ∧ s = R[q]!) ∧ ((lv = -1 ∧ ra = false) ∨ ∃ q : Nat, q < R.length ∧ lv = (q : Int) ∧ ra = true ∧ ka = (R[q]!).k) := by
  subst hN
  refine ⟨?_, ?_⟩
  · rcases hf with ⟨h1, h2⟩ | ⟨q, h1, h2, h3⟩
    · left
      refine ⟨h1, ?_⟩
      have : m key = none := h.no (fun k s hs => (T.here k s hs).1) fun t ht => by
        obtain ⟨j, hj, rfl⟩ := List.mem_iff_getElem.1 ht
        have := h2 j hj
        rw [getElem!_pos R j hj] at this
        exact this
      rw [hr, this]; rfl
    · right
      have := h.yes h1
      rw [h3] at this
      exact ⟨q, h1, h2, by rw [hr, this]; rfl, by rw [hs, this]; rfl⟩
  · rcases hl with ⟨h1, h2⟩ | ⟨q, h1, h2, h3, h4⟩
    · left
      refine ⟨h1, ?_⟩
      rcases hk with ⟨k1, _⟩ | ⟨_, j, k2, k3, k4, _⟩
      · exact k1
      · exact absurd ⟨k3, k4⟩ (h2 j k2)
    · right
      rcases hk with ⟨_, _, k3⟩ | ⟨k1, j, k2, k3, k4, k5⟩
      · exact absurd ⟨h3, h4⟩ (k3 q h1)
      · refine ⟨q, h1, h2, k1, ?_⟩
        rw [k5, one_page T (h.yes k2) (h.yes h1) (k3.trans h3.symm) (k4.trans h4.symm)]
/-- what lies below the tables as it lay: what came in, the variables, the sentinels. -/
def Low (base pb sb rb : Nat) (w : World) (a : Option Addr) (n : Nat) (D : Nat → DoT) (pB pP x5 : Int) (f : Nat → Addr) (W : World) : Prop :=
  W.heap[pb]? = some (.cells #[.int .i64 pB, .int .i64 pP] 24 (0, 0)) ∧ W.heap[sb]? = some (.cells #[.int .i64 x5] 3 (0, 0)) ∧ W.heap[rb]? = some (.cells #[.bool false] 4 (0, 0)) ∧ Below base w W ∧ AllErrs W f ∧ ∀ i, i < n → ∃ kb off, a = some ⟨kb, off, none⟩ ∧ kb < base ∧ DoTAt W kb (off + i * 10) (D i)
def isReg (n : Nat) : Code → Bool
  | .region id _ _ => id == n
  | _ => false
def isSeqReg (n : Nat) : Code → Bool
  | .seq a _ => isReg n a
  | _ => false
def findSeqBy (p : Code → Bool) : Code → Option Code
  | .seq a b => match p a with
    | true => some (.seq a b)
    | false => match findSeqBy p a with
      | some c => some c
      | none => findSeqBy p b
  | .block _ c => findSeqBy p c
  | .loop c => findSeqBy p c
  | .cond _ a b => match findSeqBy p a with
    | some c => some c
    | none => findSeqBy p b
  | _ => none
noncomputable def ask21 : Code := (Tryd.f3.body.bind (findSeqBy (isReg 21))).getD .skip
noncomputable def fin34 : Code := (Tryd.f3.body.bind (findSeqBy (isSeqReg 34))).getD .skip
def secondOf : Code → Code
  | .seq _ b => b
  | c => c
def firstOf : Code → Code
  | .seq a _ => a
  | c => c
noncomputable def reg21 : Code := firstOf ask21
noncomputable def rest21 : Code := secondOf ask21
noncomputable def reg34 : Code := firstOf (firstOf fin34)
noncomputable def cond34 : Code := secondOf (firstOf fin34)
noncomputable def rest34 : Code := secondOf fin34
theorem then_noPanic {K : Act → World → Prop} {Q : Exit → Act → World → Prop} : ∀ e a w, Exit.then K (NoPanic Q) e a w → Exit.then K Q e a w := fun e a w h => by
  cases e <;> first | exact h | exact NoPanic.imp _ _ _ h | exact (h : False).elim
theorem wp_into {P : Program} {c c' : Code} {Q : Exit → Act → World → Prop} {K : Act → World → Prop} (h : ∀ a w, Code.wp P c Q a w → K a w) (e : c = c') : ∀ a w, Code.wp P c' Q a w → K a w := e ▸ h
end Go.Proofs.YtpbckjagiebmjaaDoor.walkTablePlays
/- A region of a function, taken out of the program's text; how many slots a block has. By the verifier of shale. -/
namespace Go.Proofs.YtpbckjagiebmjaaDoor.Tb
open Go Go.RowKit
set_option linter.unusedVariables false
def findRegion (n : Nat) : Code → Option Code
  | .region id ops b => if id = n then some (.region id ops b) else none
  | .seq a b => match findRegion n a with
    | some c => some c
    | none => findRegion n b
  | .block _ c => findRegion n c
  | .loop c => findRegion n c
  | .cond _ a b => match findRegion n a with
    | some c => some c
    | none => findRegion n b
  | _ => none
noncomputable def reg32 : Code := (Tryd.f3.body.bind (findRegion 32)).getD .skip
theorem of_small {w : World} {base tb mb ob B P cO : Nat} {kb : Nat → Nat} {kf : Nat → Nat → Int} {m : Int → Option Sl} {cnt nb : Nat} {R : List Sl} (T : TabAt w base tb mb ob B P cO kb kf m cnt nb) (h : ListOf m R) (Bk : Int) : (ofL R Bk P).length ≤ 64 := by
  have hp := T.pos
  by_cases hb : 0 ≤ Bk ∧ Bk < (B : Int)
  · obtain ⟨b, rfl⟩ : ∃ b : Nat, Bk = (b : Int) := ⟨Bk.toNat, by omega⟩
    rw [of_len T h (by omega) P (Nat.le_refl _)]
    exact Nat.le_trans (liveN_le _ _) hp.2.2.2.1
  · rw [of_nil T h hb]; simp
end Go.Proofs.YtpbckjagiebmjaaDoor.Tb
