/- Texts of the verifier of shale, laid into one: BinTrim, BinAdd, BinTurn, MoMem, BinGcd, MoOps, MoAll, MoNew, MoWrite, MoSet, MoEq, MoIter, MoSetl, MoSame, MoLists, MoRef, MoFront, MoNm, MoErr, MoPair, MoPl, MoPl2, MoR, MoFin. -/
import Derived.Test.YtbngkmlipmhgdaaDoorGreat1
import Derived.Test.YtbngkmlipmhgdaaDoorGreat2
import Derived.WalkKit
import Derived.WalkSpells
import Derived.WalkLawsBesides
import Derived.Deep.LoopGhost
import Derived.Deep.Cut
import Derived.BigQuiet
import Derived.Outline
import Derived.Lib.Small
import Derived.Lib.Walk
import Derived.Laws.CopyOwn
import Derived.OwnWalk
import Derived.Lib.SliceRun
import Derived.Deep.AppendLies
import Derived.Laws.CopyRow
import Derived.Deep.RegionLaw
import Derived.StillTailTactics
import Derived.Deep.RegionHeld3
import Derived.RangeFuncCalls
import Derived.Shelf.Abstract
/- The walks over package binpoly: trim, Degree, Bit. By the verifier of shale. -/
namespace Go.Proofs.YtbngkmlipmhgdaaDoor.Bin
open Go Go.RowKit
set_option linter.unusedVariables false
/-- a polynomial that a call is handed: bytes, with room behind them or none. -/
structure Pol (w : World) (a : Option Addr) (n cap : Nat) (l : List (BitVec 8)) : Prop where
  hlen : n = l.length
  hcap : n ≤ cap
  hmost : cap ≤ maxLen
  hnil : a = none → cap = 0
  hrow : n = 0 ∨ ∃ bb off, a = some ⟨bb, off, none⟩ ∧ Row8 w bb off l ∧ bb < w.heap.size
theorem Pol.below {w w' : World} {a : Option Addr} {n cap : Nat} {l : List (BitVec 8)} (h : Pol w a n cap l) (b : Below w.heap.size w w') : Pol w' a n cap l :=
  ⟨h.hlen, h.hcap, h.hmost, h.hnil, by
    rcases h.hrow with h0 | ⟨bb, off, e, hr, hb⟩
    · exact Or.inl h0
    · exact Or.inr ⟨bb, off, e, hr.below b hb, Nat.lt_of_lt_of_le hb b.size⟩⟩
theorem Pol.take {w : World} {a : Option Addr} {n cap : Nat} {l : List (BitVec 8)} (h : Pol w a n cap l) (k : Nat) (hk : k ≤ n) : Pol w a k cap (l.take k) :=
  ⟨by rw [List.length_take]; have := h.hlen; omega, Nat.le_trans hk h.hcap, h.hmost, h.hnil, by
    rcases h.hrow with h0 | ⟨bb, off, e, hr, hb⟩
    · exact Or.inl (by omega)
    · exact Or.inr ⟨bb, off, e, hr.take k, hb⟩⟩
theorem Pol.arg {w : World} {a : Option Addr} {n cap : Nat} {l : List (BitVec 8)} (h : Pol w a n cap l) : Arg8 w (.slice a n cap) l := by
  have hm : l.length ≤ maxLen := by have := h.hlen; have := h.hcap; have := h.hmost; omega
  rcases h.hrow with h0 | ⟨bb, off, rfl, hr, hb⟩
  · have hl : l = [] := List.eq_nil_of_length_eq_zero (by rw [← h.hlen]; exact h0)
    subst hl; subst h0
    exact Arg8.nil _ _ _
  · exact Arg8.whole hr hb h.hlen (by have := h.hlen; omega)
end Go.Proofs.YtbngkmlipmhgdaaDoor.Bin
/- The walk over package binpoly's Add. By the verifier of shale. -/
namespace Go.Proofs.YtbngkmlipmhgdaaDoor.Bin
open Go Go.RowKit
set_option linter.unusedVariables false
/-- a polynomial in new memory, or none. -/
structure NewP (w w' : World) (a : Option Addr) (n cap : Nat) (X : List (BitVec 8)) : Prop where
  hlen : n = X.length
  hcap : n ≤ cap
  hmost : cap ≤ maxLen
  own : (a = none ∧ n = 0 ∧ cap = 0) ∨ ∃ g, a = some ⟨g, 0, none⟩ ∧ w.heap.size ≤ g ∧ Buf8 w' g X
theorem NewP.pol {w w' : World} {a : Option Addr} {n cap : Nat} {X : List (BitVec 8)} (h : NewP w w' a n cap X) : Pol w' a n cap X := by
  refine ⟨h.hlen, h.hcap, h.hmost, ?_, ?_⟩
  · intro e
    rcases h.own with ⟨_, _, h2⟩ | ⟨g, h2, _⟩
    · exact h2
    · rw [e] at h2; cases h2
  · rcases h.own with ⟨_, h2, _⟩ | ⟨g, h2, _, hb⟩
    · exact Or.inl h2
    · exact Or.inr ⟨g, 0, h2, hb.row, hb.lt⟩
theorem arg_src {W : World} {a : Option Addr} {n cap : Nat} {l : List (BitVec 8)} (h : Pol W a n cap l) (W' : World) (b : Below W.heap.size W W') : 0 < (cells8 l).length → ∃ ad, a = some ad ∧ ∀ j v, (cells8 l)[j]? = some v → W'.cell? (ad.add j) = some v := by
  intro h0
  rw [cells8_length] at h0
  rcases h.hrow with h1 | ⟨bb, off, rfl, hr, hb⟩
  · have := h.hlen; omega
  · refine ⟨_, rfl, fun j v hj => ?_⟩
    have hj2 : j < l.length := by
      have := (List.getElem?_eq_some_iff.1 hj).1
      rwa [cells8_length] at this
    have hadd : (⟨bb, off, none⟩ : Addr).add j = ⟨bb, off + j, none⟩ := by by_cases h : j = 0 <;> simp [Addr.add, h]
    rw [hadd, (hr.below b hb) j hj2, ← hj]
    unfold cells8 nth8
    simp [hj2]
section
attribute [local go_sem] Bits32.bxor
end
end Go.Proofs.YtbngkmlipmhgdaaDoor.Bin
/- The walk over package binpoly's turn. By the verifier of shale. -/
namespace Go.Proofs.YtbngkmlipmhgdaaDoor.Bin
open Go Go.RowKit
set_option linter.unusedVariables false
section
attribute [local go_sem] Bits32.bxor Bits32.bxor_bit
end
theorem own_newP {w w' : World} {v : Value} {n : Nat} {l : List (BitVec 8)} (h : Own8 w' w.heap.size v n l) : ∃ a cap, v = .slice a n cap ∧ NewP w w' a n cap l := by
  have hl := h.len
  rcases h.2 with ⟨h0, h1⟩ | ⟨g', cap', cur, hv, hbg, hh, hn, hm, hs, ht⟩
  · refine ⟨none, 0, by rw [h0, h1], ⟨hl.symm, by omega, by decide, Or.inl ⟨rfl, h1, rfl⟩⟩⟩
  · subst hv
    exact ⟨_, cap', rfl, ⟨hl.symm, hn, hm, Or.inr ⟨g', rfl, hbg, (Own8.buf h).1⟩⟩⟩
set_option maxRecDepth 100000 in
set_option maxHeartbeats 2000000 in
theorem clone_any (a : Option Addr) (n cap : Nat) (l : List (BitVec 8)) (w : World) (h : Pol w a n cap l) (hn : n ≤ 100000) :
    Calls Tryd.prog 24 #[.slice a n cap] w fun e w' => ∃ a' cap', e = .returned (.slice a' n cap') ∧ NewP w w' a' n cap' l ∧ Below w.heap.size w w' := by
  obtain ⟨i0, hi, hz0, hz1, hz2⟩ := info8
  have HP := Lib.hid h
  have q22 : ∀ (w : World) (a : Option Addr) (n c n' c' : Nat), (binOp .eql 31 (.slice a n c) (.slice none n' c')).run Tryd.prog w = .ok (.bool a.isNone) w := fun w a n c n' c' => Lib.run_eql_slice_nil w _ _ a n c n' c' Tryd.underlying31
  cases a with
  | none =>
    obtain rfl : cap = 0 := h.hnil rfl
    obtain rfl : n = 0 := by have := h.hcap; omega
    have hl : l = [] := List.eq_nil_of_length_eq_zero h.hlen.symm
    subst hl
    have HN : Hid (NewP w w none 0 0 []) := ⟨rfl, Nat.le_refl _, by decide, Or.inl ⟨rfl, rfl, rfl⟩⟩
    clear h
    go_enter Tryd.func24, Tryd.ntmps24
    go_wp2_with fail
    go_ret
    exact ⟨none, 0, rfl, HN.out, Below.refl _ _⟩
  | some ad =>
    have b0 : Below w.heap.size w (w.alloc (.cells #[] 5)) := (Below.refl _ _).alloc (Nat.le_refl _) _
    have ho : (w.alloc (.cells #[] 5)).ownsRow w.heap.size 5 1 (.slice (some ⟨w.heap.size, 0, none⟩) 0 0) 0 [] := World.ownsRow_made w #[] 0 (Nat.le_refl _) (Nat.zero_le _) rfl
    have hnews : ∀ j u, (cells8 l)[j]? = some u → (w.alloc (.cells #[] 5)).cell? (ad.add j) = some u := by
      intro j u hu
      have hj : 0 < (cells8 l).length := Nat.lt_of_le_of_lt (Nat.zero_le _) (List.getElem?_eq_some_iff.1 hu).1
      obtain ⟨ad', e, h2⟩ := arg_src h _ b0 hj
      obtain rfl := Option.some.inj e
      exact h2 j u hu
    have HL := Lib.hid h.hlen
    clear h
    go_enter Tryd.func24, Tryd.ntmps24
    go_wp2_with (at_builtin; refine wpList_append_own _ rfl _ _ 31 rfl w.heap.size 5 i0 (.int .u8 0) 1 1 Tryd.underlying31 hi hz0 hz1 hz2 rfl (by decide) (.slice (some ⟨w.heap.size, 0, none⟩) 0 0) 0 _ rfl ho ad n cap (cells8 l) rfl (by rw [cells8_length, ← HL.out, Nat.mul_one]) hnews (cells8_one _) (by unfold maxLen; omega) (by omega) (by simp) ?_; intro v9 w9 hown9 hgrow _)
    have ho9 : Own8 w9 w.heap.size v9 n l := by
      unfold Own8
      have := hown9
      rw [Nat.zero_add] at this
      exact this
    have b9 : Below w.heap.size w w9 := b0.grown hgrow (by simp) (fun k hk => by simp only [Value.ownBlock, Option.some.injEq] at hk; omega)
    obtain ⟨a', cap', rfl, hN⟩ := own_newP ho9
    clear hown9 hgrow ho9
    go_wp2_with fail
    go_ret
    exact ⟨a', cap', rfl, hN, b9⟩
end Go.Proofs.YtbngkmlipmhgdaaDoor.Bin
/- A model in memory. By the verifier of shale. -/
namespace Go.Proofs.YtbngkmlipmhgdaaDoor.Mo
open Go Go.RowKit Bin
set_option linter.unusedVariables false
set_option linter.unusedSimpArgs false
abbrev Bs := List (BitVec 8)
/-- an entry that waits: its sector, where its bytes lie, and what they are. -/
structure We where
  key : Nat
  d : Sd
  l : Bs
def We.cells (e : We) : List Value := [.int .i64 (e.key : Int), sdV e.d]
def wcells (L : List We) : List Value := L.flatMap We.cells
theorem wcells_cons (e : We) (L : List We) : wcells (e :: L) = e.cells ++ wcells L := rfl
theorem wcells_append (L M : List We) : wcells (L ++ M) = wcells L ++ wcells M := by unfold wcells; rw [List.flatMap_append]
theorem wcells_length : ∀ L : List We, (wcells L).length = L.length * 2
  | [] => rfl
  | e :: L => by rw [wcells_cons, List.length_append, wcells_length L]; show 2 + _ = _; rw [List.length_cons]; omega
theorem wcells_drop : ∀ (L : List We) (i : Nat), (wcells L).drop (i * 2) = wcells (L.drop i)
  | L, 0 => by simp
  | [], i + 1 => by simp [wcells]
  | e :: L, i + 1 => by
    rw [wcells_cons, List.drop_succ_cons, ← wcells_drop L i, List.drop_append, show e.cells.length = 2 from rfl, List.drop_of_length_le (by show 2 ≤ _; omega), List.nil_append, show (i + 1) * 2 - 2 = i * 2 by omega]
theorem wcells_one (L : List We) : ∀ u ∈ wcells L, u.oneCell' = true := by
  intro u hu
  obtain ⟨e, _, he⟩ := List.mem_flatMap.1 hu
  unfold We.cells at he
  simp only [List.mem_cons, List.not_mem_nil, or_false] at he
  rcases he with rfl | rfl <;> rfl
theorem wcells_at {L : List We} {i : Nat} {e : We} (h : L[i]? = some e) : (wcells L)[i * 2]? = some (.int .i64 (e.key : Int)) ∧ (wcells L)[i * 2 + 1]? = some (sdV e.d) := by
  have hd : (wcells L).drop (i * 2) = e.cells ++ wcells (L.drop (i + 1)) := by
    rw [wcells_drop]
    have hi := (List.getElem?_eq_some_iff.1 h).1
    rw [List.drop_eq_getElem_cons hi, (List.getElem?_eq_some_iff.1 h).2]
    rfl
  have k : ∀ j, j < 2 → (wcells L)[i * 2 + j]? = e.cells[j]? := by
    intro j hj
    have := congrArg (fun l => l[j]?) hd
    simp only [List.getElem?_drop] at this
    rw [this, List.getElem?_append_left (by show j < 2; exact hj)]
  exact ⟨k 0 (by omega), k 1 (by omega)⟩
abbrev WRow (w : World) (v : Value) (L : List We) : Prop := w.ownsRow 0 67 2 v L.length (wcells L)
theorem wrow_slice {w : World} {v : Value} {L : List We} (h : WRow w v L) : ∃ a c, v = .slice a L.length c ∧ L.length ≤ c ∧ c ≤ maxLen ∧ (a = none → c = 0) := by
  rcases h.2 with ⟨h1, h2⟩ | ⟨g, cap, cur, hv, _, _, h3, h4, _⟩
  · exact ⟨none, 0, by rw [h1, h2], by omega, by decide, fun _ => rfl⟩
  · exact ⟨_, cap, hv, h3, h4, fun e => by cases e⟩
theorem wrow_cells {w : World} {a : Option Addr} {n c : Nat} {L : List We} (h : WRow w (.slice a n c) L) {i : Nat} {e : We} (hi : L[i]? = some e) :
    ∃ g, a = some ⟨g, 0, none⟩ ∧ w.cell? ⟨g, i * 2, none⟩ = some (.int .i64 (e.key : Int)) ∧ w.cell? ⟨g, i * 2 + 1, none⟩ = some (sdV e.d) := by
  obtain ⟨k0, k1⟩ := wcells_at hi
  rcases h.2 with ⟨h1, h2⟩ | ⟨g, cap, cur, hv, hb, hh, _, _, _, _⟩
  · have := (List.getElem?_eq_some_iff.1 hi).1; omega
  · cases hv
    have hc := h.cells (g := g) rfl
    have hadd : ∀ j, (⟨g, 0, none⟩ : Addr).add j = ⟨g, j, none⟩ := fun j => by unfold Addr.add; split <;> simp_all
    have c0 := hc _ _ k0
    have c1 := hc _ _ k1
    rw [hadd] at c0 c1
    exact ⟨g, rfl, c0, c1⟩
theorem wrow_keep {w w' : World} {v : Value} {L : List We} (h : WRow w v L) (o : ∀ g, v.ownBlock = some g → w'.heap[g]? = w.heap[g]?) : WRow w' v L := by
  refine ⟨h.1, ?_⟩
  rcases h.2 with h0 | ⟨g', cap', cur, hv, hbg, hh, r⟩
  · exact Or.inl h0
  · exact Or.inr ⟨g', cap', cur, hv, hbg, by rw [o g' (by rw [hv]; rfl)]; exact hh, r⟩
/-- bytes where they lie. -/
abbrev Dat (w : World) (s : Sd) (l : Bs) : Prop := Pol w s.addr s.n s.c l
theorem Dat.same {w w' : World} {s : Sd} {l : Bs} (h : Dat w s l) (hs : w.heap.size ≤ w'.heap.size) (o : ∀ p, s.q = some p → w'.heap[p.1]? = w.heap[p.1]?) : Dat w' s l := by
  refine ⟨h.hlen, h.hcap, h.hmost, h.hnil, ?_⟩
  rcases h.hrow with h0 | ⟨bb, off, e, hr, hb⟩
  · exact .inl h0
  · refine .inr ⟨bb, off, e, fun i hi => ?_, Nat.lt_of_lt_of_le hb hs⟩
    have := hr i hi
    unfold Sd.addr at e
    cases hq : s.q with
    | none => rw [hq] at e; cases e
    | some p =>
      rw [hq] at e
      simp only [Option.map_some, Option.some.injEq, Addr.mk.injEq, and_true] at e
      obtain ⟨rfl, rfl⟩ := e
      unfold World.cell? at this ⊢
      simp only at this ⊢
      rw [o p hq]
      exact this
def zerosL (sz : Nat) : Bs := List.replicate sz 0
def upT (T : Nat → Bs) (k : Nat) (l : Bs) : Nat → Bs := fun j => if j = k then l else T j
def app (T : Nat → Bs) (L : List (Nat × Bs)) : Nat → Bs := L.foldl (fun T p => upT T p.1 p.2) T
theorem app_append (T : Nat → Bs) (L M : List (Nat × Bs)) : app T (L ++ M) = app (app T L) M := by unfold app; rw [List.foldl_append]
theorem app_snoc (T : Nat → Bs) (L : List (Nat × Bs)) (k : Nat) (l : Bs) : app T (L ++ [(k, l)]) = upT (app T L) k l := by rw [app_append]; rfl
theorem app_len {sz : Nat} : ∀ (L : List (Nat × Bs)) (T : Nat → Bs), (∀ k, (T k).length = sz) → (∀ p ∈ L, p.2.length = sz) → ∀ k, (app T L k).length = sz
  | [], T, h, _, k => h k
  | p :: L, T, h, hL, k => by
    refine app_len L (upT T p.1 p.2) (fun j => ?_) (fun q hq => hL q (by simp [hq])) k
    unfold upT
    split
    · exact hL p (by simp)
    · exact h j
/-- the map says what the sectors are. -/
def Holds (w : World) (n sz : Nat) (T : Nat → Bs) (m : Int → Option Sd) : Prop := ∀ k : Nat, k < n → (m (k : Int) = none ∧ T k = zerosL sz) ∨ ∃ s, m (k : Int) = some s ∧ Dat w s (T k)
def InD (dl : List Nat) (s : Sd) : Prop := ∀ p, s.q = some p → p.1 ∈ dl
def MIn (dl : List Nat) (m : Int → Option Sd) : Prop := ∀ k s, m k = some s → InD dl s
theorem Holds.same {w w' : World} {n sz : Nat} {T : Nat → Bs} {m : Int → Option Sd} {dl : List Nat} (h : Holds w n sz T m) (hi : MIn dl m) (hs : w.heap.size ≤ w'.heap.size) (o : ∀ k ∈ dl, w'.heap[k]? = w.heap[k]?) : Holds w' n sz T m := fun k hk => by
  rcases h k hk with h | ⟨s, h1, h2⟩
  · exact .inl h
  · exact .inr ⟨s, h1, h2.same hs fun p hp => o _ (hi _ s h1 p hp)⟩
theorem Holds.up {w : World} {n sz : Nat} {T : Nat → Bs} {m : Int → Option Sd} (h : Holds w n sz T m) (k : Nat) (s : Sd) (l : Bs) (d : Dat w s l) : Holds w n sz (upT T k l) (upM m (k : Int) s) := fun j hj => by
  unfold upT upM
  by_cases e : j = k
  · subst e
    exact .inr ⟨s, by simp, by simpa using d⟩
  · rw [if_neg e, if_neg (by omega)]
    exact h j hj
structure MoIn (w : World) (mo n sz : Nat) (T : Nat → Bs) (L : List (Nat × Bs)) (bl dl : List Nat) (cb tm nm : Nat) (mT mN : Int → Option Sd) (bT bN : Nat) (v : Value) (E : List We) : Prop where
  blk : w.heap[mo]? = some (.cells #[.int .i64 (n : Int), .int .i64 (sz : Int), .map (some tm), .map (some nm), v] 63 (0, 0))
  mapT : MapS w tm mT bT
  mapN : MapS w nm mN bN
  row : WRow w v E
  bls : bl = mo :: tm :: nm :: v.ownBlock.toList
  nod : mo ≠ tm ∧ mo ≠ nm ∧ tm ≠ nm ∧ v.ownBlock ≠ some mo ∧ v.ownBlock ≠ some tm ∧ v.ownBlock ≠ some nm
  dis : ∀ k ∈ dl, k ∉ bl
  dlt : ∀ k ∈ dl, k < w.heap.size
  inT : MIn dl mT
  inN : MIn dl mN
  inE : ∀ e ∈ E, InD dl e.d
  holT : Holds w n sz T mT
  holN : Holds w n sz (app T L) mN
  lay : E.map (fun e => (e.key, e.l)) = L
  ents : ∀ e ∈ E, Dat w e.d e.l ∧ e.key < n ∧ e.l.length = sz
  lens : ∀ k, (T k).length = sz
  num : 1 ≤ n ∧ n ≤ 1048576 ∧ 1 ≤ sz ∧ sz ≤ 1024
  cnt : bT + L.length ≤ cb ∧ bN ≤ cb ∧ cb ≤ 1000
/-- a model: its measures, what is there, what waits; bl: the blocks that it turns; dl: those that it only reads. -/
def MoAt (w : World) (mo n sz : Nat) (T : Nat → Bs) (L : List (Nat × Bs)) (bl dl : List Nat) (cb : Nat) : Prop := ∃ tm nm mT mN bT bN v E, MoIn w mo n sz T L bl dl cb tm nm mT mN bT bN v E
section
variable {w : World} {mo n sz : Nat} {T : Nat → Bs} {L : List (Nat × Bs)} {bl dl : List Nat} {cb tm nm : Nat} {mT mN : Int → Option Sd} {bT bN : Nat} {v : Value} {E : List We}
theorem MoIn.blt (h : MoIn w mo n sz T L bl dl cb tm nm mT mN bT bN v E) : ∀ k ∈ bl, k < w.heap.size := by
  intro k hk
  rw [h.bls] at hk
  simp only [List.mem_cons, Option.mem_toList] at hk
  rcases hk with rfl | rfl | rfl | hk
  · exact lt_of_block h.blk
  · exact h.mapT.lt
  · exact h.mapN.lt
  · exact (h.row.lt k hk).2
theorem MoIn.keep {w' : World} (h : MoIn w mo n sz T L bl dl cb tm nm mT mN bT bN v E) (hs : w.heap.size ≤ w'.heap.size) (o : ∀ k, k ∈ bl ∨ k ∈ dl → w'.heap[k]? = w.heap[k]?) : MoIn w' mo n sz T L bl dl cb tm nm mT mN bT bN v E := by
  have ob : ∀ k, k ∈ mo :: tm :: nm :: v.ownBlock.toList → w'.heap[k]? = w.heap[k]? := fun k hk => o k (.inl (by rw [h.bls]; exact hk))
  have od : ∀ k ∈ dl, w'.heap[k]? = w.heap[k]? := fun k hk => o k (.inr hk)
  exact { h with
    blk := (ob mo (by simp)).trans h.blk
    mapT := h.mapT.keep (ob tm (by simp))
    mapN := h.mapN.keep (ob nm (by simp))
    row := wrow_keep h.row fun g hg => ob g (by rw [hg]; simp)
    dlt := fun k hk => Nat.lt_of_lt_of_le (h.dlt k hk) hs
    holT := h.holT.same h.inT hs od
    holN := h.holN.same h.inN hs od
    ents := fun e he => ⟨(h.ents e he).1.same hs fun p hp => od _ (h.inE e he p hp), (h.ents e he).2⟩ }
theorem MoAt.keep {w' : World} (h : MoAt w mo n sz T L bl dl cb) (hs : w.heap.size ≤ w'.heap.size) (o : ∀ k, k ∈ bl ∨ k ∈ dl → w'.heap[k]? = w.heap[k]?) : MoAt w' mo n sz T L bl dl cb := by
  obtain ⟨tm, nm, mT, mN, bT, bN, v, E, h⟩ := h
  exact ⟨tm, nm, mT, mN, bT, bN, v, E, h.keep hs o⟩
theorem MoAt.lt (h : MoAt w mo n sz T L bl dl cb) : ∀ k, k ∈ bl ∨ k ∈ dl → k < w.heap.size := by
  obtain ⟨tm, nm, mT, mN, bT, bN, v, E, h⟩ := h
  rintro k (hk | hk)
  · exact h.blt k hk
  · exact h.dlt k hk
theorem MoAt.below {w' : World} (h : MoAt w mo n sz T L bl dl cb) (b : Below w.heap.size w w') : MoAt w' mo n sz T L bl dl cb := h.keep b.size fun k hk => b.block k (h.lt k hk)
theorem MoAt.tn {w' : World} {b2 b3 : List Nat} (h : MoAt w mo n sz T L bl dl cb) (t : Tn b2 w w' b3) (hd : ∀ k, k ∈ bl ∨ k ∈ dl → k ∉ b2) : MoAt w' mo n sz T L bl dl cb := h.keep t.size fun k hk => t.same k (h.lt k hk) (hd k hk)
theorem MoAt.more {cb' : Nat} (h : MoAt w mo n sz T L bl dl cb) (h1 : cb ≤ cb') (h2 : cb' ≤ 1000) : MoAt w mo n sz T L bl dl cb' := by
  obtain ⟨tm, nm, mT, mN, bT, bN, v, E, h⟩ := h
  exact ⟨tm, nm, mT, mN, bT, bN, v, E, { h with cnt := ⟨by have := h.cnt; omega, by have := h.cnt; omega, h2⟩ }⟩
theorem MoAt.lens (h : MoAt w mo n sz T L bl dl cb) : (∀ k, (T k).length = sz) ∧ (∀ p ∈ L, p.1 < n ∧ p.2.length = sz) ∧ 1 ≤ n ∧ n ≤ 1048576 ∧ 1 ≤ sz ∧ sz ≤ 1024 ∧ L.length ≤ cb ∧ cb ≤ 1000 := by
  obtain ⟨tm, nm, mT, mN, bT, bN, v, E, h⟩ := h
  refine ⟨h.lens, fun p hp => ?_, h.num.1, h.num.2.1, h.num.2.2.1, h.num.2.2.2, by have := h.cnt; omega, h.cnt.2.2⟩
  rw [← h.lay] at hp
  obtain ⟨e, he, rfl⟩ := List.mem_map.1 hp
  exact (h.ents e he).2
theorem mo_cells {a b c d v : Value} {t : TypeId} (e : w.heap[mo]? = some (.cells #[a, b, c, d, v] t (0, 0))) : w.cell? ⟨mo, 0, none⟩ = some a ∧ w.cell? ⟨mo, 1, none⟩ = some b ∧ w.cell? ⟨mo, 2, none⟩ = some c ∧ w.cell? ⟨mo, 3, none⟩ = some d ∧ w.cell? ⟨mo, 4, none⟩ = some v ∧ ∀ i, w.frozen? ⟨mo, i, none⟩ = false := by
  refine ⟨?_, ?_, ?_, ?_, ?_, fun i => ?_⟩
  · unfold World.cell?; simp only; rw [e]; rfl
  · unfold World.cell?; simp only; rw [e]; rfl
  · unfold World.cell?; simp only; rw [e]; rfl
  · unfold World.cell?; simp only; rw [e]; rfl
  · unfold World.cell?; simp only; rw [e]; rfl
  · unfold World.frozen?; simp only; rw [e]; rfl
end
theorem wf_nat (k : Nat) (h : k ≤ 1073741824) : (Lit.int .i64 (k : Int)).wf = true := by
  have h1 : IntKind.i64.min = -9223372036854775808 := by decide
  have h2 : IntKind.i64.max = 9223372036854775807 := by decide
  simp only [Lit.wf, h1, h2, Bool.and_eq_true, decide_eq_true_eq]
  omega
end Go.Proofs.YtbngkmlipmhgdaaDoor.Mo
/- The walks over package binpoly's Gcd and Same. By the verifier of shale. -/
namespace Go.Proofs.YtbngkmlipmhgdaaDoor.Bin
open Go Go.RowKit
set_option linter.unusedVariables false
theorem Buf8.since {w w' : World} {g : Nat} {X : List (BitVec 8)} (h : Buf8 w g X) (b : Below w.heap.size w w') : Buf8 w' g X := h.below b h.lt
theorem NewP.since {w w1 w2 : World} {a : Option Addr} {n cap : Nat} {X : List (BitVec 8)} (h : NewP w w1 a n cap X) (b : Below w1.heap.size w1 w2) : NewP w w2 a n cap X :=
  ⟨h.hlen, h.hcap, h.hmost, by
    rcases h.own with h1 | ⟨g, e, hg, hb⟩
    · exact Or.inl h1
    · exact Or.inr ⟨g, e, hg, Buf8.since hb b⟩⟩
theorem NewP.from {w0 w w' : World} {a : Option Addr} {n cap : Nat} {X : List (BitVec 8)} (h : NewP w w' a n cap X) (b : w0.heap.size ≤ w.heap.size) : NewP w0 w' a n cap X :=
  ⟨h.hlen, h.hcap, h.hmost, by
    rcases h.own with h1 | ⟨g, e, hg, hb⟩
    · exact Or.inl h1
    · exact Or.inr ⟨g, e, Nat.le_trans b hg, hb⟩⟩
set_option maxHeartbeats 400000 in
theorem equal_any (l m : List (BitVec 8)) (v u : Value) (w : World) (hv : Str8 w v l) (hu : Str8 w u m) :
    Calls Tryd.prog 32 #[v, u] w fun e w' => e = .returned (.bool (decide (l = m))) ∧ w = w' := by
  have h1 := hv w (fun _ _ => rfl)
  have h2 := hu w (fun _ _ => rfl)
  go_enter Tryd.func32, Tryd.ntmps32
  go_wp2
  go_ret
  refine ⟨?_, rfl⟩
  have e : ((strOf l).toList == (strOf m).toList) = decide (l = m) := by
    rw [Bool.eq_iff_iff, beq_iff_eq, decide_eq_true_iff]
    constructor
    · intro h
      rw [ByteArray.toList_eq, ByteArray.toList_eq] at h
      exact strOf_inj l m (by
        have : (strOf l).data = (strOf m).data := Array.toList_inj.1 h
        cases hl : strOf l; cases hm : strOf m
        simp_all)
    · intro h; rw [h]
  rw [← e]; rfl
end Go.Proofs.YtbngkmlipmhgdaaDoor.Bin
/- A model's small functions. By the verifier of shale. -/
namespace Go.Proofs.YtbngkmlipmhgdaaDoor.Mo
open Go Go.RowKit Bin
set_option linter.unusedVariables false
set_option linter.unusedSimpArgs false
set_option maxHeartbeats 1000000 in
theorem is_any {w : World} {mo n : Nat} (h : w.cell? ⟨mo, 0, none⟩ = some (.int .i64 (n : Int))) (k : Int) :
    Calls Tryd.prog 25 #[.pointer (some ⟨mo, 0, none⟩), .int .i64 k] w fun e w' => e = .returned (.bool (decide (0 ≤ k ∧ k < (n : Int)))) ∧ w = w' := by
  by_cases h0 : 0 ≤ k
  · have t0 : decide (0 ≤ k) = true := decide_eq_true h0
    by_cases h1 : k < (n : Int)
    · have t1 : decide (k < (n : Int)) = true := decide_eq_true h1
      have e : decide (0 ≤ k ∧ k < (n : Int)) = true := decide_eq_true ⟨h0, h1⟩
      rw [e]
      clear h0 h1 e
      go_enter Tryd.func25, Tryd.ntmps25
      go_wp2_with fail
      go_ret
      exact ⟨rfl, rfl⟩
    · have t1 : decide (k < (n : Int)) = false := decide_eq_false h1
      have e : decide (0 ≤ k ∧ k < (n : Int)) = false := decide_eq_false fun h => h1 h.2
      rw [e]
      clear h0 h1 e
      go_enter Tryd.func25, Tryd.ntmps25
      go_wp2_with fail
      go_ret
      exact ⟨rfl, rfl⟩
  · have t0 : decide (0 ≤ k) = false := decide_eq_false h0
    have e : decide (0 ≤ k ∧ k < (n : Int)) = false := decide_eq_false fun h => h0 h.1
    rw [e]
    clear h0 e
    go_enter Tryd.func25, Tryd.ntmps25
    go_wp2_with fail
    go_ret
    exact ⟨rfl, rfl⟩
set_option maxHeartbeats 1000000 in
theorem may_yes {w : World} {mo n sz : Nat} (h0 : w.cell? ⟨mo, 0, none⟩ = some (.int .i64 (n : Int))) (h1 : w.cell? ⟨mo, 1, none⟩ = some (.int .i64 (sz : Int))) (k : Nat) (hk : k < n) (a : Option Addr) (c : Nat) :
    Calls Tryd.prog 23 #[.pointer (some ⟨mo, 0, none⟩), .int .i64 (k : Int), .slice a sz c] w fun e w' => e = .returned .nilIface ∧ w = w' := by
  have HI := Lib.hid (is_any h0 (k : Int))
  have e : decide (0 ≤ (k : Int) ∧ (k : Int) < (n : Int)) = true := decide_eq_true (by omega)
  rw [e] at HI
  have t : ((sz : Int) == (sz : Int)) = true := by simp
  clear h0 hk e
  go_enter Tryd.func23, Tryd.ntmps23
  go_wp2_with fail
  refine HI.out.mono ?_
  rintro e w' ⟨rfl, rfl⟩
  clear HI
  go_wp2_with fail
  go_ret
  exact ⟨rfl, rfl⟩
set_option maxHeartbeats 1000000 in
theorem may_num {w : World} {mo n sz : Nat} (h0 : w.cell? ⟨mo, 0, none⟩ = some (.int .i64 (n : Int))) (k : Int) (hk : ¬ (0 ≤ k ∧ k < (n : Int))) (a : Option Addr) (m c : Nat) {y : Addr} (EN : ErrAt w 1 y) :
    Calls Tryd.prog 23 #[.pointer (some ⟨mo, 0, none⟩), .int .i64 k, .slice a m c] w fun e w' => e = .returned (errOf y) ∧ w = w' := by
  have HI := Lib.hid (is_any h0 k)
  rw [decide_eq_false hk] at HI
  have q : w.cell? ⟨1, 0, none⟩ = some (errOf y) := EN.1
  clear h0 hk EN
  go_enter Tryd.func23, Tryd.ntmps23
  go_wp2_with fail
  refine HI.out.mono ?_
  rintro e w' ⟨rfl, rfl⟩
  clear HI
  go_wp2_with fail
  go_ret
  exact ⟨rfl, rfl⟩
set_option maxHeartbeats 1000000 in
theorem may_size {w : World} {mo n sz : Nat} (h0 : w.cell? ⟨mo, 0, none⟩ = some (.int .i64 (n : Int))) (h1 : w.cell? ⟨mo, 1, none⟩ = some (.int .i64 (sz : Int))) (k : Int) (hk : 0 ≤ k ∧ k < (n : Int)) (a : Option Addr) (m c : Nat) (hm : m ≠ sz) {y : Addr} (ES : ErrAt w 2 y) :
    Calls Tryd.prog 23 #[.pointer (some ⟨mo, 0, none⟩), .int .i64 k, .slice a m c] w fun e w' => e = .returned (errOf y) ∧ w = w' := by
  have HI := Lib.hid (is_any h0 k)
  rw [decide_eq_true hk] at HI
  have t : ((m : Int) == (sz : Int)) = false := by rw [beq_eq_false_iff_ne]; omega
  have t' : ¬ ((m : Int) = (sz : Int)) := by omega
  have q : w.cell? ⟨2, 0, none⟩ = some (errOf y) := ES.1
  clear h0 hk hm ES
  go_enter Tryd.func23, Tryd.ntmps23
  go_wp2_with fail
  refine HI.out.mono ?_
  rintro e w' ⟨rfl, rfl⟩
  clear HI
  go_wp2_with fail
  go_ret
  exact ⟨rfl, rfl⟩
set_option maxHeartbeats 1000000 in
theorem waiting_any {w : World} {mo n sz : Nat} {T : Nat → Bs} {L : List (Nat × Bs)} {bl dl : List Nat} {cb : Nat} (h : MoAt w mo n sz T L bl dl cb) :
    Calls Tryd.prog 15 #[.pointer (some ⟨mo, 0, none⟩)] w fun e w' => e = .returned (.int .i64 (L.length : Int)) ∧ w = w' := by
  obtain ⟨tm, nm, mT, mN, bT, bN, v, E, h⟩ := h
  obtain ⟨a, c, rfl, _, _, _⟩ := wrow_slice h.row
  obtain ⟨_, _, _, _, q4, _⟩ := mo_cells h.blk
  have he : E.length = L.length := by rw [← h.lay]; simp
  rw [he] at q4
  obtain ⟨N, hN⟩ : ∃ N, N = L.length := ⟨_, rfl⟩
  rw [← hN] at q4 ⊢
  clear h he hN
  go_enter Tryd.func15, Tryd.ntmps15
  go_wp2_with fail
  go_ret
  exact ⟨rfl, rfl⟩
theorem size8' : (Tryd.prog.info? 5).map (·.size) = some 1 := by kernel_rfl
/-- the copy of a sector's bytes into a row of zeros. -/
theorem copy_dat {w : World} {g sz : Nat} {s : Sd} {l : Bs} (hg : Blk8 w g (zerosL sz)) (hl : l.length = sz) (hd : (s = zSd ∧ l = zerosL sz) ∨ Dat w s l) (ty : TypeId) :
    ∃ (x : Int) (w' : World), (Builtin.copy_ #[31, 31] ty #[.slice (some ⟨g, 0, none⟩) sz sz, sdV s]).run Tryd.prog w = .ok (.int .i64 x) w' ∧ Blk8 w' g l ∧ ∀ B, B ≤ g → Below B w w' := by
  rcases hd with ⟨rfl, rfl⟩ | hd
  · refine ⟨0, w, ?_, hg, fun B _ => Below.refl _ _⟩
    exact run_copy_nil Tryd.prog w _ _ ty 5 ⟨g, 0, none⟩ sz sz Tryd.underlying31 (by rw [size8']; rfl)
  · by_cases h0 : 0 < l.length
    · have hs := arg_src hd w (Below.refl _ _) (by rw [cells8_length]; exact h0)
      obtain ⟨ad, ha, hc⟩ := hs
      have hsz : s.n = sz := by rw [hd.hlen, hl]
      have hrun := run_copy_row (P := Tryd.prog) w 31 31 ty 5 g 0 sz sz ad s.n s.c _ 5 (cells8 l) Tryd.underlying31 size8' hg (by rw [cells8_length, hsz, hl]; exact (Nat.min_self _).symm) hc (by rw [cells8_length, hl]; simp [zerosL]) (cells8_one l)
      refine ⟨_, _, by rw [show sdV s = .slice (some ad) s.n s.c by rw [← ha]]; exact hrun, ?_, fun B hB => below_setRow (Below.refl _ _) hB _⟩
      have h5 := setRow_heap w g _ ((((zerosL sz).map fun c => Value.int .u8 (Bits32.b c)).toArray.toList.take 0 ++ cells8 l ++ ((zerosL sz).map fun c => Value.int .u8 (Bits32.b c)).toArray.toList.drop (0 + (cells8 l).length)).toArray) 5 _ hg
      unfold Blk8 obj8
      rw [h5]
      congr 3
      have : (((zerosL sz).map fun c => Value.int .u8 (Bits32.b c)).toArray.toList.drop (0 + (cells8 l).length)) = [] := by
        apply List.drop_eq_nil_of_le
        rw [cells8_length, hl]
        simp [zerosL]
      rw [this]
      simp [cells8]
    · have hl0 : l = [] := List.eq_nil_of_length_eq_zero (by omega)
      subst hl0
      have hsz : sz = 0 := by simpa using hl.symm
      subst hsz
      refine ⟨0, w, ?_, hg, fun B _ => Below.refl _ _⟩
      exact run_copy_none w _ _ ty 5 _ _ 0 0 s.n s.c Tryd.underlying31 size8' (by simp)
set_option maxHeartbeats 1000000 in
theorem sector_any {w : World} {mo sz sm nb : Nat} {m : Int → Option Sd} {l : Bs} (h1 : w.cell? ⟨mo, 1, none⟩ = some (.int .i64 (sz : Int))) (hs : sz ≤ 1024) (hm : MapS w sm m nb) (k : Nat) (hk : k ≤ 1048576) (hl : l.length = sz)
    (hd : (m (k : Int) = none ∧ l = zerosL sz) ∨ ∃ s, m (k : Int) = some s ∧ Dat w s l) :
    Calls Tryd.prog 26 #[.pointer (some ⟨mo, 0, none⟩), .map (some sm), .int .i64 (k : Int)] w fun e w' => e = .returned (.slice (some ⟨w.heap.size, 0, none⟩) sz sz) ∧ Blk8 w' w.heap.size l ∧ Below w.heap.size w w' := by
  have hmk := made8 w sz (by omega)
  have b0 : Below w.heap.size w (w.alloc (obj8 (List.replicate sz 0))) := (Below.refl _ _).alloc (Nat.le_refl _) _
  have K0 : Blk8 (w.alloc (obj8 (List.replicate sz 0))) w.heap.size (zerosL sz) := Blk8.new w _
  have hm1 := hm.keep (b0.block sm hm.lt)
  have hlook := hm1.look (wf_nat k (by omega))
  have hd1 : ((m (k : Int)).getD zSd = zSd ∧ l = zerosL sz) ∨ Dat (w.alloc (obj8 (List.replicate sz 0))) ((m (k : Int)).getD zSd) l := by
    rcases hd with ⟨e, h⟩ | ⟨s, e, h⟩
    · rw [e]; exact .inl ⟨rfl, h⟩
    · rw [e]; exact .inr (h.below b0)
  obtain ⟨s, hse⟩ : ∃ s, s = (m (k : Int)).getD zSd := ⟨_, rfl⟩
  rw [← hse] at hlook hd1
  generalize hw : w.alloc (obj8 (List.replicate sz 0)) = w1 at hmk b0 K0 hm1 hlook hd1
  have HC := Lib.hid (fun ty => copy_dat K0 hl hd1 ty)
  have HB := Lib.hid b0
  clear hw hm hm1 hd hd1 hse hl K0 b0 hk
  go_enter Tryd.func26, Tryd.ntmps26
  go_upto_region 2 with (fail)
  obtain ⟨x, w2, hrun, K2, hb2⟩ := HC.out 3
  have HK := Lib.hid (And.intro K2 (HB.out.trans ((hb2 w.heap.size (Nat.le_refl _)))))
  clear K2 hb2 HC HB hmk
  go_wp2_with fail
  go_ret
  exact ⟨rfl, HK.out⟩
set_option maxHeartbeats 1000000 in
theorem read_no {w : World} {mo n : Nat} (h0 : w.cell? ⟨mo, 0, none⟩ = some (.int .i64 (n : Int))) (k : Int) (hk : ¬ (0 ≤ k ∧ k < (n : Int))) :
    Calls Tryd.prog 13 #[.pointer (some ⟨mo, 0, none⟩), .int .i64 k] w fun e w' => e = .returned (.tuple #[.slice none 0 0, .bool false]) ∧ w = w' := by
  have HI := Lib.hid (is_any h0 k)
  rw [decide_eq_false hk] at HI
  clear h0 hk
  go_enter Tryd.func13, Tryd.ntmps13
  go_wp2_with fail
  refine HI.out.mono ?_
  rintro e w' ⟨rfl, rfl⟩
  clear HI
  go_wp2_with fail
  go_ret2
  exact ⟨rfl, rfl⟩
set_option maxHeartbeats 1000000 in
theorem read_yes {w : World} {mo n sz : Nat} {T : Nat → Bs} {L : List (Nat × Bs)} {bl dl : List Nat} {cb : Nat} (h : MoAt w mo n sz T L bl dl cb) (k : Nat) (hk : k < n) :
    Calls Tryd.prog 13 #[.pointer (some ⟨mo, 0, none⟩), .int .i64 (k : Int)] w fun e w' => e = .returned (.tuple #[.slice (some ⟨w.heap.size, 0, none⟩) sz sz, .bool true]) ∧ Blk8 w' w.heap.size (app T L k) ∧ Below w.heap.size w w' := by
  have hlens := h.lens
  obtain ⟨tm, nm, mT, mN, bT, bN, v, E, h⟩ := h
  obtain ⟨q0, q1, _, q3, _, _⟩ := mo_cells h.blk
  have HI := Lib.hid (is_any q0 (k : Int))
  have e : decide (0 ≤ (k : Int) ∧ (k : Int) < (n : Int)) = true := decide_eq_true (by omega)
  rw [e] at HI
  have HS := Lib.hid (sector_any (l := app T L k) q1 h.num.2.2.2 h.mapN k (by have := h.num; omega) (app_len L T hlens.1 (fun p hp => (hlens.2.1 p hp).2) k) (h.holN k hk))
  clear h e hlens q0 q1 hk
  go_enter Tryd.func13, Tryd.ntmps13
  go_wp2_with fail
  refine HI.out.mono ?_
  rintro e w' ⟨rfl, rfl⟩
  clear HI
  go_wp2_with fail
  refine HS.out.mono ?_
  rintro e w' ⟨rfl, h1, h2⟩
  have HE := Lib.hid (And.intro h1 h2)
  clear h1 h2 HS q3
  go_wp2_with fail
  go_ret2
  exact ⟨rfl, HE.out⟩
end Go.Proofs.YtbngkmlipmhgdaaDoor.Mo
/- All of a model's sectors, in new memory. By the verifier of shale. -/
namespace Go.Proofs.YtbngkmlipmhgdaaDoor.Mo
open Go Go.RowKit Bin
set_option linter.unusedVariables false
set_option linter.unusedSimpArgs false
def outV (kb : Nat → Nat) (sz i n : Nat) : List Value := (List.range n).map fun j => if j < i then .slice (some ⟨kb j, 0, none⟩) sz sz else .slice none 0 0
theorem outV_step (kb : Nat → Nat) (sz i n g : Nat) (hi : i < n) : (outV kb sz i n).toArray.setIfInBounds i (.slice (some ⟨g, 0, none⟩) sz sz) = (outV (fun j => if j = i then g else kb j) sz (i + 1) n).toArray := by
  apply Array.ext
  · simp [outV]
  · intro j h1 h2
    simp only [outV, Array.size_setIfInBounds, List.size_toArray, List.length_map, List.length_range] at h1 h2
    rw [Array.getElem_setIfInBounds (by simpa [outV] using h1)]
    simp only [outV, List.getElem_toArray, List.getElem_map, List.getElem_range]
    by_cases e : i = j
    · subst e
      simp
    · rw [if_neg e, if_neg (Ne.symm e)]
      by_cases h : j < i
      · rw [if_pos h, if_pos (by omega)]
      · rw [if_neg h, if_neg (by omega)]
theorem outV_at (kb : Nat → Nat) (sz i n : Nat) {j : Nat} (hj : j < n) : (outV kb sz i n)[j]? = some (if j < i then .slice (some ⟨kb j, 0, none⟩) sz sz else .slice none 0 0) := by
  unfold outV
  rw [List.getElem?_map, List.getElem?_range hj]
  rfl
theorem cell_list {w : World} {g : Nat} {cs : List Value} {t : TypeId} (h : w.heap[g]? = some (.cells cs.toArray t (0, 0))) (j : Nat) : w.cell? ⟨g, j, none⟩ = cs[j]? ∧ w.frozen? ⟨g, j, none⟩ = false := by
  refine ⟨?_, ?_⟩
  · rw [cell_of_row w g j _ t (0, 0) h]; simp
  · unfold World.frozen?; simp only; rw [h]; rfl
set_option maxRecDepth 100000 in
theorem madeL (w : World) (n : Nat) (hn : n ≤ 1048576) :
    (Instr.makeSlice 36 (.int .i64 (n : Int)) (.int .i64 (n : Int))).run Tryd.prog w = .ok (.slice (some ⟨w.heap.size, 0, none⟩) n n) (w.alloc (.cells (outV (fun _ => 0) 0 0 n).toArray 31 (0, 0))) := by
  obtain ⟨i0, hi, hz0, hz1, hz2⟩ := info_parts (show (Tryd.prog.info? 31).map (fun i => (i.zero, i.size, i.bytes)) = some (some (.slice none 0 0), 1, 24) by kernel_rfl)
  rw [run_make (P := Tryd.prog) w 36 31 i0 (.slice none 0 0) Tryd.underlying36 hi hz0 .i64 .i64 (n : Int) (n : Int) (by omega) (by omega) (by rw [hz2]; omega) (by omega)]
  congr 2
  unfold madeCells
  rw [hz1]
  congr 1
  apply Array.ext
  · simp [outV]
  · intro i h1 h2
    simp [Value.cells, outV, Nat.mod_one]
/-- all sectors so far. -/
structure AllI (w : World) (og n sz i : Nat) (kb : Nat → Nat) (T : Nat → Bs) (wx : World) : Prop where
  blk : wx.heap[og]? = some (.cells (outV kb sz i n).toArray 31 (0, 0))
  rows : ∀ j, j < i → Blk8 wx (kb j) (T j) ∧ og < kb j
  inj : ∀ a b, a < i → b < i → kb a = kb b → a = b
  wx : Below w.heap.size w wx
theorem outV_zero (kb kb' : Nat → Nat) (sz sz' n : Nat) : outV kb sz 0 n = outV kb' sz' 0 n := by simp [outV]
theorem AllI.next {w wx w5 : World} {og n sz i : Nat} {kb : Nat → Nat} {T : Nat → Bs} (h : AllI w og n sz i kb T wx) (hi : i < n) (ho : w.heap.size ≤ og) (hr : Blk8 w5 wx.heap.size (T i)) (b : Below wx.heap.size wx w5) :
    AllI w og n sz (i + 1) (fun j => if j = i then wx.heap.size else kb j) T (w5.setCell ⟨og, i, none⟩ (.slice (some ⟨wx.heap.size, 0, none⟩) sz sz)) := by
  have hl := lt_of_block h.blk
  have h5 := (b.block og hl).trans h.blk
  have o := Only.setCell w5 ⟨og, i, none⟩ (.slice (some ⟨wx.heap.size, 0, none⟩) sz sz)
  refine ⟨?_, fun j hj => ?_, fun a c ha hc e => ?_, ?_⟩
  · rw [heap_setCell_same _ _ i _ _ _ h5, outV_step kb sz i n _ hi]
  · by_cases e : j = i
    · subst e
      simp only [if_pos]
      exact ⟨(o.block _ (by show wx.heap.size ≠ og; omega)).trans hr, hl⟩
    · rw [if_neg e]
      obtain ⟨h1, h2⟩ := h.rows j (by omega)
      exact ⟨(o.block _ (by show kb j ≠ og; omega)).trans ((b.block _ (lt_of_block h1)).trans h1), h2⟩
  · have lt : ∀ j, j < i → kb j < wx.heap.size := fun j hj => lt_of_block (h.rows j hj).1
    try simp only at e
    by_cases ea : a = i <;> by_cases ec : c = i
    · omega
    · rw [if_pos ea, if_neg ec] at e
      have := lt c (by omega); omega
    · rw [if_neg ea, if_pos ec] at e
      have := lt a (by omega); omega
    · rw [if_neg ea, if_neg ec] at e
      exact h.inj a c (by omega) (by omega) e
  · exact (h.wx.trans (b.mono h.wx.size)).trans (o.below ho)
/-- a list of rows: what they are. -/
def AllS (w : World) (og n sz : Nat) (kb : Nat → Nat) (T : Nat → Bs) : Prop := w.heap[og]? = some (.cells (outV kb sz n n).toArray 31 (0, 0)) ∧ (∀ j, j < n → Blk8 w (kb j) (T j) ∧ og < kb j) ∧ ∀ a b, a < n → b < n → kb a = kb b → a = b
theorem AllS.below {w w' : World} {og n sz : Nat} {kb : Nat → Nat} {T : Nat → Bs} (h : AllS w og n sz kb T) (b : Below w.heap.size w w') : AllS w' og n sz kb T :=
  ⟨(b.block og (lt_of_block h.1)).trans h.1, fun j hj => ⟨(b.block _ (lt_of_block (h.2.1 j hj).1)).trans (h.2.1 j hj).1, (h.2.1 j hj).2⟩, h.2.2⟩
def LstAt (w : World) (a : Option Addr) (n : Nat) (M : Nat → Bs) : Prop := ∀ i, i < n → ∃ g o s, a = some ⟨g, o, none⟩ ∧ g < w.heap.size ∧ w.cell? ⟨g, o + i, none⟩ = some (sdV s) ∧ Dat w s (M i)
theorem dat_of_blk {w : World} {g sz : Nat} {l : Bs} (h : Blk8 w g l) (hl : l.length = sz) (hs : sz ≤ 1024) : Dat w ⟨some (g, 0), sz, sz⟩ l :=
  ⟨hl.symm, Nat.le_refl _, by show sz ≤ maxLen; unfold maxLen; omega, (fun e => by cases e), .inr ⟨g, 0, rfl, h.row, h.lt⟩⟩
theorem AllS.lst {w : World} {og n sz : Nat} {kb : Nat → Nat} {T : Nat → Bs} (h : AllS w og n sz kb T) (hl : ∀ k, (T k).length = sz) (hs : sz ≤ 1024) : LstAt w (some ⟨og, 0, none⟩) n T := fun i hi =>
  ⟨og, 0, ⟨some (kb i, 0), sz, sz⟩, rfl, lt_of_block h.1, by rw [Nat.zero_add, (cell_list h.1 i).1, outV_at kb sz n n hi, if_pos hi]; rfl, dat_of_blk (h.2.1 i hi).1 (hl i) hs⟩
theorem LstAt.below {w w' : World} {a : Option Addr} {n : Nat} {M : Nat → Bs} (h : LstAt w a n M) (b : Below w.heap.size w w') : LstAt w' a n M := fun i hi => by
  obtain ⟨g, o, s, h1, h2, h3, h4⟩ := h i hi
  exact ⟨g, o, s, h1, Nat.lt_of_lt_of_le h2 b.size, (b.cell (p := ⟨g, o + i, none⟩) h2).trans h3, h4.below b⟩
set_option maxHeartbeats 2000000 in
theorem all_any {w : World} {mo n sz sm nb : Nat} {m : Int → Option Sd} {T : Nat → Bs} {dl : List Nat} (h0 : w.cell? ⟨mo, 0, none⟩ = some (.int .i64 (n : Int))) (h1 : w.cell? ⟨mo, 1, none⟩ = some (.int .i64 (sz : Int))) (hn : n ≤ 1048576) (hs : sz ≤ 1024) (hm : MapS w sm m nb)
    (hi : MIn dl m) (hd : ∀ k ∈ dl, k < w.heap.size) (hh : Holds w n sz T m) (hl : ∀ k, (T k).length = sz) :
    Calls Tryd.prog 27 #[.pointer (some ⟨mo, 0, none⟩), .map (some sm)] w fun e w' => ∃ kb, e = .returned (.slice (some ⟨w.heap.size, 0, none⟩) n n) ∧ AllS w' w.heap.size n sz kb T ∧ Below w.heap.size w w' := by
  have hmk := madeL w n hn
  have hmol := World.block_lt_of_cell? w _ h0
  have HS : Hid (∀ W (k : Nat), Below w.heap.size w W → k < n → Calls Tryd.prog 26 #[.pointer (some ⟨mo, 0, none⟩), .map (some sm), .int .i64 (k : Int)] W fun e w' => e = .returned (.slice (some ⟨W.heap.size, 0, none⟩) sz sz) ∧ Blk8 w' W.heap.size (T k) ∧ Below W.heap.size W w') := fun W k b hk =>
    sector_any ((b.cell (p := ⟨mo, 1, none⟩) hmol).trans h1) hs (hm.keep (b.block sm hm.lt)) k (by omega) (hl k) (hh.same hi b.size (fun z hz => b.block z (hd z hz)) k hk)
  have HA0 : Hid (AllI w w.heap.size n sz 0 (fun _ => 0) T (w.alloc (.cells (outV (fun _ => 0) 0 0 n).toArray 31 (0, 0)))) := by
    refine ⟨?_, fun j hj => absurd hj (Nat.not_lt_zero j), fun a b ha => absurd ha (Nat.not_lt_zero a), (Below.refl _ _).alloc (Nat.le_refl _) _⟩
    rw [heap_alloc_new, outV_zero (fun _ => 0) (fun _ => 0) 0 sz n]
  obtain ⟨w1, hw1⟩ : ∃ w1, w1 = w.alloc (.cells (outV (fun _ => 0) 0 0 n).toArray 31 (0, 0)) := ⟨_, rfl⟩
  rw [← hw1] at hmk HA0
  obtain ⟨og, hog⟩ : ∃ og, og = w.heap.size := ⟨_, rfl⟩
  rw [← hog] at hmk HA0 HS ⊢
  have HOG := Lib.hid hog
  clear hw1 hog hm hi hd hh hl h1 hmol hs
  go_enter Tryd.func27, Tryd.ntmps27
  go_wp2_with fail
  clear hmk h0
  go_loopg [14] n (fun gh s14 wx => ∃ i : Nat, gh = n - i ∧ i ≤ n ∧ s14 = .int .i64 (i : Int) ∧ ∃ kb, Hid (AllI w og n sz i kb T wx))
  case atStart => exact ⟨0, rfl, Nat.zero_le _, rfl, _, HA0⟩
  case round =>
    clear HA0
    obtain ⟨i, hg, hin, rfl, kb, HX⟩ := hrel
    have HI := Lib.hid hg
    clear hg
    by_cases hlt : i < n
    · have x1 : (i : Int) < (n : Int) := by omega
      have x0 : (0 : Int) ≤ (i : Int) := by omega
      have x2 : (i : Int) ≤ 1048576 := by omega
      have HC := Lib.hid (HS.out wr i (by rw [HOG.out]; exact HX.out.wx) hlt)
      have HL := Lib.hid hlt
      clear hlt hin
      go_wp2_with fail
      refine HC.out.mono ?_
      rintro e w5 ⟨rfl, hr, hb⟩
      have h5 := (hb.block og (lt_of_block HX.out.blk)).trans HX.out.blk
      have c5 : w5.cell? ⟨og, i, none⟩ = some (.slice none 0 0) := by rw [(cell_list h5 i).1, outV_at kb sz i n HL.out, if_neg (Nat.lt_irrefl i)]
      have c6 := (cell_list h5 i).2
      have HN := Lib.hid (HX.out.next HL.out (by rw [HOG.out]; exact Nat.le_refl _) hr hb)
      clear hr hb h5 HC
      go_wp2_with fail
      go_roundg (n - (i + 1))
      case measure => have := HI.out; have := HL.out; omega
      case rel => exact ⟨i + 1, rfl, HL.out, by go_num, _, HN⟩
    · obtain rfl : i = n := by omega
      have x1 : ¬ (i : Int) < (i : Int) := by omega
      go_wp2_with fail
      go_ret
      exact ⟨rfl, ⟨kb, HX.out.blk, HX.out.rows, HX.out.inj⟩, by first | exact HX.out.wx | (rw [HOG.out]; exact HX.out.wx)⟩
set_option maxHeartbeats 1000000 in
theorem sectors_any {w : World} {mo n sz : Nat} {T : Nat → Bs} {L : List (Nat × Bs)} {bl dl : List Nat} {cb : Nat} (h : MoAt w mo n sz T L bl dl cb) :
    Calls Tryd.prog 17 #[.pointer (some ⟨mo, 0, none⟩)] w fun e w' => ∃ kb, e = .returned (.slice (some ⟨w.heap.size, 0, none⟩) n n) ∧ AllS w' w.heap.size n sz kb (app T L) ∧ Below w.heap.size w w' := by
  have hlens := h.lens
  obtain ⟨tm, nm, mT, mN, bT, bN, v, E, h⟩ := h
  obtain ⟨q0, q1, _, q3, _, _⟩ := mo_cells h.blk
  have HA := Lib.hid (all_any q0 q1 h.num.2.1 h.num.2.2.2 h.mapN h.inN h.dlt h.holN (app_len L T hlens.1 (fun p hp => (hlens.2.1 p hp).2)))
  clear h hlens q0 q1
  go_enter Tryd.func17, Tryd.ntmps17
  go_wp2_with fail
  refine HA.out.mono ?_
  rintro e w' ⟨kb, rfl, h1, h2⟩
  have HE := Lib.hid (And.intro h1 h2)
  clear h1 h2 HA q3
  go_wp2_with fail
  go_ret
  exact ⟨kb, rfl, HE.out⟩
end Go.Proofs.YtbngkmlipmhgdaaDoor.Mo
/- A model made anew; an entry that waits. By the verifier of shale. -/
namespace Go.Proofs.YtbngkmlipmhgdaaDoor.Mo
open Go Go.RowKit Bin
set_option linter.unusedVariables false
set_option linter.unusedSimpArgs false
theorem new_at (w : World) (n sz : Nat) (hn : 1 ≤ n) (hn2 : n ≤ 1048576) (hs : 1 ≤ sz) (hs2 : sz ≤ 1024) :
    MoAt (((w.alloc (.map #[] 0)).alloc (.map #[] 0)).alloc (.cells #[.int .i64 (n : Int), .int .i64 (sz : Int), .map (some w.heap.size), .map (some (w.heap.size + 1)), .slice none 0 0] 63 (0, 0))) (w.heap.size + 2) n sz (fun _ => zerosL sz) [] [w.heap.size + 2, w.heap.size, w.heap.size + 1] [] 0 ∧
      Below w.heap.size w (((w.alloc (.map #[] 0)).alloc (.map #[] 0)).alloc (.cells #[.int .i64 (n : Int), .int .i64 (sz : Int), .map (some w.heap.size), .map (some (w.heap.size + 1)), .slice none 0 0] 63 (0, 0))) := by
  have b : Below w.heap.size w (((w.alloc (.map #[] 0)).alloc (.map #[] 0)).alloc (.cells #[.int .i64 (n : Int), .int .i64 (sz : Int), .map (some w.heap.size), .map (some (w.heap.size + 1)), .slice none 0 0] 63 (0, 0))) := (((Below.refl _ _).alloc (Nat.le_refl _) _).alloc (by simp) _).alloc (by simp; omega) _
  refine ⟨⟨w.heap.size, w.heap.size + 1, fun _ => none, fun _ => none, 0, 0, .slice none 0 0, [], ?_⟩, b⟩
  have h1 : (w.alloc (.map #[] 0)).heap[w.heap.size]? = some (.map #[] 0) := heap_alloc_new w _
  have h2 : ((w.alloc (.map #[] 0)).alloc (.map #[] 0)).heap[w.heap.size + 1]? = some (.map #[] 0) := by
    have := heap_alloc_new (w.alloc (.map #[] 0)) (.map #[] 0)
    rwa [World.size_alloc] at this
  have h1' := (Below.heap_alloc (w.alloc (.map #[] 0)) (.map #[] 0) _ (lt_of_block h1)).trans h1
  exact {
    blk := by
      have := heap_alloc_new ((w.alloc (.map #[] 0)).alloc (.map #[] 0)) (.cells #[.int .i64 (n : Int), .int .i64 (sz : Int), .map (some w.heap.size), .map (some (w.heap.size + 1)), .slice none 0 0] 63 (0, 0))
      rwa [World.size_alloc, World.size_alloc] at this
    mapT := MapS.fresh ((Below.heap_alloc _ _ _ (lt_of_block h1')).trans h1')
    mapN := MapS.fresh ((Below.heap_alloc _ _ _ (lt_of_block h2)).trans h2)
    row := World.ownsRow_nil _ _ _ _
    bls := rfl
    nod := ⟨by omega, by omega, by omega, by simp [Value.ownBlock], by simp [Value.ownBlock], by simp [Value.ownBlock]⟩
    dis := fun k hk => (nomatch hk)
    dlt := fun k hk => (nomatch hk)
    inT := fun k s hs => (nomatch hs)
    inN := fun k s hs => (nomatch hs)
    inE := fun e he => (nomatch he)
    holT := fun k hk => .inl ⟨rfl, rfl⟩
    holN := fun k hk => .inl ⟨rfl, rfl⟩
    lay := rfl
    ents := fun e he => (nomatch he)
    lens := fun k => by simp [zerosL]
    num := ⟨hn, hn2, hs, hs2⟩
    cnt := ⟨by simp, by simp, by omega⟩ }
set_option maxHeartbeats 1000000 in
theorem new_yes (n sz : Nat) (hn : 1 ≤ n) (hn2 : n ≤ 1048576) (hs : 1 ≤ sz) (hs2 : sz ≤ 1024) (w : World) :
    Calls Tryd.prog 6 #[.int .i64 (n : Int), .int .i64 (sz : Int)] w fun e w' => ∃ mo bl, e = .returned (.tuple #[.pointer (some ⟨mo, 0, none⟩), .nilIface]) ∧ MoAt w' mo n sz (fun _ => zerosL sz) [] bl [] 0 ∧ Below w.heap.size w w' ∧ ∀ k ∈ bl, w.heap.size ≤ k := by
  have t1 : decide ((n : Int) < 1) = false := decide_eq_false (by omega)
  have t2 : decide ((1048576 : Int) < (n : Int)) = false := decide_eq_false (by omega)
  have t3 : decide ((sz : Int) < 1) = false := decide_eq_false (by omega)
  have t4 : decide ((1024 : Int) < (sz : Int)) = false := decide_eq_false (by omega)
  have HN := Lib.hid (new_at w n sz hn hn2 hs hs2)
  have hmk : ∀ W : World, (Instr.makeMap 60 none).run Tryd.prog W = .ok (.map (some W.heap.size)) (W.alloc (.map #[] 0)) := fun W => run_makeMap _ _
  clear hn hn2 hs hs2
  go_enter Tryd.func6, Tryd.ntmps6
  go_wp2_with fail
  go_ret2
  refine ⟨w.heap.size + 2, _, rfl, HN.out.1, HN.out.2, fun k hk => ?_⟩
  simp only [List.mem_cons, List.not_mem_nil, or_false] at hk
  omega
/-- behind an entry's wait. -/
theorem MoIn.wrote {w wa w9 w12 : World} {mo n sz : Nat} {T : Nat → Bs} {L : List (Nat × Bs)} {bl dl : List Nat} {cb tm nm : Nat} {mT mN : Int → Option Sd} {bT bN : Nat} {v : Value} {E : List We} {e : We} {g gd cap : Nat}
    (h : MoIn w mo n sz T L bl dl cb tm nm mT mN bT bN v E) (hE : Dat w e.d e.l) (hkey : e.key < n) (hlen : e.l.length = sz) (hq : ∃ o, e.d.q = some (gd, o)) (hgl : gd < w.heap.size) (hgb : gd ∉ bl) (hc : cb + 1 ≤ 1000)
    (ba : Below w.heap.size w wa) (hown : w9.ownsRow 0 67 2 (.slice (some ⟨g, 0, none⟩) (E.length + 1) cap) (E.length + 1) (wcells E ++ e.cells)) (hg : wa.grownBy w9 v.ownBlock) (ho : v.ownBlock = some g ∨ g = wa.heap.size)
    (hm : MapS w12 nm (upM mN (e.key : Int) e.d) (bN + 1)) (ht : Turned (w9.setCell ⟨mo, 4, none⟩ (.slice (some ⟨g, 0, none⟩) (E.length + 1) cap)) w12 nm) :
    MoIn w12 mo n sz T (L ++ [(e.key, e.l)]) (mo :: tm :: nm :: [g]) (gd :: dl) (cb + 1) tm nm mT (upM mN (e.key : Int) e.d) bT (bN + 1) (.slice (some ⟨g, 0, none⟩) (E.length + 1) cap) (E ++ [e]) ∧ Tn bl w w12 (mo :: tm :: nm :: [g]) := by
  obtain ⟨n1, n2, n3, n4, n5, n6⟩ := h.nod
  have o2 := Only.setCell w9 ⟨mo, 4, none⟩ (.slice (some ⟨g, 0, none⟩) (E.length + 1) cap)
  obtain ⟨t1, t2, t3, t4, t5⟩ := ht
  have hml := lt_of_block h.blk
  have hnl := h.mapN.lt
  have htl := h.mapT.lt
  have old9 : ∀ k, k < w.heap.size → v.ownBlock ≠ some k → w9.heap[k]? = w.heap[k]? := fun k hk hv => (hg.block k (Nat.lt_of_lt_of_le hk ba.size) (Ne.symm hv)).trans (ba.block k hk)
  have old : ∀ k, k < w.heap.size → k ≠ mo → k ≠ nm → v.ownBlock ≠ some k → w12.heap[k]? = w.heap[k]? := fun k hk h1 h2 hv => (t5 k h2).trans ((o2.block k h1).trans (old9 k hk hv))
  have s9 : w.heap.size ≤ w9.heap.size := Nat.le_trans ba.size hg.size
  have s12 : w9.heap.size = w12.heap.size := by rw [t4, o2.size]
  have nob : ∀ k, k ∉ bl → k ≠ mo ∧ k ≠ tm ∧ k ≠ nm ∧ v.ownBlock ≠ some k := fun k hk => by
    rw [h.bls] at hk
    simp only [List.mem_cons, not_or, Option.mem_toList] at hk
    exact ⟨hk.1, hk.2.1, hk.2.2.1, hk.2.2.2⟩
  have gne : g ≠ mo ∧ g ≠ tm ∧ g ≠ nm := by
    rcases ho with h1 | h1
    · exact ⟨fun e => n4 (by rw [h1, e]), fun e => n5 (by rw [h1, e]), fun e => n6 (by rw [h1, e])⟩
    · have := ba.size
      exact ⟨by omega, by omega, by omega⟩
  have dne : ∀ k, k < w.heap.size → k ∉ bl → k ≠ g := fun k hk hb e => by
    rcases ho with h1 | h1
    · exact (nob k hb).2.2.2 (by rw [h1, e])
    · have := ba.size; omega
  have od : ∀ k ∈ dl, w12.heap[k]? = w.heap[k]? := fun k hk => by
    obtain ⟨a1, _, a3, a4⟩ := nob k (h.dis k hk)
    exact old k (h.dlt k hk) a1 a3 a4
  have og : w12.heap[gd]? = w.heap[gd]? := by
    obtain ⟨a1, _, a3, a4⟩ := nob gd hgb
    exact old gd hgl a1 a3 a4
  have hs : w.heap.size ≤ w12.heap.size := by omega
  obtain ⟨qo, hq⟩ := hq
  have hE12 : Dat w12 e.d e.l := hE.same hs fun p hp => by rw [hq] at hp; cases hp; exact og
  have sub : ∀ {m}, MIn dl m → MIn (gd :: dl) m := fun hm k s hs p hp => List.mem_cons_of_mem _ (hm k s hs p hp)
  have tnn : Tn bl w w12 (mo :: tm :: nm :: [g]) := by
    refine ⟨t1.trans (o2.os.trans (hg.os.trans ba.os)), t2.trans (o2.tape.trans (hg.tape.trans ba.tape)), t3.trans (o2.output.trans (hg.output.trans ba.output)), hs, fun k hk hn => ?_, fun k hk => ?_⟩
    · obtain ⟨a1, _, a3, a4⟩ := nob k hn
      exact old k hk a1 a3 a4
    · rw [h.bls]
      simp only [List.mem_cons, List.not_mem_nil, or_false] at hk
      rcases hk with rfl | rfl | rfl | rfl
      · exact .inl (by simp)
      · exact .inl (by simp)
      · exact .inl (by simp)
      · rcases ho with h1 | h1
        · exact .inl (by rw [h1]; simp)
        · exact .inr (by rw [h1]; exact ba.size)
  refine ⟨?_, tnn⟩
  exact {
    blk := by
      rw [t5 mo n2]
      exact heap_setCell_same w9 mo 4 _ _ _ ((old9 mo hml n4).trans h.blk)
    mapT := h.mapT.keep (old tm htl (Ne.symm n1) n3 n5)
    mapN := hm
    row := by
      have h1 : WRow w9 (.slice (some ⟨g, 0, none⟩) (E.length + 1) cap) (E ++ [e]) := by
        show w9.ownsRow _ _ _ _ _ _
        rw [List.length_append, wcells_append]
        have : wcells [e] = e.cells := by show e.cells ++ [] = _; rw [List.append_nil]
        rw [this]
        exact hown
      refine wrow_keep h1 fun k hk => ?_
      cases hk
      exact (t5 g gne.2.2).trans (o2.block g gne.1)
    bls := rfl
    nod := ⟨n1, n2, n3, (by show some g ≠ some mo; exact fun e => gne.1 (Option.some.inj e)), (by show some g ≠ some tm; exact fun e => gne.2.1 (Option.some.inj e)), (by show some g ≠ some nm; exact fun e => gne.2.2 (Option.some.inj e))⟩
    dis := fun k hk => by
      have hx : k < w.heap.size ∧ k ∉ bl := by
        rcases List.mem_cons.1 hk with rfl | hk
        · exact ⟨hgl, hgb⟩
        · exact ⟨h.dlt k hk, h.dis k hk⟩
      obtain ⟨a1, a2, a3, _⟩ := nob k hx.2
      have a5 := dne k hx.1 hx.2
      simp only [List.mem_cons, List.not_mem_nil, or_false, not_or]
      exact ⟨a1, a2, a3, a5⟩
    dlt := fun k hk => by
      rcases List.mem_cons.1 hk with rfl | hk
      · omega
      · have := h.dlt k hk; omega
    inT := sub h.inT
    inN := fun k s hs => by
      unfold upM at hs
      split at hs
      · cases hs
        exact fun p hp => by rw [hq] at hp; cases hp; exact List.mem_cons_self ..
      · exact sub h.inN k s hs
    inE := fun d hd => by
      rcases List.mem_append.1 hd with hd | hd
      · exact fun p hp => List.mem_cons_of_mem _ (h.inE d hd p hp)
      · rw [List.mem_singleton.1 hd]
        exact fun p hp => by rw [hq] at hp; cases hp; exact List.mem_cons_self ..
    holT := h.holT.same h.inT hs od
    holN := by
      rw [app_snoc]
      exact (h.holN.same h.inN hs od).up e.key e.d e.l hE12
    lay := by rw [List.map_append, h.lay]; rfl
    ents := fun d hd => by
      rcases List.mem_append.1 hd with hd | hd
      · exact ⟨(h.ents d hd).1.same hs fun p hp => od _ (h.inE d hd p hp), (h.ents d hd).2⟩
      · rw [List.mem_singleton.1 hd]
        exact ⟨hE12, hkey, hlen⟩
    lens := h.lens
    num := h.num
    cnt := by
      have := h.cnt
      rw [List.length_append]
      refine ⟨?_, by omega, hc⟩
      show bT + (L.length + 1) ≤ cb + 1
      omega }
end Go.Proofs.YtbngkmlipmhgdaaDoor.Mo
/- A model's Write and Trim. By the verifier of shale. -/
namespace Go.Proofs.YtbngkmlipmhgdaaDoor.Mo
open Go Go.RowKit Bin
set_option linter.unusedVariables false
set_option linter.unusedSimpArgs false
theorem infoW : ∃ i, Tryd.prog.info? 67 = some i ∧ i.zero = some (.agg #[.int .i64 0, .slice none 0 0]) ∧ i.size = 2 ∧ i.bytes = 32 :=
  info_parts (show (Tryd.prog.info? 67).map (fun i => (i.zero, i.size, i.bytes)) = some (some (.agg #[.int .i64 0, .slice none 0 0]), 2, 32) by kernel_rfl)
theorem newW (w W : World) (k : Int) (s : Value) (h : w.alloc (.cells #[.int .i64 k, s] 67 (0, 0)) = W) : W.heap[w.heap.size]? = some (.cells #[.int .i64 k, s] 67 (0, 0)) ∧ Below w.heap.size w W ∧ W.heap.size = w.heap.size + 1 := by
  subst h
  exact ⟨heap_alloc_new w _, (Below.refl _ _).alloc (Nat.le_refl _) _, by simp⟩
theorem two_cells {w : World} {s : Nat} {a b : Value} {t : TypeId} (e : w.heap[s]? = some (.cells #[a, b] t (0, 0))) : w.cell? ⟨s, 0, none⟩ = some a ∧ w.cell? ⟨s, 1, none⟩ = some b ∧ ∀ i, w.frozen? ⟨s, i, none⟩ = false := by
  refine ⟨?_, ?_, fun i => ?_⟩
  · unfold World.cell?; simp only; rw [e]; rfl
  · unfold World.cell?; simp only; rw [e]; rfl
  · unfold World.frozen?; simp only; rw [e]; rfl
/-- what the region that appends wants to know. -/
structure AppIn (w : World) (mo : Nat) (v : Value) (E : List We) (e : We) : Prop where
  c4 : w.cell? ⟨mo, 4, none⟩ = some v
  k4 : ((w.alloc (.cells #[.int .i64 (e.key : Int), sdV e.d] 67 (0, 0))).drew).cell? ⟨mo, 4, none⟩ = some v
  own : ((w.alloc (.cells #[.int .i64 (e.key : Int), sdV e.d] 67 (0, 0))).drew).ownsRow 0 67 2 v E.length (wcells E)
  news : ∀ j u, e.cells[j]? = some u → ((w.alloc (.cells #[.int .i64 (e.key : Int), sdV e.d] 67 (0, 0))).drew).cell? ((⟨w.heap.size, 0, none⟩ : Addr).add j) = some u
  one : ∀ u ∈ e.cells, u.oneCell' = true
  q3 : ∀ w9, ((w.alloc (.cells #[.int .i64 (e.key : Int), sdV e.d] 67 (0, 0))).drew).grownBy w9 v.ownBlock → w9.cell? ⟨mo, 4, none⟩ = some v ∧ w9.frozen? ⟨mo, 4, none⟩ = false
theorem app_in {w : World} {mo n sz : Nat} {T : Nat → Bs} {L : List (Nat × Bs)} {bl dl : List Nat} {cb tm nm : Nat} {mT mN : Int → Option Sd} {bT bN : Nat} {v : Value} {E : List We} (h : MoIn w mo n sz T L bl dl cb tm nm mT mN bT bN v E) (e : We) : AppIn w mo v E e := by
  have b : Below w.heap.size w (w.alloc (.cells #[.int .i64 (e.key : Int), sdV e.d] 67 (0, 0))).drew := ((Below.refl _ _).alloc (Nat.le_refl _) _).drew
  have hml := lt_of_block h.blk
  have hb := (b.block mo hml).trans h.blk
  refine ⟨(mo_cells h.blk).2.2.2.2.1, (mo_cells hb).2.2.2.2.1, wrow_keep h.row fun g hg => b.block g (h.row.lt g hg).2, ?_, ?_, fun w9 hg => ?_⟩
  · exact World.news_of_block (cs := #[.int .i64 (e.key : Int), sdV e.d]) (fr := (0, 0)) (t := 67) (heap_alloc_new w _)
  · intro u hu
    unfold We.cells at hu
    simp only [List.mem_cons, List.not_mem_nil, or_false] at hu
    rcases hu with rfl | rfl <;> rfl
  · have h9 : w9.heap[mo]? = _ := (hg.block mo (lt_of_block hb) (Ne.symm h.nod.2.2.2.1)).trans hb
    exact ⟨(mo_cells h9).2.2.2.2.1, (mo_cells h9).2.2.2.2.2 4⟩
/-- what Write leaves. -/
def WrotePost (w : World) (mo n sz : Nat) (T : Nat → Bs) (L : List (Nat × Bs)) (bl dl : List Nat) (cb : Nat) (w' : World) : Prop :=
  ∃ bl' dl', MoAt w' mo n sz T L bl' dl' cb ∧ Tn bl w w' bl' ∧ ∀ x ∈ dl', x ∈ dl ∨ w.heap.size ≤ x
set_option maxRecDepth 100000 in
set_option maxHeartbeats 2000000 in
theorem write_yes {w : World} {mo n sz : Nat} {T : Nat → Bs} {L : List (Nat × Bs)} {bl dl : List Nat} {cb : Nat} (h : MoAt w mo n sz T L bl dl cb) (k : Nat) (hk : k < n) {a : Option Addr} {c : Nat} {l : Bs} (hP : Pol w a sz c l) (hc : cb + 1 ≤ 1000) :
    Calls Tryd.prog 12 #[.pointer (some ⟨mo, 0, none⟩), .int .i64 (k : Int), .slice a sz c] w fun e w' => e = .returned .nilIface ∧ WrotePost w mo n sz T (L ++ [(k, l)]) bl dl (cb + 1) w' := by
  obtain ⟨i0, hi0, hz0, hz1, hz2⟩ := infoW
  obtain ⟨tm, nm, mT, mN, bT, bN, v, E, h⟩ := h
  have q0 := (mo_cells h.blk).1
  have q1 := (mo_cells h.blk).2.1
  have HM := Lib.hid (may_yes q0 q1 k hk a c)
  have HC := Lib.hid (clone_any a sz c l w hP (by have := h.num; omega))
  have HH := Lib.hid (And.intro h (And.intro hk (And.intro hc hP.hlen)))
  clear h hk hc hP q0 q1
  go_enter Tryd.func12, Tryd.ntmps12
  go_wp2_with fail
  refine HM.out.mono ?_
  rintro e w' ⟨rfl, rfl⟩
  clear HM
  go_wp2_with fail
  refine HC.out.mono ?_
  rintro e w1 ⟨a1, c1, rfl, N1, b1⟩
  obtain ⟨gd, rfl, hgd⟩ : ∃ gd, a1 = some ⟨gd, 0, none⟩ ∧ w.heap.size ≤ gd := by
    rcases N1.own with ⟨_, h0, _⟩ | ⟨g, h1, h2, _⟩
    · have := HH.out.1.num; omega
    · exact ⟨g, h1, h2⟩
  have hD1 : Dat w1 ⟨some (gd, 0), sz, c1⟩ l := N1.pol
  have hgl : gd < w1.heap.size := by
    rcases N1.own with ⟨h0, _⟩ | ⟨g, h1, _, h3⟩
    · cases h0
    · cases h1; exact h3.lt
  clear HC N1
  go_upto_region 5 with (fail)
  generalize hw : w1.alloc (.cells #[.int .i64 (k : Int), .slice (some ⟨gd, 0, none⟩) sz c1] 67 (0, 0)) = w3
  obtain ⟨K3, b3, s3⟩ := newW w1 w3 _ _ hw
  obtain ⟨eb, heb⟩ : ∃ eb, eb = w1.heap.size := ⟨_, rfl⟩
  rw [← heb] at K3 ⊢
  clear hw
  obtain ⟨e, he⟩ : ∃ e : We, e = ⟨k, ⟨some (gd, 0), sz, c1⟩, l⟩ := ⟨_, rfl⟩
  have b13 := b1.trans (b3.mono b1.size)
  have h3 := HH.out.1.keep b13.size fun z hz => b13.block z (by
    rcases hz with hz | hz
    · exact HH.out.1.blt z hz
    · exact HH.out.1.dlt z hz)
  have HI := Lib.hid (app_in h3 e)
  have hex : e.key = k ∧ e.d = ⟨some (gd, 0), sz, c1⟩ ∧ e.l = l := by rw [he]; exact ⟨rfl, rfl, rfl⟩
  have HB : Hid (Below w.heap.size w w3 ∧ Dat w3 e.d e.l ∧ e.d.q = some (gd, 0) ∧ gd < w3.heap.size ∧ gd ∉ bl ∧ w3.heap.size = eb + 1 ∧ eb ∉ bl ∧ w.heap.size ≤ gd) := by
    refine ⟨b13, by rw [he]; exact hD1.below b3, by rw [he], by omega, fun hm => ?_, by omega, fun hm => ?_, hgd⟩
    · have := HH.out.1.blt gd hm; omega
    · have := HH.out.1.blt eb hm; have := b1.size; omega
  have H3 := Lib.hid h3
  have HK3 := Lib.hid K3
  obtain ⟨c0, c1x, cf⟩ := two_cells K3
  obtain ⟨av, cv, rfl, hnc, hcm, hnil⟩ := wrow_slice h3.row
  unfold maxLen at hcm
  obtain ⟨N, hN⟩ : ∃ N, N = E.length := ⟨_, rfl⟩
  have hN1 : N ≤ 1000 := by
    have h5 : E.length = L.length := by rw [← h3.lay]; simp
    have := h3.cnt; omega
  have m4 := HI.out.c4
  have k4 := HI.out.k4
  have hO := HI.out.own
  have hQ := HI.out.q3
  have hNw := HI.out.news
  rw [← hN] at m4 k4 hO hQ hnc
  rw [hex.2.1, hex.1] at k4 hO hQ hNw
  simp only [sdV, Sd.addr, Option.map_some] at k4 hO hQ hNw
  have HO := Lib.hid hO
  have HQ := Lib.hid hQ
  have HNw := Lib.hid hNw
  have HN := Lib.hid hN
  have HX := Lib.hid hex
  clear h3 K3 b1 b3 b13 hD1 hgd hgl heb s3 he hO hQ hNw hN hex HI cf
  have HOne : Hid (∀ u ∈ e.cells, u.oneCell' = true) := fun u hu => by
    unfold We.cells at hu
    simp only [List.mem_cons, List.not_mem_nil, or_false] at hu
    rcases hu with rfl | rfl <;> rfl
  go_region_law (refine step_append_lies _ (by rfl) _ _ _ (by rfl) 0 67 i0 (.agg #[.int .i64 0, .slice none 0 0]) 2 32 Tryd.underlying61 hi0 hz0 hz1 hz2 rfl (by decide) (.slice av N cv) N (wcells E) (by rfl) HO.out ⟨w3.heap.size, 0, none⟩ 1 1 e.cells (by rfl) rfl HNw.out HOne.out (by decide) (by unfold maxLen; omega) (by omega) (Nat.zero_le _) (w3.heap.size + 1) (by simp) ?_; intro g1 cap1 w9 hown9 hg9 hor9 hlt9; have q3 := (HQ.out w9 hg9).1; have q4 := (HQ.out w9 hg9).2)
  all_goals
    have H9 := Lib.hid (And.intro hown9 (And.intro hg9 hor9))
    have hgr9 : ∀ z, z < w3.heap.size → (Value.slice av N cv).ownBlock ≠ some z → w9.heap[z]? = w3.heap[z]? := fun z hz hv => (hg9.block z (by rw [World.drew]; show z < (w3.alloc _).heap.size; rw [World.size_alloc]; omega) (Ne.symm hv)).trans (Below.heap_alloc w3 _ _ hz)
    have HG9 := Lib.hid hgr9
    clear hown9 hg9 hor9 hlt9 hgr9 q3 q4 HO HQ HNw k4 m4 c0 c1x
    go_upto_region 6 with (fail)
    generalize hw10 : w9.setCell ⟨mo, 4, none⟩ (.slice (some ⟨g1, 0, none⟩) (N + 1) cap1) = w10
    have o10 : Only mo w9 w10 := by rw [← hw10]; exact Only.setCell w9 ⟨mo, 4, none⟩ _
    have HW10 := Lib.hid hw10
    refine wp_region_still_tail 7 (by kernel_rfl) (by kernel_rfl) ?_
    simp only [List.take_succ_cons, List.take_zero, List.drop_succ_cons, List.drop_zero]
    change wpStill _ _ w10.drew (fun a' => wpList _ _ _ _ a' w10.drew) _ _
    obtain ⟨n1, n2, n3, n4, n5, n6⟩ := H3.out.nod
    rw [← HN.out] at n4 n5 n6
    have hmo : w10.heap[mo]? = some (.cells #[.int .i64 (n : Int), .int .i64 (sz : Int), .map (some tm), .map (some nm), .slice (some ⟨g1, 0, none⟩) (N + 1) cap1] 63 (0, 0)) := by
      have h := (HG9.out mo (lt_of_block H3.out.blk) n4).trans H3.out.blk
      rw [← hw10]
      exact heap_setCell_same w9 mo 4 _ _ _ h
    have m3 : w10.drew.cell? ⟨mo, 3, none⟩ = some (.map (some nm)) := (mo_cells (w := w10.drew) hmo).2.2.2.1
    have hnm : MapS w10.drew nm mN bN := H3.out.mapN.keep ((o10.block nm (Ne.symm n2)).trans (HG9.out nm H3.out.mapN.lt n6))
    have heb : w10.drew.heap[eb]? = some (.cells #[.int .i64 (k : Int), .slice (some ⟨gd, 0, none⟩) sz c1] 67 (0, 0)) := by
      have hb := HB.out.2.2.2.2.2.2.1
      have hbs := HB.out.2.2.2.2.2.1
      have hbl := H3.out.bls
      rw [hbl] at hb
      simp only [List.mem_cons, not_or, Option.mem_toList] at hb
      refine (o10.block eb hb.1).trans ((HG9.out eb (by omega) ?_).trans HK3.out)
      rw [HN.out]
      exact hb.2.2.2
    have e1 := (two_cells heb).2.1
    have hbN : bN < maxLen := by have := H3.out.cnt; unfold maxLen; omega
    obtain ⟨w12, hput, hm12, ht12⟩ := hnm.put hbN (wf_nat k (by have := HH.out.1.num; have := HH.out.2.1; omega)) ⟨some (gd, 0), sz, c1⟩
    have hput' : (Instr.mapUpdate 60 (.map (some nm)) (.int .i64 (k : Int)) (.slice (some ⟨gd, 0, none⟩) sz c1)).run Tryd.prog w10.drew = .ok () w12 := hput
    have HR : Hid (WrotePost w mo n sz T (L ++ [(k, l)]) bl dl (cb + 1) w12) := by
      obtain ⟨x1, x2, x3⟩ := HX.out
      obtain ⟨b13, hD, hq, hgl, hgb, _, _, hgd⟩ := HB.out
      have h := H3.out.wrote (e := e) (g := g1) (gd := gd) (cap := cap1) (wa := (w3.alloc (.cells #[.int .i64 (k : Int), .slice (some ⟨gd, 0, none⟩) sz c1] 67 (0, 0))).drew) (w9 := w9) (w12 := w12) hD (by rw [x1]; exact HH.out.2.1) (by rw [x3]; exact HH.out.2.2.2.symm) ⟨0, hq⟩ hgl hgb HH.out.2.2.1
        (((Below.refl _ _).alloc (Nat.le_refl _) _).drew) (by rw [← HN.out]; exact H9.out.1) (by rw [← HN.out]; exact H9.out.2.1) (by
          have h5 := H9.out.2.2
          rw [HN.out] at h5
          rcases h5 with h5 | h5
          · exact .inl h5
          · exact .inr (by rw [h5]; show _ = (w3.alloc _).heap.size; rw [World.size_alloc])) (by rw [x1, x2]; exact hm12) (by rw [← HN.out, HW10.out]; exact ht12)
      rw [x1, x3] at h
      refine ⟨_, _, ⟨_, _, _, _, _, _, _, _, h.1⟩, (Tn.below b13 : Tn bl w w3 bl).trans h.2, fun x hx => ?_⟩
      rcases List.mem_cons.1 hx with rfl | hx
      · exact .inr hgd
      · exact .inl hx
    clear hw10 o10 n1 n2 n3 n4 n5 n6 hmo hnm heb hbN hput hm12 ht12 H9 HG9
    generalize w10.drew = w11 at m3 e1 hput' ⊢
    iterate 7 still_step
    refine wpStill_nil ?_
    go_wp2_with fail
    go_ret
    exact ⟨rfl, HR.out⟩
set_option maxHeartbeats 1000000 in
theorem trim_yes {w : World} {mo n sz : Nat} {T : Nat → Bs} {L : List (Nat × Bs)} {bl dl : List Nat} {cb : Nat} (h : MoAt w mo n sz T L bl dl cb) (k : Nat) (hk : k < n) (hc : cb + 1 ≤ 1000) :
    Calls Tryd.prog 11 #[.pointer (some ⟨mo, 0, none⟩), .int .i64 (k : Int)] w fun e w' => e = .returned .nilIface ∧ WrotePost w mo n sz T (L ++ [(k, zerosL sz)]) bl dl (cb + 1) w' := by
  have hl := h.lens
  have hmk := made8 w sz (by omega)
  have b0 : Below w.heap.size w (w.alloc (obj8 (List.replicate sz 0))) := (Below.refl _ _).alloc (Nat.le_refl _) _
  have K0 : Blk8 (w.alloc (obj8 (List.replicate sz 0))) w.heap.size (zerosL sz) := Blk8.new w _
  have hd : Dat (w.alloc (obj8 (List.replicate sz 0))) ⟨some (w.heap.size, 0), sz, sz⟩ (zerosL sz) := dat_of_blk K0 (by simp [zerosL]) (by omega)
  have HW := Lib.hid (write_yes (h.below b0) k hk hd hc)
  obtain ⟨_, _, _, _, _, _, _, _, hi⟩ := h
  have q1 := (mo_cells hi.blk).2.1
  obtain ⟨w1, hw1⟩ : ∃ w1, w1 = w.alloc (obj8 (List.replicate sz 0)) := ⟨_, rfl⟩
  rw [← hw1] at hmk HW b0
  have HB := Lib.hid b0
  clear hw1 hd K0 hl hk hc hi b0
  go_enter Tryd.func11, Tryd.ntmps11
  go_wp2_with fail
  refine HW.out.mono ?_
  rintro e w2 ⟨rfl, bl', dl', h1, h2, h3⟩
  have HR : Hid (WrotePost w mo n sz T (L ++ [(k, zerosL sz)]) bl dl (cb + 1) w2) := ⟨bl', dl', h1, (Tn.below HB.out : Tn bl w w1 bl).trans h2, fun x hx => by
    rcases h3 x hx with h | h
    · exact .inl h
    · exact .inr (Nat.le_trans HB.out.size h)⟩
  clear h1 h2 h3 HW hmk q1
  go_wp2_with fail
  go_ret
  exact ⟨rfl, HR.out⟩
end Go.Proofs.YtbngkmlipmhgdaaDoor.Mo
/- A model's settle and Flush. By the verifier of shale. -/
namespace Go.Proofs.YtbngkmlipmhgdaaDoor.Mo
open Go Go.RowKit Bin
set_option linter.unusedVariables false
set_option linter.unusedSimpArgs false
/-- some of what waits is laid. -/
structure SetI (w : World) (mo n sz : Nat) (T : Nat → Bs) (L : List (Nat × Bs)) (bl dl : List Nat) (cb tm nm : Nat) (mT mN : Int → Option Sd) (bT bN : Nat) (v : Value) (E : List We) (i : Nat) (m : Int → Option Sd) (wx : World) : Prop where
  map : MapS wx tm m (bT + i)
  hol : Holds wx n sz (app T (L.take i)) m
  inm : MIn dl m
  tn : Tn [tm] w wx [tm]
theorem SetI.old {w wx : World} {mo n sz : Nat} {T : Nat → Bs} {L : List (Nat × Bs)} {bl dl : List Nat} {cb tm nm : Nat} {mT mN : Int → Option Sd} {bT bN : Nat} {v : Value} {E : List We} {i : Nat} {m : Int → Option Sd}
    (s : SetI w mo n sz T L bl dl cb tm nm mT mN bT bN v E i m wx) {k : Nat} (hk : k < w.heap.size) (hn : k ≠ tm) : wx.heap[k]? = w.heap[k]? := s.tn.same k hk (by simpa using hn)
theorem SetI.start {w : World} {mo n sz : Nat} {T : Nat → Bs} {L : List (Nat × Bs)} {bl dl : List Nat} {cb tm nm : Nat} {mT mN : Int → Option Sd} {bT bN : Nat} {v : Value} {E : List We}
    (h : MoIn w mo n sz T L bl dl cb tm nm mT mN bT bN v E) : SetI w mo n sz T L bl dl cb tm nm mT mN bT bN v E 0 mT w := ⟨h.mapT, h.holT, h.inT, Tn.refl _ _⟩
/-- a world in which nothing that the model holds is turned. -/
theorem SetI.below {w wx w' : World} {mo n sz : Nat} {T : Nat → Bs} {L : List (Nat × Bs)} {bl dl : List Nat} {cb tm nm : Nat} {mT mN : Int → Option Sd} {bT bN : Nat} {v : Value} {E : List We} {i : Nat} {m : Int → Option Sd}
    (h : MoIn w mo n sz T L bl dl cb tm nm mT mN bT bN v E) (s : SetI w mo n sz T L bl dl cb tm nm mT mN bT bN v E i m wx) (b : Below wx.heap.size wx w') : SetI w mo n sz T L bl dl cb tm nm mT mN bT bN v E i m w' :=
  ⟨s.map.keep (b.block tm s.map.lt), s.hol.same s.inm b.size (fun k hk => b.block k (Nat.lt_of_lt_of_le (h.dlt k hk) s.tn.size)), s.inm, s.tn.trans (Tn.below b)⟩
theorem SetI.next {w wx w' : World} {mo n sz : Nat} {T : Nat → Bs} {L : List (Nat × Bs)} {bl dl : List Nat} {cb tm nm : Nat} {mT mN : Int → Option Sd} {bT bN : Nat} {v : Value} {E : List We} {i : Nat} {m : Int → Option Sd} {e : We}
    (h : MoIn w mo n sz T L bl dl cb tm nm mT mN bT bN v E) (s : SetI w mo n sz T L bl dl cb tm nm mT mN bT bN v E i m wx) (he : E[i]? = some e) (hm : MapS w' tm (upM m (e.key : Int) e.d) (bT + i + 1)) (ht : Turned wx w' tm) :
    SetI w mo n sz T L bl dl cb tm nm mT mN bT bN v E (i + 1) (upM m (e.key : Int) e.d) w' := by
  obtain ⟨t1, t2, t3, t4, t5⟩ := ht
  have hi := (List.getElem?_eq_some_iff.1 he).1
  have hmem := List.mem_of_getElem? he
  have hL : L.take (i + 1) = L.take i ++ [(e.key, e.l)] := by
    rw [← h.lay, List.take_add_one, List.getElem?_map, he]; rfl
  have htl : tm ∉ dl := fun hd => h.dis tm hd (by rw [h.bls]; simp)
  have od : ∀ k ∈ dl, w'.heap[k]? = wx.heap[k]? := fun k hk => t5 k fun e => htl (by rw [← e]; exact hk)
  have hs : wx.heap.size ≤ w'.heap.size := by omega
  have hd : Dat w' e.d e.l := (h.ents e hmem).1.same (Nat.le_trans s.tn.size hs) fun p hp => by
    have hpd := h.inE e hmem p hp
    exact (od _ hpd).trans (s.old (h.dlt _ hpd) fun e => htl (by rw [← e]; exact hpd))
  refine ⟨hm, ?_, fun k x hx => ?_, s.tn.trans ⟨t1, t2, t3, hs, fun k _ hk => t5 k (by simpa using hk), fun _ hk => .inl hk⟩⟩
  · rw [hL, app_snoc]
    exact (s.hol.same s.inm hs od).up e.key e.d e.l hd
  · unfold upM at hx
    split at hx
    · cases hx
      exact h.inE e hmem
    · exact s.inm k x hx
/-- behind all of it. -/
theorem SetI.done {w wx wz : World} {mo n sz : Nat} {T : Nat → Bs} {L : List (Nat × Bs)} {bl dl : List Nat} {cb tm nm cm : Nat} {mT mN : Int → Option Sd} {bT bN : Nat} {v : Value} {E : List We} {i : Nat} {m : Int → Option Sd}
    (h : MoIn w mo n sz T L bl dl cb tm nm mT mN bT bN v E) (s : SetI w mo n sz T L bl dl cb tm nm mT mN bT bN v E i m wx) (hi : i ≤ L.length) (hc : cm = wx.heap.size) (hm : MapS wz cm m (bT + i))
    (hb : wz.heap[mo]? = some (.cells #[.int .i64 (n : Int), .int .i64 (sz : Int), .map (some tm), .map (some cm), .slice none 0 0] 63 (0, 0))) (t : Tn [mo] wx wz [mo]) :
    MoIn wz mo n sz (app T (L.take i)) [] [mo, tm, cm] dl cb tm cm m m (bT + i) (bT + i) (.slice none 0 0) [] ∧ Tn bl w wz [mo, tm, cm] := by
  have hml := lt_of_block h.blk
  have htl := h.mapT.lt
  have hsz := s.tn.size
  have tml : tm ∉ dl := fun hd => h.dis tm hd (by rw [h.bls]; simp)
  have mol : mo ∉ dl := fun hd => h.dis mo hd (by rw [h.bls]; simp)
  have od : ∀ k ∈ dl, wz.heap[k]? = wx.heap[k]? := fun k hk => t.same k (Nat.lt_of_lt_of_le (h.dlt k hk) hsz) (by
    simp only [List.mem_singleton]
    exact fun e => mol (by rw [← e]; exact hk))
  have hol := s.hol.same s.inm t.size od
  have hlens := (show MoAt w mo n sz T L bl dl cb from ⟨_, _, _, _, _, _, _, _, h⟩).lens
  refine ⟨?_, ?_⟩
  · exact {
      blk := hb
      mapT := s.map.keep (t.same tm s.map.lt (by simp only [List.mem_singleton]; exact Ne.symm h.nod.1))
      mapN := hm
      row := World.ownsRow_nil _ _ _ _
      bls := rfl
      nod := ⟨h.nod.1, by omega, by omega, by simp [Value.ownBlock], by simp [Value.ownBlock], by simp [Value.ownBlock]⟩
      dis := fun k hk => by
        have h1 := h.dlt k hk
        simp only [List.mem_cons, List.not_mem_nil, or_false, not_or]
        exact ⟨fun e => mol (by rw [← e]; exact hk), fun e => tml (by rw [← e]; exact hk), by omega⟩
      dlt := fun k hk => by have := h.dlt k hk; have := t.size; omega
      inT := s.inm
      inN := s.inm
      inE := fun e he => (nomatch he)
      holT := hol
      holN := hol
      lay := rfl
      ents := fun e he => (nomatch he)
      lens := app_len _ _ hlens.1 fun p hp => (hlens.2.1 p (List.mem_of_mem_take hp)).2
      num := h.num
      cnt := by
        have := h.cnt
        refine ⟨?_, by omega, by omega⟩
        show bT + i + 0 ≤ cb
        omega }
  · have t1 : Tn bl w wx bl := ⟨s.tn.os, s.tn.tape, s.tn.output, s.tn.size, fun k hk hn => s.old hk fun e => hn (by rw [h.bls, e]; simp), fun _ hk => .inl hk⟩
    refine t1.trans ⟨t.os, t.tape, t.output, t.size, fun k hk hn => t.same k hk (by
      simp only [List.mem_singleton]
      exact fun e => hn (by rw [h.bls, e]; simp)), fun k hk => ?_⟩
    simp only [List.mem_cons, List.not_mem_nil, or_false] at hk
    rcases hk with rfl | rfl | rfl
    · exact .inl (by rw [h.bls]; simp)
    · exact .inl (by rw [h.bls]; simp)
    · exact .inr (by omega)
/-- what settle leaves. -/
def SetPost (w : World) (mo n sz : Nat) (T : Nat → Bs) (bl dl : List Nat) (cb : Nat) (w' : World) : Prop :=
  ∃ bl', MoAt w' mo n sz T [] bl' dl cb ∧ Tn bl w w' bl'
set_option maxRecDepth 100000 in
set_option maxHeartbeats 2000000 in
theorem settle_any {w : World} {mo n sz : Nat} {T : Nat → Bs} {L : List (Nat × Bs)} {bl dl : List Nat} {cb : Nat} (h : MoAt w mo n sz T L bl dl cb) (k : Nat) (hk : k ≤ L.length) :
    Calls Tryd.prog 21 #[.pointer (some ⟨mo, 0, none⟩), .int .i64 (k : Int)] w fun e w' => e = .returned (.tuple #[]) ∧ SetPost w mo n sz (app T (L.take k)) bl dl cb w' := by
  obtain ⟨tm, nm, mT, mN, bT, bN, v, E, h⟩ := h
  obtain ⟨av, cv, rfl, hnc, hcm, hnil⟩ := wrow_slice h.row
  unfold maxLen at hcm
  have hEL : E.length = L.length := by rw [← h.lay]; simp
  obtain ⟨N, hN⟩ : ∃ N, N = E.length := ⟨_, rfl⟩
  have q4 := (mo_cells h.blk).2.2.2.2.1
  rw [← hN] at q4 hnc
  have hkN : k ≤ N := by omega
  have hN1 : N ≤ 1000 := by have := h.cnt; omega
  have y0 : (0 : Int) ≤ (k : Int) := by omega
  have y1 : (k : Int) ≤ (cv : Int) := by omega
  have y2 : (k : Int) ≤ (N : Int) := by omega
  have y3 : (k : Int) ≤ 1000 := by omega
  have HS0 := Lib.hid (SetI.start h)
  have HH := Lib.hid h
  have HK := Lib.hid (And.intro hk (And.intro hN hEL))
  clear h hk hN hEL hnil
  go_enter Tryd.func21, Tryd.ntmps21
  go_wp2_with fail
  go_loopg [13] k (fun gh s13 wx => ∃ i : Nat, gh = k - i ∧ i ≤ k ∧ s13 = .int .i64 (i : Int) ∧ ∃ m, Hid (SetI w mo n sz T L bl dl cb tm nm mT mN bT bN (.slice av E.length cv) E i m wx))
  case atStart => exact ⟨0, rfl, Nat.zero_le _, rfl, _, HS0⟩
  case round =>
    clear HS0 q4
    obtain ⟨i, hg, hin, rfl, m, HX⟩ := hrel
    have HI := Lib.hid hg
    clear hg
    by_cases hlt : i < k
    · have x1 : (i : Int) < (k : Int) := by omega
      have x0 : (0 : Int) ≤ (i : Int) := by omega
      have hiE : i < E.length := by have := HK.out; omega
      obtain ⟨e, he⟩ : ∃ e, E[i]? = some e := ⟨E[i], List.getElem?_eq_getElem hiE⟩
      have hrow : WRow wr (.slice av E.length cv) E := wrow_keep HH.out.row fun g hg => HX.out.old (HH.out.row.lt g hg).2 fun x => HH.out.nod.2.2.2.2.1 (by rw [hg, x])
      obtain ⟨g, rfl, c0, c1⟩ := wrow_cells hrow he
      have HE := Lib.hid (And.intro he hlt)
      clear hlt hin hiE he hrow
      go_upto_region 3 with (fail)
      generalize hw : wr.alloc (.cells #[.int .i64 (e.key : Int), .slice e.d.addr e.d.n e.d.c] 67 (0, 0)) = w2
      obtain ⟨K2, b2, _⟩ := newW wr w2 _ _ hw
      obtain ⟨eb, heb⟩ : ∃ eb, eb = wr.heap.size := ⟨_, rfl⟩
      rw [← heb] at K2 ⊢
      clear hw heb c0 c1
      have HX2 := Lib.hid (HX.out.below HH.out (b2.drew))
      refine wp_region_still_tail 8 (by kernel_rfl) (by kernel_rfl) ?_
      simp only [List.take_succ_cons, List.take_zero, List.drop_succ_cons, List.drop_zero]
      change wpStill _ _ w2.drew (fun a' => wpList _ _ _ _ a' w2.drew) _ _
      obtain ⟨e0, e1, _⟩ := two_cells (w := w2.drew) K2
      have m2 : w2.drew.cell? ⟨mo, 2, none⟩ = some (.map (some tm)) := (mo_cells ((HX2.out.old (lt_of_block HH.out.blk) HH.out.nod.1).trans HH.out.blk)).2.2.1
      have hmem := List.mem_of_getElem? HE.out.1
      obtain ⟨w3, hput, hm3, ht3⟩ := HX2.out.map.put (by have := HH.out.cnt; have := HK.out; have := HE.out.2; unfold maxLen; omega) (wf_nat e.key (by have := HH.out.num; have := (HH.out.ents e hmem).2.1; omega)) e.d
      have hput' : (Instr.mapUpdate 60 (.map (some tm)) (.int .i64 (e.key : Int)) (.slice e.d.addr e.d.n e.d.c)).run Tryd.prog w2.drew = .ok () w3 := hput
      have HN := Lib.hid (HX2.out.next HH.out HE.out.1 hm3 ht3)
      clear K2 b2 hmem hput hm3 ht3 HX2
      generalize w2.drew = w4 at e0 e1 m2 hput' ⊢
      iterate 8 still_step
      refine wpStill_nil ?_
      go_wp2_with fail
      go_roundg (k - (i + 1))
      case measure => have := HI.out; have := HE.out.2; omega
      case rel => exact ⟨i + 1, rfl, HE.out.2, by go_num, _, HN⟩
    · obtain rfl : i = k := by omega
      have x1 : ¬ (i : Int) < (i : Int) := by omega
      have x2 : decide ((i : Int) < (i : Int)) = false := decide_eq_false x1
      have hblk := (HX.out.old (lt_of_block HH.out.blk) HH.out.nod.1).trans HH.out.blk
      obtain ⟨d0, d1, d2, d3, d4, df⟩ := mo_cells hblk
      have df4 := df 4
      obtain ⟨w2, hw2⟩ : ∃ w2, w2 = wr.setCell ⟨mo, 4, none⟩ (.slice none 0 0) := ⟨_, rfl⟩
      have o2 : Only mo wr w2 := by rw [hw2]; exact Only.setCell wr ⟨mo, 4, none⟩ _
      have hb2 : w2.heap[mo]? = some (.cells #[.int .i64 (n : Int), .int .i64 (sz : Int), .map (some tm), .map (some nm), .slice none 0 0] 63 (0, 0)) := by rw [hw2]; exact heap_setCell_same wr mo 4 _ _ _ hblk
      have hm2 := HX.out.map.keep (o2.block tm (Ne.symm HH.out.nod.1))
      have HC := Lib.hid (mclone_any hm2)
      have f2 := (mo_cells hb2).2.2.1
      have H2 := Lib.hid (And.intro o2 (And.intro hb2 (show w2.heap.size = wr.heap.size from o2.size)))
      have HXX := Lib.hid HX.out
      clear hm2 o2 hb2 d0 d1 d2 d3 df hblk HX
      go_upto_region 5 with (fail)
      go_upto_region 6 with (fail)
      rw [← hw2]
      clear hw2 df4 d4
      go_wp2_with fail
      refine HC.out.mono ?_
      rintro e w3 ⟨rfl, hm3, b3, s3⟩
      have hb3 := (b3.block mo (lt_of_block H2.out.2.1)).trans H2.out.2.1
      have f3 := (mo_cells hb3).2.2.2.2.2 3
      have f3' := (mo_cells hb3).2.2.2.1
      have HR : Hid (SetPost w mo n sz (app T (L.take i)) bl dl cb (w3.setCell ⟨mo, 3, none⟩ (.map (some w2.heap.size)))) := by
        have o4 := Only.setCell w3 ⟨mo, 3, none⟩ (.map (some w2.heap.size))
        have hmol := lt_of_block H2.out.2.1
        have h := HXX.out.done HH.out HK.out.1 (cm := w2.heap.size) (wz := w3.setCell ⟨mo, 3, none⟩ (.map (some w2.heap.size))) H2.out.2.2
          (hm3.keep (o4.block _ (by show w2.heap.size ≠ mo; omega))) (heap_setCell_same w3 mo 3 _ _ _ hb3)
          (by
            have ta : Tn [mo] wr w2 [mo] := ⟨H2.out.1.os, H2.out.1.tape, H2.out.1.output, by rw [H2.out.2.2]; exact Nat.le_refl _, fun z _ hz => H2.out.1.block z (by simpa using hz), fun _ hz => .inl hz⟩
            exact (ta.trans (Tn.below b3)).trans (Tn.setCell w3 ⟨mo, 3, none⟩ _ (by simp)))
        exact ⟨_, ⟨_, _, _, _, _, _, _, _, h.1⟩, h.2⟩
      clear hm3 b3 s3 hb3 HC HXX H2 f2
      go_wp2_with fail
      go_end0
      exact ⟨rfl, HR.out⟩
set_option maxHeartbeats 1000000 in
theorem flush_any {w : World} {mo n sz : Nat} {T : Nat → Bs} {L : List (Nat × Bs)} {bl dl : List Nat} {cb : Nat} (h : MoAt w mo n sz T L bl dl cb) :
    Calls Tryd.prog 8 #[.pointer (some ⟨mo, 0, none⟩)] w fun e w' => e = .returned (.tuple #[]) ∧ SetPost w mo n sz (app T L) bl dl cb w' := by
  have HS := settle_any h L.length (Nat.le_refl _)
  rw [List.take_length] at HS
  replace HS := Lib.hid HS
  obtain ⟨tm, nm, mT, mN, bT, bN, v, E, h⟩ := h
  obtain ⟨av, cv, rfl, _, _, _⟩ := wrow_slice h.row
  have hEL : E.length = L.length := by rw [← h.lay]; simp
  have q4 := (mo_cells h.blk).2.2.2.2.1
  rw [hEL] at q4
  obtain ⟨N, hN⟩ : ∃ N, N = L.length := ⟨_, rfl⟩
  rw [← hN] at q4 HS
  clear h hEL hN
  go_enter Tryd.func8, Tryd.ntmps8
  go_wp2_with fail
  refine HS.out.mono ?_
  rintro e w' ⟨rfl, h1⟩
  have HR := Lib.hid h1
  clear h1 HS q4
  go_wp2_with fail
  go_end0
  exact ⟨rfl, HR.out⟩
end Go.Proofs.YtbngkmlipmhgdaaDoor.Mo
/- Lists of rows that are the same. By the verifier of shale. -/
namespace Go.Proofs.YtbngkmlipmhgdaaDoor.Mo
open Go Go.RowKit Bin
set_option linter.unusedVariables false
set_option linter.unusedSimpArgs false
theorem Dat.str {w : World} {s : Sd} {l : Bs} (h : Dat w s l) : Str8 w (sdV s) l := by
  refine .of ?_
  rcases h.hrow with h0 | ⟨bb, off, e, hr, hb⟩
  · have h1 := h.hlen
    rw [h0] at h1
    have hl : l = [] := List.eq_nil_of_length_eq_zero h1.symm
    subst hl
    exact .inl ⟨rfl, s.addr, s.c, by show Value.slice s.addr s.n s.c = _; rw [h0]⟩
  · show IsBytes w (.slice s.addr s.n s.c) l
    rw [e]
    exact .mk h.hlen hr hb
/-- are so many of both the same? -/
def eqN (M1 M2 : Nat → Bs) (n : Nat) : Prop := ∀ i, i < n → M1 i = M2 i
instance (M1 M2 : Nat → Bs) (n : Nat) : Decidable (eqN M1 M2 n) := by unfold eqN; infer_instance
set_option maxHeartbeats 2000000 in
theorem equalF_any {w : World} {a1 a2 : Option Addr} {n1 n2 c1 c2 : Nat} {M1 M2 : Nat → Bs} (h1 : LstAt w a1 n1 M1) (h2 : LstAt w a2 n2 M2) (hn1 : n1 ≤ 1048576) (hn2 : n2 ≤ maxLen) :
    Calls Tryd.prog 31 #[.slice a1 n1 c1, .slice a2 n2 c2, .func (.func 32) #[] #[]] w fun e w' => e = .returned (.bool (decide (n1 = n2 ∧ eqN M1 M2 n1))) ∧ w = w' := by
  unfold maxLen at hn2
  by_cases hl : n1 = n2
  · subst hl
    have t : ((n1 : Int) == (n1 : Int)) = true := by simp
    have HH := Lib.hid (And.intro h1 h2)
    obtain ⟨M, hM⟩ : ∃ M, M = n1 := ⟨_, rfl⟩
    clear h1 h2 hn2
    go_enter Tryd.func31, Tryd.ntmps31
    go_wp2_with fail
    go_loopg [17] n1 (fun gh s17 wx => ∃ i : Nat, gh = n1 - i ∧ i ≤ n1 ∧ s17 = .int .i64 (i : Int) ∧ w = wx ∧ Hid (eqN M1 M2 i))
    case atStart => exact ⟨0, rfl, Nat.zero_le _, rfl, rfl, fun j hj => absurd hj (Nat.not_lt_zero _)⟩
    case round =>
      obtain ⟨i, hg, hin, rfl, rfl, HJ⟩ := hrel
      have HI := Lib.hid hg
      clear hg
      by_cases hlt : i < n1
      · have x1 : (i : Int) < (n1 : Int) := by omega
        have x0 : (0 : Int) ≤ (i : Int) := by omega
        have x2 : (i : Int) ≤ 1048576 := by omega
        obtain ⟨g1, o1, s1, rfl, _, d1, e1⟩ := HH.out.1 i hlt
        obtain ⟨g2, o2, s2, rfl, _, d2, e2⟩ := HH.out.2 i hlt
        have HE := Lib.hid (equal_any (M1 i) (M2 i) _ _ w e1.str e2.str)
        have HL := Lib.hid hlt
        by_cases he : M1 i = M2 i
        · rw [decide_eq_true he] at HE
          have HN : Hid (eqN M1 M2 (i + 1)) := fun j hj => by
            by_cases hji : j = i
            · rw [hji]; exact he
            · exact HJ.out j (by omega)
          clear he hlt hin e1 e2 HJ
          go_wp2_with fail
          refine HE.out.mono ?_
          rintro e w' ⟨rfl, rfl⟩
          clear HE d1 d2
          go_wp2_with fail
          go_roundg (n1 - (i + 1))
          case measure => have := HI.out; have := HL.out; omega
          case rel => exact ⟨i + 1, rfl, HL.out, by go_num, rfl, HN⟩
        · rw [decide_eq_false he] at HE
          have HN : Hid (decide (n1 = n1 ∧ eqN M1 M2 n1) = false) := decide_eq_false fun h => he (h.2 i hlt)
          clear he hlt hin e1 e2 HJ
          go_wp2_with fail
          refine HE.out.mono ?_
          rintro e w' ⟨rfl, rfl⟩
          clear HE d1 d2
          go_wp2_with fail
          go_ret
          rw [HN.out]
          exact ⟨rfl, rfl⟩
      · obtain rfl : i = n1 := by omega
        have x1 : ¬ (i : Int) < (i : Int) := by omega
        have HN : Hid (decide (eqN M1 M2 i) = true) := decide_eq_true HJ.out
        clear HJ hin hlt
        go_wp2_with fail
        go_ret
        rw [HN.out]
        exact ⟨rfl, rfl⟩
  · have t : ((n1 : Int) == (n2 : Int)) = false := by rw [beq_eq_false_iff_ne]; omega
    have t' : ¬ ((n1 : Int) = (n2 : Int)) := by omega
    have t2 : (n1 == n2) = false := by rw [beq_eq_false_iff_ne]; exact hl
    have HN : Hid (decide (n1 = n2 ∧ eqN M1 M2 n1) = false) := decide_eq_false fun h => hl h.1
    clear hl h1 h2
    go_enter Tryd.func31, Tryd.ntmps31
    go_wp2_with fail
    go_ret
    rw [HN.out]
    exact ⟨rfl, rfl⟩
set_option maxRecDepth 100000 in
set_option maxHeartbeats 2000000 in
theorem wclone_any {w : World} {v : Value} {L : List We} (hr : WRow w v L) (hL : L.length ≤ 1000) :
    Calls Tryd.prog 29 #[v] w fun e w' => ∃ v', e = .returned v' ∧ w'.ownsRow w.heap.size 67 2 v' L.length (wcells L) ∧ Below w.heap.size w w' := by
  obtain ⟨i0, hi, hz0, hz1, hz2⟩ := infoW
  have q22 : ∀ (w : World) (a : Option Addr) (n c n' c' : Nat), (binOp .eql 61 (.slice a n c) (.slice none n' c')).run Tryd.prog w = .ok (.bool a.isNone) w := fun w a n c n' c' => Lib.run_eql_slice_nil w _ _ a n c n' c' Tryd.underlying61
  rcases hr.2 with ⟨h1, h2⟩ | ⟨g, cap, cur, hv, hb, hh, hnc, hcm, hsz, htk⟩
  · subst h1
    have hl : L = [] := List.eq_nil_of_length_eq_zero h2
    subst hl
    have HN : Hid (w.ownsRow w.heap.size 67 2 (.slice none 0 0) 0 (wcells [])) := World.ownsRow_nil _ _ _ _
    clear hr
    go_enter Tryd.func29, Tryd.ntmps29
    go_wp2_with fail
    go_ret
    exact ⟨_, rfl, HN.out, Below.refl _ _⟩
  · subst hv
    have b0 : Below w.heap.size w (w.alloc (.cells #[] 67)) := (Below.refl _ _).alloc (Nat.le_refl _) _
    have ho : (w.alloc (.cells #[] 67)).ownsRow w.heap.size 67 2 (.slice (some ⟨w.heap.size, 0, none⟩) 0 0) 0 [] := World.ownsRow_made w #[] 0 (Nat.le_refl _) (Nat.zero_le _) rfl
    have hnews : ∀ j u, (wcells L)[j]? = some u → (w.alloc (.cells #[] 67)).cell? ((⟨g, 0, none⟩ : Addr).add j) = some u := by
      intro j u hu
      have hc := hr.cells (g := g) rfl j u hu
      exact Lib.cell?_alloc_some _ hc
    have HN := Lib.hid hnews
    obtain ⟨n, hn⟩ : ∃ n, n = L.length := ⟨_, rfl⟩
    have HL := Lib.hid hn
    rw [← hn] at hnc hL ⊢
    clear hr hh hsz htk hnews hn
    go_enter Tryd.func29, Tryd.ntmps29
    go_wp2_with (at_builtin; refine wpList_append_own _ rfl _ _ 61 rfl w.heap.size 67 i0 (.agg #[.int .i64 0, .slice none 0 0]) 2 32 Tryd.underlying61 hi hz0 hz1 hz2 rfl (by decide) (.slice (some ⟨w.heap.size, 0, none⟩) 0 0) 0 _ rfl ho ⟨g, 0, none⟩ n cap (wcells L) rfl (by rw [wcells_length, ← HL.out]) HN.out (wcells_one _) (by unfold maxLen; omega) (by omega) (by simp) ?_; intro v9 w9 hown9 hgrow _)
    have ho9 : Hid (w9.ownsRow w.heap.size 67 2 v9 n (wcells L)) := by
      show w9.ownsRow _ _ _ _ _ _
      have := hown9
      rw [Nat.zero_add, List.nil_append] at this
      exact this
    have b9 : Below w.heap.size w w9 := b0.grown hgrow (by simp) (fun k hk => by simp only [Value.ownBlock, Option.some.injEq] at hk; omega)
    clear hown9 hgrow
    go_wp2_with fail
    go_ret
    exact ⟨_, rfl, ho9.out, b9⟩
end Go.Proofs.YtbngkmlipmhgdaaDoor.Mo
/- A model's fronts, told one by one. By the verifier of shale. -/
namespace Go.Proofs.YtbngkmlipmhgdaaDoor.Mo
open Go Go.RowKit Bin
set_option linter.unusedVariables false
set_option linter.unusedSimpArgs false
/-- what is told: how many of those that wait are taken, and the sectors then. -/
structure Fd where
  i : Nat
  og : Nat
  kb : Nat → Nat
abbrev encF (n : Nat) (x : Fd) : Array Value := #[.int .i64 (x.i : Int), .slice (some ⟨x.og, 0, none⟩) n n]
def gift (n : Nat) (x : Fd) : List Nat := x.og :: (List.range n).map x.kb
def VF (n sz : Nat) (T : Nat → Bs) (L : List (Nat × Bs)) (B : Nat) (pre : List Fd) (x : Fd) (ol : List Nat) (X : World) : Prop :=
  x.i = pre.length ∧ x.i ≤ L.length ∧ AllS X x.og n sz x.kb (app T (L.take x.i)) ∧ (∀ k ∈ gift n x, k ∉ ol) ∧ ∀ k ∈ gift n x, B ≤ k
theorem gift_lt {n sz : Nat} {M : Nat → Bs} {X : World} {x : Fd} (h : AllS X x.og n sz x.kb M) : ∀ k ∈ gift n x, k < X.heap.size := fun k hk => by
  unfold gift at hk
  rcases List.mem_cons.1 hk with rfl | hk
  · exact lt_of_block h.1
  · obtain ⟨j, hj, rfl⟩ := List.mem_map.1 hk
    exact lt_of_block (h.2.1 j (List.mem_range.1 hj)).1
theorem vf_gift {n sz : Nat} {T : Nat → Bs} {L : List (Nat × Bs)} {B : Nat} : ∀ pre x ol X, VF n sz T L B pre x ol X → ∀ k ∈ gift n x, k ∉ ol := fun pre x ol X h => h.2.2.2.1
theorem vf_lt {n sz : Nat} {T : Nat → Bs} {L : List (Nat × Bs)} {B : Nat} : ∀ pre x ol X, VF n sz T L B pre x ol X → ∀ k ∈ gift n x, k < X.heap.size := fun pre x ol X h => gift_lt h.2.2.1
theorem AllS.same {w w' : World} {og n sz : Nat} {kb : Nat → Nat} {T : Nat → Bs} (h : AllS w og n sz kb T) (o : ∀ k ∈ gift n ⟨0, og, kb⟩, w'.heap[k]? = w.heap[k]?) : AllS w' og n sz kb T :=
  ⟨(o og (by unfold gift; simp)).trans h.1, fun j hj => ⟨(o _ (by unfold gift; exact List.mem_cons_of_mem _ (List.mem_map.2 ⟨j, List.mem_range.2 hj, rfl⟩))).trans (h.2.1 j hj).1, (h.2.1 j hj).2⟩, h.2.2⟩
theorem vf_same {n sz : Nat} {T : Nat → Bs} {L : List (Nat × Bs)} {B : Nat} : ∀ pre x ol X Y, VF n sz T L B pre x ol X → Tn ol X Y ol → VF n sz T L B pre x ol Y := fun pre x ol X Y h t =>
  ⟨h.1, h.2.1, h.2.2.1.same fun k hk => t.same k (gift_lt h.2.2.1 k hk) (h.2.2.2.1 k hk), h.2.2.2⟩
/-- what stays while the iterator goes on. -/
def MF (mo cb n sz : Nat) (X : World) : Prop := X.heap[cb]? = some (.cells #[.pointer (some ⟨mo, 0, none⟩)] 24 (0, 0)) ∧ ∃ c d v, X.heap[mo]? = some (.cells #[.int .i64 (n : Int), .int .i64 (sz : Int), c, d, v] 63 (0, 0))
/-- what the iterator finds. -/
def FindsF (mo cb n sz : Nat) (T : Nat → Bs) (L : List (Nat × Bs)) (bl dl : List Nat) (cbd : Nat) (ol : List Nat) (W : World) : Prop :=
  MoAt W mo n sz T L bl dl cbd ∧ W.heap[cb]? = some (.cells #[.pointer (some ⟨mo, 0, none⟩)] 24 (0, 0)) ∧ ∀ k ∈ dl, k ∉ ol
set_option maxHeartbeats 400000 in
theorem fronts_any (mo : Nat) (w : World) : Calls Tryd.prog 18 #[.pointer (some ⟨mo, 0, none⟩)] w fun e w' => e = .returned (.func (.func 28) #[] #[.pointer (some ⟨w.heap.size, 0, none⟩)]) ∧ w'.heap[w.heap.size]? = some (.cells #[.pointer (some ⟨mo, 0, none⟩)] 24 (0, 0)) ∧ Below w.heap.size w w' := by
  have h1 : Hid ((w.alloc (.cells #[.pointer (some ⟨mo, 0, none⟩)] 24 (0, 0))).heap[w.heap.size]? = some (.cells #[.pointer (some ⟨mo, 0, none⟩)] 24 (0, 0)) ∧ Below w.heap.size w (w.alloc (.cells #[.pointer (some ⟨mo, 0, none⟩)] 24 (0, 0)))) := ⟨heap_alloc_new w _, (Below.refl _ _).alloc (Nat.le_refl _) _⟩
  go_enter Tryd.func18, Tryd.ntmps18
  go_wp2_with fail
  go_ret
  exact ⟨rfl, h1.out.1, h1.out.2⟩
/-- what the iterator carries over its rounds. -/
def ItF (n sz : Nat) (T : Nat → Bs) (L : List (Nat × Bs)) (E : List We) (dl : List Nat) (B0 cm b : Nat) (v1 : Value) (O : List Fd → List Nat → World → Prop) (i : Nat) (wx : World) : Prop :=
  ∃ pre ol m, pre.length = i ∧ O pre ol wx ∧ WRow wx v1 E ∧ MapS wx cm m (b + i) ∧ Holds wx n sz (app T (L.take i)) m ∧ MIn dl m ∧ (∀ e ∈ E, Dat wx e.d e.l) ∧ (∀ k ∈ dl, k ∉ ol ∧ k < wx.heap.size) ∧ (∀ k, v1.ownBlock = some k → k ∉ ol ∧ k < wx.heap.size) ∧ cm ∉ ol ∧ B0 ≤ wx.heap.size
theorem weaken {w : World} {b n : Nat} {v : Value} {xs : List Value} (h : w.ownsRow b 67 2 v n xs) : w.ownsRow 0 67 2 v n xs := by
  refine ⟨h.1, ?_⟩
  rcases h.2 with h0 | ⟨g', cap', cur, hv, hbg, r⟩
  · exact .inl h0
  · exact .inr ⟨g', cap', cur, hv, Nat.zero_le _, r⟩
/-- a round's world behind the yield: all that the iterator owns is as it was. -/
theorem ItF.kept {n sz : Nat} {T : Nat → Bs} {L : List (Nat × Bs)} {E : List We} {dl : List Nat} {cm b i : Nat} {v1 : Value} {ol ol2 : List Nat} {x : Fd} {w4 w6 w7 : World} {m : Int → Option Sd}
    (hr : WRow w4 v1 E) (hm : MapS w4 cm m (b + i)) (hh : Holds w4 n sz (app T (L.take i)) m) (hin : MIn dl m) (he : ∀ e ∈ E, Dat w4 e.d e.l) (hE : ∀ e ∈ E, InD dl e.d) (hd : ∀ k ∈ dl, k ∉ ol ∧ k < w4.heap.size) (hv : ∀ k, v1.ownBlock = some k → k ∉ ol ∧ k < w4.heap.size) (hc : cm ∉ ol)
    (b46 : Below w4.heap.size w4 w6) (hg : ∀ k ∈ gift n x, w4.heap.size ≤ k) (t : Tn (gift n x ++ ol) w6 w7 ol2) :
    WRow w7 v1 E ∧ MapS w7 cm m (b + i) ∧ Holds w7 n sz (app T (L.take i)) m ∧ (∀ e ∈ E, Dat w7 e.d e.l) ∧ (∀ k ∈ dl, k ∉ ol2 ∧ k < w7.heap.size) ∧ (∀ k, v1.ownBlock = some k → k ∉ ol2 ∧ k < w7.heap.size) ∧ cm ∉ ol2 ∧ w4.heap.size ≤ w7.heap.size := by
  have keep : ∀ k, k < w4.heap.size → k ∉ ol → w7.heap[k]? = w4.heap[k]? := fun k hk hn => by
    refine (t.same k (Nat.lt_of_lt_of_le hk b46.size) fun h => ?_).trans (b46.block k hk)
    rcases List.mem_append.1 h with h | h
    · have := hg k h; omega
    · exact hn h
  have nin : ∀ k, k < w4.heap.size → k ∉ ol → k ∉ ol2 := fun k hk hn h => by
    rcases t.new k h with h | h
    · rcases List.mem_append.1 h with h | h
      · have := hg k h; omega
      · exact hn h
    · have := b46.size; omega
  have hs : w4.heap.size ≤ w7.heap.size := Nat.le_trans b46.size t.size
  have od : ∀ k ∈ dl, w7.heap[k]? = w4.heap[k]? := fun k hk => keep k (hd k hk).2 (hd k hk).1
  refine ⟨wrow_keep hr fun k hk => keep k (hv k hk).2 (hv k hk).1, hm.keep (keep cm hm.lt hc), hh.same hin hs od, fun e hm => (he e hm).same hs fun p hp => od _ (hE e hm p hp), fun k hk => ⟨nin k (hd k hk).2 (hd k hk).1, Nat.lt_of_lt_of_le (hd k hk).2 hs⟩, fun k hk => ⟨nin k (hv k hk).2 (hv k hk).1, Nat.lt_of_lt_of_le (hv k hk).2 hs⟩, nin cm hm.lt hc, hs⟩
theorem itf_start {W wz : World} {mo n sz : Nat} {T : Nat → Bs} {L : List (Nat × Bs)} {bl dl : List Nat} {cbd tm nm cm : Nat} {mT mN : Int → Option Sd} {bT bN : Nat} {v v1 : Value} {E : List We} {O : List Fd → List Nat → World → Prop} {ol : List Nat}
    (h : MoIn W mo n sz T L bl dl cbd tm nm mT mN bT bN v E) (h0 : O [] ol wz) (hol : ∀ k ∈ dl, k ∉ ol) (hOl : ∀ k ∈ ol, k < W.heap.size) (bz : Below W.heap.size W wz) (hr : WRow wz v1 E) (hv : ∀ k, v1.ownBlock = some k → W.heap.size ≤ k) (hm : MapS wz cm mT bT) (hc : W.heap.size ≤ cm) :
    ItF n sz T L E dl W.heap.size cm bT v1 O 0 wz := by
  have od : ∀ k ∈ dl, wz.heap[k]? = W.heap[k]? := fun k hk => bz.block k (h.dlt k hk)
  refine ⟨[], ol, mT, rfl, h0, hr, hm, h.holT.same h.inT bz.size od, h.inT, fun e he => (h.ents e he).1.same bz.size fun p hp => od _ (h.inE e he p hp), fun k hk => ⟨hol k hk, Nat.lt_of_lt_of_le (h.dlt k hk) bz.size⟩, fun k hk => ⟨fun hm => ?_, (hr.lt k hk).2⟩, fun hm => ?_, bz.size⟩
  · have := hv k hk; have := hOl k hm; omega
  · have := hOl cm hm; omega
set_option maxRecDepth 100000 in
set_option maxHeartbeats 4000000 in
theorem fronts_iter (nf Bs0 mo cb n sz : Nat) (T : Nat → Bs) (L : List (Nat × Bs)) (bl dl : List Nat) (cbd : Nat) :
    IterGiftM nf Tryd.prog 28 #[.pointer (some ⟨cb, 0, none⟩)] (encF n) (gift n) Bs0 [] (MF mo cb n sz) (VF n sz T L Bs0) (fun xs => xs.length = L.length + 1) (fun pre => pre.length ≤ L.length + 1) (FindsF mo cb n sz T L bl dl cbd) := by
  intro l O Ox ol W hO hOx hOl hMF hY hBW h0 hC
  refine callsIn_wide.2 ?_
  obtain ⟨MA, hcb, hol⟩ := hC
  have hlens := MA.lens
  obtain ⟨tm, nm, mT, mN, bT, bN, v, E, h⟩ := MA
  obtain ⟨av, cv, rfl, _, _, _⟩ := wrow_slice h.row
  have hEL : E.length = L.length := by rw [← h.lay]; simp
  have c0 : W.cell? ⟨cb, 0, none⟩ = some (.pointer (some ⟨mo, 0, none⟩)) := cell_of_one hcb
  have hcl := lt_of_block hcb
  have hml := lt_of_block h.blk
  have HYY := Lib.hid hY
  have HOO := Lib.hid (And.intro hO (And.intro hOx (And.intro hOl hMF)))
  have HFr : Hid (∀ ol' X Y, Below X.heap.size X Y → Fr Bs0 [] ol' X Y) := fun ol' X Y b => .below b
  have HI := Lib.hid (And.intro h (And.intro h0 (And.intro hol (And.intro hEL hlens))))
  obtain ⟨N, hN⟩ : ∃ N, N = E.length := ⟨_, rfl⟩
  have HSS : Hid (∀ X : World, Below W.heap.size W X → (X.cell? ⟨cb, 0, none⟩ = some (.pointer (some ⟨mo, 0, none⟩)) ∧ X.cell? ⟨mo, 4, none⟩ = some (.slice av N cv) ∧ X.cell? ⟨mo, 2, none⟩ = some (.map (some tm)))) := fun X b => by
    have hb := (b.block mo hml).trans h.blk
    exact ⟨(b.cell (p := ⟨cb, 0, none⟩) hcl).trans c0, by rw [hN]; exact (mo_cells hb).2.2.2.2.1, (mo_cells hb).2.2.1⟩
  have HSl : Hid (∀ X : World, Below W.heap.size W X → Calls Tryd.prog 29 #[.slice av N cv] X fun e w' => ∃ v1, e = .returned v1 ∧ (w'.cell? ⟨cb, 0, none⟩ = some (.pointer (some ⟨mo, 0, none⟩)) ∧ w'.cell? ⟨mo, 4, none⟩ = some (.slice av N cv) ∧ w'.cell? ⟨mo, 2, none⟩ = some (.map (some tm))) ∧ w'.ownsRow X.heap.size 67 2 v1 E.length (wcells E) ∧ Below X.heap.size X w' ∧ Below W.heap.size W w') := fun X b => by
    rw [hN]
    refine (wclone_any (wrow_keep h.row fun g hg => b.block g (h.row.lt g hg).2) (by have := h.cnt; omega)).mono ?_
    rintro e w' ⟨v1, rfl, h1, h2⟩
    have b2 := b.trans (h2.mono b.size)
    exact ⟨v1, rfl, by rw [← hN]; exact HSS.out w' b2, h1, h2, b2⟩
  have HMc : Hid (∀ X : World, Below W.heap.size W X → Calls Tryd.prog 30 #[.map (some tm)] X fun e w' => e = .returned (.map (some X.heap.size)) ∧ (w'.cell? ⟨cb, 0, none⟩ = some (.pointer (some ⟨mo, 0, none⟩)) ∧ w'.cell? ⟨mo, 4, none⟩ = some (.slice av N cv) ∧ w'.cell? ⟨mo, 2, none⟩ = some (.map (some tm))) ∧ MapS w' X.heap.size mT bT ∧ Below X.heap.size X w' ∧ Below W.heap.size W w') := fun X b => by
    refine (mclone_any (h.mapT.keep (b.block tm h.mapT.lt))).mono ?_
    rintro e w' ⟨rfl, h1, h2, _⟩
    have b2 := b.trans (h2.mono b.size)
    exact ⟨rfl, HSS.out w' b2, h1, h2, b2⟩
  have hZ0 : Below W.heap.size W W.drew := (Drawn.mk W 1).below _
  have hS0 := HSS.out _ hZ0
  have HN := Lib.hid hN
  clear hO hOx hOl hMF hY h0 hcb hol hlens h hEL hcl hml hN c0
  go_enter Tryd.func28, Tryd.ntmps28
  go_upto_region 0 with (fail)
  go_region_held3 (fun X => (X.cell? ⟨cb, 0, none⟩ = some (.pointer (some ⟨mo, 0, none⟩)) ∧ X.cell? ⟨mo, 4, none⟩ = some (.slice av N cv) ∧ X.cell? ⟨mo, 2, none⟩ = some (.map (some tm))))
    (first | assumption | exact HSS.out _ (by assumption))
    ((first
      | (go_at_call 29; refine Calls.mono (HSl.out _ (by assumption)) ?_; rintro e wA ⟨v1, rfl, hSA, hrA, hbA, hZA⟩)
      | (go_at_call 30; refine Calls.mono (HMc.out _ (by assumption)) ?_; rintro e wB ⟨rfl, hSB, hmB, hbB, hZB⟩)))
  obtain ⟨cm, hcm⟩ : ∃ cm, cm = wA.heap.size := ⟨_, rfl⟩
  have HCM : Hid ((∀ k ∈ dl, k ≠ cm) ∧ v1.ownBlock ≠ some cm ∧ W.heap.size ≤ cm) := ⟨fun k hk e => by have := HI.out.1.dlt k hk; have := hZA.size; omega, fun e => by have := (hrA.lt cm e).2; omega, by rw [hcm]; exact hZA.size⟩
  have HI1 : Hid (ItF n sz T L E dl W.heap.size cm bT v1 O 0 wB) := by
    rw [← hcm] at hmB
    exact itf_start HI.out.1 (HOO.out.1 _ _ _ _ HI.out.2.1 (HFr.out _ _ _ hZB)) HI.out.2.2.1 (HOO.out.2.2.1 _ _ _ HI.out.2.1) hZB (wrow_keep (weaken hrA) fun g hg => hbB.block g (hrA.lt g hg).2) (fun k hk => (hrA.lt k hk).1) hmB (by rw [hcm]; exact hZA.size)
  rw [← hcm]
  obtain ⟨wz, hwz⟩ : ∃ wz, wz = wB := ⟨_, rfl⟩
  rw [← hwz] at HI1 ⊢
  clear hSA hrA hbA hZA hSB hmB hbB hZB hZ0 hS0 hwz hcm HSS HSl HMc
  obtain ⟨a1, c1, rfl, hc1, hc2, _⟩ : ∃ a c, v1 = .slice a N c ∧ N ≤ c ∧ c ≤ maxLen ∧ True := by
    obtain ⟨_, _, _, _, _, hr, _⟩ := HI1.out
    obtain ⟨a, c, h1, h2, h3, _⟩ := wrow_slice hr
    rw [← HN.out] at h1 h2
    exact ⟨a, c, h1, h2, h3, trivial⟩
  unfold maxLen at hc2
  have hN1 : (N : Int) ≤ 1000 := by have := HI.out.2.2.2.1; have := HI.out.2.2.2.2; have := HN.out; omega
  go_wp2_with fail
  go_loopg [5] (N + 1) (fun gh s5 wx => ∃ i : Nat, gh = N + 1 - i ∧ i ≤ N ∧ s5 = .int .i64 (i : Int) ∧ Hid (ItF n sz T L E dl W.heap.size cm bT (.slice a1 N c1) O i wx))
  case atStart => exact ⟨0, rfl, Nat.zero_le _, rfl, HI1⟩
  case round =>
    clear HI1
    obtain ⟨i, hg, hin, rfl, HX⟩ := hrel
    have HG := Lib.hid (And.intro hg hin)
    clear hg
    obtain ⟨w4, rfl⟩ : ∃ w', w' = wr := ⟨_, rfl⟩
    have x0 : (0 : Int) ≤ (i : Int) := by omega
    have x9 : (i : Int) ≤ 1000 := by omega
    obtain ⟨pre, ol', m, hpl, hO4, hr4, hm4, hh4, hin4, he4, hd4, hv4, hc4, hB4⟩ := HX.out
    obtain ⟨hcb4, cc, dd, vv, hmo4⟩ := HOO.out.2.2.2 _ _ _ hO4
    have c0 : w4.cell? ⟨cb, 0, none⟩ = some (.pointer (some ⟨mo, 0, none⟩)) := cell_of_one hcb4
    have HAll := Lib.hid (all_any (mo_cells hmo4).1 (mo_cells hmo4).2.1 HI.out.1.num.2.1 HI.out.1.num.2.2.2 hm4 hin4 (fun k hk => (hd4 k hk).2) hh4 (app_len _ _ HI.out.1.lens fun p hp => (HI.out.2.2.2.2.2.1 p (List.mem_of_mem_take hp)).2))
    have H4 := Lib.hid (And.intro hpl (And.intro hO4 (And.intro hr4 (And.intro hm4 (And.intro hh4 (And.intro hin4 (And.intro he4 (And.intro hd4 (And.intro hv4 (And.intro hc4 hB4))))))))))
    clear hpl hO4 hr4 hm4 hh4 hin4 he4 hd4 hv4 hc4 hB4 hcb4 hmo4 HX hin
    refine (wpIn_wide (n := nf)).1 ?_
    gi_wp2
    refine ⟨trivial, fun e => by simp [Fence.wide] at e, ?_⟩
    refine CallsIn.mono (callsIn_wide.2 HAll.out) ?_
    rintro e6 w6 ⟨kb, rfl, hA6, b6⟩
    have hgf : ∀ k ∈ gift n ⟨i, w4.heap.size, kb⟩, w4.heap.size ≤ k := fun k hk => by
      unfold gift at hk
      rcases List.mem_cons.1 hk with rfl | hk
      · exact Nat.le_refl _
      · obtain ⟨j, hj, rfl⟩ := List.mem_map.1 hk
        exact Nat.le_of_lt (hA6.2.1 j (List.mem_range.1 hj)).2
    have hVF : VF n sz T L Bs0 pre ⟨i, w4.heap.size, kb⟩ ol' w6 := by
      refine ⟨H4.out.1.symm, ?_, hA6, fun k hk hm => ?_, fun k hk => ?_⟩
      · have := HG.out.2; have := HN.out; have := HI.out.2.2.2.1; show i ≤ L.length; omega
      · have h1 := HOO.out.2.2.1 _ _ _ H4.out.2.1 k hm
        have h2 := hgf k hk
        omega
      · exact Nat.le_trans hBW (Nat.le_trans H4.out.2.2.2.2.2.2.2.2.2.2 (hgf k hk))
    obtain ⟨fn, tmps, assign, body, hy, hR⟩ := HYY.out pre ⟨i, w4.heap.size, kb⟩ ol' w6 (HOO.out.1 _ _ _ _ H4.out.2.1 (HFr.out _ _ _ b6)) hVF
    have HR := Lib.hid hR
    have H6 := Lib.hid (And.intro hA6 (And.intro b6 hgf))
    clear hR hA6 b6 hgf hVF c0 HAll
    gi_wp2
    refine ⟨fun e => by simp [Fence.wide] at e, (roundIn_wide HR.out).mono ?_⟩
    rintro e W7 ⟨ol2, ht, (⟨rfl, hO7⟩ | ⟨rfl, cx, hO7⟩)⟩
    · by_cases hlt : i < N
      · have x1 : (i : Int) < (N : Int) := by omega
        have hK := ItF.kept H4.out.2.2.1 H4.out.2.2.2.1 H4.out.2.2.2.2.1 H4.out.2.2.2.2.2.1 H4.out.2.2.2.2.2.2.1 HI.out.1.inE H4.out.2.2.2.2.2.2.2.1 H4.out.2.2.2.2.2.2.2.2.1 H4.out.2.2.2.2.2.2.2.2.2.1 H6.out.2.1 H6.out.2.2 ht
        have HK7 := Lib.hid (And.intro hK hO7)
        have HL := Lib.hid hlt
        clear ht hO7 HR hy hK hlt
        gi_wp2
        refine wpIn_wide.2 ?_
        refine wp_region_still_tail 11 (by kernel_rfl) (by kernel_rfl) ?_
        simp only [List.take_succ_cons, List.take_zero, List.drop_succ_cons, List.drop_zero]
        change wpStill _ _ W7.drew (fun a' => wpList _ _ _ _ a' W7.drew) _ _
        have hiE : i < E.length := by rw [← HN.out]; exact HL.out
        obtain ⟨e, he⟩ : ∃ e, E[i]? = some e := ⟨E[i], List.getElem?_eq_getElem hiE⟩
        have hmem := List.mem_of_getElem? he
        have bd : Below W7.heap.size W7 W7.drew := (Drawn.mk W7 1).below W7.heap.size
        obtain ⟨g, hgq, e0, e1⟩ := wrow_cells (w := W7.drew) (wrow_keep HK7.out.1.1 fun g hg => bd.block g (HK7.out.1.2.2.2.2.2.1 g hg).2) he
        cases hgq
        obtain ⟨w8, hput, hm8, ht8⟩ := (MapS.keep (w' := W7.drew) HK7.out.1.2.1 (bd.block cm HK7.out.1.2.1.lt)).put (by have := HI.out.1.cnt; have := HI.out.2.2.2.1; unfold maxLen; omega) (wf_nat e.key (by have := HI.out.1.num; have := (HI.out.1.ents e hmem).2.1; omega)) e.d
        have hput' : (Instr.mapUpdate 60 (.map (some cm)) (.int .i64 (e.key : Int)) (.slice e.d.addr e.d.n e.d.c)).run Tryd.prog W7.drew = .ok () w8 := hput
        have HNx : Hid (ItF n sz T L E dl W.heap.size cm bT (.slice (some ⟨g, 0, none⟩) N c1) O (i + 1) w8) := by
          obtain ⟨t1, t2, t3, t4, t5⟩ := ht8
          obtain ⟨⟨hr7, hm7, hh7, he7, hd7, hv7, hc7, hs7⟩, hO7⟩ := HK7.out
          have hgl := hv7 g rfl
          have hs8 : W7.heap.size = w8.heap.size := t4.symm
          have od : ∀ k ∈ dl, w8.heap[k]? = W7.heap[k]? := fun k hk => t5 k (HCM.out.1 k hk)
          have hE8 : ∀ d ∈ E, Dat w8 d.d d.l := fun d hd => (he7 d hd).same (Nat.le_of_eq hs8) fun p hp => od _ (HI.out.1.inE d hd p hp)
          have hL8 : L.take (i + 1) = L.take i ++ [(e.key, e.l)] := by
            rw [← HI.out.1.lay, List.take_add_one, List.getElem?_map, he]; rfl
          refine ⟨pre ++ [⟨i, w4.heap.size, kb⟩], ol2, upM m (e.key : Int) e.d, by rw [List.length_append, H4.out.1]; rfl, ?_, wrow_keep hr7 fun k hk => t5 k fun x => HCM.out.2.1 (by rw [← x]; exact hk), hm8, ?_, fun k x hx => ?_, hE8, fun k hk => ⟨(hd7 k hk).1, by have := (hd7 k hk).2; omega⟩, fun k hk => ⟨(hv7 k hk).1, by have := (hv7 k hk).2; omega⟩, hc7, by have := H4.out.2.2.2.2.2.2.2.2.2.2; omega⟩
          · exact HOO.out.1 _ _ _ _ hO7 ⟨t1, t2, t3, Nat.le_of_eq hs8, fun k hk _ => t5 k fun x => by
              rcases hk with ⟨hk, _⟩ | hk
              · have := HCM.out.2.2; omega
              · exact hc7 (by rw [← x]; exact hk)⟩
          · rw [hL8, app_snoc]
            exact (hh7.same H4.out.2.2.2.2.2.1 (Nat.le_of_eq hs8) od).up e.key e.d e.l (hE8 e hmem)
          · unfold upM at hx
            split at hx
            · cases hx
              exact HI.out.1.inE e hmem
            · exact H4.out.2.2.2.2.2.1 k x hx
        clear bd hput hm8 ht8 hmem he hiE HK7 H6 H4
        generalize W7.drew = w9 at e0 e1 hput' ⊢
        iterate 11 still_step
        refine wpStill_nil ?_
        go_wp2_with fail
        refine wpIn_wide.2 ?_
        go_wp2_with fail
        go_roundg (N + 1 - (i + 1))
        case measure => have := HG.out; have := HL.out; omega
        case rel => exact ⟨i + 1, rfl, HL.out, by go_num, HNx⟩
      · obtain rfl : i = N := by have := HG.out.2; omega
        have x1 : ¬ (i : Int) < (i : Int) := by omega
        have x2 : decide ((i : Int) < (i : Int)) = false := decide_eq_false x1
        have HE : Hid ((pre ++ [(⟨i, w4.heap.size, kb⟩ : Fd)]).length = L.length + 1 ∧ O (pre ++ [⟨i, w4.heap.size, kb⟩]) ol2 W7) := ⟨by rw [List.length_append, H4.out.1]; have := HI.out.2.2.2.1; have := HN.out; show i + 1 = _; omega, hO7⟩
        clear ht hO7 HR hy hlt H6
        gi_wp2
        go_wp2_with fail
        go_end0
        exact ⟨⟨_, rfl⟩, .inl ⟨_, _, HE.out.1, HE.out.2⟩⟩
    · have HE : Hid ((pre ++ [(⟨i, w4.heap.size, kb⟩ : Fd)]).length ≤ L.length + 1 ∧ Ox cx (pre ++ [⟨i, w4.heap.size, kb⟩]) ol2 W7) := ⟨by rw [List.length_append, H4.out.1]; have := HG.out.2; have := HI.out.2.2.2.1; have := HN.out; show i + 1 ≤ _; omega, hO7⟩
      clear ht hO7 HR hy H6
      gi_wp2
      go_wp2_with fail
      go_end0
      exact ⟨⟨_, rfl⟩, .inr ⟨_, cx, _, HE.out.1, HE.out.2⟩⟩
end Go.Proofs.YtbngkmlipmhgdaaDoor.Mo
/- A model settles. By the verifier of shale. -/
namespace Go.Proofs.YtbngkmlipmhgdaaDoor.Mo
open Go Go.RowKit Bin
set_option linter.unusedVariables false
set_option linter.unusedSimpArgs false
attribute [local go_sem] Oper.semAt_some
theorem MoAt.dis {w : World} {mo n sz : Nat} {T : Nat → Bs} {L : List (Nat × Bs)} {bl dl : List Nat} {cb : Nat} (h : MoAt w mo n sz T L bl dl cb) : ∀ k ∈ dl, k ∉ bl := by
  obtain ⟨_, _, _, _, _, _, _, _, h⟩ := h
  exact h.dis
theorem MoAt.mf {w : World} {mo cb n sz : Nat} {T : Nat → Bs} {L : List (Nat × Bs)} {bl dl : List Nat} {cbd : Nat} (h : MoAt w mo n sz T L bl dl cbd) (hc : w.heap[cb]? = some (.cells #[.pointer (some ⟨mo, 0, none⟩)] 24 (0, 0))) : MF mo cb n sz w := by
  obtain ⟨_, _, _, _, _, _, _, _, h⟩ := h
  exact ⟨hc, _, _, _, h.blk⟩
theorem newC {w W : World} {v : Value} {t : TypeId} (h : w.alloc (.cells #[v] t (0, 0)) = W) : W.heap[w.heap.size]? = some (.cells #[v] t (0, 0)) ∧ Below w.heap.size w W ∧ W.heap.size = w.heap.size + 1 := by
  subst h
  exact ⟨heap_alloc_new w _, (Below.refl _ _).alloc (Nat.le_refl _) _, by simp⟩
/-- does the front of so many say so? -/
def EqJ (n n2 : Nat) (T : Nat → Bs) (L : List (Nat × Bs)) (M : Nat → Bs) (j : Nat) : Prop := n = n2 ∧ eqN (app T (L.take j)) M n
theorem res_two {tmps : Array Value} {w : World} {g f : Nat} {v x : Value} (hp : tmps.getD 4 undef = .pointer (some ⟨g, 0, none⟩)) (hq : tmps.getD 5 undef = .pointer (some ⟨f, 0, none⟩)) (hc : w.cell? ⟨g, 0, none⟩ = some v) (hd : w.cell? ⟨f, 0, none⟩ = some x) (hi : ∃ k, v = .int .i64 k) (hb : ∃ k, x = .bool k) :
    (results Tryd.f19 tmps).run Tryd.prog w = .ok (.tuple #[v, x]) w := by
  have hp' : tmps[4]?.getD undef = .pointer (some ⟨g, 0, none⟩) := by simpa using hp
  have hq' : tmps[5]?.getD undef = .pointer (some ⟨f, 0, none⟩) := by simpa using hq
  obtain ⟨k, rfl⟩ := hi
  obtain ⟨b, rfl⟩ := hb
  simp [results, Tryd.results19, hp', hq', asAddr, go_sem, hc, hd]
/-- how Settle ends where a front is the list. -/
def SetlIx (w2 : World) (mo n n2 sz : Nat) (T : Nat → Bs) (L : List (Nat × Bs)) (M : Nat → Bs) (bl dl : List Nat) (cbd rb fb : Nat) (cde : Code) (pre : List Fd) (bl' : List Nat) (W : World) : Prop :=
  cde = .ret ∧ ∃ k blF, k ≤ L.length ∧ EqJ n n2 T L M k ∧ (∀ j, j < k → ¬ EqJ n n2 T L M j) ∧ bl' = rb :: fb :: blF ∧ MoAt W mo n sz (app T (L.take k)) [] blF dl cbd ∧ W.heap[rb]? = some (.cells #[.int .i64 (k : Int)] 3 (0, 0)) ∧ W.heap[fb]? = some (.cells #[.bool true] 4 (0, 0)) ∧ Tn (rb :: fb :: bl) w2 W (rb :: fb :: blF)
theorem setl_fr {w2 : World} {mo n n2 sz : Nat} {T : Nat → Bs} {L : List (Nat × Bs)} {M : Nat → Bs} {bl dl : List Nat} {cbd rb fb : Nat} (hd : ∀ k ∈ dl, k < w2.heap.size) (hr : rb < w2.heap.size ∧ fb < w2.heap.size) : ∀ c pre bl' X Y, SetlIx w2 mo n n2 sz T L M bl dl cbd rb fb c pre bl' X → Fr w2.heap.size [] bl' X Y → SetlIx w2 mo n n2 sz T L M bl dl cbd rb fb c pre bl' Y := by
  rintro c pre bl' X Y ⟨h0, k, blF, h1, h2, h3, rfl, h4, h5, h6, h7⟩ f
  refine ⟨h0, k, blF, h1, h2, h3, rfl, h4.keep f.size fun z hz => ?_, (f.same rb (.inr (by simp)) (lt_of_block h5)).trans h5, (f.same fb (.inr (by simp)) (lt_of_block h6)).trans h6, ?_⟩
  · refine f.same z ?_ (h4.lt z hz)
    rcases hz with hz | hz
    · exact .inr (by simp [hz])
    · exact .inl ⟨hd z hz, by simp⟩
  · exact ⟨f.os.trans h7.os, f.tape.trans h7.tape, f.output.trans h7.output, Nat.le_trans h7.size f.size, fun z hz hn => (f.same z (.inl ⟨hz, by simp⟩) (Nat.lt_of_lt_of_le hz h7.size)).trans (h7.same z hz hn), h7.new⟩
/-- behind the stores of the body that returns. -/
theorem setl_stop {w2 W W3 : World} {mo n n2 sz : Nat} {T : Nat → Bs} {L : List (Nat × Bs)} {M : Nat → Bs} {bl dl blF : List Nat} {cbd rb fb k : Nat} {pre : List Fd} {gx : List Nat}
    (hb : Below w2.heap.size w2 W) (hne : rb ≠ fb) (hrb : rb ∉ bl ∧ rb ∉ dl ∧ rb < w2.heap.size) (hfb : fb ∉ bl ∧ fb ∉ dl ∧ fb < w2.heap.size) (h5 : W3.heap[rb]? = some (.cells #[.int .i64 0] 3 (0, 0))) (h6 : W3.heap[fb]? = some (.cells #[.bool false] 4 (0, 0)))
    (hk : k ≤ L.length) (he : EqJ n n2 T L M k) (hn : ∀ j, j < k → ¬ EqJ n n2 T L M j) (hM : MoAt W3 mo n sz (app T (L.take k)) [] blF dl cbd) (t : Tn bl W W3 blF) :
    ∃ bl', Tn (gx ++ (rb :: fb :: bl)) W ((W3.setCell ⟨rb, 0, none⟩ (.int .i64 (k : Int))).setCell ⟨fb, 0, none⟩ (.bool true)) bl' ∧ SetlIx w2 mo n n2 sz T L M bl dl cbd rb fb .ret pre bl' ((W3.setCell ⟨rb, 0, none⟩ (.int .i64 (k : Int))).setCell ⟨fb, 0, none⟩ (.bool true)) := by
  have notF : ∀ z, z < w2.heap.size → z ∉ bl → z ∉ blF := fun z hz hn hm => by
    rcases t.new z hm with h | h
    · exact hn h
    · have := hb.size; omega
  have o1 := Only.setCell W3 ⟨rb, 0, none⟩ (.int .i64 (k : Int))
  have o2 := Only.setCell (W3.setCell ⟨rb, 0, none⟩ (.int .i64 (k : Int))) ⟨fb, 0, none⟩ (.bool true)
  have tw : Tn (rb :: fb :: bl) W W3 (rb :: fb :: blF) := ⟨t.os, t.tape, t.output, t.size, fun z hz hn => t.same z hz fun h => hn (by simp [h]), fun z hz => by
    rcases List.mem_cons.1 hz with rfl | hz
    · exact .inl (by simp)
    · rcases List.mem_cons.1 hz with rfl | hz
      · exact .inl (by simp)
      · rcases t.new z hz with h | h
        · exact .inl (by simp [h])
        · exact .inr h⟩
  have ts : Tn (rb :: fb :: blF) W3 ((W3.setCell ⟨rb, 0, none⟩ (.int .i64 (k : Int))).setCell ⟨fb, 0, none⟩ (.bool true)) (rb :: fb :: blF) := (Tn.setCell W3 ⟨rb, 0, none⟩ _ (by simp)).trans (Tn.setCell _ ⟨fb, 0, none⟩ _ (by simp))
  have hs : W3.heap.size ≤ ((W3.setCell ⟨rb, 0, none⟩ (.int .i64 (k : Int))).setCell ⟨fb, 0, none⟩ (.bool true)).heap.size := by rw [o2.size, o1.size]; exact Nat.le_refl _
  have tall := tw.trans ts
  refine ⟨rb :: fb :: blF, ⟨tall.os, tall.tape, tall.output, tall.size, fun z hz hn => tall.same z hz fun h => hn (List.mem_append_right _ h), fun z hz => ?_⟩, rfl, k, blF, hk, he, hn, rfl, hM.keep hs fun z hz => ?_, ?_, ?_, ?_⟩
  · rcases tall.new z hz with h | h
    · exact .inl (List.mem_append_right _ h)
    · exact .inr h
  · have z1 : z ≠ rb := fun e => by
      rcases hz with hz | hz
      · exact notF rb hrb.2.2 hrb.1 (by rw [← e]; exact hz)
      · exact hrb.2.1 (by rw [← e]; exact hz)
    have z2 : z ≠ fb := fun e => by
      rcases hz with hz | hz
      · exact notF fb hfb.2.2 hfb.1 (by rw [← e]; exact hz)
      · exact hfb.2.1 (by rw [← e]; exact hz)
    exact (o2.block z z2).trans (o1.block z z1)
  · exact (o2.block rb hne).trans (heap_setCell_same W3 rb 0 _ _ _ h5)
  · exact heap_setCell_same _ fb 0 _ _ _ ((o1.block fb (Ne.symm hne)).trans h6)
  · have tb : Tn (rb :: fb :: bl) w2 W (rb :: fb :: bl) := ⟨hb.os, hb.tape, hb.output, hb.size, fun z hz _ => hb.block z hz, fun _ h => .inl h⟩
    exact tb.trans tall
def SetlPost (w : World) (mo n n2 sz : Nat) (T : Nat → Bs) (L : List (Nat × Bs)) (M : Nat → Bs) (bl dl : List Nat) (cbd : Nat) (e : Ending) (w' : World) : Prop :=
  (∃ k, k ≤ L.length ∧ EqJ n n2 T L M k ∧ (∀ j, j < k → ¬ EqJ n n2 T L M j) ∧ e = .returned (.tuple #[.int .i64 (k : Int), .bool true]) ∧ SetPost w mo n sz (app T (L.take k)) bl dl cbd w') ∨
  ((∀ j, j ≤ L.length → ¬ EqJ n n2 T L M j) ∧ e = .returned (.tuple #[.int .i64 0, .bool false]) ∧ Below w.heap.size w w')
theorem boxes4 (w W : World) (mo : Nat) (s : Value) (h : (((w.alloc (.cells #[.pointer (some ⟨mo, 0, none⟩)] 24 (0, 0))).alloc (.cells #[s] 36 (0, 0))).alloc (.cells #[.int .i64 0] 3 (0, 0))).alloc (.cells #[.bool false] 4 (0, 0)) = W) :
    W.heap[w.heap.size]? = some (.cells #[.pointer (some ⟨mo, 0, none⟩)] 24 (0, 0)) ∧ W.heap[w.heap.size + 1]? = some (.cells #[s] 36 (0, 0)) ∧ W.heap[w.heap.size + 1 + 1]? = some (.cells #[.int .i64 0] 3 (0, 0)) ∧ W.heap[w.heap.size + 1 + 1 + 1]? = some (.cells #[.bool false] 4 (0, 0)) ∧ Below w.heap.size w W := by
  generalize h1 : w.alloc (.cells #[.pointer (some ⟨mo, 0, none⟩)] 24 (0, 0)) = w1 at h
  obtain ⟨k1, b1, s1⟩ := newC h1
  generalize h2 : w1.alloc (.cells #[s] 36 (0, 0)) = w2 at h
  obtain ⟨k2, b2, s2⟩ := newC h2
  generalize h3 : w2.alloc (.cells #[.int .i64 0] 3 (0, 0)) = w3 at h
  obtain ⟨k3, b3, s3⟩ := newC h3
  obtain ⟨k4, b4, s4⟩ := newC h
  rw [← s1, ← s2, ← s3]
  have k1' := (b2.block _ (lt_of_block k1)).trans k1
  have k1'' := (b3.block _ (lt_of_block k1')).trans k1'
  have k2' := (b3.block _ (lt_of_block k2)).trans k2
  exact ⟨(b4.block _ (lt_of_block k1'')).trans k1'', (b4.block _ (lt_of_block k2')).trans k2', (b4.block _ (lt_of_block k3)).trans k3, k4, ((b1.trans (b2.mono b1.size)).trans (b3.mono (by omega))).trans (b4.mono (by omega))⟩
set_option maxRecDepth 100000 in
set_option maxHeartbeats 4000000 in
theorem settl_any {w : World} {mo n sz : Nat} {T : Nat → Bs} {L : List (Nat × Bs)} {bl dl : List Nat} {cbd : Nat} (h : MoAt w mo n sz T L bl dl cbd) {a : Option Addr} {n2 c2 : Nat} {M : Nat → Bs} (hl : LstAt w a n2 M) (hn2 : n2 ≤ maxLen) :
    Calls Tryd.prog 19 #[.pointer (some ⟨mo, 0, none⟩), .slice a n2 c2] w (SetlPost w mo n n2 sz T L M bl dl cbd) := by
  refine (callsIn_wide (n := 3)).1 ?_
  refine callsIn_of_wp_marks Tryd.func19 rfl trivial ?_ rfl
  simp only [Tryd.ntmps19, List.size_toArray, List.length_cons, List.length_nil, Nat.reduceAdd, Nat.reduceSub, Array.replicate_succ, Array.replicate_zero, List.push_toArray, List.append_toArray, List.nil_append, List.cons_append]
  refine wpIn_wide.2 ?_
  have HH := Lib.hid (And.intro h (And.intro hl hn2))
  clear h hl hn2
  go_upto_region 1 with (fail)
  generalize hw : (((w.alloc (.cells #[.pointer (some ⟨mo, 0, none⟩)] 24 (0, 0))).alloc (.cells #[.slice a n2 c2] 36 (0, 0))).alloc (.cells #[.int .i64 0] 3 (0, 0))).alloc (.cells #[.bool false] 4 (0, 0)) = w1
  obtain ⟨k1, k2, k3, k4, b1⟩ := boxes4 w w1 mo _ hw
  clear hw
  obtain ⟨xb, hxb⟩ : ∃ x, x = w.heap.size := ⟨_, rfl⟩
  obtain ⟨lb, hlb⟩ : ∃ x, x = w.heap.size + 1 := ⟨_, rfl⟩
  obtain ⟨rb, hrb⟩ : ∃ x, x = w.heap.size + 1 + 1 := ⟨_, rfl⟩
  obtain ⟨fb, hfb⟩ : ∃ x, x = w.heap.size + 1 + 1 + 1 := ⟨_, rfl⟩
  rw [← hfb] at k4 ⊢
  rw [← hrb] at k3 ⊢
  rw [← hlb] at k2 ⊢
  rw [← hxb] at k1 ⊢
  have x1 := cell_of_one k1
  have HNE : Hid (w.heap.size ≤ xb ∧ w.heap.size ≤ lb ∧ w.heap.size ≤ rb ∧ w.heap.size ≤ fb ∧ rb ≠ fb) := ⟨by omega, by omega, by omega, by omega, by omega⟩
  have H1 := Lib.hid (And.intro k1 (And.intro k2 (And.intro k3 (And.intro k4 b1))))
  clear k1 k2 k3 k4 b1 hxb hlb hrb hfb
  go_wp2_with fail
  refine (fronts_any mo w1).mono ?_
  rintro e w2 ⟨rfl, hcb, b2⟩
  obtain ⟨cb, hcbe⟩ : ∃ cb, cb = w1.heap.size := ⟨_, rfl⟩
  rw [← hcbe] at hcb ⊢
  have H2 : Hid (w2.heap[xb]? = some (.cells #[.pointer (some ⟨mo, 0, none⟩)] 24 (0, 0)) ∧ w2.heap[lb]? = some (.cells #[.slice a n2 c2] 36 (0, 0)) ∧ w2.heap[rb]? = some (.cells #[.int .i64 0] 3 (0, 0)) ∧ w2.heap[fb]? = some (.cells #[.bool false] 4 (0, 0)) ∧ w2.heap[cb]? = some (.cells #[.pointer (some ⟨mo, 0, none⟩)] 24 (0, 0)) ∧ Below w.heap.size w w2 ∧ MoAt w2 mo n sz T L bl dl cbd ∧ LstAt w2 a n2 M) := by
    obtain ⟨k1, k2, k3, k4, b1⟩ := H1.out
    have b12 := b1.trans (b2.mono b1.size)
    exact ⟨(b2.block _ (lt_of_block k1)).trans k1, (b2.block _ (lt_of_block k2)).trans k2, (b2.block _ (lt_of_block k3)).trans k3, (b2.block _ (lt_of_block k4)).trans k4, hcb, b12, HH.out.1.below b12, HH.out.2.1.below b12⟩
  have HX : Hid ((rb ∉ bl ∧ rb ∉ dl ∧ rb < w2.heap.size) ∧ (fb ∉ bl ∧ fb ∉ dl ∧ fb < w2.heap.size) ∧ ∀ k ∈ dl, k < w2.heap.size) := by
    have hlt := HH.out.1.lt
    have hn := HNE.out
    have hs := H2.out.2.2.2.2.2.1.size
    refine ⟨⟨fun h => ?_, fun h => ?_, lt_of_block H2.out.2.2.1⟩, ⟨fun h => ?_, fun h => ?_, lt_of_block H2.out.2.2.2.1⟩, fun k hk => ?_⟩
    · have := hlt rb (.inl h); omega
    · have := hlt rb (.inr h); omega
    · have := hlt fb (.inl h); omega
    · have := hlt fb (.inr h); omega
    · have := hlt k (.inr hk); omega
  have hlens := HH.out.1.lens
  have HL := Lib.hid hlens
  clear hcb hcbe b2 H1 hlens x1
  go_wp2_with fail
  refine wpIn_wide.1 (range_giftM (n := 3) (gf := 28) (lb := #[.pointer (some ⟨cb, 0, none⟩)]) rfl (enters_of Tryd.func28 (by kernel_rfl) rfl)
    (encs := encF n) (fun _ => rfl) (gift := gift n) (V := VF n sz T L w2.heap.size) [] (M := MF mo cb n sz) (C := FindsF mo cb n sz T L bl dl cbd)
    (fun pre bl' W => bl' = rb :: fb :: bl ∧ Below w2.heap.size w2 W ∧ ∀ j, j < pre.length → ¬ EqJ n n2 T L M j) (SetlIx w2 mo n n2 sz T L M bl dl cbd rb fb) ?_ (setl_fr HX.out.2.2 ⟨HX.out.1.2.2, HX.out.2.1.2.2⟩) ?_ ?_ (bl0 := rb :: fb :: bl) ?_ ?_ vf_gift vf_lt vf_same
    (fronts_iter 2 w2.heap.size mo cb n sz T L bl dl cbd)
    ?a1_s (fun x W0 => W0) ?_ ?assign_s ?body_s ?done_s ?stop_s)
  case assign_s =>
    intro l q W K hK
    have HK := Lib.hid hK
    clear hK
    gi_wp2
    exact HK.out
  · rintro pre bl' X Y ⟨rfl, h1, h2⟩ f
    exact ⟨rfl, ⟨f.os.trans h1.os, f.tape.trans h1.tape, f.output.trans h1.output, Nat.le_trans h1.size f.size, fun k hk => (f.same k (.inl ⟨hk, by simp⟩) (Nat.lt_of_lt_of_le hk h1.size)).trans (h1.block k hk)⟩, h2⟩
  · rintro pre bl' X ⟨rfl, h1, _⟩ k hk
    have hs := h1.size
    rcases List.mem_cons.1 hk with rfl | hk
    · have := HX.out.1.2.2; omega
    · rcases List.mem_cons.1 hk with rfl | hk
      · have := HX.out.2.1.2.2; omega
      · have := H2.out.2.2.2.2.2.2.1.lt k (.inl hk); omega
  · rintro pre bl' X ⟨rfl, h1, _⟩
    exact (H2.out.2.2.2.2.2.2.1.below h1).mf ((h1.block cb (lt_of_block H2.out.2.2.2.2.1)).trans H2.out.2.2.2.2.1)
  · exact ⟨rfl, Below.refl _ _, fun j hj => absurd hj (Nat.not_lt_zero j)⟩
  · intro W hW
    refine ⟨H2.out.2.2.2.2.2.2.1.below hW, (hW.block cb (lt_of_block H2.out.2.2.2.2.1)).trans H2.out.2.2.2.2.1, fun k hk hm => ?_⟩
    have h1 := HX.out.2.2 k hk
    simp only [List.mem_cons] at hm
    rcases hm with h | h | h | h | h
    · omega
    · omega
    · exact HX.out.1.2.1 (by rw [← h]; exact hk)
    · exact HX.out.2.1.2.1 (by rw [← h]; exact hk)
    · exact HH.out.1.dis k hk h
  · intro q W
    exact Below.refl _ _
  case body_s =>
    rintro l pre bl' ⟨k, og, kb⟩ W0 W hB0 hsz hW hbl hgf ⟨rfl, hb, hne⟩ ⟨hV1, hV2, hV3, hV4, hV5⟩
    have hk : k = pre.length := hV1
    have hk2 : k ≤ L.length := hV2
    have hA : AllS W og n sz kb (app T (L.take k)) := hV3
    have hMo := H2.out.2.2.2.2.2.2.1.below hb
    have hlen := app_len (L.take k) T HL.out.1 (fun p hp => (HL.out.2.1 p (List.mem_of_mem_take hp)).2)
    have HE := Lib.hid (equalF_any (c1 := n) (c2 := c2) (hA.lst hlen HL.out.2.2.2.2.2.1) (H2.out.2.2.2.2.2.2.2.below hb) HL.out.2.2.2.1 HH.out.2.2)
    have r1 := (hb.block rb (lt_of_block H2.out.2.2.1)).trans H2.out.2.2.1
    have r2 := (hb.block fb (lt_of_block H2.out.2.2.2.1)).trans H2.out.2.2.2.1
    have c1 := cell_of_one ((hb.block xb (lt_of_block H2.out.1)).trans H2.out.1)
    have c2' := cell_of_one ((hb.block lb (lt_of_block H2.out.2.1)).trans H2.out.2.1)
    have HB := Lib.hid (And.intro hb (And.intro hne (And.intro hk (And.intro hk2 (And.intro hMo (And.intro r1 r2))))))
    clear hb hne hk hk2 hMo hlen hA hV1 hV2 hV3 hV4 hV5 r1 r2 hB0 hsz hW hbl hgf
    gi_wp2
    refine ⟨trivial, (CallsIn.inRound l (callsIn_wide.2 HE.out)).mono ?_⟩
    rintro e w' ⟨rfl, rfl⟩
    clear HE c2'
    by_cases hq : EqJ n n2 T L M k
    · rw [decide_eq_true (show n = n2 ∧ eqN (app T (L.take k)) M n from hq)]
      have HS := Lib.hid (settle_any HB.out.2.2.2.2.1 k HB.out.2.2.2.1)
      have HQ := Lib.hid hq
      clear hq
      gi_wp2
      refine ⟨trivial, (CallsIn.inRound l (callsIn_wide.2 HS.out)).mono ?_⟩
      rintro e W3 ⟨rfl, blF, hM3, t3⟩
      have r1 := (t3.same rb (lt_of_block HB.out.2.2.2.2.2.1) HX.out.1.1).trans HB.out.2.2.2.2.2.1
      have r2 := (t3.same fb (lt_of_block HB.out.2.2.2.2.2.2) HX.out.2.1.1).trans HB.out.2.2.2.2.2.2
      have hne := HB.out.2.1
      rw [← HB.out.2.2.1] at hne
      have HF := Lib.hid (setl_stop (pre := pre ++ [⟨k, og, kb⟩]) (gx := gift n ⟨k, og, kb⟩) HB.out.1 HNE.out.2.2.2.2 HX.out.1 HX.out.2.1 r1 r2 HB.out.2.2.2.1 HQ.out hne hM3 t3)
      have q1 := cell_of_one r1
      have q2 := free_of_one r1
      have o1 := Only.setCell W3 ⟨rb, 0, none⟩ (.int .i64 (k : Int))
      have r2' := (o1.block fb (Ne.symm HNE.out.2.2.2.2)).trans r2
      have q3 := cell_of_one r2'
      have q4 := free_of_one r2'
      clear hM3 t3 r1 r2 hne o1 r2' HS c1
      gi_wp2
      exact HF.out
    · rw [decide_eq_false (show ¬ (n = n2 ∧ eqN (app T (L.take k)) M n) from hq)]
      have HN : Hid (∀ j, j < (pre ++ [(⟨k, og, kb⟩ : Fd)]).length → ¬ EqJ n n2 T L M j) := fun j hj => by
        rw [List.length_append] at hj
        by_cases hjk : j = k
        · rw [hjk]; exact hq
        · exact HB.out.2.1 j (by have := HB.out.2.2.1; simp at hj; omega)
      clear hq c1
      gi_wp2
      exact ⟨rb :: fb :: bl, ⟨rfl, rfl, rfl, Nat.le_refl _, fun _ _ _ => rfl, fun z hz => .inl (List.mem_append_right _ hz)⟩, rfl, HB.out.1, HN.out⟩
  case done_s =>
    rintro D xs bl' W hD hDl hDb hS ⟨rfl, hb, hne⟩ hdef
    have r1 := (hb.block rb (lt_of_block H2.out.2.2.1)).trans H2.out.2.2.1
    have r2 := (hb.block fb (lt_of_block H2.out.2.2.2.1)).trans H2.out.2.2.2.1
    have q1 := cell_of_one r1
    have q2 := free_of_one r1
    have o1 := Only.setCell W ⟨rb, 0, none⟩ (.int .i64 0)
    have r2' := (o1.block fb (Ne.symm HNE.out.2.2.2.2)).trans r2
    have q3 := cell_of_one r2'
    have q4 := free_of_one r2'
    have o2 := Only.setCell (W.setCell ⟨rb, 0, none⟩ (.int .i64 0)) ⟨fb, 0, none⟩ (.bool false)
    have HF : Hid (((W.setCell ⟨rb, 0, none⟩ (.int .i64 0)).setCell ⟨fb, 0, none⟩ (.bool false)).heap[rb]? = some (.cells #[.int .i64 0] 3 (0, 0)) ∧ ((W.setCell ⟨rb, 0, none⟩ (.int .i64 0)).setCell ⟨fb, 0, none⟩ (.bool false)).heap[fb]? = some (.cells #[.bool false] 4 (0, 0)) ∧ ((W.setCell ⟨rb, 0, none⟩ (.int .i64 0)).setCell ⟨fb, 0, none⟩ (.bool false)).heap[D]? = some (.deferred (some [])) ∧ D ≠ rb ∧ D ≠ fb ∧ w.heap.size ≤ D ∧ Below w.heap.size w ((W.setCell ⟨rb, 0, none⟩ (.int .i64 0)).setCell ⟨fb, 0, none⟩ (.bool false)) ∧ ∀ j, j ≤ L.length → ¬ EqJ n n2 T L M j) := by
      have d1 : D ≠ rb := fun e => hDb (by simp [e])
      have d2 : D ≠ fb := fun e => hDb (by simp [e])
      have hn := HNE.out
      have hs := H2.out.2.2.2.2.2.1.size
      refine ⟨(o2.block rb hn.2.2.2.2).trans (heap_setCell_same W rb 0 _ _ _ r1), heap_setCell_same _ fb 0 _ _ _ r2', (o2.block D d2).trans ((o1.block D d1).trans hdef), d1, d2, by omega, ?_, fun j hj => hne j (by rw [hS]; omega)⟩
      exact ((H2.out.2.2.2.2.2.1.trans (hb.mono hs)).trans (o1.below hn.2.2.1)).trans (o2.below hn.2.2.2.1)
    clear hb hne hdef hD hDl hDb hS r1 r2 o1 r2' o2
    go_wp2_with fail
    refine marks_post [D] _ (by simp) (fun X hX => ?_) (fun W' e1 e2 e3 e4 e5 => ?_)
    · rw [List.mem_singleton.1 hX]
      exact HF.out.2.2.1
    · have f5 : ∀ k, k ≠ D → W'.heap[k]? = _ := fun k hk => e5 k (by simpa using hk)
      obtain ⟨f1, f2, _, d1, d2, hD, hb, hne⟩ := HF.out
      refine ⟨_, res_two rfl rfl (cell_of_one ((f5 rb (Ne.symm d1)).trans f1)) (cell_of_one ((f5 fb (Ne.symm d2)).trans f2)) ⟨_, rfl⟩ ⟨_, rfl⟩, .inr ⟨hne, rfl, hb.trans ⟨e1, e2, e3, by rw [e4]; exact Nat.le_refl _, fun k hk => f5 k (by omega)⟩⟩⟩
  case stop_s =>
    rintro D cde pre bl' W hD hDl hDb hS ⟨rfl, k, blF, h1, h2, h3, rfl, h4, h5, h6, h7⟩ hdef
    have HF : Hid (k ≤ L.length ∧ EqJ n n2 T L M k ∧ (∀ j, j < k → ¬ EqJ n n2 T L M j) ∧ MoAt W mo n sz (app T (L.take k)) [] blF dl cbd ∧ W.heap[rb]? = some (.cells #[.int .i64 (k : Int)] 3 (0, 0)) ∧ W.heap[fb]? = some (.cells #[.bool true] 4 (0, 0)) ∧ Tn (rb :: fb :: bl) w2 W (rb :: fb :: blF) ∧ D ∉ rb :: fb :: blF ∧ w2.heap.size ≤ D ∧ W.heap[D]? = some (.deferred (some []))) := ⟨h1, h2, h3, h4, h5, h6, h7, hDb, hD, hdef⟩
    clear h1 h2 h3 h4 h5 h6 h7 hD hDl hDb hS hdef
    gi_wp2
    refine marks_post [D] _ (by simp) (fun X hX => ?_) (fun W' e1 e2 e3 e4 e5 => ?_)
    · rw [List.mem_singleton.1 hX]
      exact HF.out.2.2.2.2.2.2.2.2.2
    · have f5 : ∀ z, z ≠ D → W'.heap[z]? = W.heap[z]? := fun z hz => e5 z (by simpa using hz)
      obtain ⟨h1, h2, h3, h4, h5, h6, h7, hDb, hD, hdef⟩ := HF.out
      simp only [List.mem_cons, not_or] at hDb
      have hs := H2.out.2.2.2.2.2.1.size
      have hn := HNE.out
      refine ⟨_, res_two rfl rfl (cell_of_one ((f5 rb (Ne.symm hDb.1)).trans h5)) (cell_of_one ((f5 fb (Ne.symm hDb.2.1)).trans h6)) ⟨_, rfl⟩ ⟨_, rfl⟩, .inl ⟨k, h1, h2, h3, rfl, blF, ?_, ?_⟩⟩
      · refine h4.keep (by rw [e4]; exact Nat.le_refl _) fun z hz => f5 z fun e => ?_
        rcases hz with hz | hz
        · exact hDb.2.2 (by rw [← e]; exact hz)
        · have := HX.out.2.2 z hz; omega
      · have hwo : Tn bl w W blF := by
          have b := H2.out.2.2.2.2.2.1
          refine ⟨h7.os.trans b.os, h7.tape.trans b.tape, h7.output.trans b.output, Nat.le_trans b.size h7.size, fun z hz hzn => ?_, fun z hz => ?_⟩
          · refine (h7.same z (by omega) fun hm => ?_).trans (b.block z hz)
            rcases List.mem_cons.1 hm with h | hm
            · omega
            · rcases List.mem_cons.1 hm with h | hm
              · omega
              · exact hzn hm
          · rcases h7.new z (by simp [hz]) with hm | hm
            · rcases List.mem_cons.1 hm with h | hm
              · exact .inr (by omega)
              · rcases List.mem_cons.1 hm with h | hm
                · exact .inr (by omega)
                · exact .inl hm
            · exact .inr (by omega)
        exact ⟨e1.trans hwo.os, e2.trans hwo.tape, e3.trans hwo.output, by rw [e4]; exact hwo.size, fun z hz hzn => (f5 z (by omega)).trans (hwo.same z hz hzn), hwo.new⟩
end Go.Proofs.YtbngkmlipmhgdaaDoor.Mo
/- Lists of rows, held against one another by the document; two models side by side. By the verifier of shale. -/
namespace Go.Proofs.YtbngkmlipmhgdaaDoor.Mo
open Go Go.RowKit Bin
set_option linter.unusedVariables false
set_option linter.unusedSimpArgs false
set_option maxHeartbeats 2000000 in
theorem sameLists_any {w : World} {a1 a2 : Option Addr} {n1 n2 c1 c2 : Nat} {M1 M2 : Nat → Bs} (h1 : LstAt w a1 n1 M1) (h2 : LstAt w a2 n2 M2) (hn1 : n1 ≤ 1048576) (hn2 : n2 ≤ maxLen) :
    Calls Tryd.prog 16 #[.slice a1 n1 c1, .slice a2 n2 c2] w fun e w' => e = .returned (.bool (decide (n1 = n2 ∧ eqN M1 M2 n1))) ∧ Below w.heap.size w w' := by
  unfold maxLen at hn2
  by_cases hl : n1 = n2
  · subst hl
    have t : ((n1 : Int) == (n1 : Int)) = true := by simp
    have HH := Lib.hid (And.intro h1 h2)
    have HB0 : Hid (Below w.heap.size w w ∧ eqN M1 M2 0) := ⟨Below.refl _ _, fun j hj => absurd hj (Nat.not_lt_zero _)⟩
    clear h1 h2 hn2
    go_enter Tryd.func16, Tryd.ntmps16
    go_wp2_with fail
    go_loopg [5] n1 (fun gh s5 wx => ∃ i : Nat, gh = n1 - i ∧ i ≤ n1 ∧ s5 = .int .i64 (i : Int) ∧ Hid (Below w.heap.size w wx ∧ eqN M1 M2 i))
    case atStart => exact ⟨0, rfl, Nat.zero_le _, rfl, HB0⟩
    case round =>
      clear HB0
      obtain ⟨i, hg, hin, rfl, HJ⟩ := hrel
      have HI := Lib.hid hg
      clear hg
      by_cases hlt : i < n1
      · have x1 : (i : Int) < (n1 : Int) := by omega
        have x0 : (0 : Int) ≤ (i : Int) := by omega
        have x2 : (i : Int) ≤ 1048576 := by omega
        obtain ⟨g1, o1, s1, rfl, hg1, d1, e1⟩ := HH.out.1 i hlt
        obtain ⟨g2, o2, s2, rfl, hg2, d2, e2⟩ := HH.out.2 i hlt
        replace d1 := (HJ.out.1.cell (p := ⟨g1, o1 + i, none⟩) hg1).trans d1
        replace d2 := (HJ.out.1.cell (p := ⟨g2, o2 + i, none⟩) hg2).trans d2
        have HE : Hid (∀ nn, Calls Tryd.prog 14 #[sdV s1, sdV s2] (wr.drewN nn) fun e w' => e = .returned (.bool (decide (M1 i = M2 i))) ∧ wr.drewN nn = w') := fun nn =>
          same_any (M1 i) (M2 i) _ _ _ (Dat.str (s := s1) ((e1.below HJ.out.1).below ((Drawn.mk wr nn).below _))) (Dat.str (s := s2) ((e2.below HJ.out.1).below ((Drawn.mk wr nn).below _)))
        have HL := Lib.hid hlt
        by_cases he : M1 i = M2 i
        · rw [decide_eq_true he] at HE
          have HN : Hid (eqN M1 M2 (i + 1)) := fun j hj => by
            by_cases hji : j = i
            · rw [hji]; exact he
            · exact HJ.out.2 j (by omega)
          clear he hlt hin e1 e2 hg1 hg2
          go_wp2_with fail
          go_quiet (first | (go_at_call 14; exact quiet_same (HE.out _)) | fail)
          have HNx := Lib.hid (And.intro (HJ.out.1.trans (((Drawn.mk wr nq).below wr.heap.size).mono HJ.out.1.size)) HN.out)
          generalize wr.drewN nq = w7 at HNx ⊢
          clear HE d1 d2 HJ HN
          go_wp2_with fail
          go_roundg (n1 - (i + 1))
          case measure => have := HI.out; have := HL.out; omega
          case rel => exact ⟨i + 1, rfl, HL.out, by go_num, HNx⟩
        · rw [decide_eq_false he] at HE
          have HN : Hid (decide (n1 = n1 ∧ eqN M1 M2 n1) = false) := decide_eq_false fun h => he (h.2 i hlt)
          clear he hlt hin e1 e2 hg1 hg2
          go_wp2_with fail
          go_quiet (first | (go_at_call 14; exact quiet_same (HE.out _)) | fail)
          have HNx := Lib.hid (HJ.out.1.trans (((Drawn.mk wr nq).below wr.heap.size).mono HJ.out.1.size))
          generalize wr.drewN nq = w7 at HNx ⊢
          clear HE d1 d2 HJ
          go_wp2_with fail
          go_ret
          rw [HN.out]
          exact ⟨rfl, HNx.out⟩
      · obtain rfl : i = n1 := by omega
        have x1 : ¬ (i : Int) < (i : Int) := by omega
        have HN : Hid (decide (eqN M1 M2 i) = true) := decide_eq_true HJ.out.2
        have HB := Lib.hid HJ.out.1
        clear HJ hin hlt
        go_wp2_with fail
        go_ret
        rw [HN.out]
        exact ⟨rfl, HB.out⟩
  · have t : ((n1 : Int) == (n2 : Int)) = false := by rw [beq_eq_false_iff_ne]; omega
    have t' : ¬ ((n1 : Int) = (n2 : Int)) := by omega
    have t2 : (n1 == n2) = false := by rw [beq_eq_false_iff_ne]; exact hl
    have HN : Hid (decide (n1 = n2 ∧ eqN M1 M2 n1) = false) := decide_eq_false fun h => hl h.1
    clear hl h1 h2
    go_enter Tryd.func16, Tryd.ntmps16
    go_wp2_with fail
    go_ret
    rw [HN.out]
    exact ⟨rfl, Below.refl _ _⟩
/-- two models of the call's own, apart from one another. -/
structure Two (w wx : World) (m1 m2 n sz : Nat) (T1 T2 : Nat → Bs) (L1 L2 : List (Nat × Bs)) (b1 d1 b2 d2 : List Nat) (c1 c2 : Nat) : Prop where
  b : Below w.heap.size w wx
  x : MoAt wx m1 n sz T1 L1 b1 d1 c1
  y : MoAt wx m2 n sz T2 L2 b2 d2 c2
  g1 : ∀ k ∈ b1, w.heap.size ≤ k
  g2 : ∀ k ∈ b2, w.heap.size ≤ k
  s1 : ∀ k ∈ b1, k ∉ b2 ∧ k ∉ d2
  s2 : ∀ k ∈ b2, k ∉ b1 ∧ k ∉ d1
section
variable {w wx wy : World} {m1 m2 n sz : Nat} {T1 T2 T' : Nat → Bs} {L1 L2 L' : List (Nat × Bs)} {b1 d1 b2 d2 b' d' : List Nat} {c1 c2 c' : Nat}
theorem Two.below (h : Two w wx m1 m2 n sz T1 T2 L1 L2 b1 d1 b2 d2 c1 c2) (b : Below wx.heap.size wx wy) : Two w wy m1 m2 n sz T1 T2 L1 L2 b1 d1 b2 d2 c1 c2 :=
  ⟨h.b.trans (b.mono h.b.size), h.x.below b, h.y.below b, h.g1, h.g2, h.s1, h.s2⟩
theorem Two.turn (h : Two w wx m1 m2 n sz T1 T2 L1 L2 b1 d1 b2 d2 c1 c2) (m : MoAt wy m1 n sz T' L' b' d' c') (t : Tn b1 wx wy b') (hd : ∀ k ∈ d', k ∈ d1 ∨ wx.heap.size ≤ k) : Two w wy m1 m2 n sz T' T2 L' L2 b' d' b2 d2 c' c2 := by
  have hlt := h.y.lt
  have hs := h.b.size
  refine ⟨h.b.trans ⟨t.os, t.tape, t.output, t.size, fun k hk => t.same k (by omega) fun hm => ?_⟩, m, h.y.tn t fun k hk hm => ?_, fun k hk => ?_, h.g2, fun k hk => ?_, fun k hk => ⟨fun hm => ?_, fun hm => ?_⟩⟩
  · have := h.g1 k hm; omega
  · rcases hk with hk | hk
    · exact (h.s1 k hm).1 hk
    · exact (h.s1 k hm).2 hk
  · rcases t.new k hk with hm | hm
    · exact h.g1 k hm
    · omega
  · rcases t.new k hk with hm | hm
    · exact h.s1 k hm
    · exact ⟨fun h2 => by have := hlt k (.inl h2); omega, fun h2 => by have := hlt k (.inr h2); omega⟩
  · rcases t.new k hm with hm | hm
    · exact (h.s2 k hk).1 hm
    · have := hlt k (.inl hk); omega
  · rcases hd k hm with hm | hm
    · exact (h.s2 k hk).2 hm
    · have := hlt k (.inl hk); omega
end
end Go.Proofs.YtbngkmlipmhgdaaDoor.Mo
/- The document's copy of a list of rows. By the verifier of shale. -/
namespace Go.Proofs.YtbngkmlipmhgdaaDoor.Mo
open Go Go.RowKit Bin
set_option linter.unusedVariables false
set_option linter.unusedSimpArgs false
theorem infoL : ∃ i, Tryd.prog.info? 31 = some i ∧ i.zero = some (.slice none 0 0) ∧ i.size = 1 ∧ i.bytes = 24 :=
  info_parts (show (Tryd.prog.info? 31).map (fun i => (i.zero, i.size, i.bytes)) = some (some (.slice none 0 0), 1, 24) by kernel_rfl)
set_option maxRecDepth 100000 in
theorem madeL0 (w : World) (n : Nat) (hn : n ≤ 1048576) :
    (Instr.makeSlice 36 (.int .i64 0) (.int .i64 (n : Int))).run Tryd.prog w = .ok (.slice (some ⟨w.heap.size, 0, none⟩) 0 n) (w.alloc (.cells (outV (fun _ => 0) 0 0 n).toArray 31 (0, 0))) := by
  obtain ⟨i0, hi, hz0, hz1, hz2⟩ := infoL
  rw [run_make (P := Tryd.prog) w 36 31 i0 (.slice none 0 0) Tryd.underlying36 hi hz0 .i64 .i64 0 (n : Int) (by omega) (by omega) (by rw [hz2]; omega) (by omega)]
  congr 2
  unfold madeCells
  rw [hz1]
  congr 1
  apply Array.ext
  · simp [outV]
  · intro i h1 h2
    simp [Value.cells, outV, Nat.mod_one]
theorem Dat.arg {w : World} {s : Sd} {l : Bs} (h : Dat w s l) : Arg8 w (sdV s) l := by
  refine ⟨?_, by rw [← h.hlen]; exact Nat.le_trans h.hcap h.hmost⟩
  rcases h.hrow with h0 | ⟨bb, off, e, hr, hb⟩
  · have h1 := h.hlen
    rw [h0] at h1
    have hl : l = [] := List.eq_nil_of_length_eq_zero h1.symm
    subst hl
    exact .inl ⟨rfl, s.addr, s.c, by show Value.slice s.addr s.n s.c = _; rw [h0]⟩
  · show IsBytes w (.slice s.addr s.n s.c) l
    rw [e]
    exact .mk h.hlen hr hb
/-- the document's copy of bytes. -/
theorem bytes_any {w : World} {s : Sd} {l : Bs} (h : Dat w s l) (hm : s.n ≤ 1000000) :
    Calls Tryd.prog 10 #[sdV s] w fun e w' => e = .returned (.slice (some ⟨w.heap.size, 0, none⟩) s.n s.n) ∧ Blk8 w' w.heap.size l ∧ Below w.heap.size w w' :=
  copy_of h.arg (fun e => h.hnil e) hm
theorem orow_keep {w w' : World} {b size n : Nat} {e : TypeId} {v : Value} {xs : List Value} (h : w.ownsRow b e size v n xs) (o : ∀ g, v.ownBlock = some g → w'.heap[g]? = w.heap[g]?) : w'.ownsRow b e size v n xs := by
  refine ⟨h.1, ?_⟩
  rcases h.2 with h0 | ⟨g', cap', cur, hv, hbg, hh, r⟩
  · exact Or.inl h0
  · exact Or.inr ⟨g', cap', cur, hv, hbg, by rw [o g' (by rw [hv]; rfl)]; exact hh, r⟩
/-- a block that may be written. -/
def Fz (w : World) (k : Nat) : Prop := ∃ cs t, w.heap[k]? = some (.cells cs t (0, 0))
theorem Fz.of {w w' : World} {k : Nat} (h : Fz w k) (o : w'.heap[k]? = w.heap[k]?) : Fz w' k := by
  obtain ⟨cs, t, h⟩ := h
  exact ⟨cs, t, o.trans h⟩
theorem Fz.blk {w : World} {k : Nat} {l : Bs} (h : Blk8 w k l) : Fz w k := ⟨_, _, h⟩
/-- the list so far. -/
structure LsI (w : World) (v : Value) (S : Nat → Sd) (M : Nat → Bs) (i : Nat) (wx : World) : Prop where
  row : wx.ownsRow w.heap.size 31 1 v i ((List.range i).map fun j => sdV (S j))
  dat : ∀ j, j < i → Dat wx (S j) (M j) ∧ ∃ k, (S j).q = some (k, 0) ∧ w.heap.size ≤ k ∧ k < wx.heap.size ∧ v.ownBlock ≠ some k ∧ Fz wx k
  b : Below w.heap.size w wx
theorem LsI.below {w wx w5 : World} {v : Value} {S : Nat → Sd} {M : Nat → Bs} {i : Nat} (h : LsI w v S M i wx) (b : Below wx.heap.size wx w5) : LsI w v S M i w5 :=
  ⟨orow_keep h.row fun g hg => b.block g (h.row.lt g hg).2, fun j hj => ⟨(h.dat j hj).1.below b, by obtain ⟨_, k, h1, h2, h3, h4⟩ := h.dat j hj; exact ⟨k, h1, h2, Nat.lt_of_lt_of_le h3 b.size, h4.1, h4.2.of (b.block k h3)⟩⟩, h.b.trans (b.mono h.b.size)⟩
theorem LsI.next {w wr w5 wa w9 : World} {v : Value} {S : Nat → Sd} {M : Nat → Bs} {i g cap m : Nat} (h : LsI w v S M i wr) (hB : Blk8 w5 wr.heap.size (M i)) (hm : (M i).length = m) (hm2 : m ≤ 1000000) (b5 : Below wr.heap.size wr w5) (ba : Below w5.heap.size w5 wa)
    (hown : w9.ownsRow w.heap.size 31 1 (.slice (some ⟨g, 0, none⟩) (i + 1) cap) (i + 1) (((List.range i).map fun j => sdV (S j)) ++ [.slice (some ⟨wr.heap.size, 0, none⟩) m m])) (hg : wa.grownBy w9 v.ownBlock) (hor : v.ownBlock = some g ∨ g = wa.heap.size) :
    LsI w (.slice (some ⟨g, 0, none⟩) (i + 1) cap) (fun j => if j = i then ⟨some (wr.heap.size, 0), m, m⟩ else S j) M (i + 1) w9 := by
  have hwr := h.b.size
  have h5 := b5.size
  have ha := ba.size
  have hBl := lt_of_block hB
  have vlt : ∀ k, v.ownBlock = some k → k < wr.heap.size := fun k hk => (h.row.lt k hk).2
  have vn : v.ownBlock ≠ some wr.heap.size := fun e => Nat.lt_irrefl _ (vlt _ e)
  have keep : ∀ k, k < w5.heap.size → v.ownBlock ≠ some k → w9.heap[k]? = w5.heap[k]? := fun k hk hv => (hg.block k (Nat.lt_of_lt_of_le hk ha) (Ne.symm hv)).trans (ba.block k hk)
  have hs9 : wr.heap.size ≤ w9.heap.size := Nat.le_trans (Nat.le_trans h5 ha) hg.size
  refine ⟨?_, fun j hj => ?_, ?_⟩
  · have e : ((List.range (i + 1)).map fun j => sdV (if j = i then ⟨some (wr.heap.size, 0), m, m⟩ else S j)) = ((List.range i).map fun j => sdV (S j)) ++ [.slice (some ⟨wr.heap.size, 0, none⟩) m m] := by
      rw [List.range_succ, List.map_append]
      congr 1
      · apply List.map_congr_left
        intro j hj
        have := List.mem_range.1 hj
        rw [if_neg (by omega)]
      · simp [Sd.addr]
    rw [e]
    exact hown
  · by_cases hj2 : j = i
    · subst hj2
      simp only [if_pos]
      refine ⟨⟨hm.symm, Nat.le_refl _, by show m ≤ maxLen; unfold maxLen; omega, (fun e => by cases e), .inr ⟨wr.heap.size, 0, rfl, ?_, ?_⟩⟩, wr.heap.size, rfl, hwr, ?_, ?_, Fz.blk (l := M j) ((keep _ hBl vn).trans hB)⟩
      · have hB9 : Blk8 w9 wr.heap.size (M j) := (keep _ hBl vn).trans hB
        exact hB9.row
      · have := hg.size; omega
      · have := hg.size; omega
      · intro e
        have e' : g = wr.heap.size := Option.some.inj e
        rcases hor with h1 | h1
        · rw [e'] at h1; exact vn h1
        · omega
    · rw [if_neg hj2]
      obtain ⟨d, k, hk, hkw, hkl, hkv, hkz⟩ := h.dat j (by omega)
      refine ⟨d.same hs9 fun p hp => ?_, k, hk, hkw, by omega, ?_, hkz.of ((keep k (by omega) hkv).trans (b5.block k hkl))⟩
      · rw [hk] at hp
        cases hp
        exact (keep k (by omega) hkv).trans (b5.block k hkl)
      · intro e
        have e' : g = k := Option.some.inj e
        rcases hor with h1 | h1
        · rw [e'] at h1; exact hkv h1
        · omega
  · refine h.b.trans ⟨hg.os.trans (ba.os.trans b5.os), hg.tape.trans (ba.tape.trans b5.tape), hg.output.trans (ba.output.trans b5.output), hs9, fun k hk => ?_⟩
    refine (keep k (by omega) fun e => ?_).trans (b5.block k (by omega))
    have := (h.row.lt k e).1
    omega
/-- a list of rows whose blocks are all In, its outer row a whole block. -/
structure FL (w : World) (In : Nat → Prop) (g n : Nat) (S : Nat → Sd) (M : Nat → Bs) : Prop where
  out : ∃ cur t, w.heap[g]? = some (.cells cur t (0, 0)) ∧ ∀ j, j < n → cur[j]? = some (sdV (S j))
  gI : In g
  dat : ∀ j, j < n → Dat w (S j) (M j) ∧ ∃ k, (S j).q = some (k, 0) ∧ In k ∧ k < w.heap.size ∧ k ≠ g ∧ Fz w k
theorem FL.cell {w : World} {In : Nat → Prop} {g n : Nat} {S : Nat → Sd} {M : Nat → Bs} (h : FL w In g n S M) {j : Nat} (hj : j < n) : w.cell? ⟨g, j, none⟩ = some (sdV (S j)) ∧ w.frozen? ⟨g, j, none⟩ = false := by
  obtain ⟨cur, t, h1, h2⟩ := h.out
  refine ⟨?_, ?_⟩
  · rw [cell_of_row w g j cur t (0, 0) h1]; exact h2 j hj
  · unfold World.frozen?; simp only; rw [h1]; rfl
theorem FL.lt {w : World} {In : Nat → Prop} {g n : Nat} {S : Nat → Sd} {M : Nat → Bs} (h : FL w In g n S M) : g < w.heap.size := by
  obtain ⟨cur, t, h1, _⟩ := h.out
  exact lt_of_block h1
theorem FL.same {w w' : World} {In : Nat → Prop} {g n : Nat} {S : Nat → Sd} {M : Nat → Bs} (h : FL w In g n S M) (hs : w.heap.size ≤ w'.heap.size) (o : ∀ k, In k → k < w.heap.size → w'.heap[k]? = w.heap[k]?) : FL w' In g n S M := by
  obtain ⟨cur, t, h1, h2⟩ := h.out
  refine ⟨⟨cur, t, (o g h.gI (lt_of_block h1)).trans h1, h2⟩, h.gI, fun j hj => ?_⟩
  obtain ⟨d, k, e1, e2, e3, e4⟩ := h.dat j hj
  exact ⟨d.same hs fun p hp => by rw [e1] at hp; cases hp; exact o k e2 e3, k, e1, e2, by omega, e4.1, e4.2.of (o k e2 e3)⟩
theorem FL.below {w w' : World} {In : Nat → Prop} {g n : Nat} {S : Nat → Sd} {M : Nat → Bs} (h : FL w In g n S M) (b : Below w.heap.size w w') : FL w' In g n S M := h.same b.size fun k _ hk => b.block k hk
theorem FL.mono {w : World} {In In' : Nat → Prop} {g n : Nat} {S : Nat → Sd} {M : Nat → Bs} (h : FL w In g n S M) (o : ∀ k, In k → k < w.heap.size → In' k) : FL w In' g n S M :=
  ⟨h.out, o g h.gI h.lt, fun j hj => by obtain ⟨d, k, e1, e2, e3, e4⟩ := h.dat j hj; exact ⟨d, k, e1, o k e2 e3, e3, e4⟩⟩
theorem FL.lst {w : World} {In : Nat → Prop} {g n : Nat} {S : Nat → Sd} {M : Nat → Bs} (h : FL w In g n S M) : LstAt w (some ⟨g, 0, none⟩) n M := fun i hi =>
  ⟨g, 0, S i, rfl, h.lt, by rw [Nat.zero_add]; exact (h.cell hi).1, (h.dat i hi).1⟩
/-- one of its rows is another one. -/
theorem FL.put {w w' : World} {In : Nat → Prop} {g n : Nat} {S : Nat → Sd} {M : Nat → Bs} (h : FL w In g n S M) {j k : Nat} {c : Nat} {m : Nat} {l : Bs} (hj : j < n) (b : Below w.heap.size w w') (d : Dat w' ⟨some (k, 0), m, c⟩ l) (hI : In k) (hk : w.heap.size ≤ k) (hk2 : k < w'.heap.size) (hz : Fz w' k) :
    FL (w'.setCell ⟨g, j, none⟩ (.slice (some ⟨k, 0, none⟩) m c)) In g n (fun i => if i = j then ⟨some (k, 0), m, c⟩ else S i) (upT M j l) := by
  have hgl := h.lt
  have hB := h.gI
  obtain ⟨cur, t, h1, h2⟩ := h.out
  have h1' := (b.block g hgl).trans h1
  have o := Only.setCell w' ⟨g, j, none⟩ (.slice (some ⟨k, 0, none⟩) m c)
  refine ⟨⟨_, t, heap_setCell_same w' g j _ _ _ h1', fun i hi => ?_⟩, hB, fun i hi => ?_⟩
  · have hsz : i < cur.size := (Array.getElem?_eq_some_iff.1 (h2 i hi)).1
    by_cases e : i = j
    · subst e
      rw [if_pos rfl, Array.getElem?_setIfInBounds_self_of_lt hsz]
      rfl
    · rw [if_neg e, Array.getElem?_setIfInBounds_ne (Ne.symm e)]
      exact h2 i hi
  · unfold upT
    by_cases e : i = j
    · rw [if_pos e, if_pos e]
      refine ⟨Dat.same (s := ⟨some (k, 0), m, c⟩) d (by rw [o.size]; exact Nat.le_refl _) fun p hp => ?_, k, rfl, hI, by rw [o.size]; exact hk2, by omega, hz.of (o.block k (by show k ≠ g; omega))⟩
      cases hp
      exact o.block k (by show k ≠ g; omega)
    · rw [if_neg e, if_neg e]
      obtain ⟨d', k', e1, e2, e3, e4⟩ := h.dat i hi
      refine ⟨Dat.same (s := S i) (d'.below b) (by rw [o.size]; exact Nat.le_refl _) fun p hp => ?_, k', e1, e2, by rw [o.size]; have := b.size; omega, e4.1, e4.2.of ((o.block k' e4.1).trans (b.block k' e3))⟩
      rw [e1] at hp
      cases hp
      exact o.block k' e4.1
set_option maxRecDepth 100000 in
set_option maxHeartbeats 2000000 in
theorem lists_any {w : World} {a : Option Addr} {n c : Nat} {M : Nat → Bs} (h : LstAt w a n M) (h0 : 1 ≤ n) (hn : n ≤ 1048576) (hl : ∀ j, j < n → (M j).length ≤ 1000000) :
    Calls Tryd.prog 22 #[.slice a n c] w fun e w' => ∃ g cap, e = .returned (.slice (some ⟨g, 0, none⟩) n cap) ∧ n ≤ cap ∧ cap ≤ maxLen ∧ (∃ S, FL w' (fun k => w.heap.size ≤ k) g n S M) ∧ Below w.heap.size w w' := by
  obtain ⟨i0, hi0, hz0, hz1, hz2⟩ := infoL
  have hmk := madeL0 w n hn
  have b0 : Below w.heap.size w (w.alloc (.cells (outV (fun _ => 0) 0 0 n).toArray 31 (0, 0))) := (Below.refl _ _).alloc (Nat.le_refl _) _
  have HI0 : Hid (LsI w (.slice (some ⟨w.heap.size, 0, none⟩) 0 n) (fun _ => zSd) M 0 (w.alloc (.cells (outV (fun _ => 0) 0 0 n).toArray 31 (0, 0)))) := ⟨World.ownsRow_made w _ n (Nat.le_refl _) (by unfold maxLen; omega) (by simp [outV]), fun j hj => absurd hj (Nat.not_lt_zero j), b0⟩
  obtain ⟨w1, hw1⟩ : ∃ w1, w1 = w.alloc (.cells (outV (fun _ => 0) 0 0 n).toArray 31 (0, 0)) := ⟨_, rfl⟩
  rw [← hw1] at hmk HI0
  have HH := Lib.hid (And.intro h (And.intro h0 (And.intro hn hl)))
  have x8 : (n : Int) ≤ 1048576 := by omega
  clear hw1 b0 h h0 hn hl
  go_enter Tryd.func22, Tryd.ntmps22
  go_wp2_with fail
  clear hmk
  go_loopg [3, 4] n (fun gh s3 s4 wx => ∃ (i : Nat) (v : Value), gh = n - i ∧ i ≤ n ∧ v = s3 ∧ s4 = .int .i64 (i : Int) ∧ ∃ S, Hid (LsI w v S M i wx))
  case atStart => exact ⟨0, _, rfl, Nat.zero_le _, rfl, rfl, _, HI0⟩
  case round =>
    clear HI0
    obtain ⟨i, v, hg, hin, rfl, rfl, S, HX⟩ := hrel
    have HI := Lib.hid hg
    clear hg
    by_cases hlt : i < n
    · have x1 : (i : Int) < (n : Int) := by omega
      have x0 : (0 : Int) ≤ (i : Int) := by omega
      obtain ⟨ga, oa, s, rfl, hga, c0, d0⟩ := (HH.out.1.below HX.out.b) i hlt
      obtain ⟨m, hm⟩ : ∃ m, m = s.n := ⟨_, rfl⟩
      have hm6 : s.n ≤ 1000000 := by rw [d0.hlen]; exact HH.out.2.2.2 i hlt
      have HC := Lib.hid (bytes_any d0 hm6)
      have HD := Lib.hid (And.intro hlt (And.intro d0.hlen hm6))
      clear hlt hin hm6 d0 hga hm
      go_wp2_with fail
      refine HC.out.mono ?_
      rintro e w5 ⟨rfl, hB5, b5⟩
      obtain ⟨gn, hgn⟩ : ∃ gn, gn = wr.heap.size := ⟨_, rfl⟩
      have HB5 := Lib.hid (And.intro hB5 (And.intro b5 hgn))
      have ba : Below w5.heap.size w5 (w5.alloc (.cells #[.slice (some ⟨gn, 0, none⟩) s.n s.n] 31 (0, 0))) := (Below.refl _ _).alloc (Nat.le_refl _) _
      have HRo := Lib.hid ((HX.out.below b5).below ba).row
      have HNw : Hid (∀ j u, [Value.slice (some ⟨gn, 0, none⟩) s.n s.n][j]? = some u → (w5.alloc (.cells #[.slice (some ⟨gn, 0, none⟩) s.n s.n] 31 (0, 0))).cell? ((⟨w5.heap.size, 0, none⟩ : Addr).add j) = some u) := World.news_of_block (cs := #[.slice (some ⟨gn, 0, none⟩) s.n s.n]) (fr := (0, 0)) (t := 31) (heap_alloc_new w5 _)
      have HOne : Hid (∀ u ∈ [Value.slice (some ⟨gn, 0, none⟩) s.n s.n], u.oneCell' = true) := fun u hu => by rw [List.mem_singleton.1 hu]; rfl
      have HBs : Hid (w.heap.size ≤ (w5.alloc (.cells #[.slice (some ⟨gn, 0, none⟩) s.n s.n] 31 (0, 0))).heap.size) := by
        show _ ≤ _
        rw [World.size_alloc]
        have := HX.out.b.size; have := b5.size; omega
      rw [← hgn]
      clear c0 hB5 b5 hgn ba HC
      go_wp2_with (at_builtin; refine wpList_append_lies _ rfl _ _ 36 rfl w.heap.size 31 i0 (.slice none 0 0) 1 24 Tryd.underlying36 hi0 hz0 hz1 hz2 rfl (by decide) v i _ rfl HRo.out ⟨w5.heap.size, 0, none⟩ 1 1 [.slice (some ⟨gn, 0, none⟩) s.n s.n] rfl rfl HNw.out HOne.out (by decide) (by unfold maxLen; omega) (by omega) HBs.out (w5.heap.size + 1) (by simp) ?_; intro g1 cap1 w9 hown9 hg9 hor9 hlt9)
      have HN : Hid (∃ S', LsI w (.slice (some ⟨g1, 0, none⟩) (i + 1) cap1) S' M (i + 1) w9) := by
        obtain ⟨hB5, b5, rfl⟩ := HB5.out
        exact ⟨_, HX.out.next hB5 (m := s.n) HD.out.2.1.symm HD.out.2.2 b5 ((Below.refl _ _).alloc (Nat.le_refl _) (.cells #[.slice (some ⟨wr.heap.size, 0, none⟩) s.n s.n] 31 (0, 0))) hown9 hg9 (by
          rcases hor9 with h | h
          · exact .inl h
          · exact .inr (by rw [h, World.size_alloc]))⟩
      clear hown9 hg9 hor9 hlt9 HRo HNw HOne HBs HB5
      go_wp2_with fail
      go_roundg (n - (i + 1))
      case measure => have := HI.out; have := HD.out.1; omega
      case rel =>
        obtain ⟨S', h⟩ := HN.out
        exact ⟨i + 1, _, rfl, HD.out.1, rfl, by go_num, S', h⟩
    · obtain rfl : i = n := by omega
      have x1 : ¬ (i : Int) < (i : Int) := by omega
      obtain ⟨g, cap, rfl, hcap, hcm, FLn⟩ : ∃ g cap, v = .slice (some ⟨g, 0, none⟩) i cap ∧ i ≤ cap ∧ cap ≤ maxLen ∧ FL wr (fun k => w.heap.size ≤ k) g i S M := by
        rcases HX.out.row.2 with ⟨_, h0⟩ | ⟨g, cap, cur, hv, hbg, hh, h1, h2, h3, h4⟩
        · have := HH.out.2.1; omega
        · refine ⟨g, cap, hv, h1, h2, ⟨cur, _, hh, fun j hj => ?_⟩, hbg, fun j hj => ?_⟩
          · have hc := HX.out.row.cells (g := g) (by rw [hv]; rfl) j (sdV (S j)) (by simp [hj])
            have hadd : (⟨g, 0, none⟩ : Addr).add j = ⟨g, j, none⟩ := by by_cases h : j = 0 <;> simp [Addr.add, h]
            rw [hadd, cell_of_row wr g j cur _ (0, 0) hh] at hc
            exact hc
          · obtain ⟨d, k, e1, e2, e3, e4⟩ := HX.out.dat j hj
            exact ⟨d, k, e1, e2, e3, fun e => e4.1 (by rw [hv, e]; rfl), e4.2⟩
      have HF := Lib.hid (And.intro hcap (And.intro hcm (And.intro FLn HX.out.b)))
      clear hcap hcm FLn HX hlt hin
      go_wp2_with fail
      go_ret
      exact ⟨g, cap, rfl, HF.out.1, HF.out.2.1, ⟨S, HF.out.2.2.1⟩, HF.out.2.2.2⟩
end Go.Proofs.YtbngkmlipmhgdaaDoor.Mo
/- The document's model: where it lies. By the verifier of shale. -/
namespace Go.Proofs.YtbngkmlipmhgdaaDoor.Mo
open Go Go.RowKit Bin
set_option linter.unusedVariables false
set_option linter.unusedSimpArgs false
/-- an entry that waits in the document's model: where its bytes lie, and what they are. -/
structure En where
  key : Nat
  trim : Bool
  d : Sd
  l : Bs
def En.cells (e : En) : List Value := [.int .i64 (e.key : Int), .bool e.trim, sdV e.d]
def ecs (L : List En) : List Value := L.flatMap En.cells
theorem ecs_append (L M : List En) : ecs (L ++ M) = ecs L ++ ecs M := by unfold ecs; rw [List.flatMap_append]
theorem ecs_cons (e : En) (L : List En) : ecs (e :: L) = e.cells ++ ecs L := rfl
theorem ecs_at : ∀ {L : List En} {i : Nat} {e : En}, L[i]? = some e → (ecs L)[i * 3]? = some (.int .i64 (e.key : Int)) ∧ (ecs L)[i * 3 + 1]? = some (.bool e.trim) ∧ (ecs L)[i * 3 + 2]? = some (sdV e.d)
  | [], i, e, h => by simp at h
  | x :: L, 0, e, h => by
    simp only [List.getElem?_cons_zero, Option.some.injEq] at h
    subst h
    rw [ecs_cons]
    exact ⟨rfl, rfl, rfl⟩
  | x :: L, i + 1, e, h => by
    rw [List.getElem?_cons_succ] at h
    obtain ⟨a, b, c⟩ := ecs_at h
    rw [ecs_cons]
    have hl : x.cells.length = 3 := rfl
    refine ⟨?_, ?_, ?_⟩
    · rw [List.getElem?_append_right (by rw [hl]; omega), hl, show (i + 1) * 3 - 3 = i * 3 by omega]; exact a
    · rw [List.getElem?_append_right (by rw [hl]; omega), hl, show (i + 1) * 3 + 1 - 3 = i * 3 + 1 by omega]; exact b
    · rw [List.getElem?_append_right (by rw [hl]; omega), hl, show (i + 1) * 3 + 2 - 3 = i * 3 + 2 by omega]; exact c
abbrev ERow (w : World) (v : Value) (L : List En) : Prop := w.ownsRow 0 33 3 v L.length (ecs L)
theorem erow_slice {w : World} {v : Value} {L : List En} (h : ERow w v L) : ∃ a c, v = .slice a L.length c ∧ L.length ≤ c ∧ c ≤ maxLen := by
  rcases h.2 with ⟨h1, h2⟩ | ⟨g, cap, cur, hv, _, _, h3, h4, _⟩
  · exact ⟨none, 0, by rw [h1, h2], by omega, by decide⟩
  · exact ⟨_, cap, hv, h3, h4⟩
theorem erow_cells {w : World} {a : Option Addr} {n c : Nat} {L : List En} (h : ERow w (.slice a n c) L) {i : Nat} {e : En} (hi : L[i]? = some e) :
    ∃ g, a = some ⟨g, 0, none⟩ ∧ w.cell? ⟨g, i * 3, none⟩ = some (.int .i64 (e.key : Int)) ∧ w.cell? ⟨g, i * 3 + 1, none⟩ = some (.bool e.trim) ∧ w.cell? ⟨g, i * 3 + 2, none⟩ = some (sdV e.d) := by
  obtain ⟨k0, k1, k2⟩ := ecs_at hi
  rcases h.2 with ⟨h1, h2⟩ | ⟨g, cap, cur, hv, hb, hh, _, _, _, _⟩
  · have := (List.getElem?_eq_some_iff.1 hi).1; omega
  · cases hv
    have hc := h.cells (g := g) rfl
    have hadd : ∀ j, (⟨g, 0, none⟩ : Addr).add j = ⟨g, j, none⟩ := fun j => by unfold Addr.add; split <;> simp_all
    have c0 := hc _ _ k0
    have c1 := hc _ _ k1
    have c2 := hc _ _ k2
    rw [hadd] at c0 c1 c2
    exact ⟨g, rfl, c0, c1, c2⟩
def En.of (sz : Nat) (e : En) : Nat × Bs := (e.key, if e.trim then zerosL sz else e.l)
/-- the document's model: its block, the rows that are there, the entries that wait; all its blocks are In. -/
structure RefMo (w : World) (In : Nat → Prop) (xb n sz : Nat) (T : Nat → Bs) (L : List (Nat × Bs)) (g cap : Nat) (S : Nat → Sd) (v : Value) (E : List En) : Prop where
  blk : w.heap[xb]? = some (.cells #[.int .i64 (sz : Int), .slice (some ⟨g, 0, none⟩) n cap, v] 40 (0, 0))
  xI : In xb
  fl : FL w (fun k => In k ∧ k ≠ xb ∧ v.ownBlock ≠ some k) g n S T
  row : ERow w v E
  vI : ∀ k, v.ownBlock = some k → In k ∧ k ≠ xb
  dat : ∀ e ∈ E, Dat w e.d e.l ∧ ∃ k, e.d.q = some (k, 0) ∧ In k ∧ k ≠ xb ∧ v.ownBlock ≠ some k ∧ k < w.heap.size
  lay : L = E.map (En.of sz)
  ents : ∀ e ∈ E, e.key < n ∧ e.d.n ≤ 2000
  lens : ∀ k, (T k).length ≤ 1000000
  num : 1 ≤ n ∧ n ≤ 1048576 ∧ sz ≤ 1024 ∧ n ≤ cap ∧ cap ≤ maxLen
  cnt : E.length ≤ 1000
def RefAt (w : World) (In : Nat → Prop) (xb n sz : Nat) (T : Nat → Bs) (L : List (Nat × Bs)) : Prop := ∃ g cap S v E, RefMo w In xb n sz T L g cap S v E
section
variable {w : World} {In In' : Nat → Prop} {xb n sz g cap : Nat} {T : Nat → Bs} {L : List (Nat × Bs)} {S : Nat → Sd} {v : Value} {E : List En}
theorem RefMo.keep {w' : World} (h : RefMo w In xb n sz T L g cap S v E) (hs : w.heap.size ≤ w'.heap.size) (o : ∀ k, In k → k < w.heap.size → w'.heap[k]? = w.heap[k]?) : RefMo w' In xb n sz T L g cap S v E :=
  { h with
    blk := (o xb h.xI (lt_of_block h.blk)).trans h.blk
    fl := h.fl.same hs fun k hk hl => o k hk.1 hl
    row := orow_keep h.row fun k hk => o k (h.vI k hk).1 (h.row.lt k hk).2
    dat := fun e he => by
      obtain ⟨d, k, e1, e2, e3, e4, e5⟩ := h.dat e he
      exact ⟨d.same hs fun p hp => by rw [e1] at hp; cases hp; exact o k e2 e5, k, e1, e2, e3, e4, by omega⟩ }
theorem RefMo.mono (h : RefMo w In xb n sz T L g cap S v E) (o : ∀ k, In k → k < w.heap.size → In' k) : RefMo w In' xb n sz T L g cap S v E :=
  { h with
    xI := o xb h.xI (lt_of_block h.blk)
    fl := h.fl.mono fun k hk hl => ⟨o k hk.1 hl, hk.2⟩
    vI := fun k hk => ⟨o k (h.vI k hk).1 (h.row.lt k hk).2, (h.vI k hk).2⟩
    dat := fun e he => by
      obtain ⟨d, k, e1, e2, e3, e4, e5⟩ := h.dat e he
      exact ⟨d, k, e1, o k e2 e5, e3, e4, e5⟩ }
theorem RefMo.below {w' : World} (h : RefMo w In xb n sz T L g cap S v E) (b : Below w.heap.size w w') : RefMo w' In xb n sz T L g cap S v E := h.keep b.size fun k _ hk => b.block k hk
theorem RefAt.keep {w' : World} (h : RefAt w In xb n sz T L) (hs : w.heap.size ≤ w'.heap.size) (o : ∀ k, In k → k < w.heap.size → w'.heap[k]? = w.heap[k]?) : RefAt w' In xb n sz T L := by
  obtain ⟨g, cap, S, v, E, h⟩ := h
  exact ⟨g, cap, S, v, E, h.keep hs o⟩
theorem RefAt.mono (h : RefAt w In xb n sz T L) (o : ∀ k, In k → k < w.heap.size → In' k) : RefAt w In' xb n sz T L := by
  obtain ⟨g, cap, S, v, E, h⟩ := h
  exact ⟨g, cap, S, v, E, h.mono o⟩
theorem RefAt.below {w' : World} (h : RefAt w In xb n sz T L) (b : Below w.heap.size w w') : RefAt w' In xb n sz T L := h.keep b.size fun k _ hk => b.block k hk
theorem mr_cells {a b c : Value} {t : TypeId} (e : w.heap[xb]? = some (.cells #[a, b, c] t (0, 0))) : w.cell? ⟨xb, 0, none⟩ = some a ∧ w.cell? ⟨xb, 1, none⟩ = some b ∧ w.cell? ⟨xb, 2, none⟩ = some c ∧ ∀ i, w.frozen? ⟨xb, i, none⟩ = false := by
  refine ⟨?_, ?_, ?_, fun i => ?_⟩
  · unfold World.cell?; simp only; rw [e]; rfl
  · unfold World.cell?; simp only; rw [e]; rfl
  · unfold World.cell?; simp only; rw [e]; rfl
  · unfold World.frozen?; simp only; rw [e]; rfl
/-- all that waits is there: two stores. -/
theorem RefMo.flushed {w1 : World} {g' cap' : Nat} {S' : Nat → Sd} {M : Nat → Bs} (h : RefMo w In xb n sz T L g cap S v E) (b : Below w.heap.size w w1) (hI : ∀ k, w.heap.size ≤ k → In k) (f : FL w1 (fun k => w.heap.size ≤ k) g' n S' M) (hm : ∀ k, (M k).length ≤ 1000000) (hc : n ≤ cap' ∧ cap' ≤ maxLen) :
    RefAt ((w1.setCell ⟨xb, 1, none⟩ (.slice (some ⟨g', 0, none⟩) n cap')).setCell ⟨xb, 2, none⟩ (.slice none 0 0)) In xb n sz M [] := by
  have hx := lt_of_block h.blk
  have h1 := (b.block xb hx).trans h.blk
  have o1 := Only.setCell w1 ⟨xb, 1, none⟩ (.slice (some ⟨g', 0, none⟩) n cap')
  have o2 := Only.setCell (w1.setCell ⟨xb, 1, none⟩ (.slice (some ⟨g', 0, none⟩) n cap')) ⟨xb, 2, none⟩ (.slice none 0 0)
  have h2 : (w1.setCell ⟨xb, 1, none⟩ (.slice (some ⟨g', 0, none⟩) n cap')).heap[xb]? = _ := heap_setCell_same w1 xb 1 _ _ _ h1
  have h3 : ((w1.setCell ⟨xb, 1, none⟩ (.slice (some ⟨g', 0, none⟩) n cap')).setCell ⟨xb, 2, none⟩ (.slice none 0 0)).heap[xb]? = _ := heap_setCell_same _ xb 2 _ _ _ h2
  refine ⟨g', cap', S', .slice none 0 0, [], ?_⟩
  exact {
    blk := h3
    xI := h.xI
    fl := (f.same (by rw [o2.size, o1.size]; exact Nat.le_refl _) fun k hk hl => (o2.block k (by show k ≠ xb; omega)).trans (o1.block k (by show k ≠ xb; omega))).mono fun k hk _ => ⟨hI k hk, by omega, by intro e; cases e⟩
    row := World.ownsRow_nil _ _ _ _
    vI := fun k hk => by cases hk
    dat := fun e he => (nomatch he)
    lay := rfl
    ents := fun e he => (nomatch he)
    lens := hm
    num := ⟨h.num.1, h.num.2.1, h.num.2.2.1, hc.1, hc.2⟩
    cnt := by simp }
/-- one more waits: an append and a store. -/
theorem RefMo.waited {wa w9 : World} {e : En} {g1 cap1 : Nat} (h : RefMo w In xb n sz T L g cap S v E) (ba : Below w.heap.size w wa) (hI : ∀ k, w.heap.size ≤ k → In k)
    (hD : Dat wa e.d e.l) (hq : ∃ k, e.d.q = some (k, 0) ∧ w.heap.size ≤ k ∧ k < wa.heap.size) (hk : e.key < n) (hn : e.d.n ≤ 2000) (hc : E.length + 1 ≤ 1000)
    (hown : w9.ownsRow 0 33 3 (.slice (some ⟨g1, 0, none⟩) (E.length + 1) cap1) (E.length + 1) (ecs E ++ e.cells)) (hg : wa.grownBy w9 v.ownBlock) (ho : v.ownBlock = some g1 ∨ g1 = wa.heap.size) :
    RefAt (w9.setCell ⟨xb, 2, none⟩ (.slice (some ⟨g1, 0, none⟩) (E.length + 1) cap1)) In xb n sz T (L ++ [e.of sz]) ∧ ∀ k, k < w.heap.size → ¬ In k → (w9.setCell ⟨xb, 2, none⟩ (.slice (some ⟨g1, 0, none⟩) (E.length + 1) cap1)).heap[k]? = w.heap[k]? := by
  have hx := lt_of_block h.blk
  have hs := ba.size
  have hgs := hg.size
  have o1 := Only.setCell w9 ⟨xb, 2, none⟩ (.slice (some ⟨g1, 0, none⟩) (E.length + 1) cap1)
  have vx : v.ownBlock ≠ some xb := fun e => (h.vI xb e).2 rfl
  have gx : g1 ≠ xb := by
    rcases ho with h1 | h1
    · exact (h.vI g1 h1).2
    · omega
  have h9 := ((hg.block xb (by omega) (Ne.symm vx)).trans (ba.block xb hx)).trans h.blk
  have keep : ∀ k, k < wa.heap.size → k ≠ xb → v.ownBlock ≠ some k → (w9.setCell ⟨xb, 2, none⟩ (.slice (some ⟨g1, 0, none⟩) (E.length + 1) cap1)).heap[k]? = wa.heap[k]? := fun k hk h1 h2 => (o1.block k h1).trans (hg.block k hk (Ne.symm h2))
  have g1n : ∀ k, k < wa.heap.size → v.ownBlock ≠ some k → (some g1 : Option Nat) ≠ some k := fun k hk h2 e => by
    cases e
    rcases ho with h1 | h1
    · exact h2 h1
    · omega
  refine ⟨⟨g, cap, S, .slice (some ⟨g1, 0, none⟩) (E.length + 1) cap1, E ++ [e], ?_⟩, fun k hk hn' => ?_⟩
  · exact {
      blk := heap_setCell_same w9 xb 2 _ _ _ h9
      xI := h.xI
      fl := by
        obtain ⟨cur, t, h1, h2⟩ := h.fl.out
        have hgl := h.fl.lt
        refine ⟨⟨cur, t, (keep g (by omega) h.fl.gI.2.1 h.fl.gI.2.2).trans ((ba.block g hgl).trans h1), h2⟩, ⟨h.fl.gI.1, h.fl.gI.2.1, g1n g (by omega) h.fl.gI.2.2⟩, fun j hj => ?_⟩
        obtain ⟨d, k, e1, ⟨e2, e2', e2''⟩, e3, e4⟩ := h.fl.dat j hj
        refine ⟨Dat.same (s := S j) (d.below ba) (by rw [o1.size]; exact hgs) fun p hp => ?_, k, e1, ⟨e2, e2', g1n k (by omega) e2''⟩, by rw [o1.size]; omega, e4.1, e4.2.of ((keep k (by omega) e2' e2'').trans (ba.block k e3))⟩
        rw [e1] at hp
        cases hp
        exact keep k (by omega) e2' e2''
      row := by
        have e1 : (E ++ [e]).length = E.length + 1 := by simp
        have e2 : ecs (E ++ [e]) = ecs E ++ e.cells := by rw [ecs_append]; simp [ecs]
        show World.ownsRow _ 0 33 3 _ (E ++ [e]).length (ecs (E ++ [e]))
        rw [e1, e2]
        exact orow_keep hown fun k hk => o1.block k (by
          have : some g1 = some k := hk
          cases this
          exact gx)
      vI := fun k hk => by
        have e1 : some g1 = some k := hk
        cases e1
        refine ⟨?_, gx⟩
        rcases ho with h1 | h1
        · exact (h.vI g1 h1).1
        · exact hI g1 (by omega)
      dat := fun x hx' => by
        rcases List.mem_append.1 hx' with hx' | hx'
        · obtain ⟨d, k, e1, e2, e3, e4, e5⟩ := h.dat x hx'
          refine ⟨Dat.same (s := x.d) (d.below ba) (by rw [o1.size]; exact hgs) fun p hp => ?_, k, e1, e2, e3, g1n k (by omega) e4, by rw [o1.size]; omega⟩
          rw [e1] at hp
          cases hp
          exact keep k (by omega) e3 e4
        · obtain rfl := List.mem_singleton.1 hx'
          obtain ⟨k, e1, e2, e3⟩ := hq
          have vk : v.ownBlock ≠ some k := fun e => by have := (h.row.lt k e).2; omega
          refine ⟨hD.same (by rw [o1.size]; exact hgs) fun p hp => ?_, k, e1, hI k e2, by omega, g1n k e3 vk, by rw [o1.size]; omega⟩
          rw [e1] at hp
          cases hp
          exact keep k e3 (by show k ≠ xb; omega) vk
      lay := by rw [h.lay, List.map_append]; rfl
      ents := fun x hx' => by
        rcases List.mem_append.1 hx' with hx' | hx'
        · exact h.ents x hx'
        · obtain rfl := List.mem_singleton.1 hx'
          exact ⟨hk, hn⟩
      lens := h.lens
      num := h.num
      cnt := by simp; omega }
  · have k1 : k ≠ xb := fun e => hn' (e ▸ h.xI)
    have k2 : v.ownBlock ≠ some k := fun e => hn' (h.vI k e).1
    exact (keep k (by omega) k1 k2).trans (ba.block k hk)
end
end Go.Proofs.YtbngkmlipmhgdaaDoor.Mo
/- The document's model: its fronts, and where it settles. By the verifier of shale. -/
namespace Go.Proofs.YtbngkmlipmhgdaaDoor.Mo
open Go Go.RowKit Bin
set_option linter.unusedVariables false
set_option linter.unusedSimpArgs false
theorem newE (w W : World) (k : Int) (b : Bool) (s : Value) (h : w.alloc (.cells #[.int .i64 k, .bool b, s] 33 (0, 0)) = W) : W.heap[w.heap.size]? = some (.cells #[.int .i64 k, .bool b, s] 33 (0, 0)) ∧ Below w.heap.size w W ∧ W.heap.size = w.heap.size + 1 := by
  subst h
  exact ⟨heap_alloc_new w _, (Below.refl _ _).alloc (Nat.le_refl _) _, World.size_alloc _ _⟩
/-- the list so far. -/
def FrI (w : World) (g n : Nat) (M : Nat → Bs) (wx : World) : Prop := (∃ S, FL wx (fun k => w.heap.size ≤ k) g n S M) ∧ Below w.heap.size w wx
theorem FrI.below {w wx wy : World} {g n : Nat} {M : Nat → Bs} (h : FrI w g n M wx) (b : Below wx.heap.size wx wy) : FrI w g n M wy := by
  obtain ⟨⟨S, f⟩, b0⟩ := h
  exact ⟨⟨S, f.below b⟩, b0.trans (b.mono b0.size)⟩
theorem FrI.put {w wx wy : World} {g n : Nat} {M : Nat → Bs} {k m c j : Nat} {l : Bs} (h : FrI w g n M wx) (b : Below wx.heap.size wx wy) (hj : j < n) (d : Dat wy ⟨some (k, 0), m, c⟩ l) (hk : wx.heap.size ≤ k) (hk2 : k < wy.heap.size) (hz : Fz wy k) :
    FrI w g n (upT M j l) (wy.setCell ⟨g, j, none⟩ (.slice (some ⟨k, 0, none⟩) m c)) := by
  obtain ⟨⟨S, f⟩, b0⟩ := h
  have hs := b0.size
  exact ⟨⟨_, f.put hj b d (by show w.heap.size ≤ k; omega) hk hk2 hz⟩, (b0.trans (b.mono hs)).setCell (f.gI) _⟩
theorem FrI.cell {w wx : World} {g n : Nat} {M : Nat → Bs} (h : FrI w g n M wx) {j : Nat} (hj : j < n) : ∃ s, wx.cell? ⟨g, j, none⟩ = some (sdV s) ∧ wx.frozen? ⟨g, j, none⟩ = false := by
  obtain ⟨⟨S, f⟩, _⟩ := h
  exact ⟨_, f.cell hj⟩
theorem upT_twice (M : Nat → Bs) (k : Nat) (a b : Bs) : upT (upT M k a) k b = upT M k b := by
  funext j
  unfold upT
  by_cases h : j = k <;> simp [h]
theorem app_take (T : Nat → Bs) (L : List (Nat × Bs)) {i : Nat} {p : Nat × Bs} (h : L[i]? = some p) : app T (L.take (i + 1)) = upT (app T (L.take i)) p.1 p.2 := by
  have : L.take (i + 1) = L.take i ++ [p] := by rw [List.take_add_one, h]; rfl
  rw [this, app_append]
  rfl
set_option maxRecDepth 100000 in
set_option maxHeartbeats 2000000 in
theorem front_any {w : World} {In : Nat → Prop} {xb n sz : Nat} {T : Nat → Bs} {L : List (Nat × Bs)} (h : RefAt w In xb n sz T L) (k : Nat) (hk : k ≤ 100000) :
    Calls Tryd.prog 9 #[.pointer (some ⟨xb, 0, none⟩), .int .i64 (k : Int)] w fun e w' => ∃ g cap, e = .returned (.slice (some ⟨g, 0, none⟩) n cap) ∧ n ≤ cap ∧ cap ≤ maxLen ∧ (∃ S, FL w' (fun z => w.heap.size ≤ z) g n S (app T (L.take k))) ∧ Below w.heap.size w w' := by
  obtain ⟨gt, capt, St, v, E, h⟩ := h
  obtain ⟨av, cv, rfl, hnc, hcm⟩ := erow_slice h.row
  obtain ⟨N, hN⟩ : ∃ N, N = E.length := ⟨_, rfl⟩
  have hN1 : N ≤ 1000 := by rw [hN]; exact h.cnt
  have q1 := (mr_cells h.blk).2.1
  have HC := Lib.hid (lists_any (c := capt) h.fl.lst h.num.1 h.num.2.1 (fun j _ => h.lens j))
  have HH := Lib.hid (And.intro h (And.intro hN hN1))
  unfold maxLen at hcm
  clear h hN
  go_enter Tryd.func9, Tryd.ntmps9
  go_wp2_with fail
  refine HC.out.mono ?_
  rintro e w1 ⟨g, cap, rfl, hcap, hcm2, hF, b1⟩
  have HI0 : Hid (FrI w g n (app T (L.take 0)) w1) := ⟨hF, b1⟩
  have HCap := Lib.hid (And.intro hcap hcm2)
  clear HC hcap hcm2 hF b1 q1
  go_wp2_with fail
  go_loopg [6] k (fun gh s6 wx => ∃ i : Nat, gh = k - i ∧ i ≤ k ∧ s6 = .int .i64 (i : Int) ∧ i ≤ N ∧ Hid (FrI w g n (app T (L.take i)) wx))
  case atStart => exact ⟨0, rfl, Nat.zero_le _, rfl, Nat.zero_le _, HI0⟩
  case round =>
    clear HI0
    obtain ⟨i, hg, hin, rfl, hiN, HX⟩ := hrel
    have HI := Lib.hid hg
    clear hg
    have hb0 := HH.out.1.below HX.out.2
    have q2 := (mr_cells hb0.blk).2.2.1
    rw [← HH.out.2.1] at q2
    by_cases hlt : i < k
    · have x1 : (i : Int) < (k : Int) := by omega
      have x0 : (0 : Int) ≤ (i : Int) := by omega
      by_cases hlN : i < N
      · have x2 : (i : Int) < (N : Int) := by omega
        obtain ⟨e, he⟩ : ∃ e, E[i]? = some e := ⟨E[i]'(by rw [← HH.out.2.1]; exact hlN), List.getElem?_eq_getElem _⟩
        obtain ⟨gv, rfl, c0, c1, c2⟩ := erow_cells (a := av) (n := E.length) (c := cv) (by have := hb0.row; exact this) he
        have hmem := List.mem_of_getElem? he
        have HE := Lib.hid (And.intro he (And.intro hlt (And.intro hlN hmem)))
        clear hlt hin hb0 he hmem hlN
        go_upto_region 6 with (fail)
        generalize hw : wr.alloc (.cells #[.int .i64 (e.key : Int), .bool e.trim, .slice e.d.addr e.d.n e.d.c] 33 (0, 0)) = w2
        obtain ⟨K2, b2, s2⟩ := newE wr w2 _ _ _ hw
        obtain ⟨eb, heb⟩ : ∃ eb, eb = wr.heap.size := ⟨_, rfl⟩
        rw [← heb] at K2 s2 ⊢
        have hxeb : w.heap.size ≤ eb := by rw [heb]; exact HX.out.2.size
        clear hw c0 c1 c2 q2
        have hX2 := HX.out.below b2
        have hb2 : Below w.heap.size w w2 := hX2.2
        have hR2 := HH.out.1.below hb2
        have e0 := (mr_cells (w := w2.drew) K2).1
        have r0 := (mr_cells (w := w2.drew) hR2.blk).1
        have hkn := (hR2.ents e HE.out.2.2.2).1
        obtain ⟨so, c5, f5⟩ := FrI.cell (hX2.below ((Below.refl w2.heap.size w2).drew)) hkn
        have ba : Below w2.heap.size w2 (w2.alloc (obj8 (List.replicate sz 0#8))) := (Below.refl _ _).alloc (Nat.le_refl _) _
        have hmk := made8 w2.drew sz (by have := hR2.num; omega)
        have hXa := hX2.below ba
        obtain ⟨sa, c6, f6⟩ := hXa.cell hkn
        have e0' := (ba.cell (p := ⟨eb, 0, none⟩) (lt_of_block K2)).trans e0
        have r0' := (ba.cell (p := ⟨xb, 0, none⟩) (lt_of_block hR2.blk)).trans r0
        have y0 : (0 : Int) ≤ (e.key : Int) := by omega
        have y1 : (e.key : Int) < (n : Int) := by omega
        have y2 : (e.key : Int) < (cap : Int) := by have := HCap.out; omega
        have hgeb : eb ≠ g := by
          obtain ⟨⟨S, f⟩, _⟩ := HX.out
          have := f.lt
          omega
        have hX3 : FrI w g n (upT (app T (L.take i)) e.key (zerosL sz)) ((w2.alloc (obj8 (List.replicate sz 0#8))).setCell ⟨g, e.key, none⟩ (.slice (some ⟨w2.heap.size, 0, none⟩) sz sz)).drew :=
          FrI.below (FrI.put hX2 ba hkn (dat_of_blk (Blk8.new w2 (zerosL sz)) (by simp [zerosL]) hR2.num.2.2.1) (Nat.le_refl _) (by rw [World.size_alloc]; omega) (Fz.blk (Blk8.new w2 (zerosL sz)))) ((Below.refl _ _).drew)
        have K3 : ((w2.alloc (obj8 (List.replicate sz 0#8))).setCell ⟨g, e.key, none⟩ (.slice (some ⟨w2.heap.size, 0, none⟩) sz sz)).drew.heap[eb]? = some (.cells #[.int .i64 (e.key : Int), .bool e.trim, .slice e.d.addr e.d.n e.d.c] 33 (0, 0)) :=
          ((Only.setCell (w2.alloc (obj8 (List.replicate sz 0#8))) ⟨g, e.key, none⟩ (.slice (some ⟨w2.heap.size, 0, none⟩) sz sz)).block eb hgeb).trans ((ba.block eb (lt_of_block K2)).trans K2)
        obtain ⟨w3, hw3⟩ : ∃ w3, w3 = ((w2.alloc (obj8 (List.replicate sz 0#8))).setCell ⟨g, e.key, none⟩ (.slice (some ⟨w2.heap.size, 0, none⟩) sz sz)).drew := ⟨_, rfl⟩
        rw [← hw3] at hX3 K3
        have H2 := Lib.hid (And.intro hX3 (And.intro hkn (And.intro K3 hw3)))
        clear heb hX2 hR2 hb2 K2 s2 hkn hxeb ba hXa hX3 K3 hw3 b2 hgeb
        go_region_law (fail)
        all_goals
          rw [← H2.out.2.2.2]
          clear e0 e0' r0 r0' so c5 f5 sa c6 f6 hmk
          have k0 := (mr_cells H2.out.2.2.1).1
          have k1 := (mr_cells H2.out.2.2.1).2.1
          have k2 := (mr_cells H2.out.2.2.1).2.2.1
          obtain ⟨tr, htr⟩ : ∃ tr, tr = e.trim := ⟨_, rfl⟩
          rw [← htr] at k1 ⊢
          cases tr
          · -- bytes
            have hR3 := HH.out.1.below H2.out.1.2
            obtain ⟨dd, kd, hkd1, _⟩ := hR3.dat e HE.out.2.2.2
            have hm6 : e.d.n ≤ 1000000 := by have := (hR3.ents e HE.out.2.2.2).2; omega
            have HC : Hid (Calls Tryd.prog 10 #[.slice e.d.addr e.d.n e.d.c] w3.drew fun x w5 => x = .returned (.slice (some ⟨w3.heap.size, 0, none⟩) e.d.n e.d.n) ∧ w5.cell? ⟨eb, 0, none⟩ = some (.int .i64 (e.key : Int)) ∧ w5.cell? ⟨eb, 2, none⟩ = some (.slice e.d.addr e.d.n e.d.c) ∧ (∃ s, w5.cell? ⟨g, e.key, none⟩ = some (sdV s)) ∧ w5.frozen? ⟨g, e.key, none⟩ = false ∧
                FrI w g n (app T (L.take (i + 1))) (w5.setCell ⟨g, e.key, none⟩ (.slice (some ⟨w3.heap.size, 0, none⟩) e.d.n e.d.n))) := by
              refine Calls.mono (bytes_any (w := w3.drew) (s := e.d) (l := e.l) (dd.below ((Below.refl _ _).drew)) hm6) ?_
              rintro x w5 ⟨rfl, hB5, b5⟩
              have b5' : Below w3.heap.size w3 w5 := ((Below.refl w3.heap.size w3).drew).trans b5
              have K5 := (b5'.block eb (lt_of_block H2.out.2.2.1)).trans H2.out.2.2.1
              obtain ⟨s5, c5, f5⟩ := FrI.cell (H2.out.1.below b5') H2.out.2.1
              refine ⟨rfl, (mr_cells K5).1, (mr_cells K5).2.2.1, ⟨s5, c5⟩, f5, ?_⟩
              have hp := FrI.put (k := w3.heap.size) (m := e.d.n) (c := e.d.n) (l := e.l) H2.out.1 b5' H2.out.2.1 ⟨dd.hlen, Nat.le_refl _, by show e.d.n ≤ maxLen; unfold maxLen; omega, (fun h => by cases h), .inr ⟨w3.heap.size, 0, rfl, hB5.row, lt_of_block hB5⟩⟩ (Nat.le_refl _) (lt_of_block hB5) (Fz.blk hB5)
              rw [upT_twice] at hp
              have hLi : L[i]? = some (e.key, e.l) := by
                rw [HH.out.1.lay, List.getElem?_map, HE.out.1]
                simp [En.of, ← htr]
              rw [app_take T L hLi]
              exact hp
            have HT := Lib.hid htr
            clear hR3 dd hm6 hkd1 htr
            go_upto_region 8 with (fail)
            go_region_law (first | (go_simp; go_at_call 10; refine Calls.mono HC.out ?_; rintro x w5 ⟨rfl, q1, q2, ⟨s5, q3⟩, q4, q5⟩))
            all_goals
              have HQ := Lib.hid q5
              clear q1 q2 q3 q4 q5 k0 k1 k2
              generalize w5.setCell _ _ = w6 at HQ ⊢
              go_wp2_with fail
              go_roundg (k - (i + 1))
              case measure => have := HI.out; have := HE.out.2.1; omega
              case rel => exact ⟨i + 1, rfl, HE.out.2.1, by go_num, HE.out.2.2.1, HQ⟩
          · -- zeros
            have HQ : Hid (FrI w g n (app T (L.take (i + 1))) w3) := by
              have hLi : L[i]? = some (e.key, zerosL sz) := by
                rw [HH.out.1.lay, List.getElem?_map, HE.out.1]
                simp [En.of, ← htr]
              rw [app_take T L hLi]
              exact H2.out.1
            have HT := Lib.hid htr
            clear htr
            go_wp2_with fail
            go_roundg (k - (i + 1))
            case measure => have := HI.out; have := HE.out.2.1; omega
            case rel => exact ⟨i + 1, rfl, HE.out.2.1, by go_num, HE.out.2.2.1, HQ⟩
      · obtain rfl : i = N := by omega
        have x2 : ¬ (i : Int) < (i : Int) := by omega
        have HE : Hid (L.take k = L.take i) := by
          have hl : L.length = i := by rw [HH.out.1.lay, List.length_map]; exact HH.out.2.1.symm
          show _ = _
          rw [List.take_of_length_le (by omega), List.take_of_length_le (by omega)]
        clear hlN hlt hin hb0
        go_wp2_with fail
        go_ret
        exact ⟨g, cap, rfl, HCap.out.1, HCap.out.2, by rw [HE.out]; exact HX.out.1, HX.out.2⟩
    · obtain rfl : i = k := by omega
      have x1 : ¬ (i : Int) < (i : Int) := by omega
      clear hlt hin hb0
      go_wp2_with fail
      go_ret
      exact ⟨g, cap, rfl, HCap.out.1, HCap.out.2, HX.out.1, HX.out.2⟩
set_option maxRecDepth 100000 in
set_option maxHeartbeats 2000000 in
/-- where the document's model settles, where it does. -/
theorem settle_ref {w : World} {In : Nat → Prop} {xb n sz : Nat} {T : Nat → Bs} {L : List (Nat × Bs)} (h : RefAt w In xb n sz T L) (hI : ∀ k, w.heap.size ≤ k → In k) {a : Option Addr} {c : Nat} {M : Nat → Bs} (hl : LstAt w a n M) {k : Nat} (hk : k ≤ L.length) (hm : eqN (app T (L.take k)) M n) (hb : ∀ j, j < k → ¬ eqN (app T (L.take j)) M n) :
    Calls Tryd.prog 20 #[.pointer (some ⟨xb, 0, none⟩), .slice a n c] w fun e w' => e = .returned (.int .i64 (k : Int)) ∧ Below xb w w' ∧ w.heap.size ≤ w'.heap.size ∧ ∀ z, z < w.heap.size → z ≠ xb → w'.heap[z]? = w.heap[z]? := by
  obtain ⟨gt, capt, St, v, E, h⟩ := h
  obtain ⟨av, cv, rfl, hnc, hcm⟩ := erow_slice h.row
  have hEL : E.length = L.length := by rw [h.lay]; simp
  obtain ⟨N, hN⟩ : ∃ N, N = E.length := ⟨_, rfl⟩
  have hN1 : N ≤ 1000 := by rw [hN]; exact h.cnt
  have hF : Hid (∀ W (j : Nat), Below w.heap.size w W → j ≤ 1000 → Calls Tryd.prog 9 #[.pointer (some ⟨xb, 0, none⟩), .int .i64 (j : Int)] W fun e w' => ∃ g cap, e = .returned (.slice (some ⟨g, 0, none⟩) n cap) ∧ n ≤ cap ∧ cap ≤ maxLen ∧ (∃ S, FL w' (fun z => W.heap.size ≤ z) g n S (app T (L.take j))) ∧ Below W.heap.size W w') := fun W j b hj => front_any ⟨_, _, _, _, _, h.below b⟩ j (by omega)
  have HH := Lib.hid (And.intro h (And.intro hl (And.intro hm (And.intro hb (And.intro hN hEL)))))
  have hkN : k ≤ N := by omega
  unfold maxLen at hcm
  clear h hl hm hb hN hEL
  go_enter Tryd.func20, Tryd.ntmps20
  go_wp2_with fail
  go_loopg [5] k (fun gh s5 wx => ∃ i : Nat, gh = k - i ∧ i ≤ k ∧ s5 = .int .i64 (i : Int) ∧ Hid (Below w.heap.size w wx))
  case atStart => exact ⟨0, rfl, Nat.zero_le _, rfl, Lib.hid (Below.refl _ _)⟩
  case round =>
    obtain ⟨i, hg, hin, rfl, HX⟩ := hrel
    have HI := Lib.hid hg
    clear hg
    have hx := lt_of_block HH.out.1.blk
    have hb0 := HH.out.1.below HX.out
    have q2 := (mr_cells hb0.blk).2.2.1
    rw [← HH.out.2.2.2.2.1] at q2
    have x1 : (i : Int) ≤ (N : Int) := by omega
    have HC := Lib.hid (hF.out wr i HX.out (by omega))
    clear hb0
    have HK := Lib.hid (And.intro hin (And.intro hkN hx))
    clear hin hkN hx
    go_wp2_with fail
    refine HC.out.mono ?_
    rintro e w1 ⟨g, cap, rfl, hcap, hcm2, ⟨S, hF1⟩, b1⟩
    clear q2
    have hsl := sameLists_any (c1 := cap) (c2 := c) hF1.lst (HH.out.2.1.below (HX.out.trans (b1.mono HX.out.size))) HH.out.1.num.2.1 (by have := HH.out.1.num.2.1; unfold maxLen; omega)
    obtain ⟨bv, hbv⟩ : ∃ bv, bv = decide (n = n ∧ eqN (app T (L.take i)) M n) := ⟨_, rfl⟩
    rw [← hbv] at hsl
    have HS := Lib.hid hsl
    have HBv : Hid (bv = decide (n = n ∧ eqN (app T (L.take i)) M n)) := hbv
    clear hsl hbv
    have HF1 := Lib.hid (And.intro hF1 (And.intro b1 (And.intro hcap hcm2)))
    clear hF1 b1 hcap hcm2
    go_wp2_with fail
    refine HS.out.mono ?_
    rintro e w2 ⟨rfl, b2⟩
    have HB2 := Lib.hid b2
    clear b2
    have hB2 : Below w.heap.size w w2 := (HX.out.trans (HF1.out.2.1.mono HX.out.size)).trans (HB2.out.mono (by have := HF1.out.2.1.size; have := HX.out.size; omega))
    by_cases hik : i = k
    · subst hik
      obtain rfl : bv = true := HBv.out.trans (decide_eq_true ⟨trivial, HH.out.2.2.1⟩)
      have h2 := (hB2.block xb HK.out.2.2).trans HH.out.1.blk
      have m1 := (mr_cells h2).2.1
      have m2 := (mr_cells h2).2.2.1
      have f1 := (mr_cells h2).2.2.2 1
      have h3 : (w2.setCell ⟨xb, 1, none⟩ (.slice (some ⟨g, 0, none⟩) n cap)).heap[xb]? = _ := heap_setCell_same w2 xb 1 _ _ _ h2
      have n2 := (mr_cells h3).2.2.1
      have f2 := (mr_cells h3).2.2.2 2
      have HB := Lib.hid hB2
      clear h2 h3 hB2
      go_wp2_with fail
      go_ret
      have o1 := Only.setCell w2 ⟨xb, 1, none⟩ (.slice (some ⟨g, 0, none⟩) n cap)
      have o2 := Only.setCell (w2.setCell ⟨xb, 1, none⟩ (.slice (some ⟨g, 0, none⟩) n cap)) ⟨xb, 2, none⟩ (.slice none 0 0)
      have hx := HK.out.2.2
      have hs := HB.out.size
      refine ⟨rfl, ((HB.out.mono (Nat.le_of_lt hx)).setCell (Nat.le_refl _) _).setCell (Nat.le_refl _) _, by rw [o2.size, o1.size]; exact hs, fun z hz hzx => (o2.block z hzx).trans ((o1.block z hzx).trans (HB.out.block z hz))⟩
    · obtain rfl : bv = false := HBv.out.trans (decide_eq_false fun h => HH.out.2.2.2.1 i (by have := HK.out.1; omega) h.2)
      have HB := Lib.hid hB2
      have HIK := Lib.hid hik
      clear hB2 hik
      go_wp2_with fail
      go_roundg (k - (i + 1))
      case measure => have := HI.out; have := HIK.out; have := HK.out.1; omega
      case rel => exact ⟨i + 1, rfl, by have := HIK.out; have := HK.out.1; omega, by go_num, HB⟩
end Go.Proofs.YtbngkmlipmhgdaaDoor.Mo
/- The document's model made anew. By the verifier of shale. -/
namespace Go.Proofs.YtbngkmlipmhgdaaDoor.Mo
open Go Go.RowKit Bin
set_option linter.unusedVariables false
set_option linter.unusedSimpArgs false
structure NwI (w : World) (xb sz : Nat) (v : Value) (S : Nat → Sd) (i : Nat) (wx : World) : Prop where
  ls : LsI w v S (fun _ => zerosL sz) i wx
  blk : wx.heap[xb]? = some (.cells #[.int .i64 (sz : Int), v, .slice none 0 0] 40 (0, 0))
  vx : v.ownBlock ≠ some xb
  sx : ∀ j, j < i → (S j).q ≠ some (xb, 0)
  xw : w.heap.size ≤ xb
theorem NwI.next {w wr w9 : World} {xb sz : Nat} {v : Value} {S : Nat → Sd} {i g cap : Nat} (h : NwI w xb sz v S i wr) (hs : sz ≤ 1024)
    (hown : w9.ownsRow w.heap.size 31 1 (.slice (some ⟨g, 0, none⟩) (i + 1) cap) (i + 1) (((List.range i).map fun j => sdV (S j)) ++ [.slice (some ⟨wr.heap.size, 0, none⟩) sz sz]))
    (hg : ((wr.alloc (obj8 (List.replicate sz 0#8))).alloc (.cells #[.slice (some ⟨wr.heap.size, 0, none⟩) sz sz] 31 (0, 0))).drew.grownBy w9 v.ownBlock) (hor : v.ownBlock = some g ∨ g = wr.heap.size + 1 + 1) :
    ∃ S', NwI w xb sz (.slice (some ⟨g, 0, none⟩) (i + 1) cap) S' (i + 1) (w9.setCell ⟨xb, 1, none⟩ (.slice (some ⟨g, 0, none⟩) (i + 1) cap)) := by
  have hx := lt_of_block h.blk
  have b5 : Below wr.heap.size wr (wr.alloc (obj8 (List.replicate sz 0#8))) := (Below.refl _ _).alloc (Nat.le_refl _) _
  have ba : Below (wr.alloc (obj8 (List.replicate sz 0#8))).heap.size (wr.alloc (obj8 (List.replicate sz 0#8))) ((wr.alloc (obj8 (List.replicate sz 0#8))).alloc (.cells #[.slice (some ⟨wr.heap.size, 0, none⟩) sz sz] 31 (0, 0))).drew := ((Below.refl _ _).alloc (Nat.le_refl _) _).drew
  have sa : ((wr.alloc (obj8 (List.replicate sz 0#8))).alloc (.cells #[.slice (some ⟨wr.heap.size, 0, none⟩) sz sz] 31 (0, 0))).drew.heap.size = wr.heap.size + 1 + 1 := by
    show ((wr.alloc (obj8 (List.replicate sz 0#8))).alloc _).heap.size = _
    rw [World.size_alloc, World.size_alloc]
  have hn := h.ls.next (hB := (Blk8.new wr (zerosL sz))) (m := sz) (by simp [zerosL]) (by omega) b5 ba hown hg (by rcases hor with e | e; exact .inl e; exact .inr (by rw [e, sa]))
  have gx : g ≠ xb := by
    rcases hor with e | e
    · intro e2; exact h.vx (by rw [e, e2])
    · omega
  have h9 := ((hg.block xb (by rw [sa]; omega) (Ne.symm h.vx)).trans ((b5.trans (ba.mono b5.size)).block xb hx)).trans h.blk
  have o := Only.setCell w9 ⟨xb, 1, none⟩ (.slice (some ⟨g, 0, none⟩) (i + 1) cap)
  have sx' : ∀ j, j < i + 1 → (if j = i then (⟨some (wr.heap.size, 0), sz, sz⟩ : Sd) else S j).q ≠ some (xb, 0) := fun j hj => by
    by_cases e : j = i
    · rw [if_pos e]
      intro e2
      simp only [Option.some.injEq, Prod.mk.injEq] at e2
      omega
    · rw [if_neg e]; exact h.sx j (by omega)
  refine ⟨_, ⟨⟨orow_keep hn.row fun k hk => o.block k (by
      have e1 : some g = some k := hk
      cases e1
      exact gx), fun j hj => ?_, hn.b.setCell h.xw _⟩, heap_setCell_same w9 xb 1 _ _ _ h9, fun e => by cases e; exact gx rfl, sx', h.xw⟩⟩
  obtain ⟨d, k, e1, e2, e3, e4⟩ := hn.dat j hj
  have hk := sx' j hj
  refine ⟨d.same (by rw [o.size]; exact Nat.le_refl _) fun p hp => ?_, k, e1, e2, by rw [o.size]; exact e3, e4.1, e4.2.of (o.block k fun e => hk (by rw [e1]; show some (k, 0) = some (xb, 0); rw [show k = xb from e]))⟩
  rw [e1] at hp
  cases hp
  exact o.block k fun e => hk (by rw [e1]; show some (k, 0) = some (xb, 0); rw [show k = xb from e])
theorem NwI.done {w wr : World} {xb sz n : Nat} {v : Value} {S : Nat → Sd} (h : NwI w xb sz v S n wr) (h0 : 1 ≤ n) (hn : n ≤ 1048576) (hs : sz ≤ 1024) : RefAt wr (fun k => w.heap.size ≤ k) xb n sz (fun _ => zerosL sz) [] := by
  obtain ⟨g, cap, rfl, hcap, hcm, FLn⟩ : ∃ g cap, v = .slice (some ⟨g, 0, none⟩) n cap ∧ n ≤ cap ∧ cap ≤ maxLen ∧ FL wr (fun k => w.heap.size ≤ k) g n S (fun _ => zerosL sz) := by
    rcases h.ls.row.2 with ⟨_, h0'⟩ | ⟨g, cap, cur, hv, hbg, hh, h1, h2, h3, h4⟩
    · omega
    · refine ⟨g, cap, hv, h1, h2, ⟨cur, _, hh, fun j hj => ?_⟩, hbg, fun j hj => ?_⟩
      · have hc := h.ls.row.cells (g := g) (by rw [hv]; rfl) j (sdV (S j)) (by simp [hj])
        have hadd : (⟨g, 0, none⟩ : Addr).add j = ⟨g, j, none⟩ := by by_cases h : j = 0 <;> simp [Addr.add, h]
        rw [hadd, cell_of_row wr g j cur _ (0, 0) hh] at hc
        exact hc
      · obtain ⟨d, k, e1, e2, e3, e4⟩ := h.ls.dat j hj
        exact ⟨d, k, e1, e2, e3, fun e => e4.1 (by rw [hv, e]; rfl), e4.2⟩
  have gx : g ≠ xb := fun e => h.vx (by rw [e]; rfl)
  refine ⟨g, cap, S, .slice none 0 0, [], ?_⟩
  exact {
    blk := h.blk
    xI := h.xw
    fl := ⟨FLn.out, ⟨FLn.gI, gx, by intro e; cases e⟩, fun j hj => by
      obtain ⟨d, k, e1, e2, e3, e4⟩ := FLn.dat j hj
      exact ⟨d, k, e1, ⟨e2, fun e => h.sx j hj (by rw [e1, e]), by intro e; cases e⟩, e3, e4⟩⟩
    row := World.ownsRow_nil _ _ _ _
    vI := fun k hk => by cases hk
    dat := fun e he => (nomatch he)
    lay := rfl
    ents := fun e he => (nomatch he)
    lens := fun k => by simp [zerosL]; omega
    num := ⟨h0, hn, hs, hcap, hcm⟩
    cnt := by simp }
set_option maxRecDepth 100000 in
set_option maxHeartbeats 2000000 in
theorem newModel_any (w : World) (n sz : Nat) (h0 : 1 ≤ n) (hn : n ≤ 1048576) (hs : sz ≤ 1024) :
    Calls Tryd.prog 7 #[.int .i64 (n : Int), .int .i64 (sz : Int)] w fun e w' => ∃ xb, e = .returned (.pointer (some ⟨xb, 0, none⟩)) ∧ RefAt w' (fun k => w.heap.size ≤ k) xb n sz (fun _ => zerosL sz) [] ∧ Below w.heap.size w w' := by
  obtain ⟨i0, hi0, hz0, hz1, hz2⟩ := infoL
  obtain ⟨xb, hxb⟩ : ∃ xb, xb = w.heap.size := ⟨_, rfl⟩
  have HI0 : Hid (NwI w xb sz (.slice none 0 0) (fun _ => zSd) 0 (w.alloc (.cells #[.int .i64 (sz : Int), .slice none 0 0, .slice none 0 0] 40 (0, 0)))) :=
    ⟨⟨World.ownsRow_nil _ _ _ _, fun j hj => absurd hj (Nat.not_lt_zero j), (Below.refl _ _).alloc (Nat.le_refl _) _⟩, by rw [hxb]; exact heap_alloc_new w _, (by intro e; cases e), fun j hj => absurd hj (Nat.not_lt_zero j), by omega⟩
  have HH := Lib.hid (And.intro h0 (And.intro hn (And.intro hs hxb)))
  have x8 : (n : Int) ≤ 1048576 := by omega
  clear h0 hn hs hxb
  go_enter Tryd.func7, Tryd.ntmps7
  go_wp2_with fail
  rw [← HH.out.2.2.2]
  go_loopg [6] n (fun gh s6 wx => ∃ i : Nat, gh = n - i ∧ i ≤ n ∧ s6 = .int .i64 (i : Int) ∧ ∃ v S, Hid (NwI w xb sz v S i wx))
  case atStart => exact ⟨0, rfl, Nat.zero_le _, rfl, _, _, HI0⟩
  case round =>
    clear HI0
    obtain ⟨i, hg, hin, rfl, v, S, HX⟩ := hrel
    have HI := Lib.hid hg
    clear hg
    by_cases hlt : i < n
    · have x1 : (i : Int) < (n : Int) := by omega
      have x0 : (0 : Int) ≤ (i : Int) := by omega
      have hk := HX.out.blk
      have hx := lt_of_block hk
      have b5 : Below wr.heap.size wr (wr.alloc (obj8 (List.replicate sz 0#8))) := (Below.refl _ _).alloc (Nat.le_refl _) _
      have ba : Below wr.heap.size wr ((wr.alloc (obj8 (List.replicate sz 0#8))).alloc (.cells #[.slice (some ⟨wr.heap.size, 0, none⟩) sz sz] 31 (0, 0))) := b5.alloc (by have := b5.size; omega) _
      have hsz : ((wr.alloc (obj8 (List.replicate sz 0#8))).alloc (.cells #[.slice (some ⟨wr.heap.size, 0, none⟩) sz sz] 31 (0, 0))).heap.size = wr.heap.size + 1 + 1 := by rw [World.size_alloc, World.size_alloc]
      have c1 := (mr_cells (w := wr.drew) hk).2.1
      have c2 := (mr_cells ((b5.block xb hx).trans hk)).2.1
      have c3 := (mr_cells ((ba.block xb hx).trans hk)).2.1
      have hmk := made8 wr.drew sz (by have := HH.out; omega)
      have HRo : Hid (((wr.alloc (obj8 (List.replicate sz 0#8))).alloc (.cells #[.slice (some ⟨wr.heap.size, 0, none⟩) sz sz] 31 (0, 0))).drew.ownsRow w.heap.size 31 1 v i ((List.range i).map fun j => sdV (S j))) := orow_keep HX.out.ls.row fun g hg => ba.block g (HX.out.ls.row.lt g hg).2
      have HNw : Hid (∀ j u, [Value.slice (some ⟨wr.heap.size, 0, none⟩) sz sz][j]? = some u → ((wr.alloc (obj8 (List.replicate sz 0#8))).alloc (.cells #[.slice (some ⟨wr.heap.size, 0, none⟩) sz sz] 31 (0, 0))).drew.cell? ((⟨wr.heap.size + 1, 0, none⟩ : Addr).add j) = some u) := World.news_of_block (cs := #[.slice (some ⟨wr.heap.size, 0, none⟩) sz sz]) (fr := (0, 0)) (t := 31) (by
        have := heap_alloc_new (wr.alloc (obj8 (List.replicate sz 0#8))) (.cells #[.slice (some ⟨wr.heap.size, 0, none⟩) sz sz] 31 (0, 0))
        rwa [World.size_alloc] at this)
      have HOne : Hid (∀ u ∈ [Value.slice (some ⟨wr.heap.size, 0, none⟩) sz sz], u.oneCell' = true) := fun u hu => by rw [List.mem_singleton.1 hu]; rfl
      have HBs : Hid (w.heap.size ≤ ((wr.alloc (obj8 (List.replicate sz 0#8))).alloc (.cells #[.slice (some ⟨wr.heap.size, 0, none⟩) sz sz] 31 (0, 0))).drew.heap.size) := by
        show w.heap.size ≤ ((wr.alloc (obj8 (List.replicate sz 0#8))).alloc (.cells #[.slice (some ⟨wr.heap.size, 0, none⟩) sz sz] 31 (0, 0))).heap.size
        have := HX.out.ls.b.size; omega
      have HQ : Hid (∀ w9, ((wr.alloc (obj8 (List.replicate sz 0#8))).alloc (.cells #[.slice (some ⟨wr.heap.size, 0, none⟩) sz sz] 31 (0, 0))).drew.grownBy w9 v.ownBlock → w9.cell? ⟨xb, 1, none⟩ = some v ∧ w9.frozen? ⟨xb, 1, none⟩ = false) := fun w9 hg => by
        have h9 := (hg.block xb (by show xb < ((wr.alloc (obj8 (List.replicate sz 0#8))).alloc (.cells #[.slice (some ⟨wr.heap.size, 0, none⟩) sz sz] 31 (0, 0))).heap.size; omega) (Ne.symm HX.out.vx)).trans ((ba.block xb hx).trans hk)
        exact ⟨(mr_cells h9).2.1, (mr_cells h9).2.2.2 1⟩
      have HD := Lib.hid hlt
      clear hlt hin hk hx b5 ba hsz
      go_wp2_with fail
      go_region_law (refine step_append_lies _ (by rfl) _ _ _ (by rfl) w.heap.size 31 i0 (.slice none 0 0) 1 24 Tryd.underlying36 hi0 hz0 hz1 hz2 rfl (by decide) v i _ (by rfl) HRo.out ⟨wr.heap.size + 1, 0, none⟩ 1 1 [.slice (some ⟨wr.heap.size, 0, none⟩) sz sz] (by rfl) rfl HNw.out HOne.out (by decide) (by unfold maxLen; omega) (by omega) HBs.out (wr.heap.size + 1 + 1) (by simp) ?_; intro g1 cap1 w9 hown9 hg9 hor9 hlt9; have q3 := (HQ.out w9 hg9).1; have q4 := (HQ.out w9 hg9).2)
      all_goals
        have HN := Lib.hid (HX.out.next HH.out.2.2.1 hown9 hg9 hor9)
        clear hown9 hg9 hor9 hlt9 q3 q4 HRo HNw HOne HBs HQ c1 c2 c3 hmk
        generalize w9.setCell _ _ = w10 at HN ⊢
        go_wp2_with fail
        go_roundg (n - (i + 1))
        case measure => have := HI.out; have := HD.out; omega
        case rel =>
          obtain ⟨S', h⟩ := HN.out
          exact ⟨i + 1, rfl, HD.out, by go_num, _, S', h⟩
    · obtain rfl : i = n := by omega
      have x1 : ¬ (i : Int) < (i : Int) := by omega
      clear hlt hin
      go_wp2_with fail
      go_ret
      exact ⟨xb, rfl, HX.out.done HH.out.1 HH.out.2.1 HH.out.2.2.1, HX.out.ls.b⟩
end Go.Proofs.YtbngkmlipmhgdaaDoor.Mo
/- What a model says no to. By the verifier of shale. -/
namespace Go.Proofs.YtbngkmlipmhgdaaDoor.Mo
open Go Go.RowKit Bin
set_option linter.unusedVariables false
set_option linter.unusedSimpArgs false
def MayN (s z : Int) : Prop := 1 ≤ s ∧ s ≤ 1048576 ∧ 1 ≤ z ∧ z ≤ 1024
set_option maxHeartbeats 2000000 in
theorem new_bad (s z : Int) (h : ¬ MayN s z) (w : World) (y : Addr) (E : ErrAt w 0 y) :
    Calls Tryd.prog 6 #[.int .i64 s, .int .i64 z] w fun e w' => e = .returned (.tuple #[.pointer none, errOf y]) ∧ Below w.heap.size w w' := by
  have q0 : w.cell? ⟨0, 0, none⟩ = some (errOf y) := E.1
  have HB : Hid (∀ nn, Below w.heap.size w (w.drewN nn)) := fun nn => (Drawn.mk w nn).below _
  clear E
  by_cases c0 : s < 1
  · have t0 : decide (s < 1) = true := decide_eq_true c0
    clear h
    go_enter Tryd.func6, Tryd.ntmps6
    go_wp2_with fail
    go_quiet (fail)
    go_wp2_with fail
    go_ret2
    exact ⟨rfl, HB.out _⟩
  · have t0 : decide (s < 1) = false := decide_eq_false c0
    by_cases c1 : 1048576 < s
    · have t1 : decide (1048576 < s) = true := decide_eq_true c1
      clear h
      go_enter Tryd.func6, Tryd.ntmps6
      go_wp2_with fail
      go_quiet (fail)
      go_wp2_with fail
      go_ret2
      exact ⟨rfl, HB.out _⟩
    · have t1 : decide (1048576 < s) = false := decide_eq_false c1
      by_cases c2 : z < 1
      · have t2 : decide (z < 1) = true := decide_eq_true c2
        clear h
        go_enter Tryd.func6, Tryd.ntmps6
        go_wp2_with fail
        go_quiet (fail)
        go_wp2_with fail
        go_ret2
        exact ⟨rfl, HB.out _⟩
      · have t2 : decide (z < 1) = false := decide_eq_false c2
        have c3 : 1024 < z := by
          unfold MayN at h
          omega
        have t3 : decide (1024 < z) = true := decide_eq_true c3
        clear h
        go_enter Tryd.func6, Tryd.ntmps6
        go_wp2_with fail
        go_quiet (fail)
        go_wp2_with fail
        go_ret2
        exact ⟨rfl, HB.out _⟩
set_option maxHeartbeats 2000000 in
/-- an error out of may. -/
theorem write_err {w : World} {mo : Nat} {k : Int} {a : Option Addr} {m c : Nat} {y : Addr} (HM : Calls Tryd.prog 23 #[.pointer (some ⟨mo, 0, none⟩), .int .i64 k, .slice a m c] w fun e w' => e = .returned (errOf y) ∧ w = w') :
    Calls Tryd.prog 12 #[.pointer (some ⟨mo, 0, none⟩), .int .i64 k, .slice a m c] w fun e w' => e = .returned (errOf y) ∧ w = w' := by
  have HC := Lib.hid HM
  clear HM
  go_enter Tryd.func12, Tryd.ntmps12
  go_wp2_with fail
  refine HC.out.mono ?_
  rintro e w' ⟨rfl, rfl⟩
  clear HC
  go_wp2_with fail
  go_ret
  exact ⟨rfl, rfl⟩
theorem write_num {w : World} {mo n sz : Nat} {T : Nat → Bs} {L : List (Nat × Bs)} {bl dl : List Nat} {cb : Nat} (h : MoAt w mo n sz T L bl dl cb) (k : Int) (hk : ¬ (0 ≤ k ∧ k < (n : Int))) (a : Option Addr) (m c : Nat) {y : Addr} (EN : ErrAt w 1 y) :
    Calls Tryd.prog 12 #[.pointer (some ⟨mo, 0, none⟩), .int .i64 k, .slice a m c] w fun e w' => e = .returned (errOf y) ∧ w = w' := by
  obtain ⟨_, _, _, _, _, _, _, _, hi⟩ := h
  exact write_err (may_num (sz := sz) (mo_cells hi.blk).1 k hk a m c EN)
theorem write_size {w : World} {mo n sz : Nat} {T : Nat → Bs} {L : List (Nat × Bs)} {bl dl : List Nat} {cb : Nat} (h : MoAt w mo n sz T L bl dl cb) (k : Int) (hk : 0 ≤ k ∧ k < (n : Int)) (a : Option Addr) (m c : Nat) (hm : m ≠ sz) {y : Addr} (ES : ErrAt w 2 y) :
    Calls Tryd.prog 12 #[.pointer (some ⟨mo, 0, none⟩), .int .i64 k, .slice a m c] w fun e w' => e = .returned (errOf y) ∧ w = w' := by
  obtain ⟨_, _, _, _, _, _, _, _, hi⟩ := h
  exact write_err (may_size (mo_cells hi.blk).1 (mo_cells hi.blk).2.1 k hk a m c hm ES)
set_option maxHeartbeats 1000000 in
theorem trim_num {w : World} {mo n sz : Nat} {T : Nat → Bs} {L : List (Nat × Bs)} {bl dl : List Nat} {cb : Nat} (h : MoAt w mo n sz T L bl dl cb) (k : Int) (hk : ¬ (0 ≤ k ∧ k < (n : Int))) {y : Addr} (EN : ErrAt w 1 y) :
    Calls Tryd.prog 11 #[.pointer (some ⟨mo, 0, none⟩), .int .i64 k] w fun e w' => e = .returned (errOf y) ∧ Below w.heap.size w w' := by
  have hl := h.lens
  have hmk := made8 w sz (by omega)
  have b0 : Below w.heap.size w (w.alloc (obj8 (List.replicate sz 0))) := (Below.refl _ _).alloc (Nat.le_refl _) _
  have HW := Lib.hid (write_num (h.below b0) k hk (some ⟨w.heap.size, 0, none⟩) sz sz (EN.below b0))
  obtain ⟨_, _, _, _, _, _, _, _, hi⟩ := h
  have q1 := (mo_cells hi.blk).2.1
  obtain ⟨w1, hw1⟩ : ∃ w1, w1 = w.alloc (obj8 (List.replicate sz 0)) := ⟨_, rfl⟩
  rw [← hw1] at hmk HW b0
  have HB := Lib.hid b0
  clear hw1 hl hk hi b0 EN
  go_enter Tryd.func11, Tryd.ntmps11
  go_wp2_with fail
  refine HW.out.mono ?_
  rintro e w2 ⟨rfl, rfl⟩
  clear HW hmk q1
  go_wp2_with fail
  go_ret
  exact ⟨rfl, HB.out⟩
end Go.Proofs.YtbngkmlipmhgdaaDoor.Mo
/- The program's model and the document's, side by side. By the verifier of shale. -/
namespace Go.Proofs.YtbngkmlipmhgdaaDoor.Mo
open Go Go.RowKit Bin
set_option linter.unusedVariables false
set_option linter.unusedSimpArgs false
/-- the blocks that the document's model may use. -/
def PIn (base : Nat) (bl dl fx : List Nat) : Nat → Prop := fun k => base ≤ k ∧ k ∉ bl ∧ k ∉ dl ∧ k ∉ fx
/-- both models; the call's own blocks fx apart from both. -/
structure PM (base : Nat) (w0 : World) (fx : List Nat) (wx : World) (mo xb n sz : Nat) (T1 : Nat → Bs) (L1 : List (Nat × Bs)) (T2 : Nat → Bs) (L2 : List (Nat × Bs)) (bl dl : List Nat) (cb : Nat) : Prop where
  b : Below base w0 wx
  bs : base ≤ wx.heap.size
  m : MoAt wx mo n sz T1 L1 bl dl cb
  r : RefAt wx (PIn base bl dl fx) xb n sz T2 L2
  g : ∀ k ∈ bl, base ≤ k
  f : ∀ k ∈ fx, base ≤ k ∧ k < wx.heap.size ∧ k ∉ bl ∧ k ∉ dl
section
variable {base mo xb n sz cb cb' : Nat} {w0 wx wy : World} {fx bl dl bl' dl' : List Nat} {T1 T2 T' : Nat → Bs} {L1 L2 L' : List (Nat × Bs)}
theorem PM.up (h : PM base w0 fx wx mo xb n sz T1 L1 T2 L2 bl dl cb) : ∀ k, wx.heap.size ≤ k → PIn base bl dl fx k := fun k hk =>
  ⟨Nat.le_trans h.bs hk, fun hm => by have := h.m.lt k (.inl hm); omega, fun hm => by have := h.m.lt k (.inr hm); omega, fun hm => by have := (h.f k hm).2.1; omega⟩
theorem PM.below (h : PM base w0 fx wx mo xb n sz T1 L1 T2 L2 bl dl cb) (b : Below wx.heap.size wx wy) : PM base w0 fx wy mo xb n sz T1 L1 T2 L2 bl dl cb :=
  ⟨h.b.trans (b.mono h.bs), Nat.le_trans h.bs b.size, h.m.below b, h.r.below b, h.g, fun k hk => by
    obtain ⟨h1, h2, h3⟩ := h.f k hk
    exact ⟨h1, Nat.lt_of_lt_of_le h2 b.size, h3⟩⟩
/-- a block of the call's own is written. -/
theorem PM.own {q : Nat} (h : PM base w0 fx wx mo xb n sz T1 L1 T2 L2 bl dl cb) (hq : q ∈ fx) (o : Only q wx wy) : PM base w0 fx wy mo xb n sz T1 L1 T2 L2 bl dl cb := by
  have hf := h.f q hq
  exact ⟨h.b.trans ⟨o.os, o.tape, o.output, by rw [o.size]; exact Nat.le_refl _, fun k hk => o.block k (by omega)⟩, by rw [o.size]; exact h.bs, h.m.keep (by rw [o.size]; exact Nat.le_refl _) fun k hk => o.block k (by
      rintro rfl
      rcases hk with hk | hk
      · exact hf.2.2.1 hk
      · exact hf.2.2.2 hk), h.r.keep (by rw [o.size]; exact Nat.le_refl _) fun k hk _ => o.block k (by rintro rfl; exact hk.2.2.2 hq), h.g, fun k hk => by rw [o.size]; exact h.f k hk⟩
/-- one more block of the call's own, laid just now. -/
theorem PM.fix {q : Nat} (h : PM base w0 fx wx mo xb n sz T1 L1 T2 L2 bl dl cb) (b : Below wx.heap.size wx wy) (h1 : wx.heap.size ≤ q) (h2 : q < wy.heap.size) : PM base w0 (q :: fx) wy mo xb n sz T1 L1 T2 L2 bl dl cb := by
  have h' := h.below b
  refine ⟨h'.b, h'.bs, h'.m, (h.r.mono (In' := PIn base bl dl (q :: fx)) fun k hk hl => ⟨hk.1, hk.2.1, hk.2.2.1, fun hm => ?_⟩).below b, h'.g, fun k hk => ?_⟩
  · rcases List.mem_cons.1 hm with rfl | hm
    · omega
    · exact hk.2.2.2 hm
  · rcases List.mem_cons.1 hk with rfl | hk
    · exact ⟨Nat.le_trans h.bs h1, h2, fun hm => by have := h.m.lt k (.inl hm); omega, fun hm => by have := h.m.lt k (.inr hm); omega⟩
    · exact h'.f k hk
theorem PM.unfix {q : Nat} (h : PM base w0 (q :: fx) wx mo xb n sz T1 L1 T2 L2 bl dl cb) : PM base w0 fx wx mo xb n sz T1 L1 T2 L2 bl dl cb :=
  ⟨h.b, h.bs, h.m, h.r.mono fun k hk _ => ⟨hk.1, hk.2.1, hk.2.2.1, fun hm => hk.2.2.2 (List.mem_cons_of_mem _ hm)⟩, h.g, fun k hk => h.f k (List.mem_cons_of_mem _ hk)⟩
/-- the program's model is told something. -/
theorem PM.turn (h : PM base w0 fx wx mo xb n sz T1 L1 T2 L2 bl dl cb) (m : MoAt wy mo n sz T' L' bl' dl' cb') (t : Tn bl wx wy bl') (hd : ∀ k ∈ dl', k ∈ dl ∨ wx.heap.size ≤ k) : PM base w0 fx wy mo xb n sz T' L' T2 L2 bl' dl' cb' ∧ ∀ k ∈ fx, wy.heap[k]? = wx.heap[k]? := by
  have hbs := h.bs
  have hts := t.size
  refine ⟨⟨h.b.trans ⟨t.os, t.tape, t.output, t.size, fun k hk => t.same k (by omega) fun hm => by have := h.g k hm; omega⟩, by omega, m, ?_, fun k hk => ?_, fun k hk => ?_⟩, fun k hk => t.same k (h.f k hk).2.1 (h.f k hk).2.2.1⟩
  · refine ((h.r.mono (In' := fun k => PIn base bl' dl' fx k ∧ k ∉ bl) fun k hk hl => ⟨⟨hk.1, fun hm => ?_, fun hm => ?_, hk.2.2.2⟩, hk.2.1⟩).keep t.size fun k hk hl => t.same k hl hk.2).mono fun k hk _ => hk.1
    · rcases t.new k hm with h1 | h1
      · exact hk.2.1 h1
      · omega
    · rcases hd k hm with h1 | h1
      · exact hk.2.2.1 h1
      · omega
  · rcases t.new k hk with h1 | h1
    · exact h.g k h1
    · omega
  · obtain ⟨h1, h2, h3, h4⟩ := h.f k hk
    refine ⟨h1, by omega, fun hm => ?_, fun hm => ?_⟩
    · rcases t.new k hm with h5 | h5
      · exact h3 h5
      · omega
    · rcases hd k hm with h5 | h5
      · exact h4 h5
      · omega
/-- the document's model is told something. -/
theorem PM.rturn (h : PM base w0 fx wx mo xb n sz T1 L1 T2 L2 bl dl cb) (b0 : Below base wx wy) (r : RefAt wy (PIn base bl dl fx) xb n sz T' L') (o : ∀ k, k < wx.heap.size → ¬ PIn base bl dl fx k → wy.heap[k]? = wx.heap[k]?) : PM base w0 fx wy mo xb n sz T1 L1 T' L' bl dl cb ∧ ∀ k ∈ fx, wy.heap[k]? = wx.heap[k]? := by
  have hs := b0.size
  refine ⟨⟨h.b.trans b0, Nat.le_trans h.bs hs, h.m.keep hs fun k hk => o k (h.m.lt k hk) fun hp => ?_, r, h.g, fun k hk => ?_⟩, fun k hk => o k (h.f k hk).2.1 fun hp => hp.2.2.2 hk⟩
  · rcases hk with hk | hk
    · exact hp.2.1 hk
    · exact hp.2.2.1 hk
  · obtain ⟨h1, h2, h3⟩ := h.f k hk
    exact ⟨h1, by omega, h3⟩
end
end Go.Proofs.YtbngkmlipmhgdaaDoor.Mo
/- What the walk over ModelPlays says of its steps. By the verifier of shale. -/
namespace Go.Proofs.YtbngkmlipmhgdaaDoor.Mo
open Go Go.RowKit Bin
set_option linter.unusedVariables false
set_option linter.unusedSimpArgs false
theorem polArg {w : World} {a : Option Addr} {n c : Nat} {l : Bs} (h : Pol w a n c l) : Arg8 w (.slice a n c) l := by
  refine ⟨?_, by rw [← h.hlen]; exact Nat.le_trans h.hcap h.hmost⟩
  rcases h.hrow with h0 | ⟨bb, off, e, hr, hb⟩
  · have h1 := h.hlen
    rw [h0] at h1
    have hl : l = [] := List.eq_nil_of_length_eq_zero h1.symm
    subst hl
    exact .inl ⟨rfl, a, c, by rw [h0]⟩
  · show IsBytes w (.slice a n c) l
    rw [e]
    exact .mk h.hlen hr hb
theorem bytes_pol {w : World} {a : Option Addr} {n c : Nat} {l : Bs} (h : Pol w a n c l) (hm : n ≤ 1000000) :
    Calls Tryd.prog 10 #[.slice a n c] w fun e w' => e = .returned (.slice (some ⟨w.heap.size, 0, none⟩) n n) ∧ Blk8 w' w.heap.size l ∧ Below w.heap.size w w' :=
  copy_of (polArg h) (fun e => h.hnil e) hm
theorem row_polP {w : World} {a : Option Addr} {len cap : Nat} {zs : List Int} (h : IsRow .u8 w a len cap zs) : ∃ l, Pol w a len cap l := by
  have hn := h.nil_cap
  have hc : cap ≤ maxLen := by
    rcases h with ⟨_, _, rfl, _⟩ | ⟨x, _, _, hm, _⟩
    · exact Nat.zero_le _
    · exact hm
  have hlc : len ≤ cap := h.at.2.1
  obtain ⟨hm, h0 | ⟨bb, off, l, ha, hl, hcc, hr, hb⟩⟩ := h.bytes
  · exact ⟨[], h0, hlc, hc, hn, Or.inl h0⟩
  · exact ⟨l, hl.symm, hlc, hc, hn, Or.inr ⟨bb, off, ha, hr, hb⟩⟩
/-- one thing that the models are told, as the walk reads it. -/
def MdOK (W : World) (a : Option Addr) (D : Nat → MdV) (l : Nat → Bs) (i : Nat) : Prop := ∃ kb off, a = some ⟨kb, off, none⟩ ∧ W.cell? ⟨kb, off + i * 4, none⟩ = some (.int .i64 (D i).key) ∧ W.cell? ⟨kb, off + i * 4 + 1, none⟩ = some (.bool (D i).trim) ∧ W.cell? ⟨kb, off + i * 4 + 2, none⟩ = some (.slice (D i).a (D i).n (D i).c) ∧ W.cell? ⟨kb, off + i * 4 + 3, none⟩ = some (.bool (D i).flush) ∧ Pol W (D i).a (D i).n (D i).c (l i)
theorem mdOK {w : World} {a : Option Addr} {n : Nat} {D : Nat → MdV} (R : RowMd w a n D) : ∃ l, ∀ W, Below w.heap.size w W → ∀ i, i < n → MdOK W a D l i := by
  have h : ∀ i, i < n → ∃ l, Pol w (D i).a (D i).n (D i).c l := fun i hi => by
    obtain ⟨kb, off, _, _, _, _, _, h, _⟩ := R i hi
    exact row_polP h
  refine ⟨fun i => if hi : i < n then (h i hi).choose else [], fun W b i hi => ?_⟩
  obtain ⟨kb, off, h1, h2, h3, h4, h5, h6, _⟩ := R i hi
  have hk := World.block_lt_of_cell? w _ h2
  refine ⟨kb, off, h1, (b.cell (p := ⟨kb, off + i * 4, none⟩) hk).trans h2, (b.cell (p := ⟨kb, off + i * 4 + 1, none⟩) hk).trans h3, (b.cell (p := ⟨kb, off + i * 4 + 2, none⟩) hk).trans h4, (b.cell (p := ⟨kb, off + i * 4 + 3, none⟩) hk).trans h5, ?_⟩
  simp only [dif_pos hi]
  exact (h i hi).choose_spec.below b
theorem newOne (w W : World) (x : Value) (t : TypeId) (h : w.alloc (.cells #[x] t (0, 0)) = W) : W.heap[w.heap.size]? = some (.cells #[x] t (0, 0)) ∧ Below w.heap.size w W ∧ W.heap.size = w.heap.size + 1 := by
  subst h
  exact ⟨heap_alloc_new w _, (Below.refl _ _).alloc (Nat.le_refl _) _, World.size_alloc _ _⟩
theorem res_bool {fn : Func} (hr : fn.results = #[.cell 12 4]) {tmps : Array Value} {w : World} {g : Nat} {v : Bool} (hp : tmps.getD 12 undef = .pointer (some ⟨g, 0, none⟩)) (hc : w.cell? ⟨g, 0, none⟩ = some (.bool v)) : (results fn tmps).run Tryd.prog w = .ok (.bool v) w := by
  have hp' : tmps[12]?.getD undef = .pointer (some ⟨g, 0, none⟩) := by simpa using hp
  simp [results, hr, hp', asAddr, go_sem, hc]
end Go.Proofs.YtbngkmlipmhgdaaDoor.Mo
/- The document's model told something, as the walk over ModelPlays meets it. By the verifier of shale. -/
namespace Go.Proofs.YtbngkmlipmhgdaaDoor.Mo
open Go Go.RowKit Bin
set_option linter.unusedVariables false
set_option linter.unusedSimpArgs false
section
variable {base mo xb n sz cb xv : Nat} {w0 w8 : World} {fx bl dl : List Nat} {T1 T : Nat → Bs} {L1 L : List (Nat × Bs)}
theorem PM.more {cb' : Nat} (h : PM base w0 fx w8 mo xb n sz T1 L1 T L bl dl cb) (h1 : cb ≤ cb') (h2 : cb' ≤ 1000) : PM base w0 fx w8 mo xb n sz T1 L1 T L bl dl cb' := { h with m := h.m.more h1 h2 }
/-- the document's model's cells. -/
theorem PM.ref (h : PM base w0 fx w8 mo xb n sz T1 L1 T L bl dl cb) : ∃ g cap av cv E, w8.cell? ⟨xb, 1, none⟩ = some (.slice (some ⟨g, 0, none⟩) n cap) ∧ w8.cell? ⟨xb, 2, none⟩ = some (.slice av L.length cv) ∧ w8.frozen? ⟨xb, 1, none⟩ = false ∧ w8.frozen? ⟨xb, 2, none⟩ = false ∧ xb < w8.heap.size ∧ xb ∉ fx ∧ base ≤ xb ∧ L.length ≤ cv ∧ cv ≤ maxLen ∧ L.length = E.length ∧ L.length ≤ 1000 ∧ ∃ S, RefMo w8 (PIn base bl dl fx) xb n sz T L g cap S (.slice av L.length cv) E := by
  obtain ⟨g, cap, S, v, E, r⟩ := h.r
  obtain ⟨av, cv, rfl, h1, h2⟩ := erow_slice r.row
  have he : L.length = E.length := by rw [r.lay]; simp
  have hc := r.cnt
  rw [← he] at r h1
  obtain ⟨_, q1, q2, q3⟩ := mr_cells r.blk
  exact ⟨g, cap, av, cv, E, q1, q2, q3 1, q3 2, lt_of_block r.blk, r.xI.2.2.2, r.xI.1, h1, h2, he, by omega, S, r⟩
/-- what a region of the document's model reads. -/
abbrev SRd (xv xb : Nat) (v2 : Value) (W : World) : Prop := W.cell? ⟨xv, 0, none⟩ = some (.pointer (some ⟨xb, 0, none⟩)) ∧ W.cell? ⟨xb, 2, none⟩ = some v2
/-- what the region that lays all that waits there leaves. -/
structure FlF (base : Nat) (w0 : World) (fx : List Nat) (w8 : World) (mo xb n sz xv : Nat) (T1 : Nat → Bs) (L1 : List (Nat × Bs)) (T : Nat → Bs) (L : List (Nat × Bs)) (bl dl : List Nat) (cb g cap : Nat) (v2 : Value) (w9 : World) : Prop where
  s1 : SRd xv xb v2 w9
  s2 : SRd xv xb v2 (w9.setCell ⟨xb, 1, none⟩ (.slice (some ⟨g, 0, none⟩) n cap))
  c1 : w9.cell? ⟨xv, 0, none⟩ = some (.pointer (some ⟨xb, 0, none⟩))
  c2 : ∃ v, w9.cell? ⟨xb, 1, none⟩ = some v
  f2 : w9.frozen? ⟨xb, 1, none⟩ = false
  d1 : (w9.setCell ⟨xb, 1, none⟩ (.slice (some ⟨g, 0, none⟩) n cap)).cell? ⟨xv, 0, none⟩ = some (.pointer (some ⟨xb, 0, none⟩))
  d2 : ∃ v, (w9.setCell ⟨xb, 1, none⟩ (.slice (some ⟨g, 0, none⟩) n cap)).cell? ⟨xb, 2, none⟩ = some v
  g2 : (w9.setCell ⟨xb, 1, none⟩ (.slice (some ⟨g, 0, none⟩) n cap)).frozen? ⟨xb, 2, none⟩ = false
  pm : PM base w0 fx ((w9.setCell ⟨xb, 1, none⟩ (.slice (some ⟨g, 0, none⟩) n cap)).setCell ⟨xb, 2, none⟩ (.slice none 0 0)) mo xb n sz T1 L1 (app T L) [] bl dl cb
  kp : ∀ k ∈ fx, ((w9.setCell ⟨xb, 1, none⟩ (.slice (some ⟨g, 0, none⟩) n cap)).setCell ⟨xb, 2, none⟩ (.slice none 0 0)).heap[k]? = w8.heap[k]?
theorem ref_flush (h : PM base w0 fx w8 mo xb n sz T1 L1 T L bl dl cb) (hx : xv ∈ fx) (hv : w8.heap[xv]? = some (.cells #[.pointer (some ⟨xb, 0, none⟩)] 29 (0, 0))) {v2 : Value} (hv2 : w8.cell? ⟨xb, 2, none⟩ = some v2) (hn : n ≤ 100) (hT : ∀ k, (T k).length = sz) (hL : ∀ p ∈ L, p.2.length = sz) (hs : sz ≤ 1024) :
    Calls Tryd.prog 9 #[.pointer (some ⟨xb, 0, none⟩), .int .i64 (L.length : Int)] w8.drew fun e w9 => ∃ g cap, e = .returned (.slice (some ⟨g, 0, none⟩) n cap) ∧ FlF base w0 fx w8 mo xb n sz xv T1 L1 T L bl dl cb g cap v2 w9 := by
  obtain ⟨g0, cap0, av, cv, E, q1, q2, q3, q4, hxl, hxf, hxb, _, _, _, hle, S, r⟩ := h.ref
  have bd : Below w8.heap.size w8 w8.drew := (Below.refl _ _).drew
  refine (front_any (h.r.below bd) L.length (by omega)).mono ?_
  rintro e w9 ⟨g, cap, rfl, h1, h2, ⟨S', hF⟩, b9⟩
  have b : Below w8.heap.size w8 w9 := bd.trans b9
  have hb := (b.block xb hxl).trans r.blk
  have hvl := lt_of_block hv
  have hxx : xv ≠ xb := fun e => hxf (e ▸ hx)
  have o1 := Only.setCell w9 ⟨xb, 1, none⟩ (.slice (some ⟨g, 0, none⟩) n cap)
  have o2 := Only.setCell (w9.setCell ⟨xb, 1, none⟩ (.slice (some ⟨g, 0, none⟩) n cap)) ⟨xb, 2, none⟩ (.slice none 0 0)
  have hv9 := (b.block xv hvl).trans hv
  have h3 : (w9.setCell ⟨xb, 1, none⟩ (.slice (some ⟨g, 0, none⟩) n cap)).heap[xb]? = _ := heap_setCell_same w9 xb 1 _ _ _ hb
  rw [List.take_length] at hF
  have hfl := r.flushed b h.up hF (fun k => by rw [app_len L T hT hL k]; omega) ⟨h1, h2⟩
  have hpm := h.rturn ((b.mono h.bs).setCell hxb _ |>.setCell hxb _) hfl (fun k hk hp => (o2.block k (fun e => hp (e ▸ r.xI))).trans ((o1.block k (fun e => hp (e ▸ r.xI))).trans (b.block k hk)))
  have e2 : v2 = .slice av L.length cv := Option.some.inj (hv2.symm.trans q2)
  exact ⟨g, cap, rfl, ⟨cell_of_one hv9, by rw [e2]; exact (mr_cells hb).2.2.1⟩, ⟨cell_of_one ((o1.block xv hxx).trans hv9), by rw [e2]; exact (mr_cells h3).2.2.1⟩, cell_of_one hv9, ⟨_, (mr_cells hb).2.1⟩, (mr_cells hb).2.2.2 1, cell_of_one ((o1.block xv hxx).trans hv9), ⟨_, (mr_cells h3).2.2.1⟩, (mr_cells h3).2.2.2 2, hpm.1, hpm.2⟩
/-- what a region of the document's model reads, with an entry. -/
abbrev SEd (xv xb eb : Nat) (key : Nat) (tr : Bool) (u : Value) (W : World) : Prop := W.cell? ⟨xv, 0, none⟩ = some (.pointer (some ⟨xb, 0, none⟩)) ∧ W.cell? ⟨eb, 0, none⟩ = some (.int .i64 (key : Int)) ∧ W.cell? ⟨eb, 1, none⟩ = some (.bool tr) ∧ W.cell? ⟨eb, 2, none⟩ = some u
/-- what the region that lets an entry wait wants and leaves, behind the copy of its bytes. -/
structure WaF (base : Nat) (w0 : World) (fx : List Nat) (w8 : World) (mo xb n sz xv eb : Nat) (T1 : Nat → Bs) (L1 : List (Nat × Bs)) (T : Nat → Bs) (L : List (Nat × Bs)) (bl dl : List Nat) (cb key m c : Nat) (tr : Bool) (a : Option Addr) (l : Bs) (av : Option Addr) (cv : Nat) (E : List En) (w9 wa : World) : Prop where
  sW : SEd xv xb eb key tr (.slice a m c) w9
  sA : SEd xv xb eb key tr (.slice a m c) wa
  sQ : ∀ w10, wa.grownBy w10 (Value.slice av L.length cv).ownBlock → SEd xv xb eb key tr (.slice a m c) w10 ∧ ∀ v, SEd xv xb eb key tr (.slice a m c) (w10.setCell ⟨xb, 2, none⟩ v)
  c1 : w9.cell? ⟨xv, 0, none⟩ = some (.pointer (some ⟨xb, 0, none⟩))
  c2 : w9.cell? ⟨xb, 2, none⟩ = some (.slice av L.length cv)
  e0 : w9.cell? ⟨eb, 0, none⟩ = some (.int .i64 (key : Int))
  e1 : w9.cell? ⟨eb, 1, none⟩ = some (.bool tr)
  d1 : wa.cell? ⟨xv, 0, none⟩ = some (.pointer (some ⟨xb, 0, none⟩))
  d2 : wa.cell? ⟨xb, 2, none⟩ = some (.slice av L.length cv)
  own : wa.ownsRow 0 33 3 (.slice av L.length cv) L.length (ecs E)
  news : ∀ j u, [Value.int .i64 (key : Int), .bool tr, .slice (some ⟨w8.heap.size, 0, none⟩) m m][j]? = some u → wa.cell? ((⟨w9.heap.size, 0, none⟩ : Addr).add j) = some u
  q : ∀ w10, wa.grownBy w10 (Value.slice av L.length cv).ownBlock → w10.cell? ⟨xv, 0, none⟩ = some (.pointer (some ⟨xb, 0, none⟩)) ∧ w10.cell? ⟨xb, 2, none⟩ = some (.slice av L.length cv) ∧ w10.frozen? ⟨xb, 2, none⟩ = false
  pm : ∀ w10 g1 cap1, wa.grownBy w10 (Value.slice av L.length cv).ownBlock → w10.ownsRow 0 33 3 (.slice (some ⟨g1, 0, none⟩) (L.length + 1) cap1) (L.length + 1) (ecs E ++ [Value.int .i64 (key : Int), .bool tr, .slice (some ⟨w8.heap.size, 0, none⟩) m m]) → ((Value.slice av L.length cv).ownBlock = some g1 ∨ g1 = w9.heap.size + 1) →
    PM base w0 fx (w10.setCell ⟨xb, 2, none⟩ (.slice (some ⟨g1, 0, none⟩) (L.length + 1) cap1)) mo xb n sz T1 L1 T (L ++ [(key, if tr then zerosL sz else l)]) bl dl cb ∧ ∀ k ∈ fx, (w10.setCell ⟨xb, 2, none⟩ (.slice (some ⟨g1, 0, none⟩) (L.length + 1) cap1)).heap[k]? = w8.heap[k]?
theorem ref_wait {eb key m c : Nat} {tr : Bool} {a : Option Addr} {l : Bs} (h : PM base w0 fx w8 mo xb n sz T1 L1 T L bl dl cb) (hx : xv ∈ fx) (hxe : eb ∈ fx) (hv : w8.heap[xv]? = some (.cells #[.pointer (some ⟨xb, 0, none⟩)] 29 (0, 0)))
    (he : w8.heap[eb]? = some (.cells #[.int .i64 (key : Int), .bool tr, .slice a m c] 33 (0, 0))) (hP : Pol w8 a m c l) (hm : m ≤ 2000) (hk : key < n) (hLc : L.length + 1 ≤ 1000) :
    ∃ av cv E, w8.cell? ⟨xb, 2, none⟩ = some (.slice av L.length cv) ∧ L.length ≤ cv ∧ cv ≤ maxLen ∧ Calls Tryd.prog 10 #[.slice a m c] w8.drew fun e w9 => e = .returned (.slice (some ⟨w8.heap.size, 0, none⟩) m m) ∧
      WaF base w0 fx w8 mo xb n sz xv eb T1 L1 T L bl dl cb key m c tr a l av cv E w9 (w9.alloc (.cells #[.int .i64 (key : Int), .bool tr, .slice (some ⟨w8.heap.size, 0, none⟩) m m] 33 (0, 0))) := by
  obtain ⟨g0, cap0, av, cv, E, q1, q2, q3, q4, hxl, hxf, hxb, hc1, hc2, hLE, hle, S, r⟩ := h.ref
  have bd : Below w8.heap.size w8 w8.drew := (Below.refl _ _).drew
  refine ⟨av, cv, E, q2, hc1, hc2, (bytes_pol (hP.below bd) (by omega)).mono ?_⟩
  rintro e w9 ⟨rfl, hB, b9⟩
  have b : Below w8.heap.size w8 w9 := bd.trans b9
  have ba : Below w8.heap.size w8 (w9.alloc (.cells #[.int .i64 (key : Int), .bool tr, .slice (some ⟨w8.heap.size, 0, none⟩) m m] 33 (0, 0))) := b.alloc b.size _
  have sa : (w9.alloc (.cells #[.int .i64 (key : Int), .bool tr, .slice (some ⟨w8.heap.size, 0, none⟩) m m] 33 (0, 0))).heap.size = w9.heap.size + 1 := World.size_alloc _ _
  have hnew := heap_alloc_new w9 (.cells #[.int .i64 (key : Int), .bool tr, .slice (some ⟨w8.heap.size, 0, none⟩) m m] 33 (0, 0))
  have hBa : Blk8 (w9.alloc (.cells #[.int .i64 (key : Int), .bool tr, .slice (some ⟨w8.heap.size, 0, none⟩) m m] 33 (0, 0))) w8.heap.size l := (Below.heap_alloc w9 _ _ (lt_of_block hB)).trans hB
  have hvl := lt_of_block hv
  have hel := lt_of_block he
  have hxx : xv ≠ xb := fun e => hxf (e ▸ hx)
  generalize w9.alloc (.cells #[.int .i64 (key : Int), .bool tr, .slice (some ⟨w8.heap.size, 0, none⟩) m m] 33 (0, 0)) = wa at ba sa hnew hBa ⊢
  have vx : (Value.slice av L.length cv).ownBlock ≠ some xb := fun e => (r.vI xb e).2 rfl
  have vf : (Value.slice av L.length cv).ownBlock ≠ some xv := fun e => (r.vI xv e).1.2.2.2 hx
  have ve : (Value.slice av L.length cv).ownBlock ≠ some eb := fun e => (r.vI eb e).1.2.2.2 hxe
  have hex : eb ≠ xb := fun e => hxf (e ▸ hxe)
  have sed : ∀ W, W.heap[xv]? = w8.heap[xv]? → W.heap[eb]? = w8.heap[eb]? → SEd xv xb eb key tr (.slice a m c) W := fun W h1 h2 => ⟨cell_of_one (h1.trans hv), (mr_cells (h2.trans he)).1, (mr_cells (h2.trans he)).2.1, (mr_cells (h2.trans he)).2.2.1⟩
  have hbl := lt_of_block hB
  have hd : Dat wa ⟨some (w8.heap.size, 0), m, m⟩ l := ⟨hP.hlen, Nat.le_refl _, by show m ≤ maxLen; unfold maxLen; omega, (fun e => by cases e), .inr ⟨w8.heap.size, 0, rfl, hBa.row, lt_of_block hBa⟩⟩
  have hsz := ba.size
  refine ⟨rfl, sed _ (b.block xv hvl) (b.block eb hel), sed _ (ba.block xv hvl) (ba.block eb hel), fun w10 hg => ⟨sed _ ((hg.block xv (by omega) (Ne.symm vf)).trans (ba.block xv hvl)) ((hg.block eb (by omega) (Ne.symm ve)).trans (ba.block eb hel)), fun v => sed _ (((Only.setCell w10 ⟨xb, 2, none⟩ v).block xv hxx).trans ((hg.block xv (by omega) (Ne.symm vf)).trans (ba.block xv hvl))) (((Only.setCell w10 ⟨xb, 2, none⟩ v).block eb hex).trans ((hg.block eb (by omega) (Ne.symm ve)).trans (ba.block eb hel)))⟩, cell_of_one ((b.block xv hvl).trans hv), (mr_cells ((b.block xb hxl).trans r.blk)).2.2.1, (mr_cells ((b.block eb hel).trans he)).1, (mr_cells ((b.block eb hel).trans he)).2.1, cell_of_one ((ba.block xv hvl).trans hv), (mr_cells ((ba.block xb hxl).trans r.blk)).2.2.1, ?_, World.news_of_block (fr := (0, 0)) hnew, fun w10 hg => ?_, fun w10 g1 cap1 hg hown hor => ?_⟩
  · have hr := orow_keep r.row fun k hk => ba.block k (r.row.lt k hk).2
    show World.ownsRow wa 0 33 3 _ L.length (ecs E)
    rw [hLE]
    rw [hLE] at hr
    exact hr
  · have hx10 := ((hg.block xb (by omega) (Ne.symm vx)).trans (ba.block xb hxl)).trans r.blk
    have hv10 := ((hg.block xv (by omega) (Ne.symm vf)).trans (ba.block xv hvl)).trans hv
    exact ⟨cell_of_one hv10, (mr_cells hx10).2.2.1, (mr_cells hx10).2.2.2 2⟩
  · have hw := r.waited (e := ⟨key, tr, ⟨some (w8.heap.size, 0), m, m⟩, l⟩) (g1 := g1) (cap1 := cap1) (w9 := w10) ba h.up hd ⟨w8.heap.size, rfl, Nat.le_refl _, lt_of_block hBa⟩ hk hm (by omega) (by rw [← hLE]; exact hown) hg (by rw [sa]; exact hor)
    rw [← hLE] at hw
    have hgs := hg.size
    have o := Only.setCell w10 ⟨xb, 2, none⟩ (.slice (some ⟨g1, 0, none⟩) (L.length + 1) cap1)
    have bb : Below base w8 (w10.setCell ⟨xb, 2, none⟩ (.slice (some ⟨g1, 0, none⟩) (L.length + 1) cap1)) := by
      refine ⟨hg.os.trans ba.os, hg.tape.trans ba.tape, hg.output.trans ba.output, by rw [o.size]; omega, fun k hk => hw.2 k (by have := h.bs; omega) fun hp => by have := hp.1; omega⟩
    exact h.rturn bb hw.1 hw.2
end
end Go.Proofs.YtbngkmlipmhgdaaDoor.Mo
/- A region of a function, taken out of the program's text. By the verifier of shale. -/
namespace Go.Proofs.YtbngkmlipmhgdaaDoor.Mo
open Go Go.RowKit
set_option linter.unusedVariables false
def findRegion (n : Nat) : Code → Option Code
  | .region id ops b => if id = n then some (.region id ops b) else none
  | .seq a b => match findRegion n a with
    | some c => some c
    | none => findRegion n b
  | .block _ c => findRegion n c
  | .loop c => findRegion n c
  | .cond _ a b => match findRegion n a with
    | some c => some c
    | none => findRegion n b
  | _ => none
theorem wp_code {P : Program} {c c' : Code} {Q : Exit → Act → World → Prop} {a : Act} {w : World} (h : c = c') (x : Code.wp P c Q a w) : Code.wp P c' Q a w := h ▸ x
noncomputable def reg21 : Code := (Tryd.f3.body.bind (findRegion 21)).getD .skip
noncomputable def reg34 : Code := (Tryd.f3.body.bind (findRegion 34)).getD .skip
noncomputable def reg41 : Code := (Tryd.f3.body.bind (findRegion 41)).getD .skip
noncomputable def reg43 : Code := (Tryd.f3.body.bind (findRegion 43)).getD .skip
noncomputable def reg45 : Code := (Tryd.f3.body.bind (findRegion 45)).getD .skip
noncomputable def reg59 : Code := (Tryd.f3.body.bind (findRegion 59)).getD .skip
noncomputable def reg61 : Code := (Tryd.f3.body.bind (findRegion 61)).getD .skip
noncomputable def reg67 : Code := (Tryd.f3.body.bind (findRegion 67)).getD .skip
end Go.Proofs.YtbngkmlipmhgdaaDoor.Mo
/- ModelPlays: what its end needs. By the verifier of shale. -/
namespace Go.Proofs.YtbngkmlipmhgdaaDoor.Mo
open Go Go.RowKit Bin
set_option linter.unusedVariables false
set_option linter.unusedSimpArgs false
/-- the range's own count goes on, all else that was there stays. -/
structure RgI (w2 W : World) (nb j : Nat) : Prop where
  os : W.os = w2.os
  tape : W.tape = w2.tape
  output : W.output = w2.output
  size : w2.heap.size ≤ W.heap.size
  same : ∀ k, k < w2.heap.size → k ≠ nb → W.heap[k]? = w2.heap[k]?
  cnt : W.heap[nb]? = some (.cells #[.int .i64 (j : Int)] 3 (0, 0))
theorem RgI.fr {w2 X Y : World} {nb j : Nat} (h : RgI w2 X nb j) (f : Fr w2.heap.size [] [nb] X Y) : RgI w2 Y nb j :=
  ⟨f.os.trans h.os, f.tape.trans h.tape, f.output.trans h.output, Nat.le_trans h.size f.size, fun k hk hne => (f.same k (.inl ⟨hk, by simp⟩) (Nat.lt_of_lt_of_le hk h.size)).trans (h.same k hk hne), (f.same nb (.inr (by simp)) (lt_of_block h.cnt)).trans h.cnt⟩
section
variable {base mo xb n sz cb xv nb j : Nat} {w0 w2 w8 W : World} {fx bl dl : List Nat} {T1 T2 T : Nat → Bs} {L1 L2 L : List (Nat × Bs)}
theorem PM.fr (h : PM base w0 fx w2 mo xb n sz T1 L1 T2 L2 bl dl cb) (hq : nb ∈ fx) (f : RgI w2 W nb j) : PM base w0 fx W mo xb n sz T1 L1 T2 L2 bl dl cb := by
  have hf := h.f nb hq
  have hbs := h.bs
  refine ⟨h.b.trans ⟨f.os, f.tape, f.output, f.size, fun k hk => f.same k (by omega) (by omega)⟩, Nat.le_trans h.bs f.size, h.m.keep f.size fun k hk => f.same k (h.m.lt k hk) ?_, h.r.keep f.size fun k hk hl => f.same k hl ?_, h.g, fun k hk => ⟨(h.f k hk).1, Nat.lt_of_lt_of_le (h.f k hk).2.1 f.size, (h.f k hk).2.2⟩⟩
  · rintro rfl
    rcases hk with hk | hk
    · exact hf.2.2.1 hk
    · exact hf.2.2.2 hk
  · rintro rfl
    exact hk.2.2.2 hq
/-- a block of the range's own is kept apart too. -/
theorem PM.frD {D : Nat} (h : PM base w0 fx w2 mo xb n sz T1 L1 T2 L2 bl dl cb) (hq : nb ∈ fx) (f : RgI w2 W nb j) (h1 : w2.heap.size ≤ D) (h2 : D < W.heap.size) : PM base w0 (D :: fx) W mo xb n sz T1 L1 T2 L2 bl dl cb := by
  have hp := h.fr hq f
  have hf := h.f nb hq
  have hbs := h.bs
  refine ⟨hp.b, hp.bs, hp.m, (h.r.mono (In' := PIn base bl dl (D :: fx)) fun k hk hl => ⟨hk.1, hk.2.1, hk.2.2.1, fun hm => ?_⟩).keep f.size fun k hk hl => f.same k hl ?_, hp.g, fun k hk => ?_⟩
  · rcases List.mem_cons.1 hm with rfl | hm
    · omega
    · exact hk.2.2.2 hm
  · rintro rfl
    exact hk.2.2.2 (List.mem_cons_of_mem _ hq)
  · rcases List.mem_cons.1 hk with rfl | hk
    · exact ⟨by omega, h2, fun hm => by have := h.m.lt k (.inl hm); omega, fun hm => by have := h.m.lt k (.inr hm); omega⟩
    · exact hp.f k hk
/-- the first held test: all that both say. -/
def F1 (w8 : World) (n sz : Nat) (T : Nat → Bs) (L : List (Nat × Bs)) (og : Nat) (W : World) : Prop := (∃ kb, AllS W og n sz kb (app T L)) ∧ Below w8.heap.size w8 W
def F2 (w8 : World) (n sz : Nat) (T : Nat → Bs) (L : List (Nat × Bs)) (og g cap : Nat) (W : World) : Prop := F1 w8 n sz T L og W ∧ ∃ In S, FL W In g n S (app T L)
theorem fin45 (h : PM base w0 fx w8 mo xb n sz T L T L bl dl cb) (hv : w8.heap[xv]? = some (.cells #[.pointer (some ⟨xb, 0, none⟩)] 29 (0, 0))) :
    ∃ av cv, SRd xv xb (.slice av L.length cv) w8.drew ∧ L.length ≤ 1000 ∧ w8.cell? ⟨xb, 2, none⟩ = some (.slice av L.length cv) ∧ xb < w8.heap.size ∧
    Calls Tryd.prog 17 #[.pointer (some ⟨mo, 0, none⟩)] w8.drew (fun e w9 => ∃ og, e = .returned (.slice (some ⟨og, 0, none⟩) n n) ∧ SRd xv xb (.slice av L.length cv) w9 ∧ F1 w8 n sz T L og w9) ∧
    (∀ W og, F1 w8 n sz T L og W → Calls Tryd.prog 9 #[.pointer (some ⟨xb, 0, none⟩), .int .i64 (L.length : Int)] W fun e w9 => ∃ g cap, e = .returned (.slice (some ⟨g, 0, none⟩) n cap) ∧ SRd xv xb (.slice av L.length cv) w9 ∧ F2 w8 n sz T L og g cap w9) ∧
    (∀ W og g cap, F2 w8 n sz T L og g cap W → Calls Tryd.prog 16 #[.slice (some ⟨og, 0, none⟩) n n, .slice (some ⟨g, 0, none⟩) n cap] W fun e w9 => e = .returned (.bool true) ∧ SRd xv xb (.slice av L.length cv) w9 ∧ Below w8.heap.size w8 w9) := by
  obtain ⟨g0, cap0, av, cv, E, r1, r2, _, _, hxl, _, _, _, _, _, hle, _⟩ := h.ref
  have hl := h.m.lens
  have hlen := app_len L T hl.1 (fun p hp => (hl.2.1 p hp).2)
  have bd : Below w8.heap.size w8 w8.drew := (Below.refl w8.heap.size w8).drew
  have hS : ∀ W, Below w8.heap.size w8 W → SRd xv xb (.slice av L.length cv) W := fun W b => ⟨cell_of_one ((b.block xv (lt_of_block hv)).trans hv), (b.cell (p := ⟨xb, 2, none⟩) hxl).trans r2⟩
  refine ⟨av, cv, hS _ bd, hle, r2, hxl, (sectors_any (h.m.below bd)).mono ?_, fun W og hF => (front_any (h.r.below hF.2) L.length (by omega)).mono ?_, fun W og g cap hF => ?_⟩
  · rintro e w9 ⟨kb, rfl, hA, b⟩
    exact ⟨_, rfl, hS _ (bd.trans b), ⟨kb, hA⟩, bd.trans b⟩
  · rintro e w9 ⟨g, cap, rfl, h1, h2, ⟨S, hS'⟩, b⟩
    rw [List.take_length] at hS'
    obtain ⟨⟨kb, hA⟩, b0⟩ := hF
    have b1 := b0.trans (b.mono b0.size)
    exact ⟨g, cap, rfl, hS _ b1, ⟨⟨kb, hA.below b⟩, b1⟩, _, S, hS'⟩
  · obtain ⟨⟨⟨kb, hA⟩, b0⟩, In, S, hS'⟩ := hF
    have hc := sameLists_any (c1 := n) (c2 := cap) (hA.lst hlen hl.2.2.2.2.2.1) hS'.lst hl.2.2.2.1 (by have := hl.2.2.2.1; unfold maxLen; omega)
    rw [decide_eq_true (show n = n ∧ eqN (app T L) (app T L) n from ⟨rfl, fun _ _ => rfl⟩)] at hc
    refine hc.mono ?_
    rintro e w9 ⟨rfl, b⟩
    exact ⟨rfl, hS _ (b0.trans (b.mono b0.size)), b0.trans (b.mono b0.size)⟩
/-- what stands when both have settled. -/
structure FinS (base : Nat) (w0 : World) (fx : List Nat) (A B mo n sz : Nat) (T' : Nat → Bs) (bl dl : List Nat) (cb g : Nat) (S : Nat → Sd) (M : Nat → Bs) (W : World) : Prop where
  b : Below base w0 W
  bs : base ≤ A ∧ A ≤ B ∧ B ≤ W.heap.size
  m : MoAt W mo n sz T' [] bl dl cb
  fl : FL W (fun z => A ≤ z ∧ z < B) g n S M
  eq : eqN T' M n
  g : ∀ z ∈ bl, base ≤ z ∧ (z < A ∨ B ≤ z)
  d : ∀ z ∈ dl, z < A
  f : ∀ z ∈ fx, base ≤ z ∧ z < A ∧ z ∉ bl ∧ z ∉ dl
variable {A B g cap k k0 : Nat} {S : Nat → Sd} {M T' : Nat → Bs} {w9 w10 W' : World}
theorem FinS.below (h : FinS base w0 fx A B mo n sz T' bl dl cb g S M W) (b : Below W.heap.size W W') : FinS base w0 fx A B mo n sz T' bl dl cb g S M W' :=
  ⟨h.b.trans (b.mono (by have := h.bs; omega)), ⟨h.bs.1, h.bs.2.1, Nat.le_trans h.bs.2.2 b.size⟩, h.m.below b, h.fl.below b, h.eq, h.g, h.d, h.f⟩
theorem fin63 (h : PM base w0 fx w9 mo xb n sz T L T L bl dl cb) (hF : FL w9 (fun z => A ≤ z) g n S (app T (L.take k))) (hk : k ≤ L.length) (hbl : ∀ z ∈ bl, z < A) (hdl : ∀ z ∈ dl, z < A) :
    Calls Tryd.prog 19 #[.pointer (some ⟨mo, 0, none⟩), .slice (some ⟨g, 0, none⟩) n cap] w9 fun e w10 => ∃ k0 blF, k0 ≤ L.length ∧ eqN (app T (L.take k0)) (app T (L.take k)) n ∧ (∀ j, j < k0 → ¬ eqN (app T (L.take j)) (app T (L.take k)) n) ∧ e = .returned (.tuple #[.int .i64 (k0 : Int), .bool true]) ∧
      PM base w0 fx w10 mo xb n sz (app T (L.take k0)) [] T L blF dl cb ∧ (∀ z ∈ fx, w10.heap[z]? = w9.heap[z]?) ∧ FL w10 (fun z => A ≤ z ∧ z < w9.heap.size) g n S (app T (L.take k)) ∧ (∀ z ∈ blF, z < A ∨ w9.heap.size ≤ z) ∧ w9.heap.size ≤ w10.heap.size := by
  have hl := h.m.lens
  refine (settl_any (c2 := cap) h.m hF.lst (by have := hl.2.2.2.1; unfold maxLen; omega)).mono ?_
  rintro e w10 (⟨k0, h1, h2, h3, rfl, blF, hM, t⟩ | ⟨h1, _⟩)
  · have hp := h.turn hM t (fun z hz => .inl hz)
    refine ⟨k0, blF, h1, h2.2, fun j hj he => h3 j hj ⟨rfl, he⟩, rfl, hp.1, hp.2, ((hF.mono (In' := fun z => A ≤ z ∧ z < w9.heap.size) fun z hz hl => ⟨hz, hl⟩).same t.size fun z hz hl => t.same z hl fun hm => ?_), fun z hz => ?_, t.size⟩
    · have := hbl z hm; have := hz.1; omega
    · rcases t.new z hz with hm | hm
      · exact .inl (hbl z hm)
      · exact .inr hm
  · exact absurd ⟨rfl, fun _ _ => rfl⟩ (h1 k hk)
theorem fin64 (h : PM base w0 fx w10 mo xb n sz T' [] T L bl dl cb) (hF : FL w10 (fun z => A ≤ z ∧ z < B) g n S M) (hk : k0 ≤ L.length) (he : eqN (app T (L.take k0)) M n) (hT : T' = app T (L.take k0)) (hm : ∀ j, j < k0 → ¬ eqN (app T (L.take j)) M n)
    (hbl : ∀ z ∈ bl, z < A ∨ B ≤ z) (hdl : ∀ z ∈ dl, z < A) (hf : ∀ z ∈ fx, z < A) (hx : xb < A) (hA : base ≤ A ∧ A ≤ B ∧ B ≤ w10.heap.size) :
    Calls Tryd.prog 20 #[.pointer (some ⟨xb, 0, none⟩), .slice (some ⟨g, 0, none⟩) n cap] w10 fun e w11 => e = .returned (.int .i64 (k0 : Int)) ∧ FinS base w0 fx A B mo n sz T' bl dl cb g S M w11 ∧ ∀ z ∈ fx, w11.heap[z]? = w10.heap[z]? := by
  refine (settle_ref h.r h.up hF.lst hk he hm).mono ?_
  rintro e w11 ⟨rfl, b, hs, hsame⟩
  obtain ⟨g0, cap0, av, cv, E, _, _, _, _, _, hxf, hxb, _, _, _, _, S0, r⟩ := h.ref
  have hxI := r.xI
  have hlt := h.m.lt
  refine ⟨rfl, ⟨h.b.trans (b.mono hxb), ⟨hA.1, hA.2.1, Nat.le_trans hA.2.2 hs⟩, h.m.keep hs fun z hz => hsame z (hlt z hz) ?_, hF.same hs fun z hz hl => hsame z hl (by have := hz.1; omega), by rw [hT]; exact he, fun z hz => ⟨h.g z hz, hbl z hz⟩, hdl, fun z hz => ⟨(h.f z hz).1, hf z hz, (h.f z hz).2.2⟩⟩, fun z hz => hsame z (h.f z hz).2.1 ?_⟩
  · rintro rfl
    rcases hz with hz | hz
    · exact hxI.2.1 hz
    · exact hxI.2.2.1 hz
  · rintro rfl
    exact hxf hz
theorem FinS.waits (h : FinS base w0 fx A B mo n sz T' bl dl cb g S M W) : Calls Tryd.prog 15 #[.pointer (some ⟨mo, 0, none⟩)] W fun e w' => e = .returned (.int .i64 0) ∧ W = w' := waiting_any h.m
theorem FinS.secs (h : FinS base w0 fx A B mo n sz T' bl dl cb g S M W) : Calls Tryd.prog 17 #[.pointer (some ⟨mo, 0, none⟩)] W fun e w' => ∃ og, e = .returned (.slice (some ⟨og, 0, none⟩) n n) ∧ FinS base w0 fx A B mo n sz T' bl dl cb g S M w' ∧ Below W.heap.size W w' ∧
    Calls Tryd.prog 16 #[.slice (some ⟨og, 0, none⟩) n n, .slice (some ⟨g, 0, none⟩) n cap] w' fun e w6 => e = .returned (.bool true) ∧ FinS base w0 fx A B mo n sz T' bl dl cb g S M w6 ∧ Below W.heap.size W w6 := by
  have hl := h.m.lens
  refine (sectors_any h.m).mono ?_
  rintro e w' ⟨kb, rfl, hA, b⟩
  have h' := h.below b
  refine ⟨_, rfl, h', b, ?_⟩
  have hc := sameLists_any (c1 := n) (c2 := cap) (hA.lst (app_len [] T' hl.1 (fun p hp => (nomatch hp))) hl.2.2.2.2.2.1) h'.fl.lst hl.2.2.2.1 (by have := hl.2.2.2.1; unfold maxLen; omega)
  rw [decide_eq_true (show n = n ∧ eqN (app T' []) M n from ⟨rfl, h.eq⟩)] at hc
  refine hc.mono ?_
  rintro e w6 ⟨rfl, b6⟩
  exact ⟨rfl, h'.below b6, b.trans (b6.mono b.size)⟩
theorem b_inc (x : BitVec 8) : IntKind.u8.wrap (Bits32.b x + 1) = Bits32.b (x + 1) := by
  show (Bits32.b x + 1) % 256 = _
  unfold Bits32.b
  rw [BitVec.toNat_add]
  have : (1#8).toNat = 1 := rfl
  have h1 : (1 : BitVec 8).toNat = 1 := rfl
  rw [h1]
  omega
theorem inc_ne (x : BitVec 8) : x ≠ x + 1 := fun e => by
  have h := congrArg BitVec.toNat e
  rw [BitVec.toNat_add, show (1 : BitVec 8).toNat = 1 from rfl] at h
  have := x.isLt
  omega
theorem fin67 (h : FinS base w0 fx A B mo n sz T' bl dl cb g S M W) : ∃ kb m c b0, W.cell? ⟨g, 0, none⟩ = some (.slice (some ⟨kb, 0, none⟩) m c) ∧ 1 ≤ m ∧ m ≤ c ∧ kb ≠ g ∧ W.cell? ⟨kb, 0, none⟩ = some (.int .u8 (Bits32.b b0)) ∧ W.frozen? ⟨kb, 0, none⟩ = false ∧ 1 ≤ n ∧
    ∀ W5 v, W5 = W → v = Bits32.b (b0 + 1) → (∀ z ∈ fx, (W5.setCell ⟨kb, 0, none⟩ (.int .u8 v)).heap[z]? = W.heap[z]?) ∧ Calls Tryd.prog 19 #[.pointer (some ⟨mo, 0, none⟩), .slice (some ⟨g, 0, none⟩) n cap] (W5.setCell ⟨kb, 0, none⟩ (.int .u8 v)) fun e w' => e = .returned (.tuple #[.int .i64 0, .bool false]) ∧ Below base w0 w' ∧ ∀ z ∈ fx, w'.heap[z]? = W.heap[z]? := by
  have hl := h.m.lens
  have hn1 : 0 < n := by have := hl.2.2.1; omega
  obtain ⟨d, kb, hq, hI, hlt, hkg, cs, t, hblk⟩ := h.fl.dat 0 hn1
  have hc0 := (h.fl.cell hn1).1
  have hM0 : (M 0).length = sz := by rw [← h.eq 0 hn1]; exact hl.1 0
  have hb0 : W.cell? ⟨kb, 0, none⟩ = some (.int .u8 (Bits32.b (nth8 (M 0) 0))) := by
    rcases d.hrow with h0 | ⟨bb, off, e, hr, _⟩
    · have := d.hlen; omega
    · unfold Sd.addr at e
      rw [hq] at e
      simp only [Option.map_some, Option.some.injEq, Addr.mk.injEq, and_true] at e
      obtain ⟨rfl, rfl⟩ := e
      exact hr 0 (by omega)
  refine ⟨kb, (S 0).n, (S 0).c, nth8 (M 0) 0, by rw [hc0]; simp [Sd.addr, hq], by have := d.hlen; omega, d.hcap, hkg, hb0, by unfold World.frozen?; simp only; rw [hblk]; rfl, hl.2.2.1, ?_⟩
  rintro W5 v rfl rfl
  have o := Only.setCell W5 ⟨kb, 0, none⟩ (.int .u8 (Bits32.b (nth8 (M 0) 0 + 1)))
  have hnew : (W5.setCell ⟨kb, 0, none⟩ (.int .u8 (Bits32.b (nth8 (M 0) 0 + 1)))).heap[kb]? = _ := heap_setCell_same W5 kb 0 _ _ _ hblk
  have hcs : 0 < cs.size := by
    rw [cell_of_row W5 kb 0 cs t (0, 0) hblk] at hb0
    exact (Array.getElem?_eq_some_iff.1 hb0).1
  have hbs := h.bs
  have hfx : ∀ z ∈ fx, (W5.setCell ⟨kb, 0, none⟩ (.int .u8 (Bits32.b (nth8 (M 0) 0 + 1)))).heap[z]? = W5.heap[z]? := fun z hz => o.block z (by have := (h.f z hz).2.1; have := hI.1; show z ≠ kb; omega)
  have hsz : W5.heap.size ≤ (W5.setCell ⟨kb, 0, none⟩ (.int .u8 (Bits32.b (nth8 (M 0) 0 + 1)))).heap.size := by rw [o.size]; exact Nat.le_refl _
  have hb : Below base w0 (W5.setCell ⟨kb, 0, none⟩ (.int .u8 (Bits32.b (nth8 (M 0) 0 + 1)))) := h.b.setCell (by have := hI.1; show base ≤ kb; omega) _
  have hm := h.m.keep hsz fun z hz => o.block z (by
    show z ≠ kb
    rcases hz with hz | hz
    · have := (h.g z hz).2; have := hI.1; have := hI.2; omega
    · have := h.d z hz; have := hI.1; omega)
  have hL : LstAt (W5.setCell ⟨kb, 0, none⟩ (.int .u8 (Bits32.b (nth8 (M 0) 0 + 1)))) (some ⟨g, 0, none⟩) n (fun i => if (S i).q = some (kb, 0) then (M i).set 0 (nth8 (M 0) 0 + 1) else M i) := fun i hi => by
    obtain ⟨di, ki, hqi, hIi, hlti, hkgi, _⟩ := h.fl.dat i hi
    refine ⟨g, 0, S i, rfl, by rw [o.size]; exact h.fl.lt, by rw [Nat.zero_add]; exact (o.cell (p := ⟨g, i, none⟩) (Ne.symm hkg)).trans (h.fl.cell hi).1, ?_⟩
    by_cases e : (S i).q = some (kb, 0)
    · show Dat _ _ (if (S i).q = some (kb, 0) then _ else _)
      rw [if_pos e]
      refine ⟨by rw [List.length_set]; exact di.hlen, di.hcap, di.hmost, di.hnil, ?_⟩
      rcases di.hrow with h0 | ⟨bb, off, ea, hr, hbb⟩
      · exact .inl h0
      · have ea' := ea
        unfold Sd.addr at ea'
        rw [e] at ea'
        simp only [Option.map_some, Option.some.injEq, Addr.mk.injEq, and_true] at ea'
        obtain ⟨rfl, rfl⟩ := ea'
        refine .inr ⟨kb, 0, ea, fun j hj => ?_, by rw [o.size]; exact hbb⟩
        rw [List.length_set] at hj
        have hj0 := hr j hj
        rw [Nat.zero_add] at hj0 ⊢
        rw [cell_of_row _ kb j _ t (0, 0) hnew]
        rw [cell_of_row W5 kb j cs t (0, 0) hblk] at hj0
        by_cases ej : j = 0
        · subst ej
          rw [Array.getElem?_setIfInBounds_self_of_lt hcs]
          congr 3
          unfold nth8
          simp [hj]
        · rw [Array.getElem?_setIfInBounds_ne (Ne.symm ej), hj0]
          congr 3
          unfold nth8
          rw [List.getD_eq_getElem?_getD, List.getD_eq_getElem?_getD, List.getElem?_set_ne (Ne.symm ej)]
    · show Dat _ _ (if (S i).q = some (kb, 0) then _ else _)
      rw [if_neg e]
      refine Dat.same (s := S i) di hsz fun p hp => o.block p.1 (by
        show p.1 ≠ kb
        rw [hqi] at hp e
        cases hp
        intro e2
        exact e (by rw [show ki = kb from e2]))
  refine ⟨hfx, (settl_any (c2 := cap) hm hL (by have := hl.2.2.2.1; unfold maxLen; omega)).mono ?_⟩
  rintro e w' (⟨k, h1, h2, _⟩ | ⟨_, rfl, b'⟩)
  · exfalso
    have hk0 : k = 0 := by simpa using h1
    subst hk0
    have h3 := h2.2 0 hn1
    have h4 : T' 0 = M 0 := h.eq 0 hn1
    have h5 : app T' (List.take 0 []) 0 = T' 0 := rfl
    rw [h5, h4] at h3
    dsimp only at h3
    rw [if_pos hq] at h3
    have h6 := congrArg (fun l => nth8 l 0) h3
    have h7 : nth8 ((M 0).set 0 (nth8 (M 0) 0 + 1)) 0 = nth8 (M 0) 0 + 1 := by
      have : 0 < (M 0).length := by have := hl.2.2.2.2.1; omega
      unfold nth8
      simp [this]
    exact inc_ne (nth8 (M 0) 0) (h6.trans h7)
  · exact ⟨rfl, hb.trans (b'.mono (by rw [o.size]; omega)), fun z hz => (b'.block z (by have := (h.f z hz).2.1; rw [o.size]; omega)).trans (hfx z hz)⟩
/-- behind the range over the fronts. -/
structure FinP (base : Nat) (w0 : World) (D nb rb sb xv mo xb n sz : Nat) (T : Nat → Bs) (L : List (Nat × Bs)) (bl dl : List Nat) (cb : Nat) (W : World) : Prop where
  p : PM base w0 [D, nb, rb, sb, xv] W mo xb n sz T L T L bl dl cb
  r : W.heap[rb]? = some (.cells #[.bool false] 4 (0, 0))
  v : W.heap[xv]? = some (.cells #[.pointer (some ⟨xb, 0, none⟩)] 29 (0, 0))
  d : W.heap[D]? = some (.deferred (some []))
theorem FinP.below {D rb sb : Nat} (h : FinP base w0 D nb rb sb xv mo xb n sz T L bl dl cb W) (b : Below W.heap.size W W') : FinP base w0 D nb rb sb xv mo xb n sz T L bl dl cb W' :=
  ⟨h.p.below b, (b.block rb (lt_of_block h.r)).trans h.r, (b.block xv (lt_of_block h.v)).trans h.v, (b.block D (lt_of_block h.d)).trans h.d⟩
theorem FinP.cells {D rb sb : Nat} (h : FinP base w0 D nb rb sb xv mo xb n sz T L bl dl cb W) : ∃ av cv, W.cell? ⟨xv, 0, none⟩ = some (.pointer (some ⟨xb, 0, none⟩)) ∧ W.cell? ⟨xb, 2, none⟩ = some (.slice av L.length cv) ∧ L.length ≤ 1000 ∧ xb < W.heap.size := by
  obtain ⟨g0, cap0, av, cv, E, r1, r2, _, _, hxl, _, _, _, _, _, hle, _⟩ := h.p.ref
  exact ⟨av, cv, cell_of_one h.v, r2, hle, hxl⟩
theorem in_both {m : Nat} {X : Exit → Act → World → Prop} {e : Exit} {a : Act} {w : World} (he : e = .normal ∨ e = .exit m) (h : X .normal a w) : Exit.inBlock m X e a w := by
  rcases he with rfl | rfl
  · exact h
  · show (if m = m then X .normal a w else X (.exit m) a w)
    rw [if_pos rfl]
    exact h
end
end Go.Proofs.YtbngkmlipmhgdaaDoor.Mo
