/- The document's pool: its lists, made anew. By the verifier of shale. -/
import Derived.Test.YtaaegkjbmomjbaaDoorPoRef2
import Derived.Maps.AppendAt
import Derived.Test.YtaaegkjbmomjbaaDoorRow
import Derived.Deep.Cut
import Derived.BigRegion
namespace Go.Proofs.YtaaegkjbmomjbaaDoor.Po
open Go Go.RowKit Hp
set_option linter.unusedVariables false
set_option linter.unusedSimpArgs false
theorem infoF : ∃ i, Tryd.prog.info? 42 = some i ∧ i.zero = some (.agg #[.int .i64 0, .int .i64 0]) ∧ i.size = 2 ∧ i.bytes = 16 :=
  info_parts (show (Tryd.prog.info? 42).map (fun i => (i.zero, i.size, i.bytes)) = some (some (.agg #[.int .i64 0, .int .i64 0]), 2, 16) by kernel_rfl)
theorem icells_one (L : List It) : ∀ u ∈ icells L, u.oneCell' = true := by
  intro u hu
  unfold icells at hu
  obtain ⟨x, _, h⟩ := List.mem_flatMap.1 hu
  exact it_one x u h
theorem icells_append (L M : List It) : icells (L ++ M) = icells L ++ icells M := by unfold icells; simp
/-- so many items, as they are read. -/
def SrcP (w : World) (a : Option Addr) (R : List It) : Prop := (a = none → R = []) ∧ ∀ p, a = some p → ∃ g o, p = ⟨g, o, none⟩ ∧ ∀ i, i < R.length → w.cell? ⟨g, o + i * 2, none⟩ = some (.int .i64 (R[i]!).b) ∧ w.cell? ⟨g, o + i * 2 + 1, none⟩ = some (.int .i64 (R[i]!).w)
theorem icells_at (R : List It) {j : Nat} {u : Value} (h : (icells R)[j]? = some u) : ∃ i, i < R.length ∧ ((j = i * 2 ∧ u = .int .i64 (R[i]!).b) ∨ (j = i * 2 + 1 ∧ u = .int .i64 (R[i]!).w)) := by
  have hj := (List.getElem?_eq_some_iff.1 h).1
  rw [icells_len] at hj
  refine ⟨j / 2, by omega, ?_⟩
  obtain ⟨k1, k2⟩ := icells_get R (j / 2) (by omega)
  rcases Nat.mod_two_eq_zero_or_one j with e | e
  · left
    refine ⟨by omega, ?_⟩
    rw [show j / 2 * 2 = j from by omega, h] at k1
    exact Option.some.inj k1
  · right
    refine ⟨by omega, ?_⟩
    rw [show j / 2 * 2 + 1 = j from by omega, h] at k2
    exact Option.some.inj k2
/-- append onto a row of one's own, whatever is appended. -/
theorem app_items {W : World} {base h n cap : Nat} {xs : List Value} (hown : W.ownsRow base 42 2 (.slice (some ⟨h, 0, none⟩) n cap) n xs) (hb : base ≤ W.heap.size) {a : Option Addr} {m c : Nat} {R : List It} (hm : m = R.length) (hS : SrcP W a R) (hn : n + m ≤ 5000) (ty : TypeId) :
    ∃ g' cap' W', (Builtin.append_ #[27, 27] ty #[.slice (some ⟨h, 0, none⟩) n cap, .slice a m c]).run Tryd.prog W = .ok (.slice (some ⟨g', 0, none⟩) (n + m) cap') W' ∧ W'.ownsRow base 42 2 (.slice (some ⟨g', 0, none⟩) (n + m) cap') (n + m) (xs ++ icells R) ∧ W.grownBy W' (some h) ∧ (g' = h ∨ g' = W.heap.size) := by
  obtain ⟨i0, hi, hz0, hz1, hz2⟩ := infoF
  have hU := Tryd.underlying27
  cases a with
  | none =>
    have hR := hS.1 rfl
    subst hR
    have hm0 : m = 0 := hm
    subst hm0
    have hnc : n ≤ cap := by
      rcases hown.2 with ⟨h0, _⟩ | ⟨g, cap', cur, e, _, _, h1, _⟩
      · cases h0
      · cases e; exact h1
    refine ⟨h, cap, W, ?_, by simpa [icells] using hown, World.grownBy.refl W _, .inl rfl⟩
    simp [Builtin.append_, run_underlying hU, sizeOf, typeInfo, hi, Builtin.lenOf, Builtin.firstCells, hnc, storeCells]
  | some p =>
    obtain ⟨g, o, rfl, hc⟩ := hS.2 p rfl
    have hnews : ∀ j u, (icells R)[j]? = some u → W.cell? ((⟨g, o, none⟩ : Addr).add j) = some u := by
      intro j u hj
      obtain ⟨i, hi, ⟨rfl, rfl⟩ | ⟨rfl, rfl⟩⟩ := icells_at R hj
      · rw [add_row]; exact (hc i hi).1
      · rw [add_row, ← Nat.add_assoc]; exact (hc i hi).2
    obtain ⟨v', w', hrun, h2, h3, h4, h5⟩ := run_append_own_at (P := Tryd.prog) W base 27 ty 42 i0 (.agg #[.int .i64 0, .int .i64 0]) 2 16 hU hi hz0 hz1 hz2 rfl (by decide) _ n xs hown ⟨g, o, none⟩ m c (icells R) (by rw [icells_len, hm]) hnews (icells_one R) (by unfold maxLen; omega) (by omega) hb
    rcases h2.2 with ⟨e, h0⟩ | ⟨g', cap', cur, rfl, _⟩
    · exact absurd (h4.1 e).1 (by simp)
    · refine ⟨g', cap', w', hrun, h2, h3, ?_⟩
      rcases h5 with h5 | h5
      · left; simpa [Value.ownBlock] using h5
      · right; simpa [Value.ownBlock] using h5
def freeObj (N : Nat) : Obj := .cells (madeCells (Value.agg #[.int .i64 0, .int .i64 0]).cells (N * 2)) 42 (0, 0)
theorem madeF (W : World) (N : Nat) (hN : N ≤ 5000) : (Instr.makeSlice 27 (.int .i64 0) (.int .i64 (N : Int))).run Tryd.prog W = .ok (.slice (some ⟨W.heap.size, 0, none⟩) 0 N) (W.alloc (freeObj N)) := by
  obtain ⟨i0, hi, hz0, hz1, hz2⟩ := infoF
  rw [run_make (P := Tryd.prog) W 27 42 i0 (.agg #[.int .i64 0, .int .i64 0]) Tryd.underlying27 hi hz0 .i64 .i64 0 (N : Int) (by omega) (by omega) (by rw [hz2]; omega) (by omega)]
  unfold freeObj
  rw [hz1]
  rfl
theorem madeF_own (W : World) (N : Nat) (hN : N ≤ 5000) : (W.alloc (freeObj N)).ownsRow W.heap.size 42 2 (.slice (some ⟨W.heap.size, 0, none⟩) 0 N) 0 [] :=
  ⟨by simp, .inr ⟨_, N, _, rfl, Nat.le_refl _, heap_alloc_new W _, Nat.zero_le _, by unfold maxLen; omega, size_madeCells _ _, by simp⟩⟩
theorem at_take (R : List It) {i k : Nat} (h : k < i) : (R.take i)[k]! = R[k]! := take_at R h
theorem at_drop (R : List It) {j k : Nat} (h : j + k < R.length) : (R.drop j)[k]! = R[j + k]! := by
  rw [getElem!_pos _ k (by simp; omega), getElem!_pos R (j + k) h, List.getElem_drop]
theorem src_take {w : World} {base xb : Nat} {a : Option Addr} {R : List It} (h : ReadsP w base xb a R) (i : Nat) : SrcP w a (R.take i) := by
  refine ⟨fun e => ?_, fun p hp => ?_⟩
  · have : R = [] := by
      by_cases h0 : 0 < R.length
      · exact absurd e (h.1 h0)
      · exact List.length_eq_zero_iff.1 (by omega)
    rw [this]; simp
  · obtain ⟨g, o, rfl, _, _, _, h4⟩ := h.2 p hp
    refine ⟨g, o, rfl, fun k hk => ?_⟩
    have hk2 : k < i ∧ k < R.length := by simp at hk; omega
    rw [at_take R hk2.1]
    exact h4 k hk2.2
theorem src_drop {w : World} {base xb g o : Nat} {R : List It} (h : ReadsP w base xb (some ⟨g, o, none⟩) R) (j : Nat) : SrcP w (some ⟨g, o + j * 2, none⟩) (R.drop j) := by
  refine ⟨(fun e => (nomatch e)), fun p hp => ?_⟩
  obtain ⟨g', o', e, _, _, _, h4⟩ := h.2 _ rfl
  cases e
  cases hp
  refine ⟨g, o + j * 2, rfl, fun k hk => ?_⟩
  have hk2 : j + k < R.length := by simp at hk; omega
  rw [at_drop R hk2, show o + j * 2 + k * 2 = o + (j + k) * 2 from by omega]
  exact h4 _ hk2
theorem src_none {w : World} {a : Option Addr} (h : ∀ p, a = some p → ∃ g o, p = (⟨g, o, none⟩ : Addr)) : SrcP w a [] := ⟨fun _ => rfl, fun p hp => by
  obtain ⟨g, o, rfl⟩ := h p hp
  exact ⟨g, o, rfl, fun i hi => absurd hi (by simp)⟩⟩
theorem SrcP.same {w w' : World} {a : Option Addr} {R : List It} (h : SrcP w a R) (o : ∀ p, a = some p → w'.heap[p.block]? = w.heap[p.block]?) : SrcP w' a R := by
  refine ⟨h.1, fun p hp => ?_⟩
  obtain ⟨g, q, rfl, h4⟩ := h.2 p hp
  exact ⟨g, q, rfl, fun i hi => ⟨(World.cell?_of_block (a := ⟨g, _, none⟩) (show w'.heap[g]? = w.heap[g]? from o _ hp)).trans (h4 i hi).1, (World.cell?_of_block (a := ⟨g, _, none⟩) (show w'.heap[g]? = w.heap[g]? from o _ hp)).trans (h4 i hi).2⟩⟩
/-- the new list, laid into the pool. -/
theorem ref_new {w W W1 W2 : World} {base xb c g cap m : Nat} {a : Option Addr} {R R' : List It} {r : Value} (Q : RefP w base xb a c R) (b : Below w.heap.size w W1) (hown : W1.ownsRow w.heap.size 42 2 (.slice (some ⟨g, 0, none⟩) m cap) m (icells R')) (hm : m = R'.length) :
    ROut w base xb a R' r (.returned r) (W1.setCell ⟨xb, 0, none⟩ (.slice (some ⟨g, 0, none⟩) m cap)) := by
  subst hm
  have hg : w.heap.size ≤ g ∧ g < W1.heap.size := hown.lt g rfl
  have hxb := Q.lt
  have hne : g ≠ xb := by omega
  have o := Only.setCell W1 ⟨xb, 0, none⟩ (.slice (some ⟨g, 0, none⟩) R'.length cap)
  have hcap : R'.length ≤ cap ∧ cap ≤ maxLen ∧ ∀ i, i < R'.length → W1.cell? ⟨g, i * 2, none⟩ = some (.int .i64 (R'[i]!).b) ∧ W1.cell? ⟨g, i * 2 + 1, none⟩ = some (.int .i64 (R'[i]!).w) := by
    rcases hown.2 with ⟨h0, _⟩ | ⟨g', cap', cur, hv, hbg, hh, hnc, hmx, hs, ht⟩
    · cases h0
    · cases hv
      refine ⟨hnc, hmx, fun i hi => ?_⟩
      have hl := icells_len R'
      have key : ∀ j, j < (icells R').length → W1.cell? ⟨g, j, none⟩ = (icells R')[j]? := by
        intro j hj
        unfold World.cell?
        simp only
        rw [hh]
        have e2 : cur.toList[j]? = (icells R')[j]? := by rw [← ht, List.getElem?_take_of_lt (by omega)]
        simpa using e2
      obtain ⟨k1, k2⟩ := icells_get R' i hi
      exact ⟨(key _ (by omega)).trans k1, (key _ (by omega)).trans k2⟩
  have hx0 := Q.x0
  refine ⟨some ⟨g, 0, none⟩, cap, rfl, ⟨Q.x0, heap_setCell_same _ _ 0 _ _ _ ((b.block xb hxb).trans Q.blk), ⟨hcap.1, hcap.2.1⟩, ⟨(fun _ e => (nomatch e)), fun p hp => ?_⟩⟩, ⟨o.os.trans b.os, o.tape.trans b.tape, o.output.trans b.output, by rw [o.size]; exact b.size, fun k hk hn => ?_, fun k hk => ?_⟩, by simp⟩
  · cases hp
    refine ⟨g, 0, rfl, by omega, by rw [o.size]; exact hg.2, hne, fun i hi => ?_⟩
    rw [Nat.zero_add]
    exact ⟨(o.cell (p := ⟨g, _, none⟩) hne).trans (hcap.2.2 i hi).1, (o.cell (p := ⟨g, _, none⟩) hne).trans (hcap.2.2 i hi).2⟩
  · exact (o.block k fun e => hn (by rw [e]; exact List.mem_cons_self ..)).trans (b.block k hk)
  · rcases List.mem_cons.1 hk with rfl | hk
    · exact .inl (List.mem_cons_self ..)
    · have : k = g := by simpa using hk
      right; omega
end Go.Proofs.YtaaegkjbmomjbaaDoor.Po
