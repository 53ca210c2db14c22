/- Texts of the verifier of shale, laid into one: PolyRoots, QuietTail, PolyFrom, FldRef, FldRef2, RefTrim, RefZ, PolyV, CosMath, SortShelf, MinCoset, BoolMem, MinCosets, RefTimes, RefPAdd, MinProd, RefSame, RefBytes, RefCopy, MinFro, RefCoset, RefPMul, LocMath, LocRoots, RefPDiv, RefPDer, RefPRoots, RefPGcd, PolyFirst, LocOf, SeaMath, RangeOwn. -/
import Derived.Test.YthmfneepnkgmgaaGreatDoorGreat1
import Derived.StillTailTactics
import Derived.BigQuiet
import Derived.Shelf.Sort.Plain
import Derived.Test.YthmfneepnkgmgaaGreatDoorProg
import Derived.Sort.OwnSortedInts
import Derived.Deep.LoopGhost
import Derived.WalkKit
import Derived.Deep.AppendLies
import Derived.Maps.AppendAt
import Derived.Lib.QuietBelow
import Derived.WalkSpells
import Derived.WalkLawsBesides
import Derived.Laws.BytesArg
import Derived.RangeFuncNested
import Derived.RangeFuncBound
import Derived.RangeFuncCalls
import Derived.RangeFuncLeaves
import Derived.Below
/- The walk over package fieldpoly's Roots. By the verifier of shale. -/
namespace Go.Proofs.YthmfneepnkgmgaaGreatDoor.Pl
open Go Go.RowKit Fld Bits16
set_option linter.unusedVariables false
section
variable {m : Nat} [M : Mid m]
open Classical in
/-- the elements below j at which the first n of P are 0, rising. -/
noncomputable def rts (n : Nat) (P : Ser (El m)) : Nat → List Nat
  | 0 => []
  | j + 1 => rts n P j ++ if ev n P (elm m (j : Int)) = 0 then [j] else []
def intsN (l : List Nat) : List Int := List.map (fun e : Nat => (e : Int)) l
theorem rts_lt (n : Nat) (P : Ser (El m)) : ∀ j i, i ∈ rts n P j → i < j
  | 0, i, h => by simp [rts] at h
  | j + 1, i, h => by
    rw [rts, List.mem_append] at h
    rcases h with h | h
    · have := rts_lt n P j i h; omega
    · split at h
      · simp at h; omega
      · simp at h
theorem rts_root (n : Nat) (P : Ser (El m)) : ∀ j i, i ∈ rts n P j → ev n P (elm m (i : Int)) = 0
  | 0, i, h => by simp [rts] at h
  | j + 1, i, h => by
    rw [rts, List.mem_append] at h
    rcases h with h | h
    · exact rts_root n P j i h
    · split at h
      · rename_i h0
        simp at h; rw [h]; exact h0
      · simp at h
theorem rts_nodup (n : Nat) (P : Ser (El m)) : ∀ j, (rts n P j).Nodup
  | 0 => List.nodup_nil
  | j + 1 => by
    rw [rts]
    split
    · rw [List.nodup_append]
      refine ⟨rts_nodup n P j, by simp, fun a ha b hb => ?_⟩
      have := rts_lt n P j a ha
      simp at hb; omega
    · rw [List.append_nil]; exact rts_nodup n P j
theorem elm_inj {i j : Nat} (hi : i < 2 ^ m) (hj : j < 2 ^ m) (h : elm m (i : Int) = elm m (j : Int)) : i = j := by
  have h1 : el m (i : Int) = el m (j : Int) := congrArg Subtype.val h
  have h2 := congrArg BitVec.toNat h1
  rw [el_nat m M.hi, el_nat m M.hi] at h2
  have hp := pow14 m M.hi
  have e : ∀ k : Nat, k < 2 ^ m → (BitVec.ofInt 64 (k : Int)).toNat % 2 ^ m = k := fun k hk => by
    have : (BitVec.ofInt 64 (k : Int)).toNat = k := by rw [BitVec.toNat_ofInt]; omega
    rw [this, Nat.mod_eq_of_lt hk]
  rwa [e i hi, e j hj] at h2
theorem rts_len {d : Nat} {P : Ser (El m)} (hP : Dg P d) (j : Nat) (hj : j ≤ 2 ^ m) : (rts (d + 1) P j).length ≤ d := by
  have := roots_le d P ((rts (d + 1) P j).map fun i : Nat => elm m (i : Int)) hP (by
    rw [List.Nodup, List.pairwise_map]
    refine List.Pairwise.imp_of_mem (fun ha hb hne h => hne ?_) (rts_nodup (d + 1) P j)
    exact elm_inj (by have := rts_lt _ P j _ ha; omega) (by have := rts_lt _ P j _ hb; omega) h) (fun a ha => by
    obtain ⟨i, hi, rfl⟩ := List.mem_map.1 ha
    exact rts_root _ P j i hi)
  rwa [List.length_map] at this
theorem rts_stop {d : Nat} {P : Ser (El m)} (hP : Dg P d) (j : Nat) (hl : (rts (d + 1) P j).length = d) : ∀ k, j + k ≤ 2 ^ m → rts (d + 1) P (j + k) = rts (d + 1) P j
  | 0, _ => rfl
  | k + 1, h => by
    have ih := rts_stop hP j hl k (by omega)
    have hle := rts_len hP (j + k + 1) (by omega)
    rw [rts, ih] at hle
    show rts (d + 1) P (j + k + 1) = _
    rw [rts, ih]
    split
    · rename_i h0
      rw [if_pos h0, List.length_append, hl] at hle
      simp at hle
      exact absurd hle (by omega)
    · rw [List.append_nil]
theorem own_slice {w : World} {base n : Nat} {v : Value} {l : List Int} (e : Own64 w base v n l) : ∃ a c, v = .slice a n c := by
  rcases e.2 with ⟨h0, h1⟩ | ⟨g', cap', cur, hv, _⟩
  · exact ⟨none, 0, by rw [h0, h1]⟩
  · exact ⟨_, _, hv⟩
theorem own_from {w : World} {base base' n : Nat} {v : Value} {l : List Int} (e : Own64 w base v n l) (hb : base' ≤ base) : Own64 w base' v n l := by
  refine ⟨e.1, ?_⟩
  rcases e.2 with h0 | ⟨g', cap', cur, hv, hbg, r⟩
  · exact Or.inl h0
  · exact Or.inr ⟨g', cap', cur, hv, Nat.le_trans hb hbg, r⟩
end
end Go.Proofs.YthmfneepnkgmgaaGreatDoor.Pl
/- A region that draws its order, whose operations read or call quietly up to a tail in one forced order (a store): one walk of the text's order. By the verifier of shale. -/
namespace Go.Proofs.YthmfneepnkgmgaaGreatDoor
open Go
set_option linter.unusedVariables false
section
variable {P : Program} {ops : Array Oper} {md : Region.Mode} {C : World → Prop}
/-- f operations of the first n come up in whatever order, each quiet in the class; then L holds. -/
def HeadQ (P : Program) (md : Region.Mode) (ops : Array Oper) (C : World → Prop) (n : Nat) (L : Array Bool → Act → Prop) : Nat → Array Bool → Act → Prop
  | 0, s, a => L s a
  | f + 1, s, a => Region.ready md ops s ≠ [] ∧ ∀ i ∈ Region.ready md ops s, i < n ∧ qOp P ops C i (HeadQ P md ops C n L f (s.setIfInBounds i true)) a
theorem HeadQ.any {n g : Nat} {L : Array Bool → Act → Prop} {Q' : Exit → Act → World → Prop} (hL : ∀ s a w, C w → L s a → wpAny P md ops Q' g s a w) :
    ∀ (f : Nat) (s : Array Bool) (a : Act) (w : World), C w → HeadQ P md ops C n L f s a → wpAny P md ops Q' (f + g) s a w
  | 0, s, a, w, hw, h => by rw [Nat.zero_add]; exact hL s a w hw h
  | f + 1, s, a, w, hw, h => by
    rw [show f + 1 + g = (f + g) + 1 by omega]
    exact ⟨fun e => absurd e h.1, fun i hi => wpOp_of_qOp hw (fun a' w' hw' h' => HeadQ.any hL f _ a' w' hw' h') (h.2 i hi).2⟩
/-- what is ready and apart from the rest may be taken ahead of all. -/
theorem HeadQ.early {n i : Nat} {o : Oper} {v : Value} {L : Array Bool → Act → Prop} (hi : ops[i]? = some o) (hsel : ∀ (j : Nat) (o : Oper) cs b, ops[j]? = some o → o.op ≠ .select cs b)
    (hs : Region.sinkB md ops n = true) (hc : Region.chainB md ops n = true) (hn : n < ops.size) (hin : i < n) (hL : ∀ s a, L s a → ∀ j ∈ Region.ready md ops s, n ≤ j) (f : Nat) :
    ∀ (s : Array Bool) (a : Act), HeadInv md ops n s →
      (∀ j oj, ops[j]? = some oj → j ≠ i → s.getD j true = false → (∀ e ∈ oj.after, Region.binds md e = true → e.on ≠ i) → o.apart ops oj = true) →
      i ∈ Region.ready md ops s → YieldsIn P ops C o v a → HeadQ P md ops C n L f (s.setIfInBounds i true) (a.put o.dst v) → HeadQ P md ops C n L (f + 1) s a := by
  induction f with
  | zero =>
    intro s a inv hap hr hy h
    have hfr := (mem_ready.1 hr).1
    refine ⟨fun e => by simp [e] at hr, fun j hj => ?_⟩
    have hlt : j < n := Classical.byContradiction fun hge => absurd hj (tail_waits hs hc hn inv _ i rfl hin hfr j (by omega))
    by_cases e : j = i
    · exact ⟨hlt, by rw [e]; exact hy.qOp hi h⟩
    · have := hL _ _ h j (ready_mono hj e); omega
  | succ f ih =>
    intro s a inv hap hr hy h
    have hfr := (mem_ready.1 hr).1
    refine ⟨fun e => by simp [e] at hr, fun j hj => ?_⟩
    have hlt : j < n := Classical.byContradiction fun hge => absurd hj (tail_waits hs hc hn inv _ i rfl hin hfr j (by omega))
    refine ⟨hlt, ?_⟩
    by_cases e : j = i
    · rw [e]; exact hy.qOp hi h
    · obtain ⟨hjf, oj, hoj, haft⟩ := mem_ready.1 hj
      have hno : ∀ e ∈ oj.after, Region.binds md e = true → e.on ≠ i := by
        intro x hx hb he
        have h1 := haft x hx hb
        rw [he, getD_both hfr] at h1
        exact Bool.false_ne_true h1
      refine qOp_mono ?_ (qOp_put hoj (hap j oj hoj e hjf hno) (fun cs b => hsel i o cs b hi) (fun cs b => hsel j oj cs b hoj) hy (h.2 j (ready_mono hj e)).2)
      intro a' h3
      refine ih _ a' (inv.set hj hlt) ?_ (ready_mono hr (Ne.symm e)) h3.1 ?_
      · intro k ok hk hki hkf hkn
        refine hap k ok hk hki ?_ hkn
        by_cases ejk : j = k
        · rw [← ejk]; exact hjf
        · rwa [getD_set_ne true ejk] at hkf
      · rw [Array.setIfInBounds_comm _ _ e]; exact h3.2
/-- the text's order serves for the head. -/
theorem HeadQ.lex {n g : Nat} {T : Act → Prop} (hsel : Region.noSelect ops = true) (hs : Region.sinkB md ops n = true) (hc : Region.chainB md ops n = true) (hn : n < ops.size) :
    ∀ (l : List Oper) (k : Nat) (s : Array Bool) (a : Act), (∀ j, j < l.length → l[j]? = ops[k + j]?) → k + l.length = n → HeadInv md ops n s →
      Region.lexHead md ops g l.length k s = true → wpQuiet P ops C T l a → HeadQ P md ops C n (fun s' a' => Region.seqB md ops g n s' = true ∧ T a') l.length s a
  | [], k, s, a, _, hk, _, hB, h => by
    obtain rfl : k = n := by simpa using hk
    exact ⟨by simpa [Region.lexHead] using hB, h⟩
  | o :: l, k, s, a, hl, hk, inv, hB, h => by
    have h0 : ops[k]? = some o := by simpa using (hl 0 (by simp)).symm
    simp only [List.length_cons, Region.lexHead, Bool.and_eq_true] at hB
    have hk' : k + 1 + l.length = n := by simp only [List.length_cons] at hk; omega
    have hr : k ∈ Region.ready md ops s := by simpa using hB.1.1
    have hq : qOp P ops C k (wpQuiet P ops C T l) a := by unfold qOp; simp only [h0]; exact h
    obtain ⟨v, hy, hK⟩ := yieldsIn_of_qOp h0 hq
    refine HeadQ.early h0 (Region.noSelect_spec hsel) hs hc hn (by omega) (fun s' a' e => seqB_ready e.1) l.length s a inv (Region.free_spec h0 hB.1.2) hr hy ?_
    exact HeadQ.lex hsel hs hc hn l (k + 1) _ _ (fun j hj => by have := hl (j + 1) (by simp; omega); simpa [Nat.add_assoc, Nat.add_comm 1 j] using this) hk' (inv.set hr (by omega)) hB.2 hK
theorem wp_region_quiet_tail {id : Nat} {Q : Exit → Act → World → Prop} {a : Act} {w : World} {l : List Oper} (n : Nat) (hm : P.follows .mixedOrders = true) (hB : Region.lexTailB .any l.toArray n = true)
    (hC : C w.drew) (h : wpQuiet P l.toArray C (fun a' => ∀ w', C w' → wpList P l.toArray Q (l.drop n) a' w') (l.take n) a) : (Code.region id l.toArray true).wp P Q a w := by
  simp only [Region.lexTailB, Bool.and_eq_true, decide_eq_true_eq] at hB
  obtain ⟨⟨⟨⟨hsel, hn⟩, hs⟩, hc⟩, hlex⟩ := hB
  have hnl : n < l.length := by simpa using hn
  have htl : (l.take n).length = n := by simp; omega
  have inv0 : HeadInv .any l.toArray n (Array.replicate l.toArray.size false) :=
    ⟨by simp, fun j oj _ e => (by rw [getD_replicate_false] at e; cases e), fun t _ ht => getD_in (by simpa using ht) (getD_replicate_false _ _)⟩
  have H := HeadQ.lex (md := .any) (g := l.toArray.size - n) hsel hs hc hn (l.take n) 0 _ a (fun j hj => by
    have hj' : j < n := by rw [htl] at hj; exact hj
    simp [hj']) (by simpa using htl) inv0 (by rw [htl]; exact hlex) h
  refine wp_region_any hm ?_
  have hdl : (l.drop n).length = l.toArray.size - n := by simp
  have H2 := HeadQ.any (Q' := Q) (g := l.toArray.size - n) (fun s a' w' hw' hL => by
    have := wpAny_of_seq (md := .any) (Q' := Q) (l.drop n) n s a' w' (fun j => by simp [List.getElem?_drop]) (by rw [hdl]; exact hL.1) (hL.2 w' hw')
    rwa [hdl] at this) _ _ _ w.drew hC H
  rw [htl, show n + (l.toArray.size - n) = l.toArray.size by omega] at H2
  exact H2
end
end Go.Proofs.YthmfneepnkgmgaaGreatDoor
/- The walk over package fieldpoly's FromRoots. By the verifier of shale. -/
namespace Go.Proofs.YthmfneepnkgmgaaGreatDoor.Pl
open Go Go.RowKit Fld Bits16
set_option linter.unusedVariables false
section
variable {m : Nat} [M : Mid m]
set_option maxRecDepth 100000 in
theorem madeCap (w : World) (k n : Nat) (hk : k ≤ n) (hn : n ≤ 1000000) :
    (Instr.makeSlice 33 (.int .i64 (k : Int)) (.int .i64 (n : Int))).run Tryz.prog w = .ok (.slice (some ⟨w.heap.size, 0, none⟩) k n) (w.alloc (obj64 (List.replicate n 0))) := by
  obtain ⟨i0, hi, hz0, hz1, hz2⟩ := info64
  rw [run_make (P := Tryz.prog) w 33 3 i0 (.int .i64 0) Tryz.underlying33 hi hz0 .i64 .i64 (k : Int) (n : Int) (by omega) (by omega) (by rw [hz2]; omega) (by omega)]
  congr 2
  unfold obj64 madeCells
  rw [hz1]
  congr 1
  apply Array.ext
  · simp [cells64]
  · intro i h1 h2
    simp [Value.cells, Nat.mod_one, cells64]
/-- the product of x + a over the first k of l. -/
def pls (l : List Int) : Nat → Ser (El m)
  | 0 => pone
  | k + 1 => cv (pls l k) (lin (elm m (l.getD k 0)))
theorem lin_split (a : El m) : lin a = padd (mono 0 a) (mono 1 1) := by
  funext i
  show (if i = 0 then a else if i = 1 then 1 else 0) = (if i = 0 then a else 0) + (if i = 1 then 1 else 0)
  by_cases h0 : i = 0
  · subst h0; rw [if_pos rfl, if_pos rfl, if_neg (by omega), Fl.add_zero]
  · rw [if_neg h0, if_neg h0, zero_add]
theorem lin_succ (P : Ser (El m)) (a : El m) (i : Nat) : cv P (lin a) (i + 1) = P i + P (i + 1) * a := by
  rw [cv_comm, lin_split, cv_add]
  show cv (mono 0 a) P (i + 1) + cv (mono 1 1) P (i + 1) = _
  rw [cv_mono, cv_mono, if_neg (by omega), if_neg (by omega), Nat.sub_zero, Nat.add_sub_cancel, one_mul, Fl.add_comm, Fl.mul_comm a]
theorem lin_first (P : Ser (El m)) (a : El m) : cv P (lin a) 0 = P 0 * a := by
  rw [cv_comm, lin_split, cv_add]
  show cv (mono 0 a) P 0 + cv (mono 1 1) P 0 = _
  rw [cv_mono, cv_mono, if_neg (by omega), if_pos (by omega), Nat.sub_zero, Fl.add_zero, Fl.mul_comm a]
theorem pls_dg (l : List Int) : ∀ k, Dg (pls (m := m) l k) k
  | 0 => ⟨by show (if (0 : Nat) = 0 then (1 : El m) else 0) ≠ 0; rw [if_pos rfl]; exact Fl.one_ne, fun i hi => if_neg (by omega)⟩
  | k + 1 => (pls_dg l k).mul (lin_dg _)
/-- the new one above i, the old one from i down. -/
def mixS (P Q : Ser (El m)) (i : Nat) : Ser (El m) := fun j => if i < j then Q j else P j
omit M in
theorem mixS_step (P Q : Ser (El m)) (i : Nat) : ∀ j, j ≠ i + 1 → mixS P Q i j = mixS P Q (i + 1) j := by
  intro j hj
  unfold mixS
  by_cases h : i < j
  · rw [if_pos h, if_pos (by omega)]
  · rw [if_neg h, if_neg (by omega)]
omit M in
theorem mixS_new (P Q : Ser (El m)) (i : Nat) : mixS P Q i (i + 1) = Q (i + 1) := if_pos (by omega)
omit M in
theorem mixS_old (P Q : Ser (El m)) (i j : Nat) (h : j ≤ i) : mixS P Q i j = P j := if_neg (by omega)
theorem mixS_bd {P Q : Ser (El m)} {n : Nat} (hP : Bd P (n + 1)) (hQ : Bd Q (n + 1)) : mixS P Q n = P := funext fun j => by
  unfold mixS
  by_cases h : n < j
  · rw [if_pos h, hQ j (by omega), hP j (by omega)]
  · rw [if_neg h]
end
end Go.Proofs.YthmfneepnkgmgaaGreatDoor.Pl
/- The statements' own fields (shaleref2): what each function answers. By the verifier of shale. -/
namespace Go.Proofs.YthmfneepnkgmgaaGreatDoor.Fld
open Go Go.RowKit Bits16
set_option linter.unusedVariables false
set_option maxHeartbeats 400000 in
theorem low_any (m : Nat) (h1 : 3 ≤ m) (h2 : m ≤ 14) (a : Int) : Gives 70 #[.int .i64 (m : Int), .int .i64 a] (.int .i64 (h (el m a))) := by
  intro w
  have ho := shl_one m h2
  have ha := and_els m h2 a
  have e1 := els_lo m h1
  have e2 := els_hi m h2
  go_enter Tryz.func70, Tryz.ntmps70
  go_wp2
  go_ret
  exact ⟨rfl, rfl⟩
set_option maxRecDepth 100000 in
set_option maxHeartbeats 1000000 in
theorem rpoly_in (m : Nat) (h1 : 3 ≤ m) (h2 : m ≤ 14) (w : World) :
    Calls Tryz.prog 101 #[.int .i64 (m : Int)] w fun e w' => e = .returned (.int .i64 (h (poly m))) ∧ Below w.heap.size w w' := by
  have hc := poly_nth m h1 h2
  have a1 : (3 : Int) ≤ (m : Int) := by omega
  have a2 : (m : Int) ≤ 14 := by omega
  go_enter Tryz.func101, Tryz.ntmps101
  go_wp2
  go_ret
  exact ⟨rfl, (Below.refl _ _).alloc (Nat.le_refl _) _⟩
set_option maxHeartbeats 400000 in
theorem rpoly_out (m : Int) (hm : m < 3 ∨ 14 < m) : Gives 101 #[.int .i64 m] (.int .i64 0) := by
  intro w
  rcases hm with hm | hm
  · go_enter Tryz.func101, Tryz.ntmps101
    go_wp2
    go_ret
    exact ⟨rfl, rfl⟩
  · have hm' : ¬ m < 3 := by omega
    have hm2 : 3 ≤ m := by omega
    go_enter Tryz.func101, Tryz.ntmps101
    go_wp2
    go_ret
    exact ⟨rfl, rfl⟩
/-- the loop of the product, its state behind k rounds: a doubled k times, the rest of b, the sum so far. -/
theorem mulN_more (m : Nat) (h1 : 3 ≤ m) (h2 : m ≤ 14) : ∀ (n : Nat) (a b : BitVec 16), b.toNat < 2 ^ n → mulN m (n + 1) a b = mulN m n a b
  | 0, a, b, hb => by
    have : b = 0 := BitVec.eq_of_toNat_eq (by show _ = 0; omega)
    subst this
    rw [mulN_zero, mulN_zero]
  | n + 1, a, b, hb => by
    have e1 : (b >>> 1).toNat = b.toNat / 2 := by rw [BitVec.toNat_ushiftRight, Nat.shiftRight_eq_div_pow]
    have e2 : 2 ^ (n + 1) = 2 * 2 ^ n := by rw [Nat.pow_succ, Nat.mul_comm]
    rw [mulN, mulN_more m h1 h2 n _ _ (by omega)]; rfl
theorem low_bit (b : BitVec 16) : (bits .and .i64 (h b) 1 == 1) = b.getLsbD 0 := by
  rw [show bits .and .i64 (h b) 1 = h (b &&& 1#16) by
    show IntKind.i64.wrap ((BitVec.ofInt 64 (h b) &&& BitVec.ofInt 64 1).toNat : Int) = _
    rw [BitVec.toNat_and, e64, show (BitVec.ofInt 64 1).toNat = (1#16 : BitVec 16).toNat by decide, ← BitVec.toNat_and]; exact w64 _]
  have e : (b &&& 1#16).toNat = b.toNat % 2 := by rw [BitVec.toNat_and]; exact Nat.and_one_is_mod _
  unfold h
  rw [e, BitVec.getLsbD, Nat.testBit_zero, Bool.eq_iff_iff, beq_iff_eq, decide_eq_true_iff]
  omega
theorem half (b : BitVec 16) : h b / 2 = h (b >>> 1) := by
  unfold h
  rw [BitVec.toNat_ushiftRight, Nat.shiftRight_eq_div_pow]; omega
/-- one round of the product's loop. -/
theorem mul_step (m : Nat) (h1 : 3 ≤ m) (h2 : m ≤ 14) (A B : BitVec 16) : mulN m 16 A B = (if B.getLsbD 0 then A else 0) ^^^ mulN m 16 (dbl m A) (B >>> 1) := by
  have e1 : (B >>> 1).toNat = B.toNat / 2 := by rw [BitVec.toNat_ushiftRight, Nat.shiftRight_eq_div_pow]
  rw [mulN_more m h1 h2 15 (dbl m A) (B >>> 1) (by have := B.isLt; omega)]; rfl
theorem top_bit (m : Nat) (h1 : 3 ≤ m) (h2 : m ≤ 14) (A : BitVec 16) (hA : A.toNat < 2 ^ m) :
    (((A <<< 1) >>> m).getLsbD 0 = true ∧ dbl m A = (A <<< 1) ^^^ poly m) ∨ (((A <<< 1) >>> m).getLsbD 0 = false ∧ dbl m A = A <<< 1) := by
  have hm := pow14 m h2
  have e1 : (A <<< 1).toNat = A.toNat * 2 := by
    rw [BitVec.toNat_shiftLeft, Nat.shiftLeft_eq, Nat.pow_one]; omega
  have e2 : ((A <<< 1) >>> m).toNat = A.toNat * 2 / 2 ^ m := by
    rw [BitVec.toNat_ushiftRight, e1, Nat.shiftRight_eq_div_pow]
  have h3 : A.toNat * 2 / 2 ^ m < 2 := Nat.div_lt_of_lt_mul (by omega)
  have hb : ((A <<< 1) >>> m).getLsbD 0 = decide (((A <<< 1) >>> m).toNat % 2 = 1) := by
    rw [BitVec.getLsbD, Nat.testBit_zero]
  by_cases h : (A <<< 1) >>> m = 0
  · refine Or.inr ⟨by rw [h]; rfl, if_pos h⟩
  · refine Or.inl ⟨?_, if_neg h⟩
    rw [hb, e2, decide_eq_true_iff]
    have : A.toNat * 2 / 2 ^ m ≠ 0 := fun h4 => h (BitVec.eq_of_toNat_eq (by rw [e2]; exact h4))
    generalize A.toNat * 2 / 2 ^ m = q at this h3
    omega
section
attribute [local go_sem] rxor
set_option maxRecDepth 100000 in
set_option maxHeartbeats 2000000 in
theorem rmul_any (m : Nat) (h1 : 3 ≤ m) (h2 : m ≤ 14) (a b : Int) (w : World) :
    Calls Tryz.prog 67 #[.int .i64 (m : Int), .int .i64 a, .int .i64 b] w fun e w' => e = .returned (.int .i64 (h (fmul m (el m a) (el m b)))) ∧ Below w.heap.size w w' := by
  have hla := el_lt m h2 a
  have hlb := el_lt m h2 b
  have hpl := low_any m h1 h2
  have hp14 := pow14 m h2
  have a1 : (3 : Int) ≤ (m : Int) := by omega
  have a2 : (m : Int) ≤ 14 := by omega
  go_enter Tryz.func67, Tryz.ntmps67
  go_wp2_with fail
  refine (hpl a w).mono ?_
  rintro e w1 ⟨rfl, rfl⟩
  go_wp2_with fail
  refine (hpl b w).mono ?_
  rintro e w1 ⟨rfl, rfl⟩
  go_wp2_with fail
  refine (rpoly_in m h1 h2 w).mono ?_
  rintro e w1 ⟨rfl, b1⟩
  clear hpl
  go_wp2_with fail
  go_loopg [1, 2, 8] (el m b).toNat (fun g s1 s2 s8 wx => ∃ A B X : BitVec 16, g = B.toNat ∧ A.toNat < 2 ^ m ∧ B.toNat < 2 ^ m ∧ s1 = .int .i64 (h A) ∧ s2 = .int .i64 (h B) ∧ s8 = .int .i64 (h X) ∧ X ^^^ mulN m 16 A B = fmul m (el m a) (el m b) ∧ w1 = wx)
  case atStart => exact ⟨el m a, el m b, 0, rfl, hla, hlb, rfl, rfl, rfl, BitVec.zero_xor, rfl⟩
  case round =>
    obtain ⟨A, B, X, hg, hA, hB, rfl, rfl, rfl, hinv, rfl⟩ := hrel
    have HG := Lib.hid hg
    have HI := Lib.hid hinv
    clear hg hinv hla hlb
    by_cases h0 : B = 0
    · have t : ¬ (0 < h B) := by subst h0; decide
      have HR : Hid (X = fmul m (el m a) (el m b)) := by
        show _ = _
        rw [← HI.out, h0, mulN_zero]; simp
      clear h0
      go_wp2_with fail
      go_ret
      exact ⟨ret_i64 (by rw [HR.out]), b1⟩
    · have hB0 := nat_pos B h0
      have t : 0 < h B := by unfold h; omega
      have s1 := fun yk => twice yk A (by omega)
      have s2 := half B
      have s3 := low_bit B
      have s4 := down (A <<< 1) m
      have s5 := low_bit ((A <<< 1) >>> m)
      have hh : (B >>> 1).toNat = B.toNat / 2 := by rw [BitVec.toNat_ushiftRight, Nat.shiftRight_eq_div_pow]
      have hd := dbl_lt m h1 h2 A hA
      have HS := Lib.hid (mul_step m h1 h2 A B)
      rw [← s4] at s5
      clear s4 h0
      rcases top_bit m h1 h2 A hA with ⟨q1, q2⟩ | ⟨q1, q2⟩
      all_goals
        rw [q1] at s5
        have HQ := Lib.hid q2
        clear q1 q2
        rcases hbit : B.getLsbD 0 with _ | _
        all_goals
          have HBt := Lib.hid hbit
          rw [hbit] at s3
          clear hbit
          go_wp2_with fail
          go_roundg (B >>> 1).toNat
          case measure => have := HG.out; omega
          case rel =>
            first
              | exact ⟨dbl m A, B >>> 1, X ^^^ A, rfl, hd, by omega, by rw [HQ.out], rfl, rfl, by rw [← HI.out, HS.out, HBt.out, if_pos rfl, BitVec.xor_assoc], rfl⟩
              | exact ⟨dbl m A, B >>> 1, X, rfl, hd, by omega, by rw [HQ.out], rfl, rfl, by rw [← HI.out, HS.out, HBt.out, if_neg (by decide), show ∀ y : BitVec 16, 0 ^^^ y = y from fun y => BitVec.zero_xor], rfl⟩
theorem rmul_at (m : Nat) (h1 : 3 ≤ m) (h2 : m ≤ 14) (x y : BitVec 16) (hx : x.toNat < 2 ^ m) (hy : y.toNat < 2 ^ m) (w : World) :
    Calls Tryz.prog 67 #[.int .i64 (m : Int), .int .i64 (h x), .int .i64 (h y)] w fun e w' => e = .returned (.int .i64 (h (fmul m x y))) ∧ Below w.heap.size w w' := by
  have := rmul_any m h1 h2 (h x) (h y) w
  rwa [el_of m h2 x hx, el_of m h2 y hy] at this
end
/-- the power's loop: what is left to do. -/
theorem pow_step (m : Nat) (h1 : 3 ≤ m) (h2 : m ≤ 14) (a x : BitVec 16) (ha : a.toNat < 2 ^ m) (hx : x.toNat < 2 ^ m) (n : Nat) :
    fmul m x (fpow m a n) = fmul m (if n % 2 = 1 then fmul m x a else x) (fpow m (fmul m a a) (n / 2)) := by
  rw [fpow_sq m h1 h2 a ha]
  by_cases hn : n % 2 = 1
  · rw [if_pos hn]
    obtain ⟨k, rfl⟩ : ∃ k, n = 2 * k + 1 := ⟨n / 2, by omega⟩
    rw [show (2 * k + 1) / 2 = k by omega, fpow, fmul_comm m h1 h2 (fpow m a (2 * k)) a (fpow_lt m h1 h2 a ha _) ha, fmul_assoc m h1 h2 x a _ hx ha (fpow_lt m h1 h2 a ha _)]
  · rw [if_neg hn, show 2 * (n / 2) = n by omega]
theorem odd_test (n : Nat) (hn : n < 1000000) : (bits .and .i64 (n : Int) 1 == 1) = decide (n % 2 = 1) := by
  have e : bits .and .i64 (n : Int) 1 = ((n % 2 : Nat) : Int) := by
    show IntKind.i64.wrap ((BitVec.ofInt 64 (n : Int) &&& BitVec.ofInt 64 1).toNat : Int) = _
    rw [BitVec.toNat_and, show (BitVec.ofInt 64 (n : Int)).toNat = n by rw [BitVec.toNat_ofInt]; omega, show (BitVec.ofInt 64 1).toNat = 1 by decide, Nat.and_one_is_mod]
    exact IntWalk.i64_in _ (by omega)
  rw [e, Bool.eq_iff_iff, beq_iff_eq, decide_eq_true_iff]
  omega
end Go.Proofs.YthmfneepnkgmgaaGreatDoor.Fld
/- The statements' own fields (shaleref2): powers, inverses, logarithms, orders, traces. By the verifier of shale. -/
namespace Go.Proofs.YthmfneepnkgmgaaGreatDoor.Fld
open Go Go.RowKit Bits16
set_option linter.unusedVariables false
set_option maxRecDepth 100000 in
set_option maxHeartbeats 2000000 in
theorem rpower_any (m : Nat) (h1 : 3 ≤ m) (h2 : m ≤ 14) (a : Int) (n : Nat) (hn : n ≤ 16384) (w : World) :
    Calls Tryz.prog 103 #[.int .i64 (m : Int), .int .i64 a, .int .i64 (n : Int)] w fun e w' => e = .returned (.int .i64 (h (fpow m (el m a) n))) ∧ Below w.heap.size w w' := by
  have hla := el_lt m h2 a
  have hpl := low_any m h1 h2
  go_enter Tryz.func103, Tryz.ntmps103
  go_wp2_with fail
  refine (hpl a w).mono ?_
  rintro e w1 ⟨rfl, rfl⟩
  clear hpl
  go_wp2_with fail
  go_loopg [1, 2, 7] n (fun g s1 s2 s7 wx => ∃ (A X : BitVec 16) (k : Nat), g = k ∧ k ≤ 16384 ∧ A.toNat < 2 ^ m ∧ X.toNat < 2 ^ m ∧ s1 = .int .i64 (h A) ∧ s2 = .int .i64 (k : Int) ∧ s7 = .int .i64 (h X) ∧ fmul m X (fpow m A k) = fpow m (el m a) n ∧ Below w.heap.size w wx)
  case atStart => exact ⟨el m a, 1, n, rfl, hn, hla, one_lt m h1, rfl, rfl, rfl, one_fmul m h1 h2 _ (fpow_lt m h1 h2 _ hla n), Below.refl _ _⟩
  case round =>
    obtain ⟨A, X, k, hg, hk, hA, hX, rfl, rfl, rfl, hinv, hb⟩ := hrel
    have HG := Lib.hid hg
    have HI := Lib.hid hinv
    clear hg hinv hla
    by_cases h0 : k = 0
    · subst h0
      have HR : Hid (X = fpow m (el m a) n) := by
        show _ = _
        rw [← HI.out]; exact (fmul_one m h1 h2 X hX).symm
      go_wp2_with fail
      go_ret
      exact ⟨ret_i64 (by rw [HR.out]), hb⟩
    · have t : 0 < (k : Int) := by omega
      have t0 : 0 < k := by omega
      have s3 := odd_test k (by omega)
      have hh : Hid ((k : Int) / 2 = ((k / 2 : Nat) : Int)) := by show _ = _; omega
      have HS := Lib.hid (pow_step m h1 h2 A X hA hX k)
      clear h0
      by_cases ho : k % 2 = 1
      · have hmx := fmul_lt m h1 h2 X A hX
        have hma := fmul_lt m h1 h2 A A hA
        rw [show decide (k % 2 = 1) = true from decide_eq_true ho] at s3
        have HO := Lib.hid ho
        clear ho
        go_wp2_with fail
        refine (rmul_at m h1 h2 X A hX hA _).mono ?_
        rintro e w2 ⟨rfl, b2⟩
        have b2 := hb.trans (b2.mono hb.size)
        go_wp2_with fail
        refine (rmul_at m h1 h2 A A hA hA _).mono ?_
        rintro e w3 ⟨rfl, b3⟩
        have b3 := b2.trans (b3.mono b2.size)
        go_wp2_with fail
        go_roundg (k / 2)
        case measure => have := HG.out; omega
        case rel => exact ⟨fmul m A A, fmul m X A, k / 2, rfl, by omega, hma, hmx, rfl, by rw [hh.out], rfl, by rw [← HI.out, HS.out, if_pos HO.out], b3⟩
      · have hma := fmul_lt m h1 h2 A A hA
        rw [show decide (k % 2 = 1) = false from decide_eq_false ho] at s3
        have HO := Lib.hid ho
        clear ho
        go_wp2_with fail
        refine (rmul_at m h1 h2 A A hA hA _).mono ?_
        rintro e w3 ⟨rfl, b3⟩
        have b3 := hb.trans (b3.mono hb.size)
        go_wp2_with fail
        go_roundg (k / 2)
        case measure => have := HG.out; omega
        case rel => exact ⟨fmul m A A, X, k / 2, rfl, by omega, hma, hX, rfl, by rw [hh.out], rfl, by rw [← HI.out, HS.out, if_neg HO.out], b3⟩
theorem rpower_at (m : Nat) (h1 : 3 ≤ m) (h2 : m ≤ 14) (a x : Int) (n : Nat) (hx : x = (n : Int)) (hn : n ≤ 16384) (w : World) :
    Calls Tryz.prog 103 #[.int .i64 (m : Int), .int .i64 a, .int .i64 x] w fun e w' => e = .returned (.int .i64 (h (fpow m (el m a) n))) ∧ Below w.heap.size w w' := by
  subst hx; exact rpower_any m h1 h2 a n hn w
/-- an exponent brought into 0 .. size - 1 as the statements do. -/
theorem exp_norm (m : Nat) (h1 : 3 ≤ m) (h2 : m ≤ 14) (z : Int) : ∃ k : Nat, k < size m ∧ z.tmod (size m : Int) % (size m : Int) = (k : Int) ∧ z % (size m : Int) = (k : Int) := by
  have z1 := size_lo m h1
  have z2 := size_hi m h2
  have q1 := Int.tmod_lt_of_pos z (b := (size m : Int)) (by omega)
  have q2 : -(size m : Int) < z.tmod (size m : Int) := by
    have := Int.tmod_lt_of_pos (-z) (b := (size m : Int)) (by omega)
    rw [Int.neg_tmod] at this
    omega
  have hd : z % (size m : Int) = (z.tmod (size m : Int)) % (size m : Int) := by
    rw [Int.tmod_eq_emod]
    split
    · simp
    · rw [Int.natAbs_natCast, Int.sub_emod, Int.emod_self, Int.emod_emod, Int.sub_zero, Int.emod_emod]
  have n1 := Int.emod_nonneg z (b := (size m : Int)) (by omega)
  have n2 := Int.emod_lt_of_pos z (b := (size m : Int)) (by omega)
  refine ⟨(z % (size m : Int)).toNat, by omega, ?_, by omega⟩
  rw [← hd]
  omega
set_option maxHeartbeats 400000 in
theorem rpow_any (m : Nat) (h1 : 3 ≤ m) (h2 : m ≤ 14) (a z : Int) (w : World) :
    Calls Tryz.prog 102 #[.int .i64 (m : Int), .int .i64 a, .int .i64 z] w fun e w' => e = .returned (.int .i64 (h (powZ m (el m a) z))) ∧ Below w.heap.size w w' := by
  have hpl := low_any m h1 h2
  have ho := shl_one m h2
  have he : ((els m : Int) - 1) = (size m : Int) := by rw [els_eq]; omega
  have z1 := size_lo m h1
  have z2 := size_hi m h2
  have e1 := els_lo m h1
  have e2 := els_hi m h2
  by_cases h0 : el m a = 0
  · have t := h_zero h0
    by_cases hz : z = 0
    · subst hz
      have e : h (powZ m (el m a) 0) = 1 := by rw [h0]; rfl
      rw [e]
      clear e h0
      go_enter Tryz.func102, Tryz.ntmps102
      go_wp2_with fail
      refine (hpl a w).mono ?_
      rintro e w1 ⟨rfl, rfl⟩
      go_wp2_with fail
      go_ret
      exact ⟨rfl, Below.refl _ _⟩
    · have e : h (powZ m (el m a) z) = 0 := by rw [h0]; unfold powZ; rw [if_pos rfl, if_neg hz]; rfl
      rw [e]
      have tz : (z == 0) = false := beq_eq_false_iff_ne.2 hz
      clear e h0 hz
      go_enter Tryz.func102, Tryz.ntmps102
      go_wp2_with fail
      refine (hpl a w).mono ?_
      rintro e w1 ⟨rfl, rfl⟩
      go_wp2_with fail
      go_ret
      exact ⟨rfl, Below.refl _ _⟩
  · have t := h_not h0
    obtain ⟨k, hk, hke, hkz⟩ := exp_norm m h1 h2 z
    have q1 := Int.tmod_lt_of_pos z (b := (size m : Int)) (by omega)
    have q2 : -(size m : Int) < z.tmod (size m : Int) := by
      have := Int.tmod_lt_of_pos (-z) (b := (size m : Int)) (by omega)
      rw [Int.neg_tmod] at this
      omega
    have HR : Hid (fpow m (el m a) k = powZ m (el m a) z) := by
      show _ = _
      rw [← powZ_nat m h1 h2 _ (el_lt m h2 a)]
      unfold powZ
      rw [if_neg h0, if_neg h0]
      apply pwZ_congr
      rw [← hkz, Int.mul_emod, Int.emod_emod, ← Int.mul_emod]
    clear h0 hkz
    have HK := Lib.hid hke
    clear hke
    go_enter Tryz.func102, Tryz.ntmps102
    go_wp2_with fail
    refine (hpl a w).mono ?_
    rintro e w1 ⟨rfl, rfl⟩
    go_wp2_with fail
    refine (rpower_at m h1 h2 a _ k HK.out (by omega) _).mono ?_
    rintro e w1 ⟨rfl, b1⟩
    rw [HR.out]
    go_wp2_with fail
    go_ret
    exact ⟨rfl, b1⟩
theorem el_two (m : Nat) (h1 : 3 ≤ m) (h2 : m ≤ 14) : el m 2 = pw m 1 := by
  have h8 := two_le m h1
  have e1 : pw m 1 = dbl m 1 := rfl
  have e2 : dbl m 1 = 2 := by
    rw [dbl_bit m h1 h2 1 (one_lt m h1)]
    have : (1 : BitVec 16).getLsbD (m - 1) = false := by
      rw [BitVec.getLsbD]
      exact Nat.testBit_lt_two_pow (show 1 < 2 ^ (m - 1) from Nat.one_lt_two_pow (by omega))
    rw [this, if_neg Bool.false_ne_true]; decide
  rw [e1, e2]
  exact el_of m h2 2 (by show 2 < _; omega)
set_option maxHeartbeats 400000 in
theorem rexp_any (m : Nat) (h1 : 3 ≤ m) (h2 : m ≤ 14) (z : Int) (w : World) :
    Calls Tryz.prog 68 #[.int .i64 (m : Int), .int .i64 z] w fun e w' => e = .returned (.int .i64 (h (pwZ m z))) ∧ Below w.heap.size w w' := by
  have HR : Hid (powZ m (el m 2) z = pwZ m z) := by
    show _ = _
    rw [el_two m h1 h2, powZ_pw m h1 h2, Int.natCast_one, Int.one_mul]
  go_enter Tryz.func68, Tryz.ntmps68
  go_wp2_with fail
  refine (rpow_any m h1 h2 2 z _).mono ?_
  rintro e w1 ⟨rfl, b1⟩
  rw [HR.out]
  go_wp2_with fail
  go_ret
  exact ⟨rfl, b1⟩
set_option maxHeartbeats 400000 in
theorem rinv_any (m : Nat) (h1 : 3 ≤ m) (h2 : m ≤ 14) (a : Int) (h0 : el m a ≠ 0) (w : World) :
    Calls Tryz.prog 71 #[.int .i64 (m : Int), .int .i64 a] w fun e w' => e = .returned (.int .i64 (h (pwZ m (-(lg m (el m a) : Int))))) ∧ Below w.heap.size w w' := by
  have HR : Hid (fpow m (el m a) (els m - 2) = pwZ m (-(lg m (el m a) : Int))) := by
    show _ = _
    obtain ⟨l1, l2⟩ := lg_spec m h1 h2 _ (el_lt m h2 a) h0
    have z1 := size_lo m h1
    rw [← powZ_nat m h1 h2 _ (el_lt m h2 a)]
    unfold powZ
    rw [if_neg h0]
    apply pwZ_congr
    rw [els_eq, show size m + 1 - 2 = size m - 1 by omega, show ((size m - 1 : Nat) : Int) = (size m : Int) - 1 by omega, Int.mul_sub, Int.mul_one, Int.sub_emod, Int.mul_emod_left, ← Int.zero_emod (size m : Int), ← Int.sub_emod]
    simp
  have ho := shl_one m h2
  have e1 := els_lo m h1
  have e2 := els_hi m h2
  clear h0
  go_enter Tryz.func71, Tryz.ntmps71
  go_wp2_with fail
  refine (rpower_at m h1 h2 a _ (els m - 2) (by omega) (by omega) _).mono ?_
  rintro e w1 ⟨rfl, b1⟩
  rw [HR.out]
  go_wp2_with fail
  go_ret
  exact ⟨rfl, b1⟩
theorem rmul_two (m : Nat) (h1 : 3 ≤ m) (h2 : m ≤ 14) (k : Nat) (w : World) :
    Calls Tryz.prog 67 #[.int .i64 (m : Int), .int .i64 (h (pw m k)), .int .i64 2] w fun e w' => e = .returned (.int .i64 (h (pw m (k + 1)))) ∧ Below w.heap.size w w' := by
  have := rmul_any m h1 h2 (h (pw m k)) 2 w
  rwa [el_of m h2 _ (pw_ne m h1 h2 k).2, el_two m h1 h2, fmul_pw m h1 h2] at this
theorem h_ne {x y : BitVec 16} (e : x ≠ y) : (h x != h y) = true := by
  rw [bne_iff_ne]; exact fun e2 => e (h_inj _ _ e2)
theorem h_same {x y : BitVec 16} (e : x = y) : (h x != h y) = false := by subst e; simp
section
attribute [local go_sem] rxor
end
end Go.Proofs.YthmfneepnkgmgaaGreatDoor.Fld
/- The statements' own polynomials (shaleref2): Trim, Eval. By the verifier of shale. -/
namespace Go.Proofs.YthmfneepnkgmgaaGreatDoor.Pl
open Go Go.RowKit Fld Bits16
set_option linter.unusedVariables false
theorem own_rowz {w : World} {base n cap : Nat} {a : Option Addr} {l : List Int} (e : Own64 w base (.slice a n cap) n l) : RowZ w a n cap l ∧ ∀ bb off, a = some ⟨bb, off, none⟩ → base ≤ bb := by
  have hl := e.len
  rcases e.2 with ⟨h0, h1⟩ | ⟨g', cap', cur, hv, hbg, hh, hnc, hm, hs, ht⟩
  · simp only [Value.slice.injEq] at h0
    obtain ⟨rfl, rfl, rfl⟩ := h0
    exact ⟨⟨by omega, Nat.le_refl _, by decide, fun i hi => by omega⟩, fun bb off e => by cases e⟩
  · simp only [Value.slice.injEq] at hv
    obtain ⟨rfl, _, rfl⟩ := hv
    refine ⟨⟨hl.symm, hnc, hm, fun i hi => ⟨g', 0, rfl, ?_, lt_of_block hh⟩⟩, fun bb off e => by simp only [Option.some.injEq, Addr.mk.injEq] at e; omega⟩
    obtain ⟨g2, c2, e2, _, _, _, hc⟩ := e.cells (by omega : 0 < n)
    simp only [Value.slice.injEq, Option.some.injEq, Addr.mk.injEq] at e2
    obtain ⟨⟨rfl, _⟩, _⟩ := e2
    rw [Nat.zero_add]; exact hc i hi
/-- a polynomial in memory that is not older, its last coefficient not 0. -/
structure ROut (m : Nat) [M : Mid m] (w0 w : World) (a : Option Addr) (n cap : Nat) (p : Ser (El m)) : Prop where
  row : RowZ w a n cap (nums p n)
  bd : Bd p n
  top : top p n = n
  fresh : ∀ bb off, a = some ⟨bb, off, none⟩ → w0.heap.size ≤ bb
section
variable {m : Nat} [M : Mid m]
theorem ROut.since {w0 w w' : World} {a : Option Addr} {n cap : Nat} {p : Ser (El m)} (h : ROut m w0 w a n cap p) (b : Below w.heap.size w w') : ROut m w0 w' a n cap p :=
  ⟨h.row.below b, h.bd, h.top, h.fresh⟩
theorem ROut.from {w0 w1 w : World} {a : Option Addr} {n cap : Nat} {p : Ser (El m)} (h : ROut m w1 w a n cap p) (b : w0.heap.size ≤ w1.heap.size) : ROut m w0 w a n cap p :=
  ⟨h.row, h.bd, h.top, fun bb off e => Nat.le_trans b (h.fresh bb off e)⟩
omit M in
theorem nums_succ (p : Ser (El m)) (k : Nat) : nums p (k + 1) = nums p k ++ [zn (p k)] := by
  unfold nums; rw [List.range_succ, List.map_append]; rfl
theorem rlow_any (z : Int) (w : World) : Calls Tryz.prog 70 #[.int .i64 (m : Int), .int .i64 z] w fun e w' => e = .returned (.int .i64 (zn (elm m z))) ∧ w = w' := by
  refine (low_any m M.lo M.hi z w).mono ?_
  rintro e w' ⟨rfl, rfl⟩
  exact ⟨rfl, rfl⟩
set_option maxRecDepth 100000 in
set_option maxHeartbeats 1000000 in
theorem rtrim_any (a : Option Addr) (n cap : Nat) (l : List Int) (w : World) (h : RowZ w a n cap l) (hn : n ≤ 1000000) :
    Calls Tryz.prog 74 #[.int .i64 (m : Int), .slice a n cap] w
      fun e w' => ∃ a' n' cap', e = .returned (.slice a' n' cap') ∧ ROut m w w' a' n' cap' (sr m l) ∧ Below w.heap.size w w' := by
  obtain ⟨i0, hi, hz0, hz1, hz2⟩ := info64
  have HP := Lib.hid h
  have HBn : Hid (Bd (sr m l) n) := by have := sr_bd (m := m) l; rwa [← h.hlen] at this
  clear h
  go_enter Tryz.func74, Tryz.ntmps74
  go_wp2_with fail
  go_loopg [5, 6] n (fun gh s5 s6 wx => ∃ (k : Nat), gh = n - k ∧ k ≤ n ∧ s6 = .int .i64 (k : Int) ∧ Own64 wx w.heap.size s5 k (nums (sr m l) k) ∧ Below w.heap.size w wx)
  case atStart => exact ⟨0, rfl, Nat.zero_le _, rfl, Own64.nil w w.heap.size, Below.refl _ _⟩
  case round =>
    obtain ⟨k, hg, hkn, rfl, hown, hB⟩ := hrel
    have HG := Lib.hid hg
    clear hg
    obtain ⟨av, cv, rfl⟩ := own_slice hown
    by_cases hlt : k < n
    · have x0 : (0 : Int) ≤ (k : Int) := by omega
      have x1 : (k : Int) < (n : Int) := by omega
      obtain ⟨bb, off, rfl, c1, hb⟩ := (HP.out.below hB).row k hlt
      have hbs := hB.size
      have HOwn := Lib.hid hown
      have HBB := Lib.hid hB
      have HF : Hid (nums (sr m l) (k + 1) = nums (sr m l) k ++ [zn (sr m l k)]) := nums_succ _ _
      clear hown hB hb
      go_wp2_with fail
      refine (rlow_any (l.getD k 0) wr).mono ?_
      rintro e w1 ⟨rfl, rfl⟩
      rw [sr_at]
      go_wp2_with (at_builtin; refine wpList_append_own _ rfl _ _ 33 rfl w.heap.size 3 i0 (.int .i64 0) 1 8 Tryz.underlying33 hi hz0 hz1 hz2 rfl (by decide) _ k _ rfl (World.ownsRow.alloc HOwn.out _) ⟨wr.heap.size, 0, none⟩ 1 1 [.int .i64 (zn (sr m l k))] rfl rfl (cell_one_new _ _ _) (ints_oneCell .i64 [_]) (by unfold maxLen; omega) (by omega) (by simp; omega) ?_; intro v7 w7 hown7 hgrow _)
      have ho7 : Own64 w7 w.heap.size v7 (k + 1) (nums (sr m l) (k + 1)) := by
        unfold Own64
        rw [HF.out, ← cells64_append]
        exact hown7
      have b7 : Below w.heap.size w w7 := (HBB.out.alloc hbs _).grown hgrow (by simp; omega) (fun g hg => (HOwn.out.block g hg).1)
      clear hown7 hgrow c1
      go_wp2_with fail
      go_roundg (n - (k + 1))
      case measure => have := HG.out; omega
      case rel => exact ⟨k + 1, rfl, by omega, by go_num, ho7, b7⟩
    · obtain rfl : k = n := by omega
      obtain ⟨hrow, hfr⟩ := own_rowz hown
      have HR := Lib.hid hrow
      have HFr := Lib.hid hfr
      have hcap := hrow.hcap
      have hmost := hrow.hmost
      unfold maxLen at hmost
      have HBB := Lib.hid hB
      clear hown hrow hfr hB
      go_wp2_with fail
      go_loopg [5] k (fun gh s5 wx => ∃ j : Nat, gh = j ∧ j ≤ k ∧ s5 = .slice av j cv ∧ Hid (top (sr m l) j = top (sr m l) k) ∧ wr = wx)
      case atStart => exact ⟨k, rfl, Nat.le_refl _, rfl, rfl, rfl⟩
      case round =>
        obtain ⟨j, hg, hj, rfl, HT, rfl⟩ := hrel
        have HG2 := Lib.hid hg
        clear hg
        have y0 : (0 : Int) ≤ (j : Int) := by omega
        have y1 : (j : Int) ≤ (cv : Int) := by omega
        rcases j with _ | j
        · have HF : Hid (ROut m w wr av 0 cv (sr m l)) := by
            have h0 : top (sr m l) k = 0 := HT.out.symm
            exact ⟨HR.out.take 0 (Nat.zero_le _) |> fun h => by rwa [nums_take _ (Nat.zero_le _)] at h, by have := top_bd HBn.out; rwa [h0] at this, rfl, HFr.out⟩
          clear HT
          go_wp2_with fail
          go_ret
          exact ⟨_, _, _, rfl, HF.out, HBB.out⟩
        · have x0 : (0 : Int) ≤ (j : Int) := by omega
          have x1 : (j : Int) < (k : Int) := by omega
          have x2 : (j : Int) ≤ (cv : Int) := by omega
          have x3 : (j : Int) < (j : Int) + 1 := by omega
          have i1 : IntKind.i64.wrap (((j + 1 : Nat) : Int) - 1) = (j : Int) := by rw [show ((j + 1 : Nat) : Int) - 1 = (j : Int) by omega]; exact IntWalk.i64_in _ (by omega)
          have i2 : IntKind.i64.wrap ((j : Int) + 1 - 1) = (j : Int) := by rw [show (j : Int) + 1 - 1 = (j : Int) by omega]; exact IntWalk.i64_in _ (by omega)
          obtain ⟨bb, off, rfl, c1, hb⟩ := HR.out.row j (by omega)
          rw [nums_at (sr m l) k j (by omega)] at c1
          have hz := zn_eq0 (sr m l j)
          by_cases h0 : sr m l j = 0
          · rw [decide_eq_true h0] at hz
            have HN : Hid (top (sr m l) j = top (sr m l) k) := by
              show _ = _
              rw [← top_zero h0]; exact HT.out
            clear HT h0 hb
            go_wp2_with fail
            go_roundg j
            case measure => have := HG2.out; omega
            case rel => exact ⟨j, rfl, by omega, rfl, HN.out, rfl⟩
          · rw [decide_eq_false h0] at hz
            have HN : Hid (j + 1 = top (sr m l) k) := by
              show _ = _
              rw [← HT.out, top_some h0]
            have HF : Hid (ROut m w wr (some ⟨bb, off, none⟩) (j + 1) cv (sr m l)) :=
              ⟨HR.out.take (j + 1) hj |> fun h => by rwa [nums_take _ hj] at h, by have := top_bd HBn.out; rwa [← HN.out] at this, top_some h0, HFr.out⟩
            clear HT h0 hb
            go_wp2_with fail
            go_ret
            exact ⟨_, _, _, rfl, HF.out, HBB.out⟩
theorem ROut.len {w0 w : World} {a : Option Addr} {n cap k : Nat} {p : Ser (El m)} (h : ROut m w0 w a n cap p) (hb : Bd p k) : n = Pl.top p k := h.top.symm.trans (top_same h.bd hb)
end
end Go.Proofs.YthmfneepnkgmgaaGreatDoor.Pl
/- shaleref.SameInts over any two lists of ints. By the verifier of shale. -/
namespace Go.Proofs.YthmfneepnkgmgaaGreatDoor.Pl
open Go Go.RowKit Fld Bits16
set_option linter.unusedVariables false
theorem RowZ.drawn {w w' : World} {a : Option Addr} {n cap : Nat} {l : List Int} (h : RowZ w a n cap l) (d : Drawn w w') : RowZ w' a n cap l := h.below (d.below _)
theorem listz_eq {l k : List Int} (hl : l.length = k.length) (h : ∀ i, i < l.length → l.getD i 0 = k.getD i 0) : l = k := by
  apply List.ext_getElem hl
  intro i h1 h2
  have := h i h1
  rw [List.getD_eq_getElem?_getD, List.getD_eq_getElem?_getD, List.getElem?_eq_getElem h1, List.getElem?_eq_getElem h2] at this
  exact this
set_option maxRecDepth 100000 in
set_option maxHeartbeats 1000000 in
theorem sameZ_any (a1 : Option Addr) (n1 c1 : Nat) (l : List Int) (a2 : Option Addr) (n2 c2 : Nat) (k : List Int) (w : World) (h1 : RowZ w a1 n1 c1 l) (h2 : RowZ w a2 n2 c2 k) :
    Calls Tryz.prog 18 #[.slice a1 n1 c1, .slice a2 n2 c2] w fun e w' => e = .returned (.bool (decide (l = k))) ∧ Drawn w w' := by
  have H1 := Lib.hid h1
  have H2 := Lib.hid h2
  have hm : n1 ≤ maxLen := Nat.le_trans h1.hcap h1.hmost
  unfold maxLen at hm
  clear h1 h2
  by_cases hn : n1 = n2
  · subst hn
    go_enter Tryz.func18, Tryz.ntmps18
    go_wp2_with fail
    go_loopg [5] n1 (fun gh s5 wx => ∃ j : Nat, gh = n1 - j ∧ j ≤ n1 ∧ s5 = .int .i64 (j : Int) ∧ Hid (∀ i, i < j → l.getD i 0 = k.getD i 0) ∧ Drawn w wx)
    case atStart => exact ⟨0, rfl, by omega, rfl, fun i hi => by omega, Drawn.refl _⟩
    case round =>
      obtain ⟨j, hg, hk, rfl, HA, hD⟩ := hrel
      have HG := Lib.hid hg
      clear hg
      by_cases hlt : j < n1
      · have x1 : (j : Int) < (n1 : Int) := by omega
        have x0 : (0 : Int) ≤ (j : Int) := by omega
        obtain ⟨bb, off, rfl, d1, _⟩ := (H1.out.drawn hD).row j hlt
        obtain ⟨bb', off', rfl, d2, _⟩ := (H2.out.drawn hD).row j hlt
        by_cases he : l.getD j 0 = k.getD j 0
        · have HA2 : Hid (∀ i, i < j + 1 → l.getD i 0 = k.getD i 0) := fun i hi => by
            by_cases e : i = j
            · rw [e]; exact he
            · exact HA.out i (by omega)
          rw [he] at d1
          generalize k.getD j 0 = q at d1 d2
          clear he HA
          go_wp2_with fail
          go_quiet (fail)
          have hd2 : Drawn w (wr.drewN nq) := hD.trans (Drawn.mk _ _)
          generalize wr.drewN nq = w5 at hd2 ⊢
          go_wp2_with fail
          go_roundg (n1 - (j + 1))
          case measure => have := HG.out; omega
          case rel => exact ⟨j + 1, rfl, by omega, by go_num, HA2.out, hd2⟩
        · have HF : Hid (decide (l = k) = false) := decide_eq_false fun h => he (by rw [h])
          have t1 : (l.getD j 0 == k.getD j 0) = false := by rw [beq_eq_false_iff_ne]; exact he
          generalize l.getD j 0 = q at d1 t1
          generalize k.getD j 0 = r at d2 t1
          clear he HA
          go_wp2_with fail
          go_quiet (fail)
          have hd2 : Drawn w (wr.drewN nq) := hD.trans (Drawn.mk _ _)
          generalize wr.drewN nq = w5 at hd2 ⊢
          go_wp2_with fail
          go_ret
          exact ⟨ret_bool HF.out.symm, hd2⟩
      · obtain rfl : j = n1 := by omega
        have HF : Hid (decide (l = k) = true) := decide_eq_true (listz_eq (by have := H1.out.hlen; have := H2.out.hlen; omega) fun i hi => HA.out i (by have := H1.out.hlen; omega))
        clear HA
        go_wp2_with fail
        go_ret
        exact ⟨ret_bool HF.out.symm, hD⟩
  · have HF : Hid (decide (l = k) = false) := decide_eq_false fun h => hn (by rw [H1.out.hlen, H2.out.hlen, h])
    have t1 : ((n1 : Int) == (n2 : Int)) = false := by rw [beq_eq_false_iff_ne]; omega
    clear hn
    go_enter Tryz.func18, Tryz.ntmps18
    go_wp2_with fail
    go_ret
    exact ⟨ret_bool HF.out.symm, Drawn.refl _⟩
end Go.Proofs.YthmfneepnkgmgaaGreatDoor.Pl
/- The contracts of package fieldpoly, and of its reference, in terms of the polynomials alone. By the verifier of shale. -/
namespace Go.Proofs.YthmfneepnkgmgaaGreatDoor.Pl
open Go Go.RowKit Fld Bits16
set_option linter.unusedVariables false
section
variable {m : Nat} [M : Mid m]
/-- numbers handed in that are this polynomial, at most K. -/
def PV (m : Nat) [M : Mid m] (w : World) (K : Nat) (a : Option Addr) (n c : Nat) (p : Ser (El m)) : Prop := ∃ l, RowZ w a n c l ∧ sr m l = p ∧ n ≤ K
/-- a polynomial written as it should be. -/
structure NV (m : Nat) [M : Mid m] (w : World) (K : Nat) (a : Option Addr) (n c : Nat) (p : Ser (El m)) : Prop where
  row : RowZ w a n c (nums p n)
  bd : Bd p n
  top : top p n = n
  le : n ≤ K
theorem PV.below {w w' : World} {K : Nat} {a : Option Addr} {n c : Nat} {p : Ser (El m)} (h : PV m w K a n c p) (b : Below w.heap.size w w') : PV m w' K a n c p := by
  obtain ⟨l, h1, h2, h3⟩ := h
  exact ⟨l, h1.below b, h2, h3⟩
theorem NV.below {w w' : World} {K : Nat} {a : Option Addr} {n c : Nat} {p : Ser (El m)} (h : NV m w K a n c p) (b : Below w.heap.size w w') : NV m w' K a n c p := ⟨h.row.below b, h.bd, h.top, h.le⟩
theorem NV.pol {w : World} {K : Nat} {a : Option Addr} {n c : Nat} {p : Ser (El m)} (h : NV m w K a n c p) : PV m w K a n c p := ⟨_, h.row, sr_nums h.bd, h.le⟩
theorem PV.bdn {w : World} {K : Nat} {a : Option Addr} {n c : Nat} {p : Ser (El m)} (h : PV m w K a n c p) : Bd p n := by
  obtain ⟨l, h1, rfl, _⟩ := h
  have := sr_bd (m := m) l
  rwa [← h1.hlen] at this
theorem PV.bd {w : World} {K : Nat} {a : Option Addr} {n c : Nat} {p : Ser (El m)} (h : PV m w K a n c p) : Bd p K := h.bdn.mono (by obtain ⟨_, _, _, h3⟩ := h; exact h3)
theorem top_full {p : Ser (El m)} {n N : Nat} (h : Bd p N) (hn : n = Pl.top p N) : Pl.top p n = n := by
  have hb : Bd p n := by rw [hn]; exact top_bd h
  rw [hn]; exact (top_same (by rw [hn] at hb; exact hb) h)
theorem outV {w0 w : World} {a : Option Addr} {n c K : Nat} {p : Ser (El m)} (h : Out m w0 w a n c p) (hK : Bd p K) : NV m w K a n c p := by
  have ht : Pl.top p n = n := by
    rcases h with ⟨_, rfl, _, rfl⟩ | ⟨g, N, _, _, _, _, _, hn, hb⟩
    · rfl
    · exact top_full hb hn
  exact ⟨h.row, h.bd, ht, by rw [← ht, top_same h.bd hK]; exact top_le p K⟩
theorem routV {w0 w : World} {a : Option Addr} {n c K : Nat} {p : Ser (El m)} (h : ROut m w0 w a n c p) (hK : Bd p K) : NV m w K a n c p :=
  ⟨h.row, h.bd, h.top, by rw [← h.top, top_same h.bd hK]; exact top_le p K⟩
theorem top_of {w : World} {K : Nat} {a : Option Addr} {n c : Nat} {p : Ser (El m)} (h : PV m w K a n c p) : Pl.top p n = Pl.top p K := top_same h.bdn h.bd
theorem der_bdK {p : Ser (El m)} {K : Nat} (h : Bd p K) : Bd (der p) K := fun i hi => by
  show (if i % 2 = 0 then p (i + 1) else 0) = 0
  split
  · exact h _ (by omega)
  · rfl
theorem top_pz : ∀ K, Pl.top (pz : Ser (El m)) K = 0
  | 0 => rfl
  | K + 1 => by rw [top_zero (rfl : (pz : Ser (El m)) K = 0)]; exact top_pz K
theorem top_nz {p : Ser (El m)} {K : Nat} (h : Bd p K) (h0 : p ≠ pz) : Pl.top p K ≠ 0 := fun e => h0 (by have := top_bd h; rw [e] at this; exact this.zero)
theorem top_deg {p : Ser (El m)} {K : Nat} (h : Bd p K) (h0 : p ≠ pz) : Dg p (Pl.top p K - 1) := (top_ne (top_nz h h0)).resolve_right fun x => x h
theorem top_dg' {p : Ser (El m)} {K d : Nat} (h : Bd p K) (hd : Dg p d) : Pl.top p K = d + 1 := by
  have h0 := top_deg h hd.ne
  have h1 := top_nz h hd.ne
  have := h0.eq hd
  omega
theorem cvK {p q : Ser (El m)} {k k' K : Nat} (hp : Bd p k) (hq : Bd q k') (h : k + k' ≤ K) : Bd (cv p q) K := (bd_cv hp hq).mono (by omega)
theorem div_bd {p q A L : Ser (El m)} {K e : Nat} (hp : Bd p K) (hq : Dg q e) (he : e < K) (h : Dv2 p q A L e) : Bd A K ∧ Bd L K := by
  have hL : Bd L K := h.low.mono (by omega)
  refine ⟨?_, hL⟩
  obtain ⟨n, hn⟩ := h.fin
  rcases dg_or hn with h0 | ⟨d, _, hd⟩
  · rw [h0]; exact bd_pz K
  · have h1 := hd.mul hq
    have h2 : cv A q = padd p L := by rw [h.sum, padd_back]
    rw [h2] at h1
    have := h1.lt (hp.add hL)
    exact hd.2.mono (by omega)
theorem PD.le {g p : Ser (El m)} {K : Nat} (h : PD g p) (h0 : p ≠ pz) (hp : Bd p K) {d : Nat} (hg : Dg g d) : d < K := by
  obtain ⟨a, n, ha, rfl⟩ := h
  rcases dg_or ha with h1 | ⟨x, _, hx⟩
  · rw [h1, cv_zero] at h0; exact absurd rfl h0
  · have := (hx.mul hg).lt hp; omega
/-- a greatest common divisor as the chapter wants it. -/
def IsG (p q G : Ser (El m)) : Prop := PG p q G ∧ (G = pz ∨ ∃ d, Dg G d ∧ G d = 1)
theorem pd_pz {p : Ser (El m)} (h : PD pz p) : p = pz := by
  obtain ⟨a, n, _, rfl⟩ := h
  exact zero_cv a
theorem IsG.zero {p q G : Ser (El m)} (h : IsG p q G) : G = pz ↔ p = pz ∧ q = pz := by
  constructor
  · rintro rfl
    exact ⟨pd_pz h.1.1, pd_pz h.1.2.1⟩
  · rintro ⟨rfl, rfl⟩
    exact pd_pz (h.1.2.2 pz (PD.zero _) (PD.zero _))
theorem IsG.unique {p q G G' : Ser (El m)} (h : IsG p q G) (k : IsG p q G') : G = G' := by
  by_cases h0 : G = pz
  · rw [h0]; exact (k.zero.2 (h.zero.1 h0)).symm
  · have h1 : G' ≠ pz := fun e => h0 (h.zero.2 (k.zero.1 e))
    obtain ⟨d, hd, e1⟩ := h.2.resolve_left h0
    obtain ⟨e, he, e2⟩ := k.2.resolve_left h1
    exact PG.unique hd he h.1 k.1 e1 e2
theorem IsG.bd {p q G : Ser (El m)} {K : Nat} (h : IsG p q G) (hp : Bd p K) (hq : Bd q K) : Bd G K := by
  rcases h.2 with rfl | ⟨d, hd, _⟩
  · exact bd_pz K
  · by_cases h0 : p = pz
    · by_cases h1 : q = pz
      · exact absurd (h.zero.2 ⟨h0, h1⟩) hd.ne
      · have := h.1.2.1.le h1 hq hd; exact hd.2.mono (by omega)
    · have := h.1.1.le h0 hp hd; exact hd.2.mono (by omega)
theorem IsG.comm {p q G : Ser (El m)} (h : IsG p q G) : IsG q p G := ⟨h.1.comm, h.2⟩
theorem nilV (w : World) : PV m w 0 none 0 0 pz := ⟨[], ⟨rfl, Nat.le_refl _, by decide, fun i hi => by omega⟩, by funext i; exact elm_zero, Nat.le_refl _⟩
theorem PV.more {w : World} {K K' : Nat} {a : Option Addr} {n c : Nat} {p : Ser (El m)} (h : PV m w K a n c p) (hK : K ≤ K') : PV m w K' a n c p := by
  obtain ⟨l, h1, h2, h3⟩ := h
  exact ⟨l, h1, h2, by omega⟩
section
variable {g s be ce bl : Nat} {w : World}
theorem mulV {k k' : Nat} {a a' : Option Addr} {n c n' c' : Nat} {p q : Ser (El m)} (R : RingAt m w g s be ce bl) (K : Nat) (h1 : PV m w k a n c p) (h2 : PV m w k' a' n' c' q) (hK : k + k' ≤ K) (hK2 : K ≤ 2048) :
    Calls Tryz.prog 113 #[.pointer (some ⟨g, 0, none⟩), .slice a n c, .slice a' n' c'] w fun e w' => ∃ a n c, e = .returned (.tuple #[.slice a n c, .nilIface]) ∧ NV m w' K a n c (cv p q) ∧ Below w.heap.size w w' := by
  have hb := cvK h1.bd h2.bd hK
  obtain ⟨l1, r1, rfl, n1⟩ := h1
  obtain ⟨l2, r2, rfl, n2⟩ := h2
  have t1 := top_le (sr m l1) n
  have t2 := top_le (sr m l2) n'
  refine (pmul_any a n c l1 a' n' c' l2 w R r1 r2 (by omega) (by omega) (by omega)).mono ?_
  rintro e w1 ⟨a3, n3, c3, rfl, hO, b⟩
  exact ⟨a3, n3, c3, rfl, outV hO hb, b⟩
theorem addV {k k' : Nat} {a a' : Option Addr} {n c n' c' : Nat} {p q : Ser (El m)} (R : RingAt m w g s be ce bl) (K : Nat) (h1 : PV m w k a n c p) (h2 : PV m w k' a' n' c' q) (hK : k ≤ K) (hK' : k' ≤ K) (hK2 : K ≤ 2048) :
    Calls Tryz.prog 140 #[.pointer (some ⟨g, 0, none⟩), .slice a n c, .slice a' n' c'] w fun e w' => ∃ a n c, e = .returned (.slice a n c) ∧ NV m w' K a n c (padd p q) ∧ Below w.heap.size w w' := by
  have hb : Bd (padd p q) K := (h1.bd.mono hK).add (h2.bd.mono hK')
  obtain ⟨l1, r1, rfl, n1⟩ := h1
  obtain ⟨l2, r2, rfl, n2⟩ := h2
  refine (padd_any a n c l1 a' n' c' l2 w R r1 r2 (by omega) (by omega)).mono ?_
  rintro e w1 ⟨a3, n3, c3, rfl, hO, b⟩
  exact ⟨a3, n3, c3, rfl, outV hO hb, b⟩
theorem scaleV {k : Nat} {a : Option Addr} {n c : Nat} {p : Ser (El m)} (z : Int) (R : RingAt m w g s be ce bl) (h1 : PV m w k a n c p) (hK2 : k ≤ 2048) :
    Calls Tryz.prog 141 #[.pointer (some ⟨g, 0, none⟩), .slice a n c, .int .i64 z] w fun e w' => ∃ a n c, e = .returned (.slice a n c) ∧ NV m w' k a n c (psm (elm m z) p) ∧ Below w.heap.size w w' := by
  have hb := h1.bd.sm (elm m z)
  obtain ⟨l1, r1, rfl, n1⟩ := h1
  refine (scale_any a n c l1 z w R r1 (by omega)).mono ?_
  rintro e w1 ⟨a3, n3, c3, rfl, hO, b⟩
  exact ⟨a3, n3, c3, rfl, outV hO hb, b⟩
theorem trimV {k : Nat} {a : Option Addr} {n c : Nat} {p : Ser (El m)} (R : RingAt m w g s be ce bl) (h1 : PV m w k a n c p) (hK2 : k ≤ 2048) :
    Calls Tryz.prog 124 #[.pointer (some ⟨g, 0, none⟩), .slice a n c] w fun e w' => ∃ a n c, e = .returned (.slice a n c) ∧ NV m w' k a n c p ∧ Below w.heap.size w w' := by
  have hb := h1.bd
  have hn := h1.bdn
  have ht := top_of h1
  have hle := top_le p k
  obtain ⟨l1, r1, rfl, n1⟩ := h1
  refine (trim_any a n c l1 w R r1 (by omega)).mono ?_
  rintro e w1 ⟨rfl, hB, b⟩
  refine ⟨_, _, _, rfl, ⟨?_, top_bd hn, top_full hn rfl, by rw [ht]; exact hle⟩, b⟩
  have hr := Blk64.row hB _ (by rw [nums_length]; exact Nat.le_refl _) (by rw [nums_length]; omega)
  rw [nums_take _ (Nat.le_refl _), nums_length] at hr
  exact hr
theorem degV {k : Nat} {a : Option Addr} {n c : Nat} {p : Ser (El m)} (R : RingAt m w g s be ce bl) (h1 : PV m w k a n c p) :
    Calls Tryz.prog 137 #[.pointer (some ⟨g, 0, none⟩), .slice a n c] w fun e w' => e = .returned (.int .i64 ((Pl.top p k : Int) - 1)) ∧ w = w' := by
  have ht := top_of h1
  obtain ⟨l1, r1, rfl, n1⟩ := h1
  have := deg_any a n c l1 w R r1
  rwa [ht] at this
/-- all the roots of p, rising. -/
noncomputable def rootsV (k : Nat) (p : Ser (El m)) : List Int := if Pl.top p k = 0 then [] else intsN (rts (Pl.top p k) p (2 ^ m))
theorem pls_bd (l : List Int) (n : Nat) : Bd (pls (m := m) l n) (n + 1) := (pls_dg l n).2
end
section
variable {w : World}
theorem sameV {k k' : Nat} {a a' : Option Addr} {n c n' c' : Nat} {p q : Ser (El m)} (h1 : NV m w k a n c p) (h2 : NV m w k' a' n' c' q) (e : p = q) :
    Calls Tryz.prog 18 #[.slice a n c, .slice a' n' c'] w fun e w' => e = .returned (.bool true) ∧ Drawn w w' := by
  subst e
  have hn : n = n' := by rw [← h1.top, ← h2.top]; exact top_same h1.bd h2.bd
  refine (sameZ_any a n c _ a' n' c' _ w h1.row h2.row).mono ?_
  rintro e w1 ⟨rfl, d⟩
  exact ⟨by rw [decide_eq_true (by rw [hn])], d⟩
end
end
end Go.Proofs.YthmfneepnkgmgaaGreatDoor.Pl
/- Cosets of a number under doubling, by their remainders. No program is named here. By the verifier of shale. -/
namespace Go.Proofs.YthmfneepnkgmgaaGreatDoor.Cos
set_option linter.unusedVariables false
def sz (m : Nat) : Nat := 2 ^ m - 1
def orb (N f j : Nat) : Nat := f * 2 ^ j % N
/-- the coset, rising. -/
def cos (m f : Nat) : List Nat := (List.range (sz m)).filter fun k => (List.range m).any fun j => orb (sz m) f j == k
theorem sz_lo {m : Nat} (h : 3 ≤ m) : 7 ≤ sz m := by
  have := Nat.pow_le_pow_right (by decide : 0 < 2) h
  unfold sz; omega
theorem sz_hi {m : Nat} (h : m ≤ 14) : sz m ≤ 16383 := by
  have := Nat.pow_le_pow_right (by decide : 0 < 2) h
  unfold sz; omega
theorem sz_odd {m : Nat} (h : 3 ≤ m) : ∃ q, sz m = 2 * q + 1 := by
  obtain ⟨k, rfl⟩ : ∃ k, m = k + 1 := ⟨m - 1, by omega⟩
  have hp := Nat.two_pow_pos k
  exact ⟨2 ^ k - 1, by unfold sz; rw [Nat.pow_succ]; omega⟩
theorem orb_lt {N : Nat} (hN : 0 < N) (f j : Nat) : orb N f j < N := Nat.mod_lt _ hN
theorem orb_zero {N f : Nat} (h : f < N) : orb N f 0 = f := by unfold orb; rw [Nat.pow_zero, Nat.mul_one, Nat.mod_eq_of_lt h]
theorem orb_comp (N f i j : Nat) : orb N (orb N f i) j = orb N f (i + j) := by
  unfold orb
  rw [Nat.mod_mul_mod, Nat.mul_assoc, ← Nat.pow_add]
theorem orb_succ (N f j : Nat) : orb N f (j + 1) = 2 * orb N f j % N := by
  rw [← orb_comp]
  unfold orb
  rw [Nat.pow_one, Nat.mul_comm]
theorem orb_m {m f : Nat} (h : f < sz m) : orb (sz m) f m = f := by
  have hp := Nat.two_pow_pos m
  have e : 2 ^ m = sz m + 1 := by unfold sz; omega
  unfold orb
  rw [e, Nat.mul_add, Nat.mul_one, Nat.mul_comm, Nat.mul_add_mod, Nat.mod_eq_of_lt h]
theorem dbl_case {N a : Nat} (h : a < N) : (2 * a % N = 2 * a ∧ 2 * a < N) ∨ (2 * a % N = 2 * a - N ∧ N ≤ 2 * a) := by
  by_cases h1 : 2 * a < N
  · exact Or.inl ⟨Nat.mod_eq_of_lt h1, h1⟩
  · exact Or.inr ⟨by rw [Nat.mod_eq_sub_mod (by omega), Nat.mod_eq_of_lt (by omega)], by omega⟩
theorem dbl_inj {N a b : Nat} (ho : ∃ q, N = 2 * q + 1) (ha : a < N) (hb : b < N) (h : 2 * a % N = 2 * b % N) : a = b := by
  obtain ⟨q, hq⟩ := ho
  rcases dbl_case ha with ⟨h1, h2⟩ | ⟨h1, h2⟩ <;> rcases dbl_case hb with ⟨h3, h4⟩ | ⟨h3, h4⟩ <;> omega
theorem orb_back {N f : Nat} (ho : ∃ q, N = 2 * q + 1) (hf : f < N) : ∀ i k, orb N f i = orb N f (i + k) → f = orb N f k
  | 0, k, h => by rw [orb_zero hf, Nat.zero_add] at h; exact h
  | i + 1, k, h => by
    rw [show i + 1 + k = i + k + 1 by omega, orb_succ, orb_succ] at h
    exact orb_back ho hf i k (dbl_inj ho (orb_lt (by omega) _ _) (orb_lt (by omega) _ _) h)
/-- d is how long the coset is. -/
structure IsPer (N f d : Nat) : Prop where
  pos : 1 ≤ d
  fin : orb N f d = f
  min : ∀ i, 1 ≤ i → i < d → orb N f i ≠ f
def lst (N f d : Nat) : List Nat := (List.range d).map (orb N f)
theorem lst_succ (N f d : Nat) : lst N f (d + 1) = lst N f d ++ [orb N f d] := by unfold lst; rw [List.range_succ, List.map_append]; rfl
theorem lst_length (N f d : Nat) : (lst N f d).length = d := by simp [lst]
theorem lst_nodup {N f d : Nat} (ho : ∃ q, N = 2 * q + 1) (hf : f < N) (h : IsPer N f d) : (lst N f d).Nodup := by
  unfold lst
  rw [List.Nodup, List.pairwise_map]
  refine List.Pairwise.imp_of_mem (R := (· < ·)) (fun {i j} hi hj hlt he => ?_) List.pairwise_lt_range
  have hj' := List.mem_range.1 hj
  have := orb_back ho hf i (j - i) (by rw [show i + (j - i) = j by omega]; exact he)
  exact h.min (j - i) (by omega) (by omega) this.symm
theorem orb_period {N f d : Nat} (h : IsPer N f d) : ∀ q r, orb N f (d * q + r) = orb N f r
  | 0, r => by rw [Nat.mul_zero, Nat.zero_add]
  | q + 1, r => by
    rw [show d * (q + 1) + r = d + (d * q + r) by rw [Nat.mul_add]; omega, ← orb_comp, h.fin, orb_period h q r]
theorem orb_mod {N f d : Nat} (h : IsPer N f d) (j : Nat) : orb N f j = orb N f (j % d) := by
  have := orb_period h (j / d) (j % d)
  rwa [Nat.div_add_mod] at this
theorem mem_lst {N f d : Nat} (h : IsPer N f d) (k : Nat) : k ∈ lst N f d ↔ ∃ j, orb N f j = k := by
  unfold lst
  rw [List.mem_map]
  constructor
  · rintro ⟨j, _, e⟩; exact ⟨j, e⟩
  · rintro ⟨j, e⟩
    exact ⟨j % d, List.mem_range.2 (Nat.mod_lt _ h.pos), by rw [← orb_mod h, e]⟩
theorem per_le {m f d : Nat} (hm : 3 ≤ m) (hf : f < sz m) (h : IsPer (sz m) f d) : d ≤ m := by
  refine Classical.byContradiction fun h0 => ?_
  exact h.min m (by omega) (by omega) (orb_m hf)
theorem per_exists {m f : Nat} (hm : 3 ≤ m) (hf : f < sz m) : ∃ d, IsPer (sz m) f d := by
  have key : ∀ k j, 1 ≤ j → j + k = m → (∀ i, 1 ≤ i → i < j → orb (sz m) f i ≠ f) → ∃ d, IsPer (sz m) f d := by
    intro k
    induction k with
    | zero =>
      intro j h1 h2 h3
      obtain rfl : j = m := by omega
      exact ⟨j, h1, orb_m hf, h3⟩
    | succ k ih =>
      intro j h1 h2 h3
      by_cases he : orb (sz m) f j = f
      · exact ⟨j, h1, he, h3⟩
      · refine ih (j + 1) (by omega) (by omega) fun i a b => ?_
        by_cases e : i = j
        · rw [e]; exact he
        · exact h3 i a (by omega)
  exact key (m - 1) 1 (Nat.le_refl _) (by omega) fun i a b => by omega
theorem mem_cos {m f : Nat} (k : Nat) : k ∈ cos m f ↔ k < sz m ∧ ∃ j, j < m ∧ orb (sz m) f j = k := by
  unfold cos
  rw [List.mem_filter, List.mem_range, List.any_eq_true]
  constructor
  · rintro ⟨h1, j, hj, he⟩
    exact ⟨h1, j, List.mem_range.1 hj, by simpa using he⟩
  · rintro ⟨h1, j, hj, he⟩
    exact ⟨h1, j, List.mem_range.2 hj, by simpa using he⟩
theorem cos_nodup (m f : Nat) : (cos m f).Nodup := List.Pairwise.filter _ List.nodup_range
theorem cos_rise (m f : Nat) : List.Pairwise (· < ·) (cos m f) := List.Pairwise.filter _ List.pairwise_lt_range
theorem lst_perm {m f d : Nat} (hm : 3 ≤ m) (hf : f < sz m) (h : IsPer (sz m) f d) : (lst (sz m) f d).Perm (cos m f) := by
  refine (List.perm_ext_iff_of_nodup (lst_nodup (sz_odd hm) hf h) (cos_nodup m f)).2 fun k => ?_
  rw [mem_lst h, mem_cos]
  constructor
  · rintro ⟨j, e⟩
    refine ⟨by rw [← e]; exact orb_lt (by omega) _ _, j % d, Nat.lt_of_lt_of_le (Nat.mod_lt _ h.pos) (per_le hm hf h), by rw [← orb_mod h, e]⟩
  · rintro ⟨_, j, _, e⟩; exact ⟨j, e⟩
theorem cos_length {m f d : Nat} (hm : 3 ≤ m) (hf : f < sz m) (h : IsPer (sz m) f d) : (cos m f).length = d := by
  rw [← (lst_perm hm hf h).length_eq, lst_length]
def ints (l : List Nat) : List Int := l.map fun e => ((e : Nat) : Int)
theorem sorted_cos {m f d : Nat} (hm : 3 ≤ m) (hf : f < sz m) (h : IsPer (sz m) f d) : (ints (lst (sz m) f d)).mergeSort (fun x y => decide (x ≤ y)) = ints (cos m f) := by
  refine List.Perm.eq_of_pairwise (le := fun x y => decide (x ≤ y) = true) ?_ ?_ ?_ ?_
  · intro a b _ _ h1 h2
    have := of_decide_eq_true h1
    have := of_decide_eq_true h2
    omega
  · refine List.pairwise_mergeSort ?_ ?_ _
    · intro a b c h1 h2
      have := of_decide_eq_true h1
      have := of_decide_eq_true h2
      exact decide_eq_true (by omega)
    · intro a b
      rw [Bool.or_eq_true, decide_eq_true_iff, decide_eq_true_iff]
      omega
  · refine List.Pairwise.map _ (fun a b hab => ?_) (cos_rise m f)
    exact decide_eq_true (by have : a < b := hab; omega)
  · exact (List.mergeSort_perm _ _).trans ((lst_perm hm hf h).map _)
theorem cos_first {m f : Nat} (hm : 3 ≤ m) (hf : f < sz m) : f ∈ cos m f := (mem_cos f).2 ⟨hf, 0, by omega, orb_zero hf⟩
theorem cos_dbl {m f k : Nat} (hm : 3 ≤ m) (hf : f < sz m) (h : k ∈ cos m f) : 2 * k % sz m ∈ cos m f := by
  obtain ⟨d, hd⟩ := per_exists hm hf
  rw [← (lst_perm hm hf hd).mem_iff, mem_lst hd] at h ⊢
  obtain ⟨j, e⟩ := h
  exact ⟨j + 1, by rw [orb_succ, e]⟩
theorem cos_same {m f k : Nat} (hm : 3 ≤ m) (hf : f < sz m) (h : k ∈ cos m f) : cos m k = cos m f := by
  obtain ⟨hk, j, hj, e⟩ := (mem_cos k).1 h
  have h2 : ∀ x, x ∈ cos m k ↔ x ∈ cos m f := fun x => by
    obtain ⟨d, hd⟩ := per_exists hm hf
    obtain ⟨d', hd'⟩ := per_exists hm hk
    rw [← (lst_perm hm hf hd).mem_iff, mem_lst hd, ← (lst_perm hm hk hd').mem_iff, mem_lst hd']
    constructor
    · rintro ⟨i, ei⟩; exact ⟨j + i, by rw [← orb_comp, e, ei]⟩
    · rintro ⟨i, ei⟩
      refine ⟨m * j - j + i, ?_⟩
      rw [← e, orb_comp, show j + (m * j - j + i) = m * j + i by have : j ≤ m * j := Nat.le_mul_of_pos_left j (by omega); omega, ← ei]
      have : ∀ q, orb (sz m) f (m * q + i) = orb (sz m) f i := by
        intro q
        induction q with
        | zero => rw [Nat.mul_zero, Nat.zero_add]
        | succ q ih => rw [show m * (q + 1) + i = m + (m * q + i) by rw [Nat.mul_add]; omega, ← orb_comp, orb_m hf, ih]
      exact this j
  refine List.Perm.eq_of_pairwise (le := (· < ·)) (fun a b _ _ h1 h2 => by omega) (cos_rise m k) (cos_rise m f) ?_
  exact (List.perm_ext_iff_of_nodup (cos_nodup m k) (cos_nodup m f)).2 h2
end Go.Proofs.YthmfneepnkgmgaaGreatDoor.Cos
/- The library's sort of ints, at this program's numbers. By the verifier of shale, with the shelf's own commands. -/
namespace Go.Proofs
open Go.Shelf
def Tryz.lays189_ren : Go.Shelf.Ren := ⟨fun | 189 => 134 | 125 => 145 | 257 => 144 | 128 => 156 | 129 => 157 | 294 => 147 | 295 => 148 | 296 => 149 | 297 => 150 | 298 => 151 | 299 => 152 | 216 => 153 | 300 => 154 | 301 => 155 | 328 => 158 | 329 => 159 | 330 => 160 | 331 => 161 | 332 => 162 | 215 => 163 | 343 => 164 | n => n, fun | 28 => 33 | 3 => 3 | 46 => 32 | 0 => 0 | 51 => 194 | 53 => 128 | 4 => 4 | 183 => 187 | 182 => 186 | 131 => 191 | 5 => 5 | 9 => 9 | 218 => 196 | 222 => 200 | 228 => 203 | 229 => 204 | n => n, fun | n => n⟩
theorem Tryz.lays189 : Go.Proofs.Lays.n189 Tryz.prog Tryz.lays189_ren := {
  mixed := by kernel_rfl
  f125 := Tryz.func145.trans (congrArg some (by kernel_rfl))
  f128 := Tryz.func156.trans (congrArg some (by kernel_rfl))
  f129 := Tryz.func157.trans (congrArg some (by kernel_rfl))
  f189 := Tryz.func134.trans (congrArg some (by kernel_rfl))
  f215 := Tryz.func163.trans (congrArg some (by kernel_rfl))
  f216 := Tryz.func153.trans (congrArg some (by kernel_rfl))
  f257 := Tryz.func144.trans (congrArg some (by kernel_rfl))
  f294 := Tryz.func147.trans (congrArg some (by kernel_rfl))
  f295 := Tryz.func148.trans (congrArg some (by kernel_rfl))
  f296 := Tryz.func149.trans (congrArg some (by kernel_rfl))
  f297 := Tryz.func150.trans (congrArg some (by kernel_rfl))
  f298 := Tryz.func151.trans (congrArg some (by kernel_rfl))
  f299 := Tryz.func152.trans (congrArg some (by kernel_rfl))
  f300 := Tryz.func154.trans (congrArg some (by kernel_rfl))
  f301 := Tryz.func155.trans (congrArg some (by kernel_rfl))
  f328 := Tryz.func158.trans (congrArg some (by kernel_rfl))
  f329 := Tryz.func159.trans (congrArg some (by kernel_rfl))
  f330 := Tryz.func160.trans (congrArg some (by kernel_rfl))
  f331 := Tryz.func161.trans (congrArg some (by kernel_rfl))
  f332 := Tryz.func162.trans (congrArg some (by kernel_rfl))
  f343 := Tryz.func164.trans (congrArg some (by kernel_rfl))
  t0 := Tryz.underlying0
  a0 := Tryz.isAgg0
  z0 := Tryz.sizeOf0
  v0 := Tryz.zeroValue0
  t3 := Tryz.underlying3
  a3 := Tryz.isAgg3
  z3 := Tryz.sizeOf3
  v3 := Tryz.zeroValue3
  t4 := Tryz.underlying4
  a4 := Tryz.isAgg4
  z4 := Tryz.sizeOf4
  v4 := Tryz.zeroValue4
  t5 := Tryz.underlying5
  a5 := Tryz.isAgg5
  z5 := Tryz.sizeOf5
  v5 := Tryz.zeroValue5
  t9 := Tryz.underlying9
  a9 := Tryz.isAgg9
  z9 := Tryz.sizeOf9
  v9 := Tryz.zeroValue9
  t28 := Tryz.underlying33
  a28 := Tryz.isAgg33
  z28 := Tryz.sizeOf33
  v28 := Tryz.zeroValue33
  t46 := Tryz.underlying32
  a46 := Tryz.isAgg32
  z46 := Tryz.sizeOf32
  v46 := Tryz.zeroValue32
  t51 := Tryz.underlying194
  a51 := Tryz.isAgg194
  z51 := Tryz.sizeOf194
  v51 := Tryz.zeroValue194
  t53 := Tryz.underlying128
  a53 := Tryz.isAgg128
  z53 := Tryz.sizeOf128
  v53 := Tryz.zeroValue128
  t131 := Tryz.underlying191
  a131 := Tryz.isAgg191
  z131 := Tryz.sizeOf191
  v131 := Tryz.zeroValue191
  t182 := Tryz.underlying186
  a182 := Tryz.isAgg186
  z182 := Tryz.sizeOf186
  v182 := Tryz.zeroValue186
  t183 := Tryz.underlying187
  a183 := Tryz.isAgg187
  z183 := Tryz.sizeOf187
  v183 := Tryz.zeroValue187
  t218 := Tryz.underlying196
  a218 := Tryz.isAgg196
  z218 := Tryz.sizeOf196
  v218 := Tryz.zeroValue196
  t222 := Tryz.underlying200
  a222 := Tryz.isAgg200
  z222 := Tryz.sizeOf200
  v222 := Tryz.zeroValue200
  t228 := Tryz.underlying203
  a228 := Tryz.isAgg203
  z228 := Tryz.sizeOf203
  v228 := Tryz.zeroValue203
  t229 := Tryz.underlying204
  a229 := Tryz.isAgg204
  z229 := Tryz.sizeOf204
  v229 := Tryz.zeroValue204 }
open Go.Sort Go.RowKit in
theorem YthmfneepnkgmgaaGreatDoor.sort_ints (blk off cap : Nat) (zs : List Int) (w : World) (hH : Holds (Value.int .i64) w blk off zs.toArray) (hblk : blk < w.heap.size) (hsz : zs.length < 4611686018427387904) :
    Calls Tryz.prog 134 #[.slice (some ⟨blk, off, none⟩) zs.length cap] w fun e w' =>
      e = .returned (.tuple #[]) ∧ ∃ n os, w' = grow (putRow (Value.int .i64) (Sort.ahead w n) blk off (zs.mergeSort fun x y => decide (x ≤ y)).toArray) os := Any.slices_Sort_int Tryz.lays189 blk off cap zs w hH hblk hsz
end Go.Proofs
/- The walk over package minimal's Coset. By the verifier of shale. -/
namespace Go.Proofs.YthmfneepnkgmgaaGreatDoor.Cos
open Go Go.RowKit
set_option linter.unusedVariables false
/-- the remainder that a number has. -/
def rs (m : Nat) (i : Int) : Nat := (i % (sz m : Int)).toNat
theorem rs_lt {m : Nat} (hm : 3 ≤ m) (i : Int) : rs m i < sz m := by
  have h := sz_lo hm
  have h1 := Int.emod_lt_of_pos i (by omega : (0 : Int) < (sz m : Int))
  have h2 := Int.emod_nonneg i (by omega : (sz m : Int) ≠ 0)
  unfold rs; omega
theorem rs_go {m : Nat} (hm : 3 ≤ m) (i : Int) : (i.tmod (sz m : Int) + (sz m : Int)).tmod (sz m : Int) = (rs m i : Int) := by
  have h := sz_lo hm
  have h1 := Int.emod_lt_of_pos i (by omega : (0 : Int) < (sz m : Int))
  have h2 := Int.emod_nonneg i (by omega : (sz m : Int) ≠ 0)
  have e : (rs m i : Int) = i % (sz m : Int) := by unfold rs; omega
  have a1 := Int.tmod_lt_of_pos i (by omega : (0 : Int) < (sz m : Int))
  have a2 : -(sz m : Int) < i.tmod (sz m : Int) := by
    have := Int.tmod_lt_of_pos (-i) (by omega : (0 : Int) < (sz m : Int))
    rw [Int.neg_tmod] at this
    omega
  rw [Int.tmod_eq_emod_of_nonneg (by omega), Int.add_emod_right, e, Int.tmod_eq_emod]
  split
  · rw [show ((0 : Nat) : Int) = 0 from rfl, Int.sub_zero, Int.emod_emod_of_dvd _ (Int.dvd_refl _)]
  · rw [show (((sz m : Int).natAbs : Nat) : Int) = (sz m : Int) by omega, Int.sub_emod_right, Int.emod_emod_of_dvd _ (Int.dvd_refl _)]
theorem dbl_go {N x : Nat} (hN : 7 ≤ N) (hN2 : N ≤ 16383) (h : x < N) : wrap64 (2 * (x : Int)) = 2 * (x : Int) ∧ (2 * (x : Int)).tmod (N : Int) = ((2 * x % N : Nat) : Int) := by
  constructor
  · exact IntWalk.wrap64_in _ (by omega)
  · rw [Int.tmod_eq_emod_of_nonneg (by omega), Int.natCast_emod, Int.natCast_mul]; rfl
theorem own_slice {w : World} {base n : Nat} {v : Value} {l : List Int} (e : Own64 w base v n l) : ∃ a c, v = .slice a n c := by
  rcases e.2 with ⟨h0, h1⟩ | ⟨g', cap', cur, hv, _⟩
  · exact ⟨none, 0, by rw [h0, h1]⟩
  · exact ⟨_, _, hv⟩
theorem ints_length (l : List Nat) : (ints l).length = l.length := by simp [ints]
theorem ints_snoc (l : List Nat) (x : Nat) : ints (l ++ [x]) = ints l ++ [(x : Int)] := by simp [ints]
/-- the library's sort of a slice of the call's own. -/
theorem sorted_own {w : World} {base n : Nat} {a : Option Addr} {c : Nat} {l k : List Int} (h : Own64 w base (.slice a n c) n l) (hn : 0 < n) (hn2 : n ≤ 1000000) (hs : l.mergeSort (fun x y => decide (x ≤ y)) = k) (hb : base ≤ w.heap.size) :
    Calls Tryz.prog 134 #[.slice a n c] w fun e w' => e = .returned (.tuple #[]) ∧ Own64 w' base (.slice a n c) n k ∧ Below base w w' := by
  have hl := h.len
  rcases h.2 with ⟨h0, h1⟩ | ⟨g, cap, cur, hv, hbg, hh, hnc, hm, hsz, ht⟩
  · omega
  · simp only [Value.slice.injEq] at hv
    obtain ⟨rfl, _, rfl⟩ := hv
    subst hl
    rw [Nat.mul_one] at ht hsz
    have hlm : l.length ≤ maxLen := by omega
    unfold maxLen at hlm hm
    have hts : (k.map (Value.int .i64)) = cells64 k := rfl
    refine (YthmfneepnkgmgaaGreatDoor.sort_ints g 0 c l w (Go.holds_of_blockI hh ht) (lt_of_block hh) ?_).mono ?_
    · omega
    · rintro e w' ⟨rfl, nn, os, rfl⟩
      have hkl : k.length = l.length := by rw [← hs]; exact (List.mergeSort_perm _ _).length_eq
      rw [hs]
      refine ⟨rfl, ?_, ?_⟩
      · have := Go.ownsRow_sortedI (n := nn) (os := os) (ss := l) (ts := k) hkl hbg hh hnc hm (by rw [Nat.mul_one]; exact hsz)
        exact this
      · exact (Below.refl base w).grown (Go.grownBy_sortedI k.toArray) hb (fun g' hg' => by simp only [Option.some.injEq] at hg'; omega)
set_option maxRecDepth 100000 in
set_option maxHeartbeats 1000000 in
theorem coset_any (m : Nat) (hm : 3 ≤ m) (hm2 : m ≤ 14) (i : Int) (w : World) :
    Calls Tryz.prog 110 #[.int .i64 (m : Int), .int .i64 i] w
      fun e w' => ∃ a n c, e = .returned (.tuple #[.slice a n c, .nilIface]) ∧ Own64 w' w.heap.size (.slice a n c) n (ints (cos m (rs m i))) ∧ Below w.heap.size w w' := by
  have h1 : ¬ (m : Int) < 3 := by omega
  have h2 : ¬ (14 : Int) < (m : Int) := by omega
  have hm14 : (m : Int) ≤ 14 := by omega
  have ho := Fld.shl_one m hm2
  have hn := sz_lo hm
  have hn2 := sz_hi hm2
  have hw : IntKind.i64.wrap ((Fld.els m : Int) - 1) = (sz m : Int) := by
    have : (Fld.els m : Int) - 1 = (sz m : Int) := by unfold Fld.els sz; have := Nat.two_pow_pos m; omega
    rw [this]; exact IntWalk.i64_in _ (by omega)
  have hr := rs_go hm i
  have hf := rs_lt hm i
  obtain ⟨i0, hi, hz0, hz1, hz2⟩ := info64
  have hA : wrap64 (i.tmod (sz m : Int) + (sz m : Int)) = i.tmod (sz m : Int) + (sz m : Int) := by
    have a1 := Int.tmod_lt_of_pos i (by omega : (0 : Int) < (sz m : Int))
    have a2 := Int.tmod_lt_of_pos (-i) (by omega : (0 : Int) < (sz m : Int))
    rw [Int.neg_tmod] at a2
    exact IntWalk.wrap64_in _ (by omega)
  obtain ⟨N, hN⟩ : ∃ N, N = sz m := ⟨_, rfl⟩
  obtain ⟨f, hfe⟩ : ∃ f, f = rs m i := ⟨_, rfl⟩
  rw [← hN] at hn hn2 hw hr hf hA
  rw [← hfe] at hr hf ⊢
  have HN := Lib.hid hN
  clear hN hfe
  obtain ⟨hB, hC⟩ := dbl_go hn hn2 hf
  have e1 : 2 * f % N = orb N f 1 := by rw [show 1 = 0 + 1 from rfl, orb_succ, orb_zero hf]
  rw [e1] at hC
  go_enter Tryz.func110, Tryz.ntmps110
  go_wp2_with fail
  have hb1 : Below w.heap.size w (w.alloc (.cells #[.int .i64 (f : Int)] 3 (0, 0))) := (Below.refl _ _).alloc (Nat.le_refl _) _
  have ho1 : Own64 (w.alloc (.cells #[.int .i64 (f : Int)] 3 (0, 0))) w.heap.size (.slice (some ⟨w.heap.size, 0, none⟩) 1 1) 1 (ints (lst N f 1)) := by
    have e : ints (lst N f 1) = [(f : Int)] := by
      show [((orb N f 0 : Nat) : Int)] = _
      rw [orb_zero hf]
    rw [e]
    exact ⟨rfl, Or.inr ⟨w.heap.size, 1, _, rfl, Nat.le_refl _, heap_alloc_new w _, Nat.le_refl _, by decide, rfl, rfl⟩⟩
  generalize w.alloc (.cells #[.int .i64 (f : Int)] 3 (0, 0)) = w1 at hb1 ho1 ⊢
  clear hA hB hC e1 hr hw
  go_loopg [8, 9] (m - 1) (fun gh s8 s9 wx => ∃ (j : Nat), gh = m - j ∧ 1 ≤ j ∧ j ≤ m ∧ s9 = .int .i64 ((orb N f j : Nat) : Int) ∧ Own64 wx w.heap.size s8 j (ints (lst N f j)) ∧ Hid (∀ k, 1 ≤ k → k < j → orb N f k ≠ f) ∧ Below w.heap.size w wx)
  case atStart => exact ⟨1, rfl, Nat.le_refl _, by omega, rfl, ho1, fun k a b => by omega, hb1⟩
  case round =>
    clear ho1 hb1
    obtain ⟨j, hg, hj1, hjm, rfl, ho5, HA, hB5⟩ := hrel
    have HG := Lib.hid hg
    clear hg
    obtain ⟨av, cv, rfl⟩ := own_slice ho5
    have hbs := hB5.size
    by_cases he : orb N f j = f
    · have HP : IsPer N f j := ⟨hj1, he, HA.out⟩
      have hs := by have := sorted_cos (d := j) hm (by rw [← HN.out]; exact hf) (by rw [← HN.out]; exact HP); rw [← HN.out] at this; exact this
      have t1 : (((orb N f j : Nat) : Int) == (f : Int)) = true := by rw [beq_iff_eq, he]
      clear HA he HP
      generalize ((orb N f j : Nat) : Int) = z at t1
      go_wp2_with fail
      refine (sorted_own ho5 hj1 (by omega) hs hbs).mono ?_
      rintro e w2 ⟨rfl, ho6, b6⟩
      have HB := Lib.hid (hB5.trans b6)
      have HO := Lib.hid ho6
      clear ho5 hB5 ho6 b6
      go_wp2_with fail
      go_ret2
      exact ⟨av, j, cv, rfl, HO.out, HB.out⟩
    · have hjm' : j ≠ m := fun e => he (by rw [e, HN.out]; exact orb_m (by rw [← HN.out]; exact hf))
      have t1 : (((orb N f j : Nat) : Int) == (f : Int)) = false := by rw [beq_eq_false_iff_ne]; omega
      have HA2 : Hid (∀ k, 1 ≤ k → k < j + 1 → orb N f k ≠ f) := fun k a b => by
        by_cases e : k = j
        · rw [e]; exact he
        · exact HA.out k a (by omega)
      obtain ⟨hB, hC⟩ := dbl_go hn hn2 (orb_lt (by omega : 0 < N) f j)
      rw [← orb_succ] at hC
      have HF : Hid (ints (lst N f (j + 1)) = ints (lst N f j) ++ [((orb N f j : Nat) : Int)]) := by
        show _ = _
        rw [lst_succ, ints_snoc]
      clear HA he
      generalize ((orb N f j : Nat) : Int) = z at t1 hB hC HF ⊢
      go_wp2_with (at_builtin; refine wpList_append_own _ rfl _ _ 33 rfl w.heap.size 3 i0 (.int .i64 0) 1 8 Tryz.underlying33 hi hz0 hz1 hz2 rfl (by decide) _ j _ rfl (World.ownsRow.alloc ho5 _) ⟨wr.heap.size, 0, none⟩ 1 1 [.int .i64 z] rfl rfl (cell_one_new _ _ _) (ints_oneCell .i64 [_]) (by unfold maxLen; omega) (by omega) (by simp; omega) ?_; intro v7 w7 hown7 hgrow _)
      have ho7 : Own64 w7 w.heap.size v7 (j + 1) (ints (lst N f (j + 1))) := by
        unfold Own64
        rw [HF.out, ← cells64_append]
        exact hown7
      have b7 : Below w.heap.size w w7 := (hB5.alloc hbs _).grown hgrow (by simp; omega) (fun g hg => (ho5.block g hg).1)
      clear hown7 hgrow ho5 hB5
      go_wp2_with fail
      go_roundg (m - (j + 1))
      case measure => have := HG.out; omega
      case rel => exact ⟨j + 1, rfl, by omega, by omega, rfl, ho7, HA2, b7⟩
end Go.Proofs.YthmfneepnkgmgaaGreatDoor.Cos
/- Blocks of bools that the call itself makes. By the verifier of shale. -/
namespace Go.Proofs.YthmfneepnkgmgaaGreatDoor
open Go Go.RowKit
set_option linter.unusedVariables false
def objB (l : List Bool) : Obj := .cells (l.map Value.bool).toArray 4 (0, 0)
/-- block g is the first N values of p. -/
def BF (w : World) (g N : Nat) (p : Nat → Bool) : Prop := w.heap[g]? = some (objB ((List.range N).map p))
theorem BF.lt {w : World} {g N : Nat} {p : Nat → Bool} (h : BF w g N p) : g < w.heap.size := lt_of_block h
theorem BF.cell {w : World} {g N : Nat} {p : Nat → Bool} (h : BF w g N p) {i : Nat} (hi : i < N) : w.cell? ⟨g, i, none⟩ = some (.bool (p i)) := by
  unfold World.cell?
  simp only
  rw [show w.heap[g]? = some (objB ((List.range N).map p)) from h]
  simp [objB, hi]
theorem BF.free {w : World} {g N : Nat} {p : Nat → Bool} (h : BF w g N p) (i : Nat) : w.frozen? ⟨g, i, none⟩ = false := by
  unfold World.frozen?
  simp only
  rw [show w.heap[g]? = some (objB ((List.range N).map p)) from h]
  rfl
theorem BF.of {w : World} {g N : Nat} {p q : Nat → Bool} (h : BF w g N p) (e : ∀ i, i < N → p i = q i) : BF w g N q := by
  unfold BF at h ⊢
  rw [h]
  congr 2
  exact List.map_congr_left fun i hi => e i (List.mem_range.1 hi)
theorem BF.set {w : World} {g N : Nat} {p : Nat → Bool} (h : BF w g N p) (k : Nat) : BF (w.setCell ⟨g, k, none⟩ (.bool true)) g N (fun i => p i || decide (i = k)) := by
  unfold BF
  rw [heap_setCell_same w g k _ _ _ h]
  congr 2
  apply Array.ext
  · simp
  · intro i h1 h2
    simp at h1 h2
    by_cases e : i = k
    · subst e; simp
    · simp [e, Ne.symm e]
set_option maxRecDepth 100000 in
theorem infoB : ∃ i, Tryz.prog.info? 4 = some i ∧ i.zero = some (.bool false) ∧ i.size = 1 ∧ i.bytes = 1 :=
  info_parts (show (Tryz.prog.info? 4).map (fun i => (i.zero, i.size, i.bytes)) = some (some (.bool false), 1, 1) by kernel_rfl)
set_option maxRecDepth 100000 in
theorem madeB (w : World) (n : Nat) (hn : n ≤ 1000000) :
    (Instr.makeSlice 50 (.int .i64 (n : Int)) (.int .i64 (n : Int))).run Tryz.prog w = .ok (.slice (some ⟨w.heap.size, 0, none⟩) n n) (w.alloc (objB (List.replicate n false))) := by
  obtain ⟨i0, hi, hz0, hz1, hz2⟩ := infoB
  rw [run_make (P := Tryz.prog) w 50 4 i0 (.bool false) Tryz.underlying50 hi hz0 .i64 .i64 (n : Int) (n : Int) (by omega) (by omega) (by rw [hz2]; omega) (by omega)]
  congr 2
  unfold objB madeCells
  rw [hz1]
  congr 1
  apply Array.ext
  · simp
  · intro i h1 h2
    simp [Value.cells, Nat.mod_one]
theorem BF.new (w : World) (n : Nat) : BF (w.alloc (objB (List.replicate n false))) w.heap.size n (fun _ => false) := by
  unfold BF
  rw [heap_alloc_new]
  congr 2
  apply List.ext_getElem
  · simp
  · intro i h1 h2; simp
end Go.Proofs.YthmfneepnkgmgaaGreatDoor
/- The walk over package minimal's cosets. By the verifier of shale. -/
namespace Go.Proofs.YthmfneepnkgmgaaGreatDoor.Cos
open Go Go.RowKit
set_option linter.unusedVariables false
/-- is x in a coset of one of these? -/
def cov (m : Nat) (fs : List Nat) (x : Nat) : Bool := fs.any fun f => (cos m f).contains x
/-- the unlike cosets of a, a + s, .. (k numbers), each by the remainder that it is met at. -/
def leads (m a s : Nat) : Nat → List Nat
  | 0 => []
  | k + 1 => if cov m (leads m a s k) ((a + s * k) % sz m) then leads m a s k else leads m a s k ++ [(a + s * k) % sz m]
theorem cov_snoc (m : Nat) (fs : List Nat) (f x : Nat) : cov m (fs ++ [f]) x = (cov m fs x || (cos m f).contains x) := by simp [cov]
theorem leads_lt {m : Nat} (hm : 3 ≤ m) (a s : Nat) : ∀ k f, f ∈ leads m a s k → f < sz m
  | 0, f, h => by simp [leads] at h
  | k + 1, f, h => by
    have hp := sz_lo hm
    simp only [leads] at h
    split at h
    · exact leads_lt hm a s k f h
    · rcases List.mem_append.1 h with h | h
      · exact leads_lt hm a s k f h
      · simp at h; rw [h]; exact Nat.mod_lt _ (by omega)
theorem leads_le (m a s : Nat) : ∀ k, (leads m a s k).length ≤ k
  | 0 => Nat.le_refl _
  | k + 1 => by
    have := leads_le m a s k
    simp only [leads]
    split
    · omega
    · simp; omega
/-- a list of cosets that the call itself makes. -/
structure CRow (w : World) (sb m : Nat) (v : Value) (n : Nat) (fs : List Nat) (vs : List Value) : Prop where
  own : w.ownsRow (sb + 1) 33 1 v n vs
  len : fs.length = n
  each : ∀ k, k < n → ∃ g c, vs[k]? = some (.slice (some ⟨g, 0, none⟩) (cos m (fs.getD k 0)).length c) ∧ Pl.RowZ w (some ⟨g, 0, none⟩) (cos m (fs.getD k 0)).length c (ints (cos m (fs.getD k 0))) ∧ sb < g ∧ v.ownBlock ≠ some g
theorem own_block {w : World} {base n : Nat} {v : Value} {vs : List Value} {e : TypeId} (h : w.ownsRow base e 1 v n vs) : ∀ g, v.ownBlock = some g → base ≤ g ∧ g < w.heap.size := by
  intro g hg
  rcases h.2 with ⟨h0, _⟩ | ⟨g', cap', cur, hv, hbg, hh, _⟩
  · rw [h0] at hg; cases hg
  · rw [hv] at hg
    simp only [Value.ownBlock, Option.some.injEq] at hg
    subst hg
    exact ⟨hbg, lt_of_block hh⟩
theorem row_keep {w w' : World} {g n c : Nat} {l : List Int} (h : Pl.RowZ w (some ⟨g, 0, none⟩) n c l) (hk : w'.heap[g]? = w.heap[g]?) (hs : w.heap.size ≤ w'.heap.size) : Pl.RowZ w' (some ⟨g, 0, none⟩) n c l :=
  ⟨h.hlen, h.hcap, h.hmost, fun i hi => by
    obtain ⟨bb, off, e, hc, hb⟩ := h.row i hi
    simp only [Option.some.injEq, Addr.mk.injEq] at e
    obtain ⟨rfl, rfl, _⟩ := e
    exact ⟨g, 0, rfl, (World.cell?_of_block (w := w) hk).trans hc, Nat.lt_of_lt_of_le hb hs⟩⟩
theorem CRow.keep {w w' : World} {sb m n : Nat} {v : Value} {fs : List Nat} {vs : List Value} (h : CRow w sb m v n fs vs) (hk : ∀ g, sb < g → g < w.heap.size → w'.heap[g]? = w.heap[g]?) (hs : w.heap.size ≤ w'.heap.size) (hne : ∀ k, k < n → cos m (fs.getD k 0) ≠ []) : CRow w' sb m v n fs vs := by
  refine ⟨⟨h.own.1, ?_⟩, h.len, fun k hkn => ?_⟩
  · rcases h.own.2 with h0 | ⟨g', cap', cur, hv, hbg, hh, r⟩
    · exact Or.inl h0
    · exact Or.inr ⟨g', cap', cur, hv, hbg, by rw [hk g' (by omega) (lt_of_block hh)]; exact hh, r⟩
  · obtain ⟨g, c, e, hr, hg, ho⟩ := h.each k hkn
    have hlt : g < w.heap.size := by
      have : 0 < (cos m (fs.getD k 0)).length := List.length_pos_iff.2 (hne k hkn)
      obtain ⟨bb, off, e2, _, hb⟩ := hr.row 0 this
      simp only [Option.some.injEq, Addr.mk.injEq] at e2
      omega
    exact ⟨g, c, e, row_keep hr (hk g hg hlt) hs, hg, ho⟩
theorem cos_ne {m f : Nat} (hm : 3 ≤ m) (hf : f < sz m) : cos m f ≠ [] := fun e => by have := cos_first hm hf; rw [e] at this; simp at this
theorem cos_len_le {m f : Nat} (hm : 3 ≤ m) (hf : f < sz m) : (cos m f).length ≤ m := by
  obtain ⟨d, hd⟩ := per_exists hm hf
  rw [cos_length hm hf hd]; exact per_le hm hf hd
set_option maxRecDepth 100000 in
theorem infoS : ∃ i, Tryz.prog.info? 33 = some i ∧ i.zero = some (.slice none 0 0) ∧ i.size = 1 ∧ i.bytes = 24 :=
  info_parts (show (Tryz.prog.info? 33).map (fun i => (i.zero, i.size, i.bytes)) = some (some (.slice none 0 0), 1, 24) by kernel_rfl)
theorem getD_lt {l : List Nat} {k : Nat} (h : k < l.length) : l.getD k 0 ∈ l := by
  rw [List.getD_eq_getElem?_getD, List.getElem?_eq_getElem h]; exact List.getElem_mem h
theorem getD_snoc_lt {l : List Nat} {x k : Nat} (h : k < l.length) : (l ++ [x]).getD k 0 = l.getD k 0 := by
  rw [List.getD_eq_getElem?_getD, List.getD_eq_getElem?_getD, List.getElem?_append_left h]
theorem getD_snoc_eq (l : List Nat) (x : Nat) : (l ++ [x]).getD l.length 0 = x := by
  rw [List.getD_eq_getElem?_getD, List.getElem?_append_right (Nat.le_refl _), Nat.sub_self]; rfl
set_option maxRecDepth 100000 in
set_option maxHeartbeats 1000000 in
theorem cosets_any (m a s cnt : Nat) (b : Int) (hm : 3 ≤ m) (hm2 : m ≤ 14) (hs1 : s ≤ 1000) (hc1 : ∀ k, k < cnt → ((a + s * k : Nat) : Int) ≤ b) (hc2 : b < ((a + s * cnt : Nat) : Int)) (hbig : a + s * cnt ≤ 100000) (hcnt : cnt ≤ 100000) (w : World) :
    Calls Tryz.prog 106 #[.int .i64 (m : Int), .int .i64 (a : Int), .int .i64 b, .int .i64 (s : Int)] w
      fun e w' => ∃ v n vs, e = .returned v ∧ CRow w' w.heap.size m v n (leads m a s cnt) vs ∧ Below w.heap.size w w' := by
  have hm14 : (m : Int) ≤ 14 := by omega
  have ho := Fld.shl_one m hm2
  have hn := sz_lo hm
  have hn2 := sz_hi hm2
  have hw : IntKind.i64.wrap ((Fld.els m : Int) - 1) = (sz m : Int) := by
    have : (Fld.els m : Int) - 1 = (sz m : Int) := by unfold Fld.els sz; have := Nat.two_pow_pos m; omega
    rw [this]; exact IntWalk.i64_in _ (by omega)
  obtain ⟨iS, hiS, hzS0, hzS1, hzS2⟩ := infoS
  obtain ⟨N, hN⟩ : ∃ N, N = sz m := ⟨_, rfl⟩
  rw [← hN] at hn hn2 hw
  have HN := Lib.hid hN
  clear hN
  have hmk := madeB w N (by omega)
  go_enter Tryz.func106, Tryz.ntmps106
  go_wp2_with fail
  have hb1 : Below w.heap.size w (w.alloc (objB (List.replicate N false))) := (Below.refl _ _).alloc (Nat.le_refl _) _
  have hf1 : BF (w.alloc (objB (List.replicate N false))) w.heap.size N (cov m (leads m a s 0)) := (BF.new w N).of fun i hi => by simp [leads, cov]
  have hc0 : CRow (w.alloc (objB (List.replicate N false))) w.heap.size m (.slice none 0 0) 0 (leads m a s 0) [] := ⟨⟨rfl, Or.inl ⟨rfl, rfl⟩⟩, rfl, fun k hk => by omega⟩
  clear hmk hw ho
  generalize w.alloc (objB (List.replicate N false)) = w1 at hb1 hf1 hc0 ⊢
  have HC1 := Lib.hid hc1
  have HC2 := Lib.hid hc2
  clear hc1 hc2
  go_loopg [9, 11] cnt (fun gh s9 s11 wx => ∃ (k n : Nat) (vs : List Value), gh = cnt - k ∧ k ≤ cnt ∧ s11 = .int .i64 ((a + s * k : Nat) : Int) ∧ CRow wx w.heap.size m s9 n (leads m a s k) vs ∧ BF wx w.heap.size N (cov m (leads m a s k)) ∧ Below w.heap.size w wx)
  case atStart => exact ⟨0, 0, [], rfl, Nat.zero_le _, by rw [Nat.mul_zero, Nat.add_zero], hc0, hf1, hb1⟩
  case round =>
    clear hc0 hf1 hb1
    obtain ⟨k, n, vs, hg, hk, rfl, hC, hF, hB⟩ := hrel
    have HG := Lib.hid hg
    clear hg
    obtain ⟨I, hI⟩ : ∃ I, I = a + s * k := ⟨_, rfl⟩
    rw [← hI]
    have hnk : n ≤ k := by have := leads_le m a s k; have := hC.len; omega
    have hbs := hB.size
    have hIb : I ≤ 100000 := by
      have : s * k ≤ s * cnt := Nat.mul_le_mul_left s hk
      omega
    by_cases hlt : k < cnt
    · have t1 : decide ((I : Int) ≤ b) = true := decide_eq_true (by rw [hI]; exact HC1.out k hlt)
      have hI2 : a + s * (k + 1) = I + s := by rw [hI, Nat.mul_add]; omega
      have e1 : (I : Int).tmod (N : Int) = ((I % N : Nat) : Int) := by rw [Int.tmod_eq_emod_of_nonneg (by omega), Int.natCast_emod]
      have hx : I % N < N := Nat.mod_lt _ (by omega)
      have d1 := hF.cell hx
      have hrs : rs m (I : Int) = I % N := by unfold rs; rw [← HN.out, ← Int.natCast_emod]; rfl
      have HL : Hid (leads m a s (k + 1) = if cov m (leads m a s k) (I % N) then leads m a s k else leads m a s k ++ [I % N]) := by
        show _ = _
        rw [leads, ← hI, ← HN.out]
      have HI := Lib.hid hI
      have HI2 := Lib.hid hI2
      obtain ⟨x, hxe⟩ : ∃ x, x = I % N := ⟨_, rfl⟩
      rw [← hxe] at e1 hx d1 hrs HL
      clear hI hI2 hxe
      have x0 : (0 : Int) ≤ (x : Int) := by omega
      have x1 : (x : Int) < (N : Int) := by omega
      by_cases hcv : cov m (leads m a s k) x = true
      · rw [hcv] at d1
        have HL2 : Hid (leads m a s (k + 1) = leads m a s k) := by show _ = _; rw [HL.out, if_pos hcv]
        clear hcv HL
        have HCC := Lib.hid hC
        have HFF := Lib.hid hF
        clear hC hF
        go_wp2_with fail
        go_roundg (cnt - (k + 1))
        case measure => have := HG.out; omega
        case rel => exact ⟨k + 1, n, vs, rfl, by omega, by rw [HI2.out]; go_num, by rw [HL2.out]; exact HCC.out, by rw [HL2.out]; exact HFF.out, hB⟩
      · have hcv' : cov m (leads m a s k) x = false := by cases h : cov m (leads m a s k) x <;> simp_all
        rw [hcv'] at d1
        have HL2 : Hid (leads m a s (k + 1) = leads m a s k ++ [x]) := by show _ = _; rw [HL.out, if_neg hcv]
        clear hcv HL hcv'
        have HCC := Lib.hid hC
        have HFF := Lib.hid hF
        clear hC hF
        go_wp2_with fail
        refine (coset_any m hm hm2 (I : Int) wr).mono ?_
        rintro e w5 ⟨a5, n5, c5, rfl, hO, b5⟩
        rw [hrs] at hO
        have hxs : x < sz m := by rw [← HN.out]; exact hx
        have hlen := hO.len
        rw [ints_length] at hlen
        have hpos : 0 < (cos m x).length := List.length_pos_iff.2 (cos_ne hm hxs)
        have hle := cos_len_le hm hxs
        obtain ⟨hrow, hfr⟩ := Pl.own_rowz hO
        obtain ⟨bb, off, rfl, _, hbb⟩ := hrow.row 0 (by omega)
        have hgb : wr.heap.size ≤ bb := hfr bb off rfl
        obtain rfl : off = 0 := by
          rcases hO.2 with ⟨h0, h1⟩ | ⟨g', cap', cur, hv, _⟩
          · simp at h0
          · simp only [Value.slice.injEq, Option.some.injEq, Addr.mk.injEq] at hv; exact hv.1.2.1
        obtain rfl : n5 = (cos m x).length := hlen.symm
        have hFs : w.heap.size < wr.heap.size := HFF.out.lt
        have hF5 : BF w5 w.heap.size N (fun y => cov m (leads m a s k) y || ((cos m x).take 0).contains y) := by
          refine BF.of (p := cov m (leads m a s k)) ((b5.block _ hFs).trans HFF.out) fun i hi => by simp
        have hne : ∀ j, j < n → cos m ((leads m a s k).getD j 0) ≠ [] := fun j hj => cos_ne hm (leads_lt hm a s k _ (getD_lt (by rw [HCC.out.len]; exact hj)))
        have HNE := Lib.hid hne
        have hC5 : CRow w5 w.heap.size m u9 n (leads m a s k) vs := HCC.out.keep (fun g h1 h2 => b5.block g h2) b5.size hne
        have hB5 := hB.trans (b5.mono hbs)
        have hO9 : ∀ g, u9.ownBlock = some g → g < wr.heap.size := fun g hg => (own_block HCC.out.own g hg).2
        have HO9 := Lib.hid hO9
        have HXS := Lib.hid hxs
        have HFS := Lib.hid hFs
        have HHB := Lib.hid hgb
        clear hO hlen hfr hbb b5 hne hO9 HCC HFF hB hxs d1 hgb hFs
        go_wp2_with fail
        go_loopg [44] (cos m x).length (fun gh s44 wx => ∃ (j : Nat), gh = (cos m x).length - j ∧ j ≤ (cos m x).length ∧ s44 = .int .i64 (j : Int) ∧ BF wx w.heap.size N (fun y => cov m (leads m a s k) y || ((cos m x).take j).contains y) ∧ CRow wx w.heap.size m u9 n (leads m a s k) vs ∧ Pl.RowZ wx (some ⟨bb, 0, none⟩) (cos m x).length c5 (ints (cos m x)) ∧ Below w.heap.size w wx ∧ bb < wx.heap.size)
        case atStart => exact ⟨0, rfl, Nat.zero_le _, rfl, hF5, hC5, hrow, hB5, by
          obtain ⟨b', o', e', _, hb'⟩ := hrow.row 0 hpos
          simp only [Option.some.injEq, Addr.mk.injEq] at e'
          omega⟩
        case round =>
          clear hF5 hC5 hrow hB5
          obtain ⟨j, hg, hj, rfl, hF, hC, hrow, hB, hbw⟩ := hrel
          have HG2 := Lib.hid hg
          clear hg
          by_cases hlt2 : j < (cos m x).length
          · have v1 : (j : Int) < ((cos m x).length : Int) := by omega
            have v0 : (0 : Int) ≤ (j : Int) := by omega
            obtain ⟨y, hy⟩ : ∃ y, y = (cos m x).getD j 0 := ⟨_, rfl⟩
            have hyc : y ∈ cos m x := by rw [hy]; exact getD_lt hlt2
            have hyN : y < N := by rw [HN.out]; exact ((mem_cos y).1 hyc).1
            have d1 : wr.cell? ⟨bb, j, none⟩ = some (.int .i64 (y : Int)) := by
              obtain ⟨b', o', e', hc', _⟩ := hrow.row j hlt2
              simp only [Option.some.injEq, Addr.mk.injEq] at e'
              obtain ⟨rfl, rfl, _⟩ := e'
              rw [Nat.zero_add] at hc'
              rw [hc', hy]
              unfold ints
              rw [List.getD_eq_getElem?_getD, List.getElem?_map, List.getD_eq_getElem?_getD, List.getElem?_eq_getElem hlt2]
              rfl
            have d2 := hF.cell hyN
            have d3 := hF.free y
            have y0 : (0 : Int) ≤ (y : Int) := by omega
            have y1 : (y : Int) < (N : Int) := by omega
            have HNF : Hid (BF (wr.setCell ⟨w.heap.size, y, none⟩ (.bool true)) w.heap.size N (fun z => cov m (leads m a s k) z || ((cos m x).take (j + 1)).contains z)) := by
              refine (hF.set y).of fun i hi => ?_
              have e : (cos m x).take (j + 1) = (cos m x).take j ++ [y] := by rw [List.take_add_one, hy, List.getD_eq_getElem?_getD, List.getElem?_eq_getElem hlt2]; rfl
              rw [e]
              simp [Bool.or_assoc]
            have HNC : Hid (CRow (wr.setCell ⟨w.heap.size, y, none⟩ (.bool true)) w.heap.size m u9 n (leads m a s k) vs) := hC.keep (fun g h1 h2 => Below.heap_setCell _ _ _ _ (by show g ≠ w.heap.size; omega)) (by show wr.heap.size ≤ (wr.heap.modify _ _).size; rw [Array.size_modify]; exact Nat.le_refl _) HNE.out
            have HNR : Hid (Pl.RowZ (wr.setCell ⟨w.heap.size, y, none⟩ (.bool true)) (some ⟨bb, 0, none⟩) (cos m x).length c5 (ints (cos m x))) := row_keep hrow (Below.heap_setCell _ _ _ _ (by show bb ≠ w.heap.size; have := HFS.out; have := HHB.out; omega)) (by show wr.heap.size ≤ (wr.heap.modify _ _).size; rw [Array.size_modify]; exact Nat.le_refl _)
            have HNB : Hid (Below w.heap.size w (wr.setCell ⟨w.heap.size, y, none⟩ (.bool true))) := hB.setCell (p := ⟨w.heap.size, y, none⟩) (Nat.le_refl _) _
            have HBW : Hid (bb < (wr.setCell ⟨w.heap.size, y, none⟩ (.bool true)).heap.size) := by show bb < (wr.heap.modify _ _).size; rw [Array.size_modify]; exact hbw
            generalize (cov m (leads m a s k) y || ((cos m x).take j).contains y) = bv at d2
            clear hF hC hrow hB hbw hyc hy hyN
            go_wp2_with fail
            go_roundg ((cos m x).length - (j + 1))
            case measure => have := HG2.out; omega
            case rel => exact ⟨j + 1, rfl, by omega, by go_num, HNF.out, HNC.out, HNR.out, HNB.out, HBW.out⟩
          · obtain rfl : j = (cos m x).length := by omega
            have hFF : BF wr w.heap.size N (cov m (leads m a s (k + 1))) := hF.of fun i hi => by rw [HL2.out, cov_snoc, List.take_length]
            have HFF := Lib.hid hFF
            have HC := Lib.hid hC
            have HRow := Lib.hid hrow
            have hbs2 := hB.size
            have hown := hC.own
            clear hF hFF hC hrow HG2 hlt2
            go_wp2_with (at_builtin; refine wpList_append_own_at _ rfl _ _ 120 rfl (w.heap.size + 1) 33 iS (.slice none 0 0) 1 24 Tryz.underlying120 hiS hzS0 hzS1 hzS2 rfl (by decide) _ n _ rfl (World.ownsRow.alloc hown _) ⟨wr.heap.size, 0, none⟩ 1 1 [.slice (some ⟨bb, 0, none⟩) (cos m x).length c5] rfl rfl (cell_one_new _ _ _) (by intro u hu; simp at hu; subst hu; rfl) (by unfold maxLen; omega) (by omega) (by simp; have := HFS.out; omega) ?_; intro v7 w7 hown7 hgrow _ hob)
            have hsz : (wr.alloc (.cells #[.slice (some ⟨bb, 0, none⟩) (cos m x).length c5] 33 (0, 0))).heap.size = wr.heap.size + 1 := Array.size_push _
            have hk7 : ∀ g, g < wr.heap.size → u9.ownBlock ≠ some g → w7.heap[g]? = wr.heap[g]? := fun g h1 h2 => by
              rw [hgrow.block g (by rw [hsz]; omega) (fun e => h2 e.symm)]
              exact ((Below.refl wr.heap.size wr).alloc (Nat.le_refl _) _).block g h1
            have hs7 : wr.heap.size ≤ w7.heap.size := by have := hgrow.size; rw [hsz] at this; omega
            have hB7 : Below w.heap.size w w7 := (hB.alloc hbs2 _).grown hgrow (by rw [hsz]; omega) (fun g hg => by have := (own_block HC.out.own g hg).1; omega)
            have hb7 : BF w7 w.heap.size N (cov m (leads m a s (k + 1))) := (hk7 _ HFF.out.lt (fun e => by have := (own_block HC.out.own _ e).1; omega)).trans HFF.out
            have hv7 : ∀ g, g < wr.heap.size → u9.ownBlock ≠ some g → v7.ownBlock ≠ some g := fun g h1 h2 => by
              rcases hob with h | h
              · rw [h]; exact h2
              · rw [h, hsz]
                intro e
                simp only [Option.some.injEq] at e
                omega
            have hu9 : u9.ownBlock ≠ some bb := fun e => by have := HO9.out bb e; have := HHB.out; omega
            have hC7 : CRow w7 w.heap.size m v7 (n + 1) (leads m a s (k + 1)) (vs ++ [.slice (some ⟨bb, 0, none⟩) (cos m x).length c5]) := by
              have hvl : vs.length = n := by have := HC.out.own.1; omega
              refine ⟨hown7, by rw [HL2.out, List.length_append, HC.out.len]; rfl, fun i hi => ?_⟩
              rw [HL2.out]
              by_cases hin : i < n
              · obtain ⟨g, c, e, hr, hg, ho⟩ := HC.out.each i hin
                rw [getD_snoc_lt (by rw [HC.out.len]; exact hin), List.getElem?_append_left (by rw [hvl]; exact hin)]
                have hgl : g < wr.heap.size := by
                  obtain ⟨b', o', e', _, hb'⟩ := hr.row 0 (List.length_pos_iff.2 (HNE.out i hin))
                  simp only [Option.some.injEq, Addr.mk.injEq] at e'
                  omega
                exact ⟨g, c, e, row_keep hr (hk7 g hgl ho) hs7, hg, hv7 g hgl ho⟩
              · obtain rfl : i = n := by omega
                have hx : (leads m a s k ++ [x]).getD i 0 = x := by
                  have := getD_snoc_eq (leads m a s k) x
                  rwa [HC.out.len] at this
                rw [hx]
                exact ⟨bb, c5, by rw [List.getElem?_append_right (by omega), hvl, Nat.sub_self]; rfl, row_keep HRow.out (hk7 bb hbw hu9) hs7, by have := HFS.out; have := HHB.out; omega, hv7 bb hbw hu9⟩
            clear hown7 hgrow hob hk7 hv7 hown hB HC HRow HFF
            have HC7 := Lib.hid hC7
            have Hb7 := Lib.hid hb7
            clear hC7 hb7
            go_wp2_with fail
            go_roundg (cnt - (k + 1))
            case measure => have := HG.out; omega
            case rel => exact ⟨k + 1, n + 1, _, rfl, by omega, by rw [HI2.out]; go_num, HC7.out, Hb7.out, hB7⟩
    · obtain rfl : k = cnt := by omega
      have t1 : decide ((I : Int) ≤ b) = false := decide_eq_false (by have := HC2.out; rw [← hI] at this; omega)
      have HCC := Lib.hid hC
      clear hC hF hI
      go_wp2_with fail
      go_ret
      exact ⟨_, n, vs, rfl, HCC.out, hB⟩
end Go.Proofs.YthmfneepnkgmgaaGreatDoor.Cos
/- The statements' own polynomials (shaleref2): Eval, Add, Times. By the verifier of shale. -/
namespace Go.Proofs.YthmfneepnkgmgaaGreatDoor.Pl
open Go Go.RowKit Fld Bits16
set_option linter.unusedVariables false
theorem regrown0 (w : World) : ∃ p : Regrown, w.drew = Sort.grow (redrawn w p.d) p.os := ⟨⟨w.drawn + 1, #[]⟩, by rw [Sort.grow_empty]; rfl⟩
section
variable {m : Nat} [M : Mid m]
theorem rmul_zz (a b : El m) (w : World) : Calls Tryz.prog 67 #[.int .i64 (m : Int), .int .i64 (zn a), .int .i64 (zn b)] w fun e w' => e = .returned (.int .i64 (zn (a * b))) ∧ Below w.heap.size w w' := by
  have := rmul_any m M.lo M.hi (zn a) (zn b) w
  rwa [mul_zn, elm_zn, elm_zn] at this
theorem rmul_zx (a : El m) (x : Int) (w : World) : Calls Tryz.prog 67 #[.int .i64 (m : Int), .int .i64 (zn a), .int .i64 x] w fun e w' => e = .returned (.int .i64 (zn (a * elm m x))) ∧ Below w.heap.size w w' := by
  have := rmul_any m M.lo M.hi (zn a) x w
  rwa [mul_zn, elm_zn] at this
set_option maxRecDepth 100000 in
set_option maxHeartbeats 1000000 in
theorem reval_any (a : Option Addr) (n cap : Nat) (l : List Int) (x : Int) (w : World) (h : RowZ w a n cap l) :
    Calls Tryz.prog 75 #[.int .i64 (m : Int), .slice a n cap, .int .i64 x] w
      fun e w' => e = .returned (.int .i64 (zn (ev n (sr m l) (elm m x)))) ∧ Below w.heap.size w w' := by
  have HP := Lib.hid h
  have hm : n ≤ maxLen := Nat.le_trans h.hcap h.hmost
  unfold maxLen at hm
  clear h
  go_enter Tryz.func75, Tryz.ntmps75
  go_wp2_with fail
  go_loopg [7, 8] n (fun gh s9 s10 wx => ∃ k j : Nat, gh = k ∧ k + j = n ∧ s10 = .int .i64 ((k : Int) - 1) ∧ s9 = .int .i64 (zn (ev j (dr (sr m l) k) (elm m x))) ∧ Below w.heap.size w wx)
  case atStart => exact ⟨n, 0, rfl, by omega, rfl, rfl, Below.refl _ _⟩
  case round =>
    obtain ⟨k, j, hg, hkj, rfl, rfl, hD⟩ := hrel
    have HG := Lib.hid hg
    clear hg
    rcases k with _ | k
    · have HJ : Hid (j = n) := by show _ = _; omega
      have HE : Hid (zn (ev j (dr (sr m l) 0) (elm m x)) = zn (ev n (sr m l) (elm m x))) := by
        show _ = _
        rw [HJ.out]
        have : dr (sr m l) 0 = sr m l := funext fun i => by show sr m l (0 + i) = _; rw [Nat.zero_add]
        rw [this]
      clear hkj
      go_wp2_with fail
      go_ret
      exact ⟨ret_i64 HE.out, hD⟩
    · have x0 : (0 : Int) ≤ (k : Int) := by omega
      have x1 : (k : Int) < (n : Int) := by omega
      rw [show ((k + 1 : Nat) : Int) - 1 = (k : Int) by omega]
      obtain ⟨bb, off, rfl, c1, hb⟩ := (HP.out.below hD).row k (by omega)
      have c1 := cell_regrown c1
      have HM : Hid (∀ q os, Calls Tryz.prog 67 #[.int .i64 (m : Int), .int .i64 (zn (ev j (dr (sr m l) (k + 1)) (elm m x))), .int .i64 x] (Sort.grow (redrawn wr q) os) fun e w'' => e = .returned (.int .i64 (zn (ev j (dr (sr m l) (k + 1)) (elm m x) * elm m x))) ∧ ∃ p : Regrown, w'' = Sort.grow (redrawn wr p.d) p.os) := fun q os => Calls.regrown_of (rmul_zx _ x _)
      have HL : Hid (∀ q os, Calls Tryz.prog 70 #[.int .i64 (m : Int), .int .i64 (l.getD k 0)] (Sort.grow (redrawn wr q) os) fun e w'' => e = .returned (.int .i64 (zn (elm m (l.getD k 0)))) ∧ ∃ p : Regrown, w'' = Sort.grow (redrawn wr p.d) p.os) := fun q os => Calls.regrown_of ((rlow_any _ _).mono fun _ _ ⟨h1, h2⟩ => ⟨h1, by rw [← h2]; exact Below.refl _ _⟩)
      have hz3 : bits .xor .i64 (zn (ev j (dr (sr m l) (k + 1)) (elm m x) * elm m x)) (zn (elm m (l.getD k 0))) = zn (ev (j + 1) (dr (sr m l) k) (elm m x)) := by
        rw [zn_add, sr_at, ev_dr]
      generalize zn (ev j (dr (sr m l) (k + 1)) (elm m x)) = z1 at HM ⊢
      generalize zn (ev j (dr (sr m l) (k + 1)) (elm m x) * elm m x) = z2 at HM hz3
      generalize zn (elm m (l.getD k 0)) = z5 at HL hz3
      generalize l.getD k 0 = z4 at c1 HL
      have HD := Lib.hid hD
      clear hD hb
      go_wp2_with fail
      refine wp_region_quiet_below (by kernel_rfl) (by kernel_rfl) ?_
      repeat (go_big_quiet_step (first | (go_at_call 67; with_reducible exact HM.out _ _) | (go_at_call 70; with_reducible exact HL.out _ _)))
      refine wpQuiet_nil ?_
      intro _ hw'
      obtain ⟨⟨dq, osq⟩, hw''⟩ := hw'
      subst hw''
      have hD2 : Below w.heap.size w (Sort.grow (redrawn wr dq) osq) := HD.out.trans ((below_regrown wr dq osq).mono HD.out.size)
      generalize Sort.grow (redrawn wr dq) osq = w5 at hD2 ⊢
      clear c1
      go_wp2_with fail
      go_roundg k
      case measure => have := HG.out; omega
      case rel => exact ⟨k, j + 1, rfl, by omega, by go_num, rfl, hD2⟩
/-- the first k numbers of f, and 0 up to N. -/
def upN (f : Nat → Int) (N k : Nat) : List Int := (List.range N).map fun i => if i < k then f i else 0
omit M in
theorem upN_length (f : Nat → Int) (N k : Nat) : (upN f N k).length = N := by simp [upN]
omit M in
theorem upN_set (f : Nat → Int) (N k : Nat) : (upN f N k).set k (f k) = upN f N (k + 1) := by
  apply List.ext_getElem
  · simp [upN]
  · intro i h1 h2
    simp only [upN, List.getElem_set, List.getElem_map, List.getElem_range]
    by_cases h : k = i
    · rw [if_pos h, if_pos (by omega), h]
    · rw [if_neg h]
      by_cases h3 : i < k
      · rw [if_pos h3, if_pos (by omega)]
      · rw [if_neg h3, if_neg (by omega)]
omit M in
theorem upN_at (f : Nat → Int) (N k i : Nat) (hi : i < N) (hk : k ≤ i) : nth64 (upN f N k) i = 0 := by
  unfold nth64
  rw [List.getD_eq_getElem?_getD, List.getElem?_eq_getElem (by rw [upN_length]; exact hi)]
  simp only [upN, List.getElem_map, List.getElem_range, Option.getD_some]
  rw [if_neg (by omega)]
omit M in
theorem upN_zero (f : Nat → Int) (N : Nat) : List.replicate N 0 = upN f N 0 := by
  apply List.ext_getElem
  · simp [upN]
  · intro i h1 h2; simp [upN]
/-- what Add lays at i: the numbers' own bits. -/
def rawN (l1 l2 : List Int) (i : Nat) : Int :=
  if i < l1.length then (if i < l2.length then bits .xor .i64 (l1.getD i 0) (l2.getD i 0) else l1.getD i 0) else bits .xor .i64 0 (l2.getD i 0)
theorem elm_xor (x y : Int) : elm m (bits .xor .i64 x y) = elm m x + elm m y := El.ext (el_xor m M.hi x y)
theorem sr_raw (l1 l2 : List Int) (N : Nat) (h1 : l1.length ≤ N) (h2 : l2.length ≤ N) : sr m (upN (rawN l1 l2) N N) = padd (sr m l1) (sr m l2) := by
  funext i
  show elm m ((upN (rawN l1 l2) N N).getD i 0) = elm m (l1.getD i 0) + elm m (l2.getD i 0)
  by_cases hi : i < N
  · rw [List.getD_eq_getElem?_getD, List.getElem?_eq_getElem (by rw [upN_length]; exact hi)]
    simp only [upN, List.getElem_map, List.getElem_range, Option.getD_some]
    rw [if_pos hi]
    unfold rawN
    by_cases a1 : i < l1.length
    · rw [if_pos a1]
      by_cases a2 : i < l2.length
      · rw [if_pos a2, elm_xor]
      · rw [if_neg a2, show l2.getD i 0 = 0 by rw [List.getD_eq_getElem?_getD, List.getElem?_eq_none (by omega)]; rfl, elm_zero, Fl.add_zero]
    · rw [if_neg a1, elm_xor, show l1.getD i 0 = 0 by rw [List.getD_eq_getElem?_getD, List.getElem?_eq_none (by omega)]; rfl]
  · rw [show (upN (rawN l1 l2) N N).getD i 0 = 0 by rw [List.getD_eq_getElem?_getD, List.getElem?_eq_none (by rw [upN_length]; omega)]; rfl,
      show l1.getD i 0 = 0 by rw [List.getD_eq_getElem?_getD, List.getElem?_eq_none (by omega)]; rfl, show l2.getD i 0 = 0 by rw [List.getD_eq_getElem?_getD, List.getElem?_eq_none (by omega)]; rfl, elm_zero, Fl.add_zero]
end
end Go.Proofs.YthmfneepnkgmgaaGreatDoor.Pl
/- The statements' own polynomials (shaleref2): Add. By the verifier of shale. -/
namespace Go.Proofs.YthmfneepnkgmgaaGreatDoor.Pl
open Go Go.RowKit Fld Bits16
set_option linter.unusedVariables false
section
variable {m : Nat} [M : Mid m]
theorem Blk64.rowz {w : World} {g : Nat} {l : List Int} (h : Blk64 w g l) (hm : l.length ≤ 1000000) : RowZ w (some ⟨g, 0, none⟩) l.length l.length l := by
  have := Blk64.row h l.length (Nat.le_refl _) hm
  rwa [List.take_length] at this
set_option maxRecDepth 100000 in
set_option maxHeartbeats 1000000 in
theorem radd_any (a1 : Option Addr) (n1 c1 : Nat) (l1 : List Int) (a2 : Option Addr) (n2 c2 : Nat) (l2 : List Int) (w : World) (h1 : RowZ w a1 n1 c1 l1) (h2 : RowZ w a2 n2 c2 l2) (k1 : n1 ≤ 1000000) (k2 : n2 ≤ 1000000) :
    Calls Tryz.prog 73 #[.int .i64 (m : Int), .slice a1 n1 c1, .slice a2 n2 c2] w
      fun e w' => ∃ a' n' cap', e = .returned (.slice a' n' cap') ∧ ROut m w w' a' n' cap' (padd (sr m l1) (sr m l2)) ∧ Below w.heap.size w w' := by
  have HP1 := Lib.hid h1
  have HP2 := Lib.hid h2
  have e1 := h1.hlen
  have e2 := h2.hlen
  obtain ⟨N, hN⟩ : ∃ N, N = max n1 n2 := ⟨_, rfl⟩
  have hN1 : n1 ≤ N := by omega
  have hN2 : n2 ≤ N := by omega
  have hNN : N = n1 ∨ N = n2 := by omega
  have hNm : N ≤ 1000000 := by omega
  have hmx : max (n1 : Int) (n2 : Int) = (N : Int) := by omega
  have hS : sr m (upN (rawN l1 l2) N N) = padd (sr m l1) (sr m l2) := sr_raw l1 l2 N (by omega) (by omega)
  have HS := Lib.hid hS
  have hmk := made64 w N hNm
  rw [upN_zero (rawN l1 l2)] at hmk
  have hmk1 : Hid (¬ n1 < n2 → (Instr.makeSlice 33 (.int .i64 (n1 : Int)) (.int .i64 (n1 : Int))).run Tryz.prog w = .ok (.slice (some ⟨w.heap.size, 0, none⟩) N N) (w.alloc (obj64 (upN (rawN l1 l2) N 0)))) := fun h => by
    have e : n1 = N := by omega
    rw [e]; exact hmk
  have hmk2 : Hid (n1 < n2 → (Instr.makeSlice 33 (.int .i64 (n2 : Int)) (.int .i64 (n2 : Int))).run Tryz.prog w = .ok (.slice (some ⟨w.heap.size, 0, none⟩) N N) (w.alloc (obj64 (upN (rawN l1 l2) N 0)))) := fun h => by
    have e : n2 = N := by omega
    rw [e]; exact hmk
  have HK0 : Hid (Blk64 (w.alloc (obj64 (upN (rawN l1 l2) N 0))) w.heap.size (upN (rawN l1 l2) N 0)) := Blk64.new w _
  have HB0 : Hid (Below w.heap.size w (w.alloc (obj64 (upN (rawN l1 l2) N 0)))) := (Below.refl _ _).alloc (Nat.le_refl _) _
  have HE1 := Lib.hid e1
  have HE2 := Lib.hid e2
  have HNN := Lib.hid hNN
  clear h1 h2 e1 e2 hN hNN hS
  have hmkN := hmk
  clear hmk
  by_cases hcase : n1 < n2
  all_goals
    first | have hmk := hmk2.out hcase | have hmk := hmk1.out hcase
    clear hmk1 hmk2
    go_enter Tryz.func73, Tryz.ntmps73
    go_wp2_with fail
    clear hmk hcase hmkN hmx
    generalize w.alloc (obj64 (upN (rawN l1 l2) N 0)) = w0 at HK0 HB0 ⊢
    go_loopg [8] N (fun gh s8 wx => ∃ (k : Nat), gh = N - k ∧ k ≤ N ∧ s8 = .int .i64 (k : Int) ∧ Blk64 wx w.heap.size (upN (rawN l1 l2) N k) ∧ Below w.heap.size w wx)
    case atStart => exact ⟨0, rfl, Nat.zero_le _, rfl, HK0.out, HB0.out⟩
    case round =>
      clear HK0 HB0
      obtain ⟨k, hg, hkn, rfl, hk, hB⟩ := hrel
      have HG := Lib.hid hg
      clear hg
      by_cases hlt : k < N
      · have x0 : (0 : Int) ≤ (k : Int) := by omega
        have x1 : (k : Int) < (N : Int) := by omega
        have hc := hk.cell (i := k) (by rw [upN_length]; exact hlt)
        rw [upN_at _ _ _ _ hlt (Nat.le_refl _)] at hc
        have hf := hk.free k
        have hset := upN_set (rawN l1 l2) N k
        have HK := Lib.hid hk
        have HB := Lib.hid hB
        have HSET := Lib.hid hset
        by_cases ha : k < n1
        · have t1 : decide ((k : Int) < (n1 : Int)) = true := decide_eq_true (by omega)
          have x2 : (k : Int) < (n1 : Int) := by omega
          obtain ⟨bb, off, rfl, d1, hb⟩ := (HP1.out.below hB).row k ha
          generalize hz1 : l1.getD k 0 = z1 at d1
          have HZ1 := Lib.hid hz1
          clear hz1
          have hs := hk.set k (z1)
          have U8 : Upd w.heap.size wr (wr.setCell ⟨w.heap.size, k, none⟩ (.int .i64 (z1))) := (Upd.refl _ wr).only (Only.setCell _ ⟨w.heap.size, k, none⟩ _)
          have hB8 := hB.trans (U8.toBelow (Nat.le_refl _) hB.size)
          have HS8 := Lib.hid hs
          have HB8 := Lib.hid hB8
          clear hk hB hb hset hs hB8 U8
          by_cases hc2 : k < n2
          · have t2 : decide ((k : Int) < (n2 : Int)) = true := decide_eq_true (by omega)
            have x3 : (k : Int) < (n2 : Int) := by omega
            go_wp2_with fail
            clear hc hf d1
            generalize wr.setCell ⟨w.heap.size, k, none⟩ (.int .i64 (z1)) = w8 at HS8 HB8 ⊢
            obtain ⟨b2, o2, rfl, d2, hb2⟩ := (HP2.out.below HB8.out).row k hc2
            have hc := HS8.out.cell (i := k) (by rw [List.length_set, upN_length]; exact hlt)
            have hf := HS8.out.free k
            have hv : nth64 ((upN (rawN l1 l2) N k).set k (z1)) k = z1 := by
              unfold nth64
              rw [List.getD_eq_getElem?_getD, List.getElem?_set_self (by rw [upN_length]; exact hlt)]; rfl
            rw [hv] at hc
            have HV : Hid (bits .xor .i64 (z1) (l2.getD k 0) = rawN l1 l2 k) := by
              show _ = _
              unfold rawN
              rw [if_pos (by rw [← HE1.out]; exact ha), if_pos (by rw [← HE2.out]; exact hc2), HZ1.out]
            have hs := HS8.out.set k (rawN l1 l2 k)
            rw [List.set_set, HSET.out] at hs
            have U8 : Upd w.heap.size w8 (w8.setCell ⟨w.heap.size, k, none⟩ (.int .i64 (rawN l1 l2 k))) := (Upd.refl _ w8).only (Only.setCell _ ⟨w.heap.size, k, none⟩ _)
            have hB9 := HB8.out.trans (U8.toBelow (Nat.le_refl _) HB8.out.size)
            have HS9 : Hid (Blk64 (w8.drew.setCell ⟨w.heap.size, k, none⟩ (.int .i64 (rawN l1 l2 k))) w.heap.size (upN (rawN l1 l2) N (k + 1))) := hs
            have HB9 : Hid (Below w.heap.size w (w8.drew.setCell ⟨w.heap.size, k, none⟩ (.int .i64 (rawN l1 l2 k)))) := ⟨hB9.os, hB9.tape, hB9.output, hB9.size, hB9.block⟩
            have d2' : w8.drew.cell? ⟨b2, o2 + k, none⟩ = some (.int .i64 (l2.getD k 0)) := d2
            have hc' : w8.drew.cell? ⟨w.heap.size, k, none⟩ = some (.int .i64 (z1)) := hc
            have hf' : w8.drew.frozen? ⟨w.heap.size, k, none⟩ = false := hf
            clear hs hB9 U8 hv hb2 d2 hc hf
            have hvx := HV.out
            clear HV
            generalize l2.getD k 0 = z2 at d2' hvx
            clear HS8
            go_wp2_with fail
            refine wp_region_still_tail 11 (by kernel_rfl) (by kernel_rfl) ?_
            simp only [List.take_succ_cons, List.take_zero, List.drop_succ_cons, List.drop_zero]
            change wpStill _ _ w8.drew (fun a' => wpList _ _ _ _ a' w8.drew) _ _
            generalize w8.drew = w9 at HS9 HB9 d2' hc' hf' ⊢
            repeat still_step
            refine wpStill_nil ?_
            go_wp2_with fail
            clear d2' hc' hf' hvx
            generalize w9.setCell ⟨w.heap.size, k, none⟩ (.int .i64 (rawN l1 l2 k)) = wq at HS9 HB9 ⊢
            go_wp2_with fail
            go_roundg (N - (k + 1))
            case measure => have := HG.out; omega
            case rel => exact ⟨k + 1, rfl, by omega, by go_num, HS9.out, HB9.out⟩
          · have t2 : decide ((k : Int) < (n2 : Int)) = false := decide_eq_false (by omega)
            go_wp2_with fail
            clear hc hf d1
            generalize wr.setCell ⟨w.heap.size, k, none⟩ (.int .i64 (z1)) = w8 at HS8 HB8 ⊢
            have hs := HS8.out
            have e : z1 = rawN l1 l2 k := by
              unfold rawN
              rw [if_pos (by rw [← HE1.out]; exact ha), if_neg (by rw [← HE2.out]; exact hc2), HZ1.out]
            rw [e, HSET.out] at hs
            have HS9 := Lib.hid hs
            clear hs e HS8
            go_roundg (N - (k + 1))
            case measure => have := HG.out; omega
            case rel => exact ⟨k + 1, rfl, by omega, by go_num, HS9.out, HB8.out⟩
        · have t1 : decide ((k : Int) < (n1 : Int)) = false := decide_eq_false (by omega)
          have hc2 : k < n2 := by have := HNN.out; omega
          have t2 : decide ((k : Int) < (n2 : Int)) = true := decide_eq_true (by omega)
          have x3 : (k : Int) < (n2 : Int) := by omega
          obtain ⟨b2, o2, rfl, d2, hb2⟩ := (HP2.out.below hB).row k hc2
          have hvx : bits .xor .i64 0 (l2.getD k 0) = rawN l1 l2 k := by
            unfold rawN
            rw [if_neg (by rw [← HE1.out]; exact ha)]
          have hs := hk.set k (rawN l1 l2 k)
          rw [hset] at hs
          have U8 : Upd w.heap.size wr (wr.setCell ⟨w.heap.size, k, none⟩ (.int .i64 (rawN l1 l2 k))) := (Upd.refl _ wr).only (Only.setCell _ ⟨w.heap.size, k, none⟩ _)
          have hB9 := hB.trans (U8.toBelow (Nat.le_refl _) hB.size)
          have HS9 : Hid (Blk64 (wr.drew.setCell ⟨w.heap.size, k, none⟩ (.int .i64 (rawN l1 l2 k))) w.heap.size (upN (rawN l1 l2) N (k + 1))) := hs
          have HB9 : Hid (Below w.heap.size w (wr.drew.setCell ⟨w.heap.size, k, none⟩ (.int .i64 (rawN l1 l2 k)))) := ⟨hB9.os, hB9.tape, hB9.output, hB9.size, hB9.block⟩
          have d2' : wr.drew.cell? ⟨b2, o2 + k, none⟩ = some (.int .i64 (l2.getD k 0)) := d2
          have hc' : wr.drew.cell? ⟨w.heap.size, k, none⟩ = some (.int .i64 0) := hc
          have hf' : wr.drew.frozen? ⟨w.heap.size, k, none⟩ = false := hf
          clear hs hB9 U8 hb2 d2 hc hf hk hB hset
          generalize l2.getD k 0 = z2 at d2' hvx
          clear HK HB
          go_wp2_with fail
          refine wp_region_still_tail 11 (by kernel_rfl) (by kernel_rfl) ?_
          simp only [List.take_succ_cons, List.take_zero, List.drop_succ_cons, List.drop_zero]
          change wpStill _ _ wr.drew (fun a' => wpList _ _ _ _ a' wr.drew) _ _
          generalize wr.drew = w9 at HS9 HB9 d2' hc' hf' ⊢
          repeat still_step
          refine wpStill_nil ?_
          go_wp2_with fail
          clear d2' hc' hf' hvx
          generalize w9.setCell ⟨w.heap.size, k, none⟩ (.int .i64 (rawN l1 l2 k)) = wq at HS9 HB9 ⊢
          go_wp2_with fail
          go_roundg (N - (k + 1))
          case measure => have := HG.out; omega
          case rel => exact ⟨k + 1, rfl, by omega, by go_num, HS9.out, HB9.out⟩
      · obtain rfl : k = N := by omega
        have hrow := Blk64.rowz hk (by rw [upN_length]; exact hNm)
        rw [upN_length] at hrow
        have HRow := Lib.hid hrow
        have HB := Lib.hid hB
        clear hk hrow hB
        go_wp2_with fail
        refine (rtrim_any (m := m) _ k k _ wr HRow.out hNm).mono ?_
        rintro e w5 ⟨a', n', cap', rfl, hO, hb⟩
        rw [HS.out] at hO
        have HO := Lib.hid (hO.from HB.out.size)
        have HB5 := Lib.hid (HB.out.trans (hb.mono HB.out.size))
        clear hO hb
        go_wp2_with fail
        go_ret
        exact ⟨_, _, _, rfl, HO.out, HB5.out⟩
end
end Go.Proofs.YthmfneepnkgmgaaGreatDoor.Pl
/- The walk over package minimal's product: the product of x + a^j. By the verifier of shale. -/
namespace Go.Proofs.YthmfneepnkgmgaaGreatDoor.Cos
open Go Go.RowKit Fld Bits16 Pl
set_option linter.unusedVariables false
section
variable {m : Nat} [M : Mid m]
/-- a to the j-th, as an element. -/
def xe (m : Nat) [M : Mid m] (j : Nat) : El m := ⟨pwZ m (j : Int), pwZ_lt m M.lo M.hi _⟩
/-- the powers that a list of exponents names, as numbers. -/
def exl (m : Nat) [M : Mid m] (l : List Nat) : List Int := l.map fun j => zn (xe m j)
theorem exl_at (l : List Nat) (k : Nat) (h : k < l.length) : elm m ((exl m l).getD k 0) = xe m (l.getD k 0) := by
  unfold exl
  rw [List.getD_eq_getElem?_getD, List.getElem?_map, List.getD_eq_getElem?_getD, List.getElem?_eq_getElem h]
  exact elm_zn _
theorem sr_lin (e : El m) : sr m [zn e, 1] = lin e := by
  funext i
  show elm m (([zn e, 1] : List Int).getD i 0) = if i = 0 then e else if i = 1 then 1 else 0
  rcases i with _ | _ | i
  · exact elm_zn e
  · rw [if_neg (by omega), if_pos rfl]; exact elm_zn (1 : El m)
  · rw [if_neg (by omega), if_neg (by omega)]; exact elm_zero
theorem lit_row (w W : World) (l : List Int) (n : Nat) (hn : n = l.length) (hm : n ≤ 1000) (hW : W = w.alloc (obj64 l)) : RowZ W (some ⟨w.heap.size, 0, none⟩) n n l ∧ Below w.heap.size w W := by
  subst hW
  refine ⟨?_, (Below.refl _ _).alloc (Nat.le_refl _) _⟩
  subst hn
  exact Pl.Blk64.rowz (Blk64.new w l) (by omega)
theorem sr_unit : sr m [1] = pone := by
  funext i
  show elm m (([1] : List Int).getD i 0) = if i = 0 then 1 else 0
  rcases i with _ | i
  · rw [if_pos rfl]; exact elm_zn (1 : El m)
  · rw [if_neg (by omega)]; exact elm_zero
set_option maxRecDepth 100000 in
set_option maxHeartbeats 1000000 in
theorem product_any {s be ce bl : Nat} (a : Option Addr) (n cap : Nat) (l : List Nat) (w : World) (F : FldAt m w s be ce bl) (h : RowZ w a n cap (ints l)) (hn : n ≤ 20) :
    Calls Tryz.prog 112 #[.pointer (some ⟨s, 0, none⟩), .slice a n cap, .func (.func 113) #[] #[]] w
      fun e w' => ∃ a' n' c', e = .returned (.slice a' n' c') ∧ NV m w' (n + 1) a' n' c' (pls (exl m l) n) ∧ Below w.heap.size w w' := by
  have HLen : Hid (n = l.length) := by have := h.hlen; rwa [ints_length] at this
  go_enter Tryz.func112, Tryz.ntmps112
  go_wp2_with fail
  refine (pnew_any w F).mono ?_
  rintro e w1 ⟨g, rfl, R, B⟩
  replace h := h.below B
  clear F
  go_wp2_with fail
  generalize hw : w1.alloc (.cells #[.int .i64 1] 3 (0, 0)) = w2
  obtain ⟨hr, b⟩ := lit_row w1 w2 [1] 1 rfl (by decide) hw.symm
  clear hw
  replace h := h.below b
  replace R := R.below b
  replace B := B.trans (b.mono B.size)
  have e0 : nums (pls (m := m) (exl m l) 0) 1 = [1] := by
    show [zn (pls (m := m) (exl m l) 0 0)] = [1]
    have e : pls (m := m) (exl m l) 0 0 = 1 := by show (if (0 : Nat) = 0 then (1 : El m) else 0) = 1; rw [if_pos rfl]
    rw [e]; rfl
  have P : NV m w2 1 (some ⟨w1.heap.size, 0, none⟩) 1 1 (pls (exl m l) 0) := ⟨by rw [e0]; exact hr, pls_bd _ 0, top_dg' (pls_bd _ 0) (pls_dg _ 0), Nat.le_refl _⟩
  clear hr b e0
  generalize (some ⟨w1.heap.size, 0, none⟩ : Option Addr) = ap at P ⊢
  have HS : Hid (RingAt m w2 g s be ce bl ∧ RowZ w2 a n cap (ints l) ∧ Below w.heap.size w w2) := ⟨R, h, B⟩
  have HP := Lib.hid P
  clear R h B P
  go_wp2_with fail
  go_loopg [8, 18] n (fun gh s8 s18 wx => ∃ (k : Nat) (ax : Option Addr) (nx cx : Nat), gh = n - k ∧ k ≤ n ∧ s18 = .int .i64 (k : Int) ∧ s8 = .slice ax nx cx ∧ Hid (NV m wx (k + 1) ax nx cx (pls (exl m l) k)) ∧ Hid (RingAt m wx g s be ce bl ∧ RowZ wx a n cap (ints l) ∧ Below w.heap.size w wx))
  case atStart => exact ⟨0, ap, 1, 1, rfl, Nat.zero_le _, rfl, rfl, HP, HS⟩
  case round =>
    clear HP HS
    obtain ⟨k, ax, nx, cx, hg, hk, rfl, rfl, HP, HS⟩ := hrel
    have HG := Lib.hid hg
    clear hg
    by_cases hlt : k < n
    · have x1 : (k : Int) < (n : Int) := by omega
      have x0 : (0 : Int) ≤ (k : Int) := by omega
      obtain ⟨bb, off, rfl, d1, _⟩ := HS.out.2.1.row k hlt
      have hkl : k < l.length := by rw [← HLen.out]; exact hlt
      have d2 : (ints l).getD k 0 = ((l.getD k 0 : Nat) : Int) := by
        unfold ints
        rw [List.getD_eq_getElem?_getD, List.getElem?_map, List.getD_eq_getElem?_getD, List.getElem?_eq_getElem hkl]; rfl
      rw [d2] at d1
      have HX : Hid (elm m ((exl m l).getD k 0) = xe m (l.getD k 0)) := exl_at l k hkl
      generalize l.getD k 0 = j at d1 HX
      have R := HS.out.1
      have Hr := HS.out.2.1
      have B := HS.out.2.2
      have P := HP.out.pol
      clear d2 HS HP
      go_wp2_with fail
      refine (fexp_any M.lo M.hi (j : Int) wr R.2).mono ?_
      rintro e w' ⟨rfl, rfl⟩
      rw [show Bits16.h (pwZ m (j : Int)) = zn (xe m j) from rfl]
      clear d1
      go_wp2_with fail
      generalize hw : wr.alloc (.cells #[.int .i64 (zn (xe m j)), .int .i64 1] 3 (0, 0)) = w4
      obtain ⟨hr, b⟩ := lit_row wr w4 [zn (xe m j), 1] 2 rfl (by decide) hw.symm
      clear hw
      replace Hr := Hr.below b
      replace R := R.below b
      replace B := B.trans (b.mono B.size)
      replace P := P.below b
      have Q : PV m w4 2 (some ⟨wr.heap.size, 0, none⟩) 2 2 (lin (xe m j)) := ⟨_, hr, sr_lin _, Nat.le_refl _⟩
      clear hr b
      refine (mulV R (k + 1 + 2) P Q (Nat.le_refl _) (by omega)).mono ?_
      rintro e w5 ⟨a5, n5, c5, rfl, h5, b⟩
      have HP5 : Hid (NV m w5 (k + 1 + 1) a5 n5 c5 (pls (exl m l) (k + 1))) := by
        have e : pls (exl m l) (k + 1) = cv (pls (exl m l) k) (lin (xe m j)) := by show cv _ (lin (elm m ((exl m l).getD k 0))) = _; rw [HX.out]
        rw [e]
        refine ⟨h5.row, h5.bd, h5.top, ?_⟩
        rw [← h5.top, top_same h5.bd (e ▸ pls_bd (exl m l) (k + 1))]
        exact top_le _ _
      have HS5 : Hid (RingAt m w5 g s be ce bl ∧ RowZ w5 (some ⟨bb, off, none⟩) n cap (ints l) ∧ Below w.heap.size w w5) := ⟨R.below b, Hr.below b, B.trans (b.mono B.size)⟩
      clear h5 b R Hr B P Q
      go_wp2_with fail
      go_roundg (n - (k + 1))
      case measure => have := HG.out; omega
      case rel => exact ⟨k + 1, a5, n5, c5, rfl, by omega, by go_num, rfl, HP5, HS5⟩
    · obtain rfl : k = n := by omega
      go_wp2_with fail
      go_ret
      exact ⟨ax, nx, cx, rfl, HP.out, HS.out.2.2⟩
end
end Go.Proofs.YthmfneepnkgmgaaGreatDoor.Cos
/- shaleref.SameBytes: are two lists of bytes the same? By the verifier of shale. -/
namespace Go.Proofs.YthmfneepnkgmgaaGreatDoor
open Go Go.RowKit
set_option linter.unusedVariables false
/-- bytes as a string. -/
def strOf (l : List (BitVec 8)) : ByteArray := strOfNums (l.map Bits32.b)
theorem strOf_inj (l m : List (BitVec 8)) (h : strOf l = strOf m) : l = m := by
  have e := congrArg (fun s : ByteArray => s.data.toList) h
  simp only [strOf, strOfNums_data, List.map_map] at e
  have key : ∀ (l m : List (BitVec 8)), l.map ((fun n : Int => UInt8.ofNat n.toNat) ∘ Bits32.b) = m.map ((fun n : Int => UInt8.ofNat n.toNat) ∘ Bits32.b) → l = m := by
    intro l
    induction l with
    | nil => intro m h; cases m with | nil => rfl | cons _ _ => simp at h
    | cons a l ih =>
      intro m h
      cases m with
      | nil => simp at h
      | cons b m =>
        simp only [List.map_cons, List.cons.injEq, Function.comp] at h
        rw [ih m h.2]
        congr 1
        have e := congrArg UInt8.toNat h.1
        unfold Bits32.b at e
        simp at e
        have := a.isLt
        have := b.isLt
        apply BitVec.eq_of_toNat_eq
        omega
  exact key l m e
/-- bytes in a slice, as SameBytes reads them. -/
def Str8 (w : World) (v : Value) (l : List (BitVec 8)) : Prop := ∀ w', (∀ b, b < w.heap.size → w'.heap[b]? = w.heap[b]?) → (convert 22 9 v).run Tryz.prog w' = .ok (.string (strOf l)) w'
theorem Str8.nil (w : World) (p : Option Addr) (c : Nat) : Str8 w (.slice p 0 c) [] := by
  intro w' h
  rw [run_convert_bytes_string w' 22 9 5 p 0 c Tryz.underlying22 Tryz.underlying5 Tryz.underlying9]
  cases p with
  | none => simp [Conv.bytesToString]; rfl
  | some a =>
    have hl : (loadCells a 0).run Tryz.prog w' = .ok #[] w' := by
      have := run_loadCells_list (P := Tryz.prog) w' a [] (fun j v hj => by simp at hj)
      simpa using this
    rw [run_bytesToString w' a 0 c [] (by simpa using hl)]
    rfl
theorem Str8.of {w : World} {v : Value} {l : List (BitVec 8)} (h : IsBytes w v l) : Str8 w v l := by
  rcases h with ⟨rfl, p, c, rfl⟩ | ⟨bb, off, cap, rfl, hr, hb⟩
  · exact Str8.nil w p c
  · intro w' hw
    have := run_convert_bytes_arg (P := Tryz.prog) w' 22 5 Tryz.underlying22 Tryz.underlying5 bb off l.length cap (l.map Bits32.b) (by simp)
      (fun i hi => by
        rw [World.cell?_of_block (w := w) (hw bb hb), hr i hi]
        unfold nth8
        simp [hi]) 9 Tryz.underlying9
    exact this
set_option maxHeartbeats 400000 in
theorem same_any (l m : List (BitVec 8)) (v u : Value) (w : World) (hv : Str8 w v l) (hu : Str8 w u m) :
    Calls Tryz.prog 17 #[v, u] w fun e w' => e = .returned (.bool (decide (l = m))) ∧ w = w' := by
  have h1 := hv w (fun _ _ => rfl)
  have h2 := hu w (fun _ _ => rfl)
  go_enter Tryz.func17, Tryz.ntmps17
  go_wp2
  go_ret
  refine ⟨?_, rfl⟩
  have e : ((strOf l).toList == (strOf m).toList) = decide (l = m) := by
    rw [Bool.eq_iff_iff, beq_iff_eq, decide_eq_true_iff]
    constructor
    · intro h
      rw [ByteArray.toList_eq, ByteArray.toList_eq] at h
      exact strOf_inj l m (by
        have : (strOf l).data = (strOf m).data := Array.toList_inj.1 h
        cases hl : strOf l; cases hm : strOf m
        simp_all)
    · intro h; rw [h]
  rw [← e]; rfl
/-- the same memory, but for draws. -/
def SameHeap (W w : World) : Prop := w.heap = W.heap
theorem SameHeap.refl (W : World) : SameHeap W W := rfl
theorem SameHeap.drew {W w : World} (h : SameHeap W w) : SameHeap W w.drew := h
theorem Str8.since {W w : World} {v : Value} {l : List (BitVec 8)} (h : Str8 W v l) (o : ∀ b, b < W.heap.size → w.heap[b]? = W.heap[b]?) (hs : W.heap.size ≤ w.heap.size) : Str8 w v l :=
  fun w' hw => h w' (fun b hb => (hw b (Nat.lt_of_lt_of_le hb hs)).trans (o b hb))
theorem same_since {l m : List (BitVec 8)} {v u : Value} {W w : World} (hv : Str8 W v l) (hu : Str8 W u m) (h : SameHeap W w) :
    Calls Tryz.prog 17 #[v, u] w fun e w' => e = .returned (.bool (decide (l = m))) ∧ w = w' :=
  same_any l m v u w (hv.since (fun b _ => by rw [show w.heap = W.heap from h]) (by rw [show w.heap = W.heap from h]; exact Nat.le_refl _)) (hu.since (fun b _ => by rw [show w.heap = W.heap from h]) (by rw [show w.heap = W.heap from h]; exact Nat.le_refl _))
/-- SameBytes answers c of these two, in whatever world that has W's memory. -/
def Sames (W : World) (v u : Value) (c : Bool) : Prop := ∀ w, SameHeap W w → Calls Tryz.prog 17 #[v, u] w fun e w' => e = .returned (.bool c) ∧ w = w'
theorem Sames.mk {W : World} {v u : Value} {l m : List (BitVec 8)} {c : Bool} (hv : Str8 W v l) (hu : Str8 W u m) (hc : decide (l = m) = c) : Sames W v u c := by
  intro w h; rw [← hc]; exact same_since hv hu h
theorem sames_run {W w : World} {v u : Value} {c : Bool} (h : Sames W v u c) (hs : SameHeap W w) : Calls Tryz.prog 17 #[v, u] w fun e w' => e = .returned (.bool c) ∧ w = w' := h w hs
end Go.Proofs.YthmfneepnkgmgaaGreatDoor
/- shaleref.Bytes: a copy of bytes in new memory. By the verifier of shale. -/
namespace Go.Proofs.YthmfneepnkgmgaaGreatDoor
open Go Go.RowKit
theorem own_all {w : World} {base g n : Nat} {l : List (BitVec 8)} (h : w.ownsRow base 5 1 (.slice (some ⟨g, 0, none⟩) n n) n (l.map fun c => Value.int .u8 (Bits32.b c))) : Blk8 w g l := by
  obtain ⟨hl, h2⟩ := h
  rcases h2 with ⟨h0, _⟩ | ⟨g', cap', cur, hv, hbg, hg, hnc, hcm, hcs, htake⟩
  · cases h0
  · simp only [Value.slice.injEq, Option.some.injEq, Addr.mk.injEq] at hv
    obtain ⟨⟨rfl, _⟩, _, rfl⟩ := hv
    unfold Blk8 obj8
    rw [hg]
    congr 2
    rw [← htake]
    rw [List.take_of_length_le (by simp; omega)]
set_option maxRecDepth 100000 in
set_option maxHeartbeats 1000000 in
theorem copy_all (p : Option Addr) (n cap : Nat) (l : List (BitVec 8)) (w : World) (hp : p = none → n = 0 ∧ cap = 0) (hr : n = 0 ∨ ∃ bb off, p = some ⟨bb, off, none⟩ ∧ Row8 w bb off l ∧ bb < w.heap.size) (hn : n = l.length) (hm : n ≤ 1000000) :
    Calls Tryz.prog 15 #[.slice p n cap] w fun e w' => e = .returned (.slice (some ⟨w.heap.size, 0, none⟩) n n) ∧ Blk8 w' w.heap.size l ∧ Below w.heap.size w w' := by
  obtain ⟨i0, hi, hz0, hz1, hz2⟩ := info_parts (show (Tryz.prog.info? 5).map (fun i => (i.zero, i.size, i.bytes)) = some (some (.int .u8 0), 1, 1) by kernel_rfl)
  have HN := Lib.hid hn
  have hnews : (l.map fun c => Value.int .u8 (Bits32.b c)).length = n * 1 := by simp; omega
  have h1c : ∀ u ∈ (l.map fun c => Value.int .u8 (Bits32.b c)), u.oneCell' = true := by
    intro u hu
    obtain ⟨_, _, rfl⟩ := List.mem_map.1 hu
    rfl
  have hcell : ∀ w0 : World, (∀ k, k < w.heap.size → w0.heap[k]? = w.heap[k]?) → ∀ ad, p = some ad → ∀ j u, (l.map fun c => Value.int .u8 (Bits32.b c))[j]? = some u → w0.cell? (ad.add j) = some u := by
    intro w0 h0 ad had j u hu
    have hj : j < l.length := by
      have := (List.getElem?_eq_some_iff.1 hu).1
      simpa using this
    rcases hr with hr | ⟨bb, off, hpp, hr, hb⟩
    · omega
    · rw [hpp] at had
      obtain rfl := Option.some.inj had
      have e : (⟨bb, off, none⟩ : Addr).add j = ⟨bb, off + j, none⟩ := by by_cases h : j = 0 <;> simp [Addr.add, h]
      rw [e, World.cell?_of_block (w := w) (h0 bb hb), hr j hj]
      rw [List.getElem?_map, List.getElem?_eq_getElem hj] at hu
      rw [← hu]
      unfold nth8
      rw [List.getD_eq_getElem?_getD, List.getElem?_eq_getElem hj]
      rfl
  have HC := Lib.hid hcell
  have HL := Lib.hid hnews
  have H1 := Lib.hid h1c
  have HP := Lib.hid hp
  clear hn hr hcell hnews h1c hp
  go_enter Tryz.func15, Tryz.ntmps15
  go_wp2_with (first
    | (at_make; refine wpList_make_own _ rfl _ _ 22 rfl w.heap.size 5 i0 (.int .u8 0) 1 Tryz.underlying22 hi hz0 hz1 .i64 .i64 _ n rfl rfl (by omega) (by rw [hz2]; omega) (by unfold maxLen; omega) (Nat.le_refl _) ?_; intro w0 hown0 hgrow0)
    | (at_builtin; refine wpList_append_fits_any _ rfl _ _ 22 rfl w.heap.size 5 i0 1 Tryz.underlying22 hi hz1 w.heap.size 0 n [] rfl hown0 p n cap (l.map fun c => Value.int .u8 (Bits32.b c)) rfl HL.out HP.out (HC.out _ (fun k hk => hgrow0.block k hk (by simp))) H1.out (by omega) ?_; intro w1 hown1 hgrow1))
  go_ret
  refine ⟨by simp, ?_, ?_⟩
  · rw [Nat.zero_add] at hown1
    exact own_all hown1
  · exact ((Below.refl _ _).grown hgrow0 (Nat.le_refl _) (by simp)).grown hgrow1 hgrow0.size (by intro k hk; simp at hk; omega)
theorem copy_any (bb off n cap : Nat) (l : List (BitVec 8)) (w : World) (hr : Row8 w bb off l) (hn : n = l.length) (hm : n ≤ 1000000) :
    Calls Tryz.prog 15 #[.slice (some ⟨bb, off, none⟩) n cap] w fun e w' => e = .returned (.slice (some ⟨w.heap.size, 0, none⟩) n n) ∧ Blk8 w' w.heap.size l ∧ Below w.heap.size w w' := by
  refine copy_all _ n cap l w (fun h => by cases h) ?_ hn hm
  by_cases h0 : n = 0
  · exact Or.inl h0
  · exact Or.inr ⟨bb, off, rfl, hr, World.block_lt_of_cell? w _ (hr 0 (by omega))⟩
end Go.Proofs.YthmfneepnkgmgaaGreatDoor
/- shaleref.Bytes of bytes that came in; appending to such a copy. By the verifier of shale. -/
namespace Go.Proofs.YthmfneepnkgmgaaGreatDoor
open Go Go.RowKit
set_option linter.unusedVariables false
theorem Arg8.len {W : World} {p : Option Addr} {n cap : Nat} {l : List (BitVec 8)} (h : Arg8 W (.slice p n cap) l) : n = l.length := by
  rcases h.1 with ⟨rfl, a, c, e⟩ | ⟨bb, off, c, e, _, _⟩
  · simp only [Value.slice.injEq] at e; exact e.2.1
  · simp only [Value.slice.injEq] at e; exact e.2.1
theorem copy_of {p : Option Addr} {n cap : Nat} {l : List (BitVec 8)} {w : World} (h : Arg8 w (.slice p n cap) l) (hp : p = none → cap = 0) (hm : n ≤ 1000000) :
    Calls Tryz.prog 15 #[.slice p n cap] w fun e w' => e = .returned (.slice (some ⟨w.heap.size, 0, none⟩) n n) ∧ Blk8 w' w.heap.size l ∧ Below w.heap.size w w' := by
  have hn := h.len
  refine copy_all p n cap l w ?_ ?_ hn hm
  · intro e
    refine ⟨?_, hp e⟩
    rcases h.1 with ⟨rfl, _⟩ | ⟨bb, off, c, e', _, _⟩
    · exact hn
    · rw [e] at e'; simp at e'
  · rcases h.1 with ⟨rfl, _⟩ | ⟨bb, off, c, e', hr, hb⟩
    · exact Or.inl hn
    · simp only [Value.slice.injEq] at e'
      exact Or.inr ⟨bb, off, e'.1, hr, hb⟩
/-- a block of the call's own is a slice of its own. -/
theorem Blk8.own {w : World} {g base n : Nat} {l : List (BitVec 8)} (h : Blk8 w g l) (hb : base ≤ g) (hn : n = l.length) (hm : n ≤ maxLen) : Own8 w base (.slice (some ⟨g, 0, none⟩) n n) n l := by
  refine ⟨by rw [cells8_length]; omega, Or.inr ⟨g, n, (cells8 l).toArray, rfl, hb, h, Nat.le_refl _, hm, by simp [cells8_length, hn], ?_⟩⟩
  rw [List.toList_toArray]
  rw [List.take_of_length_le (by rw [cells8_length]; omega)]
end Go.Proofs.YthmfneepnkgmgaaGreatDoor
/- A product of x + a^j over a coset has coefficients 0 and 1. By the verifier of shale. -/
namespace Go.Proofs.YthmfneepnkgmgaaGreatDoor.Cos
open Go Pl
set_option linter.unusedVariables false
section
variable {m : Nat} [M : Mid m]
theorem sq_add (a b : El m) : (a + b) * (a + b) = a * a + b * b := by
  rw [Fl.mul_add, Pl.add_mul, Pl.add_mul, Fl.mul_comm b a, Fl.add_assoc, ← Fl.add_assoc (a * b), Fl.add_self, Pl.zero_add]
def fro (P : Ser (El m)) : Ser (El m) := fun i => P i * P i
theorem fro_cv (P Q : Ser (El m)) : fro (cv P Q) = cv (fro P) (fro Q) := by
  funext n
  show cv P Q n * cv P Q n = cv (fro P) (fro Q) n
  have sq : ∀ a b : El m, (a * b) * (a * b) = (a * a) * (b * b) := fun a b => by ac_rfl
  induction n generalizing P with
  | zero => exact sq _ _
  | succ n ih =>
    show (P 0 * Q (n + 1) + cv (tl P) Q n) * (P 0 * Q (n + 1) + cv (tl P) Q n) = fro P 0 * fro Q (n + 1) + cv (tl (fro P)) (fro Q) n
    rw [sq_add, ih, sq]; rfl
theorem fro_lin (a : El m) : fro (lin a) = lin (a * a) := by
  funext i
  show (if i = 0 then a else if i = 1 then 1 else 0) * (if i = 0 then a else if i = 1 then 1 else 0) = if i = 0 then a * a else if i = 1 then 1 else 0
  by_cases h0 : i = 0
  · rw [if_pos h0, if_pos h0]
  · rw [if_neg h0, if_neg h0]
    by_cases h1 : i = 1
    · rw [if_pos h1]; exact Fl.mul_one _
    · rw [if_neg h1]; exact Pl.mul_zero _
theorem fro_one : fro (pone : Ser (El m)) = pone := by
  funext i
  show (if i = 0 then (1 : El m) else 0) * (if i = 0 then 1 else 0) = if i = 0 then 1 else 0
  by_cases h0 : i = 0
  · rw [if_pos h0]; exact Fl.mul_one _
  · rw [if_neg h0]; exact Pl.mul_zero _
/-- the product of x + a over a list. -/
def prl : List (El m) → Ser (El m)
  | [] => pone
  | a :: t => cv (prl t) (lin a)
theorem prl_perm {l k : List (El m)} (h : l.Perm k) : prl l = prl k := by
  induction h with
  | nil => rfl
  | cons x _ ih => show cv _ _ = cv _ _; rw [ih]
  | swap x y l => show cv (cv (prl l) (lin x)) (lin y) = cv (cv (prl l) (lin y)) (lin x); rw [cv_assoc, cv_assoc, cv_comm (lin x)]
  | trans _ _ h1 h2 => rw [h1, h2]
theorem prl_snoc (l : List (El m)) (a : El m) : prl (l ++ [a]) = cv (prl l) (lin a) := by
  rw [prl_perm (List.perm_append_comm : (l ++ [a]).Perm ([a] ++ l))]; rfl
theorem fro_prl : ∀ l : List (El m), fro (prl l) = prl (l.map fun a => a * a)
  | [] => fro_one
  | a :: t => by show fro (cv _ _) = cv _ _; rw [fro_cv, fro_lin, fro_prl t]
theorem pls_congr {l k : List Int} : ∀ n, (∀ i, i < n → l.getD i 0 = k.getD i 0) → pls (m := m) l n = pls k n
  | 0, _ => rfl
  | n + 1, h => by
    show cv (pls l n) (lin (elm m (l.getD n 0))) = cv (pls k n) (lin (elm m (k.getD n 0)))
    rw [pls_congr n fun i hi => h i (by omega), h n (by omega)]
theorem exl_length (l : List Nat) : (exl m l).length = l.length := by simp [exl]
theorem pls_take : ∀ (l : List Nat) (n : Nat), n ≤ l.length → pls (exl m l) n = prl ((l.take n).map (xe m))
  | l, 0, h => by rw [List.take_zero]; rfl
  | l, n + 1, h => by
    have hs : l.take (n + 1) = l.take n ++ [l.getD n 0] := by
      rw [List.take_add_one, List.getD_eq_getElem?_getD, List.getElem?_eq_getElem (by omega)]; rfl
    show cv (pls (exl m l) n) (lin (elm m ((exl m l).getD n 0))) = _
    rw [exl_at l n (by omega), pls_take l n (by omega), hs, List.map_append, ← prl_snoc]; rfl
theorem pls_prl (l : List Nat) : pls (exl m l) l.length = prl (l.map (xe m)) := by
  rw [pls_take l l.length (Nat.le_refl _), List.take_length]
omit M in
theorem size_sz : Fld.size m = sz m := rfl
theorem xe_dbl (j : Nat) : xe m (2 * j % sz m) = xe m j * xe m j := by
  apply El.ext
  show Fld.pwZ m _ = Fld.fmul m (Fld.pwZ m _) (Fld.pwZ m _)
  rw [Fld.pwZ_mul m M.lo M.hi]
  apply Fld.pwZ_congr
  rw [size_sz, Int.natCast_emod, Int.emod_emod_of_dvd _ (Int.dvd_refl _)]
  congr 1
  omega
theorem dbl_perm {f : Nat} (hf : f < sz m) : ((cos m f).map fun j => 2 * j % sz m).Perm (cos m f) := by
  have hm := M.lo
  have hp := sz_lo hm
  refine (List.perm_ext_iff_of_nodup ?_ (cos_nodup m f)).2 fun k => ?_
  · rw [List.Nodup, List.pairwise_map]
    refine List.Pairwise.imp_of_mem (R := (· < ·)) (fun {a b} ha hb hlt he => ?_) (cos_rise m f)
    have := dbl_inj (sz_odd hm) ((mem_cos a).1 ha).1 ((mem_cos b).1 hb).1 he
    omega
  · rw [List.mem_map]
    constructor
    · rintro ⟨j, hj, rfl⟩; exact cos_dbl hm hf hj
    · intro hk
      obtain ⟨d, hd⟩ := per_exists hm hf
      have hk2 := hk
      rw [← (lst_perm hm hf hd).mem_iff, mem_lst hd] at hk2
      obtain ⟨j, e⟩ := hk2
      refine ⟨orb (sz m) f (j + (d - 1)), ?_, ?_⟩
      · rw [← (lst_perm hm hf hd).mem_iff, mem_lst hd]; exact ⟨_, rfl⟩
      · show 2 * orb (sz m) f (j + (d - 1)) % sz m = k
        rw [← orb_succ, show j + (d - 1) + 1 = d * 1 + j by have := hd.pos; omega, orb_period hd, e]
/-- the minimal polynomial as a series. -/
def mpS (m : Nat) [M : Mid m] (f : Nat) : Ser (El m) := pls (exl m (cos m f)) (cos m f).length
theorem mpS_fro {f : Nat} (hf : f < sz m) : fro (mpS m f) = mpS m f := by
  unfold mpS
  rw [pls_prl, fro_prl, List.map_map]
  have e : (fun a : El m => a * a) ∘ xe m = xe m ∘ fun j => 2 * j % sz m := by
    funext j
    exact (xe_dbl j).symm
  rw [e, ← List.map_map]
  exact prl_perm ((dbl_perm hf).map _)
theorem mpS_bit {f : Nat} (hf : f < sz m) (i : Nat) : mpS m f i = 0 ∨ mpS m f i = 1 := by
  have h := congrFun (mpS_fro hf) i
  have h2 : mpS m f i * (mpS m f i + 1) = 0 := by
    rw [Fl.mul_add, Fl.mul_one, show mpS m f i * mpS m f i = mpS m f i from h, Fl.add_self]
  rcases Pl.mul_eq_zero h2 with h3 | h3
  · exact Or.inl h3
  · exact Or.inr (Pl.add_cancel h3)
theorem mpS_dg (f : Nat) : Dg (mpS m f) (cos m f).length := pls_dg _ _
theorem mpS_top (f : Nat) (hf : f < sz m) : mpS m f (cos m f).length = 1 := (mpS_bit hf _).resolve_left (mpS_dg f).1
end
end Go.Proofs.YthmfneepnkgmgaaGreatDoor.Cos
/- The reference's Coset. By the verifier of shale. -/
namespace Go.Proofs.YthmfneepnkgmgaaGreatDoor.Cos
open Go Go.RowKit
set_option linter.unusedVariables false
theorem contains_snoc (l : List Nat) (x y : Nat) : (l ++ [x]).contains y = (l.contains y || decide (y = x)) := by
  rw [Bool.eq_iff_iff]; simp
theorem filter_cos {m f d : Nat} (hm : 3 ≤ m) (hf : f < sz m) (h : IsPer (sz m) f d) : (List.range (sz m)).filter (fun y => (lst (sz m) f d).contains y) = cos m f := by
  refine List.Perm.eq_of_pairwise (le := (· < ·)) (fun a b _ _ h1 h2 => by omega) (List.Pairwise.filter _ List.pairwise_lt_range) (cos_rise m f) ?_
  refine (List.perm_ext_iff_of_nodup (List.Pairwise.filter _ List.nodup_range) (cos_nodup m f)).2 fun k => ?_
  rw [List.mem_filter, List.mem_range, ← (lst_perm hm hf h).mem_iff]
  constructor
  · rintro ⟨_, h2⟩; simpa using h2
  · intro h2
    obtain ⟨j, e⟩ := (mem_lst h k).1 h2
    exact ⟨by rw [← e]; exact orb_lt (by have := sz_lo hm; omega) _ _, by simpa using h2⟩
theorem lst_new {N f d j : Nat} (ho : ∃ q, N = 2 * q + 1) (hf : f < N) (h : IsPer N f d) (hj : j < d) : (lst N f j).contains (orb N f j) = false := by
  rw [Bool.eq_false_iff]
  intro hc
  have hm : orb N f j ∈ lst N f j := by simpa using hc
  obtain ⟨i, hi, e⟩ := List.mem_map.1 hm
  have hij := List.mem_range.1 hi
  have := orb_back ho hf i (j - i) (by rw [show i + (j - i) = j by omega]; exact e)
  exact h.min (j - i) (by omega) (by omega) this.symm
theorem lst_old {N f d : Nat} (hf : f < N) (h : IsPer N f d) : (lst N f d).contains (orb N f d) = true := by
  have : orb N f d ∈ lst N f d := by
    rw [h.fin]
    exact List.mem_map.2 ⟨0, List.mem_range.2 h.pos, orb_zero hf⟩
  simpa using this
theorem range_filter_snoc (p : Nat → Bool) (k : Nat) : (List.range (k + 1)).filter p = (List.range k).filter p ++ (if p k then [k] else []) := by
  rw [List.range_succ, List.filter_append]
  congr 1
  by_cases h : p k <;> simp [h]
set_option maxRecDepth 100000 in
set_option maxHeartbeats 1000000 in
theorem rcoset_any (m : Nat) (hm : 3 ≤ m) (hm2 : m ≤ 14) (i : Int) (w : World) :
    Calls Tryz.prog 116 #[.int .i64 (m : Int), .int .i64 i] w
      fun e w' => ∃ a n c, e = .returned (.slice a n c) ∧ Own64 w' w.heap.size (.slice a n c) n (ints (cos m (rs m i))) ∧ Below w.heap.size w w' := by
  have hm14 : (m : Int) ≤ 14 := by omega
  have ho := Fld.shl_one m hm2
  have hn := sz_lo hm
  have hn2 := sz_hi hm2
  have hw : IntKind.i64.wrap ((Fld.els m : Int) - 1) = (sz m : Int) := by
    have : (Fld.els m : Int) - 1 = (sz m : Int) := by unfold Fld.els sz; have := Nat.two_pow_pos m; omega
    rw [this]; exact IntWalk.i64_in _ (by omega)
  have hr := rs_go hm i
  have hf := rs_lt hm i
  obtain ⟨i0, hi, hz0, hz1, hz2⟩ := info64
  have hA : wrap64 (i.tmod (sz m : Int) + (sz m : Int)) = i.tmod (sz m : Int) + (sz m : Int) := by
    have a1 := Int.tmod_lt_of_pos i (by omega : (0 : Int) < (sz m : Int))
    have a2 := Int.tmod_lt_of_pos (-i) (by omega : (0 : Int) < (sz m : Int))
    rw [Int.neg_tmod] at a2
    exact IntWalk.wrap64_in _ (by omega)
  obtain ⟨d, hd⟩ := per_exists hm hf
  have HFC := Lib.hid (filter_cos hm hf hd)
  have HLN : Hid (∀ j, j < d → (lst (sz m) (rs m i) j).contains (orb (sz m) (rs m i) j) = false) := fun j hj => lst_new (sz_odd hm) hf hd hj
  have HLO := Lib.hid (lst_old hf hd)
  have hdm := per_le hm hf hd
  obtain ⟨N, hN⟩ : ∃ N, N = sz m := ⟨_, rfl⟩
  obtain ⟨f, hfe⟩ : ∃ f, f = rs m i := ⟨_, rfl⟩
  rw [← hN] at hn hn2 hw hr hf hA HFC HLN HLO
  rw [← hfe] at hr hf HFC HLN HLO ⊢
  clear hN hfe hd
  have hmk := madeB w N (by omega)
  have e00 : orb N f 0 = f := orb_zero hf
  go_enter Tryz.func116, Tryz.ntmps116
  go_wp2_with fail
  have hb1 : Below w.heap.size w (w.alloc (objB (List.replicate N false))) := (Below.refl _ _).alloc (Nat.le_refl _) _
  have hf1 : BF (w.alloc (objB (List.replicate N false))) w.heap.size N (fun y => (lst N f 0).contains y) := (BF.new w N).of fun i hi => by simp [lst]
  clear hmk hw ho hA hr
  generalize w.alloc (objB (List.replicate N false)) = w1 at hb1 hf1 ⊢
  go_loopg [7] d (fun gh s7 wx => ∃ (j : Nat), gh = d - j ∧ j ≤ d ∧ s7 = .int .i64 ((orb N f j : Nat) : Int) ∧ BF wx w.heap.size N (fun y => (lst N f j).contains y) ∧ Below w.heap.size w wx)
  case atStart => exact ⟨0, rfl, Nat.zero_le _, by rw [e00], hf1, hb1⟩
  case round =>
    clear hf1 hb1 e00
    obtain ⟨j, hg, hj, rfl, hF, hB⟩ := hrel
    have HG := Lib.hid hg
    clear hg
    have hxN : orb N f j < N := orb_lt (by omega) _ _
    have d1 := hF.cell hxN
    obtain ⟨hB2, hC⟩ := dbl_go hn hn2 hxN
    rw [← orb_succ] at hC
    by_cases hlt : j < d
    · rw [HLN.out j hlt] at d1
      have d2 := hF.free (orb N f j)
      have HF2 : Hid (BF (wr.setCell ⟨w.heap.size, orb N f j, none⟩ (.bool true)) w.heap.size N (fun y => (lst N f (j + 1)).contains y)) := (hF.set _).of fun y hy => by rw [lst_succ, contains_snoc]
      have HB2 : Hid (Below w.heap.size w (wr.setCell ⟨w.heap.size, orb N f j, none⟩ (.bool true))) := hB.setCell (p := ⟨w.heap.size, orb N f j, none⟩) (Nat.le_refl _) _
      generalize orb N f j = x at hxN d1 d2 hB2 hC HF2 HB2 ⊢
      have x0 : (0 : Int) ≤ (x : Int) := by omega
      have x1 : (x : Int) < (N : Int) := by omega
      clear hF hB
      go_wp2_with fail
      go_roundg (d - (j + 1))
      case measure => have := HG.out; omega
      case rel => exact ⟨j + 1, rfl, by omega, rfl, HF2.out, HB2.out⟩
    · obtain rfl : j = d := by omega
      rw [HLO.out] at d1
      have HFF := Lib.hid hF
      have HBB := Lib.hid hB
      generalize orb N f j = x at hxN d1 hB2 hC ⊢
      have x0 : (0 : Int) ≤ (x : Int) := by omega
      have x1 : (x : Int) < (N : Int) := by omega
      clear hF hB hlt hC hB2
      obtain ⟨W0, rfl⟩ : ∃ W0, W0 = wr := ⟨_, rfl⟩
      go_wp2_with fail
      go_loopg [8, 9] N (fun gh s8 s9 wx => ∃ (k n : Nat), gh = N - k ∧ k ≤ N ∧ n ≤ k ∧ s9 = .int .i64 (k : Int) ∧ Own64 wx (w.heap.size + 1) s8 n (ints ((List.range k).filter (fun y => (lst N f j).contains y))) ∧ BF wx w.heap.size N (fun y => (lst N f j).contains y) ∧ Below w.heap.size w wx)
      case atStart => exact ⟨0, 0, rfl, Nat.zero_le _, Nat.le_refl _, rfl, Own64.nil _ _, HFF.out, HBB.out⟩
      case round =>
        clear HFF HBB d1
        obtain ⟨k, n, hg, hk, hnk, rfl, hO, hF, hB⟩ := hrel
        have HG2 := Lib.hid hg
        clear hg
        obtain ⟨av, cv, rfl⟩ := own_slice hO
        have hbs := hB.size
        have hFl := hF.lt
        by_cases hlt2 : k < N
        · have y1 : (k : Int) < (N : Int) := by omega
          have y0 : (0 : Int) ≤ (k : Int) := by omega
          have d3 := hF.cell hlt2
          have HR := Lib.hid (range_filter_snoc (fun y => (lst N f j).contains y) k)
          by_cases hc : (lst N f j).contains k = true
          · have hc' : (lst N f j).contains k = true := hc
            rw [hc'] at d3
            have HF2 : Hid (ints ((List.range (k + 1)).filter (fun y => (lst N f j).contains y)) = ints ((List.range k).filter (fun y => (lst N f j).contains y)) ++ [(k : Int)]) := by
              show _ = _
              rw [HR.out, if_pos hc, ints_snoc]
            clear HR hc hc'
            go_wp2_with (at_builtin; refine wpList_append_own _ rfl _ _ 33 rfl (w.heap.size + 1) 3 i0 (.int .i64 0) 1 8 Tryz.underlying33 hi hz0 hz1 hz2 rfl (by decide) _ n _ rfl (World.ownsRow.alloc hO _) ⟨wr.heap.size, 0, none⟩ 1 1 [.int .i64 (k : Int)] rfl rfl (cell_one_new _ _ _) (ints_oneCell .i64 [_]) (by unfold maxLen; omega) (by omega) (by simp; omega) ?_; intro v7 w7 hown7 hgrow _)
            have ho7 : Own64 w7 (w.heap.size + 1) v7 (n + 1) (ints ((List.range (k + 1)).filter (fun y => (lst N f j).contains y))) := by
              unfold Own64
              rw [HF2.out, ← cells64_append]
              exact hown7
            have b7 : Below w.heap.size w w7 := (hB.alloc hbs _).grown hgrow (by simp; omega) (fun g hg => by have := (hO.block g hg).1; omega)
            have hf7 : BF w7 w.heap.size N (fun y => (lst N f j).contains y) := by
              have h1 := hgrow.block w.heap.size (by simp; omega) (fun e => by have := (hO.block _ e.symm).1; omega)
              exact h1.trans ((((Below.refl wr.heap.size wr).alloc (Nat.le_refl _) _).block _ hFl).trans hF)
            clear hown7 hgrow hO hB hF
            go_wp2_with fail
            go_roundg (N - (k + 1))
            case measure => have := HG2.out; omega
            case rel => exact ⟨k + 1, n + 1, rfl, by omega, by omega, by go_num, ho7, hf7, b7⟩
          · have hc' : (lst N f j).contains k = false := Bool.eq_false_iff.2 hc
            rw [hc'] at d3
            have HO2 : Hid (Own64 wr (w.heap.size + 1) (.slice av n cv) n (ints ((List.range (k + 1)).filter (fun y => (lst N f j).contains y)))) := by
              show Own64 _ _ _ _ _
              rw [HR.out, if_neg hc, List.append_nil]; exact hO
            have HF2 := Lib.hid hF
            clear HR hc hc' hO hF
            go_wp2_with fail
            go_roundg (N - (k + 1))
            case measure => have := HG2.out; omega
            case rel => exact ⟨k + 1, n, rfl, by omega, by omega, by go_num, HO2.out, HF2.out, hB⟩
        · obtain rfl : k = N := by omega
          have HO2 : Hid (Own64 wr w.heap.size (.slice av n cv) n (ints (cos m f))) := by
            have h := hO
            rw [HFC.out] at h
            exact ⟨h.1, by
              rcases h.2 with h0 | ⟨g', cap', cur, hv, hbg, r⟩
              · exact Or.inl h0
              · exact Or.inr ⟨g', cap', cur, hv, by omega, r⟩⟩
          clear hO hF
          go_wp2_with fail
          go_ret
          exact ⟨av, n, cv, rfl, HO2.out, hB⟩
end Go.Proofs.YthmfneepnkgmgaaGreatDoor.Cos
/- The statements' own polynomials (shaleref2): Times. By the verifier of shale. -/
namespace Go.Proofs.YthmfneepnkgmgaaGreatDoor.Pl
open Go Go.RowKit Fld Bits16
set_option linter.unusedVariables false
section
variable {m : Nat} [M : Mid m]
set_option maxRecDepth 100000 in
set_option maxHeartbeats 1000000 in
theorem rtimes_any (a1 : Option Addr) (n1 c1 : Nat) (l1 : List Int) (a2 : Option Addr) (n2 c2 : Nat) (l2 : List Int) (w : World) (h1 : RowZ w a1 n1 c1 l1) (h2 : RowZ w a2 n2 c2 l2) (k1 : n1 ≤ 100000) (k2 : n2 ≤ 100000) :
    Calls Tryz.prog 72 #[.int .i64 (m : Int), .slice a1 n1 c1, .slice a2 n2 c2] w
      fun e w' => ∃ a' n' cap', e = .returned (.slice a' n' cap') ∧ ROut m w w' a' n' cap' (cv (sr m l1) (sr m l2)) ∧ Below w.heap.size w w' := by
  have HP1 := Lib.hid h1
  have HP2 := Lib.hid h2
  have hb1 : Bd (sr m l1) n1 := by have := sr_bd (m := m) l1; rwa [← h1.hlen] at this
  have hb2 : Bd (sr m l2) n2 := by have := sr_bd (m := m) l2; rwa [← h2.hlen] at this
  have ht1 := top_le (sr m l1) n1
  have ht2 := top_le (sr m l2) n2
  have HB1 := Lib.hid hb1
  have HB2 := Lib.hid hb2
  clear h1 h2 hb1 hb2
  go_enter Tryz.func72, Tryz.ntmps72
  go_wp2_with fail
  refine (rtrim_any (m := m) a1 n1 c1 l1 w HP1.out (by omega)).mono ?_
  rintro e w1 ⟨p1, N1, d1, rfl, hO1, b1⟩
  go_wp2_with fail
  refine (rtrim_any (m := m) a2 n2 c2 l2 w1 (HP2.out.below b1) (by omega)).mono ?_
  rintro e w2 ⟨p2, N2, d2, rfl, hO2, b2⟩
  have hN1 : N1 ≤ n1 := by rw [hO1.len HB1.out]; exact ht1
  have hN2 : N2 ≤ n2 := by rw [hO2.len HB2.out]; exact ht2
  replace hO1 := hO1.since b2
  have HO1 := Lib.hid hO1
  have HO2 := Lib.hid hO2
  have HB12 := Lib.hid (b1.trans (b2.mono b1.size))
  clear hO1 hO2 b1 b2
  generalize hPe : sr m l1 = P at HO1 HB1 ht1
  generalize hQe : sr m l2 = Q at HO2 HB2 ht2
  have HPe := Lib.hid hPe
  have HQe := Lib.hid hQe
  clear hPe hQe
  obtain ⟨N, hN⟩ : ∃ N, N = N1 + N2 := ⟨_, rfl⟩
  have hNm : N ≤ 1000000 := by omega
  have hmk := made64 w2 N hNm
  rw [nums_pz (m := m)] at hmk
  have HK0 : Hid (Blk64 (w2.alloc (obj64 (nums (pz : Ser (El m)) N))) w2.heap.size (nums (pz : Ser (El m)) N)) := Blk64.new w2 _
  have HB0 : Hid (Below w2.heap.size w2 (w2.alloc (obj64 (nums (pz : Ser (El m)) N)))) := (Below.refl _ _).alloc (Nat.le_refl _) _
  have hsum : (N1 : Int) + (N2 : Int) = (N : Int) := by omega
  have HN := Lib.hid hN
  clear hN
  go_wp2_with fail
  clear hmk hsum
  generalize w2.alloc (obj64 (nums (pz : Ser (El m)) N)) = w3 at HK0 HB0 ⊢
  go_loopg [8] N1 (fun gh s8 wx => ∃ (i : Nat), gh = N1 - i ∧ i ≤ N1 ∧ s8 = .int .i64 (i : Int) ∧ Blk64 wx w2.heap.size (nums (cv (cutS P i) Q) N) ∧ Below w2.heap.size w2 wx)
  case atStart => exact ⟨0, rfl, Nat.zero_le _, rfl, by rw [cutS_zero, cv_zero]; exact HK0.out, HB0.out⟩
  case round =>
    clear HK0 HB0
    obtain ⟨i, hg, hin, rfl, hk, hB⟩ := hrel
    have HG := Lib.hid hg
    clear hg
    by_cases hlt : i < N1
    · have x0 : (0 : Int) ≤ (i : Int) := by omega
      have x1 : (i : Int) < (N1 : Int) := by omega
      have HK := Lib.hid hk
      have HB := Lib.hid hB
      clear hk hB
      go_wp2_with fail
      obtain ⟨W0, rfl⟩ : ∃ W0, W0 = wr := ⟨_, rfl⟩
      go_loopg [9] N2 (fun gh s9 wx => ∃ (j : Nat), gh = N2 - j ∧ j ≤ N2 ∧ s9 = .int .i64 (j : Int) ∧ Blk64 wx w2.heap.size (nums (padd (cv (cutS P i) Q) (cv (mono i (P i)) (cutS Q j))) N) ∧ Below w2.heap.size w2 wx)
      case atStart => exact ⟨0, rfl, Nat.zero_le _, rfl, by rw [cutS_zero, zero_cv, padd_zero]; exact HK.out, HB.out⟩
      case round =>
        clear HK HB
        obtain ⟨j, hg, hjn, rfl, hk, hB⟩ := hrel
        have HG2 := Lib.hid hg
        clear hg
        by_cases hlj : j < N2
        · have y0 : (0 : Int) ≤ (j : Int) := by omega
          have y1 : (j : Int) < (N2 : Int) := by omega
          obtain ⟨K, hK⟩ : ∃ K, K = i + j := ⟨_, rfl⟩
          have hKN : K < N := by have := HN.out; omega
          have z0 : (0 : Int) ≤ (K : Int) := by omega
          have z1 : (K : Int) < (N : Int) := by omega
          have hKe : (i : Int) + (j : Int) = (K : Int) := by omega
          obtain ⟨bb1, o1, rfl, d1', _⟩ := (HO1.out.row.below hB).row i hlt
          obtain ⟨bb2, o2, rfl, d2', _⟩ := (HO2.out.row.below hB).row j hlj
          rw [nums_at P N1 i hlt] at d1'
          rw [nums_at Q N2 j hlj] at d2'
          have d1' := cell_regrown d1'
          have d2' := cell_regrown d2'
          have c3 := hk.cell (i := K) (by rw [nums_length]; exact hKN)
          rw [show nth64 (nums (padd (cv (cutS P i) Q) (cv (mono i (P i)) (cutS Q j))) N) K = zn (padd (cv (cutS P i) Q) (cv (mono i (P i)) (cutS Q j)) K) from nums_at _ _ _ hKN] at c3
          have c3' := cell_regrown c3
          have HM : Hid (∀ q os, Calls Tryz.prog 67 #[.int .i64 (m : Int), .int .i64 (zn (P i)), .int .i64 (zn (Q j))] (Sort.grow (redrawn wr q) os) fun e w'' => e = .returned (.int .i64 (zn (P i * Q j))) ∧ ∃ p : Regrown, w'' = Sort.grow (redrawn wr p.d) p.os) := fun q os => Calls.regrown_of (rmul_zz _ _ _)
          have hv : bits .xor .i64 (zn (padd (cv (cutS P i) Q) (cv (mono i (P i)) (cutS Q j)) K)) (zn (P i * Q j)) = zn (padd (cv (cutS P i) Q) (cv (mono i (P i)) (cutS Q (j + 1))) K) := by
            rw [zn_add, hK, times_new, Fl.mul_comm (P i)]
          have HSET : Hid ((nums (padd (cv (cutS P i) Q) (cv (mono i (P i)) (cutS Q j))) N).set K (zn (padd (cv (cutS P i) Q) (cv (mono i (P i)) (cutS Q (j + 1))) K)) = nums (padd (cv (cutS P i) Q) (cv (mono i (P i)) (cutS Q (j + 1)))) N) :=
            nums_set _ _ N K (fun x hx => times_at _ Q (P i) i j x (by rw [← hK]; exact hx))
          generalize zn (padd (cv (cutS P i) Q) (cv (mono i (P i)) (cutS Q (j + 1))) K) = v1 at hv HSET
          generalize zn (padd (cv (cutS P i) Q) (cv (mono i (P i)) (cutS Q j)) K) = v0 at hv c3 c3'
          generalize zn (P i * Q j) = v2 at hv HM
          have HK := Lib.hid hk
          have HB := Lib.hid hB
          have c4 := hk.free K
          clear hk hB hK
          go_wp2_with fail
          refine wp_region_quiet_tail (C := fun w' => ∃ p : Regrown, w' = Sort.grow (redrawn wr p.d) p.os) 21 (by kernel_rfl) (by kernel_rfl) (regrown0 wr) ?_
          simp only [List.take_succ_cons, List.take_zero, List.drop_succ_cons, List.drop_zero]
          repeat (go_big_quiet_step (first | (go_at_call 67; with_reducible exact HM.out _ _)))
          refine wpQuiet_nil ?_
          rintro _ ⟨⟨dq, osq⟩, rfl⟩
          have b9 := below_regrown wr dq osq
          have hk := (b9.block _ HK.out.lt).trans HK.out
          have hB := HB.out.trans (b9.mono HB.out.size)
          have c3 := c3' dq osq
          change Blk64 _ _ _ at hk
          have c4 := hk.free K
          clear b9 HM d1' d2' c3' HK HB
          generalize Sort.grow (redrawn wr dq) osq = w9 at hk hB c3 c4 ⊢
          have hs := hk.set K v1
          rw [HSET.out] at hs
          have U8 : Upd w2.heap.size w9 (w9.setCell ⟨w2.heap.size, K, none⟩ (.int .i64 v1)) := (Upd.refl _ w9).only (Only.setCell _ ⟨w2.heap.size, K, none⟩ _)
          have HB9 := Lib.hid (hB.trans (U8.toBelow (Nat.le_refl _) hB.size))
          have HS9 := Lib.hid hs
          clear hk hB hs U8 HSET
          go_wp2_with fail
          clear c3 c4 hv hKe
          generalize w9.setCell ⟨w2.heap.size, K, none⟩ (.int .i64 v1) = wq at HS9 HB9 ⊢
          go_wp2_with fail
          go_roundg (N2 - (j + 1))
          case measure => have := HG2.out; omega
          case rel => exact ⟨j + 1, rfl, by omega, by go_num, HS9.out, HB9.out⟩
        · obtain rfl : j = N2 := by omega
          rw [cutS_all HO2.out.bd, mul_step] at hk
          have HK := Lib.hid hk
          clear hk
          go_wp2_with fail
          go_roundg (N1 - (i + 1))
          case measure => have := HG.out; omega
          case rel => exact ⟨i + 1, rfl, by omega, by go_num, HK.out, hB⟩
    · obtain rfl : i = N1 := by omega
      rw [cutS_all HO1.out.bd] at hk
      have hrow := Blk64.rowz hk (by rw [nums_length]; exact hNm)
      rw [nums_length] at hrow
      have HRow := Lib.hid hrow
      have HBw := Lib.hid (HB12.out.trans (hB.mono HB12.out.size))
      have HS : Hid (sr m (nums (cv P Q) N) = cv P Q) := sr_nums ((bd_cv HO1.out.bd HO2.out.bd).mono (by have := HN.out; omega))
      clear hk hrow hB
      go_wp2_with fail
      refine (rtrim_any (m := m) _ N N _ wr HRow.out hNm).mono ?_
      rintro e w5 ⟨a', n', cap', rfl, hO, hb⟩
      rw [HS.out] at hO
      have HO := Lib.hid (hO.from HBw.out.size)
      have HB5 := Lib.hid (HBw.out.trans (hb.mono HBw.out.size))
      clear hO hb
      go_wp2_with fail
      go_ret
      exact ⟨_, _, _, rfl, by rw [HPe.out, HQe.out]; exact HO.out, HB5.out⟩
end
end Go.Proofs.YthmfneepnkgmgaaGreatDoor.Pl
/- Berlekamp's and Massey's way over a field of two's kind: what is found makes the values, and nothing shorter does. No program is named here. By the verifier of shale. -/
namespace Go.Proofs.YthmfneepnkgmgaaGreatDoor.Loc
open Pl
set_option linter.unusedVariables false
section
variable {K : Type} [Fl K]
/-- where one of the two is 0 each time, the product's coefficient is 0. -/
theorem cv_none (q : Ser K) : ∀ (n : Nat) (p : Ser K), (∀ i, i ≤ n → p i = 0 ∨ q (n - i) = 0) → cv p q n = 0 := by
  intro n
  induction n with
  | zero =>
    intro p h
    show p 0 * q 0 = 0
    rcases h 0 (Nat.le_refl _) with h | h
    · rw [h, zero_mul]
    · rw [show (0 : Nat) - 0 = 0 from rfl] at h; rw [h, mul_zero]
  | succ n ih =>
    intro p h
    show p 0 * q (n + 1) + cv (tl p) q n = 0
    rw [ih (tl p) fun i hi => by
      have := h (i + 1) (by omega)
      rwa [show n + 1 - (i + 1) = n - i by omega] at this, Fl.add_zero]
    rcases h 0 (by omega) with h | h
    · rw [h, zero_mul]
    · rw [show n + 1 - 0 = n + 1 from rfl] at h; rw [h, mul_zero]
/-- .. but the first. -/
theorem cv_first (p q : Ser K) (n : Nat) (h : ∀ i, 1 ≤ i → i ≤ n → p i = 0 ∨ q (n - i) = 0) : cv p q n = p 0 * q n := by
  cases n with
  | zero => rfl
  | succ n =>
    show p 0 * q (n + 1) + cv (tl p) q n = _
    rw [cv_none q n (tl p) fun i hi => by
      have := h (i + 1) (by omega) (by omega)
      rwa [show n + 1 - (i + 1) = n - i by omega] at this, Fl.add_zero]
/-- c, of length L, makes the first n values. -/
def Gn (c : Ser K) (L n : Nat) (S : Ser K) : Prop := ∀ i, L ≤ i → i < n → cv c S i = 0
theorem Gn.less {c S : Ser K} {L n k : Nat} (h : Gn c L n S) (hk : k ≤ n) : Gn c L k S := fun i h1 h2 => h i h1 (by omega)
/-- Massey's lemma: what makes one value more than c is no shorter than n + 1 - L. -/
theorem massey {c c' S : Ser K} {L L' n : Nat} (hc : Bd c (L + 1)) (h : Gn c L n S) (ha : cv c S n ≠ 0) (hc' : Bd c' (L' + 1)) (h0 : c' 0 ≠ 0) (h' : Gn c' L' (n + 1) S) : n + 1 ≤ L + L' := by
  refine Classical.byContradiction fun hn => ?_
  have e1 : cv c (cv c' S) n = 0 := cv_none _ n c fun i hi => by
    by_cases hL : L < i
    · exact .inl (hc i (by omega))
    · exact .inr (h' (n - i) (by omega) (by omega))
  have e2 : cv c' (cv c S) n = c' 0 * cv c S n := cv_first _ _ n fun i h1 hi => by
    by_cases hL : L' < i
    · exact .inl (hc' i (by omega))
    · exact .inr (h (n - i) (by omega) (by omega))
  rw [← cv_assoc, cv_comm c c', cv_assoc, e2] at e1
  exact mul_ne h0 ha e1
/-- the state of the way. -/
structure St (K : Type) where
  c : Ser K
  b : Ser K
  L : Nat
  k : Nat
  d : K
/-- b, k places further up. -/
def up (k : Nat) (b : Ser K) : Ser K := cv (mono k 1) b
theorem up_at (k : Nat) (b : Ser K) (i : Nat) : up k b i = if i < k then 0 else b (i - k) := by
  unfold up
  rw [cv_mono]
  split
  · rfl
  · rw [one_mul]
def fix (s : St K) (a : K) : Ser K := padd s.c (psm (a * s.d⁻¹) (up s.k s.b))
open Classical in
noncomputable def step (S : Ser K) (n : Nat) (s : St K) : St K :=
  if cv s.c S n = 0 then { s with k := s.k + 1 }
  else if n < 2 * s.L then { s with c := fix s (cv s.c S n), k := s.k + 1 }
  else ⟨fix s (cv s.c S n), s.c, n + 1 - s.L, 1, cv s.c S n⟩
def st0 : St K := ⟨pone, pone, 0, 1, 1⟩
noncomputable def bm (S : Ser K) : Nat → St K
  | 0 => st0
  | n + 1 => step S n (bm S n)
theorem step_zero {S : Ser K} {n : Nat} {s : St K} (h : cv s.c S n = 0) : step S n s = { s with k := s.k + 1 } := by unfold step; rw [if_pos h]
theorem step_same {S : Ser K} {n : Nat} {s : St K} (h : cv s.c S n ≠ 0) (h2 : n < 2 * s.L) : step S n s = { s with c := fix s (cv s.c S n), k := s.k + 1 } := by unfold step; rw [if_neg h, if_pos h2]
theorem step_grow {S : Ser K} {n : Nat} {s : St K} (h : cv s.c S n ≠ 0) (h2 : ¬ n < 2 * s.L) : step S n s = ⟨fix s (cv s.c S n), s.c, n + 1 - s.L, 1, cv s.c S n⟩ := by unfold step; rw [if_neg h, if_neg h2]
/-- what holds of the state behind n values. -/
structure Inv (S : Ser K) (n : Nat) (s : St K) : Prop where
  one : s.c 0 = 1
  bd : Bd s.c (s.L + 1)
  gn : Gn s.c s.L n S
  le : s.L ≤ n
  d0 : s.d ≠ 0
  kp : 1 ≤ s.k
  /-- the length of b. -/
  old : ∃ B, Bd s.b (B + 1) ∧ s.k + B + s.L = n + 1 ∧ (∀ i, B ≤ i → i + s.k < n → cv s.b S i = 0) ∧ ((s.L = 0 ∧ s.k = n + 1) ∨ (s.k ≤ n ∧ cv s.b S (n - s.k) = s.d))
  min : ∀ (c' : Ser K) (L' : Nat), Bd c' (L' + 1) → c' 0 ≠ 0 → Gn c' L' n S → s.L ≤ L'
theorem inv_zero (S : Ser K) : Inv S 0 st0 :=
  ⟨rfl, bd_one, fun i _ h => absurd h (Nat.not_lt_zero _), Nat.le_refl _, Fl.one_ne, Nat.le_refl _, ⟨0, bd_one, rfl, fun i _ h => absurd h (Nat.not_lt_zero _), .inl ⟨rfl, rfl⟩⟩, fun _ _ _ _ _ => Nat.zero_le _⟩
theorem cv_up (k : Nat) (b S : Ser K) (i : Nat) : cv (up k b) S i = if i < k then 0 else cv b S (i - k) := by
  unfold up
  rw [cv_assoc, cv_mono]
  split
  · rfl
  · rw [one_mul]
theorem fix_cv (s : St K) (a : K) (S : Ser K) (i : Nat) : cv (fix s a) S i = cv s.c S i + a * s.d⁻¹ * (if i < s.k then 0 else cv s.b S (i - s.k)) := by
  unfold fix
  rw [cv_add, cv_psm, ← cv_up]; rfl
theorem fix_one {S : Ser K} {n : Nat} {s : St K} (h : Inv S n s) (a : K) : fix s a 0 = 1 := by
  show s.c 0 + a * s.d⁻¹ * up s.k s.b 0 = 1
  rw [up_at, if_pos (by have := h.kp; omega), mul_zero, Fl.add_zero, h.one]
theorem inv_mul (a d : K) (h : d ≠ 0) : a * d⁻¹ * d = a := by rw [Fl.mul_assoc, Fl.mul_comm d⁻¹, Fl.mul_inv d h, Fl.mul_one]
/-- the mended polynomial makes one value more. -/
theorem fix_gn {S : Ser K} {n : Nat} {s : St K} (h : Inv S n s) (a : K) (ha : cv s.c S n = a) (L' : Nat) (h1 : s.L ≤ L') (h2 : n + 1 ≤ L' + s.L) (h3 : s.L = 0 → n + 1 ≤ L') : Gn (fix s a) L' (n + 1) S ∧ Bd (fix s a) (L' + 1) := by
  obtain ⟨B, hb, he, hz, hd⟩ := h.old
  constructor
  · intro i hi hn
    rw [fix_cv]
    by_cases hin : i = n
    · subst hin
      rcases hd with ⟨hL, hk⟩ | ⟨hk, hd⟩
      · have := h3 hL; omega
      · rw [if_neg (by omega), hd, ha, inv_mul a s.d h.d0, Fl.add_self]
    · rw [h.gn i (by omega) (by omega), if_neg (by omega), hz (i - s.k) (by omega) (by omega), mul_zero, Fl.add_zero]
  · intro i hi
    show s.c i + a * s.d⁻¹ * up s.k s.b i = 0
    rw [up_at, if_neg (by omega), h.bd i (by omega), hb (i - s.k) (by omega), mul_zero, Fl.add_zero]
theorem inv_step {S : Ser K} {n : Nat} {s : St K} (h : Inv S n s) : Inv S (n + 1) (step S n s) := by
  obtain ⟨B, hb, he, hz, hd⟩ := h.old
  have hk := h.kp
  have hle := h.le
  have hmin : ∀ (c' : Ser K) (L' : Nat), Bd c' (L' + 1) → c' 0 ≠ 0 → Gn c' L' (n + 1) S → s.L ≤ L' := fun c' L' h1 h2 h3 => h.min c' L' h1 h2 (h3.less (by omega))
  by_cases ha : cv s.c S n = 0
  · rw [step_zero ha]
    refine ⟨h.one, h.bd, fun i h1 h2 => ?_, by show s.L ≤ n + 1; omega, h.d0, by show 1 ≤ s.k + 1; omega, ⟨B, hb, by show s.k + 1 + B + s.L = n + 1 + 1; omega, fun i h1 h2 => hz i h1 (by have h2 : i + (s.k + 1) < n + 1 := h2; omega), ?_⟩, hmin⟩
    · by_cases hin : i = n
      · subst hin; exact ha
      · exact h.gn i h1 (by omega)
    · rcases hd with ⟨hL, hk⟩ | ⟨hk, hd⟩
      · exact .inl ⟨hL, by show s.k + 1 = n + 1 + 1; omega⟩
      · exact .inr ⟨by show s.k + 1 ≤ n + 1; omega, by show cv s.b S (n + 1 - (s.k + 1)) = s.d; rw [show n + 1 - (s.k + 1) = n - s.k by omega]; exact hd⟩
  · by_cases h2 : n < 2 * s.L
    · rw [step_same ha h2]
      obtain ⟨g1, g2⟩ := fix_gn h _ rfl s.L (Nat.le_refl _) (by omega) (by omega)
      refine ⟨fix_one h _, g2, g1, by show s.L ≤ n + 1; omega, h.d0, by show 1 ≤ s.k + 1; omega, ⟨B, hb, by show s.k + 1 + B + s.L = n + 1 + 1; omega, fun i h1 h2 => hz i h1 (by have h2 : i + (s.k + 1) < n + 1 := h2; omega), ?_⟩, hmin⟩
      rcases hd with ⟨hL, hk⟩ | ⟨hk, hd⟩
      · omega
      · exact .inr ⟨by show s.k + 1 ≤ n + 1; omega, by show cv s.b S (n + 1 - (s.k + 1)) = s.d; rw [show n + 1 - (s.k + 1) = n - s.k by omega]; exact hd⟩
    · rw [step_grow ha h2]
      obtain ⟨g1, g2⟩ := fix_gn h _ rfl (n + 1 - s.L) (by omega) (by omega) (by omega)
      refine ⟨fix_one h _, g2, g1, by show n + 1 - s.L ≤ n + 1; omega, ha, Nat.le_refl _, ⟨s.L, h.bd, by show 1 + s.L + (n + 1 - s.L) = n + 1 + 1; omega, fun i h1 h2 => h.gn i h1 (by have h2 : i + 1 < n + 1 := h2; omega), .inr ⟨by show 1 ≤ n + 1; omega, by show cv s.c S (n + 1 - 1) = cv s.c S n; rfl⟩⟩, fun c' L' h1 h2 h3 => ?_⟩
      have := massey h.bd h.gn ha h1 h2 h3
      show n + 1 - s.L ≤ L'
      omega
theorem bm_inv (S : Ser K) : ∀ n, Inv S n (bm S n)
  | 0 => inv_zero S
  | n + 1 => inv_step (bm_inv S n)
/-- the length of b, as a word. -/
theorem Inv.room {S : Ser K} {n : Nat} {s : St K} (h : Inv S n s) : s.k ≤ n + 1 ∧ Bd (up s.k s.b) (n + 2 - s.L) ∧ Bd s.b (n + 2) := by
  obtain ⟨B, hb, he, _⟩ := h.old
  refine ⟨by omega, fun i hi => ?_, hb.mono (by have := h.le; omega)⟩
  rw [up_at]
  split
  · rfl
  · exact hb _ (by omega)
open Classical in
/-- the length never falls, and grows as it must. -/
theorem step_len (S : Ser K) (n : Nat) (s : St K) : (step S n s).L = if cv s.c S n = 0 ∨ n < 2 * s.L then s.L else n + 1 - s.L := by
  by_cases ha : cv s.c S n = 0
  · rw [step_zero ha, if_pos (.inl ha)]
  · by_cases h2 : n < 2 * s.L
    · rw [step_same ha h2, if_pos (.inr h2)]
    · rw [step_grow ha h2, if_neg (by simp [ha, h2])]
open Classical in
theorem bm_len {S : Ser K} {n : Nat} (h : cv (bm S n).c S n ≠ 0) : (bm S (n + 1)).L = max (bm S n).L (n + 1 - (bm S n).L) := by
  show (step S n (bm S n)).L = _
  rw [step_len]
  by_cases h2 : n < 2 * (bm S n).L
  · rw [if_pos (.inr h2)]; omega
  · rw [if_neg (by simp [h, h2])]; omega
open Classical in
theorem bm_grows (S : Ser K) (n : Nat) : (bm S n).L ≤ (bm S (n + 1)).L := by
  show _ ≤ (step S n (bm S n)).L
  rw [step_len]
  have := (bm_inv S n).le
  split <;> omega
theorem bm_stays {S : Ser K} {n : Nat} (h : cv (bm S n).c S n = 0) : (bm S (n + 1)).c = (bm S n).c ∧ (bm S (n + 1)).L = (bm S n).L := by
  show (step S n (bm S n)).c = _ ∧ (step S n (bm S n)).L = _
  rw [step_zero h]
  exact ⟨rfl, rfl⟩
theorem cv_ext {p q r s : Ser K} : ∀ {n : Nat}, (∀ i, i ≤ n → p i = r i) → (∀ i, i ≤ n → q i = s i) → cv p q n = cv r s n := by
  intro n
  induction n generalizing p r with
  | zero =>
    intro h k
    show p 0 * q 0 = r 0 * s 0
    rw [h 0 (Nat.le_refl _), k 0 (Nat.le_refl _)]
  | succ n ih =>
    intro h k
    show p 0 * q (n + 1) + cv (tl p) q n = r 0 * s (n + 1) + cv (tl r) s n
    rw [h 0 (Nat.zero_le _), k (n + 1) (Nat.le_refl _), ih (p := tl p) (r := tl r) (fun i hi => h (i + 1) (by omega)) (fun i hi => k i (by omega))]
/-- only the first n values are looked at. -/
theorem bm_ext {S T : Ser K} : ∀ {n : Nat}, (∀ i, i < n → S i = T i) → bm S n = bm T n := by
  intro n
  induction n with
  | zero => intro _; rfl
  | succ n ih =>
    intro h
    have e := ih fun i hi => h i (by omega)
    show step S n (bm S n) = step T n (bm T n)
    rw [e]
    have hc : cv (bm T n).c S n = cv (bm T n).c T n := cv_ext (fun _ _ => rfl) (fun i hi => h i (by omega))
    unfold step
    rw [hc]
theorem gn_ext {c S T : Ser K} {L n : Nat} (h : ∀ i, i < n → S i = T i) (g : Gn c L n S) : Gn c L n T := fun i h1 h2 => by
  rw [← g i h1 h2]
  exact cv_ext (fun _ _ => rfl) (fun j hj => (h j (by omega)).symm)
/-- where there are twice as many values as the length, the polynomial is the only one. -/
theorem only {S c c' : Ser K} {L n : Nat} (hc : Bd c (L + 1)) (h1 : c 0 = 1) (hg : Gn c L n S) (hc' : Bd c' (L + 1)) (h1' : c' 0 = 1) (hg' : Gn c' L n S) (hmin : ∀ (x : Ser K) (L' : Nat), Bd x (L' + 1) → x 0 ≠ 0 → Gn x L' n S → L ≤ L') (hn : 2 * L ≤ n) : c' = c := by
  refine Classical.byContradiction fun hne => ?_
  have he : ∀ i, L ≤ i → i < n → cv (padd c' c) S i = 0 := fun i a b => by
    rw [cv_add_left, hg i a b, hg' i a b, Fl.add_zero]
  have hex : ∃ i, padd c' c i ≠ 0 := Classical.byContradiction fun hno => hne (padd_cancel (funext fun i => Classical.byContradiction fun hi => hno ⟨i, hi⟩))
  obtain ⟨i0, hi0, hfirst⟩ : ∃ i0, padd c' c i0 ≠ 0 ∧ ∀ i, i < i0 → padd c' c i = 0 := by
    obtain ⟨i, hi⟩ := hex
    induction i using Nat.strongRecOn with
    | ind i ih =>
      by_cases hs : ∃ j, j < i ∧ padd c' c j ≠ 0
      · obtain ⟨j, hj, hj2⟩ := hs; exact ih j hj hj2
      · exact ⟨i, hi, fun j hj => Classical.byContradiction fun h => hs ⟨j, hj, h⟩⟩
  have hp : 1 ≤ i0 := by
    rcases Nat.eq_zero_or_pos i0 with h | h
    · subst h
      exact absurd (show c' 0 + c 0 = 0 by rw [h1, h1', Fl.add_self]) hi0
    · exact h
  have hl : i0 ≤ L := Classical.byContradiction fun h => hi0 (by show c' i0 + c i0 = 0; rw [hc i0 (by omega), hc' i0 (by omega), Fl.add_zero])
  obtain ⟨e', he'⟩ : ∃ e' : Ser K, e' = fun i => padd c' c (i + i0) := ⟨_, rfl⟩
  have hu : padd c' c = up i0 e' := funext fun i => by
    rw [up_at, he']
    split
    · exact hfirst i (by assumption)
    · show _ = padd c' c (i - i0 + i0)
      rw [show i - i0 + i0 = i by omega]
  have hb' : Bd e' (L - i0 + 1) := fun i hi => by
    rw [he']
    show c' (i + i0) + c (i + i0) = 0
    rw [hc _ (by omega), hc' _ (by omega), Fl.add_zero]
  have h0' : e' 0 ≠ 0 := by rw [he']; show padd c' c (0 + i0) ≠ 0; rw [Nat.zero_add]; exact hi0
  have hg0 : Gn e' (L - i0) (n - i0) S := fun i a b => by
    have h := he (i + i0) (by omega) (by omega)
    rw [hu, cv_up, if_neg (by omega), show i + i0 - i0 = i by omega] at h
    exact h
  have hfail : ∃ x, n - i0 ≤ x ∧ x < n ∧ cv e' S x ≠ 0 := Classical.byContradiction fun hno => by
    have hall : Gn e' (L - i0) n S := fun i a b => by
      by_cases hx : i < n - i0
      · exact hg0 i a hx
      · exact Classical.byContradiction fun h => hno ⟨i, by omega, b, h⟩
    have := hmin e' (L - i0) hb' h0' hall
    omega
  obtain ⟨x, hx⟩ := hfail
  obtain ⟨y, hy1, hy2, hy3, hy4⟩ : ∃ y, n - i0 ≤ y ∧ y < n ∧ cv e' S y ≠ 0 ∧ Gn e' (L - i0) y S := by
    induction x using Nat.strongRecOn with
    | ind x ih =>
      by_cases hs : ∃ j, j < x ∧ n - i0 ≤ j ∧ cv e' S j ≠ 0
      · obtain ⟨j, hj, hj2, hj3⟩ := hs; exact ih j hj ⟨hj2, by omega, hj3⟩
      · refine ⟨x, hx.1, hx.2.1, hx.2.2, fun i a b => ?_⟩
        by_cases hz : i < n - i0
        · exact hg0 i a hz
        · exact Classical.byContradiction fun h => hs ⟨i, b, by omega, h⟩
  have := massey hb' hy4 hy3 hc (by rw [h1]; exact Fl.one_ne) (hg.less (by omega))
  omega
theorem bm_only {S c' : Ser K} {n : Nat} (hc' : Bd c' ((bm S n).L + 1)) (h1' : c' 0 = 1) (hg' : Gn c' (bm S n).L n S) (hn : 2 * (bm S n).L ≤ n) : c' = (bm S n).c :=
  only (bm_inv S n).bd (bm_inv S n).one (bm_inv S n).gn hc' h1' hg' (bm_inv S n).min hn
/-! ### the way without a division -/
open Classical in
noncomputable def stepF (S : Ser K) (n : Nat) (s : St K) : St K :=
  if cv s.c S n = 0 then { s with k := s.k + 1 }
  else if n < 2 * s.L then { s with c := padd (psm s.d s.c) (psm (cv s.c S n) (up s.k s.b)), k := s.k + 1 }
  else ⟨padd (psm s.d s.c) (psm (cv s.c S n) (up s.k s.b)), s.c, n + 1 - s.L, 1, cv s.c S n⟩
noncomputable def bmF (S : Ser K) : Nat → St K
  | 0 => st0
  | n + 1 => stepF S n (bmF S n)
theorem up_sm (k : Nat) (a : K) (b : Ser K) : up k (psm a b) = psm a (up k b) := by unfold up; rw [cv_comm, cv_psm, cv_comm]
theorem psm_padd (a : K) (p q : Ser K) : psm a (padd p q) = padd (psm a p) (psm a q) := funext fun i => Fl.mul_add _ _ _
/-- the same, but for factors. -/
def Like (s t : St K) : Prop := ∃ x y : K, x ≠ 0 ∧ y ≠ 0 ∧ t.c = psm x s.c ∧ t.b = psm y s.b ∧ t.L = s.L ∧ t.k = s.k ∧ t.d = y * s.d
theorem like_step {S : Ser K} {n : Nat} {s t : St K} (h : Like s t) (hd : s.d ≠ 0) : Like (step S n s) (stepF S n t) := by
  obtain ⟨x, y, hx, hy, h1, h2, h3, h4, h5⟩ := h
  have hc : cv t.c S n = x * cv s.c S n := by rw [h1, cv_sm_left]
  have hf : padd (psm t.d t.c) (psm (cv t.c S n) (up t.k t.b)) = psm (x * y * s.d) (fix s (cv s.c S n)) := by
    unfold fix
    rw [hc, h1, h2, h4, h5, up_sm, psm_padd, psm_psm, psm_psm, psm_psm]
    congr 2
    · ac_rfl
    · have e : s.d * (cv s.c S n * s.d⁻¹) = cv s.c S n := by rw [Fl.mul_comm, inv_mul _ _ hd]
      rw [show x * y * s.d * (cv s.c S n * s.d⁻¹) = x * y * (s.d * (cv s.c S n * s.d⁻¹)) from Fl.mul_assoc _ _ _, e]
      ac_rfl
  by_cases ha : cv s.c S n = 0
  · have ha' : cv t.c S n = 0 := by rw [hc, ha, mul_zero]
    rw [step_zero ha]
    unfold stepF
    rw [if_pos ha']
    exact ⟨x, y, hx, hy, h1, h2, h3, by show t.k + 1 = s.k + 1; rw [h4], h5⟩
  · have ha' : cv t.c S n ≠ 0 := by rw [hc]; exact mul_ne hx ha
    unfold stepF
    rw [if_neg ha', hf, h3]
    by_cases h6 : n < 2 * s.L
    · rw [step_same ha h6, if_pos h6]
      exact ⟨x * y * s.d, y, mul_ne (mul_ne hx hy) hd, hy, rfl, h2, rfl, by show t.k + 1 = s.k + 1; rw [h4], h5⟩
    · rw [step_grow ha h6, if_neg h6]
      exact ⟨x * y * s.d, x, mul_ne (mul_ne hx hy) hd, hx, rfl, h1, rfl, rfl, hc⟩
theorem like_bm (S : Ser K) : ∀ n, Like (bm S n) (bmF S n)
  | 0 => ⟨1, 1, Fl.one_ne, Fl.one_ne, (psm_one _).symm, (psm_one _).symm, rfl, rfl, by show (1 : K) = 1 * 1; rw [Fl.mul_one]⟩
  | n + 1 => like_step (like_bm S n) (bm_inv S n).d0
/-! ### scaled values -/
theorem gn_sm {c S : Ser K} {L n : Nat} (a : K) (h : Gn c L n S) : Gn c L n (psm a S) := fun i h1 h2 => by
  rw [cv_comm, cv_sm_left, cv_comm, h i h1 h2, mul_zero]
theorem psm_inv {a : K} (ha : a ≠ 0) (S : Ser K) : psm a⁻¹ (psm a S) = S := by rw [psm_psm, Fl.mul_comm, Fl.mul_inv a ha, psm_one]
theorem bm_sm_len {S : Ser K} {a : K} (ha : a ≠ 0) (n : Nat) : (bm (psm a S) n).L = (bm S n).L := by
  apply Nat.le_antisymm
  · exact (bm_inv _ n).min _ _ (bm_inv S n).bd (by rw [(bm_inv S n).one]; exact Fl.one_ne) (gn_sm a (bm_inv S n).gn)
  · refine (bm_inv _ n).min _ _ (bm_inv (psm a S) n).bd (by rw [(bm_inv (psm a S) n).one]; exact Fl.one_ne) ?_
    have := gn_sm a⁻¹ (bm_inv (psm a S) n).gn
    rwa [psm_inv ha] at this
theorem bm_sm {S : Ser K} {a : K} (ha : a ≠ 0) {n : Nat} (hn : 2 * (bm S n).L ≤ n) : (bm (psm a S) n).c = (bm S n).c := by
  refine bm_only ?_ (bm_inv (psm a S) n).one ?_ hn
  · rw [← bm_sm_len ha]; exact (bm_inv _ n).bd
  · have := gn_sm a⁻¹ (bm_inv (psm a S) n).gn
    rwa [psm_inv ha, bm_sm_len ha] at this
def pwK (b : K) : Nat → K
  | 0 => 1
  | k + 1 => b * pwK b k
theorem pwK_ne {b : K} (hb : b ≠ 0) : ∀ i, pwK b i ≠ 0
  | 0 => Fl.one_ne
  | i + 1 => mul_ne hb (pwK_ne hb i)
theorem pwK_inv {b : K} (hb : b ≠ 0) : ∀ i, pwK b i * pwK b⁻¹ i = 1
  | 0 => Fl.mul_one _
  | i + 1 => by
    show b * pwK b i * (b⁻¹ * pwK b⁻¹ i) = 1
    rw [show b * pwK b i * (b⁻¹ * pwK b⁻¹ i) = (b * b⁻¹) * (pwK b i * pwK b⁻¹ i) by ac_rfl, Fl.mul_inv b hb, pwK_inv hb i, Fl.mul_one]
/-- each coefficient times the power that its place says. -/
def tw (b : K) (p : Ser K) : Ser K := fun i => p i * pwK b i
theorem tw_inv {b : K} (hb : b ≠ 0) (p : Ser K) : tw b⁻¹ (tw b p) = p := funext fun i => by
  show p i * pwK b i * pwK b⁻¹ i = p i
  rw [Fl.mul_assoc, pwK_inv hb, Fl.mul_one]
theorem tw_inv' {b : K} (hb : b ≠ 0) (p : Ser K) : tw b (tw b⁻¹ p) = p := funext fun i => by
  show p i * pwK b⁻¹ i * pwK b i = p i
  rw [Fl.mul_assoc, Fl.mul_comm (pwK b⁻¹ i), pwK_inv hb, Fl.mul_one]
theorem tw_cv (b : K) (q : Ser K) : ∀ (n : Nat) (p : Ser K), cv (tw b p) (tw b q) n = cv p q n * pwK b n := by
  intro n
  induction n with
  | zero =>
    intro p
    show p 0 * 1 * (q 0 * 1) = p 0 * q 0 * 1
    rw [Fl.mul_one, Fl.mul_one, Fl.mul_one]
  | succ n ih =>
    intro p
    have e : tl (tw b p) = psm b (tw b (tl p)) := funext fun i => by
      show p (i + 1) * (b * pwK b i) = b * (p (i + 1) * pwK b i)
      ac_rfl
    show p 0 * 1 * (q (n + 1) * (b * pwK b n)) + cv (tl (tw b p)) (tw b q) n = (p 0 * q (n + 1) + cv (tl p) q n) * (b * pwK b n)
    rw [e, cv_sm_left, ih, add_mul, Fl.mul_one]
    congr 1
    · ac_rfl
    · ac_rfl
theorem tw_bd {b : K} {p : Ser K} {n : Nat} (h : Bd p n) : Bd (tw b p) n := fun i hi => by show p i * _ = 0; rw [h i hi, zero_mul]
theorem gn_tw {c S : Ser K} {L n : Nat} (b : K) (h : Gn c L n S) : Gn (tw b c) L n (tw b S) := fun i h1 h2 => by rw [tw_cv, h i h1 h2, zero_mul]
theorem tw_one {b : K} {p : Ser K} (h : p 0 = 1) : tw b p 0 = 1 := by show p 0 * 1 = 1; rw [h, Fl.mul_one]
theorem bm_tw_len {S : Ser K} {b : K} (hb : b ≠ 0) (n : Nat) : (bm (tw b S) n).L = (bm S n).L := by
  apply Nat.le_antisymm
  · exact (bm_inv _ n).min _ _ (tw_bd (b := b) (bm_inv S n).bd) (by rw [tw_one (bm_inv S n).one]; exact Fl.one_ne) (gn_tw b (bm_inv S n).gn)
  · refine (bm_inv _ n).min _ _ (tw_bd (b := b⁻¹) (bm_inv (tw b S) n).bd) (by rw [tw_one (bm_inv (tw b S) n).one]; exact Fl.one_ne) ?_
    have := gn_tw b⁻¹ (bm_inv (tw b S) n).gn
    rwa [tw_inv hb] at this
theorem bm_tw {S : Ser K} {b : K} (hb : b ≠ 0) {n : Nat} (hn : 2 * (bm S n).L ≤ n) : (bm (tw b S) n).c = tw b (bm S n).c := by
  have e : tw b⁻¹ (bm (tw b S) n).c = (bm S n).c := by
    refine bm_only ?_ (tw_one (bm_inv (tw b S) n).one) ?_ hn
    · rw [← bm_tw_len hb]; exact tw_bd (bm_inv _ n).bd
    · have := gn_tw b⁻¹ (bm_inv (tw b S) n).gn
      rwa [tw_inv hb, bm_tw_len hb] at this
  rw [← e, tw_inv' hb]
/-! ### where each second value is the square of the one at its half -/
def evp (p : Ser K) : Ser K := fun i => if i % 2 = 0 then p i else 0
theorem sq_even : ∀ (i : Nat) (p : Ser K), cv p p (2 * i) = p i * p i
  | 0, _ => rfl
  | i + 1, p => by
    show p 0 * p (2 * i + 1 + 1) + cv (tl p) p (2 * i + 1) = _
    rw [cv_right, sq_even i (tl p)]
    show p 0 * p (2 * i + 1 + 1) + (p (i + 1) * p (i + 1) + p (2 * i + 1 + 1) * p 0) = _
    rw [Fl.add_comm (p (i + 1) * p (i + 1)), ← Fl.add_assoc, Fl.mul_comm (p 0), Fl.add_self, zero_add]
theorem sq_odd : ∀ (i : Nat) (p : Ser K), cv p p (2 * i + 1) = 0
  | 0, p => by
    show p 0 * p 1 + p 1 * p 0 = 0
    rw [Fl.mul_comm, Fl.add_self]
  | i + 1, p => by
    show p 0 * p (2 * i + 1 + 1 + 1) + cv (tl p) p (2 * i + 1 + 1) = _
    rw [cv_right, sq_odd i (tl p)]
    show p 0 * p (2 * i + 1 + 1 + 1) + (0 + p (2 * i + 1 + 1 + 1) * p 0) = 0
    rw [zero_add, Fl.mul_comm (p 0), Fl.add_self]
/-- 1, and the values behind it. -/
def lead (X : Ser K) : Ser K := fun i => if i = 0 then 1 else X (i - 1)
theorem lead_sq {X : Ser K} (h : ∀ i, X (2 * i + 1) = X i * X i) : cv (lead X) (lead X) = evp (lead X) := funext fun i => by
  unfold evp
  rcases (by omega : i = 2 * (i / 2) ∨ i = 2 * (i / 2) + 1) with e | e
  · rw [if_pos (by omega), e, sq_even]
    generalize i / 2 = j
    unfold lead
    rcases j with _ | j
    · exact Fl.mul_one _
    · rw [if_neg (by omega), if_neg (by omega), show 2 * (j + 1) - 1 = 2 * j + 1 by omega, h, show j + 1 - 1 = j by omega]
  · rw [if_neg (by omega), e, sq_odd]
theorem lead_cv (c X : Ser K) (n : Nat) : cv c (lead X) (n + 1) = cv c X n + c (n + 1) := by
  have e : tl (lead X) = X := funext fun i => by show (if i + 1 = 0 then (1 : K) else X (i + 1 - 1)) = X i; rw [if_neg (by omega)]; rfl
  rw [cv_right, e]
  show _ + c (n + 1) * 1 = _
  rw [Fl.mul_one]
/-- Newton's identities as far as n. -/
def Nw (X c : Ser K) (n : Nat) : Prop := ∀ i, i ≤ n → cv c (lead X) i = evp c i
theorem evp_cv (p q : Ser K) (i : Nat) : cv (evp p) q (2 * i) = cv p (evp q) (2 * i) := by
  have e : ∀ (f : Ser K), f = padd (evp f) (fun j => if j % 2 = 0 then 0 else f j) := fun f => funext fun j => by
    show f j = (if j % 2 = 0 then f j else 0) + (if j % 2 = 0 then 0 else f j)
    split
    · rw [Fl.add_zero]
    · rw [zero_add]
  have h1 : cv (evp p) q (2 * i) = cv (evp p) (evp q) (2 * i) := by
    conv => lhs; rw [e q, cv_padd]
    show cv (evp p) (evp q) (2 * i) + _ = _
    rw [cv_none (fun j => if j % 2 = 0 then 0 else q j) (2 * i) (evp p) fun j hj => ?_, Fl.add_zero]
    by_cases hj2 : j % 2 = 0
    · exact .inr (if_pos (by omega))
    · exact .inl (if_neg hj2)
  have h2 : cv p (evp q) (2 * i) = cv (evp p) (evp q) (2 * i) := by
    conv => lhs; rw [e p, cv_add]
    show cv (evp p) (evp q) (2 * i) + _ = _
    rw [cv_none (evp q) (2 * i) (fun j => if j % 2 = 0 then 0 else p j) fun j hj => ?_, Fl.add_zero]
    by_cases hj2 : j % 2 = 0
    · exact .inl (if_pos hj2)
    · exact .inr (if_neg (by omega))
  rw [h1, h2]
/-- an even place's identity follows from those ahead of it. -/
theorem nw_even {X c : Ser K} {n : Nat} (hs : ∀ i, X (2 * i + 1) = X i * X i) (h : Nw X c n) (j : Nat) (hn : n + 1 = 2 * j) : cv c (lead X) (n + 1) = evp c (n + 1) := by
  obtain ⟨E, hE⟩ : ∃ E, E = padd (cv c (lead X)) (evp c) := ⟨_, rfl⟩
  have hz : ∀ i, i ≤ n → E i = 0 := fun i hi => by rw [hE]; show cv c (lead X) i + evp c i = 0; rw [h i hi, Fl.add_self]
  have h1 : cv (lead X) E (n + 1) = E (n + 1) := by
    rw [cv_first (lead X) E (n + 1) fun i a b => .inr (hz _ (by omega))]
    exact one_mul _
  have h2 : cv E (lead X) (n + 1) = 0 := by
    rw [hE, cv_add_left, cv_assoc, lead_sq hs, hn, evp_cv, Fl.add_self]
  rw [cv_comm, h1, hE] at h2
  exact add_cancel h2
theorem nw_zero (X : Ser K) (c : Ser K) (h : c 0 = 1) : Nw X c 0 := fun i hi => by
  obtain rfl : i = 0 := by omega
  show c 0 * 1 = c 0
  rw [Fl.mul_one]
/-- what holds behind an even number of values. -/
structure SqInv (X : Ser K) (n : Nat) (s : St K) : Prop where
  nw : Nw X s.c n
  old : (s.L = 0 ∧ s.k = n + 1 ∧ s.c = pone ∧ s.b = pone ∧ s.d = 1) ∨ (1 ≤ s.L ∧ s.k ≤ n ∧ s.k % 2 = 0 ∧ Nw X s.b (n - s.k))
theorem evp_up (k : Nat) (hk : k % 2 = 0) (b : Ser K) (i : Nat) : evp (up k b) i = if i < k then 0 else evp b (i - k) := by
  show (if i % 2 = 0 then up k b i else 0) = _
  rw [up_at]
  by_cases h : i < k
  · rw [if_pos h, if_pos h]; split <;> rfl
  · rw [if_neg h, if_neg h]
    show _ = if (i - k) % 2 = 0 then b (i - k) else 0
    by_cases h2 : i % 2 = 0
    · rw [if_pos h2, if_pos (by omega)]
    · rw [if_neg h2, if_neg (by omega)]
theorem evp_fix (s : St K) (a : K) (i : Nat) : evp (fix s a) i = evp s.c i + a * s.d⁻¹ * evp (up s.k s.b) i := by
  show (if i % 2 = 0 then s.c i + a * s.d⁻¹ * up s.k s.b i else 0) = (if i % 2 = 0 then s.c i else 0) + a * s.d⁻¹ * (if i % 2 = 0 then up s.k s.b i else 0)
  split
  · rfl
  · rw [mul_zero, Fl.add_zero]
theorem nw_odd {X : Ser K} {n : Nat} {s : St K} (h : Inv X n s) (q : SqInv X n s) (hn : n % 2 = 0) : Nw X (step X n s).c (n + 1) := by
  have hle := h.le
  by_cases ha : cv s.c X n = 0
  · rw [step_zero ha]
    intro i hi
    by_cases e : i = n + 1
    · subst e
      rw [lead_cv, ha, zero_add, h.bd _ (by omega)]
      exact (if_neg (by omega)).symm
    · exact q.nw i (by omega)
  · have e : (step X n s).c = fix s (cv s.c X n) := by
      by_cases h2 : n < 2 * s.L
      · rw [step_same ha h2]
      · rw [step_grow ha h2]
    rw [e]
    obtain ⟨a, haa⟩ : ∃ a, a = cv s.c X n := ⟨_, rfl⟩
    rw [← haa]
    intro i hi
    rw [evp_fix, fix_cv]
    rcases q.old with ⟨hL, hk, hc, hb, hd⟩ | ⟨hL, hk, hk2, hnb⟩
    · by_cases e : i = n + 1
      · subst e
        rw [lead_cv, if_neg (by omega), hd, hk, hb, Nat.sub_self, ← haa, h.bd _ (by omega), Fl.add_zero]
        rw [show cv (pone : Ser K) (lead X) 0 = 1 from Fl.mul_one _, inv_mul a 1 Fl.one_ne, Fl.add_self]
        unfold evp
        rw [if_neg (by omega), if_neg (by omega), mul_zero, Fl.add_zero]
      · rw [if_pos (by omega), mul_zero, Fl.add_zero, q.nw i (by omega)]
        unfold evp
        rw [up_at, if_pos (show i < s.k by omega)]
        split <;> rw [mul_zero, Fl.add_zero]
    · obtain ⟨B, hb, he, hz, hd⟩ := h.old
      have hd : cv s.b X (n - s.k) = s.d := by
        rcases hd with ⟨h0, _⟩ | ⟨_, h0⟩
        · omega
        · exact h0
      rw [evp_up _ hk2]
      by_cases e : i = n + 1
      · subst e
        rw [if_neg (by omega), if_neg (by omega), lead_cv, h.bd _ (by omega), Fl.add_zero, ← haa, show n + 1 - s.k = n - s.k + 1 by omega, lead_cv, hd, hb _ (by omega), Fl.add_zero, inv_mul a s.d h.d0, Fl.add_self]
        unfold evp
        rw [if_neg (by omega), if_neg (by omega), mul_zero, Fl.add_zero]
      · rw [q.nw i (by omega)]
        by_cases h3 : i < s.k
        · rw [if_pos h3, if_pos h3]
        · rw [if_neg h3, if_neg h3, hnb _ (by omega)]
theorem sq_gap {X c : Ser K} (hs : ∀ i, X (2 * i + 1) = X i * X i) {t : Nat} (h : Nw X c (2 * t + 1)) : cv c X (2 * t + 1) = 0 := by
  have e := nw_even hs h (t + 1) (by omega)
  rw [lead_cv] at e
  have e2 : evp c (2 * t + 1 + 1) = c (2 * t + 1 + 1) := if_pos (by omega)
  rw [e2] at e
  have e3 : cv c X (2 * t + 1) + c (2 * t + 1 + 1) + c (2 * t + 1 + 1) = 0 := by rw [e, Fl.add_self]
  rwa [Fl.add_assoc, Fl.add_self, Fl.add_zero] at e3
theorem sq_inv {X : Ser K} (hs : ∀ i, X (2 * i + 1) = X i * X i) : ∀ t, SqInv X (2 * t) (bm X (2 * t)) ∧ cv (bm X (2 * t + 1)).c X (2 * t + 1) = 0
  | 0 => by
    have q : SqInv X 0 st0 := ⟨nw_zero X _ rfl, .inl ⟨rfl, rfl, rfl, rfl, rfl⟩⟩
    exact ⟨q, sq_gap hs (nw_odd (inv_zero X) q rfl)⟩
  | t + 1 => by
    have ⟨q, hz⟩ := sq_inv hs t
    have h := bm_inv X (2 * t)
    have h1 := bm_inv X (2 * t + 1)
    have n1 : Nw X (bm X (2 * t + 1)).c (2 * t + 1) := nw_odd h q (by omega)
    have q2 : SqInv X (2 * (t + 1)) (bm X (2 * (t + 1))) := by
      have e2 : bm X (2 * (t + 1)) = { bm X (2 * t + 1) with k := (bm X (2 * t + 1)).k + 1 } := step_zero hz
      rw [e2]
      refine ⟨fun i hi => ?_, ?_⟩
      · by_cases e : i = 2 * t + 1 + 1
        · subst e; exact nw_even hs n1 (t + 1) (by omega)
        · exact n1 i (by omega)
      · show ((bm X (2 * t + 1)).L = 0 ∧ (bm X (2 * t + 1)).k + 1 = _ ∧ (bm X (2 * t + 1)).c = pone ∧ (bm X (2 * t + 1)).b = pone ∧ (bm X (2 * t + 1)).d = 1) ∨ (1 ≤ (bm X (2 * t + 1)).L ∧ (bm X (2 * t + 1)).k + 1 ≤ _ ∧ ((bm X (2 * t + 1)).k + 1) % 2 = 0 ∧ Nw X (bm X (2 * t + 1)).b _)
        have e1 : bm X (2 * t + 1) = step X (2 * t) (bm X (2 * t)) := rfl
        rw [e1]
        generalize bm X (2 * t) = s at h q ⊢
        have hle := h.le
        by_cases ha : cv s.c X (2 * t) = 0
        · rw [step_zero ha]
          rcases q.old with ⟨a1, a2, a3, a4, a5⟩ | ⟨a1, a2, a3, a4⟩
          · exact .inl ⟨a1, by show s.k + 1 + 1 = _; omega, a3, a4, a5⟩
          · exact .inr ⟨a1, by show s.k + 1 + 1 ≤ _; omega, by show (s.k + 1 + 1) % 2 = 0; omega, by show Nw X s.b (2 * (t + 1) - (s.k + 1 + 1)); rw [show 2 * (t + 1) - (s.k + 1 + 1) = 2 * t - s.k by omega]; exact a4⟩
        · by_cases h2 : 2 * t < 2 * s.L
          · rw [step_same ha h2]
            rcases q.old with ⟨a1, a2, a3, a4, a5⟩ | ⟨a1, a2, a3, a4⟩
            · omega
            · exact .inr ⟨a1, by show s.k + 1 + 1 ≤ _; omega, by show (s.k + 1 + 1) % 2 = 0; omega, by show Nw X s.b (2 * (t + 1) - (s.k + 1 + 1)); rw [show 2 * (t + 1) - (s.k + 1 + 1) = 2 * t - s.k by omega]; exact a4⟩
          · rw [step_grow ha h2]
            exact .inr ⟨by show 1 ≤ 2 * t + 1 - s.L; omega, by show 1 + 1 ≤ _; omega, by show (1 + 1) % 2 = 0; rfl, by show Nw X s.c (2 * (t + 1) - 2); rw [show 2 * (t + 1) - 2 = 2 * t by omega]; exact q.nw⟩
    exact ⟨q2, sq_gap hs (nw_odd (bm_inv X (2 * (t + 1))) q2 (by omega))⟩
end
end Go.Proofs.YthmfneepnkgmgaaGreatDoor.Loc
/- Values of unlike places: the polynomial of these places makes them, and nothing shorter does. No program is named here. By the verifier of shale. -/
namespace Go.Proofs.YthmfneepnkgmgaaGreatDoor.Loc
open Pl
set_option linter.unusedVariables false
theorem snocRec {A : Type} {P : List A → Prop} (h0 : P []) (h1 : ∀ l a, P l → P (l ++ [a])) (l : List A) : P l := by
  have : ∀ r : List A, P r.reverse := fun r => by
    induction r with
    | nil => exact h0
    | cons a r ih => rw [List.reverse_cons]; exact h1 _ _ ih
  have h := this l.reverse
  rwa [List.reverse_reverse] at h
section
variable {K : Type} [Fl K]
/-- 1 + a x. -/
def two (a : K) : Ser K := fun i => if i = 0 then 1 else if i = 1 then a else 0
theorem two_bd (a : K) : Bd (two a) 2 := fun i hi => by show (if i = 0 then 1 else if i = 1 then a else 0) = 0; rw [if_neg (by omega), if_neg (by omega)]
theorem two_dg {a : K} (h : a ≠ 0) : Dg (two a) 1 := ⟨h, two_bd a⟩
theorem two_cv (a : K) (q : Ser K) (n : Nat) : cv (two a) q (n + 1) = q (n + 1) + a * q n := by
  show (1 : K) * q (n + 1) + cv (tl (two a)) q n = _
  rw [one_mul]
  congr 1
  have e : tl (two a) = mono 0 a := funext fun i => by
    show (if i + 1 = 0 then 1 else if i + 1 = 1 then a else 0) = if i = 0 then a else 0
    rw [if_neg (by omega)]
    by_cases h : i = 0
    · rw [if_pos (by omega), if_pos h]
    · rw [if_neg (by omega), if_neg h]
  rw [e, cv_mono, if_neg (by omega)]; rfl
theorem two_ev (a x : K) : ev 2 (two a) x = 1 + x * a := by
  show 1 + x * (a + x * 0) = _
  rw [mul_zero, Fl.add_zero]
/-- the product of 1 + a x over the list. -/
def lam (l : List K) : Ser K := l.foldl (fun g a => cv g (two a)) pone
theorem lam_snoc (l : List K) (a : K) : lam (l ++ [a]) = cv (lam l) (two a) := by unfold lam; rw [List.foldl_append]; rfl
theorem lam_dg (l : List K) : (∀ a ∈ l, a ≠ 0) → Dg (lam l) l.length ∧ lam l 0 = 1 := by
  refine snocRec (P := fun l => (∀ a ∈ l, a ≠ 0) → Dg (lam l) l.length ∧ lam l 0 = 1) (fun _ => ⟨⟨Fl.one_ne, bd_one⟩, rfl⟩) (fun l a ih h => ?_) l
  obtain ⟨h1, h2⟩ := ih fun b hb => h b (List.mem_append_left _ hb)
  rw [lam_snoc, List.length_append]
  refine ⟨h1.mul (two_dg (h a (List.mem_append_right _ (List.mem_singleton.2 rfl)))), ?_⟩
  show lam l 0 * 1 = 1
  rw [h2, Fl.mul_one]
/-- the values: sums of powers. -/
def pows (l : List K) : Ser K := fun i => l.foldl (fun v a => v + pwK a (i + 1)) 0
theorem pows_snoc (l : List K) (a : K) : pows (l ++ [a]) = padd (pows l) (fun i => pwK a (i + 1)) := funext fun i => by unfold pows; rw [List.foldl_append]; rfl
theorem two_geo (a : K) : cv (two a) (fun i => pwK a (i + 1)) = mono 0 a := funext fun n => by
  cases n with
  | zero => show (1 : K) * (a * 1) = a; rw [one_mul, Fl.mul_one]
  | succ n =>
    rw [two_cv]
    show a * pwK a (n + 1) + a * pwK a (n + 1) = _
    rw [Fl.add_self]; rfl
/-- the product's values' product, as one step. -/
theorem om_snoc (l : List K) (a : K) : cv (lam (l ++ [a])) (pows (l ++ [a])) = padd (cv (two a) (cv (lam l) (pows l))) (psm a (lam l)) := by
  rw [lam_snoc, pows_snoc, cv_padd, cv_assoc, cv_assoc, two_geo]
  congr 1
  · rw [← cv_assoc, cv_comm (lam l), cv_assoc]
  · rw [cv_comm]
    funext n
    rw [cv_mono, if_neg (by omega)]; rfl
theorem om_bd (l : List K) : (∀ a ∈ l, a ≠ 0) → Bd (cv (lam l) (pows l)) l.length := by
  refine snocRec (P := fun l => (∀ a ∈ l, a ≠ 0) → Bd (cv (lam l) (pows l)) l.length) (fun _ => ?_) (fun l a ih h => ?_) l
  · intro i _
    have e : pows ([] : List K) = pz := rfl
    rw [e, zero_cv]; rfl
  · have h' : ∀ b ∈ l, b ≠ 0 := fun b hb => h b (List.mem_append_left _ hb)
    rw [om_snoc, List.length_append]
    have h2 := (lam_dg l h').1.2
    refine Bd.add ?_ (h2.sm a)
    have := bd_cv (two_bd a) (ih h')
    exact this.mono (by simp; omega)
theorem lam_gn (l : List K) (h : ∀ a ∈ l, a ≠ 0) (n : Nat) : Gn (lam l) l.length n (pows l) := fun i h1 _ => om_bd l h i h1
theorem lam_root {l : List K} (h : ∀ a ∈ l, a ≠ 0) {b : K} (hb : b ≠ 0) : ev (l.length + 1) (lam l) b⁻¹ = 0 ↔ b ∈ l := by
  revert h
  refine snocRec (P := fun l => (∀ a ∈ l, a ≠ 0) → (ev (l.length + 1) (lam l) b⁻¹ = 0 ↔ b ∈ l)) (fun _ => ?_) (fun l a ih h => ?_) l
  · refine ⟨fun e => ?_, fun e => by cases e⟩
    have e : (1 : K) + b⁻¹ * 0 = 0 := e
    rw [mul_zero, Fl.add_zero] at e
    exact absurd e Fl.one_ne
  · have h' : ∀ c ∈ l, c ≠ 0 := fun c hc => h c (List.mem_append_left _ hc)
    have ih := ih h'
    have hd := (lam_dg l h').1.2
    have hbd : Bd (cv (lam l) (two a)) (l.length + 1 + 1) := by
      have := bd_cv hd (two_bd a)
      exact this.mono (by omega)
    have e1 : ev ((l ++ [a]).length + 1) (lam (l ++ [a])) b⁻¹ = ev (l.length + 1) (lam l) b⁻¹ * (1 + b⁻¹ * a) := by
      rw [lam_snoc, ← two_ev, ← ev_cv b⁻¹ (l.length + 1) 2 (l.length + 1 + 2) _ _ hd (two_bd a) (Nat.le_refl _)]
      rw [List.length_append]
      exact (ev_more b⁻¹ _ _ _ hbd (by simp)).symm
    rw [e1, List.mem_append, List.mem_singleton]
    constructor
    · intro e
      rcases mul_eq_zero e with e | e
      · exact .inl (ih.1 e)
      · right
        have e2 := add_cancel e
        have e3 : b * (b⁻¹ * a) = b * 1 := by rw [← e2]
        rw [← Fl.mul_assoc, Fl.mul_inv b hb, one_mul, Fl.mul_one] at e3
        exact e3.symm
    · rintro (e | e)
      · rw [ih.2 e, zero_mul]
      · subst e
        rw [Fl.mul_comm b⁻¹, Fl.mul_inv b hb, Fl.add_self, mul_zero]
theorem om_ne {l : List K} (h : ∀ a ∈ l, a ≠ 0) (hn : l.Nodup) {b : K} (hb : b ∈ l) : ev l.length (cv (lam l) (pows l)) b⁻¹ ≠ 0 := by
  revert h hn hb
  refine snocRec (P := fun l => (∀ a ∈ l, a ≠ 0) → l.Nodup → b ∈ l → ev l.length (cv (lam l) (pows l)) b⁻¹ ≠ 0) (fun _ _ h => by cases h) (fun l a ih h hn hb => ?_) l
  have h' : ∀ c ∈ l, c ≠ 0 := fun c hc => h c (List.mem_append_left _ hc)
  have ha : a ≠ 0 := h a (List.mem_append_right _ (List.mem_singleton.2 rfl))
  have hb0 : b ≠ 0 := h b hb
  have hn' := List.nodup_append.1 hn
  have hal : a ∉ l := fun e => hn'.2.2 a e a (List.mem_singleton.2 rfl) rfl
  have hd := (lam_dg l h').1.2
  have ho := om_bd l h'
  have hsum : ev (l ++ [a]).length (cv (lam (l ++ [a])) (pows (l ++ [a]))) b⁻¹ = (1 + b⁻¹ * a) * ev l.length (cv (lam l) (pows l)) b⁻¹ + a * ev (l.length + 1) (lam l) b⁻¹ := by
    rw [om_snoc, ev_add, ev_sm, List.length_append]
    congr 1
    rw [← two_ev, ← ev_cv b⁻¹ 2 l.length (2 + l.length) _ _ (two_bd a) ho (Nat.le_refl _)]
    have hbd : Bd (cv (two a) (cv (lam l) (pows l))) (l.length + 1) := by
      have := bd_cv (two_bd a) ho
      exact this.mono (by omega)
    exact (ev_more b⁻¹ _ _ _ hbd (by omega)).symm
  rw [hsum]
  rcases List.mem_append.1 hb with hb | hb
  · rw [(lam_root h' hb0).2 hb, mul_zero, Fl.add_zero]
    refine mul_ne (fun e => ?_) (ih h' hn'.1 hb)
    have e2 := add_cancel e
    have e3 : b * (b⁻¹ * a) = b * 1 := by rw [← e2]
    rw [← Fl.mul_assoc, Fl.mul_inv b hb0, one_mul, Fl.mul_one] at e3
    exact hal (e3 ▸ hb)
  · obtain rfl := List.mem_singleton.1 hb
    rw [Fl.mul_comm b⁻¹, Fl.mul_inv b hb0, Fl.add_self, zero_mul, zero_add]
    exact mul_ne hb0 fun e => hal ((lam_root h' hb0).1 e)
/-- nothing shorter makes twice as many values. -/
theorem places_min {l : List K} (h : ∀ a ∈ l, a ≠ 0) (hn : l.Nodup) {N : Nat} (hN : 2 * l.length ≤ N) (c : Ser K) (L : Nat) (hc : Bd c (L + 1)) (h0 : c 0 ≠ 0) (hg : Gn c L N (pows l)) : l.length ≤ L := by
  refine Classical.byContradiction fun hlt => ?_
  have hd := (lam_dg l h).1.2
  have ho := om_bd l h
  obtain ⟨P, hP⟩ : ∃ P : Ser K, P = fun i => if i < L then cv c (pows l) i else 0 := ⟨_, rfl⟩
  have hPb : Bd P L := fun i hi => by rw [hP]; exact if_neg (by omega)
  have e : cv c (cv (lam l) (pows l)) = cv (lam l) P := funext fun i => by
    by_cases hi : i < N
    · rw [← cv_assoc, cv_comm c, cv_assoc]
      refine cv_ext (fun _ _ => rfl) fun j hj => ?_
      rw [hP]
      show _ = if j < L then _ else 0
      split
      · rfl
      · exact hg j (by omega) (by omega)
    · rw [bd_cv hc ho i (by omega), bd_cv hd hPb i (by omega)]
  have hroot : ∀ b, b ∈ l → ev (L + 1) c b⁻¹ = 0 := fun b hb => by
    have h1 := ev_cv b⁻¹ (L + 1) l.length (L + 1 + l.length) _ _ hc ho (Nat.le_refl _)
    have h2 := ev_cv b⁻¹ (l.length + 1) L (L + 1 + l.length) _ _ hd hPb (by omega)
    rw [e, h2, (lam_root h (h b hb)).2 hb, zero_mul] at h1
    exact (mul_eq_zero h1.symm).resolve_right (om_ne h hn hb)
  rcases dg_or hc with h1 | ⟨d, hdL, hdg⟩
  · exact h0 (by rw [h1]; rfl)
  · have hnd : (l.map fun b => b⁻¹).Nodup := by
      rw [List.Nodup, List.pairwise_map]
      refine List.Pairwise.imp_of_mem (fun {a b} ha hb hab e => hab ?_) hn
      have e2 : a * b⁻¹ = 1 := by rw [← e]; exact Fl.mul_inv a (h a ha)
      have e3 : a * b⁻¹ * b = 1 * b := by rw [e2]
      rw [inv_mul a b (h b hb), one_mul] at e3
      exact e3
    have := roots_le d c (l.map fun b => b⁻¹) hdg hnd fun x hx => by
      obtain ⟨b, hb, rfl⟩ := List.mem_map.1 hx
      rw [← hroot b hb]
      exact (ev_more _ _ _ _ hdg.2 (by omega)).symm
    rw [List.length_map] at this
    omega
/-- the way finds the places' polynomial. -/
theorem bm_places {l : List K} (h : ∀ a ∈ l, a ≠ 0) (hn : l.Nodup) {N : Nat} (hN : 2 * l.length ≤ N) : (bm (pows l) N).L = l.length ∧ (bm (pows l) N).c = lam l := by
  have hi := bm_inv (pows l) N
  have h1 := lam_dg l h
  have hL : (bm (pows l) N).L = l.length := Nat.le_antisymm (hi.min _ _ h1.1.2 (by rw [h1.2]; exact Fl.one_ne) (lam_gn l h N)) (places_min h hn hN _ _ hi.bd (by rw [hi.one]; exact Fl.one_ne) hi.gn)
  exact ⟨hL, (bm_only (by rw [hL]; exact h1.1.2) h1.2 (by rw [hL]; exact lam_gn l h N) (by omega)).symm⟩
end
end Go.Proofs.YthmfneepnkgmgaaGreatDoor.Loc
/- The statements' own polynomials (shaleref2): DivMod. By the verifier of shale. -/
namespace Go.Proofs.YthmfneepnkgmgaaGreatDoor.Pl
open Go Go.RowKit Fld Bits16
set_option linter.unusedVariables false
theorem Blk64.own {w : World} {g base n : Nat} {l : List Int} (h : Blk64 w g l) (hb : base ≤ g) (hn : n = l.length) (hm : n ≤ maxLen) : Own64 w base (.slice (some ⟨g, 0, none⟩) n n) n l := by
  refine ⟨by rw [cells64_length]; omega, Or.inr ⟨g, n, (cells64 l).toArray, rfl, hb, h, Nat.le_refl _, hm, by simp [cells64_length, hn], ?_⟩⟩
  rw [List.toList_toArray, List.take_of_length_le (by rw [cells64_length]; omega)]
theorem RowZ.news {w : World} {bb off n cap : Nat} {l : List Int} (h : RowZ w (some ⟨bb, off, none⟩) n cap l) : ∀ j u, (cells64 l)[j]? = some u → w.cell? ((⟨bb, off, none⟩ : Addr).add j) = some u := by
  intro j u hu
  have hj : j < l.length := by
    have := (List.getElem?_eq_some_iff.1 hu).1
    rwa [cells64_length] at this
  obtain ⟨b2, o2, e, hc, _⟩ := h.row j (by rw [h.hlen]; exact hj)
  simp only [Option.some.injEq, Addr.mk.injEq] at e
  obtain ⟨rfl, rfl, _⟩ := e
  rw [add_row, hc, ← hu]
  unfold cells64
  simp [hj]
theorem cells64_one (l : List Int) : ∀ u ∈ cells64 l, u.oneCell' = true := by
  intro u hu
  unfold cells64 at hu
  obtain ⟨z, _, rfl⟩ := List.mem_map.1 hu
  rfl
section
variable {m : Nat} [M : Mid m]
theorem rinv_zz (a : El m) (h0 : a ≠ 0) (w : World) : Calls Tryz.prog 71 #[.int .i64 (m : Int), .int .i64 (zn a)] w fun e w' => e = .returned (.int .i64 (zn a⁻¹)) ∧ Below w.heap.size w w' := by
  have hne : el m (zn a) ≠ 0 := fun e => h0 (by
    have := congrArg Subtype.val (elm_zn a)
    exact El.ext (this.symm.trans e))
  have := rinv_any m M.lo M.hi (zn a) hne w
  rwa [inv_zz _ h0] at this
theorem sr_shift (s : Nat) (l : List Int) : sr m (List.replicate s 0 ++ l) = cv (mono s 1) (sr m l) := by
  funext i
  rw [cv_mono]
  show elm m ((List.replicate s 0 ++ l).getD i 0) = _
  rw [List.getD_eq_getElem?_getD]
  by_cases h : i < s
  · rw [if_pos h, List.getElem?_append_left (by simpa using h)]
    simp [h]; exact elm_zero
  · rw [if_neg h, List.getElem?_append_right (by simp; omega), one_mul]
    simp only [List.length_replicate]
    rw [← List.getD_eq_getElem?_getD]; rfl
theorem sr_single (c : El m) : sr m [zn c] = mono 0 c := by
  funext i
  show elm m ([zn c].getD i 0) = if i = 0 then c else 0
  cases i with
  | zero => rw [if_pos rfl]; exact elm_zn c
  | succ i => rw [if_neg (by omega)]; exact elm_zero
theorem mono_mul (s : Nat) (c : El m) : cv (mono s 1) (mono 0 c) = mono s c := by
  funext i
  rw [cv_mono]
  show (if i < s then 0 else 1 * (if i - s = 0 then c else 0)) = if i = s then c else 0
  by_cases h : i < s
  · rw [if_pos h, if_neg (by omega)]
  · rw [if_neg h, one_mul]
    by_cases h2 : i = s
    · rw [if_pos (by omega), if_pos h2]
    · rw [if_neg (by omega), if_neg h2]
theorem row_single (w : World) (c : Int) : RowZ (w.alloc (.cells #[.int .i64 c] 3 (0, 0))) (some ⟨w.heap.size, 0, none⟩) 1 1 [c] :=
  ⟨rfl, Nat.le_refl _, by decide, fun i hi => ⟨w.heap.size, 0, rfl, by
    obtain rfl : i = 0 := by omega
    have := cell_one_new w (.int .i64 c) 3 0 (.int .i64 c) rfl
    rwa [add_row] at this, lt_of_block (heap_alloc_new w _)⟩⟩
/-- where the reference's division stands. -/
structure RDivs (P Q A L : Ser (El m)) (e k N : Nat) : Prop where
  sum : P = padd (cv A Q) L
  low : Bd L k
  bd : Bd A (N + 1)
  free : ∀ j, j + e < k → A j = 0
theorem RDivs.next {P Q A L : Ser (El m)} {e k N s : Nat} (h : RDivs P Q A L e (k + 1) N) (hQ : Dg Q e) (hs : k = s + e) (hk : k < N) {k' : Nat} (hk' : k' ≤ k) (hb : Bd (padd L (cv (mono s (L k * (Q e)⁻¹)) Q)) k') :
    RDivs P Q (padd A (mono s (L k * (Q e)⁻¹))) (padd L (cv (mono s (L k * (Q e)⁻¹)) Q)) e k' N := by
  refine ⟨?_, hb, h.bd.add ((mono_bd _ _).mono (by omega)), fun j hj => ?_⟩
  · rw [cv_add, padd_xx, padd_comm, h.sum]
    have : padd (cv (mono s (L k * (Q e)⁻¹)) Q) (cv (mono s (L k * (Q e)⁻¹)) Q) = pz := padd_self _
    rw [this, zero_padd]
  · show A j + mono s _ j = 0
    rw [h.free j (by omega), show mono s (L k * (Q e)⁻¹) j = 0 from if_neg (by omega), Fl.add_zero]
end
end Go.Proofs.YthmfneepnkgmgaaGreatDoor.Pl
/- The statements' own polynomials (shaleref2): Derive, Roots. By the verifier of shale. -/
namespace Go.Proofs.YthmfneepnkgmgaaGreatDoor.Pl
open Go Go.RowKit Fld Bits16
set_option linter.unusedVariables false
section
variable {m : Nat} [M : Mid m]
/-- the first n numbers of a function. -/
def fnN (f : Nat → Int) (n : Nat) : List Int := (List.range n).map f
omit M in
theorem fnN_succ (f : Nat → Int) (n : Nat) : fnN f (n + 1) = fnN f n ++ [f n] := by unfold fnN; rw [List.range_succ, List.map_append]; rfl
omit M in
theorem fnN_getD (f : Nat → Int) (n i : Nat) : (fnN f n).getD i 0 = if i < n then f i else 0 := by
  unfold fnN
  rw [List.getD_eq_getElem?_getD]
  by_cases h : i < n
  · rw [if_pos h]; simp [h]
  · rw [if_neg h, List.getElem?_eq_none (by simp; omega)]; rfl
/-- the numbers of a derivative, as they stand in a list. -/
def derN (l : List Int) (i : Nat) : Int := if (i + 1) % 2 = 1 then l.getD (i + 1) 0 else 0
theorem sr_der (l : List Int) (k : Nat) (h : l.length ≤ k + 1) : sr m (fnN (derN l) k) = der (sr m l) := by
  funext i
  show elm m ((fnN (derN l) k).getD i 0) = if i % 2 = 0 then elm m (l.getD (i + 1) 0) else 0
  rw [fnN_getD]
  unfold derN
  by_cases h2 : i % 2 = 0
  · rw [if_pos h2]
    by_cases hi : i < k
    · rw [if_pos hi, if_pos (by omega)]
    · rw [if_neg hi, List.getD_eq_getElem?_getD, List.getElem?_eq_none (by omega)]; rfl
  · rw [if_neg h2]
    by_cases hi : i < k
    · rw [if_pos hi, if_neg (by omega), elm_zero]
    · rw [if_neg hi, elm_zero]
end
end Go.Proofs.YthmfneepnkgmgaaGreatDoor.Pl
/- The statements' own polynomials (shaleref2): Roots. By the verifier of shale. -/
namespace Go.Proofs.YthmfneepnkgmgaaGreatDoor.Pl
open Go Go.RowKit Fld Bits16
set_option linter.unusedVariables false
section
variable {m : Nat} [M : Mid m]
open Classical in
/-- the roots of a list of numbers, rising; none of 0. -/
noncomputable def rootsL (m : Nat) [M : Mid m] (l : List Int) : List Int := if top (sr m l) l.length = 0 then [] else intsN (rts (top (sr m l) l.length) (sr m l) (2 ^ m))
theorem rts_mono (n : Nat) (P : Ser (El m)) (j : Nat) : (rts n P j).length ≤ j := by
  induction j with
  | zero => exact Nat.le_refl _
  | succ j ih => rw [rts, List.length_append]; split <;> simp <;> omega
end
end Go.Proofs.YthmfneepnkgmgaaGreatDoor.Pl
/- The reference's greatest common divisor over a field. By the verifier of shale. -/
namespace Go.Proofs.YthmfneepnkgmgaaGreatDoor.Pl
open Go Go.RowKit Fld Bits16
set_option linter.unusedVariables false
section
variable {m : Nat} [M : Mid m]
theorem rout_le {w0 w : World} {a : Option Addr} {n c e : Nat} {p : Ser (El m)} (h : ROut m w0 w a n c p) (hb : Bd p e) : n ≤ e := by
  rw [← h.top, top_same h.bd hb]; exact top_le p e
theorem rnil (w0 w : World) : ROut m w0 w none 0 0 (pz : Ser (El m)) := ⟨⟨rfl, Nat.le_refl _, by decide, fun i hi => by omega⟩, bd_pz 0, rfl, fun bb off e => by cases e⟩
section
variable {w : World}
theorem rtrimV {k : Nat} {a : Option Addr} {n c : Nat} {p : Ser (El m)} (h1 : PV m w k a n c p) (hK2 : k ≤ 2048) :
    Calls Tryz.prog 74 #[.int .i64 (m : Int), .slice a n c] w fun e w' => ∃ a n c, e = .returned (.slice a n c) ∧ NV m w' k a n c p ∧ Below w.heap.size w w' := by
  have hb := h1.bd
  obtain ⟨l1, r1, rfl, n1⟩ := h1
  refine (rtrim_any (m := m) a n c l1 w r1 (by omega)).mono ?_
  rintro e w1 ⟨a3, n3, c3, rfl, hO, b⟩
  exact ⟨a3, n3, c3, rfl, routV hO hb, b⟩
theorem raddV {k k' : Nat} {a a' : Option Addr} {n c n' c' : Nat} {p q : Ser (El m)} (K : Nat) (h1 : PV m w k a n c p) (h2 : PV m w k' a' n' c' q) (hK : k ≤ K) (hK' : k' ≤ K) (hK2 : K ≤ 2048) :
    Calls Tryz.prog 73 #[.int .i64 (m : Int), .slice a n c, .slice a' n' c'] w fun e w' => ∃ a n c, e = .returned (.slice a n c) ∧ NV m w' K a n c (padd p q) ∧ Below w.heap.size w w' := by
  have hb : Bd (padd p q) K := (h1.bd.mono hK).add (h2.bd.mono hK')
  obtain ⟨l1, r1, rfl, n1⟩ := h1
  obtain ⟨l2, r2, rfl, n2⟩ := h2
  refine (radd_any (m := m) a n c l1 a' n' c' l2 w r1 r2 (by omega) (by omega)).mono ?_
  rintro e w1 ⟨a3, n3, c3, rfl, hO, b⟩
  exact ⟨a3, n3, c3, rfl, routV hO hb, b⟩
theorem rtimesV {k k' : Nat} {a a' : Option Addr} {n c n' c' : Nat} {p q : Ser (El m)} (K : Nat) (h1 : PV m w k a n c p) (h2 : PV m w k' a' n' c' q) (hK : k + k' ≤ K) (hK2 : K ≤ 2048) :
    Calls Tryz.prog 72 #[.int .i64 (m : Int), .slice a n c, .slice a' n' c'] w fun e w' => ∃ a n c, e = .returned (.slice a n c) ∧ NV m w' K a n c (cv p q) ∧ Below w.heap.size w w' := by
  have hb := cvK h1.bd h2.bd hK
  obtain ⟨l1, r1, rfl, n1⟩ := h1
  obtain ⟨l2, r2, rfl, n2⟩ := h2
  refine (rtimes_any (m := m) a n c l1 a' n' c' l2 w r1 r2 (by omega) (by omega)).mono ?_
  rintro e w1 ⟨a3, n3, c3, rfl, hO, b⟩
  exact ⟨a3, n3, c3, rfl, routV hO hb, b⟩
theorem revalV {k : Nat} {a : Option Addr} {n c : Nat} {p : Ser (El m)} (x : Int) (h1 : PV m w k a n c p) :
    Calls Tryz.prog 75 #[.int .i64 (m : Int), .slice a n c, .int .i64 x] w fun e w' => e = .returned (.int .i64 (zn (ev k p (elm m x)))) ∧ Below w.heap.size w w' := by
  have hn := h1.bdn
  obtain ⟨l1, r1, rfl, n1⟩ := h1
  have := reval_any (m := m) a n c l1 x w r1
  rwa [← ev_more (elm m x) n k _ hn n1] at this
end
end
end Go.Proofs.YthmfneepnkgmgaaGreatDoor.Pl
/- The ring that a statement makes, and the examples of chapter 4. By the verifier of shale. -/
namespace Go.Proofs.YthmfneepnkgmgaaGreatDoor.Pl
open Go Go.RowKit Fld Bits16
set_option linter.unusedVariables false
/-- the m that a statement makes of any number. -/
def rm (z : Int) : Nat := (z % 6).toNat + 3
instance (z : Int) : Mid (rm z) := ⟨by unfold rm; omega, by unfold rm; omega⟩
theorem rm_hi (z : Int) : rm z ≤ 8 := by unfold rm; omega
/-- the ring's answer. -/
def RingMade (m : Nat) (w : World) (e : Ending) (w' : World) : Prop := ∃ g s be ce bl, e = .returned (.tuple #[.pointer (some ⟨g, 0, none⟩), .int .i64 (m : Int)]) ∧ RingAt m w' g s be ce bl ∧ Below w.heap.size w w'
theorem lit_new (w W : World) (l : List Int) (n : Nat) (hn : n = l.length) (hm : n ≤ 1000) (hW : W = w.alloc (obj64 l)) : RowZ W (some ⟨w.heap.size, 0, none⟩) n n l ∧ Below w.heap.size w W ∧ W.heap.size = w.heap.size + 1 := by
  subst hW
  refine ⟨?_, (Below.refl _ _).alloc (Nat.le_refl _) _, Array.size_push _⟩
  subst hn
  exact Blk64.rowz (Blk64.new w l) (by omega)
section
variable {m : Nat} [M : Mid m]
theorem RowZ.pv {w : World} {a : Option Addr} {n c : Nat} {l : List Int} (h : RowZ w a n c l) (p : Ser (El m)) (e : sr m l = p) (K : Nat) (hK : n ≤ K) : PV m w K a n c p := ⟨l, h, e, hK⟩
theorem RowZ.nv {w : World} {a : Option Addr} {n c : Nat} {l : List Int} (h : RowZ w a n c l) (e : nums (sr m l) l.length = l) (ht : Pl.top (sr m l) l.length = l.length) : NV m w n a n c (sr m l) := by
  have hl := h.hlen
  subst hl
  exact ⟨by rw [e]; exact h, sr_bd l, ht, Nat.le_refl _⟩
theorem ser_ext {p q : Ser (El m)} {n : Nat} (hp : Bd p n) (hq : Bd q n) (h : ∀ i, i < n → p i = q i) : p = q := by
  funext i
  by_cases hi : i < n
  · exact h i hi
  · rw [hp i (by omega), hq i (by omega)]
end
instance : Mid 4 := ⟨by decide, by decide⟩
abbrev s4 (l : List Int) : Ser (El 4) := sr 4 l
theorem s4_bd (l : List Int) (n : Nat) (h : l.length ≤ n) : Bd (s4 l) n := (sr_bd l).mono h
theorem y1 : cv (s4 [1, 1]) (s4 [1, 1]) = s4 [1, 0, 1] :=
  ser_ext (n := 4) (cvK (s4_bd _ 2 (by decide)) (s4_bd _ 2 (by decide)) (by decide)) (s4_bd _ 4 (by decide)) (by decide +kernel)
theorem y2 : Dv2 (s4 [0, 0, 1]) (s4 [1, 1]) (s4 [1, 1]) (s4 [1]) 1 := by
  refine ⟨?_, ⟨2, s4_bd _ 2 (by decide)⟩, s4_bd _ 1 (by decide)⟩
  exact ser_ext (n := 4) (s4_bd _ 4 (by decide)) ((cvK (s4_bd _ 2 (by decide)) (s4_bd _ 2 (by decide)) (by decide)).add (s4_bd _ 4 (by decide))) (by decide +kernel)
theorem dg11 : Dg (s4 [1, 1]) 1 := ⟨by decide +kernel, s4_bd _ 2 (by decide)⟩
theorem y3 : pls (m := 4) [2, 3] 2 = s4 [6, 1, 1] :=
  ser_ext (n := 4) ((pls_bd _ 2).mono (by decide)) (s4_bd _ 4 (by decide)) (by decide +kernel)
theorem y4 : pls (m := 4) [3, 5] 2 = s4 [15, 6, 1] :=
  ser_ext (n := 4) ((pls_bd _ 2).mono (by decide)) (s4_bd _ 4 (by decide)) (by decide +kernel)
theorem y5 : IsG (s4 [6, 1, 1]) (s4 [15, 6, 1]) (s4 [3, 1]) := by
  have b2 := s4_bd [2, 1] 2 (by decide)
  have b3 := s4_bd [3, 1] 2 (by decide)
  have b5 := s4_bd [5, 1] 2 (by decide)
  have e1 : s4 [6, 1, 1] = cv (s4 [2, 1]) (s4 [3, 1]) := ser_ext (n := 4) (s4_bd _ 4 (by decide)) (cvK b2 b3 (by decide)) (by decide +kernel)
  have e2 : s4 [15, 6, 1] = cv (s4 [5, 1]) (s4 [3, 1]) := ser_ext (n := 4) (s4_bd _ 4 (by decide)) (cvK b5 b3 (by decide)) (by decide +kernel)
  have e3 : psm (elm 4 7)⁻¹ (padd (s4 [6, 1, 1]) (s4 [15, 6, 1])) = s4 [3, 1] := ser_ext (n := 4) (((s4_bd _ 4 (by decide)).add (s4_bd _ 4 (by decide))).sm _) (s4_bd _ 4 (by decide)) (by decide +kernel)
  refine ⟨⟨⟨_, 2, b2, e1⟩, ⟨_, 2, b5, e2⟩, fun c h k => ?_⟩, Or.inr ⟨1, ⟨by decide +kernel, b3⟩, by decide +kernel⟩⟩
  have := (h.add k).sm (elm 4 7)⁻¹
  rwa [e3] at this
theorem y6 : der (s4 [1, 2, 3, 4]) = s4 [2, 0, 4] :=
  ser_ext (n := 4) (der_bdK (s4_bd _ 4 (by decide))) (s4_bd _ 4 (by decide)) (by decide +kernel)
theorem y7 : zn (ev 3 (s4 [1, 1, 1]) (elm 4 2)) = 7 := by decide +kernel
theorem rm1 : rm 1 = 4 := by decide
end Go.Proofs.YthmfneepnkgmgaaGreatDoor.Pl
/- The contract of package locate's Of. By the verifier of shale. -/
namespace Go.Proofs.YthmfneepnkgmgaaGreatDoor.Loc
open Go Go.RowKit Pl Fld Bits16
set_option linter.unusedVariables false
section
variable {m : Nat} [M : Mid m]
theorem row_one (w : World) : RowZ (w.alloc (.cells #[.int .i64 1] 3 (0, 0))) (some ⟨w.heap.size, 0, none⟩) 1 1 [1] := by
  refine ⟨rfl, Nat.le_refl _, by decide, fun i hi => ?_⟩
  obtain rfl : i = 0 := by omega
  refine ⟨_, _, rfl, ?_, ?_⟩
  · unfold World.cell?
    simp only
    rw [heap_alloc_new]; rfl
  · show _ < (w.heap.push _).size
    rw [Array.size_push]; omega
theorem sr_one : sr m [1] = pone := funext fun i => by
  show elm m ([1].getD i 0) = (if i = 0 then 1 else 0)
  rcases i with _ | i
  · rw [if_pos rfl]; exact elm_zn (1 : El m)
  · rw [if_neg (by omega)]; exact elm_zero
/-- an element by its exponent. -/
def exK (m : Nat) [M : Mid m] (z : Int) : El m := ⟨pwZ m z, pwZ_lt m M.lo M.hi z⟩
theorem exK_ne (z : Int) : exK m z ≠ 0 := fun e => pwZ_ne m M.lo M.hi z (congrArg Subtype.val e)
theorem sr_two (e : El m) : sr m [1, zn e] = two e := funext fun i => by
  show elm m ([1, zn e].getD i 0) = (if i = 0 then 1 else if i = 1 then e else 0)
  rcases i with _ | _ | i
  · rw [if_pos rfl]; exact elm_zn (1 : El m)
  · rw [if_neg (by omega), if_pos rfl]; exact elm_zn e
  · rw [if_neg (by omega), if_neg (by omega)]; exact elm_zero
theorem NV.tight {w : World} {K K' : Nat} {a : Option Addr} {n c : Nat} {p : Ser (El m)} (h : NV m w K a n c p) (hb : Bd p K') : NV m w K' a n c p :=
  ⟨h.row, h.bd, h.top, by rw [← h.top, top_same h.bd hb]; exact top_le p K'⟩
/-- the polynomial of places. -/
def lamZ (m : Nat) [M : Mid m] (l : List Int) : Ser (El m) := lam (l.map (exK m))
theorem lamZ_bd (l : List Int) : Bd (lamZ m l) (l.length + 1) := by
  have := (lam_dg (l.map (exK m)) (fun a ha => by obtain ⟨z, _, rfl⟩ := List.mem_map.1 ha; exact exK_ne z)).1.2
  rwa [List.length_map] at this
theorem lamZ_snoc (l : List Int) (z : Int) : lamZ m (l ++ [z]) = cv (lamZ m l) (two (exK m z)) := by
  unfold lamZ; rw [List.map_append]; exact lam_snoc _ _
theorem take_snoc (l : List Int) (j : Nat) (hj : j < l.length) : l.take (j + 1) = l.take j ++ [l.getD j 0] := by
  rw [List.take_add_one, List.getElem?_eq_getElem hj, List.getD_eq_getElem?_getD, List.getElem?_eq_getElem hj]; rfl
theorem nv_one {w : World} {a : Option Addr} (h : RowZ w a 1 1 [1]) : NV m w 1 a 1 1 pone := by
  have e := sr_one (m := m)
  have := RowZ.nv (m := m) h (by rw [e]; rfl) (by rw [e]; exact top_some (p := (pone : Ser (El m))) (n := 0) Fl.one_ne)
  rwa [e] at this
end
end Go.Proofs.YthmfneepnkgmgaaGreatDoor.Loc
/- Where a polynomial is 0: places, their number, values as sums of terms. No program is named here. By the verifier of shale. -/
namespace Go.Proofs.YthmfneepnkgmgaaGreatDoor.Sea
open Go Go.RowKit Pl Fld Bits16 Loc
set_option linter.unusedVariables false
section
variable {m : Nat} [M : Mid m]
/-- the point of place i. -/
def pt (m : Nat) [M : Mid m] (i : Nat) : El m := exK m (-(i : Int))
theorem pt_ne (i : Nat) : pt m i ≠ 0 := exK_ne _
theorem exK_mul (x y : Int) : exK m x * exK m y = exK m (x + y) := El.ext (pwZ_mul m M.lo M.hi x y)
theorem exK_zero : exK m 0 = 1 := El.ext (by
  show pwZ m 0 = 1
  have := pwZ_nat m M.lo M.hi 0
  rw [show ((0 : Nat) : Int) = 0 from rfl] at this
  rw [this]; rfl)
theorem pt_pow (i j : Nat) : pwK (pt m i) j = exK m (-((i : Int) * (j : Int))) := by
  induction j with
  | zero =>
    show (1 : El m) = _
    rw [show (-((i : Int) * ((0 : Nat) : Int))) = 0 by simp, exK_zero]
  | succ j ih =>
    show pt m i * pwK (pt m i) j = _
    rw [ih]
    unfold pt
    rw [exK_mul]
    congr 1
    rw [Int.natCast_succ, Int.mul_add]; omega
theorem exK_inj {i j : Nat} (hi : i < size m) (hj : j < size m) (e : pt m i = pt m j) : i = j := by
  have h1 : exK m (i : Int) * pt m i = 1 := by unfold pt; rw [exK_mul, show (i : Int) + -(i : Int) = 0 by omega, exK_zero]
  have h2 : exK m (j : Int) * pt m j = 1 := by unfold pt; rw [exK_mul, show (j : Int) + -(j : Int) = 0 by omega, exK_zero]
  have h3 : exK m (i : Int) = exK m (j : Int) := by
    rw [e] at h1
    have : exK m (i : Int) * pt m j * exK m (j : Int) = exK m (j : Int) := by rw [h1, one_mul]
    rw [Fl.mul_assoc, Fl.mul_comm (pt m j), h2, Fl.mul_one] at this
    exact this
  have h4 : pw m i = pw m j := by
    have := congrArg Subtype.val h3
    show pw m i = pw m j
    rw [← pwZ_nat m M.lo M.hi i, ← pwZ_nat m M.lo M.hi j]; exact this
  exact pw_inj m M.lo M.hi i j hi hj h4
/-- the first n at which f says so. -/
def hits (f : Nat → Bool) (n : Nat) : List Nat := (List.range n).filter f
theorem hits_succ (f : Nat → Bool) (n : Nat) : hits f (n + 1) = hits f n ++ if f n then [n] else [] := by
  unfold hits
  rw [List.range_succ, List.filter_append]
  congr 1
  cases h : f n <;> simp [h]
theorem hits_mem {f : Nat → Bool} {n i : Nat} : i ∈ hits f n ↔ i < n ∧ f i = true := by unfold hits; simp
theorem hits_nodup (f : Nat → Bool) (n : Nat) : (hits f n).Nodup := List.nodup_range.filter _
theorem hits_len (f : Nat → Bool) (n : Nat) : (hits f n).length ≤ n := by
  have := List.length_filter_le f (List.range n)
  rw [List.length_range] at this
  exact this
/-- is it 0 at place i? -/
def zAt (p : Ser (El m)) (K : Nat) (i : Nat) : Bool := zn (ev K p (pt m i)) == 0
theorem zAt_iff (p : Ser (El m)) (K i : Nat) : zAt p K i = true ↔ ev K p (pt m i) = 0 := by
  unfold zAt
  rw [zn_eq0]
  simp
theorem hits_few {p : Ser (El m)} {d : Nat} (hp : Dg p d) {n : Nat} (hn : n ≤ size m) : (hits (zAt p (d + 1)) n).length ≤ d := by
  have h := roots_le d p ((hits (zAt p (d + 1)) n).map (pt m)) hp (by
    have hnd := hits_nodup (zAt p (d + 1)) n
    have hlt : ∀ i ∈ hits (zAt p (d + 1)) n, i < size m := fun i hi => by have := (hits_mem.1 hi).1; omega
    generalize hits (zAt p (d + 1)) n = l at hnd hlt
    induction l with
    | nil => exact List.nodup_nil
    | cons x l ih =>
      rw [List.nodup_cons] at hnd
      show (pt m x :: l.map (pt m)).Nodup
      rw [List.nodup_cons]
      refine ⟨fun hx => hnd.1 ?_, ih hnd.2 fun i hi => hlt i (List.mem_cons_of_mem _ hi)⟩
      obtain ⟨y, hy, e⟩ := List.mem_map.1 hx
      have := exK_inj (hlt y (List.mem_cons_of_mem _ hy)) (hlt x (List.mem_cons_self ..)) e
      rwa [← this]) fun a ha => by
    obtain ⟨i, hi, rfl⟩ := List.mem_map.1 ha
    exact (zAt_iff _ _ _).1 (hits_mem.1 hi).2
  rwa [List.length_map] at h
/-- behind the last root nothing more is found. -/
theorem hits_stop {f : Nat → Bool} {d k n : Nat} (hk : k ≤ n) (h1 : (hits f k).length = d) (h2 : (hits f n).length ≤ d) : hits f n = hits f k := by
  obtain ⟨j, rfl⟩ : ∃ j, n = k + j := ⟨n - k, by omega⟩
  clear hk
  induction j with
  | zero => rfl
  | succ j ih =>
    have h3 : (hits f (k + j)).length ≤ d := by
      rw [show k + (j + 1) = (k + j) + 1 from rfl, hits_succ, List.length_append] at h2; omega
    have e := ih h3
    rw [show k + (j + 1) = (k + j) + 1 from rfl, hits_succ] at h2 ⊢
    rw [e] at h2 ⊢
    rw [List.length_append, h1] at h2
    have : (if f (k + j) = true then [k + j] else []).length = 0 := by omega
    rw [List.eq_nil_of_length_eq_zero this, List.append_nil]
/-! ### a value as a sum of terms -/
def evs (p : Ser (El m)) (x : El m) : Nat → El m
  | 0 => 0
  | n + 1 => evs p x n + p n * pwK x n
theorem evs_tl (p : Ser (El m)) (x : El m) : ∀ n, evs p x (n + 1) = p 0 + x * evs (tl p) x n
  | 0 => by
    show (0 : El m) + p 0 * 1 = p 0 + x * 0
    rw [zero_add, Fl.mul_one, Pl.mul_zero, Fl.add_zero]
  | n + 1 => by
    show evs p x (n + 1) + p (n + 1) * pwK x (n + 1) = p 0 + x * (evs (tl p) x n + p (n + 1) * pwK x n)
    rw [evs_tl p x n, Fl.mul_add, Fl.add_assoc]
    congr 2
    show p (n + 1) * (x * pwK x n) = x * (p (n + 1) * pwK x n)
    ac_rfl
theorem ev_evs (x : El m) : ∀ (n : Nat) (p : Ser (El m)), ev n p x = evs p x n
  | 0, _ => rfl
  | n + 1, p => by rw [evs_tl, ← ev_evs x n (tl p)]; rfl
/-- the places of coefficients that are not 0. -/
def nz (p : Ser (El m)) (n : Nat) : List Nat := hits (fun j => !decide (p j = 0)) n
/-- the sum of the terms at these. -/
def tsum (p : Ser (El m)) (x : El m) (l : List Nat) : El m := l.foldl (fun v j => v + p j * pwK x j) 0
theorem tsum_snoc (p : Ser (El m)) (x : El m) (l : List Nat) (j : Nat) : tsum p x (l ++ [j]) = tsum p x l + p j * pwK x j := by unfold tsum; rw [List.foldl_append]; rfl
theorem tsum_nz (p : Ser (El m)) (x : El m) : ∀ n, tsum p x (nz p n) = ev n p x := by
  intro n
  rw [ev_evs]
  induction n with
  | zero => rfl
  | succ n ih =>
    unfold nz at ih ⊢
    rw [hits_succ]
    by_cases h : p n = 0
    · rw [show (!decide (p n = 0)) = false by simp [h]]
      show tsum p x (_ ++ []) = evs p x n + p n * pwK x n
      rw [List.append_nil, ih, h, zero_mul, Fl.add_zero]
    · rw [show (!decide (p n = 0)) = true by simp [h]]
      show tsum p x (_ ++ [n]) = _
      rw [tsum_snoc, ih]; rfl
/-- the logarithm of a term. -/
def lgt (p : Ser (El m)) (i j : Nat) : Int := (lg m (p j).val : Int) - (i : Int) * (j : Int)
theorem lgt_exp {p : Ser (El m)} {j : Nat} (h0 : p j ≠ 0) (i : Nat) : exK m (lgt p i j) = p j * pwK (pt m i) j := by
  have e1 : p j = exK m (lg m (p j).val : Int) := El.ext (by
    show (p j).val = pwZ m _
    rw [pwZ_nat m M.lo M.hi]
    exact (lg_spec m M.lo M.hi _ (p j).2 (fun e => h0 (El.ext e))).2.symm)
  rw [pt_pow]
  conv => rhs; rw [e1]
  rw [exK_mul]; rfl
omit M in
theorem lgt_succ (p : Ser (El m)) (i j : Nat) : lgt p (i + 1) j = lgt p i j - (j : Int) := by
  unfold lgt
  rw [show ((i + 1 : Nat) : Int) = (i : Int) + 1 from rfl, Int.add_mul]; omega
/-- the logarithms: the first q of them of the next place already. -/
def lgs (p : Ser (El m)) (l : List Nat) (i q : Nat) : List Int := (List.range l.length).map fun k => lgt p (if k < q then i + 1 else i) (l.getD k 0)
omit M in
theorem lgs_length (p : Ser (El m)) (l : List Nat) (i q : Nat) : (lgs p l i q).length = l.length := by simp [lgs]
omit M in
theorem lgs_at (p : Ser (El m)) (l : List Nat) (i q k : Nat) (hk : k < l.length) (hq : q ≤ k) : (lgs p l i q).getD k 0 = lgt p i (l.getD k 0) := by
  simp only [lgs, List.getD_eq_getElem?_getD, List.getElem?_map, List.getElem?_range hk, Option.map_some, Option.getD_some]
  rw [if_neg (by omega)]
omit M in
theorem lgs_all (p : Ser (El m)) (l : List Nat) (i : Nat) : lgs p l i l.length = lgs p l (i + 1) 0 := by
  unfold lgs
  refine List.map_congr_left fun k hk => ?_
  rw [if_pos (List.mem_range.1 hk), if_neg (by omega)]
omit M in
theorem lgs_set (p : Ser (El m)) (l : List Nat) (i q : Nat) : (lgs p l i q).set q (lgt p i (l.getD q 0) - ((l.getD q 0 : Nat) : Int)) = lgs p l i (q + 1) := by
  apply List.ext_getElem
  · simp [lgs]
  · intro k h1 h2
    rw [List.getElem_set]
    simp only [lgs, List.getElem_map, List.getElem_range]
    by_cases e : q = k
    · subst e; rw [if_pos rfl, if_pos (by omega), lgt_succ]
    · rw [if_neg e]
      by_cases h : k < q
      · rw [if_pos h, if_pos (by omega)]
      · rw [if_neg h, if_neg (by omega)]
omit M in
theorem lgs_zero (p : Ser (El m)) (l : List Nat) : lgs p l 0 0 = l.map fun j => (lg m (p j).val : Int) := by
  apply List.ext_getElem
  · simp [lgs]
  · intro k h1 h2
    have hk : k < l.length := by simpa [lgs] using h1
    simp only [lgs, List.getElem_map, List.getElem_range]
    rw [if_neg (by omega)]
    have e : l.getD k 0 = l[k] := by rw [List.getD_eq_getElem?_getD, List.getElem?_eq_getElem hk]; rfl
    rw [e]
    unfold lgt
    simp
end
end Go.Proofs.YthmfneepnkgmgaaGreatDoor.Sea
/- A range over a function whose iterator keeps state in cells of its own: one invariant for what the iterator and the body hold together, all of it below the blocks that the loop itself lays. By the verifier of shale. -/
namespace Go.Proofs.YthmfneepnkgmgaaGreatDoor
open Go Go.RowKit
set_option linter.unusedVariables false
/-- what lies at or above B and was there lies as it lay. -/
structure Hi (B : Nat) (W W' : World) : Prop where
  size : W.heap.size ≤ W'.heap.size
  same : ∀ k, B ≤ k → k < W.heap.size → W'.heap[k]? = W.heap[k]?
theorem Hi.refl (B : Nat) (W : World) : Hi B W W := ⟨Nat.le_refl _, fun _ _ _ => rfl⟩
theorem Hi.trans {B : Nat} {X Y Z : World} (h : Hi B X Y) (k : Hi B Y Z) : Hi B X Z :=
  ⟨Nat.le_trans h.size k.size, fun i hB hi => (k.same i hB (Nat.lt_of_lt_of_le hi h.size)).trans (h.same i hB hi)⟩
theorem Hi.below {B : Nat} {W W' : World} (h : Below W.heap.size W W') : Hi B W W' := ⟨h.size, fun k _ hk => h.block k hk⟩
theorem Hi.setCell {B : Nat} (W : World) (p : Addr) (u : Value) (hp : p.block < B) : Hi B W (W.setCell p u) :=
  ⟨by simp [World.setCell], fun k hB _ => Below.heap_setCell _ _ _ _ (by omega)⟩
def Stays (B : Nat) (K : World → Prop) : Prop := ∀ W W', K W → Hi B W W' → K W'
/-- a predicate of what lies below B. -/
def Low (B : Nat) (I : World → Prop) : Prop := ∀ W W', I W → Below B W W' → I W'
/-- how the body of a round may be left; Kp: what a round that goes on keeps for the iterator. -/
def leftBy {α : Type} (B : Nat) (Kp : World → World → Prop) (I : List α → World → Prop) (Ix : Code → List α → World → Prop) (xs : List α) (W : World) : Exit → Act → World → Prop
  | .normal, _, W' => Hi B W W' ∧ Kp W W' ∧ I xs W'
  | .ret, _, W' => Hi B W W' ∧ Ix .ret xs W'
  | .exit id, _, W' => Hi B W W' ∧ Ix (.exit id) xs W'
  | .goto t, _, W' => Hi B W W' ∧ Ix (.goto t) xs W'
  | .panic _, _, _ => False
  | .outgrown, _, _ => False
/-- the iterator's side: it calls yield at each, carries I on, and leaves alone what lies at or above B. -/
def Iterates {α : Type} (n : Nat) (P : Program) (gf : Nat) (lb : Array Value) (encs : α → Array Value) (B N : Nat) (Kp : World → World → Prop) (I : List α → World → Prop) (Ix : Code → List α → World → Prop) (S Sp : List α → Prop) (w : World) : Prop :=
  ∀ (l : Nat) (K : World → Prop) (Kx : Code → World → Prop) (W : World), Below B w W → Stays B K → (∀ c, Stays B (Kx c)) →
    (∀ pre x W1, I pre W1 → K W1 → pre.length < N → YieldAt Fence.wide n P l (encs x) W1 fun e W' =>
      (e = .returned (.bool true) ∧ I (pre ++ [x]) W' ∧ Kp W1 W' ∧ K W') ∨ (e = .returned (.bool false) ∧ ∃ c, Ix c (pre ++ [x]) W' ∧ Kx c W')) →
    I [] W → K W →
    CallsIn Fence.wide n P gf (#[.func (.yield l) #[] #[]] ++ lb) W fun e W' => (∃ v, e = .returned v) ∧
      ((∃ xs, S xs ∧ I xs W' ∧ K W') ∨ (∃ pre c, Sp pre ∧ Ix c pre W' ∧ Kx c W'))
/-- whatever lies below B, block s aside, lies as it lay. -/
structure Others (B s : Nat) (W W' : World) : Prop where
  size : W.heap.size ≤ W'.heap.size
  same : ∀ k, k < B → k ≠ s → W'.heap[k]? = W.heap[k]?
theorem Others.trans {B s : Nat} {X Y Z : World} (h : Others B s X Y) (k : Others B s Y Z) : Others B s X Z :=
  ⟨Nat.le_trans h.size k.size, fun i hi hs => (k.same i hi hs).trans (h.same i hi hs)⟩
theorem Others.below {B s : Nat} {X Y : World} (h : Below B X Y) : Others B s X Y := ⟨h.size, fun k hk _ => h.block k hk⟩
theorem Others.setCell {B s : Nat} (W : World) (p : Addr) (u : Value) (hp : p.block = s) : Others B s W (W.setCell p u) :=
  ⟨by simp [World.setCell], fun k _ hs => Below.heap_setCell _ _ _ _ (by omega)⟩
theorem roundIn_wide {n m : Nat} {P : Program} {l : Nat} {f : FuncId} {tmps : Array Value} {assign body : Code} {w : World} {R : Ending → World → Prop}
    (h : RoundIn Fence.wide n P l f tmps assign body w R) : RoundIn Fence.wide m P l f tmps assign body w R := ⟨h.1, fun c cs _ => h.2 c cs (room_wide _)⟩
/-- **THE STATEMENT.** -/
theorem range_own {α : Type} {n : Nat} {P : Program} {g : Operand} {ps : Array Tmp} {assign body : Code} {Q : Exit → Act → World → Prop} {a : Act} {w : World}
    {gf : Nat} {lb : Array Value} (hg : a.eval g = .func (.func gf) #[] lb) (eg : ∀ args w, (callFunc gf args).run P w = .ok (.enter gf args) w)
    {encs : α → Array Value} (hps : ∀ x, (encs x).size = ps.size) {N : Nat} {S Sp : List α → Prop}
    (Kp : World → World → Prop) (hKt : ∀ {X Y Z : World}, Kp X Y → Kp Y Z → Kp X Z) (hKb : ∀ {X Y : World}, Below w.heap.size X Y → Kp X Y)
    (I : List α → World → Prop) (Ix : Code → List α → World → Prop) (hI : ∀ pre, Low w.heap.size (I pre)) (hIx : ∀ c pre, Low w.heap.size (Ix c pre)) (h0 : I [] w)
    (hit : Iterates (n - 1) P gf lb encs w.heap.size N Kp I Ix S Sp w) (a₁ : α → Act)
    (hassign : ∀ (l : Nat) (x : α) (W : World) (K : Act → World → Prop), K (a₁ x) W →
      assign.wpIn (Fence.wide.inRound l) (n - 1) P (Exit.then K (fun _ _ _ => False)) { tmps := (ps.zip (encs x)).foldl (fun t (p, v) => t.setIfInBounds p v) a.tmps, defers := [] } W)
    (hbody : ∀ (l : Nat) (pre : List α) (x : α) (W : World), I pre W → pre.length < N → body.wpIn (Fence.wide.inRound l) (n - 1) P (leftBy w.heap.size Kp I Ix (pre ++ [x]) W) (a₁ x) W)
    (hdone : ∀ (D : Nat) (xs : List α) (W : World), w.heap.size ≤ D → D < W.heap.size → S xs → I xs W → W.heap[D]? = some (.deferred (some [])) → Q .normal { a with defers := { target := .collected D, args := #[] } :: a.defers } W)
    (hstop : ∀ (D : Nat) (c : Code) (pre : List α) (W : World), w.heap.size ≤ D → D < W.heap.size → Sp pre → Ix c pre W → W.heap[D]? = some (.deferred (some [])) → c.wpIn Fence.wide n P Q { a with defers := { target := .collected D, args := #[] } :: a.defers } W) :
    (Code.rangeFunc g ps assign body).wpIn Fence.wide n P Q a w := by
  refine wpIn_rangeFunc ?_
  intro fn hfn
  let B := w.heap.size
  let rec' : LoopState → Option Code → Loop := fun st pe => { state := st, pending := pe, fn, tmps := a.tmps, params := ps, assign, body, defers := B }
  obtain ⟨W1, hW1⟩ : ∃ W1, (w.alloc (.deferred (some []))).alloc (.loop (rec' .ready none)) = W1 := ⟨_, rfl⟩
  have hbel : Below B w W1 := by rw [← hW1]; exact ((Below.refl _ _).alloc (Nat.le_refl _) _).alloc (by simp) _
  have hD1 : W1.heap[B]? = some (.deferred (some [])) := by
    rw [← hW1]; exact (Below.heap_alloc _ _ _ (by simp [B])).trans (World.alloc_heap_new w _)
  have hL1 : W1.heap[B + 1]? = some (.loop (rec' .ready none)) := by
    rw [← hW1]
    have := World.alloc_heap_new (w.alloc (.deferred (some []))) (.loop (rec' .ready none))
    rwa [World.size_alloc] at this
  -- the two blocks of the loop's own, in whatever state
  let At : LoopState → Option Code → World → Prop := fun st pe W => W.heap[B + 1]? = some (.loop (rec' st pe)) ∧ W.heap[B]? = some (.deferred (some []))
  have hAt : ∀ st pe, Stays B (At st pe) := by
    intro st pe X Y h k
    exact ⟨(k.same _ (by omega) (Array.getElem?_eq_some_iff.1 h.1).1).trans h.1, (k.same _ (Nat.le_refl _) (Array.getElem?_eq_some_iff.1 h.2).1).trans h.2⟩
  -- a turn of the record
  have turn : ∀ (W : World) (st st' : LoopState) (pe pe' : Option Code), At st pe W → At st' pe' (W.putObj (B + 1) (.loop (rec' st' pe'))) ∧ Below B W (W.putObj (B + 1) (.loop (rec' st' pe'))) := by
    intro W st st' pe pe' h
    have hlt := (Array.getElem?_eq_some_iff.1 h.1).1
    refine ⟨⟨World.putObj_heap_same hlt, (World.putObj_heap_other (by omega)).trans h.2⟩, ⟨rfl, rfl, rfl, by simp, fun k hk => World.putObj_heap_other (by omega)⟩⟩
  refine ⟨B + 1, [{ target := .collected B, args := #[] }], W1, { target := .fn (.func gf) lb, args := #[.func (.yield (B + 1)) #[] #[]] }, W1, gf, #[.func (.yield (B + 1)) #[] #[]] ++ lb, W1, ?_, ?_, ?_, ?_, fun h => by simp [Fence.wide] at h, ?_⟩
  · rw [← hW1]; exact run_enterLoop_outer _ _ _ _ _
  · simp only [resolve, hg]
    simp [go_sem]
  · intro f' _; trivial
  · simp [invoke, go_sem, eg]
  refine (hit (B + 1) (At .ready none) (fun c => At .done (some c)) W1 hbel (hAt _ _) (fun c => hAt _ _) ?_ (hI _ _ _ h0 hbel) ⟨hL1, hD1⟩).mono ?_
  · -- one round
    intro pre x W hi hK hlen
    refine ⟨fn, _, assign, body, run_yield hK.1 (hps x), roundIn_wide (n := n - 1) (roundIn_of_wpIn trivial (hassign _ x W _ ⟨_, run_beginRound hK.1 rfl, ?_⟩))⟩
    obtain ⟨k2, b2⟩ := turn W .ready .busy none none hK
    refine wpIn_mono (hbody _ pre x _ (hI _ _ _ hi b2) hlen) ?_
    have fin : ∀ (jump : Option Code) (W3 : World), Hi B (W.putObj (B + 1) (.loop (rec' .busy none))) W3 → At .busy none W3 ∧
        (Instr.endRound (B + 1) jump).run P W3 = .ok (.bool jump.isNone) (W3.putObj (B + 1) (.loop (rec' (if jump.isNone then .ready else .done) jump))) := by
      intro jump W3 h3
      have k3 := hAt _ _ _ _ k2 h3
      exact ⟨k3, run_endRound jump k3.1⟩
    rintro e a3 W3 hp
    cases e with
    | normal =>
      obtain ⟨h3, p3, i3⟩ := hp
      obtain ⟨k3, r3⟩ := fin none W3 h3
      obtain ⟨k4, b4⟩ := turn W3 .busy .ready none none k3
      exact ⟨_, _, r3, .inl ⟨rfl, hI _ _ _ i3 b4, hKt (hKt (hKb b2) p3) (hKb b4), k4⟩⟩
    | ret =>
      obtain ⟨h3, i3⟩ := hp
      obtain ⟨k3, r3⟩ := fin (some .ret) W3 h3
      obtain ⟨k4, b4⟩ := turn W3 .busy .done none (some .ret) k3
      exact ⟨_, _, r3, .inr ⟨rfl, _, hIx _ _ _ _ i3 b4, k4⟩⟩
    | exit id =>
      obtain ⟨h3, i3⟩ := hp
      obtain ⟨k3, r3⟩ := fin (some (.exit id)) W3 h3
      obtain ⟨k4, b4⟩ := turn W3 .busy .done none (some (.exit id)) k3
      exact ⟨_, _, r3, .inr ⟨rfl, _, hIx _ _ _ _ i3 b4, k4⟩⟩
    | goto t =>
      obtain ⟨h3, i3⟩ := hp
      obtain ⟨k3, r3⟩ := fin (some (.goto t)) W3 h3
      obtain ⟨k4, b4⟩ := turn W3 .busy .done none (some (.goto t)) k3
      exact ⟨_, _, r3, .inr ⟨rfl, _, hIx _ _ _ _ i3 b4, k4⟩⟩
    | panic ch => exact hp.elim
    | outgrown => exact hp.elim
  · -- behind the iterator
    rintro e W2 ⟨⟨v, rfl⟩, (⟨xs, hS, hi, hK⟩ | ⟨pre, c, hSp, hi, hK⟩)⟩
    · obtain ⟨k3, b3⟩ := turn W2 .ready .exhausted none none hK
      exact ⟨none, _, run_endLoop hK.1 (by simp [rec']), hdone _ xs _ (Nat.le_refl _) (Array.getElem?_eq_some_iff.1 k3.2).1 hS (hI _ _ _ hi b3) k3.2⟩
    · obtain ⟨k3, b3⟩ := turn W2 .done .exhausted (some c) (some c) hK
      exact ⟨some c, _, run_endLoop hK.1 (by simp [rec']), hstop _ c pre _ (Nat.le_refl _) (Array.getElem?_eq_some_iff.1 k3.2).1 hSp (hIx _ _ _ _ hi b3) k3.2⟩
end Go.Proofs.YthmfneepnkgmgaaGreatDoor
