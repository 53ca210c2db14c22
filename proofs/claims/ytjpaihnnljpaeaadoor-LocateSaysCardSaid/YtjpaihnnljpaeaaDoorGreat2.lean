/- Texts of the verifier of shale, laid into one: PolyRoots, QuietTail, PolyFrom, FldRef, FldRef2, RefTrim, RefZ, PolyV, LocRow, LocSt, LocSum, RefTimes, RefPAdd, RefPMul, RefPDiv, LocMend, LocRun, LocRunW, LocRoots, RefPDer, RefPRoots, RefPGcd, PolyFirst, LocOps, LocFirst, PolyEx, PolyLaw, Args, RefZCopy, LocLaw. -/
import Derived.Test.YtjpaihnnljpaeaaDoorGreat1
import Derived.StillTailTactics
import Derived.BigQuiet
import Derived.Deep.QuietTactic
import Derived.Lib.QuietBelow
import Derived.Deep.RegionHeld3
import Derived.Deep.AppendLies
import Derived.Deep.RegionLaw
import Derived.Deep.Fields
import Derived.ChangeArms
import Derived.WideShapes
import Derived.ProofKit
import Derived.ChangeOld
/- The walk over package fieldpoly's Roots. By the verifier of shale. -/
namespace Go.Proofs.YtjpaihnnljpaeaaDoor.Pl
open Go Go.RowKit Fld Bits16
set_option linter.unusedVariables false
section
variable {m : Nat} [M : Mid m]
open Classical in
/-- the elements below j at which the first n of P are 0, rising. -/
noncomputable def rts (n : Nat) (P : Ser (El m)) : Nat → List Nat
  | 0 => []
  | j + 1 => rts n P j ++ if ev n P (elm m (j : Int)) = 0 then [j] else []
def intsN (l : List Nat) : List Int := List.map (fun e : Nat => (e : Int)) l
theorem rts_lt (n : Nat) (P : Ser (El m)) : ∀ j i, i ∈ rts n P j → i < j
  | 0, i, h => by simp [rts] at h
  | j + 1, i, h => by
    rw [rts, List.mem_append] at h
    rcases h with h | h
    · have := rts_lt n P j i h; omega
    · split at h
      · simp at h; omega
      · simp at h
theorem rts_root (n : Nat) (P : Ser (El m)) : ∀ j i, i ∈ rts n P j → ev n P (elm m (i : Int)) = 0
  | 0, i, h => by simp [rts] at h
  | j + 1, i, h => by
    rw [rts, List.mem_append] at h
    rcases h with h | h
    · exact rts_root n P j i h
    · split at h
      · rename_i h0
        simp at h; rw [h]; exact h0
      · simp at h
theorem rts_nodup (n : Nat) (P : Ser (El m)) : ∀ j, (rts n P j).Nodup
  | 0 => List.nodup_nil
  | j + 1 => by
    rw [rts]
    split
    · rw [List.nodup_append]
      refine ⟨rts_nodup n P j, by simp, fun a ha b hb => ?_⟩
      have := rts_lt n P j a ha
      simp at hb; omega
    · rw [List.append_nil]; exact rts_nodup n P j
theorem elm_inj {i j : Nat} (hi : i < 2 ^ m) (hj : j < 2 ^ m) (h : elm m (i : Int) = elm m (j : Int)) : i = j := by
  have h1 : el m (i : Int) = el m (j : Int) := congrArg Subtype.val h
  have h2 := congrArg BitVec.toNat h1
  rw [el_nat m M.hi, el_nat m M.hi] at h2
  have hp := pow14 m M.hi
  have e : ∀ k : Nat, k < 2 ^ m → (BitVec.ofInt 64 (k : Int)).toNat % 2 ^ m = k := fun k hk => by
    have : (BitVec.ofInt 64 (k : Int)).toNat = k := by rw [BitVec.toNat_ofInt]; omega
    rw [this, Nat.mod_eq_of_lt hk]
  rwa [e i hi, e j hj] at h2
theorem rts_len {d : Nat} {P : Ser (El m)} (hP : Dg P d) (j : Nat) (hj : j ≤ 2 ^ m) : (rts (d + 1) P j).length ≤ d := by
  have := roots_le d P ((rts (d + 1) P j).map fun i : Nat => elm m (i : Int)) hP (by
    rw [List.Nodup, List.pairwise_map]
    refine List.Pairwise.imp_of_mem (fun ha hb hne h => hne ?_) (rts_nodup (d + 1) P j)
    exact elm_inj (by have := rts_lt _ P j _ ha; omega) (by have := rts_lt _ P j _ hb; omega) h) (fun a ha => by
    obtain ⟨i, hi, rfl⟩ := List.mem_map.1 ha
    exact rts_root _ P j i hi)
  rwa [List.length_map] at this
theorem rts_stop {d : Nat} {P : Ser (El m)} (hP : Dg P d) (j : Nat) (hl : (rts (d + 1) P j).length = d) : ∀ k, j + k ≤ 2 ^ m → rts (d + 1) P (j + k) = rts (d + 1) P j
  | 0, _ => rfl
  | k + 1, h => by
    have ih := rts_stop hP j hl k (by omega)
    have hle := rts_len hP (j + k + 1) (by omega)
    rw [rts, ih] at hle
    show rts (d + 1) P (j + k + 1) = _
    rw [rts, ih]
    split
    · rename_i h0
      rw [if_pos h0, List.length_append, hl] at hle
      simp at hle
      exact absurd hle (by omega)
    · rw [List.append_nil]
theorem own_slice {w : World} {base n : Nat} {v : Value} {l : List Int} (e : Own64 w base v n l) : ∃ a c, v = .slice a n c := by
  rcases e.2 with ⟨h0, h1⟩ | ⟨g', cap', cur, hv, _⟩
  · exact ⟨none, 0, by rw [h0, h1]⟩
  · exact ⟨_, _, hv⟩
theorem own_from {w : World} {base base' n : Nat} {v : Value} {l : List Int} (e : Own64 w base v n l) (hb : base' ≤ base) : Own64 w base' v n l := by
  refine ⟨e.1, ?_⟩
  rcases e.2 with h0 | ⟨g', cap', cur, hv, hbg, r⟩
  · exact Or.inl h0
  · exact Or.inr ⟨g', cap', cur, hv, Nat.le_trans hb hbg, r⟩
end
end Go.Proofs.YtjpaihnnljpaeaaDoor.Pl
/- A region that draws its order, whose operations read or call quietly up to a tail in one forced order (a store): one walk of the text's order. By the verifier of shale. -/
namespace Go.Proofs.YtjpaihnnljpaeaaDoor
open Go
set_option linter.unusedVariables false
section
variable {P : Program} {ops : Array Oper} {md : Region.Mode} {C : World → Prop}
/-- f operations of the first n come up in whatever order, each quiet in the class; then L holds. -/
def HeadQ (P : Program) (md : Region.Mode) (ops : Array Oper) (C : World → Prop) (n : Nat) (L : Array Bool → Act → Prop) : Nat → Array Bool → Act → Prop
  | 0, s, a => L s a
  | f + 1, s, a => Region.ready md ops s ≠ [] ∧ ∀ i ∈ Region.ready md ops s, i < n ∧ qOp P ops C i (HeadQ P md ops C n L f (s.setIfInBounds i true)) a
theorem HeadQ.any {n g : Nat} {L : Array Bool → Act → Prop} {Q' : Exit → Act → World → Prop} (hL : ∀ s a w, C w → L s a → wpAny P md ops Q' g s a w) :
    ∀ (f : Nat) (s : Array Bool) (a : Act) (w : World), C w → HeadQ P md ops C n L f s a → wpAny P md ops Q' (f + g) s a w
  | 0, s, a, w, hw, h => by rw [Nat.zero_add]; exact hL s a w hw h
  | f + 1, s, a, w, hw, h => by
    rw [show f + 1 + g = (f + g) + 1 by omega]
    exact ⟨fun e => absurd e h.1, fun i hi => wpOp_of_qOp hw (fun a' w' hw' h' => HeadQ.any hL f _ a' w' hw' h') (h.2 i hi).2⟩
/-- what is ready and apart from the rest may be taken ahead of all. -/
theorem HeadQ.early {n i : Nat} {o : Oper} {v : Value} {L : Array Bool → Act → Prop} (hi : ops[i]? = some o) (hsel : ∀ (j : Nat) (o : Oper) cs b, ops[j]? = some o → o.op ≠ .select cs b)
    (hs : Region.sinkB md ops n = true) (hc : Region.chainB md ops n = true) (hn : n < ops.size) (hin : i < n) (hL : ∀ s a, L s a → ∀ j ∈ Region.ready md ops s, n ≤ j) (f : Nat) :
    ∀ (s : Array Bool) (a : Act), HeadInv md ops n s →
      (∀ j oj, ops[j]? = some oj → j ≠ i → s.getD j true = false → (∀ e ∈ oj.after, Region.binds md e = true → e.on ≠ i) → o.apart ops oj = true) →
      i ∈ Region.ready md ops s → YieldsIn P ops C o v a → HeadQ P md ops C n L f (s.setIfInBounds i true) (a.put o.dst v) → HeadQ P md ops C n L (f + 1) s a := by
  induction f with
  | zero =>
    intro s a inv hap hr hy h
    have hfr := (mem_ready.1 hr).1
    refine ⟨fun e => by simp [e] at hr, fun j hj => ?_⟩
    have hlt : j < n := Classical.byContradiction fun hge => absurd hj (tail_waits hs hc hn inv _ i rfl hin hfr j (by omega))
    by_cases e : j = i
    · exact ⟨hlt, by rw [e]; exact hy.qOp hi h⟩
    · have := hL _ _ h j (ready_mono hj e); omega
  | succ f ih =>
    intro s a inv hap hr hy h
    have hfr := (mem_ready.1 hr).1
    refine ⟨fun e => by simp [e] at hr, fun j hj => ?_⟩
    have hlt : j < n := Classical.byContradiction fun hge => absurd hj (tail_waits hs hc hn inv _ i rfl hin hfr j (by omega))
    refine ⟨hlt, ?_⟩
    by_cases e : j = i
    · rw [e]; exact hy.qOp hi h
    · obtain ⟨hjf, oj, hoj, haft⟩ := mem_ready.1 hj
      have hno : ∀ e ∈ oj.after, Region.binds md e = true → e.on ≠ i := by
        intro x hx hb he
        have h1 := haft x hx hb
        rw [he, getD_both hfr] at h1
        exact Bool.false_ne_true h1
      refine qOp_mono ?_ (qOp_put hoj (hap j oj hoj e hjf hno) (fun cs b => hsel i o cs b hi) (fun cs b => hsel j oj cs b hoj) hy (h.2 j (ready_mono hj e)).2)
      intro a' h3
      refine ih _ a' (inv.set hj hlt) ?_ (ready_mono hr (Ne.symm e)) h3.1 ?_
      · intro k ok hk hki hkf hkn
        refine hap k ok hk hki ?_ hkn
        by_cases ejk : j = k
        · rw [← ejk]; exact hjf
        · rwa [getD_set_ne true ejk] at hkf
      · rw [Array.setIfInBounds_comm _ _ e]; exact h3.2
/-- the text's order serves for the head. -/
theorem HeadQ.lex {n g : Nat} {T : Act → Prop} (hsel : Region.noSelect ops = true) (hs : Region.sinkB md ops n = true) (hc : Region.chainB md ops n = true) (hn : n < ops.size) :
    ∀ (l : List Oper) (k : Nat) (s : Array Bool) (a : Act), (∀ j, j < l.length → l[j]? = ops[k + j]?) → k + l.length = n → HeadInv md ops n s →
      Region.lexHead md ops g l.length k s = true → wpQuiet P ops C T l a → HeadQ P md ops C n (fun s' a' => Region.seqB md ops g n s' = true ∧ T a') l.length s a
  | [], k, s, a, _, hk, _, hB, h => by
    obtain rfl : k = n := by simpa using hk
    exact ⟨by simpa [Region.lexHead] using hB, h⟩
  | o :: l, k, s, a, hl, hk, inv, hB, h => by
    have h0 : ops[k]? = some o := by simpa using (hl 0 (by simp)).symm
    simp only [List.length_cons, Region.lexHead, Bool.and_eq_true] at hB
    have hk' : k + 1 + l.length = n := by simp only [List.length_cons] at hk; omega
    have hr : k ∈ Region.ready md ops s := by simpa using hB.1.1
    have hq : qOp P ops C k (wpQuiet P ops C T l) a := by unfold qOp; simp only [h0]; exact h
    obtain ⟨v, hy, hK⟩ := yieldsIn_of_qOp h0 hq
    refine HeadQ.early h0 (Region.noSelect_spec hsel) hs hc hn (by omega) (fun s' a' e => seqB_ready e.1) l.length s a inv (Region.free_spec h0 hB.1.2) hr hy ?_
    exact HeadQ.lex hsel hs hc hn l (k + 1) _ _ (fun j hj => by have := hl (j + 1) (by simp; omega); simpa [Nat.add_assoc, Nat.add_comm 1 j] using this) hk' (inv.set hr (by omega)) hB.2 hK
theorem wp_region_quiet_tail {id : Nat} {Q : Exit → Act → World → Prop} {a : Act} {w : World} {l : List Oper} (n : Nat) (hm : P.follows .mixedOrders = true) (hB : Region.lexTailB .any l.toArray n = true)
    (hC : C w.drew) (h : wpQuiet P l.toArray C (fun a' => ∀ w', C w' → wpList P l.toArray Q (l.drop n) a' w') (l.take n) a) : (Code.region id l.toArray true).wp P Q a w := by
  simp only [Region.lexTailB, Bool.and_eq_true, decide_eq_true_eq] at hB
  obtain ⟨⟨⟨⟨hsel, hn⟩, hs⟩, hc⟩, hlex⟩ := hB
  have hnl : n < l.length := by simpa using hn
  have htl : (l.take n).length = n := by simp; omega
  have inv0 : HeadInv .any l.toArray n (Array.replicate l.toArray.size false) :=
    ⟨by simp, fun j oj _ e => (by rw [getD_replicate_false] at e; cases e), fun t _ ht => getD_in (by simpa using ht) (getD_replicate_false _ _)⟩
  have H := HeadQ.lex (md := .any) (g := l.toArray.size - n) hsel hs hc hn (l.take n) 0 _ a (fun j hj => by
    have hj' : j < n := by rw [htl] at hj; exact hj
    simp [hj']) (by simpa using htl) inv0 (by rw [htl]; exact hlex) h
  refine wp_region_any hm ?_
  have hdl : (l.drop n).length = l.toArray.size - n := by simp
  have H2 := HeadQ.any (Q' := Q) (g := l.toArray.size - n) (fun s a' w' hw' hL => by
    have := wpAny_of_seq (md := .any) (Q' := Q) (l.drop n) n s a' w' (fun j => by simp [List.getElem?_drop]) (by rw [hdl]; exact hL.1) (hL.2 w' hw')
    rwa [hdl] at this) _ _ _ w.drew hC H
  rw [htl, show n + (l.toArray.size - n) = l.toArray.size by omega] at H2
  exact H2
end
end Go.Proofs.YtjpaihnnljpaeaaDoor
/- The walk over package fieldpoly's FromRoots. By the verifier of shale. -/
namespace Go.Proofs.YtjpaihnnljpaeaaDoor.Pl
open Go Go.RowKit Fld Bits16
set_option linter.unusedVariables false
section
variable {m : Nat} [M : Mid m]
set_option maxRecDepth 100000 in
theorem madeCap (w : World) (k n : Nat) (hk : k ≤ n) (hn : n ≤ 1000000) :
    (Instr.makeSlice 22 (.int .i64 (k : Int)) (.int .i64 (n : Int))).run Tryd.prog w = .ok (.slice (some ⟨w.heap.size, 0, none⟩) k n) (w.alloc (obj64 (List.replicate n 0))) := by
  obtain ⟨i0, hi, hz0, hz1, hz2⟩ := info64
  rw [run_make (P := Tryd.prog) w 22 3 i0 (.int .i64 0) Tryd.underlying22 hi hz0 .i64 .i64 (k : Int) (n : Int) (by omega) (by omega) (by rw [hz2]; omega) (by omega)]
  congr 2
  unfold obj64 madeCells
  rw [hz1]
  congr 1
  apply Array.ext
  · simp [cells64]
  · intro i h1 h2
    simp [Value.cells, Nat.mod_one, cells64]
/-- the product of x + a over the first k of l. -/
def pls (l : List Int) : Nat → Ser (El m)
  | 0 => pone
  | k + 1 => cv (pls l k) (lin (elm m (l.getD k 0)))
theorem lin_split (a : El m) : lin a = padd (mono 0 a) (mono 1 1) := by
  funext i
  show (if i = 0 then a else if i = 1 then 1 else 0) = (if i = 0 then a else 0) + (if i = 1 then 1 else 0)
  by_cases h0 : i = 0
  · subst h0; rw [if_pos rfl, if_pos rfl, if_neg (by omega), Fl.add_zero]
  · rw [if_neg h0, if_neg h0, zero_add]
theorem lin_succ (P : Ser (El m)) (a : El m) (i : Nat) : cv P (lin a) (i + 1) = P i + P (i + 1) * a := by
  rw [cv_comm, lin_split, cv_add]
  show cv (mono 0 a) P (i + 1) + cv (mono 1 1) P (i + 1) = _
  rw [cv_mono, cv_mono, if_neg (by omega), if_neg (by omega), Nat.sub_zero, Nat.add_sub_cancel, one_mul, Fl.add_comm, Fl.mul_comm a]
theorem lin_first (P : Ser (El m)) (a : El m) : cv P (lin a) 0 = P 0 * a := by
  rw [cv_comm, lin_split, cv_add]
  show cv (mono 0 a) P 0 + cv (mono 1 1) P 0 = _
  rw [cv_mono, cv_mono, if_neg (by omega), if_pos (by omega), Nat.sub_zero, Fl.add_zero, Fl.mul_comm a]
theorem pls_dg (l : List Int) : ∀ k, Dg (pls (m := m) l k) k
  | 0 => ⟨by show (if (0 : Nat) = 0 then (1 : El m) else 0) ≠ 0; rw [if_pos rfl]; exact Fl.one_ne, fun i hi => if_neg (by omega)⟩
  | k + 1 => (pls_dg l k).mul (lin_dg _)
/-- the new one above i, the old one from i down. -/
def mixS (P Q : Ser (El m)) (i : Nat) : Ser (El m) := fun j => if i < j then Q j else P j
omit M in
theorem mixS_step (P Q : Ser (El m)) (i : Nat) : ∀ j, j ≠ i + 1 → mixS P Q i j = mixS P Q (i + 1) j := by
  intro j hj
  unfold mixS
  by_cases h : i < j
  · rw [if_pos h, if_pos (by omega)]
  · rw [if_neg h, if_neg (by omega)]
omit M in
theorem mixS_new (P Q : Ser (El m)) (i : Nat) : mixS P Q i (i + 1) = Q (i + 1) := if_pos (by omega)
omit M in
theorem mixS_old (P Q : Ser (El m)) (i j : Nat) (h : j ≤ i) : mixS P Q i j = P j := if_neg (by omega)
theorem mixS_bd {P Q : Ser (El m)} {n : Nat} (hP : Bd P (n + 1)) (hQ : Bd Q (n + 1)) : mixS P Q n = P := funext fun j => by
  unfold mixS
  by_cases h : n < j
  · rw [if_pos h, hQ j (by omega), hP j (by omega)]
  · rw [if_neg h]
end
end Go.Proofs.YtjpaihnnljpaeaaDoor.Pl
/- The statements' own fields (shaleref2): what each function answers. By the verifier of shale. -/
namespace Go.Proofs.YtjpaihnnljpaeaaDoor.Fld
open Go Go.RowKit Bits16
set_option linter.unusedVariables false
set_option maxHeartbeats 400000 in
theorem low_any (m : Nat) (h1 : 3 ≤ m) (h2 : m ≤ 14) (a : Int) : Gives 23 #[.int .i64 (m : Int), .int .i64 a] (.int .i64 (h (el m a))) := by
  intro w
  have ho := shl_one m h2
  have ha := and_els m h2 a
  have e1 := els_lo m h1
  have e2 := els_hi m h2
  go_enter Tryd.func23, Tryd.ntmps23
  go_wp2
  go_ret
  exact ⟨rfl, rfl⟩
set_option maxRecDepth 100000 in
set_option maxHeartbeats 1000000 in
theorem rpoly_in (m : Nat) (h1 : 3 ≤ m) (h2 : m ≤ 14) (w : World) :
    Calls Tryd.prog 35 #[.int .i64 (m : Int)] w fun e w' => e = .returned (.int .i64 (h (poly m))) ∧ Below w.heap.size w w' := by
  have hc := poly_nth m h1 h2
  have a1 : (3 : Int) ≤ (m : Int) := by omega
  have a2 : (m : Int) ≤ 14 := by omega
  go_enter Tryd.func35, Tryd.ntmps35
  go_wp2
  go_ret
  exact ⟨rfl, (Below.refl _ _).alloc (Nat.le_refl _) _⟩
set_option maxHeartbeats 400000 in
theorem rpoly_out (m : Int) (hm : m < 3 ∨ 14 < m) : Gives 35 #[.int .i64 m] (.int .i64 0) := by
  intro w
  rcases hm with hm | hm
  · go_enter Tryd.func35, Tryd.ntmps35
    go_wp2
    go_ret
    exact ⟨rfl, rfl⟩
  · have hm' : ¬ m < 3 := by omega
    have hm2 : 3 ≤ m := by omega
    go_enter Tryd.func35, Tryd.ntmps35
    go_wp2
    go_ret
    exact ⟨rfl, rfl⟩
/-- the loop of the product, its state behind k rounds: a doubled k times, the rest of b, the sum so far. -/
theorem mulN_more (m : Nat) (h1 : 3 ≤ m) (h2 : m ≤ 14) : ∀ (n : Nat) (a b : BitVec 16), b.toNat < 2 ^ n → mulN m (n + 1) a b = mulN m n a b
  | 0, a, b, hb => by
    have : b = 0 := BitVec.eq_of_toNat_eq (by show _ = 0; omega)
    subst this
    rw [mulN_zero, mulN_zero]
  | n + 1, a, b, hb => by
    have e1 : (b >>> 1).toNat = b.toNat / 2 := by rw [BitVec.toNat_ushiftRight, Nat.shiftRight_eq_div_pow]
    have e2 : 2 ^ (n + 1) = 2 * 2 ^ n := by rw [Nat.pow_succ, Nat.mul_comm]
    rw [mulN, mulN_more m h1 h2 n _ _ (by omega)]; rfl
theorem low_bit (b : BitVec 16) : (bits .and .i64 (h b) 1 == 1) = b.getLsbD 0 := by
  rw [show bits .and .i64 (h b) 1 = h (b &&& 1#16) by
    show IntKind.i64.wrap ((BitVec.ofInt 64 (h b) &&& BitVec.ofInt 64 1).toNat : Int) = _
    rw [BitVec.toNat_and, e64, show (BitVec.ofInt 64 1).toNat = (1#16 : BitVec 16).toNat by decide, ← BitVec.toNat_and]; exact w64 _]
  have e : (b &&& 1#16).toNat = b.toNat % 2 := by rw [BitVec.toNat_and]; exact Nat.and_one_is_mod _
  unfold h
  rw [e, BitVec.getLsbD, Nat.testBit_zero, Bool.eq_iff_iff, beq_iff_eq, decide_eq_true_iff]
  omega
theorem half (b : BitVec 16) : h b / 2 = h (b >>> 1) := by
  unfold h
  rw [BitVec.toNat_ushiftRight, Nat.shiftRight_eq_div_pow]; omega
/-- one round of the product's loop. -/
theorem mul_step (m : Nat) (h1 : 3 ≤ m) (h2 : m ≤ 14) (A B : BitVec 16) : mulN m 16 A B = (if B.getLsbD 0 then A else 0) ^^^ mulN m 16 (dbl m A) (B >>> 1) := by
  have e1 : (B >>> 1).toNat = B.toNat / 2 := by rw [BitVec.toNat_ushiftRight, Nat.shiftRight_eq_div_pow]
  rw [mulN_more m h1 h2 15 (dbl m A) (B >>> 1) (by have := B.isLt; omega)]; rfl
theorem top_bit (m : Nat) (h1 : 3 ≤ m) (h2 : m ≤ 14) (A : BitVec 16) (hA : A.toNat < 2 ^ m) :
    (((A <<< 1) >>> m).getLsbD 0 = true ∧ dbl m A = (A <<< 1) ^^^ poly m) ∨ (((A <<< 1) >>> m).getLsbD 0 = false ∧ dbl m A = A <<< 1) := by
  have hm := pow14 m h2
  have e1 : (A <<< 1).toNat = A.toNat * 2 := by
    rw [BitVec.toNat_shiftLeft, Nat.shiftLeft_eq, Nat.pow_one]; omega
  have e2 : ((A <<< 1) >>> m).toNat = A.toNat * 2 / 2 ^ m := by
    rw [BitVec.toNat_ushiftRight, e1, Nat.shiftRight_eq_div_pow]
  have h3 : A.toNat * 2 / 2 ^ m < 2 := Nat.div_lt_of_lt_mul (by omega)
  have hb : ((A <<< 1) >>> m).getLsbD 0 = decide (((A <<< 1) >>> m).toNat % 2 = 1) := by
    rw [BitVec.getLsbD, Nat.testBit_zero]
  by_cases h : (A <<< 1) >>> m = 0
  · refine Or.inr ⟨by rw [h]; rfl, if_pos h⟩
  · refine Or.inl ⟨?_, if_neg h⟩
    rw [hb, e2, decide_eq_true_iff]
    have : A.toNat * 2 / 2 ^ m ≠ 0 := fun h4 => h (BitVec.eq_of_toNat_eq (by rw [e2]; exact h4))
    generalize A.toNat * 2 / 2 ^ m = q at this h3
    omega
section
attribute [local go_sem] rxor
set_option maxRecDepth 100000 in
set_option maxHeartbeats 2000000 in
theorem rmul_any (m : Nat) (h1 : 3 ≤ m) (h2 : m ≤ 14) (a b : Int) (w : World) :
    Calls Tryd.prog 16 #[.int .i64 (m : Int), .int .i64 a, .int .i64 b] w fun e w' => e = .returned (.int .i64 (h (fmul m (el m a) (el m b)))) ∧ Below w.heap.size w w' := by
  have hla := el_lt m h2 a
  have hlb := el_lt m h2 b
  have hpl := low_any m h1 h2
  have hp14 := pow14 m h2
  have a1 : (3 : Int) ≤ (m : Int) := by omega
  have a2 : (m : Int) ≤ 14 := by omega
  go_enter Tryd.func16, Tryd.ntmps16
  go_wp2_with fail
  refine (hpl a w).mono ?_
  rintro e w1 ⟨rfl, rfl⟩
  go_wp2_with fail
  refine (hpl b w).mono ?_
  rintro e w1 ⟨rfl, rfl⟩
  go_wp2_with fail
  refine (rpoly_in m h1 h2 w).mono ?_
  rintro e w1 ⟨rfl, b1⟩
  clear hpl
  go_wp2_with fail
  go_loopg [1, 2, 8] (el m b).toNat (fun g s1 s2 s8 wx => ∃ A B X : BitVec 16, g = B.toNat ∧ A.toNat < 2 ^ m ∧ B.toNat < 2 ^ m ∧ s1 = .int .i64 (h A) ∧ s2 = .int .i64 (h B) ∧ s8 = .int .i64 (h X) ∧ X ^^^ mulN m 16 A B = fmul m (el m a) (el m b) ∧ w1 = wx)
  case atStart => exact ⟨el m a, el m b, 0, rfl, hla, hlb, rfl, rfl, rfl, BitVec.zero_xor, rfl⟩
  case round =>
    obtain ⟨A, B, X, hg, hA, hB, rfl, rfl, rfl, hinv, rfl⟩ := hrel
    have HG := Lib.hid hg
    have HI := Lib.hid hinv
    clear hg hinv hla hlb
    by_cases h0 : B = 0
    · have t : ¬ (0 < h B) := by subst h0; decide
      have HR : Hid (X = fmul m (el m a) (el m b)) := by
        show _ = _
        rw [← HI.out, h0, mulN_zero]; simp
      clear h0
      go_wp2_with fail
      go_ret
      exact ⟨ret_i64 (by rw [HR.out]), b1⟩
    · have hB0 := nat_pos B h0
      have t : 0 < h B := by unfold h; omega
      have s1 := fun yk => twice yk A (by omega)
      have s2 := half B
      have s3 := low_bit B
      have s4 := down (A <<< 1) m
      have s5 := low_bit ((A <<< 1) >>> m)
      have hh : (B >>> 1).toNat = B.toNat / 2 := by rw [BitVec.toNat_ushiftRight, Nat.shiftRight_eq_div_pow]
      have hd := dbl_lt m h1 h2 A hA
      have HS := Lib.hid (mul_step m h1 h2 A B)
      rw [← s4] at s5
      clear s4 h0
      rcases top_bit m h1 h2 A hA with ⟨q1, q2⟩ | ⟨q1, q2⟩
      all_goals
        rw [q1] at s5
        have HQ := Lib.hid q2
        clear q1 q2
        rcases hbit : B.getLsbD 0 with _ | _
        all_goals
          have HBt := Lib.hid hbit
          rw [hbit] at s3
          clear hbit
          go_wp2_with fail
          go_roundg (B >>> 1).toNat
          case measure => have := HG.out; omega
          case rel =>
            first
              | exact ⟨dbl m A, B >>> 1, X ^^^ A, rfl, hd, by omega, by rw [HQ.out], rfl, rfl, by rw [← HI.out, HS.out, HBt.out, if_pos rfl, BitVec.xor_assoc], rfl⟩
              | exact ⟨dbl m A, B >>> 1, X, rfl, hd, by omega, by rw [HQ.out], rfl, rfl, by rw [← HI.out, HS.out, HBt.out, if_neg (by decide), show ∀ y : BitVec 16, 0 ^^^ y = y from fun y => BitVec.zero_xor], rfl⟩
theorem rmul_at (m : Nat) (h1 : 3 ≤ m) (h2 : m ≤ 14) (x y : BitVec 16) (hx : x.toNat < 2 ^ m) (hy : y.toNat < 2 ^ m) (w : World) :
    Calls Tryd.prog 16 #[.int .i64 (m : Int), .int .i64 (h x), .int .i64 (h y)] w fun e w' => e = .returned (.int .i64 (h (fmul m x y))) ∧ Below w.heap.size w w' := by
  have := rmul_any m h1 h2 (h x) (h y) w
  rwa [el_of m h2 x hx, el_of m h2 y hy] at this
end
/-- the power's loop: what is left to do. -/
theorem pow_step (m : Nat) (h1 : 3 ≤ m) (h2 : m ≤ 14) (a x : BitVec 16) (ha : a.toNat < 2 ^ m) (hx : x.toNat < 2 ^ m) (n : Nat) :
    fmul m x (fpow m a n) = fmul m (if n % 2 = 1 then fmul m x a else x) (fpow m (fmul m a a) (n / 2)) := by
  rw [fpow_sq m h1 h2 a ha]
  by_cases hn : n % 2 = 1
  · rw [if_pos hn]
    obtain ⟨k, rfl⟩ : ∃ k, n = 2 * k + 1 := ⟨n / 2, by omega⟩
    rw [show (2 * k + 1) / 2 = k by omega, fpow, fmul_comm m h1 h2 (fpow m a (2 * k)) a (fpow_lt m h1 h2 a ha _) ha, fmul_assoc m h1 h2 x a _ hx ha (fpow_lt m h1 h2 a ha _)]
  · rw [if_neg hn, show 2 * (n / 2) = n by omega]
theorem odd_test (n : Nat) (hn : n < 1000000) : (bits .and .i64 (n : Int) 1 == 1) = decide (n % 2 = 1) := by
  have e : bits .and .i64 (n : Int) 1 = ((n % 2 : Nat) : Int) := by
    show IntKind.i64.wrap ((BitVec.ofInt 64 (n : Int) &&& BitVec.ofInt 64 1).toNat : Int) = _
    rw [BitVec.toNat_and, show (BitVec.ofInt 64 (n : Int)).toNat = n by rw [BitVec.toNat_ofInt]; omega, show (BitVec.ofInt 64 1).toNat = 1 by decide, Nat.and_one_is_mod]
    exact IntWalk.i64_in _ (by omega)
  rw [e, Bool.eq_iff_iff, beq_iff_eq, decide_eq_true_iff]
  omega
end Go.Proofs.YtjpaihnnljpaeaaDoor.Fld
/- The statements' own fields (shaleref2): powers, inverses, logarithms, orders, traces. By the verifier of shale. -/
namespace Go.Proofs.YtjpaihnnljpaeaaDoor.Fld
open Go Go.RowKit Bits16
set_option linter.unusedVariables false
set_option maxRecDepth 100000 in
set_option maxHeartbeats 2000000 in
theorem rpower_any (m : Nat) (h1 : 3 ≤ m) (h2 : m ≤ 14) (a : Int) (n : Nat) (hn : n ≤ 16384) (w : World) :
    Calls Tryd.prog 47 #[.int .i64 (m : Int), .int .i64 a, .int .i64 (n : Int)] w fun e w' => e = .returned (.int .i64 (h (fpow m (el m a) n))) ∧ Below w.heap.size w w' := by
  have hla := el_lt m h2 a
  have hpl := low_any m h1 h2
  go_enter Tryd.func47, Tryd.ntmps47
  go_wp2_with fail
  refine (hpl a w).mono ?_
  rintro e w1 ⟨rfl, rfl⟩
  clear hpl
  go_wp2_with fail
  go_loopg [1, 2, 7] n (fun g s1 s2 s7 wx => ∃ (A X : BitVec 16) (k : Nat), g = k ∧ k ≤ 16384 ∧ A.toNat < 2 ^ m ∧ X.toNat < 2 ^ m ∧ s1 = .int .i64 (h A) ∧ s2 = .int .i64 (k : Int) ∧ s7 = .int .i64 (h X) ∧ fmul m X (fpow m A k) = fpow m (el m a) n ∧ Below w.heap.size w wx)
  case atStart => exact ⟨el m a, 1, n, rfl, hn, hla, one_lt m h1, rfl, rfl, rfl, one_fmul m h1 h2 _ (fpow_lt m h1 h2 _ hla n), Below.refl _ _⟩
  case round =>
    obtain ⟨A, X, k, hg, hk, hA, hX, rfl, rfl, rfl, hinv, hb⟩ := hrel
    have HG := Lib.hid hg
    have HI := Lib.hid hinv
    clear hg hinv hla
    by_cases h0 : k = 0
    · subst h0
      have HR : Hid (X = fpow m (el m a) n) := by
        show _ = _
        rw [← HI.out]; exact (fmul_one m h1 h2 X hX).symm
      go_wp2_with fail
      go_ret
      exact ⟨ret_i64 (by rw [HR.out]), hb⟩
    · have t : 0 < (k : Int) := by omega
      have t0 : 0 < k := by omega
      have s3 := odd_test k (by omega)
      have hh : Hid ((k : Int) / 2 = ((k / 2 : Nat) : Int)) := by show _ = _; omega
      have HS := Lib.hid (pow_step m h1 h2 A X hA hX k)
      clear h0
      by_cases ho : k % 2 = 1
      · have hmx := fmul_lt m h1 h2 X A hX
        have hma := fmul_lt m h1 h2 A A hA
        rw [show decide (k % 2 = 1) = true from decide_eq_true ho] at s3
        have HO := Lib.hid ho
        clear ho
        go_wp2_with fail
        refine (rmul_at m h1 h2 X A hX hA _).mono ?_
        rintro e w2 ⟨rfl, b2⟩
        have b2 := hb.trans (b2.mono hb.size)
        go_wp2_with fail
        refine (rmul_at m h1 h2 A A hA hA _).mono ?_
        rintro e w3 ⟨rfl, b3⟩
        have b3 := b2.trans (b3.mono b2.size)
        go_wp2_with fail
        go_roundg (k / 2)
        case measure => have := HG.out; omega
        case rel => exact ⟨fmul m A A, fmul m X A, k / 2, rfl, by omega, hma, hmx, rfl, by rw [hh.out], rfl, by rw [← HI.out, HS.out, if_pos HO.out], b3⟩
      · have hma := fmul_lt m h1 h2 A A hA
        rw [show decide (k % 2 = 1) = false from decide_eq_false ho] at s3
        have HO := Lib.hid ho
        clear ho
        go_wp2_with fail
        refine (rmul_at m h1 h2 A A hA hA _).mono ?_
        rintro e w3 ⟨rfl, b3⟩
        have b3 := hb.trans (b3.mono hb.size)
        go_wp2_with fail
        go_roundg (k / 2)
        case measure => have := HG.out; omega
        case rel => exact ⟨fmul m A A, X, k / 2, rfl, by omega, hma, hX, rfl, by rw [hh.out], rfl, by rw [← HI.out, HS.out, if_neg HO.out], b3⟩
theorem rpower_at (m : Nat) (h1 : 3 ≤ m) (h2 : m ≤ 14) (a x : Int) (n : Nat) (hx : x = (n : Int)) (hn : n ≤ 16384) (w : World) :
    Calls Tryd.prog 47 #[.int .i64 (m : Int), .int .i64 a, .int .i64 x] w fun e w' => e = .returned (.int .i64 (h (fpow m (el m a) n))) ∧ Below w.heap.size w w' := by
  subst hx; exact rpower_any m h1 h2 a n hn w
/-- an exponent brought into 0 .. size - 1 as the statements do. -/
theorem exp_norm (m : Nat) (h1 : 3 ≤ m) (h2 : m ≤ 14) (z : Int) : ∃ k : Nat, k < size m ∧ z.tmod (size m : Int) % (size m : Int) = (k : Int) ∧ z % (size m : Int) = (k : Int) := by
  have z1 := size_lo m h1
  have z2 := size_hi m h2
  have q1 := Int.tmod_lt_of_pos z (b := (size m : Int)) (by omega)
  have q2 : -(size m : Int) < z.tmod (size m : Int) := by
    have := Int.tmod_lt_of_pos (-z) (b := (size m : Int)) (by omega)
    rw [Int.neg_tmod] at this
    omega
  have hd : z % (size m : Int) = (z.tmod (size m : Int)) % (size m : Int) := by
    rw [Int.tmod_eq_emod]
    split
    · simp
    · rw [Int.natAbs_natCast, Int.sub_emod, Int.emod_self, Int.emod_emod, Int.sub_zero, Int.emod_emod]
  have n1 := Int.emod_nonneg z (b := (size m : Int)) (by omega)
  have n2 := Int.emod_lt_of_pos z (b := (size m : Int)) (by omega)
  refine ⟨(z % (size m : Int)).toNat, by omega, ?_, by omega⟩
  rw [← hd]
  omega
set_option maxHeartbeats 400000 in
theorem rpow_any (m : Nat) (h1 : 3 ≤ m) (h2 : m ≤ 14) (a z : Int) (w : World) :
    Calls Tryd.prog 50 #[.int .i64 (m : Int), .int .i64 a, .int .i64 z] w fun e w' => e = .returned (.int .i64 (h (powZ m (el m a) z))) ∧ Below w.heap.size w w' := by
  have hpl := low_any m h1 h2
  have ho := shl_one m h2
  have he : ((els m : Int) - 1) = (size m : Int) := by rw [els_eq]; omega
  have z1 := size_lo m h1
  have z2 := size_hi m h2
  have e1 := els_lo m h1
  have e2 := els_hi m h2
  by_cases h0 : el m a = 0
  · have t := h_zero h0
    by_cases hz : z = 0
    · subst hz
      have e : h (powZ m (el m a) 0) = 1 := by rw [h0]; rfl
      rw [e]
      clear e h0
      go_enter Tryd.func50, Tryd.ntmps50
      go_wp2_with fail
      refine (hpl a w).mono ?_
      rintro e w1 ⟨rfl, rfl⟩
      go_wp2_with fail
      go_ret
      exact ⟨rfl, Below.refl _ _⟩
    · have e : h (powZ m (el m a) z) = 0 := by rw [h0]; unfold powZ; rw [if_pos rfl, if_neg hz]; rfl
      rw [e]
      have tz : (z == 0) = false := beq_eq_false_iff_ne.2 hz
      clear e h0 hz
      go_enter Tryd.func50, Tryd.ntmps50
      go_wp2_with fail
      refine (hpl a w).mono ?_
      rintro e w1 ⟨rfl, rfl⟩
      go_wp2_with fail
      go_ret
      exact ⟨rfl, Below.refl _ _⟩
  · have t := h_not h0
    obtain ⟨k, hk, hke, hkz⟩ := exp_norm m h1 h2 z
    have q1 := Int.tmod_lt_of_pos z (b := (size m : Int)) (by omega)
    have q2 : -(size m : Int) < z.tmod (size m : Int) := by
      have := Int.tmod_lt_of_pos (-z) (b := (size m : Int)) (by omega)
      rw [Int.neg_tmod] at this
      omega
    have HR : Hid (fpow m (el m a) k = powZ m (el m a) z) := by
      show _ = _
      rw [← powZ_nat m h1 h2 _ (el_lt m h2 a)]
      unfold powZ
      rw [if_neg h0, if_neg h0]
      apply pwZ_congr
      rw [← hkz, Int.mul_emod, Int.emod_emod, ← Int.mul_emod]
    clear h0 hkz
    have HK := Lib.hid hke
    clear hke
    go_enter Tryd.func50, Tryd.ntmps50
    go_wp2_with fail
    refine (hpl a w).mono ?_
    rintro e w1 ⟨rfl, rfl⟩
    go_wp2_with fail
    refine (rpower_at m h1 h2 a _ k HK.out (by omega) _).mono ?_
    rintro e w1 ⟨rfl, b1⟩
    rw [HR.out]
    go_wp2_with fail
    go_ret
    exact ⟨rfl, b1⟩
theorem el_two (m : Nat) (h1 : 3 ≤ m) (h2 : m ≤ 14) : el m 2 = pw m 1 := by
  have h8 := two_le m h1
  have e1 : pw m 1 = dbl m 1 := rfl
  have e2 : dbl m 1 = 2 := by
    rw [dbl_bit m h1 h2 1 (one_lt m h1)]
    have : (1 : BitVec 16).getLsbD (m - 1) = false := by
      rw [BitVec.getLsbD]
      exact Nat.testBit_lt_two_pow (show 1 < 2 ^ (m - 1) from Nat.one_lt_two_pow (by omega))
    rw [this, if_neg Bool.false_ne_true]; decide
  rw [e1, e2]
  exact el_of m h2 2 (by show 2 < _; omega)
set_option maxHeartbeats 400000 in
theorem rexp_any (m : Nat) (h1 : 3 ≤ m) (h2 : m ≤ 14) (z : Int) (w : World) :
    Calls Tryd.prog 38 #[.int .i64 (m : Int), .int .i64 z] w fun e w' => e = .returned (.int .i64 (h (pwZ m z))) ∧ Below w.heap.size w w' := by
  have HR : Hid (powZ m (el m 2) z = pwZ m z) := by
    show _ = _
    rw [el_two m h1 h2, powZ_pw m h1 h2, Int.natCast_one, Int.one_mul]
  go_enter Tryd.func38, Tryd.ntmps38
  go_wp2_with fail
  refine (rpow_any m h1 h2 2 z _).mono ?_
  rintro e w1 ⟨rfl, b1⟩
  rw [HR.out]
  go_wp2_with fail
  go_ret
  exact ⟨rfl, b1⟩
set_option maxHeartbeats 400000 in
theorem rinv_any (m : Nat) (h1 : 3 ≤ m) (h2 : m ≤ 14) (a : Int) (h0 : el m a ≠ 0) (w : World) :
    Calls Tryd.prog 30 #[.int .i64 (m : Int), .int .i64 a] w fun e w' => e = .returned (.int .i64 (h (pwZ m (-(lg m (el m a) : Int))))) ∧ Below w.heap.size w w' := by
  have HR : Hid (fpow m (el m a) (els m - 2) = pwZ m (-(lg m (el m a) : Int))) := by
    show _ = _
    obtain ⟨l1, l2⟩ := lg_spec m h1 h2 _ (el_lt m h2 a) h0
    have z1 := size_lo m h1
    rw [← powZ_nat m h1 h2 _ (el_lt m h2 a)]
    unfold powZ
    rw [if_neg h0]
    apply pwZ_congr
    rw [els_eq, show size m + 1 - 2 = size m - 1 by omega, show ((size m - 1 : Nat) : Int) = (size m : Int) - 1 by omega, Int.mul_sub, Int.mul_one, Int.sub_emod, Int.mul_emod_left, ← Int.zero_emod (size m : Int), ← Int.sub_emod]
    simp
  have ho := shl_one m h2
  have e1 := els_lo m h1
  have e2 := els_hi m h2
  clear h0
  go_enter Tryd.func30, Tryd.ntmps30
  go_wp2_with fail
  refine (rpower_at m h1 h2 a _ (els m - 2) (by omega) (by omega) _).mono ?_
  rintro e w1 ⟨rfl, b1⟩
  rw [HR.out]
  go_wp2_with fail
  go_ret
  exact ⟨rfl, b1⟩
theorem rmul_two (m : Nat) (h1 : 3 ≤ m) (h2 : m ≤ 14) (k : Nat) (w : World) :
    Calls Tryd.prog 16 #[.int .i64 (m : Int), .int .i64 (h (pw m k)), .int .i64 2] w fun e w' => e = .returned (.int .i64 (h (pw m (k + 1)))) ∧ Below w.heap.size w w' := by
  have := rmul_any m h1 h2 (h (pw m k)) 2 w
  rwa [el_of m h2 _ (pw_ne m h1 h2 k).2, el_two m h1 h2, fmul_pw m h1 h2] at this
theorem h_ne {x y : BitVec 16} (e : x ≠ y) : (h x != h y) = true := by
  rw [bne_iff_ne]; exact fun e2 => e (h_inj _ _ e2)
theorem h_same {x y : BitVec 16} (e : x = y) : (h x != h y) = false := by subst e; simp
section
attribute [local go_sem] rxor
end
end Go.Proofs.YtjpaihnnljpaeaaDoor.Fld
/- The statements' own polynomials (shaleref2): Trim, Eval. By the verifier of shale. -/
namespace Go.Proofs.YtjpaihnnljpaeaaDoor.Pl
open Go Go.RowKit Fld Bits16
set_option linter.unusedVariables false
theorem own_rowz {w : World} {base n cap : Nat} {a : Option Addr} {l : List Int} (e : Own64 w base (.slice a n cap) n l) : RowZ w a n cap l ∧ ∀ bb off, a = some ⟨bb, off, none⟩ → base ≤ bb := by
  have hl := e.len
  rcases e.2 with ⟨h0, h1⟩ | ⟨g', cap', cur, hv, hbg, hh, hnc, hm, hs, ht⟩
  · simp only [Value.slice.injEq] at h0
    obtain ⟨rfl, rfl, rfl⟩ := h0
    exact ⟨⟨by omega, Nat.le_refl _, by decide, fun i hi => by omega⟩, fun bb off e => by cases e⟩
  · simp only [Value.slice.injEq] at hv
    obtain ⟨rfl, _, rfl⟩ := hv
    refine ⟨⟨hl.symm, hnc, hm, fun i hi => ⟨g', 0, rfl, ?_, lt_of_block hh⟩⟩, fun bb off e => by simp only [Option.some.injEq, Addr.mk.injEq] at e; omega⟩
    obtain ⟨g2, c2, e2, _, _, _, hc⟩ := e.cells (by omega : 0 < n)
    simp only [Value.slice.injEq, Option.some.injEq, Addr.mk.injEq] at e2
    obtain ⟨⟨rfl, _⟩, _⟩ := e2
    rw [Nat.zero_add]; exact hc i hi
/-- a polynomial in memory that is not older, its last coefficient not 0. -/
structure ROut (m : Nat) [M : Mid m] (w0 w : World) (a : Option Addr) (n cap : Nat) (p : Ser (El m)) : Prop where
  row : RowZ w a n cap (nums p n)
  bd : Bd p n
  top : top p n = n
  fresh : ∀ bb off, a = some ⟨bb, off, none⟩ → w0.heap.size ≤ bb
section
variable {m : Nat} [M : Mid m]
theorem ROut.since {w0 w w' : World} {a : Option Addr} {n cap : Nat} {p : Ser (El m)} (h : ROut m w0 w a n cap p) (b : Below w.heap.size w w') : ROut m w0 w' a n cap p :=
  ⟨h.row.below b, h.bd, h.top, h.fresh⟩
theorem ROut.from {w0 w1 w : World} {a : Option Addr} {n cap : Nat} {p : Ser (El m)} (h : ROut m w1 w a n cap p) (b : w0.heap.size ≤ w1.heap.size) : ROut m w0 w a n cap p :=
  ⟨h.row, h.bd, h.top, fun bb off e => Nat.le_trans b (h.fresh bb off e)⟩
omit M in
theorem nums_succ (p : Ser (El m)) (k : Nat) : nums p (k + 1) = nums p k ++ [zn (p k)] := by
  unfold nums; rw [List.range_succ, List.map_append]; rfl
theorem rlow_any (z : Int) (w : World) : Calls Tryd.prog 23 #[.int .i64 (m : Int), .int .i64 z] w fun e w' => e = .returned (.int .i64 (zn (elm m z))) ∧ w = w' := by
  refine (low_any m M.lo M.hi z w).mono ?_
  rintro e w' ⟨rfl, rfl⟩
  exact ⟨rfl, rfl⟩
set_option maxRecDepth 100000 in
set_option maxHeartbeats 1000000 in
theorem rtrim_any (a : Option Addr) (n cap : Nat) (l : List Int) (w : World) (h : RowZ w a n cap l) (hn : n ≤ 1000000) :
    Calls Tryd.prog 33 #[.int .i64 (m : Int), .slice a n cap] w
      fun e w' => ∃ a' n' cap', e = .returned (.slice a' n' cap') ∧ ROut m w w' a' n' cap' (sr m l) ∧ Below w.heap.size w w' := by
  obtain ⟨i0, hi, hz0, hz1, hz2⟩ := info64
  have HP := Lib.hid h
  have HBn : Hid (Bd (sr m l) n) := by have := sr_bd (m := m) l; rwa [← h.hlen] at this
  clear h
  go_enter Tryd.func33, Tryd.ntmps33
  go_wp2_with fail
  go_loopg [5, 6] n (fun gh s5 s6 wx => ∃ (k : Nat), gh = n - k ∧ k ≤ n ∧ s6 = .int .i64 (k : Int) ∧ Own64 wx w.heap.size s5 k (nums (sr m l) k) ∧ Below w.heap.size w wx)
  case atStart => exact ⟨0, rfl, Nat.zero_le _, rfl, Own64.nil w w.heap.size, Below.refl _ _⟩
  case round =>
    obtain ⟨k, hg, hkn, rfl, hown, hB⟩ := hrel
    have HG := Lib.hid hg
    clear hg
    obtain ⟨av, cv, rfl⟩ := own_slice hown
    by_cases hlt : k < n
    · have x0 : (0 : Int) ≤ (k : Int) := by omega
      have x1 : (k : Int) < (n : Int) := by omega
      obtain ⟨bb, off, rfl, c1, hb⟩ := (HP.out.below hB).row k hlt
      have hbs := hB.size
      have HOwn := Lib.hid hown
      have HBB := Lib.hid hB
      have HF : Hid (nums (sr m l) (k + 1) = nums (sr m l) k ++ [zn (sr m l k)]) := nums_succ _ _
      clear hown hB hb
      go_wp2_with fail
      refine (rlow_any (l.getD k 0) wr).mono ?_
      rintro e w1 ⟨rfl, rfl⟩
      rw [sr_at]
      go_wp2_with (at_builtin; refine wpList_append_own _ rfl _ _ 22 rfl w.heap.size 3 i0 (.int .i64 0) 1 8 Tryd.underlying22 hi hz0 hz1 hz2 rfl (by decide) _ k _ rfl (World.ownsRow.alloc HOwn.out _) ⟨wr.heap.size, 0, none⟩ 1 1 [.int .i64 (zn (sr m l k))] rfl rfl (cell_one_new _ _ _) (ints_oneCell .i64 [_]) (by unfold maxLen; omega) (by omega) (by simp; omega) ?_; intro v7 w7 hown7 hgrow _)
      have ho7 : Own64 w7 w.heap.size v7 (k + 1) (nums (sr m l) (k + 1)) := by
        unfold Own64
        rw [HF.out, ← cells64_append]
        exact hown7
      have b7 : Below w.heap.size w w7 := (HBB.out.alloc hbs _).grown hgrow (by simp; omega) (fun g hg => (HOwn.out.block g hg).1)
      clear hown7 hgrow c1
      go_wp2_with fail
      go_roundg (n - (k + 1))
      case measure => have := HG.out; omega
      case rel => exact ⟨k + 1, rfl, by omega, by go_num, ho7, b7⟩
    · obtain rfl : k = n := by omega
      obtain ⟨hrow, hfr⟩ := own_rowz hown
      have HR := Lib.hid hrow
      have HFr := Lib.hid hfr
      have hcap := hrow.hcap
      have hmost := hrow.hmost
      unfold maxLen at hmost
      have HBB := Lib.hid hB
      clear hown hrow hfr hB
      go_wp2_with fail
      go_loopg [5] k (fun gh s5 wx => ∃ j : Nat, gh = j ∧ j ≤ k ∧ s5 = .slice av j cv ∧ Hid (top (sr m l) j = top (sr m l) k) ∧ wr = wx)
      case atStart => exact ⟨k, rfl, Nat.le_refl _, rfl, rfl, rfl⟩
      case round =>
        obtain ⟨j, hg, hj, rfl, HT, rfl⟩ := hrel
        have HG2 := Lib.hid hg
        clear hg
        have y0 : (0 : Int) ≤ (j : Int) := by omega
        have y1 : (j : Int) ≤ (cv : Int) := by omega
        rcases j with _ | j
        · have HF : Hid (ROut m w wr av 0 cv (sr m l)) := by
            have h0 : top (sr m l) k = 0 := HT.out.symm
            exact ⟨HR.out.take 0 (Nat.zero_le _) |> fun h => by rwa [nums_take _ (Nat.zero_le _)] at h, by have := top_bd HBn.out; rwa [h0] at this, rfl, HFr.out⟩
          clear HT
          go_wp2_with fail
          go_ret
          exact ⟨_, _, _, rfl, HF.out, HBB.out⟩
        · have x0 : (0 : Int) ≤ (j : Int) := by omega
          have x1 : (j : Int) < (k : Int) := by omega
          have x2 : (j : Int) ≤ (cv : Int) := by omega
          have x3 : (j : Int) < (j : Int) + 1 := by omega
          have i1 : IntKind.i64.wrap (((j + 1 : Nat) : Int) - 1) = (j : Int) := by rw [show ((j + 1 : Nat) : Int) - 1 = (j : Int) by omega]; exact IntWalk.i64_in _ (by omega)
          have i2 : IntKind.i64.wrap ((j : Int) + 1 - 1) = (j : Int) := by rw [show (j : Int) + 1 - 1 = (j : Int) by omega]; exact IntWalk.i64_in _ (by omega)
          obtain ⟨bb, off, rfl, c1, hb⟩ := HR.out.row j (by omega)
          rw [nums_at (sr m l) k j (by omega)] at c1
          have hz := zn_eq0 (sr m l j)
          by_cases h0 : sr m l j = 0
          · rw [decide_eq_true h0] at hz
            have HN : Hid (top (sr m l) j = top (sr m l) k) := by
              show _ = _
              rw [← top_zero h0]; exact HT.out
            clear HT h0 hb
            go_wp2_with fail
            go_roundg j
            case measure => have := HG2.out; omega
            case rel => exact ⟨j, rfl, by omega, rfl, HN.out, rfl⟩
          · rw [decide_eq_false h0] at hz
            have HN : Hid (j + 1 = top (sr m l) k) := by
              show _ = _
              rw [← HT.out, top_some h0]
            have HF : Hid (ROut m w wr (some ⟨bb, off, none⟩) (j + 1) cv (sr m l)) :=
              ⟨HR.out.take (j + 1) hj |> fun h => by rwa [nums_take _ hj] at h, by have := top_bd HBn.out; rwa [← HN.out] at this, top_some h0, HFr.out⟩
            clear HT h0 hb
            go_wp2_with fail
            go_ret
            exact ⟨_, _, _, rfl, HF.out, HBB.out⟩
theorem ROut.len {w0 w : World} {a : Option Addr} {n cap k : Nat} {p : Ser (El m)} (h : ROut m w0 w a n cap p) (hb : Bd p k) : n = Pl.top p k := h.top.symm.trans (top_same h.bd hb)
end
end Go.Proofs.YtjpaihnnljpaeaaDoor.Pl
/- shaleref.SameInts over any two lists of ints. By the verifier of shale. -/
namespace Go.Proofs.YtjpaihnnljpaeaaDoor.Pl
open Go Go.RowKit Fld Bits16
set_option linter.unusedVariables false
theorem RowZ.drawn {w w' : World} {a : Option Addr} {n cap : Nat} {l : List Int} (h : RowZ w a n cap l) (d : Drawn w w') : RowZ w' a n cap l := h.below (d.below _)
theorem listz_eq {l k : List Int} (hl : l.length = k.length) (h : ∀ i, i < l.length → l.getD i 0 = k.getD i 0) : l = k := by
  apply List.ext_getElem hl
  intro i h1 h2
  have := h i h1
  rw [List.getD_eq_getElem?_getD, List.getD_eq_getElem?_getD, List.getElem?_eq_getElem h1, List.getElem?_eq_getElem h2] at this
  exact this
set_option maxRecDepth 100000 in
set_option maxHeartbeats 1000000 in
theorem sameZ_any (a1 : Option Addr) (n1 c1 : Nat) (l : List Int) (a2 : Option Addr) (n2 c2 : Nat) (k : List Int) (w : World) (h1 : RowZ w a1 n1 c1 l) (h2 : RowZ w a2 n2 c2 k) :
    Calls Tryd.prog 13 #[.slice a1 n1 c1, .slice a2 n2 c2] w fun e w' => e = .returned (.bool (decide (l = k))) ∧ Drawn w w' := by
  have H1 := Lib.hid h1
  have H2 := Lib.hid h2
  have hm : n1 ≤ maxLen := Nat.le_trans h1.hcap h1.hmost
  unfold maxLen at hm
  clear h1 h2
  by_cases hn : n1 = n2
  · subst hn
    go_enter Tryd.func13, Tryd.ntmps13
    go_wp2_with fail
    go_loopg [5] n1 (fun gh s5 wx => ∃ j : Nat, gh = n1 - j ∧ j ≤ n1 ∧ s5 = .int .i64 (j : Int) ∧ Hid (∀ i, i < j → l.getD i 0 = k.getD i 0) ∧ Drawn w wx)
    case atStart => exact ⟨0, rfl, by omega, rfl, fun i hi => by omega, Drawn.refl _⟩
    case round =>
      obtain ⟨j, hg, hk, rfl, HA, hD⟩ := hrel
      have HG := Lib.hid hg
      clear hg
      by_cases hlt : j < n1
      · have x1 : (j : Int) < (n1 : Int) := by omega
        have x0 : (0 : Int) ≤ (j : Int) := by omega
        obtain ⟨bb, off, rfl, d1, _⟩ := (H1.out.drawn hD).row j hlt
        obtain ⟨bb', off', rfl, d2, _⟩ := (H2.out.drawn hD).row j hlt
        by_cases he : l.getD j 0 = k.getD j 0
        · have HA2 : Hid (∀ i, i < j + 1 → l.getD i 0 = k.getD i 0) := fun i hi => by
            by_cases e : i = j
            · rw [e]; exact he
            · exact HA.out i (by omega)
          rw [he] at d1
          generalize k.getD j 0 = q at d1 d2
          clear he HA
          go_wp2_with fail
          go_quiet (fail)
          have hd2 : Drawn w (wr.drewN nq) := hD.trans (Drawn.mk _ _)
          generalize wr.drewN nq = w5 at hd2 ⊢
          go_wp2_with fail
          go_roundg (n1 - (j + 1))
          case measure => have := HG.out; omega
          case rel => exact ⟨j + 1, rfl, by omega, by go_num, HA2.out, hd2⟩
        · have HF : Hid (decide (l = k) = false) := decide_eq_false fun h => he (by rw [h])
          have t1 : (l.getD j 0 == k.getD j 0) = false := by rw [beq_eq_false_iff_ne]; exact he
          generalize l.getD j 0 = q at d1 t1
          generalize k.getD j 0 = r at d2 t1
          clear he HA
          go_wp2_with fail
          go_quiet (fail)
          have hd2 : Drawn w (wr.drewN nq) := hD.trans (Drawn.mk _ _)
          generalize wr.drewN nq = w5 at hd2 ⊢
          go_wp2_with fail
          go_ret
          exact ⟨ret_bool HF.out.symm, hd2⟩
      · obtain rfl : j = n1 := by omega
        have HF : Hid (decide (l = k) = true) := decide_eq_true (listz_eq (by have := H1.out.hlen; have := H2.out.hlen; omega) fun i hi => HA.out i (by have := H1.out.hlen; omega))
        clear HA
        go_wp2_with fail
        go_ret
        exact ⟨ret_bool HF.out.symm, hD⟩
  · have HF : Hid (decide (l = k) = false) := decide_eq_false fun h => hn (by rw [H1.out.hlen, H2.out.hlen, h])
    have t1 : ((n1 : Int) == (n2 : Int)) = false := by rw [beq_eq_false_iff_ne]; omega
    clear hn
    go_enter Tryd.func13, Tryd.ntmps13
    go_wp2_with fail
    go_ret
    exact ⟨ret_bool HF.out.symm, Drawn.refl _⟩
end Go.Proofs.YtjpaihnnljpaeaaDoor.Pl
/- The contracts of package fieldpoly, and of its reference, in terms of the polynomials alone. By the verifier of shale. -/
namespace Go.Proofs.YtjpaihnnljpaeaaDoor.Pl
open Go Go.RowKit Fld Bits16
set_option linter.unusedVariables false
section
variable {m : Nat} [M : Mid m]
/-- numbers handed in that are this polynomial, at most K. -/
def PV (m : Nat) [M : Mid m] (w : World) (K : Nat) (a : Option Addr) (n c : Nat) (p : Ser (El m)) : Prop := ∃ l, RowZ w a n c l ∧ sr m l = p ∧ n ≤ K
/-- a polynomial written as it should be. -/
structure NV (m : Nat) [M : Mid m] (w : World) (K : Nat) (a : Option Addr) (n c : Nat) (p : Ser (El m)) : Prop where
  row : RowZ w a n c (nums p n)
  bd : Bd p n
  top : top p n = n
  le : n ≤ K
theorem PV.below {w w' : World} {K : Nat} {a : Option Addr} {n c : Nat} {p : Ser (El m)} (h : PV m w K a n c p) (b : Below w.heap.size w w') : PV m w' K a n c p := by
  obtain ⟨l, h1, h2, h3⟩ := h
  exact ⟨l, h1.below b, h2, h3⟩
theorem NV.below {w w' : World} {K : Nat} {a : Option Addr} {n c : Nat} {p : Ser (El m)} (h : NV m w K a n c p) (b : Below w.heap.size w w') : NV m w' K a n c p := ⟨h.row.below b, h.bd, h.top, h.le⟩
theorem NV.pol {w : World} {K : Nat} {a : Option Addr} {n c : Nat} {p : Ser (El m)} (h : NV m w K a n c p) : PV m w K a n c p := ⟨_, h.row, sr_nums h.bd, h.le⟩
theorem PV.bdn {w : World} {K : Nat} {a : Option Addr} {n c : Nat} {p : Ser (El m)} (h : PV m w K a n c p) : Bd p n := by
  obtain ⟨l, h1, rfl, _⟩ := h
  have := sr_bd (m := m) l
  rwa [← h1.hlen] at this
theorem PV.bd {w : World} {K : Nat} {a : Option Addr} {n c : Nat} {p : Ser (El m)} (h : PV m w K a n c p) : Bd p K := h.bdn.mono (by obtain ⟨_, _, _, h3⟩ := h; exact h3)
theorem top_full {p : Ser (El m)} {n N : Nat} (h : Bd p N) (hn : n = Pl.top p N) : Pl.top p n = n := by
  have hb : Bd p n := by rw [hn]; exact top_bd h
  rw [hn]; exact (top_same (by rw [hn] at hb; exact hb) h)
theorem outV {w0 w : World} {a : Option Addr} {n c K : Nat} {p : Ser (El m)} (h : Out m w0 w a n c p) (hK : Bd p K) : NV m w K a n c p := by
  have ht : Pl.top p n = n := by
    rcases h with ⟨_, rfl, _, rfl⟩ | ⟨g, N, _, _, _, _, _, hn, hb⟩
    · rfl
    · exact top_full hb hn
  exact ⟨h.row, h.bd, ht, by rw [← ht, top_same h.bd hK]; exact top_le p K⟩
theorem routV {w0 w : World} {a : Option Addr} {n c K : Nat} {p : Ser (El m)} (h : ROut m w0 w a n c p) (hK : Bd p K) : NV m w K a n c p :=
  ⟨h.row, h.bd, h.top, by rw [← h.top, top_same h.bd hK]; exact top_le p K⟩
theorem top_of {w : World} {K : Nat} {a : Option Addr} {n c : Nat} {p : Ser (El m)} (h : PV m w K a n c p) : Pl.top p n = Pl.top p K := top_same h.bdn h.bd
theorem der_bdK {p : Ser (El m)} {K : Nat} (h : Bd p K) : Bd (der p) K := fun i hi => by
  show (if i % 2 = 0 then p (i + 1) else 0) = 0
  split
  · exact h _ (by omega)
  · rfl
theorem top_pz : ∀ K, Pl.top (pz : Ser (El m)) K = 0
  | 0 => rfl
  | K + 1 => by rw [top_zero (rfl : (pz : Ser (El m)) K = 0)]; exact top_pz K
theorem top_nz {p : Ser (El m)} {K : Nat} (h : Bd p K) (h0 : p ≠ pz) : Pl.top p K ≠ 0 := fun e => h0 (by have := top_bd h; rw [e] at this; exact this.zero)
theorem top_deg {p : Ser (El m)} {K : Nat} (h : Bd p K) (h0 : p ≠ pz) : Dg p (Pl.top p K - 1) := (top_ne (top_nz h h0)).resolve_right fun x => x h
theorem top_dg' {p : Ser (El m)} {K d : Nat} (h : Bd p K) (hd : Dg p d) : Pl.top p K = d + 1 := by
  have h0 := top_deg h hd.ne
  have h1 := top_nz h hd.ne
  have := h0.eq hd
  omega
theorem cvK {p q : Ser (El m)} {k k' K : Nat} (hp : Bd p k) (hq : Bd q k') (h : k + k' ≤ K) : Bd (cv p q) K := (bd_cv hp hq).mono (by omega)
theorem div_bd {p q A L : Ser (El m)} {K e : Nat} (hp : Bd p K) (hq : Dg q e) (he : e < K) (h : Dv2 p q A L e) : Bd A K ∧ Bd L K := by
  have hL : Bd L K := h.low.mono (by omega)
  refine ⟨?_, hL⟩
  obtain ⟨n, hn⟩ := h.fin
  rcases dg_or hn with h0 | ⟨d, _, hd⟩
  · rw [h0]; exact bd_pz K
  · have h1 := hd.mul hq
    have h2 : cv A q = padd p L := by rw [h.sum, padd_back]
    rw [h2] at h1
    have := h1.lt (hp.add hL)
    exact hd.2.mono (by omega)
theorem PD.le {g p : Ser (El m)} {K : Nat} (h : PD g p) (h0 : p ≠ pz) (hp : Bd p K) {d : Nat} (hg : Dg g d) : d < K := by
  obtain ⟨a, n, ha, rfl⟩ := h
  rcases dg_or ha with h1 | ⟨x, _, hx⟩
  · rw [h1, cv_zero] at h0; exact absurd rfl h0
  · have := (hx.mul hg).lt hp; omega
/-- a greatest common divisor as the chapter wants it. -/
def IsG (p q G : Ser (El m)) : Prop := PG p q G ∧ (G = pz ∨ ∃ d, Dg G d ∧ G d = 1)
theorem pd_pz {p : Ser (El m)} (h : PD pz p) : p = pz := by
  obtain ⟨a, n, _, rfl⟩ := h
  exact zero_cv a
theorem IsG.zero {p q G : Ser (El m)} (h : IsG p q G) : G = pz ↔ p = pz ∧ q = pz := by
  constructor
  · rintro rfl
    exact ⟨pd_pz h.1.1, pd_pz h.1.2.1⟩
  · rintro ⟨rfl, rfl⟩
    exact pd_pz (h.1.2.2 pz (PD.zero _) (PD.zero _))
theorem IsG.unique {p q G G' : Ser (El m)} (h : IsG p q G) (k : IsG p q G') : G = G' := by
  by_cases h0 : G = pz
  · rw [h0]; exact (k.zero.2 (h.zero.1 h0)).symm
  · have h1 : G' ≠ pz := fun e => h0 (h.zero.2 (k.zero.1 e))
    obtain ⟨d, hd, e1⟩ := h.2.resolve_left h0
    obtain ⟨e, he, e2⟩ := k.2.resolve_left h1
    exact PG.unique hd he h.1 k.1 e1 e2
theorem IsG.bd {p q G : Ser (El m)} {K : Nat} (h : IsG p q G) (hp : Bd p K) (hq : Bd q K) : Bd G K := by
  rcases h.2 with rfl | ⟨d, hd, _⟩
  · exact bd_pz K
  · by_cases h0 : p = pz
    · by_cases h1 : q = pz
      · exact absurd (h.zero.2 ⟨h0, h1⟩) hd.ne
      · have := h.1.2.1.le h1 hq hd; exact hd.2.mono (by omega)
    · have := h.1.1.le h0 hp hd; exact hd.2.mono (by omega)
theorem IsG.comm {p q G : Ser (El m)} (h : IsG p q G) : IsG q p G := ⟨h.1.comm, h.2⟩
theorem nilV (w : World) : PV m w 0 none 0 0 pz := ⟨[], ⟨rfl, Nat.le_refl _, by decide, fun i hi => by omega⟩, by funext i; exact elm_zero, Nat.le_refl _⟩
theorem PV.more {w : World} {K K' : Nat} {a : Option Addr} {n c : Nat} {p : Ser (El m)} (h : PV m w K a n c p) (hK : K ≤ K') : PV m w K' a n c p := by
  obtain ⟨l, h1, h2, h3⟩ := h
  exact ⟨l, h1, h2, by omega⟩
section
variable {g s be ce bl : Nat} {w : World}
theorem mulV {k k' : Nat} {a a' : Option Addr} {n c n' c' : Nat} {p q : Ser (El m)} (R : RingAt m w g s be ce bl) (K : Nat) (h1 : PV m w k a n c p) (h2 : PV m w k' a' n' c' q) (hK : k + k' ≤ K) (hK2 : K ≤ 2048) :
    Calls Tryd.prog 37 #[.pointer (some ⟨g, 0, none⟩), .slice a n c, .slice a' n' c'] w fun e w' => ∃ a n c, e = .returned (.tuple #[.slice a n c, .nilIface]) ∧ NV m w' K a n c (cv p q) ∧ Below w.heap.size w w' := by
  have hb := cvK h1.bd h2.bd hK
  obtain ⟨l1, r1, rfl, n1⟩ := h1
  obtain ⟨l2, r2, rfl, n2⟩ := h2
  have t1 := top_le (sr m l1) n
  have t2 := top_le (sr m l2) n'
  refine (pmul_any a n c l1 a' n' c' l2 w R r1 r2 (by omega) (by omega) (by omega)).mono ?_
  rintro e w1 ⟨a3, n3, c3, rfl, hO, b⟩
  exact ⟨a3, n3, c3, rfl, outV hO hb, b⟩
theorem addV {k k' : Nat} {a a' : Option Addr} {n c n' c' : Nat} {p q : Ser (El m)} (R : RingAt m w g s be ce bl) (K : Nat) (h1 : PV m w k a n c p) (h2 : PV m w k' a' n' c' q) (hK : k ≤ K) (hK' : k' ≤ K) (hK2 : K ≤ 2048) :
    Calls Tryd.prog 54 #[.pointer (some ⟨g, 0, none⟩), .slice a n c, .slice a' n' c'] w fun e w' => ∃ a n c, e = .returned (.slice a n c) ∧ NV m w' K a n c (padd p q) ∧ Below w.heap.size w w' := by
  have hb : Bd (padd p q) K := (h1.bd.mono hK).add (h2.bd.mono hK')
  obtain ⟨l1, r1, rfl, n1⟩ := h1
  obtain ⟨l2, r2, rfl, n2⟩ := h2
  refine (padd_any a n c l1 a' n' c' l2 w R r1 r2 (by omega) (by omega)).mono ?_
  rintro e w1 ⟨a3, n3, c3, rfl, hO, b⟩
  exact ⟨a3, n3, c3, rfl, outV hO hb, b⟩
theorem scaleV {k : Nat} {a : Option Addr} {n c : Nat} {p : Ser (El m)} (z : Int) (R : RingAt m w g s be ce bl) (h1 : PV m w k a n c p) (hK2 : k ≤ 2048) :
    Calls Tryd.prog 48 #[.pointer (some ⟨g, 0, none⟩), .slice a n c, .int .i64 z] w fun e w' => ∃ a n c, e = .returned (.slice a n c) ∧ NV m w' k a n c (psm (elm m z) p) ∧ Below w.heap.size w w' := by
  have hb := h1.bd.sm (elm m z)
  obtain ⟨l1, r1, rfl, n1⟩ := h1
  refine (scale_any a n c l1 z w R r1 (by omega)).mono ?_
  rintro e w1 ⟨a3, n3, c3, rfl, hO, b⟩
  exact ⟨a3, n3, c3, rfl, outV hO hb, b⟩
theorem trimV {k : Nat} {a : Option Addr} {n c : Nat} {p : Ser (El m)} (R : RingAt m w g s be ce bl) (h1 : PV m w k a n c p) (hK2 : k ≤ 2048) :
    Calls Tryd.prog 44 #[.pointer (some ⟨g, 0, none⟩), .slice a n c] w fun e w' => ∃ a n c, e = .returned (.slice a n c) ∧ NV m w' k a n c p ∧ Below w.heap.size w w' := by
  have hb := h1.bd
  have hn := h1.bdn
  have ht := top_of h1
  have hle := top_le p k
  obtain ⟨l1, r1, rfl, n1⟩ := h1
  refine (trim_any a n c l1 w R r1 (by omega)).mono ?_
  rintro e w1 ⟨rfl, hB, b⟩
  refine ⟨_, _, _, rfl, ⟨?_, top_bd hn, top_full hn rfl, by rw [ht]; exact hle⟩, b⟩
  have hr := Blk64.row hB _ (by rw [nums_length]; exact Nat.le_refl _) (by rw [nums_length]; omega)
  rw [nums_take _ (Nat.le_refl _), nums_length] at hr
  exact hr
theorem degV {k : Nat} {a : Option Addr} {n c : Nat} {p : Ser (El m)} (R : RingAt m w g s be ce bl) (h1 : PV m w k a n c p) :
    Calls Tryd.prog 51 #[.pointer (some ⟨g, 0, none⟩), .slice a n c] w fun e w' => e = .returned (.int .i64 ((Pl.top p k : Int) - 1)) ∧ w = w' := by
  have ht := top_of h1
  obtain ⟨l1, r1, rfl, n1⟩ := h1
  have := deg_any a n c l1 w R r1
  rwa [ht] at this
/-- all the roots of p, rising. -/
noncomputable def rootsV (k : Nat) (p : Ser (El m)) : List Int := if Pl.top p k = 0 then [] else intsN (rts (Pl.top p k) p (2 ^ m))
theorem pls_bd (l : List Int) (n : Nat) : Bd (pls (m := m) l n) (n + 1) := (pls_dg l n).2
end
section
variable {w : World}
theorem sameV {k k' : Nat} {a a' : Option Addr} {n c n' c' : Nat} {p q : Ser (El m)} (h1 : NV m w k a n c p) (h2 : NV m w k' a' n' c' q) (e : p = q) :
    Calls Tryd.prog 13 #[.slice a n c, .slice a' n' c'] w fun e w' => e = .returned (.bool true) ∧ Drawn w w' := by
  subst e
  have hn : n = n' := by rw [← h1.top, ← h2.top]; exact top_same h1.bd h2.bd
  refine (sameZ_any a n c _ a' n' c' _ w h1.row h2.row).mono ?_
  rintro e w1 ⟨rfl, d⟩
  exact ⟨by rw [decide_eq_true (by rw [hn])], d⟩
end
end
end Go.Proofs.YtjpaihnnljpaeaaDoor.Pl
/- Rows that stand apart from one block; part sums of a product. By the verifier of shale. -/
namespace Go.Proofs.YtjpaihnnljpaeaaDoor.Loc
open Go Go.RowKit Pl Fld Bits16
set_option linter.unusedVariables false
section
variable {K : Type} [Fl K]
/-- the first k coefficients. -/
def cut (k : Nat) (p : Ser K) : Ser K := fun i => if i < k then p i else 0
theorem cut_zero (p : Ser K) : cut 0 p = pz := funext fun i => if_neg (Nat.not_lt_zero i)
theorem cut_succ (k : Nat) (p : Ser K) : cut (k + 1) p = padd (cut k p) (mono k (p k)) := funext fun i => by
  show (if i < k + 1 then p i else 0) = (if i < k then p i else 0) + (if i = k then p k else 0)
  by_cases h : i < k
  · rw [if_pos h, if_pos (by omega), if_neg (by omega), Fl.add_zero]
  · by_cases e : i = k
    · subst e; rw [if_neg h, if_pos (by omega), if_pos rfl, zero_add]
    · rw [if_neg h, if_neg (by omega), if_neg e, Fl.add_zero]
theorem cut_bd {k n : Nat} {p : Ser K} (h : Bd p n) (hk : n ≤ k) : cut k p = p := funext fun i => by
  unfold cut
  by_cases e : i < k
  · rw [if_pos e]
  · rw [if_neg e, h i (by omega)]
/-- the sum of the first k. -/
def part (p q : Ser K) (n k : Nat) : K := cv (cut k p) q n
theorem part_zero (p q : Ser K) (n : Nat) : part p q n 0 = 0 := by unfold part; rw [cut_zero]; exact cv_zero_left _ _
theorem part_succ (p q : Ser K) (n k : Nat) (h : k ≤ n) : part p q n (k + 1) = part p q n k + p k * q (n - k) := by
  unfold part
  rw [cut_succ, cv_add_left, cv_mono, if_neg (by omega)]
/-- what is cut off is 0, or not reached. -/
theorem part_all (p q : Ser K) (n k k' : Nat) (h : ∀ i, k ≤ i → i < k' → i ≤ n → p i = 0) (h' : ∀ i, k' ≤ i → i < k → i ≤ n → p i = 0) : part p q n k = part p q n k' := by
  refine cv_ext (fun i hi => ?_) fun _ _ => rfl
  unfold cut
  by_cases a : i < k <;> by_cases b : i < k'
  · rw [if_pos a, if_pos b]
  · rw [if_pos a, if_neg b]; exact h' i (by omega) a hi
  · rw [if_neg a, if_pos b]; exact (h i (by omega) b hi).symm
  · rw [if_neg a, if_neg b]
theorem part_cv {p : Ser K} {m : Nat} (q : Ser K) (n k : Nat) (h : Bd p m) (hk : m ≤ k) : part p q n k = cv p q n := by unfold part; rw [cut_bd h hk]
end
section
variable {m : Nat} [M : Mid m]
/-- numbers handed in, apart from the block x. -/
def PA (m : Nat) [M : Mid m] (w : World) (K : Nat) (a : Option Addr) (n c : Nat) (p : Ser (El m)) (x : Nat) : Prop := (∃ l, RowZ w a n c l ∧ sr m l = p) ∧ n ≤ K ∧ ∀ q, a = some q → q.block ≠ x
theorem PA.pv {w : World} {K : Nat} {a : Option Addr} {n c : Nat} {p : Ser (El m)} {x : Nat} (h : PA m w K a n c p x) : PV m w K a n c p := by
  obtain ⟨⟨l, h1, h2⟩, h3, _⟩ := h
  exact ⟨l, h1, h2, h3⟩
theorem PA.keep {w w' : World} {K : Nat} {a : Option Addr} {n c : Nat} {p : Ser (El m)} {x : Nat} (h : PA m w K a n c p x) (hk : ∀ q, q ≠ x → q < w.heap.size → w'.heap[q]? = w.heap[q]?) (hs : w.heap.size ≤ w'.heap.size) : PA m w' K a n c p x := by
  obtain ⟨⟨l, h1, h2⟩, h3, h4⟩ := h
  refine ⟨⟨l, ⟨h1.hlen, h1.hcap, h1.hmost, fun i hi => ?_⟩, h2⟩, h3, h4⟩
  obtain ⟨bb, off, e, hc, hb⟩ := h1.row i hi
  refine ⟨bb, off, e, ?_, by omega⟩
  rw [← hc]
  have := hk bb (h4 _ e) hb
  unfold World.cell?
  simp only
  rw [this]
theorem PA.below {w w' : World} {K : Nat} {a : Option Addr} {n c : Nat} {p : Ser (El m)} {x : Nat} (h : PA m w K a n c p x) (b : Below w.heap.size w w') : PA m w' K a n c p x := h.keep (fun q _ hq => b.block q hq) b.size
theorem PA.only {w : World} {K : Nat} {a : Option Addr} {n c : Nat} {p : Ser (El m)} {x i : Nat} {v : Value} (h : PA m w K a n c p x) : PA m (w.setCell ⟨x, i, none⟩ v) K a n c p x :=
  h.keep (fun q hq _ => (Only.setCell w ⟨x, i, none⟩ v).block q hq) (Nat.le_of_eq (Only.setCell w ⟨x, i, none⟩ v).size.symm)
theorem PA.more {w : World} {K K' : Nat} {a : Option Addr} {n c : Nat} {p : Ser (El m)} {x : Nat} (h : PA m w K a n c p x) (hK : n ≤ K') : PA m w K' a n c p x := ⟨h.1, hK, h.2.2⟩
/-- new numbers. -/
structure NP (m : Nat) [M : Mid m] (w0 w : World) (K : Nat) (a : Option Addr) (n c : Nat) (p : Ser (El m)) : Prop where
  nv : NV m w K a n c p
  new : ∀ q, a = some q → w0.heap.size ≤ q.block
theorem NP.pa {w0 w : World} {K : Nat} {a : Option Addr} {n c : Nat} {p : Ser (El m)} (h : NP m w0 w K a n c p) {x : Nat} (hx : x < w0.heap.size) : PA m w K a n c p x := by
  obtain ⟨l, h1, h2, h3⟩ := h.nv.pol
  exact ⟨⟨l, h1, h2⟩, h3, fun q hq e => by have := h.new q hq; omega⟩
theorem out_new {w0 w : World} {a : Option Addr} {n c : Nat} {p : Ser (El m)} (h : Out m w0 w a n c p) : ∀ q, a = some q → w0.heap.size ≤ q.block := by
  rintro q rfl
  rcases h with ⟨h, _⟩ | ⟨g, N, h, hg, _⟩
  · cases h
  · cases h; exact hg
section
variable {g s be ce bl : Nat} {w : World}
theorem addN {k k' : Nat} {a a' : Option Addr} {n c n' c' : Nat} {p q : Ser (El m)} (R : RingAt m w g s be ce bl) (K : Nat) (h1 : PV m w k a n c p) (h2 : PV m w k' a' n' c' q) (hK : k ≤ 2048) (hK' : k' ≤ 2048) (hb : Bd (padd p q) K) :
    Calls Tryd.prog 54 #[.pointer (some ⟨g, 0, none⟩), .slice a n c, .slice a' n' c'] w fun e w' => ∃ a n c, e = .returned (.slice a n c) ∧ NP m w w' K a n c (padd p q) ∧ Below w.heap.size w w' := by
  obtain ⟨l1, r1, rfl, n1⟩ := h1
  obtain ⟨l2, r2, rfl, n2⟩ := h2
  refine (padd_any a n c l1 a' n' c' l2 w R r1 r2 (by omega) (by omega)).mono ?_
  rintro e w1 ⟨a3, n3, c3, rfl, hO, b⟩
  exact ⟨a3, n3, c3, rfl, ⟨outV hO hb, out_new hO⟩, b⟩
end
end
end Go.Proofs.YtjpaihnnljpaeaaDoor.Loc
/- The block of package locate's search. By the verifier of shale. -/
namespace Go.Proofs.YtjpaihnnljpaeaaDoor.Loc
open Go Go.RowKit Pl Fld Bits16
set_option linter.unusedVariables false
/-- block x is a search. -/
def objS (s : Nat) (c b : Value) (L k : Nat) (d : Int) : Obj := .cells #[.pointer (some ⟨s, 0, none⟩), c, b, .int .i64 (L : Int), .int .i64 (k : Int), .int .i64 d] 65 (0, 0)
def SrB (w : World) (x s : Nat) (c b : Value) (L k : Nat) (d : Int) : Prop := w.heap[x]? = some (objS s c b L k d)
section
variable {w w' : World} {x s : Nat} {c b : Value} {L k : Nat} {d : Int}
theorem SrB.cells (h : SrB w x s c b L k d) :
    w.cell? ⟨x, 0, none⟩ = some (.pointer (some ⟨s, 0, none⟩)) ∧ w.cell? ⟨x, 1, none⟩ = some c ∧ w.cell? ⟨x, 2, none⟩ = some b ∧ w.cell? ⟨x, 3, none⟩ = some (.int .i64 (L : Int)) ∧ w.cell? ⟨x, 4, none⟩ = some (.int .i64 (k : Int)) ∧ w.cell? ⟨x, 5, none⟩ = some (.int .i64 d) := by
  have e : w.heap[x]? = _ := h
  refine ⟨?_, ?_, ?_, ?_, ?_, ?_⟩ <;> (unfold World.cell?; simp only; rw [e]; rfl)
theorem SrB.free (h : SrB w x s c b L k d) (i : Nat) : w.frozen? ⟨x, i, none⟩ = false := by
  unfold World.frozen?
  simp only
  rw [show w.heap[x]? = _ from h]; rfl
theorem SrB.lt (h : SrB w x s c b L k d) : x < w.heap.size := lt_of_block h
theorem SrB.below (h : SrB w x s c b L k d) (u : Below w.heap.size w w') : SrB w' x s c b L k d := (u.block x h.lt).trans h
theorem SrB.drew (h : SrB w x s c b L k d) : SrB w.drew x s c b L k d := h
theorem SrB.new (w : World) (s : Nat) (c b : Value) (L k : Nat) (d : Int) : SrB (w.alloc (objS s c b L k d)) w.heap.size s c b L k d := heap_alloc_new w _
theorem SrB.set1 (h : SrB w x s c b L k d) (v : Value) : SrB (w.setCell ⟨x, 1, none⟩ v) x s v b L k d := by
  have hlt := h.lt
  have e' : w.heap[x] = objS s c b L k d := by simpa [SrB, Array.getElem?_eq_getElem hlt] using h
  show (w.heap.modify x _)[x]? = _
  rw [Array.getElem?_eq_getElem (by simpa using hlt), Array.getElem_modify_self, e']; rfl
theorem SrB.set2 (h : SrB w x s c b L k d) (v : Value) : SrB (w.setCell ⟨x, 2, none⟩ v) x s c v L k d := by
  have hlt := h.lt
  have e' : w.heap[x] = objS s c b L k d := by simpa [SrB, Array.getElem?_eq_getElem hlt] using h
  show (w.heap.modify x _)[x]? = _
  rw [Array.getElem?_eq_getElem (by simpa using hlt), Array.getElem_modify_self, e']; rfl
theorem SrB.set3 (h : SrB w x s c b L k d) (L' : Nat) (v : Int) (hv : v = (L' : Int)) : SrB (w.setCell ⟨x, 3, none⟩ (.int .i64 v)) x s c b L' k d := by
  subst hv
  have hlt := h.lt
  have e' : w.heap[x] = objS s c b L k d := by simpa [SrB, Array.getElem?_eq_getElem hlt] using h
  show (w.heap.modify x _)[x]? = _
  rw [Array.getElem?_eq_getElem (by simpa using hlt), Array.getElem_modify_self, e']; rfl
theorem SrB.set4 (h : SrB w x s c b L k d) (k' : Nat) (v : Int) (hv : v = (k' : Int)) : SrB (w.setCell ⟨x, 4, none⟩ (.int .i64 v)) x s c b L k' d := by
  subst hv
  have hlt := h.lt
  have e' : w.heap[x] = objS s c b L k d := by simpa [SrB, Array.getElem?_eq_getElem hlt] using h
  show (w.heap.modify x _)[x]? = _
  rw [Array.getElem?_eq_getElem (by simpa using hlt), Array.getElem_modify_self, e']; rfl
theorem SrB.set5 (h : SrB w x s c b L k d) (v : Int) : SrB (w.setCell ⟨x, 5, none⟩ (.int .i64 v)) x s c b L k v := by
  have hlt := h.lt
  have e' : w.heap[x] = objS s c b L k d := by simpa [SrB, Array.getElem?_eq_getElem hlt] using h
  show (w.heap.modify x _)[x]? = _
  rw [Array.getElem?_eq_getElem (by simpa using hlt), Array.getElem_modify_self, e']; rfl
end
section
variable {m : Nat} [M : Mid m]
/-- the field's blocks are none of x. -/
def FA (m : Nat) (w : World) (s be ce bl x : Nat) : Prop := FldAt m w s be ce bl ∧ s ≠ x ∧ be ≠ x ∧ bl ≠ x
theorem FA.keep {w w' : World} {s be ce bl x : Nat} (f : FA m w s be ce bl x) (hk : ∀ q, q ≠ x → q < w.heap.size → w'.heap[q]? = w.heap[q]?) : FA m w' s be ce bl x := by
  obtain ⟨f, n1, n2, n3⟩ := f
  obtain ⟨l1, l2, l3⟩ := f.lt M.lo
  have hc : ∀ {p : Addr}, p.block ≠ x → p.block < w.heap.size → w'.cell? p = w.cell? p := fun h1 h2 => World.cell?_of_block (w := w) (hk _ h1 h2)
  exact ⟨⟨(hk s n1 l1).trans f.1, f.2.1, fun i hi => (hc (p := ⟨be, i, none⟩) n2 l2).trans (f.2.2.1 i hi), fun y hy => (hc (p := ⟨bl, _, none⟩) n3 l3).trans (f.2.2.2 y hy)⟩, n1, n2, n3⟩
theorem FA.below {w w' : World} {s be ce bl x : Nat} (f : FA m w s be ce bl x) (b : Below w.heap.size w w') : FA m w' s be ce bl x := f.keep fun q _ hq => b.block q hq
theorem FA.only {w : World} {s be ce bl x i : Nat} {v : Value} (f : FA m w s be ce bl x) : FA m (w.setCell ⟨x, i, none⟩ v) s be ce bl x :=
  f.keep fun q hq _ => (Only.setCell w ⟨x, i, none⟩ v).block q hq
/-- block x is the search in the state t; its polynomials are at most K long. -/
structure SrAt (m : Nat) [M : Mid m] (w : World) (x s be ce bl K : Nat) (t : St (El m)) (a : Option Addr) (n c : Nat) (a' : Option Addr) (n' c' : Nat) : Prop where
  blk : SrB w x s (.slice a n c) (.slice a' n' c') t.L t.k (zn t.d)
  fld : FA m w s be ce bl x
  pc : PA m w K a n c t.c x
  pb : PA m w K a' n' c' t.b x
theorem SrAt.below {w w' : World} {x s be ce bl K : Nat} {t : St (El m)} {a : Option Addr} {n c : Nat} {a' : Option Addr} {n' c' : Nat} (h : SrAt m w x s be ce bl K t a n c a' n' c') (u : Below w.heap.size w w') : SrAt m w' x s be ce bl K t a n c a' n' c' :=
  ⟨h.blk.below u, h.fld.below u, h.pc.below u, h.pb.below u⟩
end
end Go.Proofs.YtjpaihnnljpaeaaDoor.Loc
/- The walks over package locate: sum, begin. By the verifier of shale. -/
namespace Go.Proofs.YtjpaihnnljpaeaaDoor.Loc
open Go Go.RowKit Pl Fld Bits16
set_option linter.unusedVariables false
section
variable {m : Nat} [M : Mid m]
/-- how many products sum adds. -/
def rounds (L n n1 : Nat) : Nat := min (L + 1) (min (n + 1) n1)
theorem rounds_spec (L n n1 : Nat) : rounds L n n1 ≤ L + 1 ∧ rounds L n n1 ≤ n + 1 ∧ rounds L n n1 ≤ n1 ∧ (rounds L n n1 = L + 1 ∨ rounds L n n1 = n + 1 ∨ rounds L n n1 = n1) := by unfold rounds; omega
theorem part_rounds (p q : Ser (El m)) (n L n1 : Nat) (hp : Bd p n1) : part p q n (rounds L n n1) = part p q n (L + 1) := by
  obtain ⟨h1, h2, h3, h4⟩ := rounds_spec L n n1
  refine part_all p q n _ _ (fun i a b c => ?_) fun i a b c => ?_
  · rcases h4 with h | h | h
    · omega
    · omega
    · exact hp i (by omega)
  · omega
abbrev mulOf (s : Nat) : Value := .func (.func 11) #[.pointer (some ⟨s, 0, none⟩)] #[]
set_option maxRecDepth 100000 in
set_option maxHeartbeats 1000000 in
theorem lsum_any {s be ce bl : Nat} (a b : Option Addr) (n1 c1 n2 c2 : Nat) (l1 l2 : List Int) (n L : Nat) (w : World) (F : FldAt m w s be ce bl) (r1 : RowZ w a n1 c1 l1) (r2 : RowZ w b n2 c2 l2) (hn : n < n2) (hL : L ≤ 1000000000) :
    Calls Tryd.prog 40 #[.slice a n1 c1, .slice b n2 c2, .int .i64 (n : Int), .int .i64 (L : Int), mulOf s] w
      fun e w' => e = .returned (.int .i64 (zn (part (sr m l1) (sr m l2) n (rounds L n n1)))) ∧ Drawn w w' := by
  obtain ⟨t1, t2, t3, t4⟩ := rounds_spec L n n1
  generalize rounds L n n1 = T at t1 t2 t3 t4 ⊢
  have HF := Lib.hid F
  have R1 := Lib.hid r1
  have R2 := Lib.hid r2
  have hm : n1 ≤ maxLen := Nat.le_trans r1.hcap r1.hmost
  have hm2 : n2 ≤ maxLen := Nat.le_trans r2.hcap r2.hmost
  unfold maxLen at hm hm2
  clear F r1 r2
  have HT : Hid (T ≤ L + 1 ∧ T ≤ n + 1 ∧ T ≤ n1 ∧ (T = L + 1 ∨ T = n + 1 ∨ T = n1)) := ⟨t1, t2, t3, t4⟩
  obtain ⟨A, hA⟩ : ∃ A : Nat, A = min L n := ⟨_, rfl⟩
  have e1 : (if n < L then (n : Int) else (L : Int)) = (A : Int) := by split <;> omega
  have e2 : (if (n1 : Int) - 1 < (A : Int) then (n1 : Int) - 1 else (A : Int)) = (T : Int) - 1 := by split <;> omega
  have HE := Lib.hid (And.intro e1 e2)
  have hT9 : T ≤ 1000000001 := by omega
  clear t1 t2 t3 t4 e1 e2 hA
  go_enter Tryd.func40, Tryd.ntmps40
  go_wp2_with fail
  go_loopg [11, 12] T (fun gh s11 s12 wx => ∃ k : Nat, gh = T - k ∧ k ≤ T ∧ s12 = .int .i64 (k : Int) ∧ s11 = .int .i64 (zn (part (sr m l1) (sr m l2) n k)) ∧ Drawn w wx)
  case atStart => exact ⟨0, rfl, Nat.zero_le _, rfl, by rw [part_zero]; rfl, Drawn.refl _⟩
  case round =>
    obtain ⟨k, hg, hk, rfl, rfl, hD⟩ := hrel
    have HG := Lib.hid hg
    clear hg
    by_cases hlt : k < T
    · have y1 : (k : Int) ≤ (T : Int) - 1 := by omega
      obtain ⟨e1, e2⟩ := HE.out
      have z0 : (0 : Int) ≤ (k : Int) := by omega
      have z1 : (k : Int) < (n1 : Int) := by have := HT.out; omega
      have z2 : (0 : Int) ≤ (n : Int) - (k : Int) := by have := HT.out; omega
      have z3 : (n : Int) - (k : Int) < (n2 : Int) := by omega
      have z4 : ((n : Int) - (k : Int)).toNat = n - k := by omega
      have z5 : IntKind.i64.wrap ((n : Int) - (k : Int)) = (n : Int) - (k : Int) := IntWalk.i64_in _ (by omega)
      obtain ⟨b1, o1, rfl, cc1, _⟩ := (R1.out.below (hD.below _)).row k (by have := HT.out; omega)
      obtain ⟨b2, o2, rfl, cc2, _⟩ := (R2.out.below (hD.below _)).row (n - k) (by omega)
      have HFw := Lib.hid (HF.out.drawn M.lo hD)
      have HX := zn_add (part (sr m l1) (sr m l2) n k) (sr m l1 k * sr m l2 (n - k))
      rw [← part_succ _ _ _ _ (by have := HT.out; omega)] at HX
      have HM : Hid (∀ nn, Calls Tryd.prog 11 #[.pointer (some ⟨s, 0, none⟩), .int .i64 (l1.getD k 0), .int .i64 (l2.getD (n - k) 0)] (wr.drewN nn) fun e w' => e = .returned (.int .i64 (zn (sr m l1 k * sr m l2 (n - k)))) ∧ Drawn (wr.drewN nn) w') := fun nn =>
        mul_any M.lo M.hi (l1.getD k 0) (l2.getD (n - k) 0) (wr.drewN nn) (HFw.out.drawn M.lo (Drawn.mk wr nn))
      generalize zn (sr m l1 k * sr m l2 (n - k)) = v1 at HM HX
      generalize zn (part (sr m l1) (sr m l2) n k) = v2 at HX ⊢
      generalize hv3 : zn (part (sr m l1) (sr m l2) n (k + 1)) = v3 at HX
      have HV := Lib.hid hv3
      generalize l1.getD k 0 = u1 at cc1 HM
      generalize l2.getD (n - k) 0 = u2 at cc2 HM
      clear hv3
      go_wp2_with fail
      go_quiet ((go_at_call 11; exact quiet_drawn (HM.out _)))
      have hd2 : Drawn w (wr.drewN nq) := hD.trans (Drawn.mk _ _)
      generalize wr.drewN nq = w5 at hd2 ⊢
      clear cc1 cc2 z0 z1 z2 z3 z4 z5 y1 HX e1 e2
      go_wp2_with fail
      go_roundg (T - (k + 1))
      case measure => have := HG.out; omega
      case rel => exact ⟨k + 1, rfl, hlt, by go_num, by rw [HV.out], hd2⟩
    · obtain rfl : k = T := by omega
      have y1 : ¬ ((k : Int) ≤ (k : Int) - 1) := by omega
      obtain ⟨e1, e2⟩ := HE.out
      go_wp2_with fail
      go_ret
      exact ⟨rfl, hD⟩
theorem row_one (w : World) : RowZ (w.alloc (.cells #[.int .i64 1] 3 (0, 0))) (some ⟨w.heap.size, 0, none⟩) 1 1 [1] := by
  refine ⟨rfl, Nat.le_refl _, by decide, fun i hi => ?_⟩
  obtain rfl : i = 0 := by omega
  refine ⟨_, _, rfl, ?_, ?_⟩
  · unfold World.cell?
    simp only
    rw [heap_alloc_new]; rfl
  · show _ < (w.heap.push _).size
    rw [Array.size_push]; omega
theorem sr_one : sr m [1] = pone := funext fun i => by
  show elm m ([1].getD i 0) = (if i = 0 then 1 else 0)
  rcases i with _ | i
  · rw [if_pos rfl]; exact elm_zn (1 : El m)
  · rw [if_neg (by omega)]; exact elm_zero
/-- begin: a search in its first state. -/
theorem begin_any {s be ce bl : Nat} (w : World) (F : FldAt m w s be ce bl) :
    Calls Tryd.prog 27 #[.pointer (some ⟨s, 0, none⟩)] w fun e w' => ∃ x a a', e = .returned (.pointer (some ⟨x, 0, none⟩)) ∧ w.heap.size ≤ x ∧ SrAt m w' x s be ce bl 1 st0 a 1 1 a' 1 1 ∧ Below w.heap.size w w' := by
  have HF := Lib.hid F
  clear F
  have b1 : Below w.heap.size w (w.alloc (.cells #[.int .i64 1] 3 (0, 0))) := (Below.refl _ _).alloc (Nat.le_refl _) _
  have r1 := row_one w
  generalize hw1 : w.alloc (.cells #[.int .i64 1] 3 (0, 0)) = w1 at b1 r1
  have s1 : w1.heap.size = w.heap.size + 1 := by rw [← hw1]; exact Array.size_push _
  have b2 : Below w1.heap.size w1 (w1.alloc (.cells #[.int .i64 1] 3 (0, 0))) := (Below.refl _ _).alloc (Nat.le_refl _) _
  have r2 := row_one w1
  generalize hw2 : w1.alloc (.cells #[.int .i64 1] 3 (0, 0)) = w2 at b2 r2
  have s2 : w2.heap.size = w1.heap.size + 1 := by rw [← hw2]; exact Array.size_push _
  have b3 : Below w2.heap.size w2 (w2.alloc (objS s (.slice (some ⟨w.heap.size, 0, none⟩) 1 1) (.slice (some ⟨w1.heap.size, 0, none⟩) 1 1) 0 1 1)) := (Below.refl _ _).alloc (Nat.le_refl _) _
  have r3 := SrB.new w2 s (.slice (some ⟨w.heap.size, 0, none⟩) 1 1) (.slice (some ⟨w1.heap.size, 0, none⟩) 1 1) 0 1 1
  have hB : Below w.heap.size w (w2.alloc (objS s (.slice (some ⟨w.heap.size, 0, none⟩) 1 1) (.slice (some ⟨w1.heap.size, 0, none⟩) 1 1) 0 1 1)) := b1.trans ((b2.trans (b3.mono b2.size)).mono b1.size)
  have HR : Hid (SrAt m (w2.alloc (objS s (.slice (some ⟨w.heap.size, 0, none⟩) 1 1) (.slice (some ⟨w1.heap.size, 0, none⟩) 1 1) 0 1 1)) w2.heap.size s be ce bl 1 st0 (some ⟨w.heap.size, 0, none⟩) 1 1 (some ⟨w1.heap.size, 0, none⟩) 1 1) := by
    obtain ⟨l1, l2, l3⟩ := HF.out.lt M.lo
    refine ⟨r3, ⟨HF.out.below M.lo hB, by omega, by omega, by omega⟩, ⟨⟨[1], (r1.below b2).below b3, sr_one⟩, Nat.le_refl _, ?_⟩, ⟨⟨[1], r2.below b3, sr_one⟩, Nat.le_refl _, ?_⟩⟩
    · rintro _ ⟨⟩; show w.heap.size ≠ _; omega
    · rintro _ ⟨⟩; show w1.heap.size ≠ _; omega
  have HW : Hid (w.alloc (.cells #[.int .i64 1] 3 (0, 0)) = w1 ∧ w1.alloc (.cells #[.int .i64 1] 3 (0, 0)) = w2 ∧ w1.heap.size = w.heap.size + 1 ∧ w2.heap.size = w1.heap.size + 1) := ⟨hw1, hw2, s1, s2⟩
  have HB := Lib.hid hB
  clear hw1 hw2 b1 b2 b3 r1 r2 r3 s1 s2 hB
  go_enter Tryd.func27, Tryd.ntmps27
  go_wp2_with fail
  go_ret
  obtain ⟨h1, h2, s1, s2⟩ := HW.out
  have hr := HR.out
  have hb := HB.out
  rw [s2, s1] at hr
  rw [s1] at hb
  subst h1 h2
  exact ⟨_, _, _, rfl, by omega, hr, hb⟩
end
end Go.Proofs.YtjpaihnnljpaeaaDoor.Loc
/- The statements' own polynomials (shaleref2): Eval, Add, Times. By the verifier of shale. -/
namespace Go.Proofs.YtjpaihnnljpaeaaDoor.Pl
open Go Go.RowKit Fld Bits16
set_option linter.unusedVariables false
theorem regrown0 (w : World) : ∃ p : Regrown, w.drew = Sort.grow (redrawn w p.d) p.os := ⟨⟨w.drawn + 1, #[]⟩, by rw [Sort.grow_empty]; rfl⟩
section
variable {m : Nat} [M : Mid m]
theorem rmul_zz (a b : El m) (w : World) : Calls Tryd.prog 16 #[.int .i64 (m : Int), .int .i64 (zn a), .int .i64 (zn b)] w fun e w' => e = .returned (.int .i64 (zn (a * b))) ∧ Below w.heap.size w w' := by
  have := rmul_any m M.lo M.hi (zn a) (zn b) w
  rwa [mul_zn, elm_zn, elm_zn] at this
theorem rmul_zx (a : El m) (x : Int) (w : World) : Calls Tryd.prog 16 #[.int .i64 (m : Int), .int .i64 (zn a), .int .i64 x] w fun e w' => e = .returned (.int .i64 (zn (a * elm m x))) ∧ Below w.heap.size w w' := by
  have := rmul_any m M.lo M.hi (zn a) x w
  rwa [mul_zn, elm_zn] at this
/-- the first k numbers of f, and 0 up to N. -/
def upN (f : Nat → Int) (N k : Nat) : List Int := (List.range N).map fun i => if i < k then f i else 0
omit M in
theorem upN_length (f : Nat → Int) (N k : Nat) : (upN f N k).length = N := by simp [upN]
omit M in
theorem upN_set (f : Nat → Int) (N k : Nat) : (upN f N k).set k (f k) = upN f N (k + 1) := by
  apply List.ext_getElem
  · simp [upN]
  · intro i h1 h2
    simp only [upN, List.getElem_set, List.getElem_map, List.getElem_range]
    by_cases h : k = i
    · rw [if_pos h, if_pos (by omega), h]
    · rw [if_neg h]
      by_cases h3 : i < k
      · rw [if_pos h3, if_pos (by omega)]
      · rw [if_neg h3, if_neg (by omega)]
omit M in
theorem upN_at (f : Nat → Int) (N k i : Nat) (hi : i < N) (hk : k ≤ i) : nth64 (upN f N k) i = 0 := by
  unfold nth64
  rw [List.getD_eq_getElem?_getD, List.getElem?_eq_getElem (by rw [upN_length]; exact hi)]
  simp only [upN, List.getElem_map, List.getElem_range, Option.getD_some]
  rw [if_neg (by omega)]
omit M in
theorem upN_zero (f : Nat → Int) (N : Nat) : List.replicate N 0 = upN f N 0 := by
  apply List.ext_getElem
  · simp [upN]
  · intro i h1 h2; simp [upN]
/-- what Add lays at i: the numbers' own bits. -/
def rawN (l1 l2 : List Int) (i : Nat) : Int :=
  if i < l1.length then (if i < l2.length then bits .xor .i64 (l1.getD i 0) (l2.getD i 0) else l1.getD i 0) else bits .xor .i64 0 (l2.getD i 0)
theorem elm_xor (x y : Int) : elm m (bits .xor .i64 x y) = elm m x + elm m y := El.ext (el_xor m M.hi x y)
theorem sr_raw (l1 l2 : List Int) (N : Nat) (h1 : l1.length ≤ N) (h2 : l2.length ≤ N) : sr m (upN (rawN l1 l2) N N) = padd (sr m l1) (sr m l2) := by
  funext i
  show elm m ((upN (rawN l1 l2) N N).getD i 0) = elm m (l1.getD i 0) + elm m (l2.getD i 0)
  by_cases hi : i < N
  · rw [List.getD_eq_getElem?_getD, List.getElem?_eq_getElem (by rw [upN_length]; exact hi)]
    simp only [upN, List.getElem_map, List.getElem_range, Option.getD_some]
    rw [if_pos hi]
    unfold rawN
    by_cases a1 : i < l1.length
    · rw [if_pos a1]
      by_cases a2 : i < l2.length
      · rw [if_pos a2, elm_xor]
      · rw [if_neg a2, show l2.getD i 0 = 0 by rw [List.getD_eq_getElem?_getD, List.getElem?_eq_none (by omega)]; rfl, elm_zero, Fl.add_zero]
    · rw [if_neg a1, elm_xor, show l1.getD i 0 = 0 by rw [List.getD_eq_getElem?_getD, List.getElem?_eq_none (by omega)]; rfl]
  · rw [show (upN (rawN l1 l2) N N).getD i 0 = 0 by rw [List.getD_eq_getElem?_getD, List.getElem?_eq_none (by rw [upN_length]; omega)]; rfl,
      show l1.getD i 0 = 0 by rw [List.getD_eq_getElem?_getD, List.getElem?_eq_none (by omega)]; rfl, show l2.getD i 0 = 0 by rw [List.getD_eq_getElem?_getD, List.getElem?_eq_none (by omega)]; rfl, elm_zero, Fl.add_zero]
end
end Go.Proofs.YtjpaihnnljpaeaaDoor.Pl
/- The statements' own polynomials (shaleref2): Add. By the verifier of shale. -/
namespace Go.Proofs.YtjpaihnnljpaeaaDoor.Pl
open Go Go.RowKit Fld Bits16
set_option linter.unusedVariables false
section
variable {m : Nat} [M : Mid m]
theorem Blk64.rowz {w : World} {g : Nat} {l : List Int} (h : Blk64 w g l) (hm : l.length ≤ 1000000) : RowZ w (some ⟨g, 0, none⟩) l.length l.length l := by
  have := Blk64.row h l.length (Nat.le_refl _) hm
  rwa [List.take_length] at this
set_option maxRecDepth 100000 in
set_option maxHeartbeats 1000000 in
theorem radd_any (a1 : Option Addr) (n1 c1 : Nat) (l1 : List Int) (a2 : Option Addr) (n2 c2 : Nat) (l2 : List Int) (w : World) (h1 : RowZ w a1 n1 c1 l1) (h2 : RowZ w a2 n2 c2 l2) (k1 : n1 ≤ 1000000) (k2 : n2 ≤ 1000000) :
    Calls Tryd.prog 32 #[.int .i64 (m : Int), .slice a1 n1 c1, .slice a2 n2 c2] w
      fun e w' => ∃ a' n' cap', e = .returned (.slice a' n' cap') ∧ ROut m w w' a' n' cap' (padd (sr m l1) (sr m l2)) ∧ Below w.heap.size w w' := by
  have HP1 := Lib.hid h1
  have HP2 := Lib.hid h2
  have e1 := h1.hlen
  have e2 := h2.hlen
  obtain ⟨N, hN⟩ : ∃ N, N = max n1 n2 := ⟨_, rfl⟩
  have hN1 : n1 ≤ N := by omega
  have hN2 : n2 ≤ N := by omega
  have hNN : N = n1 ∨ N = n2 := by omega
  have hNm : N ≤ 1000000 := by omega
  have hS : sr m (upN (rawN l1 l2) N N) = padd (sr m l1) (sr m l2) := sr_raw l1 l2 N (by omega) (by omega)
  have HS := Lib.hid hS
  have hmk := made64 w N hNm
  rw [upN_zero (rawN l1 l2)] at hmk
  have hmk1 : Hid (¬ n1 < n2 → (Instr.makeSlice 22 (.int .i64 (n1 : Int)) (.int .i64 (n1 : Int))).run Tryd.prog w = .ok (.slice (some ⟨w.heap.size, 0, none⟩) N N) (w.alloc (obj64 (upN (rawN l1 l2) N 0)))) := fun h => by
    have e : n1 = N := by omega
    rw [e]; exact hmk
  have hmk2 : Hid (n1 < n2 → (Instr.makeSlice 22 (.int .i64 (n2 : Int)) (.int .i64 (n2 : Int))).run Tryd.prog w = .ok (.slice (some ⟨w.heap.size, 0, none⟩) N N) (w.alloc (obj64 (upN (rawN l1 l2) N 0)))) := fun h => by
    have e : n2 = N := by omega
    rw [e]; exact hmk
  have HK0 : Hid (Blk64 (w.alloc (obj64 (upN (rawN l1 l2) N 0))) w.heap.size (upN (rawN l1 l2) N 0)) := Blk64.new w _
  have HB0 : Hid (Below w.heap.size w (w.alloc (obj64 (upN (rawN l1 l2) N 0)))) := (Below.refl _ _).alloc (Nat.le_refl _) _
  have HE1 := Lib.hid e1
  have HE2 := Lib.hid e2
  have HNN := Lib.hid hNN
  clear h1 h2 e1 e2 hN hNN hS
  clear hmk
  by_cases hcase : n1 < n2
  all_goals
    first | have hmk := hmk2.out hcase | have hmk := hmk1.out hcase
    clear hmk1 hmk2
    go_enter Tryd.func32, Tryd.ntmps32
    go_wp2_with fail
    clear hmk hcase
    generalize w.alloc (obj64 (upN (rawN l1 l2) N 0)) = w0 at HK0 HB0 ⊢
    go_loopg [8] N (fun gh s8 wx => ∃ (k : Nat), gh = N - k ∧ k ≤ N ∧ s8 = .int .i64 (k : Int) ∧ Blk64 wx w.heap.size (upN (rawN l1 l2) N k) ∧ Below w.heap.size w wx)
    case atStart => exact ⟨0, rfl, Nat.zero_le _, rfl, HK0.out, HB0.out⟩
    case round =>
      clear HK0 HB0
      obtain ⟨k, hg, hkn, rfl, hk, hB⟩ := hrel
      have HG := Lib.hid hg
      clear hg
      by_cases hlt : k < N
      · have x0 : (0 : Int) ≤ (k : Int) := by omega
        have x1 : (k : Int) < (N : Int) := by omega
        have hc := hk.cell (i := k) (by rw [upN_length]; exact hlt)
        rw [upN_at _ _ _ _ hlt (Nat.le_refl _)] at hc
        have hf := hk.free k
        have hset := upN_set (rawN l1 l2) N k
        have HK := Lib.hid hk
        have HB := Lib.hid hB
        have HSET := Lib.hid hset
        by_cases ha : k < n1
        · have t1 : decide ((k : Int) < (n1 : Int)) = true := decide_eq_true (by omega)
          have x2 : (k : Int) < (n1 : Int) := by omega
          obtain ⟨bb, off, rfl, d1, hb⟩ := (HP1.out.below hB).row k ha
          generalize hz1 : l1.getD k 0 = z1 at d1
          have HZ1 := Lib.hid hz1
          clear hz1
          have hs := hk.set k (z1)
          have U8 : Upd w.heap.size wr (wr.setCell ⟨w.heap.size, k, none⟩ (.int .i64 (z1))) := (Upd.refl _ wr).only (Only.setCell _ ⟨w.heap.size, k, none⟩ _)
          have hB8 := hB.trans (U8.toBelow (Nat.le_refl _) hB.size)
          have HS8 := Lib.hid hs
          have HB8 := Lib.hid hB8
          clear hk hB hb hset hs hB8 U8
          by_cases hc2 : k < n2
          · have t2 : decide ((k : Int) < (n2 : Int)) = true := decide_eq_true (by omega)
            have x3 : (k : Int) < (n2 : Int) := by omega
            go_wp2_with fail
            clear hc hf d1
            generalize wr.setCell ⟨w.heap.size, k, none⟩ (.int .i64 (z1)) = w8 at HS8 HB8 ⊢
            obtain ⟨b2, o2, rfl, d2, hb2⟩ := (HP2.out.below HB8.out).row k hc2
            have hc := HS8.out.cell (i := k) (by rw [List.length_set, upN_length]; exact hlt)
            have hf := HS8.out.free k
            have hv : nth64 ((upN (rawN l1 l2) N k).set k (z1)) k = z1 := by
              unfold nth64
              rw [List.getD_eq_getElem?_getD, List.getElem?_set_self (by rw [upN_length]; exact hlt)]; rfl
            rw [hv] at hc
            have HV : Hid (bits .xor .i64 (z1) (l2.getD k 0) = rawN l1 l2 k) := by
              show _ = _
              unfold rawN
              rw [if_pos (by rw [← HE1.out]; exact ha), if_pos (by rw [← HE2.out]; exact hc2), HZ1.out]
            have hs := HS8.out.set k (rawN l1 l2 k)
            rw [List.set_set, HSET.out] at hs
            have U8 : Upd w.heap.size w8 (w8.setCell ⟨w.heap.size, k, none⟩ (.int .i64 (rawN l1 l2 k))) := (Upd.refl _ w8).only (Only.setCell _ ⟨w.heap.size, k, none⟩ _)
            have hB9 := HB8.out.trans (U8.toBelow (Nat.le_refl _) HB8.out.size)
            have HS9 : Hid (Blk64 (w8.drew.setCell ⟨w.heap.size, k, none⟩ (.int .i64 (rawN l1 l2 k))) w.heap.size (upN (rawN l1 l2) N (k + 1))) := hs
            have HB9 : Hid (Below w.heap.size w (w8.drew.setCell ⟨w.heap.size, k, none⟩ (.int .i64 (rawN l1 l2 k)))) := ⟨hB9.os, hB9.tape, hB9.output, hB9.size, hB9.block⟩
            have d2' : w8.drew.cell? ⟨b2, o2 + k, none⟩ = some (.int .i64 (l2.getD k 0)) := d2
            have hc' : w8.drew.cell? ⟨w.heap.size, k, none⟩ = some (.int .i64 (z1)) := hc
            have hf' : w8.drew.frozen? ⟨w.heap.size, k, none⟩ = false := hf
            clear hs hB9 U8 hv hb2 d2 hc hf
            have hvx := HV.out
            clear HV
            generalize l2.getD k 0 = z2 at d2' hvx
            clear HS8
            go_wp2_with fail
            refine wp_region_still_tail 11 (by kernel_rfl) (by kernel_rfl) ?_
            simp only [List.take_succ_cons, List.take_zero, List.drop_succ_cons, List.drop_zero]
            change wpStill _ _ w8.drew (fun a' => wpList _ _ _ _ a' w8.drew) _ _
            generalize w8.drew = w9 at HS9 HB9 d2' hc' hf' ⊢
            repeat still_step
            refine wpStill_nil ?_
            go_wp2_with fail
            clear d2' hc' hf' hvx
            generalize w9.setCell ⟨w.heap.size, k, none⟩ (.int .i64 (rawN l1 l2 k)) = wq at HS9 HB9 ⊢
            go_wp2_with fail
            go_roundg (N - (k + 1))
            case measure => have := HG.out; omega
            case rel => exact ⟨k + 1, rfl, by omega, by go_num, HS9.out, HB9.out⟩
          · have t2 : decide ((k : Int) < (n2 : Int)) = false := decide_eq_false (by omega)
            go_wp2_with fail
            clear hc hf d1
            generalize wr.setCell ⟨w.heap.size, k, none⟩ (.int .i64 (z1)) = w8 at HS8 HB8 ⊢
            have hs := HS8.out
            have e : z1 = rawN l1 l2 k := by
              unfold rawN
              rw [if_pos (by rw [← HE1.out]; exact ha), if_neg (by rw [← HE2.out]; exact hc2), HZ1.out]
            rw [e, HSET.out] at hs
            have HS9 := Lib.hid hs
            clear hs e HS8
            go_roundg (N - (k + 1))
            case measure => have := HG.out; omega
            case rel => exact ⟨k + 1, rfl, by omega, by go_num, HS9.out, HB8.out⟩
        · have t1 : decide ((k : Int) < (n1 : Int)) = false := decide_eq_false (by omega)
          have hc2 : k < n2 := by have := HNN.out; omega
          have t2 : decide ((k : Int) < (n2 : Int)) = true := decide_eq_true (by omega)
          have x3 : (k : Int) < (n2 : Int) := by omega
          obtain ⟨b2, o2, rfl, d2, hb2⟩ := (HP2.out.below hB).row k hc2
          have hvx : bits .xor .i64 0 (l2.getD k 0) = rawN l1 l2 k := by
            unfold rawN
            rw [if_neg (by rw [← HE1.out]; exact ha)]
          have hs := hk.set k (rawN l1 l2 k)
          rw [hset] at hs
          have U8 : Upd w.heap.size wr (wr.setCell ⟨w.heap.size, k, none⟩ (.int .i64 (rawN l1 l2 k))) := (Upd.refl _ wr).only (Only.setCell _ ⟨w.heap.size, k, none⟩ _)
          have hB9 := hB.trans (U8.toBelow (Nat.le_refl _) hB.size)
          have HS9 : Hid (Blk64 (wr.drew.setCell ⟨w.heap.size, k, none⟩ (.int .i64 (rawN l1 l2 k))) w.heap.size (upN (rawN l1 l2) N (k + 1))) := hs
          have HB9 : Hid (Below w.heap.size w (wr.drew.setCell ⟨w.heap.size, k, none⟩ (.int .i64 (rawN l1 l2 k)))) := ⟨hB9.os, hB9.tape, hB9.output, hB9.size, hB9.block⟩
          have d2' : wr.drew.cell? ⟨b2, o2 + k, none⟩ = some (.int .i64 (l2.getD k 0)) := d2
          have hc' : wr.drew.cell? ⟨w.heap.size, k, none⟩ = some (.int .i64 0) := hc
          have hf' : wr.drew.frozen? ⟨w.heap.size, k, none⟩ = false := hf
          clear hs hB9 U8 hb2 d2 hc hf hk hB hset
          generalize l2.getD k 0 = z2 at d2' hvx
          clear HK HB
          go_wp2_with fail
          refine wp_region_still_tail 11 (by kernel_rfl) (by kernel_rfl) ?_
          simp only [List.take_succ_cons, List.take_zero, List.drop_succ_cons, List.drop_zero]
          change wpStill _ _ wr.drew (fun a' => wpList _ _ _ _ a' wr.drew) _ _
          generalize wr.drew = w9 at HS9 HB9 d2' hc' hf' ⊢
          repeat still_step
          refine wpStill_nil ?_
          go_wp2_with fail
          clear d2' hc' hf' hvx
          generalize w9.setCell ⟨w.heap.size, k, none⟩ (.int .i64 (rawN l1 l2 k)) = wq at HS9 HB9 ⊢
          go_wp2_with fail
          go_roundg (N - (k + 1))
          case measure => have := HG.out; omega
          case rel => exact ⟨k + 1, rfl, by omega, by go_num, HS9.out, HB9.out⟩
      · obtain rfl : k = N := by omega
        have hrow := Blk64.rowz hk (by rw [upN_length]; exact hNm)
        rw [upN_length] at hrow
        have HRow := Lib.hid hrow
        have HB := Lib.hid hB
        clear hk hrow hB
        go_wp2_with fail
        refine (rtrim_any (m := m) _ k k _ wr HRow.out hNm).mono ?_
        rintro e w5 ⟨a', n', cap', rfl, hO, hb⟩
        rw [HS.out] at hO
        have HO := Lib.hid (hO.from HB.out.size)
        have HB5 := Lib.hid (HB.out.trans (hb.mono HB.out.size))
        clear hO hb
        go_wp2_with fail
        go_ret
        exact ⟨_, _, _, rfl, HO.out, HB5.out⟩
end
end Go.Proofs.YtjpaihnnljpaeaaDoor.Pl
/- The statements' own polynomials (shaleref2): Times. By the verifier of shale. -/
namespace Go.Proofs.YtjpaihnnljpaeaaDoor.Pl
open Go Go.RowKit Fld Bits16
set_option linter.unusedVariables false
section
variable {m : Nat} [M : Mid m]
set_option maxRecDepth 100000 in
set_option maxHeartbeats 1000000 in
theorem rtimes_any (a1 : Option Addr) (n1 c1 : Nat) (l1 : List Int) (a2 : Option Addr) (n2 c2 : Nat) (l2 : List Int) (w : World) (h1 : RowZ w a1 n1 c1 l1) (h2 : RowZ w a2 n2 c2 l2) (k1 : n1 ≤ 100000) (k2 : n2 ≤ 100000) :
    Calls Tryd.prog 31 #[.int .i64 (m : Int), .slice a1 n1 c1, .slice a2 n2 c2] w
      fun e w' => ∃ a' n' cap', e = .returned (.slice a' n' cap') ∧ ROut m w w' a' n' cap' (cv (sr m l1) (sr m l2)) ∧ Below w.heap.size w w' := by
  have HP1 := Lib.hid h1
  have HP2 := Lib.hid h2
  have hb1 : Bd (sr m l1) n1 := by have := sr_bd (m := m) l1; rwa [← h1.hlen] at this
  have hb2 : Bd (sr m l2) n2 := by have := sr_bd (m := m) l2; rwa [← h2.hlen] at this
  have ht1 := top_le (sr m l1) n1
  have ht2 := top_le (sr m l2) n2
  have HB1 := Lib.hid hb1
  have HB2 := Lib.hid hb2
  clear h1 h2 hb1 hb2
  go_enter Tryd.func31, Tryd.ntmps31
  go_wp2_with fail
  refine (rtrim_any (m := m) a1 n1 c1 l1 w HP1.out (by omega)).mono ?_
  rintro e w1 ⟨p1, N1, d1, rfl, hO1, b1⟩
  go_wp2_with fail
  refine (rtrim_any (m := m) a2 n2 c2 l2 w1 (HP2.out.below b1) (by omega)).mono ?_
  rintro e w2 ⟨p2, N2, d2, rfl, hO2, b2⟩
  have hN1 : N1 ≤ n1 := by rw [hO1.len HB1.out]; exact ht1
  have hN2 : N2 ≤ n2 := by rw [hO2.len HB2.out]; exact ht2
  replace hO1 := hO1.since b2
  have HO1 := Lib.hid hO1
  have HO2 := Lib.hid hO2
  have HB12 := Lib.hid (b1.trans (b2.mono b1.size))
  clear hO1 hO2 b1 b2
  generalize hPe : sr m l1 = P at HO1 HB1 ht1
  generalize hQe : sr m l2 = Q at HO2 HB2 ht2
  have HPe := Lib.hid hPe
  have HQe := Lib.hid hQe
  clear hPe hQe
  obtain ⟨N, hN⟩ : ∃ N, N = N1 + N2 := ⟨_, rfl⟩
  have hNm : N ≤ 1000000 := by omega
  have hmk := made64 w2 N hNm
  rw [nums_pz (m := m)] at hmk
  have HK0 : Hid (Blk64 (w2.alloc (obj64 (nums (pz : Ser (El m)) N))) w2.heap.size (nums (pz : Ser (El m)) N)) := Blk64.new w2 _
  have HB0 : Hid (Below w2.heap.size w2 (w2.alloc (obj64 (nums (pz : Ser (El m)) N)))) := (Below.refl _ _).alloc (Nat.le_refl _) _
  have hsum : (N1 : Int) + (N2 : Int) = (N : Int) := by omega
  have HN := Lib.hid hN
  clear hN
  go_wp2_with fail
  clear hmk hsum
  generalize w2.alloc (obj64 (nums (pz : Ser (El m)) N)) = w3 at HK0 HB0 ⊢
  go_loopg [8] N1 (fun gh s8 wx => ∃ (i : Nat), gh = N1 - i ∧ i ≤ N1 ∧ s8 = .int .i64 (i : Int) ∧ Blk64 wx w2.heap.size (nums (cv (cutS P i) Q) N) ∧ Below w2.heap.size w2 wx)
  case atStart => exact ⟨0, rfl, Nat.zero_le _, rfl, by rw [cutS_zero, cv_zero]; exact HK0.out, HB0.out⟩
  case round =>
    clear HK0 HB0
    obtain ⟨i, hg, hin, rfl, hk, hB⟩ := hrel
    have HG := Lib.hid hg
    clear hg
    by_cases hlt : i < N1
    · have x0 : (0 : Int) ≤ (i : Int) := by omega
      have x1 : (i : Int) < (N1 : Int) := by omega
      have HK := Lib.hid hk
      have HB := Lib.hid hB
      clear hk hB
      go_wp2_with fail
      obtain ⟨W0, rfl⟩ : ∃ W0, W0 = wr := ⟨_, rfl⟩
      go_loopg [9] N2 (fun gh s9 wx => ∃ (j : Nat), gh = N2 - j ∧ j ≤ N2 ∧ s9 = .int .i64 (j : Int) ∧ Blk64 wx w2.heap.size (nums (padd (cv (cutS P i) Q) (cv (mono i (P i)) (cutS Q j))) N) ∧ Below w2.heap.size w2 wx)
      case atStart => exact ⟨0, rfl, Nat.zero_le _, rfl, by rw [cutS_zero, zero_cv, padd_zero]; exact HK.out, HB.out⟩
      case round =>
        clear HK HB
        obtain ⟨j, hg, hjn, rfl, hk, hB⟩ := hrel
        have HG2 := Lib.hid hg
        clear hg
        by_cases hlj : j < N2
        · have y0 : (0 : Int) ≤ (j : Int) := by omega
          have y1 : (j : Int) < (N2 : Int) := by omega
          obtain ⟨K, hK⟩ : ∃ K, K = i + j := ⟨_, rfl⟩
          have hKN : K < N := by have := HN.out; omega
          have z0 : (0 : Int) ≤ (K : Int) := by omega
          have z1 : (K : Int) < (N : Int) := by omega
          have hKe : (i : Int) + (j : Int) = (K : Int) := by omega
          obtain ⟨bb1, o1, rfl, d1', _⟩ := (HO1.out.row.below hB).row i hlt
          obtain ⟨bb2, o2, rfl, d2', _⟩ := (HO2.out.row.below hB).row j hlj
          rw [nums_at P N1 i hlt] at d1'
          rw [nums_at Q N2 j hlj] at d2'
          have d1' := cell_regrown d1'
          have d2' := cell_regrown d2'
          have c3 := hk.cell (i := K) (by rw [nums_length]; exact hKN)
          rw [show nth64 (nums (padd (cv (cutS P i) Q) (cv (mono i (P i)) (cutS Q j))) N) K = zn (padd (cv (cutS P i) Q) (cv (mono i (P i)) (cutS Q j)) K) from nums_at _ _ _ hKN] at c3
          have c3' := cell_regrown c3
          have HM : Hid (∀ q os, Calls Tryd.prog 16 #[.int .i64 (m : Int), .int .i64 (zn (P i)), .int .i64 (zn (Q j))] (Sort.grow (redrawn wr q) os) fun e w'' => e = .returned (.int .i64 (zn (P i * Q j))) ∧ ∃ p : Regrown, w'' = Sort.grow (redrawn wr p.d) p.os) := fun q os => Calls.regrown_of (rmul_zz _ _ _)
          have hv : bits .xor .i64 (zn (padd (cv (cutS P i) Q) (cv (mono i (P i)) (cutS Q j)) K)) (zn (P i * Q j)) = zn (padd (cv (cutS P i) Q) (cv (mono i (P i)) (cutS Q (j + 1))) K) := by
            rw [zn_add, hK, times_new, Fl.mul_comm (P i)]
          have HSET : Hid ((nums (padd (cv (cutS P i) Q) (cv (mono i (P i)) (cutS Q j))) N).set K (zn (padd (cv (cutS P i) Q) (cv (mono i (P i)) (cutS Q (j + 1))) K)) = nums (padd (cv (cutS P i) Q) (cv (mono i (P i)) (cutS Q (j + 1)))) N) :=
            nums_set _ _ N K (fun x hx => times_at _ Q (P i) i j x (by rw [← hK]; exact hx))
          generalize zn (padd (cv (cutS P i) Q) (cv (mono i (P i)) (cutS Q (j + 1))) K) = v1 at hv HSET
          generalize zn (padd (cv (cutS P i) Q) (cv (mono i (P i)) (cutS Q j)) K) = v0 at hv c3 c3'
          generalize zn (P i * Q j) = v2 at hv HM
          have HK := Lib.hid hk
          have HB := Lib.hid hB
          have c4 := hk.free K
          clear hk hB hK
          go_wp2_with fail
          refine wp_region_quiet_tail (C := fun w' => ∃ p : Regrown, w' = Sort.grow (redrawn wr p.d) p.os) 21 (by kernel_rfl) (by kernel_rfl) (regrown0 wr) ?_
          simp only [List.take_succ_cons, List.take_zero, List.drop_succ_cons, List.drop_zero]
          repeat (go_big_quiet_step (first | (go_at_call 16; with_reducible exact HM.out _ _)))
          refine wpQuiet_nil ?_
          rintro _ ⟨⟨dq, osq⟩, rfl⟩
          have b9 := below_regrown wr dq osq
          have hk := (b9.block _ HK.out.lt).trans HK.out
          have hB := HB.out.trans (b9.mono HB.out.size)
          have c3 := c3' dq osq
          change Blk64 _ _ _ at hk
          have c4 := hk.free K
          clear b9 HM d1' d2' c3' HK HB
          generalize Sort.grow (redrawn wr dq) osq = w9 at hk hB c3 c4 ⊢
          have hs := hk.set K v1
          rw [HSET.out] at hs
          have U8 : Upd w2.heap.size w9 (w9.setCell ⟨w2.heap.size, K, none⟩ (.int .i64 v1)) := (Upd.refl _ w9).only (Only.setCell _ ⟨w2.heap.size, K, none⟩ _)
          have HB9 := Lib.hid (hB.trans (U8.toBelow (Nat.le_refl _) hB.size))
          have HS9 := Lib.hid hs
          clear hk hB hs U8 HSET
          go_wp2_with fail
          clear c3 c4 hv hKe
          generalize w9.setCell ⟨w2.heap.size, K, none⟩ (.int .i64 v1) = wq at HS9 HB9 ⊢
          go_wp2_with fail
          go_roundg (N2 - (j + 1))
          case measure => have := HG2.out; omega
          case rel => exact ⟨j + 1, rfl, by omega, by go_num, HS9.out, HB9.out⟩
        · obtain rfl : j = N2 := by omega
          rw [cutS_all HO2.out.bd, mul_step] at hk
          have HK := Lib.hid hk
          clear hk
          go_wp2_with fail
          go_roundg (N1 - (i + 1))
          case measure => have := HG.out; omega
          case rel => exact ⟨i + 1, rfl, by omega, by go_num, HK.out, hB⟩
    · obtain rfl : i = N1 := by omega
      rw [cutS_all HO1.out.bd] at hk
      have hrow := Blk64.rowz hk (by rw [nums_length]; exact hNm)
      rw [nums_length] at hrow
      have HRow := Lib.hid hrow
      have HBw := Lib.hid (HB12.out.trans (hB.mono HB12.out.size))
      have HS : Hid (sr m (nums (cv P Q) N) = cv P Q) := sr_nums ((bd_cv HO1.out.bd HO2.out.bd).mono (by have := HN.out; omega))
      clear hk hrow hB
      go_wp2_with fail
      refine (rtrim_any (m := m) _ N N _ wr HRow.out hNm).mono ?_
      rintro e w5 ⟨a', n', cap', rfl, hO, hb⟩
      rw [HS.out] at hO
      have HO := Lib.hid (hO.from HBw.out.size)
      have HB5 := Lib.hid (HBw.out.trans (hb.mono HBw.out.size))
      clear hO hb
      go_wp2_with fail
      go_ret
      exact ⟨_, _, _, rfl, by rw [HPe.out, HQe.out]; exact HO.out, HB5.out⟩
end
end Go.Proofs.YtjpaihnnljpaeaaDoor.Pl
/- The statements' own polynomials (shaleref2): DivMod. By the verifier of shale. -/
namespace Go.Proofs.YtjpaihnnljpaeaaDoor.Pl
open Go Go.RowKit Fld Bits16
set_option linter.unusedVariables false
theorem Blk64.own {w : World} {g base n : Nat} {l : List Int} (h : Blk64 w g l) (hb : base ≤ g) (hn : n = l.length) (hm : n ≤ maxLen) : Own64 w base (.slice (some ⟨g, 0, none⟩) n n) n l := by
  refine ⟨by rw [cells64_length]; omega, Or.inr ⟨g, n, (cells64 l).toArray, rfl, hb, h, Nat.le_refl _, hm, by simp [cells64_length, hn], ?_⟩⟩
  rw [List.toList_toArray, List.take_of_length_le (by rw [cells64_length]; omega)]
theorem RowZ.news {w : World} {bb off n cap : Nat} {l : List Int} (h : RowZ w (some ⟨bb, off, none⟩) n cap l) : ∀ j u, (cells64 l)[j]? = some u → w.cell? ((⟨bb, off, none⟩ : Addr).add j) = some u := by
  intro j u hu
  have hj : j < l.length := by
    have := (List.getElem?_eq_some_iff.1 hu).1
    rwa [cells64_length] at this
  obtain ⟨b2, o2, e, hc, _⟩ := h.row j (by rw [h.hlen]; exact hj)
  simp only [Option.some.injEq, Addr.mk.injEq] at e
  obtain ⟨rfl, rfl, _⟩ := e
  rw [add_row, hc, ← hu]
  unfold cells64
  simp [hj]
theorem cells64_one (l : List Int) : ∀ u ∈ cells64 l, u.oneCell' = true := by
  intro u hu
  unfold cells64 at hu
  obtain ⟨z, _, rfl⟩ := List.mem_map.1 hu
  rfl
section
variable {m : Nat} [M : Mid m]
theorem rinv_zz (a : El m) (h0 : a ≠ 0) (w : World) : Calls Tryd.prog 30 #[.int .i64 (m : Int), .int .i64 (zn a)] w fun e w' => e = .returned (.int .i64 (zn a⁻¹)) ∧ Below w.heap.size w w' := by
  have hne : el m (zn a) ≠ 0 := fun e => h0 (by
    have := congrArg Subtype.val (elm_zn a)
    exact El.ext (this.symm.trans e))
  have := rinv_any m M.lo M.hi (zn a) hne w
  rwa [inv_zz _ h0] at this
theorem sr_shift (s : Nat) (l : List Int) : sr m (List.replicate s 0 ++ l) = cv (mono s 1) (sr m l) := by
  funext i
  rw [cv_mono]
  show elm m ((List.replicate s 0 ++ l).getD i 0) = _
  rw [List.getD_eq_getElem?_getD]
  by_cases h : i < s
  · rw [if_pos h, List.getElem?_append_left (by simpa using h)]
    simp [h]; exact elm_zero
  · rw [if_neg h, List.getElem?_append_right (by simp; omega), one_mul]
    simp only [List.length_replicate]
    rw [← List.getD_eq_getElem?_getD]; rfl
theorem sr_single (c : El m) : sr m [zn c] = mono 0 c := by
  funext i
  show elm m ([zn c].getD i 0) = if i = 0 then c else 0
  cases i with
  | zero => rw [if_pos rfl]; exact elm_zn c
  | succ i => rw [if_neg (by omega)]; exact elm_zero
theorem mono_mul (s : Nat) (c : El m) : cv (mono s 1) (mono 0 c) = mono s c := by
  funext i
  rw [cv_mono]
  show (if i < s then 0 else 1 * (if i - s = 0 then c else 0)) = if i = s then c else 0
  by_cases h : i < s
  · rw [if_pos h, if_neg (by omega)]
  · rw [if_neg h, one_mul]
    by_cases h2 : i = s
    · rw [if_pos (by omega), if_pos h2]
    · rw [if_neg (by omega), if_neg h2]
theorem row_single (w : World) (c : Int) : RowZ (w.alloc (.cells #[.int .i64 c] 3 (0, 0))) (some ⟨w.heap.size, 0, none⟩) 1 1 [c] :=
  ⟨rfl, Nat.le_refl _, by decide, fun i hi => ⟨w.heap.size, 0, rfl, by
    obtain rfl : i = 0 := by omega
    have := cell_one_new w (.int .i64 c) 3 0 (.int .i64 c) rfl
    rwa [add_row] at this, lt_of_block (heap_alloc_new w _)⟩⟩
/-- where the reference's division stands. -/
structure RDivs (P Q A L : Ser (El m)) (e k N : Nat) : Prop where
  sum : P = padd (cv A Q) L
  low : Bd L k
  bd : Bd A (N + 1)
  free : ∀ j, j + e < k → A j = 0
theorem RDivs.next {P Q A L : Ser (El m)} {e k N s : Nat} (h : RDivs P Q A L e (k + 1) N) (hQ : Dg Q e) (hs : k = s + e) (hk : k < N) {k' : Nat} (hk' : k' ≤ k) (hb : Bd (padd L (cv (mono s (L k * (Q e)⁻¹)) Q)) k') :
    RDivs P Q (padd A (mono s (L k * (Q e)⁻¹))) (padd L (cv (mono s (L k * (Q e)⁻¹)) Q)) e k' N := by
  refine ⟨?_, hb, h.bd.add ((mono_bd _ _).mono (by omega)), fun j hj => ?_⟩
  · rw [cv_add, padd_xx, padd_comm, h.sum]
    have : padd (cv (mono s (L k * (Q e)⁻¹)) Q) (cv (mono s (L k * (Q e)⁻¹)) Q) = pz := padd_self _
    rw [this, zero_padd]
  · show A j + mono s _ j = 0
    rw [h.free j (by omega), show mono s (L k * (Q e)⁻¹) j = 0 from if_neg (by omega), Fl.add_zero]
end
end Go.Proofs.YtjpaihnnljpaeaaDoor.Pl
/- The walks over package locate: minus, mend, mendWhole. By the verifier of shale. -/
namespace Go.Proofs.YtjpaihnnljpaeaaDoor.Loc
open Go Go.RowKit Pl Fld Bits16
set_option linter.unusedVariables false
section
variable {m : Nat} [M : Mid m]
theorem sr_up (k : Nat) (l : List Int) : sr m (List.replicate k 0 ++ l) = up k (sr m l) := funext fun i => by
  rw [up_at]
  show elm m ((List.replicate k 0 ++ l).getD i 0) = _
  by_cases h : i < k
  · rw [if_pos h, List.getD_eq_getElem?_getD, List.getElem?_append_left (by simpa using h)]
    simp [h, elm_zero]
  · rw [if_neg h, List.getD_eq_getElem?_getD, List.getElem?_append_right (by simpa using h)]
    simp [sr, List.getD_eq_getElem?_getD]
theorem own_row {w : World} {base n : Nat} {a : Option Addr} {k c : Nat} {l : List Int} (h : Own64 w base (.slice a k c) n l) (hk : k = n) (hc : n ≤ c) (hm : c ≤ maxLen) : RowZ w a n c l := by
  refine ⟨h.len.symm, hc, hm, fun i hi => ?_⟩
  obtain ⟨g, cap, e, _, hlt, hnc, hcell⟩ := h.cells (by omega)
  simp only [Value.slice.injEq] at e
  obtain ⟨rfl, rfl, rfl⟩ := e
  exact ⟨g, 0, rfl, by rw [Nat.zero_add]; exact hcell i hi, hlt⟩
theorem own_room {w : World} {base n g c : Nat} {l : List Int} (h : Own64 w base (.slice (some ⟨g, 0, none⟩) n c) n l) : n ≤ c ∧ c ≤ maxLen := by
  rcases h.2 with ⟨h0, _⟩ | ⟨g', cap', cur, hv, hbg, hh, hnc, hm, _⟩
  · cases h0
  · simp only [Value.slice.injEq] at hv
    obtain ⟨_, _, rfl⟩ := hv
    exact ⟨hnc, hm⟩
set_option maxRecDepth 100000 in
set_option maxHeartbeats 1000000 in
theorem minus_any {K1 K2 : Nat} (K : Nat) {x s be ce bl L k : Nat} {cv : Value} {d : Int} {a a' : Option Addr} {n c n' c' : Nat} {p q : Ser (El m)} (z : Int) (w : World)
    (hB : SrB w x s cv (.slice a' n' c') L k d) (F : FldAt m w s be ce bl) (hp : PV m w K1 a n c p) (hq : PV m w K2 a' n' c' q) (h0 : 0 < n') (hK1 : K1 ≤ 1000) (hK2 : K2 ≤ 1000) (hk : k ≤ 1000) (hb : Bd (padd p (psm (elm m z) (up k q))) K) :
    Calls Tryd.prog 46 #[.pointer (some ⟨x, 0, none⟩), .slice a n c, .int .i64 z] w
      fun e w' => ∃ a n c, e = .returned (.slice a n c) ∧ NP m w w' K a n c (padd p (psm (elm m z) (up k q))) ∧ Below w.heap.size w w' := by
  obtain ⟨i0, hi, hz0, hz1, hz2⟩ := info64
  have hmk := fun w => made64 w k (by omega)
  obtain ⟨lq, rq, hlq, hn'⟩ := hq
  obtain ⟨bq, oq, rfl, _, _⟩ := rq.row 0 h0
  obtain ⟨c0, c1, c2, c3, c4, c5⟩ := hB.cells
  have hx := hB.lt
  have hrow := RowZ.news rq
  have hbq : bq < w.heap.size := by
    obtain ⟨b1, o1, e1, _, hb1⟩ := rq.row 0 h0
    simp only [Option.some.injEq, Addr.mk.injEq] at e1
    obtain ⟨rfl, _⟩ := e1
    exact hb1
  have HRow := Lib.hid hrow
  have HF := Lib.hid F
  have HP := Lib.hid hp
  have HL := Lib.hid rq.hlen
  have HQ := Lib.hid hlq
  have HB := Lib.hid hb
  clear hB F hp rq hlq hb hrow c1 c3 c5
  go_enter Tryd.func46, Tryd.ntmps46
  go_wp2_with fail
  have hx1 : Below w.heap.size w (w.alloc (obj64 (List.replicate k 0))).drew := ((Below.refl _ _).alloc (Nat.le_refl _) _).drew
  have ho : Own64 (w.alloc (obj64 (List.replicate k 0))).drew w.heap.size (.slice (some ⟨w.heap.size, 0, none⟩) k k) k (List.replicate k 0) := Blk64.own (Blk64.new w (List.replicate k 0) : Blk64 (w.alloc (obj64 (List.replicate k 0))).drew w.heap.size _) (Nat.le_refl _) (by simp) (by unfold maxLen; omega)
  have hnews : ∀ j u, (cells64 lq)[j]? = some u → (w.alloc (obj64 (List.replicate k 0))).drew.cell? ((⟨bq, oq, none⟩ : Addr).add j) = some u := fun j u hu => (hx1.cell (by rw [add_row]; exact hbq)).trans (HRow.out j u hu)
  have hsz : (w.alloc (obj64 (List.replicate k 0))).drew.heap.size = w.heap.size + 1 := Array.size_push _
  go_region_held3 (fun w' => w'.cell? ⟨x, 2, none⟩ = some (.slice (some ⟨bq, oq, none⟩) n' c') ∧ w'.cell? ⟨x, 4, none⟩ = some (.int .i64 (k : Int)))
    (first | go_keep | exact ⟨(hgrow.cell_far ⟨x, 2, none⟩ (by rw [hsz]; show x < _; omega) (by simp [Value.ownBlock]; omega)).trans ((hx1.cell (p := ⟨x, 2, none⟩) hx).trans c2), (hgrow.cell_far ⟨x, 4, none⟩ (by rw [hsz]; show x < _; omega) (by simp [Value.ownBlock]; omega)).trans ((hx1.cell (p := ⟨x, 4, none⟩) hx).trans c4)⟩)
    ((refine step_append_lies _ (by rfl) _ _ _ (by rfl) w.heap.size 3 i0 (.int .i64 0) 1 8 Tryd.underlying22 hi hz0 hz1 hz2 rfl (by decide) (.slice (some ⟨w.heap.size, 0, none⟩) k k) k (cells64 (List.replicate k 0)) (by rfl) ho ⟨bq, oq, none⟩ n' c' (cells64 lq) (by rfl) (by rw [cells64_length, ← HL.out, Nat.mul_one]) hnews (cells64_one _) h0 (by unfold maxLen; omega) (by omega) (by rw [hsz]; omega) (w.heap.size + 1) hsz ?_; intro gg cap w1 hown1 hgrow hat hlt))
  have b1 : Below w.heap.size w w1 := hx1.grown hgrow (by omega) (fun g hg => by simp only [Value.ownBlock, Option.some.injEq] at hg; omega)
  have ho1 : Own64 w1 w.heap.size (.slice (some ⟨gg, 0, none⟩) (k + n') cap) (k + n') (List.replicate k 0 ++ lq) := by unfold Own64; rw [← cells64_append]; exact hown1
  have hsh : PV m w1 2000 (some ⟨gg, 0, none⟩) (k + n') cap (up k q) := ⟨_, own_row ho1 rfl (own_room ho1).1 (own_room ho1).2, by rw [sr_up, HQ.out], by omega⟩
  have c0 := (b1.cell (p := ⟨x, 0, none⟩) hx).trans c0
  clear hown1 hgrow hat hlt ho1 hx1 ho hnews hsz c2 c4 hmk
  rename_i hheld
  clear hheld
  go_wp2_with fail
  refine (pnew_any w1 (HF.out.below M.lo b1)).mono ?_
  rintro e w2 ⟨g, rfl, R, b2⟩
  clear c0
  go_wp2_with fail
  refine (scaleV z R (hsh.below b2) (by omega)).mono ?_
  rintro e w3 ⟨a3, n3, cc3, rfl, nv3, b3⟩
  have b13 := b1.trans ((b2.trans (b3.mono b2.size)).mono b1.size)
  go_wp2_with fail
  refine (addN (R.below b3) K (HP.out.below b13) nv3.pol (by omega) (by omega) HB.out).mono ?_
  rintro e w4 ⟨a4, n4, cc4, rfl, np, b4⟩
  have b14 := b13.trans (b4.mono b13.size)
  have hs := b13.size
  go_wp2_with fail
  go_ret
  exact ⟨_, _, _, rfl, ⟨np.nv, fun q hq => Nat.le_trans hs (np.new q hq)⟩, b14⟩
theorem divK (a d : El m) (h0 : d ≠ 0) : h (fmul m (el m (zn a)) (pwZ m (-(lg m (el m (zn d)) : Int)))) = zn (a * d⁻¹) := by
  rw [h_inj _ _ (inv_zz d h0), show el m (zn a) = a.val from congrArg Subtype.val (elm_zn a)]; rfl
theorem zn_el (d : El m) (h0 : d ≠ 0) : el m (zn d) ≠ 0 := by
  rw [show el m (zn d) = d.val from congrArg Subtype.val (elm_zn d)]
  exact fun e => h0 (El.ext e)
set_option maxRecDepth 100000 in
set_option maxHeartbeats 1000000 in
theorem mend_any {K1 : Nat} (K : Nat) {x s be ce bl : Nat} {t : St (El m)} {a a' : Option Addr} {n c n' c' : Nat} (A : El m) (w : World)
    (h : SrAt m w x s be ce bl K1 t a n c a' n' c') (h0 : 0 < n') (hK1 : K1 ≤ 1000) (hk : t.k ≤ 1000) (hd : t.d ≠ 0) (hb : Bd (fix t A) K) :
    Calls Tryd.prog 29 #[.pointer (some ⟨x, 0, none⟩), .int .i64 (zn A)] w
      fun e w' => ∃ a n c, e = .returned (.slice a n c) ∧ NP m w w' K a n c (fix t A) ∧ Below w.heap.size w w' := by
  obtain ⟨c0, c1, c2, c3, c4, c5⟩ := h.blk.cells
  have HH := Lib.hid h
  have HB := Lib.hid hb
  have HD : Hid (∀ nn, Calls Tryd.prog 45 #[.pointer (some ⟨s, 0, none⟩), .int .i64 (zn A), .int .i64 (zn t.d)] (w.drewN nn) fun e w' => e = .returned (.tuple #[.int .i64 (zn (A * t.d⁻¹)), .nilIface]) ∧ Drawn (w.drewN nn) w') := fun nn => by
    have := div_any M.lo M.hi (zn A) (zn t.d) (w.drewN nn) (h.fld.1.drawn M.lo (Drawn.mk w nn)) (zn_el _ hd)
    rw [divK _ _ hd] at this
    exact this
  clear h hb c2 c3 c4 hd
  go_enter Tryd.func29, Tryd.ntmps29
  go_wp2_with fail
  go_quiet ((go_at_call 45; exact quiet_drawn (HD.out _)))
  have b1 : Below w.heap.size w (w.drewN nq) := (Drawn.mk w nq).below _
  have c1 := drewn_cell c1 nq
  generalize w.drewN nq = w1 at b1 c1 ⊢
  clear c0 c5
  go_wp2_with fail
  have h1 := HH.out.below b1
  refine (minus_any K (zn (A * t.d⁻¹)) w1 h1.blk h1.fld.1 h1.pc.pv h1.pb.pv h0 hK1 hK1 hk (by rw [elm_zn]; exact HB.out)).mono ?_
  rintro e w2 ⟨a2, n2, c2, rfl, np, b2⟩
  rw [elm_zn] at np
  have hs := b1.size
  go_wp2_with fail
  go_ret
  exact ⟨_, _, _, rfl, ⟨np.nv, fun q hq => Nat.le_trans hs (np.new q hq)⟩, b1.trans (b2.mono hs)⟩
/-- what mendWhole makes. -/
def fixF (t : St (El m)) (a : El m) : Ser (El m) := padd (psm t.d t.c) (psm a (up t.k t.b))
set_option maxRecDepth 100000 in
set_option maxHeartbeats 1000000 in
theorem mendW_any {K1 : Nat} (K : Nat) {x s be ce bl : Nat} {t : St (El m)} {a a' : Option Addr} {n c n' c' : Nat} (A : El m) (w : World)
    (h : SrAt m w x s be ce bl K1 t a n c a' n' c') (h0 : 0 < n') (hK1 : K1 ≤ 1000) (hk : t.k ≤ 1000) (hb : Bd (fixF t A) K) :
    Calls Tryd.prog 34 #[.pointer (some ⟨x, 0, none⟩), .int .i64 (zn A)] w
      fun e w' => ∃ a n c, e = .returned (.slice a n c) ∧ NP m w w' K a n c (fixF t A) ∧ Below w.heap.size w w' := by
  obtain ⟨c0, c1, c2, c3, c4, c5⟩ := h.blk.cells
  have hx := h.blk.lt
  have HH := Lib.hid h
  have HB := Lib.hid hb
  have HC : Hid (∀ w', Below w.heap.size w w' → w'.cell? ⟨x, 0, none⟩ = some (.pointer (some ⟨s, 0, none⟩)) ∧ w'.cell? ⟨x, 1, none⟩ = some (.slice a n c) ∧ w'.cell? ⟨x, 5, none⟩ = some (.int .i64 (zn t.d))) := fun w' b => ⟨(b.cell (p := ⟨x, 0, none⟩) hx).trans c0, (b.cell (p := ⟨x, 1, none⟩) hx).trans c1, (b.cell (p := ⟨x, 5, none⟩) hx).trans c5⟩
  clear h hb c2 c3 c4
  go_enter Tryd.func34, Tryd.ntmps34
  go_wp2_with fail
  have B0 : Below w.heap.size w w.drew := (Drawn.mk w 1).below _
  go_region_held3 (fun w' => w'.cell? ⟨x, 0, none⟩ = some (.pointer (some ⟨s, 0, none⟩)) ∧ w'.cell? ⟨x, 1, none⟩ = some (.slice a n c) ∧ w'.cell? ⟨x, 5, none⟩ = some (.int .i64 (zn t.d)))
    (first | go_keep | exact HC.out _ B3 | exact HC.out _ B2 | exact HC.out _ B1)
    ((first
      | (go_at_call 36; refine Calls.mono (pnew_any _ (HH.out.below B0).fld.1) ?_; rintro e w1 ⟨g, rfl, R, b1⟩; have B1 := B0.trans (b1.mono B0.size))
      | (go_at_call 48; refine Calls.mono (scaleV (zn t.d) R (HH.out.below B1).pc.pv (by omega)) ?_; rintro e w2 ⟨a3, n3, cc3, rfl, nv, b2⟩; have B2 := B1.trans (b2.mono B1.size))
      | (go_at_call 46; refine Calls.mono (minus_any K (zn A) w2 (HH.out.below B2).blk (HH.out.below B2).fld.1 nv.pol (HH.out.below B2).pb.pv h0 hK1 hK1 hk (by rw [elm_zn, elm_zn]; exact HB.out)) ?_; rintro e w3 ⟨a4, n4, cc4, rfl, np, b3⟩; have B3 := B2.trans (b3.mono B2.size))))
  rw [elm_zn, elm_zn] at np
  have hs := B2.size
  go_wp2_with fail
  go_ret
  exact ⟨_, _, _, rfl, ⟨np.nv, fun q hq => Nat.le_trans hs (np.new q hq)⟩, B3⟩
end
end Go.Proofs.YtjpaihnnljpaeaaDoor.Loc
/- The walk over package locate's run. By the verifier of shale. -/
namespace Go.Proofs.YtjpaihnnljpaeaaDoor.Loc
open Go Go.RowKit Pl Fld Bits16
set_option linter.unusedVariables false
section
variable {m : Nat} [M : Mid m]
/-- a way through the values. -/
structure Steps (S : Ser (El m)) (fx : St (El m) → El m → Ser (El m)) (G : Nat → St (El m)) : Prop where
  zero : G 0 = st0
  stay : ∀ k, cv (G k).c S k = 0 → G (k + 1) = { G k with k := (G k).k + 1 }
  same : ∀ k, cv (G k).c S k ≠ 0 → k < 2 * (G k).L → G (k + 1) = { G k with c := fx (G k) (cv (G k).c S k), k := (G k).k + 1 }
  grow : ∀ k, cv (G k).c S k ≠ 0 → ¬ k < 2 * (G k).L → G (k + 1) = ⟨fx (G k) (cv (G k).c S k), (G k).c, k + 1 - (G k).L, 1, cv (G k).c S k⟩
  len : ∀ k, (G k).L ≤ k
  kk : ∀ k, (G k).k ≤ k + 1
  bd : ∀ k, Bd (G k).c ((G k).L + 1)
  cne : ∀ k, (G k).c ≠ pz
  dne : ∀ k, (G k).d ≠ 0
variable {S : Ser (El m)} {fx : St (El m) → El m → Ser (El m)} {G : Nat → St (El m)}
theorem pone_ne : (pone : Ser (El m)) ≠ pz := fun e => Fl.one_ne (K := El m) (congrFun e 0)
theorem Steps.bne (h : Steps S fx G) : ∀ k, (G k).b ≠ pz
  | 0 => by rw [h.zero]; exact pone_ne
  | k + 1 => by
    by_cases h0 : cv (G k).c S k = 0
    · rw [h.stay k h0]; exact h.bne k
    · by_cases h1 : k < 2 * (G k).L
      · rw [h.same k h0 h1]; exact h.bne k
      · rw [h.grow k h0 h1]; exact h.cne k
theorem Steps.fbd (h : Steps S fx G) (k : Nat) (h0 : cv (G k).c S k ≠ 0) : Bd (fx (G k) (cv (G k).c S k)) (k + 2) := by
  have h2 := (h.bd (k + 1)).mono (show (G (k + 1)).L + 1 ≤ k + 2 by have := h.len (k + 1); omega)
  by_cases h1 : k < 2 * (G k).L
  · rw [h.same k h0 h1] at h2; exact h2
  · rw [h.grow k h0 h1] at h2; exact h2
theorem steps_bm (S : Ser (El m)) : Steps S fix (bm S) :=
  ⟨rfl, fun k h => step_zero h, fun k h h2 => step_same h h2, fun k h h2 => step_grow h h2, fun k => (bm_inv S k).le, fun k => (bm_inv S k).room.1, fun k => (bm_inv S k).bd,
    fun k e => Fl.one_ne (K := El m) ((bm_inv S k).one ▸ congrFun e 0), fun k => (bm_inv S k).d0⟩
theorem psm_ne {x : El m} (hx : x ≠ 0) {p : Ser (El m)} (hp : p ≠ pz) : psm x p ≠ pz := fun e => hp (funext fun i => by
  have : x * p i = 0 := congrFun e i
  exact Classical.byContradiction fun h => mul_ne hx h this)
theorem steps_bmF (S : Ser (El m)) : Steps S fixF (bmF S) := by
  have hl := like_bm S
  have hi := bm_inv S
  refine ⟨rfl, fun k h => ?_, fun k h h2 => ?_, fun k h h2 => ?_, fun k => ?_, fun k => ?_, fun k => ?_, fun k => ?_, fun k => ?_⟩
  · show stepF S k (bmF S k) = _
    unfold stepF; rw [if_pos h]
  · show stepF S k (bmF S k) = _
    unfold stepF; rw [if_neg h, if_pos h2]; rfl
  · show stepF S k (bmF S k) = _
    unfold stepF; rw [if_neg h, if_neg h2]; rfl
  · obtain ⟨x, y, hx, hy, h1, h2, h3, h4, h5⟩ := hl k
    rw [h3]; exact (hi k).le
  · obtain ⟨x, y, hx, hy, h1, h2, h3, h4, h5⟩ := hl k
    rw [h4]; exact (hi k).room.1
  · obtain ⟨x, y, hx, hy, h1, h2, h3, h4, h5⟩ := hl k
    rw [h3, h1]; exact (hi k).bd.sm x
  · obtain ⟨x, y, hx, hy, h1, h2, h3, h4, h5⟩ := hl k
    rw [h1]; exact psm_ne hx ((steps_bm S).cne k)
  · obtain ⟨x, y, hx, hy, h1, h2, h3, h4, h5⟩ := hl k
    rw [h5]; exact mul_ne hy (hi k).d0
theorem pa_pos {w : World} {K : Nat} {a : Option Addr} {n c : Nat} {p : Ser (El m)} {x : Nat} (h : PA m w K a n c p x) (h0 : p ≠ pz) : 0 < n :=
  Nat.pos_of_ne_zero fun e => h0 (by have := h.pv.bdn; rw [e] at this; exact this.zero)
section
variable {w w1 : World} {x s be ce bl K : Nat} {t : St (El m)} {a : Option Addr} {n c : Nat} {a' : Option Addr} {n' c' : Nat}
theorem SrAt.step0 (h : SrAt m w x s be ce bl K t a n c a' n' c') (v : Int) (hv : v = ((t.k + 1 : Nat) : Int)) : SrAt m (w.setCell ⟨x, 4, none⟩ (.int .i64 v)) x s be ce bl K { t with k := t.k + 1 } a n c a' n' c' :=
  ⟨h.blk.set4 (t.k + 1) v hv, h.fld.only, h.pc.only, h.pb.only⟩
theorem SrAt.step1 (h : SrAt m w1 x s be ce bl K t a n c a' n' c') {P : Ser (El m)} {a2 : Option Addr} {n2 c2 : Nat} (hp : PA m w1 K a2 n2 c2 P x) : SrAt m (w1.setCell ⟨x, 1, none⟩ (.slice a2 n2 c2)) x s be ce bl K { t with c := P } a2 n2 c2 a' n' c' :=
  ⟨h.blk.set1 _, h.fld.only, hp.only, h.pb.only⟩
theorem SrAt.step2 (h : SrAt m w1 x s be ce bl K t a n c a' n' c') {P : Ser (El m)} {a2 : Option Addr} {n2 c2 : Nat} (hp : PA m w1 K a2 n2 c2 P x) : SrAt m ((w1.setCell ⟨x, 1, none⟩ (.slice a2 n2 c2)).setCell ⟨x, 2, none⟩ (.slice a n c)) x s be ce bl K { t with c := P, b := t.c } a2 n2 c2 a n c :=
  ⟨(h.blk.set1 _).set2 _, h.fld.only.only, hp.only.only, h.pc.only.only⟩
theorem SrAt.step3 (h : SrAt m w x s be ce bl K t a n c a' n' c') (L' : Nat) (v : Int) (hv : v = (L' : Int)) (A : El m) : SrAt m (((w.setCell ⟨x, 3, none⟩ (.int .i64 v)).setCell ⟨x, 5, none⟩ (.int .i64 (zn A))).setCell ⟨x, 4, none⟩ (.int .i64 1)) x s be ce bl K ⟨t.c, t.b, L', 1, A⟩ a n c a' n' c' :=
  ⟨((h.blk.set3 L' v hv).set5 (zn A)).set4 1 1 rfl, h.fld.only.only.only, h.pc.only.only.only, h.pb.only.only.only⟩
end
/-- what a call of mend is to answer. -/
def MendAt (F : FuncId) (fx : St (El m) → El m → Ser (El m)) (x s be ce bl : Nat) : Prop := ∀ (t : St (El m)) (K : Nat) (a a' : Option Addr) (n c n' c' : Nat) (A : El m) (w : World), SrAt m w x s be ce bl 100 t a n c a' n' c' → 0 < n' → t.k ≤ 1000 → t.d ≠ 0 → Bd (fx t A) K →
  Calls Tryd.prog F #[.pointer (some ⟨x, 0, none⟩), .int .i64 (zn A)] w fun e w' => ∃ a n c, e = .returned (.slice a n c) ∧ NP m w w' K a n c (fx t A) ∧ Below w.heap.size w w'
theorem mendAt_div (x s be ce bl : Nat) : MendAt (m := m) 29 fix x s be ce bl := fun t K a a' n c n' c' A w h h0 hk hd hb => mend_any K A w h h0 (by omega) hk hd hb
theorem mendAt_whole (x s be ce bl : Nat) : MendAt (m := m) 34 fixF x s be ce bl := fun t K a a' n c n' c' A w h h0 hk hd hb => mendW_any K A w h h0 (by omega) hk hb
set_option maxRecDepth 100000 in
set_option maxHeartbeats 2000000 in
theorem run_any (hS : Steps S fx G) {x s be ce bl : Nat} (w0 w : World) (hM : MendAt 29 fx x s be ce bl) (a ac bc : Option Addr) (n c nc cc nb cb : Nat) (l : List Int) (hx : w0.heap.size ≤ x) (B : Below w0.heap.size w0 w) (h : SrAt m w x s be ce bl 1 st0 ac nc cc bc nb cb)
    (r : RowZ w0 a n c l) (N : Nat) (hN : N = min n 80) (hSl : ∀ i, i < N → S i = sr m l i) :
    Calls Tryd.prog 28 #[.pointer (some ⟨x, 0, none⟩), .slice a n c, .func (.func 29) #[.pointer (some ⟨x, 0, none⟩)] #[]] w fun e w' => ∃ a n c, e = .returned (.tuple #[.slice a n c, .int .i64 ((G N).L : Int)]) ∧ NV m w' 100 a n c (G N).c ∧ Below w0.heap.size w0 w' := by
  have h100 : SrAt m w x s be ce bl 100 st0 ac nc cc bc nb cb := ⟨h.blk, h.fld, h.pc.more (Nat.le_trans h.pc.2.1 (by omega)), h.pb.more (Nat.le_trans h.pb.2.1 (by omega))⟩
  have HM := Lib.hid hM
  have HS := Lib.hid hS
  have HR := Lib.hid r
  have H0 := Lib.hid (And.intro h100 B)
  have HX := Lib.hid hx
  have HSl := Lib.hid hSl
  have hcap := r.hcap
  have hmost := r.hmost
  unfold maxLen at hmost
  have hN1 : N ≤ n := by omega
  have hN2 : N ≤ 80 := by omega
  have eN : (if (80 : Int) < (n : Int) then (80 : Int) else (n : Int)) = (N : Int) := by split <;> omega
  have y1 : (0 : Int) ≤ (N : Int) := by omega
  have y2 : (N : Int) ≤ (c : Int) := by omega
  clear hM hS r h h100 B hx hSl hN
  go_enter Tryd.func28, Tryd.ntmps28
  go_wp2_with fail
  clear eN
  go_loopg [17] N (fun gh s17 wx => ∃ (k : Nat) (a1 : Option Addr) (n1 c1 : Nat) (a2 : Option Addr) (n2 c2 : Nat), gh = N - k ∧ k ≤ N ∧ s17 = .int .i64 (k : Int) ∧ SrAt m wx x s be ce bl 100 (G k) a1 n1 c1 a2 n2 c2 ∧ Below w0.heap.size w0 wx)
  case atStart => exact ⟨0, _, _, _, _, _, _, rfl, Nat.zero_le _, rfl, by rw [HS.out.zero]; exact H0.out.1, H0.out.2⟩
  case round =>
    clear H0
    obtain ⟨k, a1, n1, c1, a2, n2, c2, hg, hk, rfl, hA, hB⟩ := hrel
    have HG := Lib.hid hg
    clear hg
    by_cases hlt : k < N
    · have x0 : (k : Int) < (N : Int) := by omega
      obtain ⟨t, ht⟩ : ∃ t, t = G k := ⟨_, rfl⟩
      have hLk : t.L ≤ k := by rw [ht]; exact HS.out.len k
      have hkk : t.k ≤ k + 1 := by rw [ht]; exact HS.out.kk k
      have hbd : Bd t.c (t.L + 1) := by rw [ht]; exact HS.out.bd k
      have hcn : t.c ≠ pz := by rw [ht]; exact HS.out.cne k
      have hbn : t.b ≠ pz := by rw [ht]; exact HS.out.bne k
      have hdn : t.d ≠ 0 := by rw [ht]; exact HS.out.dne k
      rw [← ht] at hA
      obtain ⟨A, hAe⟩ : ∃ A, A = cv t.c S k := ⟨_, rfl⟩
      have HAE : Hid (A = cv (G k).c S k) := by rw [← ht]; exact hAe
      have hfb : A ≠ 0 → Bd (fx t A) (k + 2) := by
        intro h0
        rw [ht, HAE.out]
        exact HS.out.fbd k (by rw [← HAE.out]; exact h0)
      obtain ⟨⟨l1, r1, e1⟩, _, _⟩ := hA.pc
      have HSum : Hid (∀ nn, Calls Tryd.prog 40 #[.slice a1 n1 c1, .slice a N c, .int .i64 (k : Int), .int .i64 (t.L : Int), mulOf s] (wr.drewN nn) fun e w' => e = .returned (.int .i64 (zn A)) ∧ Drawn (wr.drewN nn) w') := fun nn => by
        have b := (Drawn.mk wr nn).below wr.heap.size
        have h1 := lsum_any (m := m) a1 a n1 c1 N c l1 (l.take N) k t.L (wr.drewN nn) ((hA.below b).fld.1) (r1.below b) (((HR.out.below hB).take N hN1).below b) hlt (by omega)
        have e2 : part (sr m l1) (sr m (l.take N)) k (rounds t.L k n1) = A := by
          rw [part_rounds _ _ _ _ _ (by rw [r1.hlen]; exact sr_bd _), part_cv _ _ _ (by rw [e1]; exact hbd) (Nat.le_refl _), e1, hAe]
          refine cv_ext (fun _ _ => rfl) fun i hi => ?_
          rw [HSl.out i (by omega)]
          show elm m ((l.take N).getD i 0) = elm m (l.getD i 0)
          rw [List.getD_eq_getElem?_getD, List.getD_eq_getElem?_getD, List.getElem?_take_of_lt (by omega)]
        rw [e2] at h1
        exact h1
      obtain ⟨cc0, cc1, cc2, cc3, cc4, cc5⟩ := hA.blk.cells
      have HA := Lib.hid (And.intro hA hB)
      have HT := Lib.hid (And.intro ht (And.intro hAe hfb))
      have HNE := Lib.hid (And.intro hbn hdn)
      clear hA hB r1 e1 hbd hcn hbn hdn hAe hfb ht
      have hze := zn_eq0 A
      go_wp2_with fail
      go_quiet ((go_at_call 40; exact quiet_drawn (HSum.out _)))
      have b5 := (Drawn.mk wr nq).below wr.heap.size
      generalize wr.drewN nq = w5 at b5 ⊢
      have h5 := HA.out.1.below b5
      have B5 := HA.out.2.trans (b5.mono HA.out.2.size)
      have HA5 := Lib.hid (And.intro h5 B5)
      clear cc0 cc1 cc2 cc3 cc4 cc5 b5
      obtain ⟨cc0, cc1, cc2, cc3, cc4, cc5⟩ := h5.blk.cells
      have ff := h5.blk.free
      have f1 := ff 1
      have f2 := ff 2
      have f3 := ff 3
      have f4 := ff 4
      have f5 := ff 5
      clear ff h5 B5
      by_cases hz : A = 0
      · replace hze : (zn A == 0) = true := hze.trans (decide_eq_true hz)
        have HN : Hid (SrAt m (w5.setCell ⟨x, 4, none⟩ (.int .i64 ((t.k : Int) + 1))) x s be ce bl 100 (G (k + 1)) a1 n1 c1 a2 n2 c2 ∧ Below w0.heap.size w0 (w5.setCell ⟨x, 4, none⟩ (.int .i64 ((t.k : Int) + 1)))) := by
          refine ⟨?_, HA5.out.2.setCell HX.out _⟩
          rw [HS.out.stay k (by rw [← HAE.out]; exact hz), ← HT.out.1]
          exact HA5.out.1.step0 _ (by omega)
        clear HT HNE HA HA5 HSum
        generalize zn A = zA at hze
        clear hz
        go_wp2_with fail
        go_roundg (N - (k + 1))
        case measure => have := HG.out; omega
        case rel => exact ⟨k + 1, a1, n1, c1, a2, n2, c2, rfl, hlt, by go_num, HN.out.1, HN.out.2⟩
      · replace hze : (zn A == 0) = false := hze.trans (decide_eq_false hz)
        have hz0 : cv (G k).c S k ≠ 0 := by rw [← HAE.out]; exact hz
        have HMc : Hid (Calls Tryd.prog 29 #[.pointer (some ⟨x, 0, none⟩), .int .i64 (zn A)] w5 fun e w' => ∃ a n c, e = .returned (.slice a n c) ∧ NP m w5 w' 100 a n c (fx t A) ∧ Below w5.heap.size w5 w') :=
          HM.out t 100 a1 a2 n1 c1 n2 c2 A w5 HA5.out.1 (pa_pos HA5.out.1.pb HNE.out.1) (by omega) HNE.out.2 ((HT.out.2.2 hz).mono (by omega))
        by_cases h2 : k < 2 * t.L
        · have HSt := Lib.hid (HS.out.same k hz0 (by rw [← HT.out.1]; exact h2))
          have g1 : (k : Int) < 2 * (t.L : Int) := by omega
          clear hz hz0
          go_wp2_with fail
          refine HMc.out.mono ?_
          rintro e w6 ⟨a3, n3, c3, rfl, np, b6⟩
          have B6 := HA5.out.2.trans (b6.mono HA5.out.2.size)
          have h6 := HA5.out.1.below b6
          have hx5 := HA5.out.1.blk.lt
          have s1 := h6.step1 (np.pa hx5)
          have e4 := s1.blk.cells.2.2.2.2.1
          have f4' := s1.blk.free 4
          have e1 := h6.blk.cells.2.1
          have f1' := h6.blk.free 1
          have HN : Hid (SrAt m ((w6.setCell ⟨x, 1, none⟩ (.slice a3 n3 c3)).setCell ⟨x, 4, none⟩ (.int .i64 ((t.k : Int) + 1))) x s be ce bl 100 (G (k + 1)) a3 n3 c3 a2 n2 c2 ∧ Below w0.heap.size w0 ((w6.setCell ⟨x, 1, none⟩ (.slice a3 n3 c3)).setCell ⟨x, 4, none⟩ (.int .i64 ((t.k : Int) + 1)))) := by
            refine ⟨?_, (B6.setCell HX.out _).setCell HX.out _⟩
            rw [HSt.out, ← HAE.out, ← HT.out.1]
            exact s1.step0 _ (by show (t.k : Int) + 1 = ((t.k + 1 : Nat) : Int); omega)
          clear cc0 cc1 cc2 cc3 cc4 cc5 f1 f2 f3 f4 f5 s1 h6 B6 b6 np HT HNE HA HA5 HSum HMc
          go_wp2_with fail
          go_roundg (N - (k + 1))
          case measure => have := HG.out; omega
          case rel => exact ⟨k + 1, a3, n3, c3, a2, n2, c2, rfl, hlt, by go_num, HN.out.1, HN.out.2⟩
        · have HSt := Lib.hid (HS.out.grow k hz0 (by rw [← HT.out.1]; exact h2))
          have g1 : ¬ ((k : Int) < 2 * (t.L : Int)) := by omega
          have HMl : Hid (∀ wx, Drawn w5 wx → Calls Tryd.prog 29 #[.pointer (some ⟨x, 0, none⟩), .int .i64 (zn A)] wx fun e w' => ∃ a n c, e = .returned (.slice a n c) ∧ NP m wx w' 100 a n c (fx t A) ∧ Below w5.heap.size w5 w') := fun wx d => by
            have b := d.below w5.heap.size
            refine (HM.out t 100 a1 a2 n1 c1 n2 c2 A wx (HA5.out.1.below b) (pa_pos HA5.out.1.pb HNE.out.1) (by omega) HNE.out.2 ((HT.out.2.2 hz).mono (by omega))).mono ?_
            rintro e w' ⟨a3, n3, c3, he, np, b6⟩
            exact ⟨a3, n3, c3, he, np, b.trans (b6.mono b.size)⟩
          clear hz hz0 HMc
          have hx5 := HA5.out.1.blk.lt
          go_wp2_with fail
          go_region_law (first | (go_simp; go_at_call 29; refine Calls.mono (HMl.out _ (Drawn.mk w5 1)) ?_; rintro e w6 ⟨a3, n3, c3, rfl, np, b6⟩; have h6 := HA5.out.1.below b6; have s1 := h6.step1 (np.pa hx5); have e1 := h6.blk.cells.2.1; have f1' := h6.blk.free 1; have e2 := s1.blk.cells.2.2.1; have f2' := s1.blk.free 2))
          all_goals
            have s2 := h6.step2 (np.pa hx5)
            have B6 := (((HA5.out.2.trans (b6.mono HA5.out.2.size)).setCell (p := ⟨x, 1, none⟩) HX.out (.slice a3 n3 c3)).setCell (p := ⟨x, 2, none⟩) HX.out (.slice a1 n1 c1))
            clear cc0 cc1 cc2 cc3 cc4 cc5 f1 f2 f3 f4 f5 h6 s1 e1 e2 f1' f2' b6 np HMl HSum
            generalize (w6.setCell ⟨x, 1, none⟩ (.slice a3 n3 c3)).setCell ⟨x, 2, none⟩ (.slice a1 n1 c1) = w7 at s2 B6 ⊢
            have s3 := s2.blk.set3 (k + 1 - t.L) ((k : Int) + 1 - (t.L : Int)) (by omega)
            have s4 := s3.set5 (zn A)
            have d1 := s2.blk.cells.2.2.2.1
            have d2 := s2.blk.free 3
            have d3 := s3.cells.2.2.2.2.2
            have d4 := s3.free 5
            have d5 := s4.cells.2.2.2.2.1
            have d6 := s4.free 4
            have HN : Hid (SrAt m (((w7.setCell ⟨x, 3, none⟩ (.int .i64 ((k : Int) + 1 - (t.L : Int)))).setCell ⟨x, 5, none⟩ (.int .i64 (zn A))).setCell ⟨x, 4, none⟩ (.int .i64 1)) x s be ce bl 100 (G (k + 1)) a3 n3 c3 a1 n1 c1 ∧ Below w0.heap.size w0 (((w7.setCell ⟨x, 3, none⟩ (.int .i64 ((k : Int) + 1 - (t.L : Int)))).setCell ⟨x, 5, none⟩ (.int .i64 (zn A))).setCell ⟨x, 4, none⟩ (.int .i64 1))) := by
              refine ⟨?_, ((B6.setCell HX.out _).setCell HX.out _).setCell HX.out _⟩
              rw [HSt.out, ← HAE.out, ← HT.out.1]
              exact s2.step3 (k + 1 - t.L) _ (by omega) A
            clear s2 s3 s4 B6 HT HNE HA HA5
            generalize zn A = zA at hze HN d3 d4 d5 d6 ⊢
            go_wp2_with fail
            go_roundg (N - (k + 1))
            case measure => have := HG.out; omega
            case rel => exact ⟨k + 1, a3, n3, c3, a1, n1, c1, rfl, hlt, by go_num, HN.out.1, HN.out.2⟩
    · obtain rfl : k = N := by omega
      obtain ⟨cc0, cc1, cc2, cc3, cc4, cc5⟩ := hA.blk.cells
      have hx5 := hA.blk.lt
      have HC : Hid (∀ w', Below wr.heap.size wr w' → w'.cell? ⟨x, 0, none⟩ = some (.pointer (some ⟨s, 0, none⟩)) ∧ w'.cell? ⟨x, 1, none⟩ = some (.slice a1 n1 c1) ∧ w'.cell? ⟨x, 3, none⟩ = some (.int .i64 ((G k).L : Int))) := fun w' b => ⟨(b.cell (p := ⟨x, 0, none⟩) hx5).trans cc0, (b.cell (p := ⟨x, 1, none⟩) hx5).trans cc1, (b.cell (p := ⟨x, 3, none⟩) hx5).trans cc3⟩
      have HA := Lib.hid hA
      have HB := Lib.hid hB
      clear hA hB cc2 cc4 cc5
      have B0 : Below wr.heap.size wr wr.drew := (Drawn.mk wr 1).below _
      go_wp2_with fail
      go_region_held3 (fun w' => w'.cell? ⟨x, 0, none⟩ = some (.pointer (some ⟨s, 0, none⟩)) ∧ w'.cell? ⟨x, 1, none⟩ = some (.slice a1 n1 c1) ∧ w'.cell? ⟨x, 3, none⟩ = some (.int .i64 ((G k).L : Int)))
        (first | go_keep | exact HC.out _ B2 | exact HC.out _ B1)
        ((first
          | (go_at_call 36; refine Calls.mono (pnew_any _ (HA.out.below B0).fld.1) ?_; rintro e w1 ⟨g, rfl, R, b1⟩; have B1 := B0.trans (b1.mono B0.size))
          | (go_at_call 44; refine Calls.mono (trimV R (HA.out.below B1).pc.pv (by omega)) ?_; rintro e w2 ⟨a3, n3, cc3, rfl, nv, b2⟩; have B2 := B1.trans (b2.mono B1.size))))
      go_wp2_with fail
      go_ret2
      exact ⟨_, _, _, rfl, nv, HB.out.trans (B2.mono HB.out.size)⟩
end
end Go.Proofs.YtjpaihnnljpaeaaDoor.Loc
/- The walk over package locate's run, without a division. By the verifier of shale. -/
namespace Go.Proofs.YtjpaihnnljpaeaaDoor.Loc
open Go Go.RowKit Pl Fld Bits16
set_option linter.unusedVariables false
section
variable {m : Nat} [M : Mid m]
variable {S : Ser (El m)} {fx : St (El m) → El m → Ser (El m)} {G : Nat → St (El m)}
set_option maxRecDepth 100000 in
set_option maxHeartbeats 2000000 in
theorem runW_any (hS : Steps S fx G) {x s be ce bl : Nat} (w0 w : World) (hM : MendAt 34 fx x s be ce bl) (a ac bc : Option Addr) (n c nc cc nb cb : Nat) (l : List Int) (hx : w0.heap.size ≤ x) (B : Below w0.heap.size w0 w) (h : SrAt m w x s be ce bl 1 st0 ac nc cc bc nb cb)
    (r : RowZ w0 a n c l) (N : Nat) (hN : N = min n 80) (hSl : ∀ i, i < N → S i = sr m l i) :
    Calls Tryd.prog 28 #[.pointer (some ⟨x, 0, none⟩), .slice a n c, .func (.func 34) #[.pointer (some ⟨x, 0, none⟩)] #[]] w fun e w' => ∃ a n c, e = .returned (.tuple #[.slice a n c, .int .i64 ((G N).L : Int)]) ∧ NV m w' 100 a n c (G N).c ∧ Below w0.heap.size w0 w' := by
  have h100 : SrAt m w x s be ce bl 100 st0 ac nc cc bc nb cb := ⟨h.blk, h.fld, h.pc.more (Nat.le_trans h.pc.2.1 (by omega)), h.pb.more (Nat.le_trans h.pb.2.1 (by omega))⟩
  have HM := Lib.hid hM
  have HS := Lib.hid hS
  have HR := Lib.hid r
  have H0 := Lib.hid (And.intro h100 B)
  have HX := Lib.hid hx
  have HSl := Lib.hid hSl
  have hcap := r.hcap
  have hmost := r.hmost
  unfold maxLen at hmost
  have hN1 : N ≤ n := by omega
  have hN2 : N ≤ 80 := by omega
  have eN : (if (80 : Int) < (n : Int) then (80 : Int) else (n : Int)) = (N : Int) := by split <;> omega
  have y1 : (0 : Int) ≤ (N : Int) := by omega
  have y2 : (N : Int) ≤ (c : Int) := by omega
  clear hM hS r h h100 B hx hSl hN
  go_enter Tryd.func28, Tryd.ntmps28
  go_wp2_with fail
  clear eN
  go_loopg [17] N (fun gh s17 wx => ∃ (k : Nat) (a1 : Option Addr) (n1 c1 : Nat) (a2 : Option Addr) (n2 c2 : Nat), gh = N - k ∧ k ≤ N ∧ s17 = .int .i64 (k : Int) ∧ SrAt m wx x s be ce bl 100 (G k) a1 n1 c1 a2 n2 c2 ∧ Below w0.heap.size w0 wx)
  case atStart => exact ⟨0, _, _, _, _, _, _, rfl, Nat.zero_le _, rfl, by rw [HS.out.zero]; exact H0.out.1, H0.out.2⟩
  case round =>
    clear H0
    obtain ⟨k, a1, n1, c1, a2, n2, c2, hg, hk, rfl, hA, hB⟩ := hrel
    have HG := Lib.hid hg
    clear hg
    by_cases hlt : k < N
    · have x0 : (k : Int) < (N : Int) := by omega
      obtain ⟨t, ht⟩ : ∃ t, t = G k := ⟨_, rfl⟩
      have hLk : t.L ≤ k := by rw [ht]; exact HS.out.len k
      have hkk : t.k ≤ k + 1 := by rw [ht]; exact HS.out.kk k
      have hbd : Bd t.c (t.L + 1) := by rw [ht]; exact HS.out.bd k
      have hcn : t.c ≠ pz := by rw [ht]; exact HS.out.cne k
      have hbn : t.b ≠ pz := by rw [ht]; exact HS.out.bne k
      have hdn : t.d ≠ 0 := by rw [ht]; exact HS.out.dne k
      rw [← ht] at hA
      obtain ⟨A, hAe⟩ : ∃ A, A = cv t.c S k := ⟨_, rfl⟩
      have HAE : Hid (A = cv (G k).c S k) := by rw [← ht]; exact hAe
      have hfb : A ≠ 0 → Bd (fx t A) (k + 2) := by
        intro h0
        rw [ht, HAE.out]
        exact HS.out.fbd k (by rw [← HAE.out]; exact h0)
      obtain ⟨⟨l1, r1, e1⟩, _, _⟩ := hA.pc
      have HSum : Hid (∀ nn, Calls Tryd.prog 40 #[.slice a1 n1 c1, .slice a N c, .int .i64 (k : Int), .int .i64 (t.L : Int), mulOf s] (wr.drewN nn) fun e w' => e = .returned (.int .i64 (zn A)) ∧ Drawn (wr.drewN nn) w') := fun nn => by
        have b := (Drawn.mk wr nn).below wr.heap.size
        have h1 := lsum_any (m := m) a1 a n1 c1 N c l1 (l.take N) k t.L (wr.drewN nn) ((hA.below b).fld.1) (r1.below b) (((HR.out.below hB).take N hN1).below b) hlt (by omega)
        have e2 : part (sr m l1) (sr m (l.take N)) k (rounds t.L k n1) = A := by
          rw [part_rounds _ _ _ _ _ (by rw [r1.hlen]; exact sr_bd _), part_cv _ _ _ (by rw [e1]; exact hbd) (Nat.le_refl _), e1, hAe]
          refine cv_ext (fun _ _ => rfl) fun i hi => ?_
          rw [HSl.out i (by omega)]
          show elm m ((l.take N).getD i 0) = elm m (l.getD i 0)
          rw [List.getD_eq_getElem?_getD, List.getD_eq_getElem?_getD, List.getElem?_take_of_lt (by omega)]
        rw [e2] at h1
        exact h1
      obtain ⟨cc0, cc1, cc2, cc3, cc4, cc5⟩ := hA.blk.cells
      have HA := Lib.hid (And.intro hA hB)
      have HT := Lib.hid (And.intro ht (And.intro hAe hfb))
      have HNE := Lib.hid (And.intro hbn hdn)
      clear hA hB r1 e1 hbd hcn hbn hdn hAe hfb ht
      have hze := zn_eq0 A
      go_wp2_with fail
      go_quiet ((go_at_call 40; exact quiet_drawn (HSum.out _)))
      have b5 := (Drawn.mk wr nq).below wr.heap.size
      generalize wr.drewN nq = w5 at b5 ⊢
      have h5 := HA.out.1.below b5
      have B5 := HA.out.2.trans (b5.mono HA.out.2.size)
      have HA5 := Lib.hid (And.intro h5 B5)
      clear cc0 cc1 cc2 cc3 cc4 cc5 b5
      obtain ⟨cc0, cc1, cc2, cc3, cc4, cc5⟩ := h5.blk.cells
      have ff := h5.blk.free
      have f1 := ff 1
      have f2 := ff 2
      have f3 := ff 3
      have f4 := ff 4
      have f5 := ff 5
      clear ff h5 B5
      by_cases hz : A = 0
      · replace hze : (zn A == 0) = true := hze.trans (decide_eq_true hz)
        have HN : Hid (SrAt m (w5.setCell ⟨x, 4, none⟩ (.int .i64 ((t.k : Int) + 1))) x s be ce bl 100 (G (k + 1)) a1 n1 c1 a2 n2 c2 ∧ Below w0.heap.size w0 (w5.setCell ⟨x, 4, none⟩ (.int .i64 ((t.k : Int) + 1)))) := by
          refine ⟨?_, HA5.out.2.setCell HX.out _⟩
          rw [HS.out.stay k (by rw [← HAE.out]; exact hz), ← HT.out.1]
          exact HA5.out.1.step0 _ (by omega)
        clear HT HNE HA HA5 HSum
        generalize zn A = zA at hze
        clear hz
        go_wp2_with fail
        go_roundg (N - (k + 1))
        case measure => have := HG.out; omega
        case rel => exact ⟨k + 1, a1, n1, c1, a2, n2, c2, rfl, hlt, by go_num, HN.out.1, HN.out.2⟩
      · replace hze : (zn A == 0) = false := hze.trans (decide_eq_false hz)
        have hz0 : cv (G k).c S k ≠ 0 := by rw [← HAE.out]; exact hz
        have HMc : Hid (Calls Tryd.prog 34 #[.pointer (some ⟨x, 0, none⟩), .int .i64 (zn A)] w5 fun e w' => ∃ a n c, e = .returned (.slice a n c) ∧ NP m w5 w' 100 a n c (fx t A) ∧ Below w5.heap.size w5 w') :=
          HM.out t 100 a1 a2 n1 c1 n2 c2 A w5 HA5.out.1 (pa_pos HA5.out.1.pb HNE.out.1) (by omega) HNE.out.2 ((HT.out.2.2 hz).mono (by omega))
        by_cases h2 : k < 2 * t.L
        · have HSt := Lib.hid (HS.out.same k hz0 (by rw [← HT.out.1]; exact h2))
          have g1 : (k : Int) < 2 * (t.L : Int) := by omega
          clear hz hz0
          go_wp2_with fail
          refine HMc.out.mono ?_
          rintro e w6 ⟨a3, n3, c3, rfl, np, b6⟩
          have B6 := HA5.out.2.trans (b6.mono HA5.out.2.size)
          have h6 := HA5.out.1.below b6
          have hx5 := HA5.out.1.blk.lt
          have s1 := h6.step1 (np.pa hx5)
          have e4 := s1.blk.cells.2.2.2.2.1
          have f4' := s1.blk.free 4
          have e1 := h6.blk.cells.2.1
          have f1' := h6.blk.free 1
          have HN : Hid (SrAt m ((w6.setCell ⟨x, 1, none⟩ (.slice a3 n3 c3)).setCell ⟨x, 4, none⟩ (.int .i64 ((t.k : Int) + 1))) x s be ce bl 100 (G (k + 1)) a3 n3 c3 a2 n2 c2 ∧ Below w0.heap.size w0 ((w6.setCell ⟨x, 1, none⟩ (.slice a3 n3 c3)).setCell ⟨x, 4, none⟩ (.int .i64 ((t.k : Int) + 1)))) := by
            refine ⟨?_, (B6.setCell HX.out _).setCell HX.out _⟩
            rw [HSt.out, ← HAE.out, ← HT.out.1]
            exact s1.step0 _ (by show (t.k : Int) + 1 = ((t.k + 1 : Nat) : Int); omega)
          clear cc0 cc1 cc2 cc3 cc4 cc5 f1 f2 f3 f4 f5 s1 h6 B6 b6 np HT HNE HA HA5 HSum HMc
          go_wp2_with fail
          go_roundg (N - (k + 1))
          case measure => have := HG.out; omega
          case rel => exact ⟨k + 1, a3, n3, c3, a2, n2, c2, rfl, hlt, by go_num, HN.out.1, HN.out.2⟩
        · have HSt := Lib.hid (HS.out.grow k hz0 (by rw [← HT.out.1]; exact h2))
          have g1 : ¬ ((k : Int) < 2 * (t.L : Int)) := by omega
          have HMl : Hid (∀ wx, Drawn w5 wx → Calls Tryd.prog 34 #[.pointer (some ⟨x, 0, none⟩), .int .i64 (zn A)] wx fun e w' => ∃ a n c, e = .returned (.slice a n c) ∧ NP m wx w' 100 a n c (fx t A) ∧ Below w5.heap.size w5 w') := fun wx d => by
            have b := d.below w5.heap.size
            refine (HM.out t 100 a1 a2 n1 c1 n2 c2 A wx (HA5.out.1.below b) (pa_pos HA5.out.1.pb HNE.out.1) (by omega) HNE.out.2 ((HT.out.2.2 hz).mono (by omega))).mono ?_
            rintro e w' ⟨a3, n3, c3, he, np, b6⟩
            exact ⟨a3, n3, c3, he, np, b.trans (b6.mono b.size)⟩
          clear hz hz0 HMc
          have hx5 := HA5.out.1.blk.lt
          go_wp2_with fail
          go_region_law (first | (go_simp; go_at_call 34; refine Calls.mono (HMl.out _ (Drawn.mk w5 1)) ?_; rintro e w6 ⟨a3, n3, c3, rfl, np, b6⟩; have h6 := HA5.out.1.below b6; have s1 := h6.step1 (np.pa hx5); have e1 := h6.blk.cells.2.1; have f1' := h6.blk.free 1; have e2 := s1.blk.cells.2.2.1; have f2' := s1.blk.free 2))
          all_goals
            have s2 := h6.step2 (np.pa hx5)
            have B6 := (((HA5.out.2.trans (b6.mono HA5.out.2.size)).setCell (p := ⟨x, 1, none⟩) HX.out (.slice a3 n3 c3)).setCell (p := ⟨x, 2, none⟩) HX.out (.slice a1 n1 c1))
            clear cc0 cc1 cc2 cc3 cc4 cc5 f1 f2 f3 f4 f5 h6 s1 e1 e2 f1' f2' b6 np HMl HSum
            generalize (w6.setCell ⟨x, 1, none⟩ (.slice a3 n3 c3)).setCell ⟨x, 2, none⟩ (.slice a1 n1 c1) = w7 at s2 B6 ⊢
            have s3 := s2.blk.set3 (k + 1 - t.L) ((k : Int) + 1 - (t.L : Int)) (by omega)
            have s4 := s3.set5 (zn A)
            have d1 := s2.blk.cells.2.2.2.1
            have d2 := s2.blk.free 3
            have d3 := s3.cells.2.2.2.2.2
            have d4 := s3.free 5
            have d5 := s4.cells.2.2.2.2.1
            have d6 := s4.free 4
            have HN : Hid (SrAt m (((w7.setCell ⟨x, 3, none⟩ (.int .i64 ((k : Int) + 1 - (t.L : Int)))).setCell ⟨x, 5, none⟩ (.int .i64 (zn A))).setCell ⟨x, 4, none⟩ (.int .i64 1)) x s be ce bl 100 (G (k + 1)) a3 n3 c3 a1 n1 c1 ∧ Below w0.heap.size w0 (((w7.setCell ⟨x, 3, none⟩ (.int .i64 ((k : Int) + 1 - (t.L : Int)))).setCell ⟨x, 5, none⟩ (.int .i64 (zn A))).setCell ⟨x, 4, none⟩ (.int .i64 1))) := by
              refine ⟨?_, ((B6.setCell HX.out _).setCell HX.out _).setCell HX.out _⟩
              rw [HSt.out, ← HAE.out, ← HT.out.1]
              exact s2.step3 (k + 1 - t.L) _ (by omega) A
            clear s2 s3 s4 B6 HT HNE HA HA5
            generalize zn A = zA at hze HN d3 d4 d5 d6 ⊢
            go_wp2_with fail
            go_roundg (N - (k + 1))
            case measure => have := HG.out; omega
            case rel => exact ⟨k + 1, a3, n3, c3, a1, n1, c1, rfl, hlt, by go_num, HN.out.1, HN.out.2⟩
    · obtain rfl : k = N := by omega
      obtain ⟨cc0, cc1, cc2, cc3, cc4, cc5⟩ := hA.blk.cells
      have hx5 := hA.blk.lt
      have HC : Hid (∀ w', Below wr.heap.size wr w' → w'.cell? ⟨x, 0, none⟩ = some (.pointer (some ⟨s, 0, none⟩)) ∧ w'.cell? ⟨x, 1, none⟩ = some (.slice a1 n1 c1) ∧ w'.cell? ⟨x, 3, none⟩ = some (.int .i64 ((G k).L : Int))) := fun w' b => ⟨(b.cell (p := ⟨x, 0, none⟩) hx5).trans cc0, (b.cell (p := ⟨x, 1, none⟩) hx5).trans cc1, (b.cell (p := ⟨x, 3, none⟩) hx5).trans cc3⟩
      have HA := Lib.hid hA
      have HB := Lib.hid hB
      clear hA hB cc2 cc4 cc5
      have B0 : Below wr.heap.size wr wr.drew := (Drawn.mk wr 1).below _
      go_wp2_with fail
      go_region_held3 (fun w' => w'.cell? ⟨x, 0, none⟩ = some (.pointer (some ⟨s, 0, none⟩)) ∧ w'.cell? ⟨x, 1, none⟩ = some (.slice a1 n1 c1) ∧ w'.cell? ⟨x, 3, none⟩ = some (.int .i64 ((G k).L : Int)))
        (first | go_keep | exact HC.out _ B2 | exact HC.out _ B1)
        ((first
          | (go_at_call 36; refine Calls.mono (pnew_any _ (HA.out.below B0).fld.1) ?_; rintro e w1 ⟨g, rfl, R, b1⟩; have B1 := B0.trans (b1.mono B0.size))
          | (go_at_call 44; refine Calls.mono (trimV R (HA.out.below B1).pc.pv (by omega)) ?_; rintro e w2 ⟨a3, n3, cc3, rfl, nv, b2⟩; have B2 := B1.trans (b2.mono B1.size))))
      go_wp2_with fail
      go_ret2
      exact ⟨_, _, _, rfl, nv, HB.out.trans (B2.mono HB.out.size)⟩
end
end Go.Proofs.YtjpaihnnljpaeaaDoor.Loc
/- Values of unlike places: the polynomial of these places makes them, and nothing shorter does. No program is named here. By the verifier of shale. -/
namespace Go.Proofs.YtjpaihnnljpaeaaDoor.Loc
open Pl
set_option linter.unusedVariables false
theorem snocRec {A : Type} {P : List A → Prop} (h0 : P []) (h1 : ∀ l a, P l → P (l ++ [a])) (l : List A) : P l := by
  have : ∀ r : List A, P r.reverse := fun r => by
    induction r with
    | nil => exact h0
    | cons a r ih => rw [List.reverse_cons]; exact h1 _ _ ih
  have h := this l.reverse
  rwa [List.reverse_reverse] at h
section
variable {K : Type} [Fl K]
/-- 1 + a x. -/
def two (a : K) : Ser K := fun i => if i = 0 then 1 else if i = 1 then a else 0
theorem two_bd (a : K) : Bd (two a) 2 := fun i hi => by show (if i = 0 then 1 else if i = 1 then a else 0) = 0; rw [if_neg (by omega), if_neg (by omega)]
theorem two_dg {a : K} (h : a ≠ 0) : Dg (two a) 1 := ⟨h, two_bd a⟩
theorem two_cv (a : K) (q : Ser K) (n : Nat) : cv (two a) q (n + 1) = q (n + 1) + a * q n := by
  show (1 : K) * q (n + 1) + cv (tl (two a)) q n = _
  rw [one_mul]
  congr 1
  have e : tl (two a) = mono 0 a := funext fun i => by
    show (if i + 1 = 0 then 1 else if i + 1 = 1 then a else 0) = if i = 0 then a else 0
    rw [if_neg (by omega)]
    by_cases h : i = 0
    · rw [if_pos (by omega), if_pos h]
    · rw [if_neg (by omega), if_neg h]
  rw [e, cv_mono, if_neg (by omega)]; rfl
theorem two_ev (a x : K) : ev 2 (two a) x = 1 + x * a := by
  show 1 + x * (a + x * 0) = _
  rw [mul_zero, Fl.add_zero]
/-- the product of 1 + a x over the list. -/
def lam (l : List K) : Ser K := l.foldl (fun g a => cv g (two a)) pone
theorem lam_snoc (l : List K) (a : K) : lam (l ++ [a]) = cv (lam l) (two a) := by unfold lam; rw [List.foldl_append]; rfl
theorem lam_dg (l : List K) : (∀ a ∈ l, a ≠ 0) → Dg (lam l) l.length ∧ lam l 0 = 1 := by
  refine snocRec (P := fun l => (∀ a ∈ l, a ≠ 0) → Dg (lam l) l.length ∧ lam l 0 = 1) (fun _ => ⟨⟨Fl.one_ne, bd_one⟩, rfl⟩) (fun l a ih h => ?_) l
  obtain ⟨h1, h2⟩ := ih fun b hb => h b (List.mem_append_left _ hb)
  rw [lam_snoc, List.length_append]
  refine ⟨h1.mul (two_dg (h a (List.mem_append_right _ (List.mem_singleton.2 rfl)))), ?_⟩
  show lam l 0 * 1 = 1
  rw [h2, Fl.mul_one]
/-- the values: sums of powers. -/
def pows (l : List K) : Ser K := fun i => l.foldl (fun v a => v + pwK a (i + 1)) 0
theorem pows_snoc (l : List K) (a : K) : pows (l ++ [a]) = padd (pows l) (fun i => pwK a (i + 1)) := funext fun i => by unfold pows; rw [List.foldl_append]; rfl
theorem two_geo (a : K) : cv (two a) (fun i => pwK a (i + 1)) = mono 0 a := funext fun n => by
  cases n with
  | zero => show (1 : K) * (a * 1) = a; rw [one_mul, Fl.mul_one]
  | succ n =>
    rw [two_cv]
    show a * pwK a (n + 1) + a * pwK a (n + 1) = _
    rw [Fl.add_self]; rfl
/-- the product's values' product, as one step. -/
theorem om_snoc (l : List K) (a : K) : cv (lam (l ++ [a])) (pows (l ++ [a])) = padd (cv (two a) (cv (lam l) (pows l))) (psm a (lam l)) := by
  rw [lam_snoc, pows_snoc, cv_padd, cv_assoc, cv_assoc, two_geo]
  congr 1
  · rw [← cv_assoc, cv_comm (lam l), cv_assoc]
  · rw [cv_comm]
    funext n
    rw [cv_mono, if_neg (by omega)]; rfl
theorem om_bd (l : List K) : (∀ a ∈ l, a ≠ 0) → Bd (cv (lam l) (pows l)) l.length := by
  refine snocRec (P := fun l => (∀ a ∈ l, a ≠ 0) → Bd (cv (lam l) (pows l)) l.length) (fun _ => ?_) (fun l a ih h => ?_) l
  · intro i _
    have e : pows ([] : List K) = pz := rfl
    rw [e, zero_cv]; rfl
  · have h' : ∀ b ∈ l, b ≠ 0 := fun b hb => h b (List.mem_append_left _ hb)
    rw [om_snoc, List.length_append]
    have h2 := (lam_dg l h').1.2
    refine Bd.add ?_ (h2.sm a)
    have := bd_cv (two_bd a) (ih h')
    exact this.mono (by simp; omega)
theorem lam_gn (l : List K) (h : ∀ a ∈ l, a ≠ 0) (n : Nat) : Gn (lam l) l.length n (pows l) := fun i h1 _ => om_bd l h i h1
theorem lam_root {l : List K} (h : ∀ a ∈ l, a ≠ 0) {b : K} (hb : b ≠ 0) : ev (l.length + 1) (lam l) b⁻¹ = 0 ↔ b ∈ l := by
  revert h
  refine snocRec (P := fun l => (∀ a ∈ l, a ≠ 0) → (ev (l.length + 1) (lam l) b⁻¹ = 0 ↔ b ∈ l)) (fun _ => ?_) (fun l a ih h => ?_) l
  · refine ⟨fun e => ?_, fun e => by cases e⟩
    have e : (1 : K) + b⁻¹ * 0 = 0 := e
    rw [mul_zero, Fl.add_zero] at e
    exact absurd e Fl.one_ne
  · have h' : ∀ c ∈ l, c ≠ 0 := fun c hc => h c (List.mem_append_left _ hc)
    have ih := ih h'
    have hd := (lam_dg l h').1.2
    have hbd : Bd (cv (lam l) (two a)) (l.length + 1 + 1) := by
      have := bd_cv hd (two_bd a)
      exact this.mono (by omega)
    have e1 : ev ((l ++ [a]).length + 1) (lam (l ++ [a])) b⁻¹ = ev (l.length + 1) (lam l) b⁻¹ * (1 + b⁻¹ * a) := by
      rw [lam_snoc, ← two_ev, ← ev_cv b⁻¹ (l.length + 1) 2 (l.length + 1 + 2) _ _ hd (two_bd a) (Nat.le_refl _)]
      rw [List.length_append]
      exact (ev_more b⁻¹ _ _ _ hbd (by simp)).symm
    rw [e1, List.mem_append, List.mem_singleton]
    constructor
    · intro e
      rcases mul_eq_zero e with e | e
      · exact .inl (ih.1 e)
      · right
        have e2 := add_cancel e
        have e3 : b * (b⁻¹ * a) = b * 1 := by rw [← e2]
        rw [← Fl.mul_assoc, Fl.mul_inv b hb, one_mul, Fl.mul_one] at e3
        exact e3.symm
    · rintro (e | e)
      · rw [ih.2 e, zero_mul]
      · subst e
        rw [Fl.mul_comm b⁻¹, Fl.mul_inv b hb, Fl.add_self, mul_zero]
theorem om_ne {l : List K} (h : ∀ a ∈ l, a ≠ 0) (hn : l.Nodup) {b : K} (hb : b ∈ l) : ev l.length (cv (lam l) (pows l)) b⁻¹ ≠ 0 := by
  revert h hn hb
  refine snocRec (P := fun l => (∀ a ∈ l, a ≠ 0) → l.Nodup → b ∈ l → ev l.length (cv (lam l) (pows l)) b⁻¹ ≠ 0) (fun _ _ h => by cases h) (fun l a ih h hn hb => ?_) l
  have h' : ∀ c ∈ l, c ≠ 0 := fun c hc => h c (List.mem_append_left _ hc)
  have ha : a ≠ 0 := h a (List.mem_append_right _ (List.mem_singleton.2 rfl))
  have hb0 : b ≠ 0 := h b hb
  have hn' := List.nodup_append.1 hn
  have hal : a ∉ l := fun e => hn'.2.2 a e a (List.mem_singleton.2 rfl) rfl
  have hd := (lam_dg l h').1.2
  have ho := om_bd l h'
  have hsum : ev (l ++ [a]).length (cv (lam (l ++ [a])) (pows (l ++ [a]))) b⁻¹ = (1 + b⁻¹ * a) * ev l.length (cv (lam l) (pows l)) b⁻¹ + a * ev (l.length + 1) (lam l) b⁻¹ := by
    rw [om_snoc, ev_add, ev_sm, List.length_append]
    congr 1
    rw [← two_ev, ← ev_cv b⁻¹ 2 l.length (2 + l.length) _ _ (two_bd a) ho (Nat.le_refl _)]
    have hbd : Bd (cv (two a) (cv (lam l) (pows l))) (l.length + 1) := by
      have := bd_cv (two_bd a) ho
      exact this.mono (by omega)
    exact (ev_more b⁻¹ _ _ _ hbd (by omega)).symm
  rw [hsum]
  rcases List.mem_append.1 hb with hb | hb
  · rw [(lam_root h' hb0).2 hb, mul_zero, Fl.add_zero]
    refine mul_ne (fun e => ?_) (ih h' hn'.1 hb)
    have e2 := add_cancel e
    have e3 : b * (b⁻¹ * a) = b * 1 := by rw [← e2]
    rw [← Fl.mul_assoc, Fl.mul_inv b hb0, one_mul, Fl.mul_one] at e3
    exact hal (e3 ▸ hb)
  · obtain rfl := List.mem_singleton.1 hb
    rw [Fl.mul_comm b⁻¹, Fl.mul_inv b hb0, Fl.add_self, zero_mul, zero_add]
    exact mul_ne hb0 fun e => hal ((lam_root h' hb0).1 e)
/-- nothing shorter makes twice as many values. -/
theorem places_min {l : List K} (h : ∀ a ∈ l, a ≠ 0) (hn : l.Nodup) {N : Nat} (hN : 2 * l.length ≤ N) (c : Ser K) (L : Nat) (hc : Bd c (L + 1)) (h0 : c 0 ≠ 0) (hg : Gn c L N (pows l)) : l.length ≤ L := by
  refine Classical.byContradiction fun hlt => ?_
  have hd := (lam_dg l h).1.2
  have ho := om_bd l h
  obtain ⟨P, hP⟩ : ∃ P : Ser K, P = fun i => if i < L then cv c (pows l) i else 0 := ⟨_, rfl⟩
  have hPb : Bd P L := fun i hi => by rw [hP]; exact if_neg (by omega)
  have e : cv c (cv (lam l) (pows l)) = cv (lam l) P := funext fun i => by
    by_cases hi : i < N
    · rw [← cv_assoc, cv_comm c, cv_assoc]
      refine cv_ext (fun _ _ => rfl) fun j hj => ?_
      rw [hP]
      show _ = if j < L then _ else 0
      split
      · rfl
      · exact hg j (by omega) (by omega)
    · rw [bd_cv hc ho i (by omega), bd_cv hd hPb i (by omega)]
  have hroot : ∀ b, b ∈ l → ev (L + 1) c b⁻¹ = 0 := fun b hb => by
    have h1 := ev_cv b⁻¹ (L + 1) l.length (L + 1 + l.length) _ _ hc ho (Nat.le_refl _)
    have h2 := ev_cv b⁻¹ (l.length + 1) L (L + 1 + l.length) _ _ hd hPb (by omega)
    rw [e, h2, (lam_root h (h b hb)).2 hb, zero_mul] at h1
    exact (mul_eq_zero h1.symm).resolve_right (om_ne h hn hb)
  rcases dg_or hc with h1 | ⟨d, hdL, hdg⟩
  · exact h0 (by rw [h1]; rfl)
  · have hnd : (l.map fun b => b⁻¹).Nodup := by
      rw [List.Nodup, List.pairwise_map]
      refine List.Pairwise.imp_of_mem (fun {a b} ha hb hab e => hab ?_) hn
      have e2 : a * b⁻¹ = 1 := by rw [← e]; exact Fl.mul_inv a (h a ha)
      have e3 : a * b⁻¹ * b = 1 * b := by rw [e2]
      rw [inv_mul a b (h b hb), one_mul] at e3
      exact e3
    have := roots_le d c (l.map fun b => b⁻¹) hdg hnd fun x hx => by
      obtain ⟨b, hb, rfl⟩ := List.mem_map.1 hx
      rw [← hroot b hb]
      exact (ev_more _ _ _ _ hdg.2 (by omega)).symm
    rw [List.length_map] at this
    omega
/-- the way finds the places' polynomial. -/
theorem bm_places {l : List K} (h : ∀ a ∈ l, a ≠ 0) (hn : l.Nodup) {N : Nat} (hN : 2 * l.length ≤ N) : (bm (pows l) N).L = l.length ∧ (bm (pows l) N).c = lam l := by
  have hi := bm_inv (pows l) N
  have h1 := lam_dg l h
  have hL : (bm (pows l) N).L = l.length := Nat.le_antisymm (hi.min _ _ h1.1.2 (by rw [h1.2]; exact Fl.one_ne) (lam_gn l h N)) (places_min h hn hN _ _ hi.bd (by rw [hi.one]; exact Fl.one_ne) hi.gn)
  exact ⟨hL, (bm_only (by rw [hL]; exact h1.1.2) h1.2 (by rw [hL]; exact lam_gn l h N) (by omega)).symm⟩
end
end Go.Proofs.YtjpaihnnljpaeaaDoor.Loc
/- The statements' own polynomials (shaleref2): Derive, Roots. By the verifier of shale. -/
namespace Go.Proofs.YtjpaihnnljpaeaaDoor.Pl
open Go Go.RowKit Fld Bits16
set_option linter.unusedVariables false
section
variable {m : Nat} [M : Mid m]
/-- the first n numbers of a function. -/
def fnN (f : Nat → Int) (n : Nat) : List Int := (List.range n).map f
omit M in
theorem fnN_succ (f : Nat → Int) (n : Nat) : fnN f (n + 1) = fnN f n ++ [f n] := by unfold fnN; rw [List.range_succ, List.map_append]; rfl
omit M in
theorem fnN_getD (f : Nat → Int) (n i : Nat) : (fnN f n).getD i 0 = if i < n then f i else 0 := by
  unfold fnN
  rw [List.getD_eq_getElem?_getD]
  by_cases h : i < n
  · rw [if_pos h]; simp [h]
  · rw [if_neg h, List.getElem?_eq_none (by simp; omega)]; rfl
/-- the numbers of a derivative, as they stand in a list. -/
def derN (l : List Int) (i : Nat) : Int := if (i + 1) % 2 = 1 then l.getD (i + 1) 0 else 0
theorem sr_der (l : List Int) (k : Nat) (h : l.length ≤ k + 1) : sr m (fnN (derN l) k) = der (sr m l) := by
  funext i
  show elm m ((fnN (derN l) k).getD i 0) = if i % 2 = 0 then elm m (l.getD (i + 1) 0) else 0
  rw [fnN_getD]
  unfold derN
  by_cases h2 : i % 2 = 0
  · rw [if_pos h2]
    by_cases hi : i < k
    · rw [if_pos hi, if_pos (by omega)]
    · rw [if_neg hi, List.getD_eq_getElem?_getD, List.getElem?_eq_none (by omega)]; rfl
  · rw [if_neg h2]
    by_cases hi : i < k
    · rw [if_pos hi, if_neg (by omega), elm_zero]
    · rw [if_neg hi, elm_zero]
end
end Go.Proofs.YtjpaihnnljpaeaaDoor.Pl
/- The statements' own polynomials (shaleref2): Roots. By the verifier of shale. -/
namespace Go.Proofs.YtjpaihnnljpaeaaDoor.Pl
open Go Go.RowKit Fld Bits16
set_option linter.unusedVariables false
section
variable {m : Nat} [M : Mid m]
open Classical in
/-- the roots of a list of numbers, rising; none of 0. -/
noncomputable def rootsL (m : Nat) [M : Mid m] (l : List Int) : List Int := if top (sr m l) l.length = 0 then [] else intsN (rts (top (sr m l) l.length) (sr m l) (2 ^ m))
theorem rts_mono (n : Nat) (P : Ser (El m)) (j : Nat) : (rts n P j).length ≤ j := by
  induction j with
  | zero => exact Nat.le_refl _
  | succ j ih => rw [rts, List.length_append]; split <;> simp <;> omega
end
end Go.Proofs.YtjpaihnnljpaeaaDoor.Pl
/- The reference's greatest common divisor over a field. By the verifier of shale. -/
namespace Go.Proofs.YtjpaihnnljpaeaaDoor.Pl
open Go Go.RowKit Fld Bits16
set_option linter.unusedVariables false
section
variable {m : Nat} [M : Mid m]
theorem rout_le {w0 w : World} {a : Option Addr} {n c e : Nat} {p : Ser (El m)} (h : ROut m w0 w a n c p) (hb : Bd p e) : n ≤ e := by
  rw [← h.top, top_same h.bd hb]; exact top_le p e
theorem rnil (w0 w : World) : ROut m w0 w none 0 0 (pz : Ser (El m)) := ⟨⟨rfl, Nat.le_refl _, by decide, fun i hi => by omega⟩, bd_pz 0, rfl, fun bb off e => by cases e⟩
section
variable {w : World}
theorem rtrimV {k : Nat} {a : Option Addr} {n c : Nat} {p : Ser (El m)} (h1 : PV m w k a n c p) (hK2 : k ≤ 2048) :
    Calls Tryd.prog 33 #[.int .i64 (m : Int), .slice a n c] w fun e w' => ∃ a n c, e = .returned (.slice a n c) ∧ NV m w' k a n c p ∧ Below w.heap.size w w' := by
  have hb := h1.bd
  obtain ⟨l1, r1, rfl, n1⟩ := h1
  refine (rtrim_any (m := m) a n c l1 w r1 (by omega)).mono ?_
  rintro e w1 ⟨a3, n3, c3, rfl, hO, b⟩
  exact ⟨a3, n3, c3, rfl, routV hO hb, b⟩
theorem raddV {k k' : Nat} {a a' : Option Addr} {n c n' c' : Nat} {p q : Ser (El m)} (K : Nat) (h1 : PV m w k a n c p) (h2 : PV m w k' a' n' c' q) (hK : k ≤ K) (hK' : k' ≤ K) (hK2 : K ≤ 2048) :
    Calls Tryd.prog 32 #[.int .i64 (m : Int), .slice a n c, .slice a' n' c'] w fun e w' => ∃ a n c, e = .returned (.slice a n c) ∧ NV m w' K a n c (padd p q) ∧ Below w.heap.size w w' := by
  have hb : Bd (padd p q) K := (h1.bd.mono hK).add (h2.bd.mono hK')
  obtain ⟨l1, r1, rfl, n1⟩ := h1
  obtain ⟨l2, r2, rfl, n2⟩ := h2
  refine (radd_any (m := m) a n c l1 a' n' c' l2 w r1 r2 (by omega) (by omega)).mono ?_
  rintro e w1 ⟨a3, n3, c3, rfl, hO, b⟩
  exact ⟨a3, n3, c3, rfl, routV hO hb, b⟩
theorem rtimesV {k k' : Nat} {a a' : Option Addr} {n c n' c' : Nat} {p q : Ser (El m)} (K : Nat) (h1 : PV m w k a n c p) (h2 : PV m w k' a' n' c' q) (hK : k + k' ≤ K) (hK2 : K ≤ 2048) :
    Calls Tryd.prog 31 #[.int .i64 (m : Int), .slice a n c, .slice a' n' c'] w fun e w' => ∃ a n c, e = .returned (.slice a n c) ∧ NV m w' K a n c (cv p q) ∧ Below w.heap.size w w' := by
  have hb := cvK h1.bd h2.bd hK
  obtain ⟨l1, r1, rfl, n1⟩ := h1
  obtain ⟨l2, r2, rfl, n2⟩ := h2
  refine (rtimes_any (m := m) a n c l1 a' n' c' l2 w r1 r2 (by omega) (by omega)).mono ?_
  rintro e w1 ⟨a3, n3, c3, rfl, hO, b⟩
  exact ⟨a3, n3, c3, rfl, routV hO hb, b⟩
end
end
end Go.Proofs.YtjpaihnnljpaeaaDoor.Pl
/- The ring that a statement makes, and the examples of chapter 4. By the verifier of shale. -/
namespace Go.Proofs.YtjpaihnnljpaeaaDoor.Pl
open Go Go.RowKit Fld Bits16
set_option linter.unusedVariables false
/-- the m that a statement makes of any number. -/
def rm (z : Int) : Nat := (z % 6).toNat + 3
instance (z : Int) : Mid (rm z) := ⟨by unfold rm; omega, by unfold rm; omega⟩
theorem rm_hi (z : Int) : rm z ≤ 8 := by unfold rm; omega
/-- the ring's answer. -/
def RingMade (m : Nat) (w : World) (e : Ending) (w' : World) : Prop := ∃ g s be ce bl, e = .returned (.tuple #[.pointer (some ⟨g, 0, none⟩), .int .i64 (m : Int)]) ∧ RingAt m w' g s be ce bl ∧ Below w.heap.size w w'
theorem lit_new (w W : World) (l : List Int) (n : Nat) (hn : n = l.length) (hm : n ≤ 1000) (hW : W = w.alloc (obj64 l)) : RowZ W (some ⟨w.heap.size, 0, none⟩) n n l ∧ Below w.heap.size w W ∧ W.heap.size = w.heap.size + 1 := by
  subst hW
  refine ⟨?_, (Below.refl _ _).alloc (Nat.le_refl _) _, Array.size_push _⟩
  subst hn
  exact Blk64.rowz (Blk64.new w l) (by omega)
section
variable {m : Nat} [M : Mid m]
theorem RowZ.pv {w : World} {a : Option Addr} {n c : Nat} {l : List Int} (h : RowZ w a n c l) (p : Ser (El m)) (e : sr m l = p) (K : Nat) (hK : n ≤ K) : PV m w K a n c p := ⟨l, h, e, hK⟩
theorem RowZ.nv {w : World} {a : Option Addr} {n c : Nat} {l : List Int} (h : RowZ w a n c l) (e : nums (sr m l) l.length = l) (ht : Pl.top (sr m l) l.length = l.length) : NV m w n a n c (sr m l) := by
  have hl := h.hlen
  subst hl
  exact ⟨by rw [e]; exact h, sr_bd l, ht, Nat.le_refl _⟩
theorem ser_ext {p q : Ser (El m)} {n : Nat} (hp : Bd p n) (hq : Bd q n) (h : ∀ i, i < n → p i = q i) : p = q := by
  funext i
  by_cases hi : i < n
  · exact h i hi
  · rw [hp i (by omega), hq i (by omega)]
end
instance : Mid 4 := ⟨by decide, by decide⟩
abbrev s4 (l : List Int) : Ser (El 4) := sr 4 l
theorem s4_bd (l : List Int) (n : Nat) (h : l.length ≤ n) : Bd (s4 l) n := (sr_bd l).mono h
theorem y1 : cv (s4 [1, 1]) (s4 [1, 1]) = s4 [1, 0, 1] :=
  ser_ext (n := 4) (cvK (s4_bd _ 2 (by decide)) (s4_bd _ 2 (by decide)) (by decide)) (s4_bd _ 4 (by decide)) (by decide +kernel)
theorem y2 : Dv2 (s4 [0, 0, 1]) (s4 [1, 1]) (s4 [1, 1]) (s4 [1]) 1 := by
  refine ⟨?_, ⟨2, s4_bd _ 2 (by decide)⟩, s4_bd _ 1 (by decide)⟩
  exact ser_ext (n := 4) (s4_bd _ 4 (by decide)) ((cvK (s4_bd _ 2 (by decide)) (s4_bd _ 2 (by decide)) (by decide)).add (s4_bd _ 4 (by decide))) (by decide +kernel)
theorem dg11 : Dg (s4 [1, 1]) 1 := ⟨by decide +kernel, s4_bd _ 2 (by decide)⟩
theorem y3 : pls (m := 4) [2, 3] 2 = s4 [6, 1, 1] :=
  ser_ext (n := 4) ((pls_bd _ 2).mono (by decide)) (s4_bd _ 4 (by decide)) (by decide +kernel)
theorem y4 : pls (m := 4) [3, 5] 2 = s4 [15, 6, 1] :=
  ser_ext (n := 4) ((pls_bd _ 2).mono (by decide)) (s4_bd _ 4 (by decide)) (by decide +kernel)
theorem y5 : IsG (s4 [6, 1, 1]) (s4 [15, 6, 1]) (s4 [3, 1]) := by
  have b2 := s4_bd [2, 1] 2 (by decide)
  have b3 := s4_bd [3, 1] 2 (by decide)
  have b5 := s4_bd [5, 1] 2 (by decide)
  have e1 : s4 [6, 1, 1] = cv (s4 [2, 1]) (s4 [3, 1]) := ser_ext (n := 4) (s4_bd _ 4 (by decide)) (cvK b2 b3 (by decide)) (by decide +kernel)
  have e2 : s4 [15, 6, 1] = cv (s4 [5, 1]) (s4 [3, 1]) := ser_ext (n := 4) (s4_bd _ 4 (by decide)) (cvK b5 b3 (by decide)) (by decide +kernel)
  have e3 : psm (elm 4 7)⁻¹ (padd (s4 [6, 1, 1]) (s4 [15, 6, 1])) = s4 [3, 1] := ser_ext (n := 4) (((s4_bd _ 4 (by decide)).add (s4_bd _ 4 (by decide))).sm _) (s4_bd _ 4 (by decide)) (by decide +kernel)
  refine ⟨⟨⟨_, 2, b2, e1⟩, ⟨_, 2, b5, e2⟩, fun c h k => ?_⟩, Or.inr ⟨1, ⟨by decide +kernel, b3⟩, by decide +kernel⟩⟩
  have := (h.add k).sm (elm 4 7)⁻¹
  rwa [e3] at this
theorem y6 : der (s4 [1, 2, 3, 4]) = s4 [2, 0, 4] :=
  ser_ext (n := 4) (der_bdK (s4_bd _ 4 (by decide))) (s4_bd _ 4 (by decide)) (by decide +kernel)
theorem y7 : zn (ev 3 (s4 [1, 1, 1]) (elm 4 2)) = 7 := by decide +kernel
theorem rm1 : rm 1 = 4 := by decide
end Go.Proofs.YtjpaihnnljpaeaaDoor.Pl
/- The contracts of package locate: Locate, Fast, Of, Makes. By the verifier of shale. -/
namespace Go.Proofs.YtjpaihnnljpaeaaDoor.Loc
open Go Go.RowKit Pl Fld Bits16
set_option linter.unusedVariables false
section
variable {m : Nat} [M : Mid m]
set_option maxRecDepth 100000 in
set_option maxHeartbeats 1000000 in
theorem locate_any {s be ce bl : Nat} (a : Option Addr) (n c : Nat) (l : List Int) (w : World) (F : FldAt m w s be ce bl) (r : RowZ w a n c l) (S : Ser (El m)) (N : Nat) (hN : N = min n 80) (hS : ∀ i, i < N → S i = sr m l i) :
    Calls Tryd.prog 12 #[.pointer (some ⟨s, 0, none⟩), .slice a n c] w fun e w' => ∃ a n c, e = .returned (.tuple #[.slice a n c, .int .i64 ((bm S N).L : Int)]) ∧ NV m w' 100 a n c (bm S N).c ∧ Below w.heap.size w w' := by
  have HF := Lib.hid F
  have HR := Lib.hid r
  have HS := Lib.hid hS
  have HN := Lib.hid hN
  clear F r hS hN
  go_enter Tryd.func12, Tryd.ntmps12
  go_wp2_with fail
  refine (begin_any w HF.out).mono ?_
  rintro e w1 ⟨x, a1, a2, rfl, hx, h1, b1⟩
  go_wp2_with fail
  refine (run_any (steps_bm S) w w1 (mendAt_div x s be ce bl) a a1 a2 n c 1 1 1 1 l hx b1 h1 HR.out N HN.out HS.out).mono ?_
  rintro e w2 ⟨a3, n3, c3, rfl, nv, b2⟩
  go_wp2_with fail
  go_ret2
  exact ⟨_, _, _, rfl, nv, b2⟩
set_option maxRecDepth 100000 in
set_option maxHeartbeats 1000000 in
theorem lfast_any {s be ce bl : Nat} (a : Option Addr) (n c : Nat) (l : List Int) (w : World) (F : FldAt m w s be ce bl) (r : RowZ w a n c l) (S : Ser (El m)) (N : Nat) (hN : N = min n 80) (hS : ∀ i, i < N → S i = sr m l i) :
    Calls Tryd.prog 15 #[.pointer (some ⟨s, 0, none⟩), .slice a n c] w fun e w' => ∃ a n c, e = .returned (.tuple #[.slice a n c, .int .i64 ((bmF S N).L : Int)]) ∧ NV m w' 100 a n c (bmF S N).c ∧ Below w.heap.size w w' := by
  have HF := Lib.hid F
  have HR := Lib.hid r
  have HS := Lib.hid hS
  have HN := Lib.hid hN
  clear F r hS hN
  go_enter Tryd.func15, Tryd.ntmps15
  go_wp2_with fail
  refine (begin_any w HF.out).mono ?_
  rintro e w1 ⟨x, a1, a2, rfl, hx, h1, b1⟩
  go_wp2_with fail
  refine (runW_any (steps_bmF S) w w1 (mendAt_whole x s be ce bl) a a1 a2 n c 1 1 1 1 l hx b1 h1 HR.out N HN.out HS.out).mono ?_
  rintro e w2 ⟨a3, n3, c3, rfl, nv, b2⟩
  go_wp2_with fail
  go_ret2
  exact ⟨_, _, _, rfl, nv, b2⟩
/-- an element by its exponent. -/
def exK (m : Nat) [M : Mid m] (z : Int) : El m := ⟨pwZ m z, pwZ_lt m M.lo M.hi z⟩
theorem exK_ne (z : Int) : exK m z ≠ 0 := fun e => pwZ_ne m M.lo M.hi z (congrArg Subtype.val e)
theorem sr_two (e : El m) : sr m [1, zn e] = two e := funext fun i => by
  show elm m ([1, zn e].getD i 0) = (if i = 0 then 1 else if i = 1 then e else 0)
  rcases i with _ | _ | i
  · rw [if_pos rfl]; exact elm_zn (1 : El m)
  · rw [if_neg (by omega), if_pos rfl]; exact elm_zn e
  · rw [if_neg (by omega), if_neg (by omega)]; exact elm_zero
theorem NV.tight {w : World} {K K' : Nat} {a : Option Addr} {n c : Nat} {p : Ser (El m)} (h : NV m w K a n c p) (hb : Bd p K') : NV m w K' a n c p :=
  ⟨h.row, h.bd, h.top, by rw [← h.top, top_same h.bd hb]; exact top_le p K'⟩
/-- the polynomial of places. -/
def lamZ (m : Nat) [M : Mid m] (l : List Int) : Ser (El m) := lam (l.map (exK m))
theorem lamZ_bd (l : List Int) : Bd (lamZ m l) (l.length + 1) := by
  have := (lam_dg (l.map (exK m)) (fun a ha => by obtain ⟨z, _, rfl⟩ := List.mem_map.1 ha; exact exK_ne z)).1.2
  rwa [List.length_map] at this
theorem lamZ_snoc (l : List Int) (z : Int) : lamZ m (l ++ [z]) = cv (lamZ m l) (two (exK m z)) := by
  unfold lamZ; rw [List.map_append]; exact lam_snoc _ _
theorem take_snoc (l : List Int) (j : Nat) (hj : j < l.length) : l.take (j + 1) = l.take j ++ [l.getD j 0] := by
  rw [List.take_add_one, List.getElem?_eq_getElem hj, List.getD_eq_getElem?_getD, List.getElem?_eq_getElem hj]; rfl
theorem nv_one {w : World} {a : Option Addr} (h : RowZ w a 1 1 [1]) : NV m w 1 a 1 1 pone := by
  have e := sr_one (m := m)
  have := RowZ.nv (m := m) h (by rw [e]; rfl) (by rw [e]; exact top_some (p := (pone : Ser (El m))) (n := 0) Fl.one_ne)
  rwa [e] at this
set_option maxRecDepth 100000 in
set_option maxHeartbeats 1000000 in
theorem of_any {s be ce bl : Nat} (a : Option Addr) (n c : Nat) (l : List Int) (w : World) (F : FldAt m w s be ce bl) (r : RowZ w a n c l) (hn : n ≤ 40) :
    Calls Tryd.prog 17 #[.pointer (some ⟨s, 0, none⟩), .slice a n c] w fun e w' => ∃ a' n' c', e = .returned (.tuple #[.slice a' n' c', .nilIface]) ∧ NV m w' (n + 1) a' n' c' (lamZ m l) ∧ Below w.heap.size w w' := by
  have HF := Lib.hid F
  have HR := Lib.hid r
  have x1 : ¬ ((40 : Int) < (n : Int)) := by omega
  clear F r
  go_enter Tryd.func17, Tryd.ntmps17
  go_wp2_with fail
  refine (pnew_any w HF.out).mono ?_
  rintro e w1 ⟨g, rfl, R, b1⟩
  clear x1
  have hz1 := row_one w1
  have b2 : Below w1.heap.size w1 (w1.alloc (.cells #[.int .i64 1] 3 (0, 0))) := (Below.refl _ _).alloc (Nat.le_refl _) _
  have R2 := R.below b2
  have B2 := b1.trans (b2.mono b1.size)
  have H0 : Hid (NV m (w1.alloc (.cells #[.int .i64 1] 3 (0, 0))) 1 (some ⟨w1.heap.size, 0, none⟩) 1 1 pone ∧ RingAt m (w1.alloc (.cells #[.int .i64 1] 3 (0, 0))) g s be ce bl ∧ Below w.heap.size w (w1.alloc (.cells #[.int .i64 1] 3 (0, 0)))) := ⟨nv_one hz1, R2, B2⟩
  clear R hz1 b1 b2 R2 B2
  go_wp2_with fail
  go_loopg [7, 21] n (fun gh s7 s21 wx => ∃ (j : Nat) (a1 : Option Addr) (n1 c1 : Nat), gh = n - j ∧ j ≤ n ∧ s21 = .int .i64 (j : Int) ∧ s7 = .slice a1 n1 c1 ∧ NV m wx (j + 1) a1 n1 c1 (lamZ m (l.take j)) ∧ RingAt m wx g s be ce bl ∧ Below w.heap.size w wx)
  case atStart => exact ⟨0, _, _, _, rfl, Nat.zero_le _, rfl, rfl, H0.out.1, H0.out.2.1, H0.out.2.2⟩
  case round =>
    clear H0
    obtain ⟨j, a1, n1, c1, hg, hj, rfl, rfl, nv, R, B⟩ := hrel
    have HG := Lib.hid hg
    clear hg
    by_cases hlt : j < n
    · have x0 : (j : Int) < (n : Int) := by omega
      have x1 : (0 : Int) ≤ (j : Int) := by omega
      obtain ⟨bb, off, rfl, cc, _⟩ := (HR.out.below B).row j hlt
      have HL : Hid (lamZ m (l.take (j + 1)) = cv (lamZ m (l.take j)) (two (exK m (l.getD j 0))) ∧ Bd (lamZ m (l.take (j + 1))) (j + 1 + 1)) := by
        refine ⟨by rw [take_snoc l j (by have := HR.out.hlen; omega), lamZ_snoc], ?_⟩
        have := lamZ_bd (m := m) (l.take (j + 1))
        rwa [List.length_take, show min (j + 1) l.length = j + 1 by have := HR.out.hlen; omega] at this
      have HV := Lib.hid (And.intro nv (And.intro R B))
      generalize l.getD j 0 = z at cc HL
      clear nv R B
      go_wp2_with fail
      refine (fexp_any M.lo M.hi z wr HV.out.2.1.2).mono ?_
      rintro e w3 ⟨rfl, rfl⟩
      clear cc
      go_wp2_with fail
      generalize hw : wr.alloc (.cells #[.int .i64 1, .int .i64 (h (pwZ m z))] 3 (0, 0)) = w4
      obtain ⟨hl, b4, hs⟩ := lit_new wr w4 [1, h (pwZ m z)] 2 rfl (by decide) hw.symm
      clear hw hs
      have hp : PV m w4 2 (some ⟨wr.heap.size, 0, none⟩) 2 2 (two (exK m z)) := hl.pv _ (sr_two (exK m z)) 2 (Nat.le_refl _)
      have R4 := HV.out.2.1.below b4
      have B4 := HV.out.2.2.trans (b4.mono HV.out.2.2.size)
      refine (mulV R4 (j + 3) (HV.out.1.below b4).pol hp (by omega) (by omega)).mono ?_
      rintro e w5 ⟨a5, n5, c5, rfl, nv5, b5⟩
      rw [← HL.out.1] at nv5
      have HN : Hid (NV m w5 (j + 1 + 1) a5 n5 c5 (lamZ m (l.take (j + 1))) ∧ RingAt m w5 g s be ce bl ∧ Below w.heap.size w w5) := ⟨NV.tight nv5 HL.out.2, R4.below b5, B4.trans (b5.mono B4.size)⟩
      clear hl b4 hp R4 B4 nv5 b5 HL HV
      go_wp2_with fail
      go_roundg (n - (j + 1))
      case measure => have := HG.out; omega
      case rel => exact ⟨j + 1, a5, n5, c5, rfl, hlt, by go_num, rfl, HN.out.1, HN.out.2.1, HN.out.2.2⟩
    · obtain rfl : j = n := by omega
      have e1 : l.take j = l := List.take_of_length_le (by have := HR.out.hlen; omega)
      rw [e1] at nv
      have HN := Lib.hid (And.intro nv B)
      clear nv R B e1
      go_wp2_with fail
      go_ret2
      exact ⟨_, _, _, rfl, HN.out.1, HN.out.2⟩
theorem of_long {s : Nat} (a : Option Addr) (n c : Nat) (w : World) (hn : 40 < n) (x : Addr) (E : ErrAt w 0 x) :
    Calls Tryd.prog 17 #[.pointer (some ⟨s, 0, none⟩), .slice a n c] w fun e w' => e = .returned (.tuple #[.slice none 0 0, errOf x]) ∧ Drawn w w' := by
  have e1 := E.1
  unfold Sent at e1
  have x1 : (40 : Int) < (n : Int) := by omega
  clear E
  go_enter Tryd.func17, Tryd.ntmps17
  go_wp2_with fail
  go_quiet (fail)
  go_wp2_with fail
  go_ret2
  exact ⟨rfl, Drawn.mk _ _⟩
/-- does p, so long, make s (the first n of it)? -/
def MakesP (p s : Ser (El m)) (L n : Nat) : Prop := ∀ i, L ≤ i → i < n → part p s i (L + 1) = 0
open Classical in
noncomputable def makesB (p s : Ser (El m)) (L n : Nat) : Bool := decide (MakesP p s L n)
set_option maxRecDepth 100000 in
set_option maxHeartbeats 1000000 in
theorem makes_any {s be ce bl : Nat} (a : Option Addr) (n c : Nat) (l : List Int) (b : Option Addr) (n2 c2 : Nat) (l2 : List Int) (L : Nat) (w : World) (F : FldAt m w s be ce bl) (r : RowZ w a n c l) (r2 : RowZ w b n2 c2 l2) (h0 : 0 < n) (hp : sr m l 0 ≠ 0) (hL : L ≤ n2) (hn2 : n2 ≤ 1000000) :
    Calls Tryd.prog 19 #[.pointer (some ⟨s, 0, none⟩), .slice a n c, .int .i64 (L : Int), .slice b n2 c2] w fun e w' => e = .returned (.bool (makesB (sr m l) (sr m l2) L n2)) ∧ Drawn w w' := by
  have HF := Lib.hid F
  have HR := Lib.hid r
  have HR2 := Lib.hid r2
  obtain ⟨bb, off, rfl, cc, _⟩ := r.row 0 h0
  rw [Nat.add_zero] at cc
  have hsr := sr_at (m := m) l 0
  have x1 : ((n : Int) == 0) = false := by rw [beq_eq_false_iff_ne]; omega
  have x2 : decide ((L : Int) < 0) = false := decide_eq_false (by omega)
  have x3 : decide (n2 < L) = false := decide_eq_false (by omega)
  have x4 : (0 : Int) < (n : Int) := by omega
  have x5 := (zn_eq0 (sr m l 0)).trans (decide_eq_false hp)
  have HA : Hid (Calls Tryd.prog 39 #[.pointer (some ⟨s, 0, none⟩), .int .i64 (l.getD 0 0), .int .i64 0] w fun e w' => e = .returned (.int .i64 (zn (sr m l 0))) ∧ w = w') := by
    have h1 := add_any M.lo M.hi (l.getD 0 0) 0 w F
    rw [add_val0, hsr] at h1
    exact h1
  clear F r r2 hsr hp
  generalize zn (sr m l 0) = z0 at x5 HA
  generalize l.getD 0 0 = u0 at cc HA
  go_enter Tryd.func19, Tryd.ntmps19
  go_wp2_with fail
  refine HA.out.mono ?_
  rintro e w1 ⟨rfl, rfl⟩
  clear cc HA x1
  go_wp2_with fail
  clear x5 x2 x3
  go_loopg [9] (n2 - L) (fun gh s9 wx => ∃ k : Nat, gh = n2 - k ∧ L ≤ k ∧ k ≤ n2 ∧ s9 = .int .i64 (k : Int) ∧ (∀ i, L ≤ i → i < k → part (sr m l) (sr m l2) i (L + 1) = 0) ∧ Drawn w wx)
  case atStart => exact ⟨L, rfl, Nat.le_refl _, hL, rfl, fun i h1 h2 => by omega, Drawn.refl _⟩
  case round =>
    obtain ⟨k, hg, hk1, hk, rfl, hP, hD⟩ := hrel
    have HG := Lib.hid hg
    have HPP := Lib.hid hP
    clear hg hP
    by_cases hlt : k < n2
    · have y1 : (k : Int) < (n2 : Int) := by omega
      obtain ⟨A, hA⟩ : ∃ A, A = part (sr m l) (sr m l2) k (L + 1) := ⟨_, rfl⟩
      have HS : Hid (Calls Tryd.prog 40 #[.slice (some ⟨bb, off, none⟩) n c, .slice b n2 c2, .int .i64 (k : Int), .int .i64 (L : Int), mulOf s] wr fun e w' => e = .returned (.int .i64 (zn A)) ∧ Drawn wr w') := by
        have b := hD.below w.heap.size
        have h1 := lsum_any (m := m) (some ⟨bb, off, none⟩) _ n c n2 c2 l l2 k L wr (HF.out.drawn M.lo hD) (HR.out.below b) (HR2.out.below b) hlt (by omega)
        rw [part_rounds _ _ _ _ _ (by rw [HR.out.hlen]; exact sr_bd _), ← hA] at h1
        exact h1
      have hze := zn_eq0 A
      have HAE := Lib.hid hA
      clear hA
      by_cases hz : A = 0
      · replace hze : (zn A == 0) = true := hze.trans (decide_eq_true hz)
        have hzz : zn A = 0 := by rw [hz]; rfl
        have HPN : Hid (∀ i, L ≤ i → i < k + 1 → part (sr m l) (sr m l2) i (L + 1) = 0) := by
          intro i h1 h2
          by_cases h3 : i = k
          · subst h3; rw [← HAE.out]; exact hz
          · exact HPP.out i h1 (by omega)
        clear hz
        rw [hzz] at HS
        clear hze hzz
        go_wp2_with fail
        refine HS.out.mono ?_
        rintro e w5 ⟨rfl, d5⟩
        have D5 := hD.trans d5
        clear HS d5
        go_wp2_with fail
        go_roundg (n2 - (k + 1))
        case measure => have := HG.out; omega
        case rel => exact ⟨k + 1, rfl, by omega, hlt, by go_num, HPN.out, D5⟩
      · replace hze : (zn A == 0) = false := hze.trans (decide_eq_false hz)
        have HR : Hid (makesB (sr m l) (sr m l2) L n2 = false) := by
          show _ = _
          unfold makesB
          refine @decide_eq_false _ (Classical.propDecidable _) fun h => hz ?_
          rw [HAE.out]; exact h k hk1 hlt
        clear hz
        generalize zn A = zA at hze HS
        go_wp2_with fail
        refine HS.out.mono ?_
        rintro e w5 ⟨rfl, d5⟩
        have D5 := hD.trans d5
        clear HS d5
        go_wp2_with fail
        go_ret
        exact ⟨by rw [HR.out]; rfl, D5⟩
    · obtain rfl : k = n2 := by omega
      have HR : Hid (makesB (sr m l) (sr m l2) L k = true) := by
        show _ = _
        unfold makesB
        exact @decide_eq_true _ (Classical.propDecidable _) HPP.out
      go_wp2_with fail
      go_ret
      exact ⟨by rw [HR.out]; rfl, hD⟩
end
end Go.Proofs.YtjpaihnnljpaeaaDoor.Loc
/- The field of a statement of chapter 8, its examples. By the verifier of shale. -/
namespace Go.Proofs.YtjpaihnnljpaeaaDoor.Loc
open Go Go.RowKit Pl Fld Bits16
set_option linter.unusedVariables false
/-- the m that a statement makes of any number. -/
def mk8 (z : Int) : Nat := (z % 7).toNat + 3
instance (z : Int) : Mid (mk8 z) := ⟨by unfold mk8; omega, by unfold mk8; omega⟩
theorem mk8_hi (z : Int) : mk8 z ≤ 9 := by unfold mk8; omega
theorem mk8_go (z : Int) : z.tmod 7 % 7 + 3 = (mk8 z : Int) := by
  unfold mk8
  have : z.tmod 7 % 7 = z % 7 := by rw [Int.tmod_eq_emod]; split <;> omega
  omega
def MadeAt (m : Nat) (w : World) (e : Ending) (w' : World) : Prop := ∃ s be ce bl, e = .returned (.tuple #[.pointer (some ⟨s, 0, none⟩), .int .i64 (m : Int)]) ∧ FldAt m w' s be ce bl ∧ Below w.heap.size w w'
set_option maxHeartbeats 400000 in
theorem made_any (z : Int) (w : World) : Calls Tryd.prog 10 #[.int .i64 z] w (MadeAt (mk8 z) w) := by
  have a1 := Int.tmod_lt_of_pos z (b := 7) (by omega)
  have a2 : -7 < z.tmod 7 := by
    have := Int.tmod_lt_of_pos (-z) (b := 7) (by omega)
    rw [Int.neg_tmod] at this
    omega
  have HQ := Lib.hid (mk8_go z)
  have l1 : 3 ≤ mk8 z := Mid.lo
  have l2 : mk8 z ≤ 14 := Mid.hi
  go_enter Tryd.func10, Tryd.ntmps10
  go_wp2_with fail
  rw [HQ.out]
  refine (new_any (mk8 z) l1 l2 w).mono ?_
  rintro e w1 ⟨s, be, ce, bl, rfl, f, b1⟩
  go_wp2_with fail
  go_ret2
  exact ⟨s, be, ce, bl, rfl, f, b1⟩
theorem nilrow (w : World) : RowZ w none 0 0 [] := ⟨rfl, Nat.le_refl _, by decide, fun i hi => by omega⟩
theorem loc_nil {m : Nat} [M : Mid m] {s be ce bl : Nat} (w : World) (F : FldAt m w s be ce bl) :
    Calls Tryd.prog 12 #[.pointer (some ⟨s, 0, none⟩), .slice none 0 0] w fun e w' => ∃ a n c, e = .returned (.tuple #[.slice a n c, .int .i64 0]) ∧ NV m w' 100 a n c pone ∧ Below w.heap.size w w' :=
  locate_any none 0 0 [] w F (nilrow w) pz 0 (by decide) fun i hi => by omega
theorem ones_at : ∀ i, i < 4 → pows [(1 : El 4)] i = sr 4 [1, 1, 1, 1] i := by decide +kernel
theorem ones_lam : lam [(1 : El 4)] = s4 [1, 1] :=
  ser_ext (n := 2) (lam_dg [(1 : El 4)] (fun a ha => by rw [List.mem_singleton.1 ha]; exact Fl.one_ne)).1.2 (s4_bd _ 2 (by decide)) (by decide +kernel)
theorem loc_ones {s be ce bl : Nat} (a : Option Addr) (w : World) (F : FldAt 4 w s be ce bl) (r : RowZ w a 4 4 [1, 1, 1, 1]) :
    Calls Tryd.prog 12 #[.pointer (some ⟨s, 0, none⟩), .slice a 4 4] w fun e w' => ∃ a n c, e = .returned (.tuple #[.slice a n c, .int .i64 1]) ∧ NV 4 w' 100 a n c (s4 [1, 1]) ∧ Below w.heap.size w w' := by
  have h := locate_any a 4 4 [1, 1, 1, 1] w F r (pows [(1 : El 4)]) 4 (by decide) ones_at
  obtain ⟨e1, e2⟩ := bm_places (l := [(1 : El 4)]) (fun a ha => by rw [List.mem_singleton.1 ha]; exact Fl.one_ne) (by simp) (N := 4) (by decide)
  rw [e1, e2, ones_lam] at h
  exact h
theorem lam_01 : lamZ 4 [0, 1] = s4 [1, 3, 2] :=
  ser_ext (n := 3) (lamZ_bd [0, 1]) (s4_bd _ 3 (by decide)) (by decide +kernel)
set_option maxRecDepth 100000 in
set_option maxHeartbeats 4000000 in
theorem first_any (w : World) : Calls Tryd.prog 9 #[] w fun e w' => e = .returned (.bool true) ∧ Below w.heap.size w w' := by
  have HN := new_any 4 (by decide) (by decide) w
  go_enter Tryd.func9, Tryd.ntmps9
  go_wp2_with fail
  refine HN.mono ?_
  rintro e w1 ⟨s, be, ce, bl, rfl, F, B⟩
  clear HN
  go_wp2_with fail
  refine (loc_nil w1 F).mono ?_
  rintro e w2 ⟨a1, n1, c1, rfl, P1, b⟩
  replace F := F.below (Pl.Mid.lo (m := 4)) b
  replace B := B.trans (b.mono B.size)
  clear b
  go_wp2_with fail
  generalize hw : w2.alloc (.cells #[.int .i64 1, .int .i64 1, .int .i64 1, .int .i64 1] 3 (0, 0)) = w3
  obtain ⟨Z, b, hs⟩ := lit_new w2 w3 [1, 1, 1, 1] 4 rfl (by decide) hw.symm
  clear hw hs
  replace F := F.below (Pl.Mid.lo (m := 4)) b
  replace P1 := P1.below b
  replace B := B.trans (b.mono B.size)
  clear b
  refine (loc_ones _ w3 F Z).mono ?_
  rintro e w4 ⟨a2, n2, c2, rfl, P2, b⟩
  replace F := F.below (Pl.Mid.lo (m := 4)) b
  replace P1 := P1.below b
  replace Z := Z.below b
  replace B := B.trans (b.mono B.size)
  clear b
  clear Z
  go_wp2_with fail
  generalize hw : w4.alloc (.cells #[.int .i64 0, .int .i64 1] 3 (0, 0)) = w5
  obtain ⟨Z, b, hs⟩ := lit_new w4 w5 [0, 1] 2 rfl (by decide) hw.symm
  clear hw hs
  replace F := F.below (Pl.Mid.lo (m := 4)) b
  replace P1 := P1.below b
  replace P2 := P2.below b
  replace B := B.trans (b.mono B.size)
  clear b
  refine (of_any _ _ _ _ w5 F Z (by decide)).mono ?_
  rintro e w6 ⟨a3, n3, c3, rfl, P3, b⟩
  replace F := F.below (Pl.Mid.lo (m := 4)) b
  replace P1 := P1.below b
  replace P2 := P2.below b
  replace Z := Z.below b
  replace B := B.trans (b.mono B.size)
  clear b
  rw [lam_01] at P3
  clear Z
  go_wp2_with fail
  generalize hw : w6.alloc (.cells #[.int .i64 1] 3 (0, 0)) = w7
  obtain ⟨Z, b, hs⟩ := lit_new w6 w7 [1] 1 rfl (by decide) hw.symm
  clear hw hs
  replace F := F.below (Pl.Mid.lo (m := 4)) b
  replace P1 := P1.below b
  replace P2 := P2.below b
  replace P3 := P3.below b
  replace B := B.trans (b.mono B.size)
  clear b
  have Q := Z.nv (m := 4) (by decide +kernel) (by decide +kernel)
  refine (sameV P1 Q sr_one.symm).mono ?_
  rintro e w8 ⟨rfl, d⟩
  have b := d.below w7.heap.size
  replace F := F.below (Pl.Mid.lo (m := 4)) b
  replace P1 := P1.below b
  replace P2 := P2.below b
  replace P3 := P3.below b
  replace Z := Z.below b
  replace B := B.trans (b.mono B.size)
  clear b d
  clear Z
  clear Q
  go_wp2_with fail
  generalize hw : w8.alloc (.cells #[.int .i64 1, .int .i64 1] 3 (0, 0)) = w9
  obtain ⟨Z, b, hs⟩ := lit_new w8 w9 [1, 1] 2 rfl (by decide) hw.symm
  clear hw hs
  replace F := F.below (Pl.Mid.lo (m := 4)) b
  replace P1 := P1.below b
  replace P2 := P2.below b
  replace P3 := P3.below b
  replace B := B.trans (b.mono B.size)
  clear b
  have Q := Z.nv (m := 4) (by decide +kernel) (by decide +kernel)
  refine (sameV P2 Q rfl).mono ?_
  rintro e w10 ⟨rfl, d⟩
  have b := d.below w9.heap.size
  replace F := F.below (Pl.Mid.lo (m := 4)) b
  replace P1 := P1.below b
  replace P2 := P2.below b
  replace P3 := P3.below b
  replace Z := Z.below b
  replace B := B.trans (b.mono B.size)
  clear b d
  clear Z
  clear Q
  go_wp2_with fail
  generalize hw : w10.alloc (.cells #[.int .i64 1, .int .i64 3, .int .i64 2] 3 (0, 0)) = w11
  obtain ⟨Z, b, hs⟩ := lit_new w10 w11 [1, 3, 2] 3 rfl (by decide) hw.symm
  clear hw hs
  replace F := F.below (Pl.Mid.lo (m := 4)) b
  replace P1 := P1.below b
  replace P2 := P2.below b
  replace P3 := P3.below b
  replace B := B.trans (b.mono B.size)
  clear b
  have Q := Z.nv (m := 4) (by decide +kernel) (by decide +kernel)
  refine (sameV P3 Q rfl).mono ?_
  rintro e w12 ⟨rfl, d⟩
  have b := d.below w11.heap.size
  replace F := F.below (Pl.Mid.lo (m := 4)) b
  replace P1 := P1.below b
  replace P2 := P2.below b
  replace P3 := P3.below b
  replace Z := Z.below b
  replace B := B.trans (b.mono B.size)
  clear b d
  clear Z
  clear Q
  go_wp2_with fail
  go_ret
  exact ⟨rfl, B⟩
end Go.Proofs.YtjpaihnnljpaeaaDoor.Loc
/- The examples of chapter 4, as the statements ask them first of all. By the verifier of shale. -/
namespace Go.Proofs.YtjpaihnnljpaeaaDoor.Pl
open Go Go.RowKit Fld Bits16
set_option linter.unusedVariables false
end Go.Proofs.YtjpaihnnljpaeaaDoor.Pl
/- Small words for the laws of chapter 4. By the verifier of shale. -/
namespace Go.Proofs.YtjpaihnnljpaeaaDoor.Pl
open Go Go.RowKit Fld Bits16
set_option linter.unusedVariables false
/-- numbers that came in. -/
theorem row_rowz {w : World} {a : Option Addr} {len cap : Nat} {zs : List Int} (h : IsRow .i64 w a len cap zs) : RowZ w a len cap (zs.take len) := by
  rcases h with ⟨rfl, rfl, rfl, rfl⟩ | ⟨x, rfl, hl, hm, hz, hc, hw⟩
  · exact ⟨rfl, Nat.le_refl _, by decide, fun i hi => by omega⟩
  · refine ⟨by rw [List.length_take]; omega, hl, hm, fun i hi => ?_⟩
    obtain ⟨bb, off, spot⟩ := x
    have ci := hc i (by omega)
    have c0 := hc 0 (by omega)
    obtain rfl : spot = none := by simpa [Addr.add] using World.cell?_spot c0
    rw [add_row] at ci
    refine ⟨bb, off, rfl, ?_, World.block_lt_of_cell? w _ ci⟩
    rw [ci, List.getD_eq_getElem?_getD, List.getD_eq_getElem?_getD, List.getElem?_take_of_lt hi]
section
variable {m : Nat} [M : Mid m]
theorem row_pv {w : World} {a : Option Addr} {len cap : Nat} {zs : List Int} (h : IsRow .i64 w a len cap zs) (K : Nat) (hK : len ≤ K) : ∃ p : Ser (El m), PV m w K a len cap p := ⟨_, _, row_rowz h, rfl, hK⟩
theorem sr_one (x : Int) : sr m [x] = mono 0 (elm m x) := by
  funext i
  show elm m (([x] : List Int).getD i 0) = if i = 0 then elm m x else 0
  cases i with
  | zero => rfl
  | succ i => rw [if_neg (by omega)]; exact elm_zero
theorem mono_psm (x : El m) (p : Ser (El m)) : cv (mono 0 x) p = psm x p := by
  funext i
  rw [cv_mono, if_neg (by omega)]; rfl
theorem psm_lit (x : Int) (p : Ser (El m)) : psm (elm m x) p = cv p (sr m [x]) := by rw [sr_one, cv_comm, mono_psm]
theorem rest_lt {w : World} {K : Nat} {q L A p : Ser (El m)} (h : Dv2 p q A L (Pl.top q K - 1)) (hq : Bd q K) (h0 : q ≠ pz) (hL : Bd L K) : Pl.top L K < Pl.top q K := by
  have h1 := top_nz hq h0
  have h2 := top_same h.low hL
  have := top_le L (Pl.top q K - 1)
  omega
theorem nv_zero {w : World} {K : Nat} {a : Option Addr} {n c : Nat} {p : Ser (El m)} (h : NV m w K a n c p) (e : p = pz) : n = 0 := by
  subst e
  rw [← h.top, top_pz]
theorem nv_pos {w : World} {K : Nat} {a : Option Addr} {n c : Nat} {p : Ser (El m)} (h : NV m w K a n c p) (e : p ≠ pz) : ∃ k, n = k + 1 ∧ Dg p k := by
  have h1 := top_nz h.bd e
  have h2 := top_deg h.bd e
  rw [h.top] at h1 h2
  exact ⟨n - 1, by omega, h2⟩
theorem rootsV_le {K : Nat} {p : Ser (El m)} (hp : Bd p K) : (rootsV K p).length ≤ Pl.top p K - 1 := by
  unfold rootsV
  split
  · exact Nat.zero_le _
  · rename_i h0
    have hd := (top_ne h0).resolve_right fun x => x hp
    have := rts_len hd (2 ^ m) (Nat.le_refl _)
    rw [show Pl.top p K - 1 + 1 = Pl.top p K by omega] at this
    simpa [intsN] using this
/-- the value of a product. -/
theorem ev_mul {p q : Ser (El m)} {k k' K : Nat} (hp : Bd p k) (hq : Bd q k') (h : k + k' ≤ K) (x : El m) : ev K (cv p q) x = ev k p x * ev k' q x := ev_cv x k k' K p q hp hq h
theorem cv_cancel {a b c : Ser (El m)} {n k d : Nat} (ha : Bd a n) (hb : Bd b k) (hc : Dg c d) (h : cv a c = cv b c) : a = b := by
  have h1 : cv (padd a b) c = pz := by rw [cv_add, h, padd_self]
  have hB : Bd (padd a b) (max n k) := (ha.mono (by omega)).add (hb.mono (by omega))
  rcases dg_or hB with h0 | ⟨e, _, he⟩
  · exact padd_cancel h0
  · exact absurd h1 (he.mul hc).ne
/-- the greatest divisor of two products with one factor. -/
theorem gcd_times {p q c G H : Ser (El m)} {kp kq d : Nat} (bp : Bd p kp) (bq : Bd q kq) (hp : p ≠ pz) (hc : Dg c d) (hG : IsG p q G) (hH : IsG (cv p c) (cv q c) H) : H = cv G (psm (c d)⁻¹ c) := by
  have hG0 : G ≠ pz := fun e => hp (hG.zero.1 e).1
  obtain ⟨g, dG, g1⟩ := hG.2.resolve_left hG0
  have hH0 : H ≠ pz := fun e => by
    have h0 := (hH.zero.1 e).1
    rcases dg_or bp with h1 | ⟨e, _, he⟩
    · exact hp h1
    · exact (he.mul hc).ne h0
  obtain ⟨e, dH, h1⟩ := hH.2.resolve_left hH0
  obtain ⟨K, n, bK, eK⟩ : PD c H := hH.1.2.2 c ⟨p, kp, bp, rfl⟩ ⟨q, kq, bq, rfl⟩
  have kd : ∀ {r : Ser (El m)} {k : Nat}, Bd r k → PD H (cv r c) → PD K r := by
    rintro r k br ⟨x, j, bx, ex⟩
    rw [eK, ← cv_assoc] at ex
    exact ⟨x, j, bx, cv_cancel br (bd_cv bx bK) hc ex⟩
  obtain ⟨x, j, bx, ex⟩ := hG.1.2.2 K (kd bp hH.1.1) (kd bq hH.1.2.1)
  have a1 : PD H (cv G c) := ⟨x, j, bx, by rw [ex, eK, cv_assoc]⟩
  have a2 : PD (cv G c) H := by
    refine hH.1.2.2 _ ?_ ?_
    · obtain ⟨y, i, hy, ey⟩ := hG.1.1
      exact ⟨y, i, hy, by rw [ey, cv_assoc]⟩
    · obtain ⟨y, i, hy, ey⟩ := hG.1.2.1
      exact ⟨y, i, hy, by rw [ey, cv_assoc]⟩
  have cd : c d ≠ 0 := hc.1
  have es : cv G (psm (c d)⁻¹ c) = psm (c d)⁻¹ (cv G c) := by rw [cv_comm, cv_psm, cv_comm c]
  have hS : Dg (psm (c d)⁻¹ c) d := ⟨by show (c d)⁻¹ * c d ≠ 0; exact mul_ne (inv_ne cd) cd, hc.2.sm _⟩
  have hT := dG.mul hS
  have hT1 : cv G (psm (c d)⁻¹ c) (g + d) = 1 := by
    rw [(cv_top G _ g d dG.2 hS.2).1, g1, one_mul]
    show (c d)⁻¹ * c d = 1
    rw [Fl.mul_comm, Fl.mul_inv _ cd]
  refine PD.antisymm dH hT ?_ ?_ h1 hT1
  · rw [es]; exact a1.sm _
  · rw [es]; exact a2.unit (inv_ne cd)
/-- that of one and nothing. -/
theorem gcd_nil {p G : Ser (El m)} {d : Nat} (hp : Dg p d) (hG : IsG p pz G) : G = psm (p d)⁻¹ p := by
  refine hG.unique ⟨(PG.right_zero p).unit (inv_ne hp.1), Or.inr ⟨d, ⟨?_, hp.2.sm _⟩, ?_⟩⟩
  · show (p d)⁻¹ * p d ≠ 0
    exact mul_ne (inv_ne hp.1) hp.1
  · show (p d)⁻¹ * p d = 1
    rw [Fl.mul_comm, Fl.mul_inv _ hp.1]
end
end Go.Proofs.YtjpaihnnljpaeaaDoor.Pl
/- Structs of integers that came in by value. By the verifier of shale. -/
namespace Go.Proofs.YtjpaihnnljpaeaaDoor
open Go Go.RowKit Go.ChangeShapes Go.WideShapes Go.Deep
/-- a struct of integers alone, handed in by value: its cells are integers that fit. -/
theorem open_ints_struct {H : Type} {enc : TypeId × Value → H} {P : Program} {w : World} {base b0 : Nat} {spare : Nat → Bool} {held : Bool} {r : Reach} {k : IntKind} {t : TypeId} {fs : Array Field} {v : Value} {d : DataW H} {p : List MemPlace}
    (hs : P.underlying t = some (.struct fs)) (hone : oneCellFields P fs = true) (hC : P.cellsOf t = fs.size) (hi : ∀ (j : Nat) (f : Field), fs[j]? = some f → P.underlying f.type = some (.int k))
    (hv : Value.okWide P w r b0 t v) (h : DataW.Trod enc P w base spare held t v d p) :
    ∃ n : Nat → Int, v = .agg ((List.range fs.size).map fun i => .int k (n i)).toArray ∧ ∀ i, i < fs.size → (Lit.int k (n i)).wf = true := by
  obtain ⟨cs, rfl, hsz⟩ := okWide_struct hs hv
  obtain ⟨fuel, hf⟩ := h
  obtain ⟨xs, n, _, _, hl, _, hg⟩ := DataW.trod_struct hs hf
  have each : ∀ j, j < fs.size → ∃ m, cs[j]? = some (.int k m) ∧ (Lit.int k m).wf = true := by
    intro j hj
    have hf0 : fs[j]? = some (fs[j]'hj) := Array.getElem?_eq_getElem hj
    obtain ⟨o, c⟩ := hone_of hone j _ hf0
    have g := hg j _ hf0
    rw [o, c] at g
    have hx : j < xs.length := by omega
    rw [List.getElem?_eq_getElem hx] at g
    obtain ⟨m, e, _, hw⟩ := DataW.trod_int (hi j _ hf0) g
    refine ⟨m, ?_, hw⟩
    have hj2 : j < cs.toList.length := by rw [Array.length_toList]; omega
    have e2 : (cs.toList.drop j).take 1 = [.int k m] := by simpa [Value.cells] using e
    rw [List.drop_eq_getElem_cons hj2] at e2
    simp only [List.take_succ_cons, List.take_zero, List.cons.injEq, and_true] at e2
    rw [Array.getElem?_eq_getElem (by simpa using hj2)]
    congr 1
  refine ⟨fun j => match cs[j]? with | some (.int _ m) => m | _ => 0, ?_, fun i hi => ?_⟩
  · congr 1
    apply Array.ext_getElem?
    intro j
    by_cases hj : j < fs.size
    · obtain ⟨m, e, _⟩ := each j hj
      rw [e]
      simp [hj, e]
    · have h1 : cs.size ≤ j := by omega
      rw [Array.getElem?_eq_none h1, Array.getElem?_eq_none (by simp; omega)]
  · obtain ⟨m, e, hw⟩ := each i hi
    simp only [e]
    exact hw
end Go.Proofs.YtjpaihnnljpaeaaDoor
/- shaleref.Ints: a copy of ints. By the verifier of shale. -/
namespace Go.Proofs.YtjpaihnnljpaeaaDoor.Pl
open Go Go.RowKit Fld Bits16
set_option linter.unusedVariables false
theorem take_snoc (l : List Int) (i : Nat) (hi : i < l.length) : l.take (i + 1) = l.take i ++ [l.getD i 0] := by
  rw [List.take_add_one, List.getD_eq_getElem?_getD, List.getElem?_eq_getElem hi]; rfl
set_option maxRecDepth 100000 in
set_option maxHeartbeats 1000000 in
theorem ints_any (a : Option Addr) (n cap : Nat) (l : List Int) (w : World) (h : RowZ w a n cap l) (hn : n ≤ 100000) :
    Calls Tryd.prog 21 #[.slice a n cap] w
      fun e w' => ∃ a' c', e = .returned (.slice a' n c') ∧ Own64 w' w.heap.size (.slice a' n c') n l ∧ Below w.heap.size w w' := by
  obtain ⟨i0, hi, hz0, hz1, hz2⟩ := info64
  have HP := Lib.hid h
  have HL := Lib.hid h.hlen
  clear h
  go_enter Tryd.func21, Tryd.ntmps21
  have hmk := madeCap w 0 n (by omega) (by omega)
  rw [show ((0 : Nat) : Int) = 0 from rfl] at hmk
  go_wp2_with fail
  clear hmk
  have HO0 : Own64 (w.alloc (obj64 (List.replicate n 0))) w.heap.size (.slice (some ⟨w.heap.size, 0, none⟩) 0 n) 0 [] :=
    ⟨rfl, Or.inr ⟨w.heap.size, n, (cells64 (List.replicate n 0)).toArray, rfl, Nat.le_refl _, heap_alloc_new w _, Nat.zero_le _, by unfold maxLen; omega, by simp [cells64_length], rfl⟩⟩
  have HB0 : Below w.heap.size w (w.alloc (obj64 (List.replicate n 0))) := (Below.refl _ _).alloc (Nat.le_refl _) _
  generalize w.alloc (obj64 (List.replicate n 0)) = w1 at HO0 HB0 ⊢
  go_loopg [3, 4] n (fun gh s3 s4 wx => ∃ (i : Nat), gh = n - i ∧ i ≤ n ∧ s4 = .int .i64 (i : Int) ∧ Own64 wx w.heap.size s3 i (l.take i) ∧ Below w.heap.size w wx)
  case atStart => exact ⟨0, rfl, Nat.zero_le _, rfl, HO0, HB0⟩
  case round =>
    clear HO0 HB0
    obtain ⟨i, hg, hin, rfl, ho5, hB5⟩ := hrel
    have HG := Lib.hid hg
    clear hg
    obtain ⟨av, cv, rfl⟩ := own_slice ho5
    have hbs := hB5.size
    by_cases hlt : i < n
    · have x1 : (i : Int) < (n : Int) := by omega
      have x0 : (0 : Int) ≤ (i : Int) := by omega
      obtain ⟨bb, off, rfl, c1, _⟩ := (HP.out.below hB5).row i hlt
      have HF : Hid (l.take (i + 1) = l.take i ++ [l.getD i 0]) := take_snoc l i (by rw [← HL.out]; exact hlt)
      generalize l.getD i 0 = z at c1 HF
      go_wp2_with (at_builtin; refine wpList_append_own _ rfl _ _ 22 rfl w.heap.size 3 i0 (.int .i64 0) 1 8 Tryd.underlying22 hi hz0 hz1 hz2 rfl (by decide) _ i _ rfl (World.ownsRow.alloc ho5 _) ⟨wr.heap.size, 0, none⟩ 1 1 [.int .i64 z] rfl rfl (cell_one_new _ _ _) (ints_oneCell .i64 [_]) (by unfold maxLen; omega) (by omega) (by simp; omega) ?_; intro v7 w7 hown7 hgrow _)
      have ho7 : Own64 w7 w.heap.size v7 (i + 1) (l.take (i + 1)) := by
        unfold Own64
        rw [HF.out, ← cells64_append]
        exact hown7
      have b7 : Below w.heap.size w w7 := (hB5.alloc hbs _).grown hgrow (by simp; omega) (fun g hg => (ho5.block g hg).1)
      clear hown7 hgrow ho5 hB5
      go_wp2_with fail
      go_roundg (n - (i + 1))
      case measure => have := HG.out; omega
      case rel => exact ⟨i + 1, rfl, by omega, by go_num, ho7, b7⟩
    · obtain rfl : i = n := by omega
      rw [List.take_of_length_le (by rw [← HL.out]; exact Nat.le_refl _)] at ho5
      have HO := Lib.hid ho5
      clear ho5
      go_wp2_with fail
      go_ret
      exact ⟨av, cv, rfl, HO.out, hB5⟩
end Go.Proofs.YtjpaihnnljpaeaaDoor.Pl
/- Small words for the laws of chapter 8. By the verifier of shale. -/
namespace Go.Proofs.YtjpaihnnljpaeaaDoor.Loc
open Go Go.RowKit Pl Fld Bits16
set_option linter.unusedVariables false
theorem own_free {w : World} {base n k g c : Nat} {l : List Int} (h : Own64 w base (.slice (some ⟨g, 0, none⟩) n c) k l) (i : Nat) : w.frozen? ⟨g, i, none⟩ = false := by
  rcases h.2 with ⟨h0, _⟩ | ⟨g', cap', cur, hv, hbg, hh, _⟩
  · cases h0
  · simp only [Value.slice.injEq, Option.some.injEq, Addr.mk.injEq] at hv
    obtain ⟨⟨rfl, _⟩, _⟩ := hv
    unfold World.frozen?
    simp only
    rw [hh]; rfl
theorem rowz_put {w : World} {g off n cap : Nat} {l : List Int} (h : RowZ w (some ⟨g, off, none⟩) n cap l) (i : Nat) (hi : i < n) (z : Int) : RowZ (w.setCell ⟨g, off + i, none⟩ (.int .i64 z)) (some ⟨g, off, none⟩) n cap (l.set i z) := by
  refine ⟨by rw [List.length_set]; exact h.hlen, h.hcap, h.hmost, fun j hj => ?_⟩
  obtain ⟨b1, o1, e1, h1, hb⟩ := h.row j hj
  simp only [Option.some.injEq, Addr.mk.injEq] at e1
  obtain ⟨rfl, rfl, _⟩ := e1
  refine ⟨_, _, rfl, ?_, by rw [(Only.setCell w ⟨g, off + i, none⟩ _).size]; exact hb⟩
  have hl := h.hlen
  by_cases e : i = j
  · subst e
    rw [World.cell?_setCell_same _ _ _ h1, List.getD_eq_getElem?_getD, List.getElem?_set_self (by omega)]; rfl
  · rw [World.cell?_setCell_other _ _ _ _ (by intro h; simp only [Addr.mk.injEq] at h; omega), h1, List.getD_eq_getElem?_getD, List.getD_eq_getElem?_getD, List.getElem?_set_ne e]
section
variable {m : Nat} [M : Mid m]
/-- what makes is none that is shorter. -/
theorem makes_less {S p : Ser (El m)} {n L : Nat} {t : St (El m)} (h : Inv S n t) (hL : L < t.L) (hb : Bd p (L + 1)) (h0 : p 0 ≠ 0) : makesB p S L n = false := by
  unfold makesB
  refine @decide_eq_false _ (Classical.propDecidable _) fun hm => ?_
  have := h.min p L hb h0 fun i h1 h2 => by
    have := hm i h1 h2
    rwa [part_cv _ _ _ hb (Nat.le_refl _)] at this
  omega
theorem rem_in (z : Int) (L : Nat) (h : 0 < L) : ∃ k : Nat, k < L ∧ z.tmod L % L = (k : Int) := by
  have h1 := Int.emod_nonneg (z.tmod L) (b := (L : Int)) (by omega)
  have h2 := Int.emod_lt_of_pos (z.tmod L) (b := (L : Int)) (by omega)
  exact ⟨(z.tmod L % L).toNat, by omega, by omega⟩
theorem rem_lo (z : Int) (L : Nat) (h : 0 < L) : -(L : Int) < z.tmod L ∧ z.tmod L < (L : Int) := by
  have a1 := Int.tmod_lt_of_pos z (b := (L : Int)) (by omega)
  have := Int.tmod_lt_of_pos (-z) (b := (L : Int)) (by omega)
  rw [Int.neg_tmod] at this
  omega
end
end Go.Proofs.YtjpaihnnljpaeaaDoor.Loc
