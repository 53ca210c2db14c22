/- Texts of the verifier of shale, laid into one: QuietTail, PolyFrom, FldRef, FldRef2, RefTrim, RefZ, PolyV, RefTimes, RefPAdd, RefPMul, RefPDiv, RefPDer, RefPRoots, RefPGcd, PolyFirst, LocOf, SeaMath, RangeOwn, RangeSep, FldOrd, FldTrace, SeaSteps, SeaRoots, SeaPlain, SeaRootsP, SeaOf, SeaOps, SeaFirst, SeaLaw, PolyEx, PolyLaw, Args, BoolMem. -/
import Derived.Test.YtbgegnoenceflaaDoorGreat1
import Derived.StillTailTactics
import Derived.BigQuiet
import Derived.Lib.QuietBelow
import Derived.RangeFuncNested
import Derived.RangeFuncBound
import Derived.RangeFuncCalls
import Derived.RangeFuncLeaves
import Derived.Below
import Derived.Shelf.Abstract
import Derived.Shelf.RegionOpen
import Derived.WalkKit
import Derived.OwnWalkIn
import Derived.TacticsInMore
import Derived.LoopNIn
import Derived.LoopIn
import Derived.Deep.RegionHeld3
import Derived.Deep.LoopGhost
import Derived.Deep.Cut
import Derived.Maps.OwnIn
import Derived.Stop.RegionWithIn
import Derived.Deep.Fields
import Derived.ChangeArms
import Derived.WideShapes
import Derived.ProofKit
import Derived.ChangeOld
import Derived.Deep.AppendLies
/- A region that draws its order, whose operations read or call quietly up to a tail in one forced order (a store): one walk of the text's order. By the verifier of shale. -/
namespace Go.Proofs.YtbgegnoenceflaaDoor
open Go
set_option linter.unusedVariables false
section
variable {P : Program} {ops : Array Oper} {md : Region.Mode} {C : World → Prop}
/-- f operations of the first n come up in whatever order, each quiet in the class; then L holds. -/
def HeadQ (P : Program) (md : Region.Mode) (ops : Array Oper) (C : World → Prop) (n : Nat) (L : Array Bool → Act → Prop) : Nat → Array Bool → Act → Prop
  | 0, s, a => L s a
  | f + 1, s, a => Region.ready md ops s ≠ [] ∧ ∀ i ∈ Region.ready md ops s, i < n ∧ qOp P ops C i (HeadQ P md ops C n L f (s.setIfInBounds i true)) a
theorem HeadQ.any {n g : Nat} {L : Array Bool → Act → Prop} {Q' : Exit → Act → World → Prop} (hL : ∀ s a w, C w → L s a → wpAny P md ops Q' g s a w) :
    ∀ (f : Nat) (s : Array Bool) (a : Act) (w : World), C w → HeadQ P md ops C n L f s a → wpAny P md ops Q' (f + g) s a w
  | 0, s, a, w, hw, h => by rw [Nat.zero_add]; exact hL s a w hw h
  | f + 1, s, a, w, hw, h => by
    rw [show f + 1 + g = (f + g) + 1 by omega]
    exact ⟨fun e => absurd e h.1, fun i hi => wpOp_of_qOp hw (fun a' w' hw' h' => HeadQ.any hL f _ a' w' hw' h') (h.2 i hi).2⟩
/-- what is ready and apart from the rest may be taken ahead of all. -/
theorem HeadQ.early {n i : Nat} {o : Oper} {v : Value} {L : Array Bool → Act → Prop} (hi : ops[i]? = some o) (hsel : ∀ (j : Nat) (o : Oper) cs b, ops[j]? = some o → o.op ≠ .select cs b)
    (hs : Region.sinkB md ops n = true) (hc : Region.chainB md ops n = true) (hn : n < ops.size) (hin : i < n) (hL : ∀ s a, L s a → ∀ j ∈ Region.ready md ops s, n ≤ j) (f : Nat) :
    ∀ (s : Array Bool) (a : Act), HeadInv md ops n s →
      (∀ j oj, ops[j]? = some oj → j ≠ i → s.getD j true = false → (∀ e ∈ oj.after, Region.binds md e = true → e.on ≠ i) → o.apart ops oj = true) →
      i ∈ Region.ready md ops s → YieldsIn P ops C o v a → HeadQ P md ops C n L f (s.setIfInBounds i true) (a.put o.dst v) → HeadQ P md ops C n L (f + 1) s a := by
  induction f with
  | zero =>
    intro s a inv hap hr hy h
    have hfr := (mem_ready.1 hr).1
    refine ⟨fun e => by simp [e] at hr, fun j hj => ?_⟩
    have hlt : j < n := Classical.byContradiction fun hge => absurd hj (tail_waits hs hc hn inv _ i rfl hin hfr j (by omega))
    by_cases e : j = i
    · exact ⟨hlt, by rw [e]; exact hy.qOp hi h⟩
    · have := hL _ _ h j (ready_mono hj e); omega
  | succ f ih =>
    intro s a inv hap hr hy h
    have hfr := (mem_ready.1 hr).1
    refine ⟨fun e => by simp [e] at hr, fun j hj => ?_⟩
    have hlt : j < n := Classical.byContradiction fun hge => absurd hj (tail_waits hs hc hn inv _ i rfl hin hfr j (by omega))
    refine ⟨hlt, ?_⟩
    by_cases e : j = i
    · rw [e]; exact hy.qOp hi h
    · obtain ⟨hjf, oj, hoj, haft⟩ := mem_ready.1 hj
      have hno : ∀ e ∈ oj.after, Region.binds md e = true → e.on ≠ i := by
        intro x hx hb he
        have h1 := haft x hx hb
        rw [he, getD_both hfr] at h1
        exact Bool.false_ne_true h1
      refine qOp_mono ?_ (qOp_put hoj (hap j oj hoj e hjf hno) (fun cs b => hsel i o cs b hi) (fun cs b => hsel j oj cs b hoj) hy (h.2 j (ready_mono hj e)).2)
      intro a' h3
      refine ih _ a' (inv.set hj hlt) ?_ (ready_mono hr (Ne.symm e)) h3.1 ?_
      · intro k ok hk hki hkf hkn
        refine hap k ok hk hki ?_ hkn
        by_cases ejk : j = k
        · rw [← ejk]; exact hjf
        · rwa [getD_set_ne true ejk] at hkf
      · rw [Array.setIfInBounds_comm _ _ e]; exact h3.2
/-- the text's order serves for the head. -/
theorem HeadQ.lex {n g : Nat} {T : Act → Prop} (hsel : Region.noSelect ops = true) (hs : Region.sinkB md ops n = true) (hc : Region.chainB md ops n = true) (hn : n < ops.size) :
    ∀ (l : List Oper) (k : Nat) (s : Array Bool) (a : Act), (∀ j, j < l.length → l[j]? = ops[k + j]?) → k + l.length = n → HeadInv md ops n s →
      Region.lexHead md ops g l.length k s = true → wpQuiet P ops C T l a → HeadQ P md ops C n (fun s' a' => Region.seqB md ops g n s' = true ∧ T a') l.length s a
  | [], k, s, a, _, hk, _, hB, h => by
    obtain rfl : k = n := by simpa using hk
    exact ⟨by simpa [Region.lexHead] using hB, h⟩
  | o :: l, k, s, a, hl, hk, inv, hB, h => by
    have h0 : ops[k]? = some o := by simpa using (hl 0 (by simp)).symm
    simp only [List.length_cons, Region.lexHead, Bool.and_eq_true] at hB
    have hk' : k + 1 + l.length = n := by simp only [List.length_cons] at hk; omega
    have hr : k ∈ Region.ready md ops s := by simpa using hB.1.1
    have hq : qOp P ops C k (wpQuiet P ops C T l) a := by unfold qOp; simp only [h0]; exact h
    obtain ⟨v, hy, hK⟩ := yieldsIn_of_qOp h0 hq
    refine HeadQ.early h0 (Region.noSelect_spec hsel) hs hc hn (by omega) (fun s' a' e => seqB_ready e.1) l.length s a inv (Region.free_spec h0 hB.1.2) hr hy ?_
    exact HeadQ.lex hsel hs hc hn l (k + 1) _ _ (fun j hj => by have := hl (j + 1) (by simp; omega); simpa [Nat.add_assoc, Nat.add_comm 1 j] using this) hk' (inv.set hr (by omega)) hB.2 hK
theorem wp_region_quiet_tail {id : Nat} {Q : Exit → Act → World → Prop} {a : Act} {w : World} {l : List Oper} (n : Nat) (hm : P.follows .mixedOrders = true) (hB : Region.lexTailB .any l.toArray n = true)
    (hC : C w.drew) (h : wpQuiet P l.toArray C (fun a' => ∀ w', C w' → wpList P l.toArray Q (l.drop n) a' w') (l.take n) a) : (Code.region id l.toArray true).wp P Q a w := by
  simp only [Region.lexTailB, Bool.and_eq_true, decide_eq_true_eq] at hB
  obtain ⟨⟨⟨⟨hsel, hn⟩, hs⟩, hc⟩, hlex⟩ := hB
  have hnl : n < l.length := by simpa using hn
  have htl : (l.take n).length = n := by simp; omega
  have inv0 : HeadInv .any l.toArray n (Array.replicate l.toArray.size false) :=
    ⟨by simp, fun j oj _ e => (by rw [getD_replicate_false] at e; cases e), fun t _ ht => getD_in (by simpa using ht) (getD_replicate_false _ _)⟩
  have H := HeadQ.lex (md := .any) (g := l.toArray.size - n) hsel hs hc hn (l.take n) 0 _ a (fun j hj => by
    have hj' : j < n := by rw [htl] at hj; exact hj
    simp [hj']) (by simpa using htl) inv0 (by rw [htl]; exact hlex) h
  refine wp_region_any hm ?_
  have hdl : (l.drop n).length = l.toArray.size - n := by simp
  have H2 := HeadQ.any (Q' := Q) (g := l.toArray.size - n) (fun s a' w' hw' hL => by
    have := wpAny_of_seq (md := .any) (Q' := Q) (l.drop n) n s a' w' (fun j => by simp [List.getElem?_drop]) (by rw [hdl]; exact hL.1) (hL.2 w' hw')
    rwa [hdl] at this) _ _ _ w.drew hC H
  rw [htl, show n + (l.toArray.size - n) = l.toArray.size by omega] at H2
  exact H2
end
end Go.Proofs.YtbgegnoenceflaaDoor
/- The walk over package fieldpoly's FromRoots. By the verifier of shale. -/
namespace Go.Proofs.YtbgegnoenceflaaDoor.Pl
open Go Go.RowKit Fld Bits16
set_option linter.unusedVariables false
section
variable {m : Nat} [M : Mid m]
set_option maxRecDepth 100000 in
theorem madeCap (w : World) (k n : Nat) (hk : k ≤ n) (hn : n ≤ 1000000) :
    (Instr.makeSlice 22 (.int .i64 (k : Int)) (.int .i64 (n : Int))).run Tryd.prog w = .ok (.slice (some ⟨w.heap.size, 0, none⟩) k n) (w.alloc (obj64 (List.replicate n 0))) := by
  obtain ⟨i0, hi, hz0, hz1, hz2⟩ := info64
  rw [run_make (P := Tryd.prog) w 22 3 i0 (.int .i64 0) Tryd.underlying22 hi hz0 .i64 .i64 (k : Int) (n : Int) (by omega) (by omega) (by rw [hz2]; omega) (by omega)]
  congr 2
  unfold obj64 madeCells
  rw [hz1]
  congr 1
  apply Array.ext
  · simp [cells64]
  · intro i h1 h2
    simp [Value.cells, Nat.mod_one, cells64]
/-- the product of x + a over the first k of l. -/
def pls (l : List Int) : Nat → Ser (El m)
  | 0 => pone
  | k + 1 => cv (pls l k) (lin (elm m (l.getD k 0)))
theorem lin_split (a : El m) : lin a = padd (mono 0 a) (mono 1 1) := by
  funext i
  show (if i = 0 then a else if i = 1 then 1 else 0) = (if i = 0 then a else 0) + (if i = 1 then 1 else 0)
  by_cases h0 : i = 0
  · subst h0; rw [if_pos rfl, if_pos rfl, if_neg (by omega), Fl.add_zero]
  · rw [if_neg h0, if_neg h0, zero_add]
theorem lin_succ (P : Ser (El m)) (a : El m) (i : Nat) : cv P (lin a) (i + 1) = P i + P (i + 1) * a := by
  rw [cv_comm, lin_split, cv_add]
  show cv (mono 0 a) P (i + 1) + cv (mono 1 1) P (i + 1) = _
  rw [cv_mono, cv_mono, if_neg (by omega), if_neg (by omega), Nat.sub_zero, Nat.add_sub_cancel, one_mul, Fl.add_comm, Fl.mul_comm a]
theorem lin_first (P : Ser (El m)) (a : El m) : cv P (lin a) 0 = P 0 * a := by
  rw [cv_comm, lin_split, cv_add]
  show cv (mono 0 a) P 0 + cv (mono 1 1) P 0 = _
  rw [cv_mono, cv_mono, if_neg (by omega), if_pos (by omega), Nat.sub_zero, Fl.add_zero, Fl.mul_comm a]
theorem pls_dg (l : List Int) : ∀ k, Dg (pls (m := m) l k) k
  | 0 => ⟨by show (if (0 : Nat) = 0 then (1 : El m) else 0) ≠ 0; rw [if_pos rfl]; exact Fl.one_ne, fun i hi => if_neg (by omega)⟩
  | k + 1 => (pls_dg l k).mul (lin_dg _)
/-- the new one above i, the old one from i down. -/
def mixS (P Q : Ser (El m)) (i : Nat) : Ser (El m) := fun j => if i < j then Q j else P j
omit M in
theorem mixS_step (P Q : Ser (El m)) (i : Nat) : ∀ j, j ≠ i + 1 → mixS P Q i j = mixS P Q (i + 1) j := by
  intro j hj
  unfold mixS
  by_cases h : i < j
  · rw [if_pos h, if_pos (by omega)]
  · rw [if_neg h, if_neg (by omega)]
omit M in
theorem mixS_new (P Q : Ser (El m)) (i : Nat) : mixS P Q i (i + 1) = Q (i + 1) := if_pos (by omega)
omit M in
theorem mixS_old (P Q : Ser (El m)) (i j : Nat) (h : j ≤ i) : mixS P Q i j = P j := if_neg (by omega)
theorem mixS_bd {P Q : Ser (El m)} {n : Nat} (hP : Bd P (n + 1)) (hQ : Bd Q (n + 1)) : mixS P Q n = P := funext fun j => by
  unfold mixS
  by_cases h : n < j
  · rw [if_pos h, hQ j (by omega), hP j (by omega)]
  · rw [if_neg h]
end
end Go.Proofs.YtbgegnoenceflaaDoor.Pl
/- The statements' own fields (shaleref2): what each function answers. By the verifier of shale. -/
namespace Go.Proofs.YtbgegnoenceflaaDoor.Fld
open Go Go.RowKit Bits16
set_option linter.unusedVariables false
set_option maxHeartbeats 400000 in
theorem low_any (m : Nat) (h1 : 3 ≤ m) (h2 : m ≤ 14) (a : Int) : Gives 28 #[.int .i64 (m : Int), .int .i64 a] (.int .i64 (h (el m a))) := by
  intro w
  have ho := shl_one m h2
  have ha := and_els m h2 a
  have e1 := els_lo m h1
  have e2 := els_hi m h2
  go_enter Tryd.func28, Tryd.ntmps28
  go_wp2
  go_ret
  exact ⟨rfl, rfl⟩
set_option maxRecDepth 100000 in
set_option maxHeartbeats 1000000 in
theorem rpoly_in (m : Nat) (h1 : 3 ≤ m) (h2 : m ≤ 14) (w : World) :
    Calls Tryd.prog 36 #[.int .i64 (m : Int)] w fun e w' => e = .returned (.int .i64 (h (poly m))) ∧ Below w.heap.size w w' := by
  have hc := poly_nth m h1 h2
  have a1 : (3 : Int) ≤ (m : Int) := by omega
  have a2 : (m : Int) ≤ 14 := by omega
  go_enter Tryd.func36, Tryd.ntmps36
  go_wp2
  go_ret
  exact ⟨rfl, (Below.refl _ _).alloc (Nat.le_refl _) _⟩
set_option maxHeartbeats 400000 in
theorem rpoly_out (m : Int) (hm : m < 3 ∨ 14 < m) : Gives 36 #[.int .i64 m] (.int .i64 0) := by
  intro w
  rcases hm with hm | hm
  · go_enter Tryd.func36, Tryd.ntmps36
    go_wp2
    go_ret
    exact ⟨rfl, rfl⟩
  · have hm' : ¬ m < 3 := by omega
    have hm2 : 3 ≤ m := by omega
    go_enter Tryd.func36, Tryd.ntmps36
    go_wp2
    go_ret
    exact ⟨rfl, rfl⟩
/-- the loop of the product, its state behind k rounds: a doubled k times, the rest of b, the sum so far. -/
theorem mulN_more (m : Nat) (h1 : 3 ≤ m) (h2 : m ≤ 14) : ∀ (n : Nat) (a b : BitVec 16), b.toNat < 2 ^ n → mulN m (n + 1) a b = mulN m n a b
  | 0, a, b, hb => by
    have : b = 0 := BitVec.eq_of_toNat_eq (by show _ = 0; omega)
    subst this
    rw [mulN_zero, mulN_zero]
  | n + 1, a, b, hb => by
    have e1 : (b >>> 1).toNat = b.toNat / 2 := by rw [BitVec.toNat_ushiftRight, Nat.shiftRight_eq_div_pow]
    have e2 : 2 ^ (n + 1) = 2 * 2 ^ n := by rw [Nat.pow_succ, Nat.mul_comm]
    rw [mulN, mulN_more m h1 h2 n _ _ (by omega)]; rfl
theorem low_bit (b : BitVec 16) : (bits .and .i64 (h b) 1 == 1) = b.getLsbD 0 := by
  rw [show bits .and .i64 (h b) 1 = h (b &&& 1#16) by
    show IntKind.i64.wrap ((BitVec.ofInt 64 (h b) &&& BitVec.ofInt 64 1).toNat : Int) = _
    rw [BitVec.toNat_and, e64, show (BitVec.ofInt 64 1).toNat = (1#16 : BitVec 16).toNat by decide, ← BitVec.toNat_and]; exact w64 _]
  have e : (b &&& 1#16).toNat = b.toNat % 2 := by rw [BitVec.toNat_and]; exact Nat.and_one_is_mod _
  unfold h
  rw [e, BitVec.getLsbD, Nat.testBit_zero, Bool.eq_iff_iff, beq_iff_eq, decide_eq_true_iff]
  omega
theorem half (b : BitVec 16) : h b / 2 = h (b >>> 1) := by
  unfold h
  rw [BitVec.toNat_ushiftRight, Nat.shiftRight_eq_div_pow]; omega
/-- one round of the product's loop. -/
theorem mul_step (m : Nat) (h1 : 3 ≤ m) (h2 : m ≤ 14) (A B : BitVec 16) : mulN m 16 A B = (if B.getLsbD 0 then A else 0) ^^^ mulN m 16 (dbl m A) (B >>> 1) := by
  have e1 : (B >>> 1).toNat = B.toNat / 2 := by rw [BitVec.toNat_ushiftRight, Nat.shiftRight_eq_div_pow]
  rw [mulN_more m h1 h2 15 (dbl m A) (B >>> 1) (by have := B.isLt; omega)]; rfl
theorem top_bit (m : Nat) (h1 : 3 ≤ m) (h2 : m ≤ 14) (A : BitVec 16) (hA : A.toNat < 2 ^ m) :
    (((A <<< 1) >>> m).getLsbD 0 = true ∧ dbl m A = (A <<< 1) ^^^ poly m) ∨ (((A <<< 1) >>> m).getLsbD 0 = false ∧ dbl m A = A <<< 1) := by
  have hm := pow14 m h2
  have e1 : (A <<< 1).toNat = A.toNat * 2 := by
    rw [BitVec.toNat_shiftLeft, Nat.shiftLeft_eq, Nat.pow_one]; omega
  have e2 : ((A <<< 1) >>> m).toNat = A.toNat * 2 / 2 ^ m := by
    rw [BitVec.toNat_ushiftRight, e1, Nat.shiftRight_eq_div_pow]
  have h3 : A.toNat * 2 / 2 ^ m < 2 := Nat.div_lt_of_lt_mul (by omega)
  have hb : ((A <<< 1) >>> m).getLsbD 0 = decide (((A <<< 1) >>> m).toNat % 2 = 1) := by
    rw [BitVec.getLsbD, Nat.testBit_zero]
  by_cases h : (A <<< 1) >>> m = 0
  · refine Or.inr ⟨by rw [h]; rfl, if_pos h⟩
  · refine Or.inl ⟨?_, if_neg h⟩
    rw [hb, e2, decide_eq_true_iff]
    have : A.toNat * 2 / 2 ^ m ≠ 0 := fun h4 => h (BitVec.eq_of_toNat_eq (by rw [e2]; exact h4))
    generalize A.toNat * 2 / 2 ^ m = q at this h3
    omega
section
attribute [local go_sem] rxor
set_option maxRecDepth 100000 in
set_option maxHeartbeats 2000000 in
theorem rmul_any (m : Nat) (h1 : 3 ≤ m) (h2 : m ≤ 14) (a b : Int) (w : World) :
    Calls Tryd.prog 23 #[.int .i64 (m : Int), .int .i64 a, .int .i64 b] w fun e w' => e = .returned (.int .i64 (h (fmul m (el m a) (el m b)))) ∧ Below w.heap.size w w' := by
  have hla := el_lt m h2 a
  have hlb := el_lt m h2 b
  have hpl := low_any m h1 h2
  have hp14 := pow14 m h2
  have a1 : (3 : Int) ≤ (m : Int) := by omega
  have a2 : (m : Int) ≤ 14 := by omega
  go_enter Tryd.func23, Tryd.ntmps23
  go_wp2_with fail
  refine (hpl a w).mono ?_
  rintro e w1 ⟨rfl, rfl⟩
  go_wp2_with fail
  refine (hpl b w).mono ?_
  rintro e w1 ⟨rfl, rfl⟩
  go_wp2_with fail
  refine (rpoly_in m h1 h2 w).mono ?_
  rintro e w1 ⟨rfl, b1⟩
  clear hpl
  go_wp2_with fail
  go_loopg [1, 2, 8] (el m b).toNat (fun g s1 s2 s8 wx => ∃ A B X : BitVec 16, g = B.toNat ∧ A.toNat < 2 ^ m ∧ B.toNat < 2 ^ m ∧ s1 = .int .i64 (h A) ∧ s2 = .int .i64 (h B) ∧ s8 = .int .i64 (h X) ∧ X ^^^ mulN m 16 A B = fmul m (el m a) (el m b) ∧ w1 = wx)
  case atStart => exact ⟨el m a, el m b, 0, rfl, hla, hlb, rfl, rfl, rfl, BitVec.zero_xor, rfl⟩
  case round =>
    obtain ⟨A, B, X, hg, hA, hB, rfl, rfl, rfl, hinv, rfl⟩ := hrel
    have HG := Lib.hid hg
    have HI := Lib.hid hinv
    clear hg hinv hla hlb
    by_cases h0 : B = 0
    · have t : ¬ (0 < h B) := by subst h0; decide
      have HR : Hid (X = fmul m (el m a) (el m b)) := by
        show _ = _
        rw [← HI.out, h0, mulN_zero]; simp
      clear h0
      go_wp2_with fail
      go_ret
      exact ⟨ret_i64 (by rw [HR.out]), b1⟩
    · have hB0 := nat_pos B h0
      have t : 0 < h B := by unfold h; omega
      have s1 := fun yk => twice yk A (by omega)
      have s2 := half B
      have s3 := low_bit B
      have s4 := down (A <<< 1) m
      have s5 := low_bit ((A <<< 1) >>> m)
      have hh : (B >>> 1).toNat = B.toNat / 2 := by rw [BitVec.toNat_ushiftRight, Nat.shiftRight_eq_div_pow]
      have hd := dbl_lt m h1 h2 A hA
      have HS := Lib.hid (mul_step m h1 h2 A B)
      rw [← s4] at s5
      clear s4 h0
      rcases top_bit m h1 h2 A hA with ⟨q1, q2⟩ | ⟨q1, q2⟩
      all_goals
        rw [q1] at s5
        have HQ := Lib.hid q2
        clear q1 q2
        rcases hbit : B.getLsbD 0 with _ | _
        all_goals
          have HBt := Lib.hid hbit
          rw [hbit] at s3
          clear hbit
          go_wp2_with fail
          go_roundg (B >>> 1).toNat
          case measure => have := HG.out; omega
          case rel =>
            first
              | exact ⟨dbl m A, B >>> 1, X ^^^ A, rfl, hd, by omega, by rw [HQ.out], rfl, rfl, by rw [← HI.out, HS.out, HBt.out, if_pos rfl, BitVec.xor_assoc], rfl⟩
              | exact ⟨dbl m A, B >>> 1, X, rfl, hd, by omega, by rw [HQ.out], rfl, rfl, by rw [← HI.out, HS.out, HBt.out, if_neg (by decide), show ∀ y : BitVec 16, 0 ^^^ y = y from fun y => BitVec.zero_xor], rfl⟩
theorem rmul_at (m : Nat) (h1 : 3 ≤ m) (h2 : m ≤ 14) (x y : BitVec 16) (hx : x.toNat < 2 ^ m) (hy : y.toNat < 2 ^ m) (w : World) :
    Calls Tryd.prog 23 #[.int .i64 (m : Int), .int .i64 (h x), .int .i64 (h y)] w fun e w' => e = .returned (.int .i64 (h (fmul m x y))) ∧ Below w.heap.size w w' := by
  have := rmul_any m h1 h2 (h x) (h y) w
  rwa [el_of m h2 x hx, el_of m h2 y hy] at this
end
/-- the power's loop: what is left to do. -/
theorem pow_step (m : Nat) (h1 : 3 ≤ m) (h2 : m ≤ 14) (a x : BitVec 16) (ha : a.toNat < 2 ^ m) (hx : x.toNat < 2 ^ m) (n : Nat) :
    fmul m x (fpow m a n) = fmul m (if n % 2 = 1 then fmul m x a else x) (fpow m (fmul m a a) (n / 2)) := by
  rw [fpow_sq m h1 h2 a ha]
  by_cases hn : n % 2 = 1
  · rw [if_pos hn]
    obtain ⟨k, rfl⟩ : ∃ k, n = 2 * k + 1 := ⟨n / 2, by omega⟩
    rw [show (2 * k + 1) / 2 = k by omega, fpow, fmul_comm m h1 h2 (fpow m a (2 * k)) a (fpow_lt m h1 h2 a ha _) ha, fmul_assoc m h1 h2 x a _ hx ha (fpow_lt m h1 h2 a ha _)]
  · rw [if_neg hn, show 2 * (n / 2) = n by omega]
theorem odd_test (n : Nat) (hn : n < 1000000) : (bits .and .i64 (n : Int) 1 == 1) = decide (n % 2 = 1) := by
  have e : bits .and .i64 (n : Int) 1 = ((n % 2 : Nat) : Int) := by
    show IntKind.i64.wrap ((BitVec.ofInt 64 (n : Int) &&& BitVec.ofInt 64 1).toNat : Int) = _
    rw [BitVec.toNat_and, show (BitVec.ofInt 64 (n : Int)).toNat = n by rw [BitVec.toNat_ofInt]; omega, show (BitVec.ofInt 64 1).toNat = 1 by decide, Nat.and_one_is_mod]
    exact IntWalk.i64_in _ (by omega)
  rw [e, Bool.eq_iff_iff, beq_iff_eq, decide_eq_true_iff]
  omega
end Go.Proofs.YtbgegnoenceflaaDoor.Fld
/- The statements' own fields (shaleref2): powers, inverses, logarithms, orders, traces. By the verifier of shale. -/
namespace Go.Proofs.YtbgegnoenceflaaDoor.Fld
open Go Go.RowKit Bits16
set_option linter.unusedVariables false
set_option maxRecDepth 100000 in
set_option maxHeartbeats 2000000 in
theorem rpower_any (m : Nat) (h1 : 3 ≤ m) (h2 : m ≤ 14) (a : Int) (n : Nat) (hn : n ≤ 16384) (w : World) :
    Calls Tryd.prog 35 #[.int .i64 (m : Int), .int .i64 a, .int .i64 (n : Int)] w fun e w' => e = .returned (.int .i64 (h (fpow m (el m a) n))) ∧ Below w.heap.size w w' := by
  have hla := el_lt m h2 a
  have hpl := low_any m h1 h2
  go_enter Tryd.func35, Tryd.ntmps35
  go_wp2_with fail
  refine (hpl a w).mono ?_
  rintro e w1 ⟨rfl, rfl⟩
  clear hpl
  go_wp2_with fail
  go_loopg [1, 2, 7] n (fun g s1 s2 s7 wx => ∃ (A X : BitVec 16) (k : Nat), g = k ∧ k ≤ 16384 ∧ A.toNat < 2 ^ m ∧ X.toNat < 2 ^ m ∧ s1 = .int .i64 (h A) ∧ s2 = .int .i64 (k : Int) ∧ s7 = .int .i64 (h X) ∧ fmul m X (fpow m A k) = fpow m (el m a) n ∧ Below w.heap.size w wx)
  case atStart => exact ⟨el m a, 1, n, rfl, hn, hla, one_lt m h1, rfl, rfl, rfl, one_fmul m h1 h2 _ (fpow_lt m h1 h2 _ hla n), Below.refl _ _⟩
  case round =>
    obtain ⟨A, X, k, hg, hk, hA, hX, rfl, rfl, rfl, hinv, hb⟩ := hrel
    have HG := Lib.hid hg
    have HI := Lib.hid hinv
    clear hg hinv hla
    by_cases h0 : k = 0
    · subst h0
      have HR : Hid (X = fpow m (el m a) n) := by
        show _ = _
        rw [← HI.out]; exact (fmul_one m h1 h2 X hX).symm
      go_wp2_with fail
      go_ret
      exact ⟨ret_i64 (by rw [HR.out]), hb⟩
    · have t : 0 < (k : Int) := by omega
      have t0 : 0 < k := by omega
      have s3 := odd_test k (by omega)
      have hh : Hid ((k : Int) / 2 = ((k / 2 : Nat) : Int)) := by show _ = _; omega
      have HS := Lib.hid (pow_step m h1 h2 A X hA hX k)
      clear h0
      by_cases ho : k % 2 = 1
      · have hmx := fmul_lt m h1 h2 X A hX
        have hma := fmul_lt m h1 h2 A A hA
        rw [show decide (k % 2 = 1) = true from decide_eq_true ho] at s3
        have HO := Lib.hid ho
        clear ho
        go_wp2_with fail
        refine (rmul_at m h1 h2 X A hX hA _).mono ?_
        rintro e w2 ⟨rfl, b2⟩
        have b2 := hb.trans (b2.mono hb.size)
        go_wp2_with fail
        refine (rmul_at m h1 h2 A A hA hA _).mono ?_
        rintro e w3 ⟨rfl, b3⟩
        have b3 := b2.trans (b3.mono b2.size)
        go_wp2_with fail
        go_roundg (k / 2)
        case measure => have := HG.out; omega
        case rel => exact ⟨fmul m A A, fmul m X A, k / 2, rfl, by omega, hma, hmx, rfl, by rw [hh.out], rfl, by rw [← HI.out, HS.out, if_pos HO.out], b3⟩
      · have hma := fmul_lt m h1 h2 A A hA
        rw [show decide (k % 2 = 1) = false from decide_eq_false ho] at s3
        have HO := Lib.hid ho
        clear ho
        go_wp2_with fail
        refine (rmul_at m h1 h2 A A hA hA _).mono ?_
        rintro e w3 ⟨rfl, b3⟩
        have b3 := hb.trans (b3.mono hb.size)
        go_wp2_with fail
        go_roundg (k / 2)
        case measure => have := HG.out; omega
        case rel => exact ⟨fmul m A A, X, k / 2, rfl, by omega, hma, hX, rfl, by rw [hh.out], rfl, by rw [← HI.out, HS.out, if_neg HO.out], b3⟩
theorem rpower_at (m : Nat) (h1 : 3 ≤ m) (h2 : m ≤ 14) (a x : Int) (n : Nat) (hx : x = (n : Int)) (hn : n ≤ 16384) (w : World) :
    Calls Tryd.prog 35 #[.int .i64 (m : Int), .int .i64 a, .int .i64 x] w fun e w' => e = .returned (.int .i64 (h (fpow m (el m a) n))) ∧ Below w.heap.size w w' := by
  subst hx; exact rpower_any m h1 h2 a n hn w
/-- an exponent brought into 0 .. size - 1 as the statements do. -/
theorem exp_norm (m : Nat) (h1 : 3 ≤ m) (h2 : m ≤ 14) (z : Int) : ∃ k : Nat, k < size m ∧ z.tmod (size m : Int) % (size m : Int) = (k : Int) ∧ z % (size m : Int) = (k : Int) := by
  have z1 := size_lo m h1
  have z2 := size_hi m h2
  have q1 := Int.tmod_lt_of_pos z (b := (size m : Int)) (by omega)
  have q2 : -(size m : Int) < z.tmod (size m : Int) := by
    have := Int.tmod_lt_of_pos (-z) (b := (size m : Int)) (by omega)
    rw [Int.neg_tmod] at this
    omega
  have hd : z % (size m : Int) = (z.tmod (size m : Int)) % (size m : Int) := by
    rw [Int.tmod_eq_emod]
    split
    · simp
    · rw [Int.natAbs_natCast, Int.sub_emod, Int.emod_self, Int.emod_emod, Int.sub_zero, Int.emod_emod]
  have n1 := Int.emod_nonneg z (b := (size m : Int)) (by omega)
  have n2 := Int.emod_lt_of_pos z (b := (size m : Int)) (by omega)
  refine ⟨(z % (size m : Int)).toNat, by omega, ?_, by omega⟩
  rw [← hd]
  omega
set_option maxHeartbeats 400000 in
theorem rpow_any (m : Nat) (h1 : 3 ≤ m) (h2 : m ≤ 14) (a z : Int) (w : World) :
    Calls Tryd.prog 29 #[.int .i64 (m : Int), .int .i64 a, .int .i64 z] w fun e w' => e = .returned (.int .i64 (h (powZ m (el m a) z))) ∧ Below w.heap.size w w' := by
  have hpl := low_any m h1 h2
  have ho := shl_one m h2
  have he : ((els m : Int) - 1) = (size m : Int) := by rw [els_eq]; omega
  have z1 := size_lo m h1
  have z2 := size_hi m h2
  have e1 := els_lo m h1
  have e2 := els_hi m h2
  by_cases h0 : el m a = 0
  · have t := h_zero h0
    by_cases hz : z = 0
    · subst hz
      have e : h (powZ m (el m a) 0) = 1 := by rw [h0]; rfl
      rw [e]
      clear e h0
      go_enter Tryd.func29, Tryd.ntmps29
      go_wp2_with fail
      refine (hpl a w).mono ?_
      rintro e w1 ⟨rfl, rfl⟩
      go_wp2_with fail
      go_ret
      exact ⟨rfl, Below.refl _ _⟩
    · have e : h (powZ m (el m a) z) = 0 := by rw [h0]; unfold powZ; rw [if_pos rfl, if_neg hz]; rfl
      rw [e]
      have tz : (z == 0) = false := beq_eq_false_iff_ne.2 hz
      clear e h0 hz
      go_enter Tryd.func29, Tryd.ntmps29
      go_wp2_with fail
      refine (hpl a w).mono ?_
      rintro e w1 ⟨rfl, rfl⟩
      go_wp2_with fail
      go_ret
      exact ⟨rfl, Below.refl _ _⟩
  · have t := h_not h0
    obtain ⟨k, hk, hke, hkz⟩ := exp_norm m h1 h2 z
    have q1 := Int.tmod_lt_of_pos z (b := (size m : Int)) (by omega)
    have q2 : -(size m : Int) < z.tmod (size m : Int) := by
      have := Int.tmod_lt_of_pos (-z) (b := (size m : Int)) (by omega)
      rw [Int.neg_tmod] at this
      omega
    have HR : Hid (fpow m (el m a) k = powZ m (el m a) z) := by
      show _ = _
      rw [← powZ_nat m h1 h2 _ (el_lt m h2 a)]
      unfold powZ
      rw [if_neg h0, if_neg h0]
      apply pwZ_congr
      rw [← hkz, Int.mul_emod, Int.emod_emod, ← Int.mul_emod]
    clear h0 hkz
    have HK := Lib.hid hke
    clear hke
    go_enter Tryd.func29, Tryd.ntmps29
    go_wp2_with fail
    refine (hpl a w).mono ?_
    rintro e w1 ⟨rfl, rfl⟩
    go_wp2_with fail
    refine (rpower_at m h1 h2 a _ k HK.out (by omega) _).mono ?_
    rintro e w1 ⟨rfl, b1⟩
    rw [HR.out]
    go_wp2_with fail
    go_ret
    exact ⟨rfl, b1⟩
theorem el_two (m : Nat) (h1 : 3 ≤ m) (h2 : m ≤ 14) : el m 2 = pw m 1 := by
  have h8 := two_le m h1
  have e1 : pw m 1 = dbl m 1 := rfl
  have e2 : dbl m 1 = 2 := by
    rw [dbl_bit m h1 h2 1 (one_lt m h1)]
    have : (1 : BitVec 16).getLsbD (m - 1) = false := by
      rw [BitVec.getLsbD]
      exact Nat.testBit_lt_two_pow (show 1 < 2 ^ (m - 1) from Nat.one_lt_two_pow (by omega))
    rw [this, if_neg Bool.false_ne_true]; decide
  rw [e1, e2]
  exact el_of m h2 2 (by show 2 < _; omega)
set_option maxHeartbeats 400000 in
theorem rexp_any (m : Nat) (h1 : 3 ≤ m) (h2 : m ≤ 14) (z : Int) (w : World) :
    Calls Tryd.prog 15 #[.int .i64 (m : Int), .int .i64 z] w fun e w' => e = .returned (.int .i64 (h (pwZ m z))) ∧ Below w.heap.size w w' := by
  have HR : Hid (powZ m (el m 2) z = pwZ m z) := by
    show _ = _
    rw [el_two m h1 h2, powZ_pw m h1 h2, Int.natCast_one, Int.one_mul]
  go_enter Tryd.func15, Tryd.ntmps15
  go_wp2_with fail
  refine (rpow_any m h1 h2 2 z _).mono ?_
  rintro e w1 ⟨rfl, b1⟩
  rw [HR.out]
  go_wp2_with fail
  go_ret
  exact ⟨rfl, b1⟩
set_option maxHeartbeats 400000 in
theorem rinv_any (m : Nat) (h1 : 3 ≤ m) (h2 : m ≤ 14) (a : Int) (h0 : el m a ≠ 0) (w : World) :
    Calls Tryd.prog 22 #[.int .i64 (m : Int), .int .i64 a] w fun e w' => e = .returned (.int .i64 (h (pwZ m (-(lg m (el m a) : Int))))) ∧ Below w.heap.size w w' := by
  have HR : Hid (fpow m (el m a) (els m - 2) = pwZ m (-(lg m (el m a) : Int))) := by
    show _ = _
    obtain ⟨l1, l2⟩ := lg_spec m h1 h2 _ (el_lt m h2 a) h0
    have z1 := size_lo m h1
    rw [← powZ_nat m h1 h2 _ (el_lt m h2 a)]
    unfold powZ
    rw [if_neg h0]
    apply pwZ_congr
    rw [els_eq, show size m + 1 - 2 = size m - 1 by omega, show ((size m - 1 : Nat) : Int) = (size m : Int) - 1 by omega, Int.mul_sub, Int.mul_one, Int.sub_emod, Int.mul_emod_left, ← Int.zero_emod (size m : Int), ← Int.sub_emod]
    simp
  have ho := shl_one m h2
  have e1 := els_lo m h1
  have e2 := els_hi m h2
  clear h0
  go_enter Tryd.func22, Tryd.ntmps22
  go_wp2_with fail
  refine (rpower_at m h1 h2 a _ (els m - 2) (by omega) (by omega) _).mono ?_
  rintro e w1 ⟨rfl, b1⟩
  rw [HR.out]
  go_wp2_with fail
  go_ret
  exact ⟨rfl, b1⟩
theorem rmul_two (m : Nat) (h1 : 3 ≤ m) (h2 : m ≤ 14) (k : Nat) (w : World) :
    Calls Tryd.prog 23 #[.int .i64 (m : Int), .int .i64 (h (pw m k)), .int .i64 2] w fun e w' => e = .returned (.int .i64 (h (pw m (k + 1)))) ∧ Below w.heap.size w w' := by
  have := rmul_any m h1 h2 (h (pw m k)) 2 w
  rwa [el_of m h2 _ (pw_ne m h1 h2 k).2, el_two m h1 h2, fmul_pw m h1 h2] at this
theorem h_ne {x y : BitVec 16} (e : x ≠ y) : (h x != h y) = true := by
  rw [bne_iff_ne]; exact fun e2 => e (h_inj _ _ e2)
theorem h_same {x y : BitVec 16} (e : x = y) : (h x != h y) = false := by subst e; simp
section
attribute [local go_sem] rxor
end
end Go.Proofs.YtbgegnoenceflaaDoor.Fld
/- The statements' own polynomials (shaleref2): Trim, Eval. By the verifier of shale. -/
namespace Go.Proofs.YtbgegnoenceflaaDoor.Pl
open Go Go.RowKit Fld Bits16
set_option linter.unusedVariables false
theorem own_rowz {w : World} {base n cap : Nat} {a : Option Addr} {l : List Int} (e : Own64 w base (.slice a n cap) n l) : RowZ w a n cap l ∧ ∀ bb off, a = some ⟨bb, off, none⟩ → base ≤ bb := by
  have hl := e.len
  rcases e.2 with ⟨h0, h1⟩ | ⟨g', cap', cur, hv, hbg, hh, hnc, hm, hs, ht⟩
  · simp only [Value.slice.injEq] at h0
    obtain ⟨rfl, rfl, rfl⟩ := h0
    exact ⟨⟨by omega, Nat.le_refl _, by decide, fun i hi => by omega⟩, fun bb off e => by cases e⟩
  · simp only [Value.slice.injEq] at hv
    obtain ⟨rfl, _, rfl⟩ := hv
    refine ⟨⟨hl.symm, hnc, hm, fun i hi => ⟨g', 0, rfl, ?_, lt_of_block hh⟩⟩, fun bb off e => by simp only [Option.some.injEq, Addr.mk.injEq] at e; omega⟩
    obtain ⟨g2, c2, e2, _, _, _, hc⟩ := e.cells (by omega : 0 < n)
    simp only [Value.slice.injEq, Option.some.injEq, Addr.mk.injEq] at e2
    obtain ⟨⟨rfl, _⟩, _⟩ := e2
    rw [Nat.zero_add]; exact hc i hi
/-- a polynomial in memory that is not older, its last coefficient not 0. -/
structure ROut (m : Nat) [M : Mid m] (w0 w : World) (a : Option Addr) (n cap : Nat) (p : Ser (El m)) : Prop where
  row : RowZ w a n cap (nums p n)
  bd : Bd p n
  top : top p n = n
  fresh : ∀ bb off, a = some ⟨bb, off, none⟩ → w0.heap.size ≤ bb
section
variable {m : Nat} [M : Mid m]
theorem ROut.since {w0 w w' : World} {a : Option Addr} {n cap : Nat} {p : Ser (El m)} (h : ROut m w0 w a n cap p) (b : Below w.heap.size w w') : ROut m w0 w' a n cap p :=
  ⟨h.row.below b, h.bd, h.top, h.fresh⟩
theorem ROut.from {w0 w1 w : World} {a : Option Addr} {n cap : Nat} {p : Ser (El m)} (h : ROut m w1 w a n cap p) (b : w0.heap.size ≤ w1.heap.size) : ROut m w0 w a n cap p :=
  ⟨h.row, h.bd, h.top, fun bb off e => Nat.le_trans b (h.fresh bb off e)⟩
omit M in
theorem nums_succ (p : Ser (El m)) (k : Nat) : nums p (k + 1) = nums p k ++ [zn (p k)] := by
  unfold nums; rw [List.range_succ, List.map_append]; rfl
theorem rlow_any (z : Int) (w : World) : Calls Tryd.prog 28 #[.int .i64 (m : Int), .int .i64 z] w fun e w' => e = .returned (.int .i64 (zn (elm m z))) ∧ w = w' := by
  refine (low_any m M.lo M.hi z w).mono ?_
  rintro e w' ⟨rfl, rfl⟩
  exact ⟨rfl, rfl⟩
set_option maxRecDepth 100000 in
set_option maxHeartbeats 1000000 in
theorem rtrim_any (a : Option Addr) (n cap : Nat) (l : List Int) (w : World) (h : RowZ w a n cap l) (hn : n ≤ 1000000) :
    Calls Tryd.prog 17 #[.int .i64 (m : Int), .slice a n cap] w
      fun e w' => ∃ a' n' cap', e = .returned (.slice a' n' cap') ∧ ROut m w w' a' n' cap' (sr m l) ∧ Below w.heap.size w w' := by
  obtain ⟨i0, hi, hz0, hz1, hz2⟩ := info64
  have HP := Lib.hid h
  have HBn : Hid (Bd (sr m l) n) := by have := sr_bd (m := m) l; rwa [← h.hlen] at this
  clear h
  go_enter Tryd.func17, Tryd.ntmps17
  go_wp2_with fail
  go_loopg [5, 6] n (fun gh s5 s6 wx => ∃ (k : Nat), gh = n - k ∧ k ≤ n ∧ s6 = .int .i64 (k : Int) ∧ Own64 wx w.heap.size s5 k (nums (sr m l) k) ∧ Below w.heap.size w wx)
  case atStart => exact ⟨0, rfl, Nat.zero_le _, rfl, Own64.nil w w.heap.size, Below.refl _ _⟩
  case round =>
    obtain ⟨k, hg, hkn, rfl, hown, hB⟩ := hrel
    have HG := Lib.hid hg
    clear hg
    obtain ⟨av, cv, rfl⟩ := own_slice hown
    by_cases hlt : k < n
    · have x0 : (0 : Int) ≤ (k : Int) := by omega
      have x1 : (k : Int) < (n : Int) := by omega
      obtain ⟨bb, off, rfl, c1, hb⟩ := (HP.out.below hB).row k hlt
      have hbs := hB.size
      have HOwn := Lib.hid hown
      have HBB := Lib.hid hB
      have HF : Hid (nums (sr m l) (k + 1) = nums (sr m l) k ++ [zn (sr m l k)]) := nums_succ _ _
      clear hown hB hb
      go_wp2_with fail
      refine (rlow_any (l.getD k 0) wr).mono ?_
      rintro e w1 ⟨rfl, rfl⟩
      rw [sr_at]
      go_wp2_with (at_builtin; refine wpList_append_own _ rfl _ _ 22 rfl w.heap.size 3 i0 (.int .i64 0) 1 8 Tryd.underlying22 hi hz0 hz1 hz2 rfl (by decide) _ k _ rfl (World.ownsRow.alloc HOwn.out _) ⟨wr.heap.size, 0, none⟩ 1 1 [.int .i64 (zn (sr m l k))] rfl rfl (cell_one_new _ _ _) (ints_oneCell .i64 [_]) (by unfold maxLen; omega) (by omega) (by simp; omega) ?_; intro v7 w7 hown7 hgrow _)
      have ho7 : Own64 w7 w.heap.size v7 (k + 1) (nums (sr m l) (k + 1)) := by
        unfold Own64
        rw [HF.out, ← cells64_append]
        exact hown7
      have b7 : Below w.heap.size w w7 := (HBB.out.alloc hbs _).grown hgrow (by simp; omega) (fun g hg => (HOwn.out.block g hg).1)
      clear hown7 hgrow c1
      go_wp2_with fail
      go_roundg (n - (k + 1))
      case measure => have := HG.out; omega
      case rel => exact ⟨k + 1, rfl, by omega, by go_num, ho7, b7⟩
    · obtain rfl : k = n := by omega
      obtain ⟨hrow, hfr⟩ := own_rowz hown
      have HR := Lib.hid hrow
      have HFr := Lib.hid hfr
      have hcap := hrow.hcap
      have hmost := hrow.hmost
      unfold maxLen at hmost
      have HBB := Lib.hid hB
      clear hown hrow hfr hB
      go_wp2_with fail
      go_loopg [5] k (fun gh s5 wx => ∃ j : Nat, gh = j ∧ j ≤ k ∧ s5 = .slice av j cv ∧ Hid (top (sr m l) j = top (sr m l) k) ∧ wr = wx)
      case atStart => exact ⟨k, rfl, Nat.le_refl _, rfl, rfl, rfl⟩
      case round =>
        obtain ⟨j, hg, hj, rfl, HT, rfl⟩ := hrel
        have HG2 := Lib.hid hg
        clear hg
        have y0 : (0 : Int) ≤ (j : Int) := by omega
        have y1 : (j : Int) ≤ (cv : Int) := by omega
        rcases j with _ | j
        · have HF : Hid (ROut m w wr av 0 cv (sr m l)) := by
            have h0 : top (sr m l) k = 0 := HT.out.symm
            exact ⟨HR.out.take 0 (Nat.zero_le _) |> fun h => by rwa [nums_take _ (Nat.zero_le _)] at h, by have := top_bd HBn.out; rwa [h0] at this, rfl, HFr.out⟩
          clear HT
          go_wp2_with fail
          go_ret
          exact ⟨_, _, _, rfl, HF.out, HBB.out⟩
        · have x0 : (0 : Int) ≤ (j : Int) := by omega
          have x1 : (j : Int) < (k : Int) := by omega
          have x2 : (j : Int) ≤ (cv : Int) := by omega
          have x3 : (j : Int) < (j : Int) + 1 := by omega
          have i1 : IntKind.i64.wrap (((j + 1 : Nat) : Int) - 1) = (j : Int) := by rw [show ((j + 1 : Nat) : Int) - 1 = (j : Int) by omega]; exact IntWalk.i64_in _ (by omega)
          have i2 : IntKind.i64.wrap ((j : Int) + 1 - 1) = (j : Int) := by rw [show (j : Int) + 1 - 1 = (j : Int) by omega]; exact IntWalk.i64_in _ (by omega)
          obtain ⟨bb, off, rfl, c1, hb⟩ := HR.out.row j (by omega)
          rw [nums_at (sr m l) k j (by omega)] at c1
          have hz := zn_eq0 (sr m l j)
          by_cases h0 : sr m l j = 0
          · rw [decide_eq_true h0] at hz
            have HN : Hid (top (sr m l) j = top (sr m l) k) := by
              show _ = _
              rw [← top_zero h0]; exact HT.out
            clear HT h0 hb
            go_wp2_with fail
            go_roundg j
            case measure => have := HG2.out; omega
            case rel => exact ⟨j, rfl, by omega, rfl, HN.out, rfl⟩
          · rw [decide_eq_false h0] at hz
            have HN : Hid (j + 1 = top (sr m l) k) := by
              show _ = _
              rw [← HT.out, top_some h0]
            have HF : Hid (ROut m w wr (some ⟨bb, off, none⟩) (j + 1) cv (sr m l)) :=
              ⟨HR.out.take (j + 1) hj |> fun h => by rwa [nums_take _ hj] at h, by have := top_bd HBn.out; rwa [← HN.out] at this, top_some h0, HFr.out⟩
            clear HT h0 hb
            go_wp2_with fail
            go_ret
            exact ⟨_, _, _, rfl, HF.out, HBB.out⟩
theorem ROut.len {w0 w : World} {a : Option Addr} {n cap k : Nat} {p : Ser (El m)} (h : ROut m w0 w a n cap p) (hb : Bd p k) : n = Pl.top p k := h.top.symm.trans (top_same h.bd hb)
end
end Go.Proofs.YtbgegnoenceflaaDoor.Pl
/- shaleref.SameInts over any two lists of ints. By the verifier of shale. -/
namespace Go.Proofs.YtbgegnoenceflaaDoor.Pl
open Go Go.RowKit Fld Bits16
set_option linter.unusedVariables false
theorem RowZ.drawn {w w' : World} {a : Option Addr} {n cap : Nat} {l : List Int} (h : RowZ w a n cap l) (d : Drawn w w') : RowZ w' a n cap l := h.below (d.below _)
theorem listz_eq {l k : List Int} (hl : l.length = k.length) (h : ∀ i, i < l.length → l.getD i 0 = k.getD i 0) : l = k := by
  apply List.ext_getElem hl
  intro i h1 h2
  have := h i h1
  rw [List.getD_eq_getElem?_getD, List.getD_eq_getElem?_getD, List.getElem?_eq_getElem h1, List.getElem?_eq_getElem h2] at this
  exact this
set_option maxRecDepth 100000 in
set_option maxHeartbeats 1000000 in
theorem sameZ_any (a1 : Option Addr) (n1 c1 : Nat) (l : List Int) (a2 : Option Addr) (n2 c2 : Nat) (k : List Int) (w : World) (h1 : RowZ w a1 n1 c1 l) (h2 : RowZ w a2 n2 c2 k) :
    Calls Tryd.prog 10 #[.slice a1 n1 c1, .slice a2 n2 c2] w fun e w' => e = .returned (.bool (decide (l = k))) ∧ Drawn w w' := by
  have H1 := Lib.hid h1
  have H2 := Lib.hid h2
  have hm : n1 ≤ maxLen := Nat.le_trans h1.hcap h1.hmost
  unfold maxLen at hm
  clear h1 h2
  by_cases hn : n1 = n2
  · subst hn
    go_enter Tryd.func10, Tryd.ntmps10
    go_wp2_with fail
    go_loopg [5] n1 (fun gh s5 wx => ∃ j : Nat, gh = n1 - j ∧ j ≤ n1 ∧ s5 = .int .i64 (j : Int) ∧ Hid (∀ i, i < j → l.getD i 0 = k.getD i 0) ∧ Drawn w wx)
    case atStart => exact ⟨0, rfl, by omega, rfl, fun i hi => by omega, Drawn.refl _⟩
    case round =>
      obtain ⟨j, hg, hk, rfl, HA, hD⟩ := hrel
      have HG := Lib.hid hg
      clear hg
      by_cases hlt : j < n1
      · have x1 : (j : Int) < (n1 : Int) := by omega
        have x0 : (0 : Int) ≤ (j : Int) := by omega
        obtain ⟨bb, off, rfl, d1, _⟩ := (H1.out.drawn hD).row j hlt
        obtain ⟨bb', off', rfl, d2, _⟩ := (H2.out.drawn hD).row j hlt
        by_cases he : l.getD j 0 = k.getD j 0
        · have HA2 : Hid (∀ i, i < j + 1 → l.getD i 0 = k.getD i 0) := fun i hi => by
            by_cases e : i = j
            · rw [e]; exact he
            · exact HA.out i (by omega)
          rw [he] at d1
          generalize k.getD j 0 = q at d1 d2
          clear he HA
          go_wp2_with fail
          go_quiet (fail)
          have hd2 : Drawn w (wr.drewN nq) := hD.trans (Drawn.mk _ _)
          generalize wr.drewN nq = w5 at hd2 ⊢
          go_wp2_with fail
          go_roundg (n1 - (j + 1))
          case measure => have := HG.out; omega
          case rel => exact ⟨j + 1, rfl, by omega, by go_num, HA2.out, hd2⟩
        · have HF : Hid (decide (l = k) = false) := decide_eq_false fun h => he (by rw [h])
          have t1 : (l.getD j 0 == k.getD j 0) = false := by rw [beq_eq_false_iff_ne]; exact he
          generalize l.getD j 0 = q at d1 t1
          generalize k.getD j 0 = r at d2 t1
          clear he HA
          go_wp2_with fail
          go_quiet (fail)
          have hd2 : Drawn w (wr.drewN nq) := hD.trans (Drawn.mk _ _)
          generalize wr.drewN nq = w5 at hd2 ⊢
          go_wp2_with fail
          go_ret
          exact ⟨ret_bool HF.out.symm, hd2⟩
      · obtain rfl : j = n1 := by omega
        have HF : Hid (decide (l = k) = true) := decide_eq_true (listz_eq (by have := H1.out.hlen; have := H2.out.hlen; omega) fun i hi => HA.out i (by have := H1.out.hlen; omega))
        clear HA
        go_wp2_with fail
        go_ret
        exact ⟨ret_bool HF.out.symm, hD⟩
  · have HF : Hid (decide (l = k) = false) := decide_eq_false fun h => hn (by rw [H1.out.hlen, H2.out.hlen, h])
    have t1 : ((n1 : Int) == (n2 : Int)) = false := by rw [beq_eq_false_iff_ne]; omega
    clear hn
    go_enter Tryd.func10, Tryd.ntmps10
    go_wp2_with fail
    go_ret
    exact ⟨ret_bool HF.out.symm, Drawn.refl _⟩
end Go.Proofs.YtbgegnoenceflaaDoor.Pl
/- The contracts of package fieldpoly, and of its reference, in terms of the polynomials alone. By the verifier of shale. -/
namespace Go.Proofs.YtbgegnoenceflaaDoor.Pl
open Go Go.RowKit Fld Bits16
set_option linter.unusedVariables false
section
variable {m : Nat} [M : Mid m]
/-- numbers handed in that are this polynomial, at most K. -/
def PV (m : Nat) [M : Mid m] (w : World) (K : Nat) (a : Option Addr) (n c : Nat) (p : Ser (El m)) : Prop := ∃ l, RowZ w a n c l ∧ sr m l = p ∧ n ≤ K
/-- a polynomial written as it should be. -/
structure NV (m : Nat) [M : Mid m] (w : World) (K : Nat) (a : Option Addr) (n c : Nat) (p : Ser (El m)) : Prop where
  row : RowZ w a n c (nums p n)
  bd : Bd p n
  top : top p n = n
  le : n ≤ K
theorem PV.below {w w' : World} {K : Nat} {a : Option Addr} {n c : Nat} {p : Ser (El m)} (h : PV m w K a n c p) (b : Below w.heap.size w w') : PV m w' K a n c p := by
  obtain ⟨l, h1, h2, h3⟩ := h
  exact ⟨l, h1.below b, h2, h3⟩
theorem NV.below {w w' : World} {K : Nat} {a : Option Addr} {n c : Nat} {p : Ser (El m)} (h : NV m w K a n c p) (b : Below w.heap.size w w') : NV m w' K a n c p := ⟨h.row.below b, h.bd, h.top, h.le⟩
theorem NV.pol {w : World} {K : Nat} {a : Option Addr} {n c : Nat} {p : Ser (El m)} (h : NV m w K a n c p) : PV m w K a n c p := ⟨_, h.row, sr_nums h.bd, h.le⟩
theorem PV.bdn {w : World} {K : Nat} {a : Option Addr} {n c : Nat} {p : Ser (El m)} (h : PV m w K a n c p) : Bd p n := by
  obtain ⟨l, h1, rfl, _⟩ := h
  have := sr_bd (m := m) l
  rwa [← h1.hlen] at this
theorem PV.bd {w : World} {K : Nat} {a : Option Addr} {n c : Nat} {p : Ser (El m)} (h : PV m w K a n c p) : Bd p K := h.bdn.mono (by obtain ⟨_, _, _, h3⟩ := h; exact h3)
theorem top_full {p : Ser (El m)} {n N : Nat} (h : Bd p N) (hn : n = Pl.top p N) : Pl.top p n = n := by
  have hb : Bd p n := by rw [hn]; exact top_bd h
  rw [hn]; exact (top_same (by rw [hn] at hb; exact hb) h)
theorem outV {w0 w : World} {a : Option Addr} {n c K : Nat} {p : Ser (El m)} (h : Out m w0 w a n c p) (hK : Bd p K) : NV m w K a n c p := by
  have ht : Pl.top p n = n := by
    rcases h with ⟨_, rfl, _, rfl⟩ | ⟨g, N, _, _, _, _, _, hn, hb⟩
    · rfl
    · exact top_full hb hn
  exact ⟨h.row, h.bd, ht, by rw [← ht, top_same h.bd hK]; exact top_le p K⟩
theorem routV {w0 w : World} {a : Option Addr} {n c K : Nat} {p : Ser (El m)} (h : ROut m w0 w a n c p) (hK : Bd p K) : NV m w K a n c p :=
  ⟨h.row, h.bd, h.top, by rw [← h.top, top_same h.bd hK]; exact top_le p K⟩
theorem top_of {w : World} {K : Nat} {a : Option Addr} {n c : Nat} {p : Ser (El m)} (h : PV m w K a n c p) : Pl.top p n = Pl.top p K := top_same h.bdn h.bd
theorem der_bdK {p : Ser (El m)} {K : Nat} (h : Bd p K) : Bd (der p) K := fun i hi => by
  show (if i % 2 = 0 then p (i + 1) else 0) = 0
  split
  · exact h _ (by omega)
  · rfl
theorem top_pz : ∀ K, Pl.top (pz : Ser (El m)) K = 0
  | 0 => rfl
  | K + 1 => by rw [top_zero (rfl : (pz : Ser (El m)) K = 0)]; exact top_pz K
theorem top_nz {p : Ser (El m)} {K : Nat} (h : Bd p K) (h0 : p ≠ pz) : Pl.top p K ≠ 0 := fun e => h0 (by have := top_bd h; rw [e] at this; exact this.zero)
theorem top_deg {p : Ser (El m)} {K : Nat} (h : Bd p K) (h0 : p ≠ pz) : Dg p (Pl.top p K - 1) := (top_ne (top_nz h h0)).resolve_right fun x => x h
theorem top_dg' {p : Ser (El m)} {K d : Nat} (h : Bd p K) (hd : Dg p d) : Pl.top p K = d + 1 := by
  have h0 := top_deg h hd.ne
  have h1 := top_nz h hd.ne
  have := h0.eq hd
  omega
theorem cvK {p q : Ser (El m)} {k k' K : Nat} (hp : Bd p k) (hq : Bd q k') (h : k + k' ≤ K) : Bd (cv p q) K := (bd_cv hp hq).mono (by omega)
theorem div_bd {p q A L : Ser (El m)} {K e : Nat} (hp : Bd p K) (hq : Dg q e) (he : e < K) (h : Dv2 p q A L e) : Bd A K ∧ Bd L K := by
  have hL : Bd L K := h.low.mono (by omega)
  refine ⟨?_, hL⟩
  obtain ⟨n, hn⟩ := h.fin
  rcases dg_or hn with h0 | ⟨d, _, hd⟩
  · rw [h0]; exact bd_pz K
  · have h1 := hd.mul hq
    have h2 : cv A q = padd p L := by rw [h.sum, padd_back]
    rw [h2] at h1
    have := h1.lt (hp.add hL)
    exact hd.2.mono (by omega)
theorem PD.le {g p : Ser (El m)} {K : Nat} (h : PD g p) (h0 : p ≠ pz) (hp : Bd p K) {d : Nat} (hg : Dg g d) : d < K := by
  obtain ⟨a, n, ha, rfl⟩ := h
  rcases dg_or ha with h1 | ⟨x, _, hx⟩
  · rw [h1, cv_zero] at h0; exact absurd rfl h0
  · have := (hx.mul hg).lt hp; omega
/-- a greatest common divisor as the chapter wants it. -/
def IsG (p q G : Ser (El m)) : Prop := PG p q G ∧ (G = pz ∨ ∃ d, Dg G d ∧ G d = 1)
theorem pd_pz {p : Ser (El m)} (h : PD pz p) : p = pz := by
  obtain ⟨a, n, _, rfl⟩ := h
  exact zero_cv a
theorem IsG.zero {p q G : Ser (El m)} (h : IsG p q G) : G = pz ↔ p = pz ∧ q = pz := by
  constructor
  · rintro rfl
    exact ⟨pd_pz h.1.1, pd_pz h.1.2.1⟩
  · rintro ⟨rfl, rfl⟩
    exact pd_pz (h.1.2.2 pz (PD.zero _) (PD.zero _))
theorem IsG.unique {p q G G' : Ser (El m)} (h : IsG p q G) (k : IsG p q G') : G = G' := by
  by_cases h0 : G = pz
  · rw [h0]; exact (k.zero.2 (h.zero.1 h0)).symm
  · have h1 : G' ≠ pz := fun e => h0 (h.zero.2 (k.zero.1 e))
    obtain ⟨d, hd, e1⟩ := h.2.resolve_left h0
    obtain ⟨e, he, e2⟩ := k.2.resolve_left h1
    exact PG.unique hd he h.1 k.1 e1 e2
theorem IsG.bd {p q G : Ser (El m)} {K : Nat} (h : IsG p q G) (hp : Bd p K) (hq : Bd q K) : Bd G K := by
  rcases h.2 with rfl | ⟨d, hd, _⟩
  · exact bd_pz K
  · by_cases h0 : p = pz
    · by_cases h1 : q = pz
      · exact absurd (h.zero.2 ⟨h0, h1⟩) hd.ne
      · have := h.1.2.1.le h1 hq hd; exact hd.2.mono (by omega)
    · have := h.1.1.le h0 hp hd; exact hd.2.mono (by omega)
theorem IsG.comm {p q G : Ser (El m)} (h : IsG p q G) : IsG q p G := ⟨h.1.comm, h.2⟩
theorem nilV (w : World) : PV m w 0 none 0 0 pz := ⟨[], ⟨rfl, Nat.le_refl _, by decide, fun i hi => by omega⟩, by funext i; exact elm_zero, Nat.le_refl _⟩
theorem PV.more {w : World} {K K' : Nat} {a : Option Addr} {n c : Nat} {p : Ser (El m)} (h : PV m w K a n c p) (hK : K ≤ K') : PV m w K' a n c p := by
  obtain ⟨l, h1, h2, h3⟩ := h
  exact ⟨l, h1, h2, by omega⟩
section
variable {g s be ce bl : Nat} {w : World}
theorem mulV {k k' : Nat} {a a' : Option Addr} {n c n' c' : Nat} {p q : Ser (El m)} (R : RingAt m w g s be ce bl) (K : Nat) (h1 : PV m w k a n c p) (h2 : PV m w k' a' n' c' q) (hK : k + k' ≤ K) (hK2 : K ≤ 2048) :
    Calls Tryd.prog 31 #[.pointer (some ⟨g, 0, none⟩), .slice a n c, .slice a' n' c'] w fun e w' => ∃ a n c, e = .returned (.tuple #[.slice a n c, .nilIface]) ∧ NV m w' K a n c (cv p q) ∧ Below w.heap.size w w' := by
  have hb := cvK h1.bd h2.bd hK
  obtain ⟨l1, r1, rfl, n1⟩ := h1
  obtain ⟨l2, r2, rfl, n2⟩ := h2
  have t1 := top_le (sr m l1) n
  have t2 := top_le (sr m l2) n'
  refine (pmul_any a n c l1 a' n' c' l2 w R r1 r2 (by omega) (by omega) (by omega)).mono ?_
  rintro e w1 ⟨a3, n3, c3, rfl, hO, b⟩
  exact ⟨a3, n3, c3, rfl, outV hO hb, b⟩
theorem trimV {k : Nat} {a : Option Addr} {n c : Nat} {p : Ser (El m)} (R : RingAt m w g s be ce bl) (h1 : PV m w k a n c p) (hK2 : k ≤ 2048) :
    Calls Tryd.prog 37 #[.pointer (some ⟨g, 0, none⟩), .slice a n c] w fun e w' => ∃ a n c, e = .returned (.slice a n c) ∧ NV m w' k a n c p ∧ Below w.heap.size w w' := by
  have hb := h1.bd
  have hn := h1.bdn
  have ht := top_of h1
  have hle := top_le p k
  obtain ⟨l1, r1, rfl, n1⟩ := h1
  refine (trim_any a n c l1 w R r1 (by omega)).mono ?_
  rintro e w1 ⟨rfl, hB, b⟩
  refine ⟨_, _, _, rfl, ⟨?_, top_bd hn, top_full hn rfl, by rw [ht]; exact hle⟩, b⟩
  have hr := Blk64.row hB _ (by rw [nums_length]; exact Nat.le_refl _) (by rw [nums_length]; omega)
  rw [nums_take _ (Nat.le_refl _), nums_length] at hr
  exact hr
theorem degV {k : Nat} {a : Option Addr} {n c : Nat} {p : Ser (El m)} (R : RingAt m w g s be ce bl) (h1 : PV m w k a n c p) :
    Calls Tryd.prog 44 #[.pointer (some ⟨g, 0, none⟩), .slice a n c] w fun e w' => e = .returned (.int .i64 ((Pl.top p k : Int) - 1)) ∧ w = w' := by
  have ht := top_of h1
  obtain ⟨l1, r1, rfl, n1⟩ := h1
  have := deg_any a n c l1 w R r1
  rwa [ht] at this
theorem evalV {k : Nat} {a : Option Addr} {n c : Nat} {p : Ser (El m)} (x : Int) (R : RingAt m w g s be ce bl) (h1 : PV m w k a n c p) :
    Calls Tryd.prog 42 #[.pointer (some ⟨g, 0, none⟩), .slice a n c, .int .i64 x] w fun e w' => e = .returned (.int .i64 (zn (ev k p (elm m x)))) ∧ Drawn w w' := by
  have hn := h1.bdn
  obtain ⟨l1, r1, rfl, n1⟩ := h1
  have := peval_any a n c l1 x w R r1
  rwa [← ev_more (elm m x) n k _ hn n1] at this
/-- all the roots of p, rising. -/
noncomputable def rootsV (k : Nat) (p : Ser (El m)) : List Int := if Pl.top p k = 0 then [] else intsN (rts (Pl.top p k) p (2 ^ m))
theorem pls_bd (l : List Int) (n : Nat) : Bd (pls (m := m) l n) (n + 1) := (pls_dg l n).2
end
section
variable {w : World}
theorem sameV {k k' : Nat} {a a' : Option Addr} {n c n' c' : Nat} {p q : Ser (El m)} (h1 : NV m w k a n c p) (h2 : NV m w k' a' n' c' q) (e : p = q) :
    Calls Tryd.prog 10 #[.slice a n c, .slice a' n' c'] w fun e w' => e = .returned (.bool true) ∧ Drawn w w' := by
  subst e
  have hn : n = n' := by rw [← h1.top, ← h2.top]; exact top_same h1.bd h2.bd
  refine (sameZ_any a n c _ a' n' c' _ w h1.row h2.row).mono ?_
  rintro e w1 ⟨rfl, d⟩
  exact ⟨by rw [decide_eq_true (by rw [hn])], d⟩
end
end
end Go.Proofs.YtbgegnoenceflaaDoor.Pl
/- The statements' own polynomials (shaleref2): Eval, Add, Times. By the verifier of shale. -/
namespace Go.Proofs.YtbgegnoenceflaaDoor.Pl
open Go Go.RowKit Fld Bits16
set_option linter.unusedVariables false
theorem regrown0 (w : World) : ∃ p : Regrown, w.drew = Sort.grow (redrawn w p.d) p.os := ⟨⟨w.drawn + 1, #[]⟩, by rw [Sort.grow_empty]; rfl⟩
section
variable {m : Nat} [M : Mid m]
theorem rmul_zz (a b : El m) (w : World) : Calls Tryd.prog 23 #[.int .i64 (m : Int), .int .i64 (zn a), .int .i64 (zn b)] w fun e w' => e = .returned (.int .i64 (zn (a * b))) ∧ Below w.heap.size w w' := by
  have := rmul_any m M.lo M.hi (zn a) (zn b) w
  rwa [mul_zn, elm_zn, elm_zn] at this
theorem rmul_zx (a : El m) (x : Int) (w : World) : Calls Tryd.prog 23 #[.int .i64 (m : Int), .int .i64 (zn a), .int .i64 x] w fun e w' => e = .returned (.int .i64 (zn (a * elm m x))) ∧ Below w.heap.size w w' := by
  have := rmul_any m M.lo M.hi (zn a) x w
  rwa [mul_zn, elm_zn] at this
set_option maxRecDepth 100000 in
set_option maxHeartbeats 1000000 in
theorem reval_any (a : Option Addr) (n cap : Nat) (l : List Int) (x : Int) (w : World) (h : RowZ w a n cap l) :
    Calls Tryd.prog 14 #[.int .i64 (m : Int), .slice a n cap, .int .i64 x] w
      fun e w' => e = .returned (.int .i64 (zn (ev n (sr m l) (elm m x)))) ∧ Below w.heap.size w w' := by
  have HP := Lib.hid h
  have hm : n ≤ maxLen := Nat.le_trans h.hcap h.hmost
  unfold maxLen at hm
  clear h
  go_enter Tryd.func14, Tryd.ntmps14
  go_wp2_with fail
  go_loopg [7, 8] n (fun gh s9 s10 wx => ∃ k j : Nat, gh = k ∧ k + j = n ∧ s10 = .int .i64 ((k : Int) - 1) ∧ s9 = .int .i64 (zn (ev j (dr (sr m l) k) (elm m x))) ∧ Below w.heap.size w wx)
  case atStart => exact ⟨n, 0, rfl, by omega, rfl, rfl, Below.refl _ _⟩
  case round =>
    obtain ⟨k, j, hg, hkj, rfl, rfl, hD⟩ := hrel
    have HG := Lib.hid hg
    clear hg
    rcases k with _ | k
    · have HJ : Hid (j = n) := by show _ = _; omega
      have HE : Hid (zn (ev j (dr (sr m l) 0) (elm m x)) = zn (ev n (sr m l) (elm m x))) := by
        show _ = _
        rw [HJ.out]
        have : dr (sr m l) 0 = sr m l := funext fun i => by show sr m l (0 + i) = _; rw [Nat.zero_add]
        rw [this]
      clear hkj
      go_wp2_with fail
      go_ret
      exact ⟨ret_i64 HE.out, hD⟩
    · have x0 : (0 : Int) ≤ (k : Int) := by omega
      have x1 : (k : Int) < (n : Int) := by omega
      rw [show ((k + 1 : Nat) : Int) - 1 = (k : Int) by omega]
      obtain ⟨bb, off, rfl, c1, hb⟩ := (HP.out.below hD).row k (by omega)
      have c1 := cell_regrown c1
      have HM : Hid (∀ q os, Calls Tryd.prog 23 #[.int .i64 (m : Int), .int .i64 (zn (ev j (dr (sr m l) (k + 1)) (elm m x))), .int .i64 x] (Sort.grow (redrawn wr q) os) fun e w'' => e = .returned (.int .i64 (zn (ev j (dr (sr m l) (k + 1)) (elm m x) * elm m x))) ∧ ∃ p : Regrown, w'' = Sort.grow (redrawn wr p.d) p.os) := fun q os => Calls.regrown_of (rmul_zx _ x _)
      have HL : Hid (∀ q os, Calls Tryd.prog 28 #[.int .i64 (m : Int), .int .i64 (l.getD k 0)] (Sort.grow (redrawn wr q) os) fun e w'' => e = .returned (.int .i64 (zn (elm m (l.getD k 0)))) ∧ ∃ p : Regrown, w'' = Sort.grow (redrawn wr p.d) p.os) := fun q os => Calls.regrown_of ((rlow_any _ _).mono fun _ _ ⟨h1, h2⟩ => ⟨h1, by rw [← h2]; exact Below.refl _ _⟩)
      have hz3 : bits .xor .i64 (zn (ev j (dr (sr m l) (k + 1)) (elm m x) * elm m x)) (zn (elm m (l.getD k 0))) = zn (ev (j + 1) (dr (sr m l) k) (elm m x)) := by
        rw [zn_add, sr_at, ev_dr]
      generalize zn (ev j (dr (sr m l) (k + 1)) (elm m x)) = z1 at HM ⊢
      generalize zn (ev j (dr (sr m l) (k + 1)) (elm m x) * elm m x) = z2 at HM hz3
      generalize zn (elm m (l.getD k 0)) = z5 at HL hz3
      generalize l.getD k 0 = z4 at c1 HL
      have HD := Lib.hid hD
      clear hD hb
      go_wp2_with fail
      refine wp_region_quiet_below (by kernel_rfl) (by kernel_rfl) ?_
      repeat (go_big_quiet_step (first | (go_at_call 23; with_reducible exact HM.out _ _) | (go_at_call 28; with_reducible exact HL.out _ _)))
      refine wpQuiet_nil ?_
      intro _ hw'
      obtain ⟨⟨dq, osq⟩, hw''⟩ := hw'
      subst hw''
      have hD2 : Below w.heap.size w (Sort.grow (redrawn wr dq) osq) := HD.out.trans ((below_regrown wr dq osq).mono HD.out.size)
      generalize Sort.grow (redrawn wr dq) osq = w5 at hD2 ⊢
      clear c1
      go_wp2_with fail
      go_roundg k
      case measure => have := HG.out; omega
      case rel => exact ⟨k, j + 1, rfl, by omega, by go_num, rfl, hD2⟩
/-- the first k numbers of f, and 0 up to N. -/
def upN (f : Nat → Int) (N k : Nat) : List Int := (List.range N).map fun i => if i < k then f i else 0
omit M in
theorem upN_length (f : Nat → Int) (N k : Nat) : (upN f N k).length = N := by simp [upN]
omit M in
theorem upN_set (f : Nat → Int) (N k : Nat) : (upN f N k).set k (f k) = upN f N (k + 1) := by
  apply List.ext_getElem
  · simp [upN]
  · intro i h1 h2
    simp only [upN, List.getElem_set, List.getElem_map, List.getElem_range]
    by_cases h : k = i
    · rw [if_pos h, if_pos (by omega), h]
    · rw [if_neg h]
      by_cases h3 : i < k
      · rw [if_pos h3, if_pos (by omega)]
      · rw [if_neg h3, if_neg (by omega)]
omit M in
theorem upN_at (f : Nat → Int) (N k i : Nat) (hi : i < N) (hk : k ≤ i) : nth64 (upN f N k) i = 0 := by
  unfold nth64
  rw [List.getD_eq_getElem?_getD, List.getElem?_eq_getElem (by rw [upN_length]; exact hi)]
  simp only [upN, List.getElem_map, List.getElem_range, Option.getD_some]
  rw [if_neg (by omega)]
omit M in
theorem upN_zero (f : Nat → Int) (N : Nat) : List.replicate N 0 = upN f N 0 := by
  apply List.ext_getElem
  · simp [upN]
  · intro i h1 h2; simp [upN]
/-- what Add lays at i: the numbers' own bits. -/
def rawN (l1 l2 : List Int) (i : Nat) : Int :=
  if i < l1.length then (if i < l2.length then bits .xor .i64 (l1.getD i 0) (l2.getD i 0) else l1.getD i 0) else bits .xor .i64 0 (l2.getD i 0)
theorem elm_xor (x y : Int) : elm m (bits .xor .i64 x y) = elm m x + elm m y := El.ext (el_xor m M.hi x y)
theorem sr_raw (l1 l2 : List Int) (N : Nat) (h1 : l1.length ≤ N) (h2 : l2.length ≤ N) : sr m (upN (rawN l1 l2) N N) = padd (sr m l1) (sr m l2) := by
  funext i
  show elm m ((upN (rawN l1 l2) N N).getD i 0) = elm m (l1.getD i 0) + elm m (l2.getD i 0)
  by_cases hi : i < N
  · rw [List.getD_eq_getElem?_getD, List.getElem?_eq_getElem (by rw [upN_length]; exact hi)]
    simp only [upN, List.getElem_map, List.getElem_range, Option.getD_some]
    rw [if_pos hi]
    unfold rawN
    by_cases a1 : i < l1.length
    · rw [if_pos a1]
      by_cases a2 : i < l2.length
      · rw [if_pos a2, elm_xor]
      · rw [if_neg a2, show l2.getD i 0 = 0 by rw [List.getD_eq_getElem?_getD, List.getElem?_eq_none (by omega)]; rfl, elm_zero, Fl.add_zero]
    · rw [if_neg a1, elm_xor, show l1.getD i 0 = 0 by rw [List.getD_eq_getElem?_getD, List.getElem?_eq_none (by omega)]; rfl]
  · rw [show (upN (rawN l1 l2) N N).getD i 0 = 0 by rw [List.getD_eq_getElem?_getD, List.getElem?_eq_none (by rw [upN_length]; omega)]; rfl,
      show l1.getD i 0 = 0 by rw [List.getD_eq_getElem?_getD, List.getElem?_eq_none (by omega)]; rfl, show l2.getD i 0 = 0 by rw [List.getD_eq_getElem?_getD, List.getElem?_eq_none (by omega)]; rfl, elm_zero, Fl.add_zero]
end
end Go.Proofs.YtbgegnoenceflaaDoor.Pl
/- The statements' own polynomials (shaleref2): Add. By the verifier of shale. -/
namespace Go.Proofs.YtbgegnoenceflaaDoor.Pl
open Go Go.RowKit Fld Bits16
set_option linter.unusedVariables false
section
variable {m : Nat} [M : Mid m]
theorem Blk64.rowz {w : World} {g : Nat} {l : List Int} (h : Blk64 w g l) (hm : l.length ≤ 1000000) : RowZ w (some ⟨g, 0, none⟩) l.length l.length l := by
  have := Blk64.row h l.length (Nat.le_refl _) hm
  rwa [List.take_length] at this
end
end Go.Proofs.YtbgegnoenceflaaDoor.Pl
/- The statements' own polynomials (shaleref2): Times. By the verifier of shale. -/
namespace Go.Proofs.YtbgegnoenceflaaDoor.Pl
open Go Go.RowKit Fld Bits16
set_option linter.unusedVariables false
section
variable {m : Nat} [M : Mid m]
end
end Go.Proofs.YtbgegnoenceflaaDoor.Pl
/- The statements' own polynomials (shaleref2): DivMod. By the verifier of shale. -/
namespace Go.Proofs.YtbgegnoenceflaaDoor.Pl
open Go Go.RowKit Fld Bits16
set_option linter.unusedVariables false
theorem Blk64.own {w : World} {g base n : Nat} {l : List Int} (h : Blk64 w g l) (hb : base ≤ g) (hn : n = l.length) (hm : n ≤ maxLen) : Own64 w base (.slice (some ⟨g, 0, none⟩) n n) n l := by
  refine ⟨by rw [cells64_length]; omega, Or.inr ⟨g, n, (cells64 l).toArray, rfl, hb, h, Nat.le_refl _, hm, by simp [cells64_length, hn], ?_⟩⟩
  rw [List.toList_toArray, List.take_of_length_le (by rw [cells64_length]; omega)]
theorem RowZ.news {w : World} {bb off n cap : Nat} {l : List Int} (h : RowZ w (some ⟨bb, off, none⟩) n cap l) : ∀ j u, (cells64 l)[j]? = some u → w.cell? ((⟨bb, off, none⟩ : Addr).add j) = some u := by
  intro j u hu
  have hj : j < l.length := by
    have := (List.getElem?_eq_some_iff.1 hu).1
    rwa [cells64_length] at this
  obtain ⟨b2, o2, e, hc, _⟩ := h.row j (by rw [h.hlen]; exact hj)
  simp only [Option.some.injEq, Addr.mk.injEq] at e
  obtain ⟨rfl, rfl, _⟩ := e
  rw [add_row, hc, ← hu]
  unfold cells64
  simp [hj]
theorem cells64_one (l : List Int) : ∀ u ∈ cells64 l, u.oneCell' = true := by
  intro u hu
  unfold cells64 at hu
  obtain ⟨z, _, rfl⟩ := List.mem_map.1 hu
  rfl
section
variable {m : Nat} [M : Mid m]
theorem rinv_zz (a : El m) (h0 : a ≠ 0) (w : World) : Calls Tryd.prog 22 #[.int .i64 (m : Int), .int .i64 (zn a)] w fun e w' => e = .returned (.int .i64 (zn a⁻¹)) ∧ Below w.heap.size w w' := by
  have hne : el m (zn a) ≠ 0 := fun e => h0 (by
    have := congrArg Subtype.val (elm_zn a)
    exact El.ext (this.symm.trans e))
  have := rinv_any m M.lo M.hi (zn a) hne w
  rwa [inv_zz _ h0] at this
theorem sr_shift (s : Nat) (l : List Int) : sr m (List.replicate s 0 ++ l) = cv (mono s 1) (sr m l) := by
  funext i
  rw [cv_mono]
  show elm m ((List.replicate s 0 ++ l).getD i 0) = _
  rw [List.getD_eq_getElem?_getD]
  by_cases h : i < s
  · rw [if_pos h, List.getElem?_append_left (by simpa using h)]
    simp [h]; exact elm_zero
  · rw [if_neg h, List.getElem?_append_right (by simp; omega), one_mul]
    simp only [List.length_replicate]
    rw [← List.getD_eq_getElem?_getD]; rfl
theorem sr_single (c : El m) : sr m [zn c] = mono 0 c := by
  funext i
  show elm m ([zn c].getD i 0) = if i = 0 then c else 0
  cases i with
  | zero => rw [if_pos rfl]; exact elm_zn c
  | succ i => rw [if_neg (by omega)]; exact elm_zero
theorem mono_mul (s : Nat) (c : El m) : cv (mono s 1) (mono 0 c) = mono s c := by
  funext i
  rw [cv_mono]
  show (if i < s then 0 else 1 * (if i - s = 0 then c else 0)) = if i = s then c else 0
  by_cases h : i < s
  · rw [if_pos h, if_neg (by omega)]
  · rw [if_neg h, one_mul]
    by_cases h2 : i = s
    · rw [if_pos (by omega), if_pos h2]
    · rw [if_neg (by omega), if_neg h2]
theorem row_single (w : World) (c : Int) : RowZ (w.alloc (.cells #[.int .i64 c] 3 (0, 0))) (some ⟨w.heap.size, 0, none⟩) 1 1 [c] :=
  ⟨rfl, Nat.le_refl _, by decide, fun i hi => ⟨w.heap.size, 0, rfl, by
    obtain rfl : i = 0 := by omega
    have := cell_one_new w (.int .i64 c) 3 0 (.int .i64 c) rfl
    rwa [add_row] at this, lt_of_block (heap_alloc_new w _)⟩⟩
/-- where the reference's division stands. -/
structure RDivs (P Q A L : Ser (El m)) (e k N : Nat) : Prop where
  sum : P = padd (cv A Q) L
  low : Bd L k
  bd : Bd A (N + 1)
  free : ∀ j, j + e < k → A j = 0
theorem RDivs.next {P Q A L : Ser (El m)} {e k N s : Nat} (h : RDivs P Q A L e (k + 1) N) (hQ : Dg Q e) (hs : k = s + e) (hk : k < N) {k' : Nat} (hk' : k' ≤ k) (hb : Bd (padd L (cv (mono s (L k * (Q e)⁻¹)) Q)) k') :
    RDivs P Q (padd A (mono s (L k * (Q e)⁻¹))) (padd L (cv (mono s (L k * (Q e)⁻¹)) Q)) e k' N := by
  refine ⟨?_, hb, h.bd.add ((mono_bd _ _).mono (by omega)), fun j hj => ?_⟩
  · rw [cv_add, padd_xx, padd_comm, h.sum]
    have : padd (cv (mono s (L k * (Q e)⁻¹)) Q) (cv (mono s (L k * (Q e)⁻¹)) Q) = pz := padd_self _
    rw [this, zero_padd]
  · show A j + mono s _ j = 0
    rw [h.free j (by omega), show mono s (L k * (Q e)⁻¹) j = 0 from if_neg (by omega), Fl.add_zero]
end
end Go.Proofs.YtbgegnoenceflaaDoor.Pl
/- The statements' own polynomials (shaleref2): Derive, Roots. By the verifier of shale. -/
namespace Go.Proofs.YtbgegnoenceflaaDoor.Pl
open Go Go.RowKit Fld Bits16
set_option linter.unusedVariables false
section
variable {m : Nat} [M : Mid m]
/-- the first n numbers of a function. -/
def fnN (f : Nat → Int) (n : Nat) : List Int := (List.range n).map f
omit M in
theorem fnN_succ (f : Nat → Int) (n : Nat) : fnN f (n + 1) = fnN f n ++ [f n] := by unfold fnN; rw [List.range_succ, List.map_append]; rfl
omit M in
theorem fnN_getD (f : Nat → Int) (n i : Nat) : (fnN f n).getD i 0 = if i < n then f i else 0 := by
  unfold fnN
  rw [List.getD_eq_getElem?_getD]
  by_cases h : i < n
  · rw [if_pos h]; simp [h]
  · rw [if_neg h, List.getElem?_eq_none (by simp; omega)]; rfl
/-- the numbers of a derivative, as they stand in a list. -/
def derN (l : List Int) (i : Nat) : Int := if (i + 1) % 2 = 1 then l.getD (i + 1) 0 else 0
theorem sr_der (l : List Int) (k : Nat) (h : l.length ≤ k + 1) : sr m (fnN (derN l) k) = der (sr m l) := by
  funext i
  show elm m ((fnN (derN l) k).getD i 0) = if i % 2 = 0 then elm m (l.getD (i + 1) 0) else 0
  rw [fnN_getD]
  unfold derN
  by_cases h2 : i % 2 = 0
  · rw [if_pos h2]
    by_cases hi : i < k
    · rw [if_pos hi, if_pos (by omega)]
    · rw [if_neg hi, List.getD_eq_getElem?_getD, List.getElem?_eq_none (by omega)]; rfl
  · rw [if_neg h2]
    by_cases hi : i < k
    · rw [if_pos hi, if_neg (by omega), elm_zero]
    · rw [if_neg hi, elm_zero]
end
end Go.Proofs.YtbgegnoenceflaaDoor.Pl
/- The statements' own polynomials (shaleref2): Roots. By the verifier of shale. -/
namespace Go.Proofs.YtbgegnoenceflaaDoor.Pl
open Go Go.RowKit Fld Bits16
set_option linter.unusedVariables false
section
variable {m : Nat} [M : Mid m]
open Classical in
/-- the roots of a list of numbers, rising; none of 0. -/
noncomputable def rootsL (m : Nat) [M : Mid m] (l : List Int) : List Int := if top (sr m l) l.length = 0 then [] else intsN (rts (top (sr m l) l.length) (sr m l) (2 ^ m))
theorem rts_mono (n : Nat) (P : Ser (El m)) (j : Nat) : (rts n P j).length ≤ j := by
  induction j with
  | zero => exact Nat.le_refl _
  | succ j ih => rw [rts, List.length_append]; split <;> simp <;> omega
end
end Go.Proofs.YtbgegnoenceflaaDoor.Pl
/- The reference's greatest common divisor over a field. By the verifier of shale. -/
namespace Go.Proofs.YtbgegnoenceflaaDoor.Pl
open Go Go.RowKit Fld Bits16
set_option linter.unusedVariables false
section
variable {m : Nat} [M : Mid m]
theorem rout_le {w0 w : World} {a : Option Addr} {n c e : Nat} {p : Ser (El m)} (h : ROut m w0 w a n c p) (hb : Bd p e) : n ≤ e := by
  rw [← h.top, top_same h.bd hb]; exact top_le p e
theorem rnil (w0 w : World) : ROut m w0 w none 0 0 (pz : Ser (El m)) := ⟨⟨rfl, Nat.le_refl _, by decide, fun i hi => by omega⟩, bd_pz 0, rfl, fun bb off e => by cases e⟩
section
variable {w : World}
theorem rtrimV {k : Nat} {a : Option Addr} {n c : Nat} {p : Ser (El m)} (h1 : PV m w k a n c p) (hK2 : k ≤ 2048) :
    Calls Tryd.prog 17 #[.int .i64 (m : Int), .slice a n c] w fun e w' => ∃ a n c, e = .returned (.slice a n c) ∧ NV m w' k a n c p ∧ Below w.heap.size w w' := by
  have hb := h1.bd
  obtain ⟨l1, r1, rfl, n1⟩ := h1
  refine (rtrim_any (m := m) a n c l1 w r1 (by omega)).mono ?_
  rintro e w1 ⟨a3, n3, c3, rfl, hO, b⟩
  exact ⟨a3, n3, c3, rfl, routV hO hb, b⟩
theorem revalV {k : Nat} {a : Option Addr} {n c : Nat} {p : Ser (El m)} (x : Int) (h1 : PV m w k a n c p) :
    Calls Tryd.prog 14 #[.int .i64 (m : Int), .slice a n c, .int .i64 x] w fun e w' => e = .returned (.int .i64 (zn (ev k p (elm m x)))) ∧ Below w.heap.size w w' := by
  have hn := h1.bdn
  obtain ⟨l1, r1, rfl, n1⟩ := h1
  have := reval_any (m := m) a n c l1 x w r1
  rwa [← ev_more (elm m x) n k _ hn n1] at this
end
end
end Go.Proofs.YtbgegnoenceflaaDoor.Pl
/- The ring that a statement makes, and the examples of chapter 4. By the verifier of shale. -/
namespace Go.Proofs.YtbgegnoenceflaaDoor.Pl
open Go Go.RowKit Fld Bits16
set_option linter.unusedVariables false
/-- the m that a statement makes of any number. -/
def rm (z : Int) : Nat := (z % 6).toNat + 3
instance (z : Int) : Mid (rm z) := ⟨by unfold rm; omega, by unfold rm; omega⟩
theorem rm_hi (z : Int) : rm z ≤ 8 := by unfold rm; omega
/-- the ring's answer. -/
def RingMade (m : Nat) (w : World) (e : Ending) (w' : World) : Prop := ∃ g s be ce bl, e = .returned (.tuple #[.pointer (some ⟨g, 0, none⟩), .int .i64 (m : Int)]) ∧ RingAt m w' g s be ce bl ∧ Below w.heap.size w w'
theorem lit_new (w W : World) (l : List Int) (n : Nat) (hn : n = l.length) (hm : n ≤ 1000) (hW : W = w.alloc (obj64 l)) : RowZ W (some ⟨w.heap.size, 0, none⟩) n n l ∧ Below w.heap.size w W ∧ W.heap.size = w.heap.size + 1 := by
  subst hW
  refine ⟨?_, (Below.refl _ _).alloc (Nat.le_refl _) _, Array.size_push _⟩
  subst hn
  exact Blk64.rowz (Blk64.new w l) (by omega)
section
variable {m : Nat} [M : Mid m]
theorem RowZ.pv {w : World} {a : Option Addr} {n c : Nat} {l : List Int} (h : RowZ w a n c l) (p : Ser (El m)) (e : sr m l = p) (K : Nat) (hK : n ≤ K) : PV m w K a n c p := ⟨l, h, e, hK⟩
theorem RowZ.nv {w : World} {a : Option Addr} {n c : Nat} {l : List Int} (h : RowZ w a n c l) (e : nums (sr m l) l.length = l) (ht : Pl.top (sr m l) l.length = l.length) : NV m w n a n c (sr m l) := by
  have hl := h.hlen
  subst hl
  exact ⟨by rw [e]; exact h, sr_bd l, ht, Nat.le_refl _⟩
theorem ser_ext {p q : Ser (El m)} {n : Nat} (hp : Bd p n) (hq : Bd q n) (h : ∀ i, i < n → p i = q i) : p = q := by
  funext i
  by_cases hi : i < n
  · exact h i hi
  · rw [hp i (by omega), hq i (by omega)]
end
instance : Mid 4 := ⟨by decide, by decide⟩
abbrev s4 (l : List Int) : Ser (El 4) := sr 4 l
theorem s4_bd (l : List Int) (n : Nat) (h : l.length ≤ n) : Bd (s4 l) n := (sr_bd l).mono h
theorem y1 : cv (s4 [1, 1]) (s4 [1, 1]) = s4 [1, 0, 1] :=
  ser_ext (n := 4) (cvK (s4_bd _ 2 (by decide)) (s4_bd _ 2 (by decide)) (by decide)) (s4_bd _ 4 (by decide)) (by decide +kernel)
theorem y2 : Dv2 (s4 [0, 0, 1]) (s4 [1, 1]) (s4 [1, 1]) (s4 [1]) 1 := by
  refine ⟨?_, ⟨2, s4_bd _ 2 (by decide)⟩, s4_bd _ 1 (by decide)⟩
  exact ser_ext (n := 4) (s4_bd _ 4 (by decide)) ((cvK (s4_bd _ 2 (by decide)) (s4_bd _ 2 (by decide)) (by decide)).add (s4_bd _ 4 (by decide))) (by decide +kernel)
theorem dg11 : Dg (s4 [1, 1]) 1 := ⟨by decide +kernel, s4_bd _ 2 (by decide)⟩
theorem y3 : pls (m := 4) [2, 3] 2 = s4 [6, 1, 1] :=
  ser_ext (n := 4) ((pls_bd _ 2).mono (by decide)) (s4_bd _ 4 (by decide)) (by decide +kernel)
theorem y4 : pls (m := 4) [3, 5] 2 = s4 [15, 6, 1] :=
  ser_ext (n := 4) ((pls_bd _ 2).mono (by decide)) (s4_bd _ 4 (by decide)) (by decide +kernel)
theorem y5 : IsG (s4 [6, 1, 1]) (s4 [15, 6, 1]) (s4 [3, 1]) := by
  have b2 := s4_bd [2, 1] 2 (by decide)
  have b3 := s4_bd [3, 1] 2 (by decide)
  have b5 := s4_bd [5, 1] 2 (by decide)
  have e1 : s4 [6, 1, 1] = cv (s4 [2, 1]) (s4 [3, 1]) := ser_ext (n := 4) (s4_bd _ 4 (by decide)) (cvK b2 b3 (by decide)) (by decide +kernel)
  have e2 : s4 [15, 6, 1] = cv (s4 [5, 1]) (s4 [3, 1]) := ser_ext (n := 4) (s4_bd _ 4 (by decide)) (cvK b5 b3 (by decide)) (by decide +kernel)
  have e3 : psm (elm 4 7)⁻¹ (padd (s4 [6, 1, 1]) (s4 [15, 6, 1])) = s4 [3, 1] := ser_ext (n := 4) (((s4_bd _ 4 (by decide)).add (s4_bd _ 4 (by decide))).sm _) (s4_bd _ 4 (by decide)) (by decide +kernel)
  refine ⟨⟨⟨_, 2, b2, e1⟩, ⟨_, 2, b5, e2⟩, fun c h k => ?_⟩, Or.inr ⟨1, ⟨by decide +kernel, b3⟩, by decide +kernel⟩⟩
  have := (h.add k).sm (elm 4 7)⁻¹
  rwa [e3] at this
theorem y6 : der (s4 [1, 2, 3, 4]) = s4 [2, 0, 4] :=
  ser_ext (n := 4) (der_bdK (s4_bd _ 4 (by decide))) (s4_bd _ 4 (by decide)) (by decide +kernel)
theorem y7 : zn (ev 3 (s4 [1, 1, 1]) (elm 4 2)) = 7 := by decide +kernel
theorem rm1 : rm 1 = 4 := by decide
end Go.Proofs.YtbgegnoenceflaaDoor.Pl
/- The contract of package locate's Of. By the verifier of shale. -/
namespace Go.Proofs.YtbgegnoenceflaaDoor.Loc
open Go Go.RowKit Pl Fld Bits16
set_option linter.unusedVariables false
section
variable {m : Nat} [M : Mid m]
theorem row_one (w : World) : RowZ (w.alloc (.cells #[.int .i64 1] 3 (0, 0))) (some ⟨w.heap.size, 0, none⟩) 1 1 [1] := by
  refine ⟨rfl, Nat.le_refl _, by decide, fun i hi => ?_⟩
  obtain rfl : i = 0 := by omega
  refine ⟨_, _, rfl, ?_, ?_⟩
  · unfold World.cell?
    simp only
    rw [heap_alloc_new]; rfl
  · show _ < (w.heap.push _).size
    rw [Array.size_push]; omega
theorem sr_one : sr m [1] = pone := funext fun i => by
  show elm m ([1].getD i 0) = (if i = 0 then 1 else 0)
  rcases i with _ | i
  · rw [if_pos rfl]; exact elm_zn (1 : El m)
  · rw [if_neg (by omega)]; exact elm_zero
/-- an element by its exponent. -/
def exK (m : Nat) [M : Mid m] (z : Int) : El m := ⟨pwZ m z, pwZ_lt m M.lo M.hi z⟩
theorem exK_ne (z : Int) : exK m z ≠ 0 := fun e => pwZ_ne m M.lo M.hi z (congrArg Subtype.val e)
theorem sr_two (e : El m) : sr m [1, zn e] = two e := funext fun i => by
  show elm m ([1, zn e].getD i 0) = (if i = 0 then 1 else if i = 1 then e else 0)
  rcases i with _ | _ | i
  · rw [if_pos rfl]; exact elm_zn (1 : El m)
  · rw [if_neg (by omega), if_pos rfl]; exact elm_zn e
  · rw [if_neg (by omega), if_neg (by omega)]; exact elm_zero
theorem NV.tight {w : World} {K K' : Nat} {a : Option Addr} {n c : Nat} {p : Ser (El m)} (h : NV m w K a n c p) (hb : Bd p K') : NV m w K' a n c p :=
  ⟨h.row, h.bd, h.top, by rw [← h.top, top_same h.bd hb]; exact top_le p K'⟩
/-- the polynomial of places. -/
def lamZ (m : Nat) [M : Mid m] (l : List Int) : Ser (El m) := lam (l.map (exK m))
theorem lamZ_bd (l : List Int) : Bd (lamZ m l) (l.length + 1) := by
  have := (lam_dg (l.map (exK m)) (fun a ha => by obtain ⟨z, _, rfl⟩ := List.mem_map.1 ha; exact exK_ne z)).1.2
  rwa [List.length_map] at this
theorem lamZ_snoc (l : List Int) (z : Int) : lamZ m (l ++ [z]) = cv (lamZ m l) (two (exK m z)) := by
  unfold lamZ; rw [List.map_append]; exact lam_snoc _ _
theorem take_snoc (l : List Int) (j : Nat) (hj : j < l.length) : l.take (j + 1) = l.take j ++ [l.getD j 0] := by
  rw [List.take_add_one, List.getElem?_eq_getElem hj, List.getD_eq_getElem?_getD, List.getElem?_eq_getElem hj]; rfl
theorem nv_one {w : World} {a : Option Addr} (h : RowZ w a 1 1 [1]) : NV m w 1 a 1 1 pone := by
  have e := sr_one (m := m)
  have := RowZ.nv (m := m) h (by rw [e]; rfl) (by rw [e]; exact top_some (p := (pone : Ser (El m))) (n := 0) Fl.one_ne)
  rwa [e] at this
set_option maxRecDepth 100000 in
set_option maxHeartbeats 1000000 in
theorem of_any {s be ce bl : Nat} (a : Option Addr) (n c : Nat) (l : List Int) (w : World) (F : FldAt m w s be ce bl) (r : RowZ w a n c l) (hn : n ≤ 40) :
    Calls Tryd.prog 16 #[.pointer (some ⟨s, 0, none⟩), .slice a n c] w fun e w' => ∃ a' n' c', e = .returned (.tuple #[.slice a' n' c', .nilIface]) ∧ NV m w' (n + 1) a' n' c' (lamZ m l) ∧ Below w.heap.size w w' := by
  have HF := Lib.hid F
  have HR := Lib.hid r
  have x1 : ¬ ((40 : Int) < (n : Int)) := by omega
  clear F r
  go_enter Tryd.func16, Tryd.ntmps16
  go_wp2_with fail
  refine (pnew_any w HF.out).mono ?_
  rintro e w1 ⟨g, rfl, R, b1⟩
  clear x1
  have hz1 := row_one w1
  have b2 : Below w1.heap.size w1 (w1.alloc (.cells #[.int .i64 1] 3 (0, 0))) := (Below.refl _ _).alloc (Nat.le_refl _) _
  have R2 := R.below b2
  have B2 := b1.trans (b2.mono b1.size)
  have H0 : Hid (NV m (w1.alloc (.cells #[.int .i64 1] 3 (0, 0))) 1 (some ⟨w1.heap.size, 0, none⟩) 1 1 pone ∧ RingAt m (w1.alloc (.cells #[.int .i64 1] 3 (0, 0))) g s be ce bl ∧ Below w.heap.size w (w1.alloc (.cells #[.int .i64 1] 3 (0, 0)))) := ⟨nv_one hz1, R2, B2⟩
  clear R hz1 b1 b2 R2 B2
  go_wp2_with fail
  go_loopg [7, 21] n (fun gh s7 s21 wx => ∃ (j : Nat) (a1 : Option Addr) (n1 c1 : Nat), gh = n - j ∧ j ≤ n ∧ s21 = .int .i64 (j : Int) ∧ s7 = .slice a1 n1 c1 ∧ NV m wx (j + 1) a1 n1 c1 (lamZ m (l.take j)) ∧ RingAt m wx g s be ce bl ∧ Below w.heap.size w wx)
  case atStart => exact ⟨0, _, _, _, rfl, Nat.zero_le _, rfl, rfl, H0.out.1, H0.out.2.1, H0.out.2.2⟩
  case round =>
    clear H0
    obtain ⟨j, a1, n1, c1, hg, hj, rfl, rfl, nv, R, B⟩ := hrel
    have HG := Lib.hid hg
    clear hg
    by_cases hlt : j < n
    · have x0 : (j : Int) < (n : Int) := by omega
      have x1 : (0 : Int) ≤ (j : Int) := by omega
      obtain ⟨bb, off, rfl, cc, _⟩ := (HR.out.below B).row j hlt
      have HL : Hid (lamZ m (l.take (j + 1)) = cv (lamZ m (l.take j)) (two (exK m (l.getD j 0))) ∧ Bd (lamZ m (l.take (j + 1))) (j + 1 + 1)) := by
        refine ⟨by rw [take_snoc l j (by have := HR.out.hlen; omega), lamZ_snoc], ?_⟩
        have := lamZ_bd (m := m) (l.take (j + 1))
        rwa [List.length_take, show min (j + 1) l.length = j + 1 by have := HR.out.hlen; omega] at this
      have HV := Lib.hid (And.intro nv (And.intro R B))
      generalize l.getD j 0 = z at cc HL
      clear nv R B
      go_wp2_with fail
      refine (fexp_any M.lo M.hi z wr HV.out.2.1.2).mono ?_
      rintro e w3 ⟨rfl, rfl⟩
      clear cc
      go_wp2_with fail
      generalize hw : wr.alloc (.cells #[.int .i64 1, .int .i64 (h (pwZ m z))] 3 (0, 0)) = w4
      obtain ⟨hl, b4, hs⟩ := lit_new wr w4 [1, h (pwZ m z)] 2 rfl (by decide) hw.symm
      clear hw hs
      have hp : PV m w4 2 (some ⟨wr.heap.size, 0, none⟩) 2 2 (two (exK m z)) := hl.pv _ (sr_two (exK m z)) 2 (Nat.le_refl _)
      have R4 := HV.out.2.1.below b4
      have B4 := HV.out.2.2.trans (b4.mono HV.out.2.2.size)
      refine (mulV R4 (j + 3) (HV.out.1.below b4).pol hp (by omega) (by omega)).mono ?_
      rintro e w5 ⟨a5, n5, c5, rfl, nv5, b5⟩
      rw [← HL.out.1] at nv5
      have HN : Hid (NV m w5 (j + 1 + 1) a5 n5 c5 (lamZ m (l.take (j + 1))) ∧ RingAt m w5 g s be ce bl ∧ Below w.heap.size w w5) := ⟨NV.tight nv5 HL.out.2, R4.below b5, B4.trans (b5.mono B4.size)⟩
      clear hl b4 hp R4 B4 nv5 b5 HL HV
      go_wp2_with fail
      go_roundg (n - (j + 1))
      case measure => have := HG.out; omega
      case rel => exact ⟨j + 1, a5, n5, c5, rfl, hlt, by go_num, rfl, HN.out.1, HN.out.2.1, HN.out.2.2⟩
    · obtain rfl : j = n := by omega
      have e1 : l.take j = l := List.take_of_length_le (by have := HR.out.hlen; omega)
      rw [e1] at nv
      have HN := Lib.hid (And.intro nv B)
      clear nv R B e1
      go_wp2_with fail
      go_ret2
      exact ⟨_, _, _, rfl, HN.out.1, HN.out.2⟩
theorem of_long {s : Nat} (a : Option Addr) (n c : Nat) (w : World) (hn : 40 < n) (x : Addr) (E : ErrAt w 0 x) :
    Calls Tryd.prog 16 #[.pointer (some ⟨s, 0, none⟩), .slice a n c] w fun e w' => e = .returned (.tuple #[.slice none 0 0, errOf x]) ∧ Drawn w w' := by
  have e1 := E.1
  unfold Sent at e1
  have x1 : (40 : Int) < (n : Int) := by omega
  clear E
  go_enter Tryd.func16, Tryd.ntmps16
  go_wp2_with fail
  go_quiet (fail)
  go_wp2_with fail
  go_ret2
  exact ⟨rfl, Drawn.mk _ _⟩
end
end Go.Proofs.YtbgegnoenceflaaDoor.Loc
/- Where a polynomial is 0: places, their number, values as sums of terms. No program is named here. By the verifier of shale. -/
namespace Go.Proofs.YtbgegnoenceflaaDoor.Sea
open Go Go.RowKit Pl Fld Bits16 Loc
set_option linter.unusedVariables false
section
variable {m : Nat} [M : Mid m]
/-- the point of place i. -/
def pt (m : Nat) [M : Mid m] (i : Nat) : El m := exK m (-(i : Int))
theorem pt_ne (i : Nat) : pt m i ≠ 0 := exK_ne _
theorem exK_mul (x y : Int) : exK m x * exK m y = exK m (x + y) := El.ext (pwZ_mul m M.lo M.hi x y)
theorem exK_zero : exK m 0 = 1 := El.ext (by
  show pwZ m 0 = 1
  have := pwZ_nat m M.lo M.hi 0
  rw [show ((0 : Nat) : Int) = 0 from rfl] at this
  rw [this]; rfl)
theorem pt_pow (i j : Nat) : pwK (pt m i) j = exK m (-((i : Int) * (j : Int))) := by
  induction j with
  | zero =>
    show (1 : El m) = _
    rw [show (-((i : Int) * ((0 : Nat) : Int))) = 0 by simp, exK_zero]
  | succ j ih =>
    show pt m i * pwK (pt m i) j = _
    rw [ih]
    unfold pt
    rw [exK_mul]
    congr 1
    rw [Int.natCast_succ, Int.mul_add]; omega
theorem exK_inj {i j : Nat} (hi : i < size m) (hj : j < size m) (e : pt m i = pt m j) : i = j := by
  have h1 : exK m (i : Int) * pt m i = 1 := by unfold pt; rw [exK_mul, show (i : Int) + -(i : Int) = 0 by omega, exK_zero]
  have h2 : exK m (j : Int) * pt m j = 1 := by unfold pt; rw [exK_mul, show (j : Int) + -(j : Int) = 0 by omega, exK_zero]
  have h3 : exK m (i : Int) = exK m (j : Int) := by
    rw [e] at h1
    have : exK m (i : Int) * pt m j * exK m (j : Int) = exK m (j : Int) := by rw [h1, one_mul]
    rw [Fl.mul_assoc, Fl.mul_comm (pt m j), h2, Fl.mul_one] at this
    exact this
  have h4 : pw m i = pw m j := by
    have := congrArg Subtype.val h3
    show pw m i = pw m j
    rw [← pwZ_nat m M.lo M.hi i, ← pwZ_nat m M.lo M.hi j]; exact this
  exact pw_inj m M.lo M.hi i j hi hj h4
/-- the first n at which f says so. -/
def hits (f : Nat → Bool) (n : Nat) : List Nat := (List.range n).filter f
theorem hits_succ (f : Nat → Bool) (n : Nat) : hits f (n + 1) = hits f n ++ if f n then [n] else [] := by
  unfold hits
  rw [List.range_succ, List.filter_append]
  congr 1
  cases h : f n <;> simp [h]
theorem hits_mem {f : Nat → Bool} {n i : Nat} : i ∈ hits f n ↔ i < n ∧ f i = true := by unfold hits; simp
theorem hits_nodup (f : Nat → Bool) (n : Nat) : (hits f n).Nodup := List.nodup_range.filter _
theorem hits_len (f : Nat → Bool) (n : Nat) : (hits f n).length ≤ n := by
  have := List.length_filter_le f (List.range n)
  rw [List.length_range] at this
  exact this
/-- is it 0 at place i? -/
def zAt (p : Ser (El m)) (K : Nat) (i : Nat) : Bool := zn (ev K p (pt m i)) == 0
theorem zAt_iff (p : Ser (El m)) (K i : Nat) : zAt p K i = true ↔ ev K p (pt m i) = 0 := by
  unfold zAt
  rw [zn_eq0]
  simp
theorem hits_few {p : Ser (El m)} {d : Nat} (hp : Dg p d) {n : Nat} (hn : n ≤ size m) : (hits (zAt p (d + 1)) n).length ≤ d := by
  have h := roots_le d p ((hits (zAt p (d + 1)) n).map (pt m)) hp (by
    have hnd := hits_nodup (zAt p (d + 1)) n
    have hlt : ∀ i ∈ hits (zAt p (d + 1)) n, i < size m := fun i hi => by have := (hits_mem.1 hi).1; omega
    generalize hits (zAt p (d + 1)) n = l at hnd hlt
    induction l with
    | nil => exact List.nodup_nil
    | cons x l ih =>
      rw [List.nodup_cons] at hnd
      show (pt m x :: l.map (pt m)).Nodup
      rw [List.nodup_cons]
      refine ⟨fun hx => hnd.1 ?_, ih hnd.2 fun i hi => hlt i (List.mem_cons_of_mem _ hi)⟩
      obtain ⟨y, hy, e⟩ := List.mem_map.1 hx
      have := exK_inj (hlt y (List.mem_cons_of_mem _ hy)) (hlt x (List.mem_cons_self ..)) e
      rwa [← this]) fun a ha => by
    obtain ⟨i, hi, rfl⟩ := List.mem_map.1 ha
    exact (zAt_iff _ _ _).1 (hits_mem.1 hi).2
  rwa [List.length_map] at h
/-- behind the last root nothing more is found. -/
theorem hits_stop {f : Nat → Bool} {d k n : Nat} (hk : k ≤ n) (h1 : (hits f k).length = d) (h2 : (hits f n).length ≤ d) : hits f n = hits f k := by
  obtain ⟨j, rfl⟩ : ∃ j, n = k + j := ⟨n - k, by omega⟩
  clear hk
  induction j with
  | zero => rfl
  | succ j ih =>
    have h3 : (hits f (k + j)).length ≤ d := by
      rw [show k + (j + 1) = (k + j) + 1 from rfl, hits_succ, List.length_append] at h2; omega
    have e := ih h3
    rw [show k + (j + 1) = (k + j) + 1 from rfl, hits_succ] at h2 ⊢
    rw [e] at h2 ⊢
    rw [List.length_append, h1] at h2
    have : (if f (k + j) = true then [k + j] else []).length = 0 := by omega
    rw [List.eq_nil_of_length_eq_zero this, List.append_nil]
/-! ### a value as a sum of terms -/
def evs (p : Ser (El m)) (x : El m) : Nat → El m
  | 0 => 0
  | n + 1 => evs p x n + p n * pwK x n
theorem evs_tl (p : Ser (El m)) (x : El m) : ∀ n, evs p x (n + 1) = p 0 + x * evs (tl p) x n
  | 0 => by
    show (0 : El m) + p 0 * 1 = p 0 + x * 0
    rw [zero_add, Fl.mul_one, Pl.mul_zero, Fl.add_zero]
  | n + 1 => by
    show evs p x (n + 1) + p (n + 1) * pwK x (n + 1) = p 0 + x * (evs (tl p) x n + p (n + 1) * pwK x n)
    rw [evs_tl p x n, Fl.mul_add, Fl.add_assoc]
    congr 2
    show p (n + 1) * (x * pwK x n) = x * (p (n + 1) * pwK x n)
    ac_rfl
theorem ev_evs (x : El m) : ∀ (n : Nat) (p : Ser (El m)), ev n p x = evs p x n
  | 0, _ => rfl
  | n + 1, p => by rw [evs_tl, ← ev_evs x n (tl p)]; rfl
/-- the places of coefficients that are not 0. -/
def nz (p : Ser (El m)) (n : Nat) : List Nat := hits (fun j => !decide (p j = 0)) n
/-- the sum of the terms at these. -/
def tsum (p : Ser (El m)) (x : El m) (l : List Nat) : El m := l.foldl (fun v j => v + p j * pwK x j) 0
theorem tsum_snoc (p : Ser (El m)) (x : El m) (l : List Nat) (j : Nat) : tsum p x (l ++ [j]) = tsum p x l + p j * pwK x j := by unfold tsum; rw [List.foldl_append]; rfl
theorem tsum_nz (p : Ser (El m)) (x : El m) : ∀ n, tsum p x (nz p n) = ev n p x := by
  intro n
  rw [ev_evs]
  induction n with
  | zero => rfl
  | succ n ih =>
    unfold nz at ih ⊢
    rw [hits_succ]
    by_cases h : p n = 0
    · rw [show (!decide (p n = 0)) = false by simp [h]]
      show tsum p x (_ ++ []) = evs p x n + p n * pwK x n
      rw [List.append_nil, ih, h, zero_mul, Fl.add_zero]
    · rw [show (!decide (p n = 0)) = true by simp [h]]
      show tsum p x (_ ++ [n]) = _
      rw [tsum_snoc, ih]; rfl
/-- the logarithm of a term. -/
def lgt (p : Ser (El m)) (i j : Nat) : Int := (lg m (p j).val : Int) - (i : Int) * (j : Int)
theorem lgt_exp {p : Ser (El m)} {j : Nat} (h0 : p j ≠ 0) (i : Nat) : exK m (lgt p i j) = p j * pwK (pt m i) j := by
  have e1 : p j = exK m (lg m (p j).val : Int) := El.ext (by
    show (p j).val = pwZ m _
    rw [pwZ_nat m M.lo M.hi]
    exact (lg_spec m M.lo M.hi _ (p j).2 (fun e => h0 (El.ext e))).2.symm)
  rw [pt_pow]
  conv => rhs; rw [e1]
  rw [exK_mul]; rfl
omit M in
theorem lgt_succ (p : Ser (El m)) (i j : Nat) : lgt p (i + 1) j = lgt p i j - (j : Int) := by
  unfold lgt
  rw [show ((i + 1 : Nat) : Int) = (i : Int) + 1 from rfl, Int.add_mul]; omega
/-- the logarithms: the first q of them of the next place already. -/
def lgs (p : Ser (El m)) (l : List Nat) (i q : Nat) : List Int := (List.range l.length).map fun k => lgt p (if k < q then i + 1 else i) (l.getD k 0)
omit M in
theorem lgs_length (p : Ser (El m)) (l : List Nat) (i q : Nat) : (lgs p l i q).length = l.length := by simp [lgs]
omit M in
theorem lgs_at (p : Ser (El m)) (l : List Nat) (i q k : Nat) (hk : k < l.length) (hq : q ≤ k) : (lgs p l i q).getD k 0 = lgt p i (l.getD k 0) := by
  simp only [lgs, List.getD_eq_getElem?_getD, List.getElem?_map, List.getElem?_range hk, Option.map_some, Option.getD_some]
  rw [if_neg (by omega)]
omit M in
theorem lgs_all (p : Ser (El m)) (l : List Nat) (i : Nat) : lgs p l i l.length = lgs p l (i + 1) 0 := by
  unfold lgs
  refine List.map_congr_left fun k hk => ?_
  rw [if_pos (List.mem_range.1 hk), if_neg (by omega)]
omit M in
theorem lgs_set (p : Ser (El m)) (l : List Nat) (i q : Nat) : (lgs p l i q).set q (lgt p i (l.getD q 0) - ((l.getD q 0 : Nat) : Int)) = lgs p l i (q + 1) := by
  apply List.ext_getElem
  · simp [lgs]
  · intro k h1 h2
    rw [List.getElem_set]
    simp only [lgs, List.getElem_map, List.getElem_range]
    by_cases e : q = k
    · subst e; rw [if_pos rfl, if_pos (by omega), lgt_succ]
    · rw [if_neg e]
      by_cases h : k < q
      · rw [if_pos h, if_pos (by omega)]
      · rw [if_neg h, if_neg (by omega)]
omit M in
theorem lgs_zero (p : Ser (El m)) (l : List Nat) : lgs p l 0 0 = l.map fun j => (lg m (p j).val : Int) := by
  apply List.ext_getElem
  · simp [lgs]
  · intro k h1 h2
    have hk : k < l.length := by simpa [lgs] using h1
    simp only [lgs, List.getElem_map, List.getElem_range]
    rw [if_neg (by omega)]
    have e : l.getD k 0 = l[k] := by rw [List.getD_eq_getElem?_getD, List.getElem?_eq_getElem hk]; rfl
    rw [e]
    unfold lgt
    simp
end
end Go.Proofs.YtbgegnoenceflaaDoor.Sea
/- A range over a function whose iterator keeps state in cells of its own: one invariant for what the iterator and the body hold together, all of it below the blocks that the loop itself lays. By the verifier of shale. -/
namespace Go.Proofs.YtbgegnoenceflaaDoor
open Go Go.RowKit
set_option linter.unusedVariables false
/-- what lies at or above B and was there lies as it lay. -/
structure Hi (B : Nat) (W W' : World) : Prop where
  size : W.heap.size ≤ W'.heap.size
  same : ∀ k, B ≤ k → k < W.heap.size → W'.heap[k]? = W.heap[k]?
theorem Hi.refl (B : Nat) (W : World) : Hi B W W := ⟨Nat.le_refl _, fun _ _ _ => rfl⟩
theorem Hi.trans {B : Nat} {X Y Z : World} (h : Hi B X Y) (k : Hi B Y Z) : Hi B X Z :=
  ⟨Nat.le_trans h.size k.size, fun i hB hi => (k.same i hB (Nat.lt_of_lt_of_le hi h.size)).trans (h.same i hB hi)⟩
theorem Hi.below {B : Nat} {W W' : World} (h : Below W.heap.size W W') : Hi B W W' := ⟨h.size, fun k _ hk => h.block k hk⟩
theorem Hi.setCell {B : Nat} (W : World) (p : Addr) (u : Value) (hp : p.block < B) : Hi B W (W.setCell p u) :=
  ⟨by simp [World.setCell], fun k hB _ => Below.heap_setCell _ _ _ _ (by omega)⟩
def Stays (B : Nat) (K : World → Prop) : Prop := ∀ W W', K W → Hi B W W' → K W'
/-- a predicate of what lies below B. -/
def Low (B : Nat) (I : World → Prop) : Prop := ∀ W W', I W → Below B W W' → I W'
/-- how the body of a round may be left; Kp: what a round that goes on keeps for the iterator. -/
def leftBy {α : Type} (B : Nat) (Kp : World → World → Prop) (I : List α → World → Prop) (Ix : Code → List α → World → Prop) (xs : List α) (W : World) : Exit → Act → World → Prop
  | .normal, _, W' => Hi B W W' ∧ Kp W W' ∧ I xs W'
  | .ret, _, W' => Hi B W W' ∧ Ix .ret xs W'
  | .exit id, _, W' => Hi B W W' ∧ Ix (.exit id) xs W'
  | .goto t, _, W' => Hi B W W' ∧ Ix (.goto t) xs W'
  | .panic _, _, _ => False
  | .outgrown, _, _ => False
/-- the iterator's side: it calls yield at each, carries I on, and leaves alone what lies at or above B. -/
def Iterates {α : Type} (n : Nat) (P : Program) (gf : Nat) (lb : Array Value) (encs : α → Array Value) (B N : Nat) (Kp : World → World → Prop) (I : List α → World → Prop) (Ix : Code → List α → World → Prop) (S Sp : List α → Prop) (w : World) : Prop :=
  ∀ (l : Nat) (K : World → Prop) (Kx : Code → World → Prop) (W : World), Below B w W → Stays B K → (∀ c, Stays B (Kx c)) →
    (∀ pre x W1, I pre W1 → K W1 → pre.length < N → YieldAt Fence.wide n P l (encs x) W1 fun e W' =>
      (e = .returned (.bool true) ∧ I (pre ++ [x]) W' ∧ Kp W1 W' ∧ K W') ∨ (e = .returned (.bool false) ∧ ∃ c, Ix c (pre ++ [x]) W' ∧ Kx c W')) →
    I [] W → K W →
    CallsIn Fence.wide n P gf (#[.func (.yield l) #[] #[]] ++ lb) W fun e W' => (∃ v, e = .returned v) ∧
      ((∃ xs, S xs ∧ I xs W' ∧ K W') ∨ (∃ pre c, Sp pre ∧ Ix c pre W' ∧ Kx c W'))
/-- whatever lies below B, block s aside, lies as it lay. -/
structure Others (B s : Nat) (W W' : World) : Prop where
  size : W.heap.size ≤ W'.heap.size
  same : ∀ k, k < B → k ≠ s → W'.heap[k]? = W.heap[k]?
theorem Others.trans {B s : Nat} {X Y Z : World} (h : Others B s X Y) (k : Others B s Y Z) : Others B s X Z :=
  ⟨Nat.le_trans h.size k.size, fun i hi hs => (k.same i hi hs).trans (h.same i hi hs)⟩
theorem Others.below {B s : Nat} {X Y : World} (h : Below B X Y) : Others B s X Y := ⟨h.size, fun k hk _ => h.block k hk⟩
theorem Others.setCell {B s : Nat} (W : World) (p : Addr) (u : Value) (hp : p.block = s) : Others B s W (W.setCell p u) :=
  ⟨by simp [World.setCell], fun k _ hs => Below.heap_setCell _ _ _ _ (by omega)⟩
theorem roundIn_wide {n m : Nat} {P : Program} {l : Nat} {f : FuncId} {tmps : Array Value} {assign body : Code} {w : World} {R : Ending → World → Prop}
    (h : RoundIn Fence.wide n P l f tmps assign body w R) : RoundIn Fence.wide m P l f tmps assign body w R := ⟨h.1, fun c cs _ => h.2 c cs (room_wide _)⟩
/-- **THE STATEMENT.** -/
theorem range_own {α : Type} {n : Nat} {P : Program} {g : Operand} {ps : Array Tmp} {assign body : Code} {Q : Exit → Act → World → Prop} {a : Act} {w : World}
    {gf : Nat} {lb : Array Value} (hg : a.eval g = .func (.func gf) #[] lb) (eg : ∀ args w, (callFunc gf args).run P w = .ok (.enter gf args) w)
    {encs : α → Array Value} (hps : ∀ x, (encs x).size = ps.size) {N : Nat} {S Sp : List α → Prop}
    (Kp : World → World → Prop) (hKt : ∀ {X Y Z : World}, Kp X Y → Kp Y Z → Kp X Z) (hKb : ∀ {X Y : World}, Below w.heap.size X Y → Kp X Y)
    (I : List α → World → Prop) (Ix : Code → List α → World → Prop) (hI : ∀ pre, Low w.heap.size (I pre)) (hIx : ∀ c pre, Low w.heap.size (Ix c pre)) (h0 : I [] w)
    (hit : Iterates (n - 1) P gf lb encs w.heap.size N Kp I Ix S Sp w) (a₁ : α → Act)
    (hassign : ∀ (l : Nat) (x : α) (W : World) (K : Act → World → Prop), K (a₁ x) W →
      assign.wpIn (Fence.wide.inRound l) (n - 1) P (Exit.then K (fun _ _ _ => False)) { tmps := (ps.zip (encs x)).foldl (fun t (p, v) => t.setIfInBounds p v) a.tmps, defers := [] } W)
    (hbody : ∀ (l : Nat) (pre : List α) (x : α) (W : World), I pre W → pre.length < N → body.wpIn (Fence.wide.inRound l) (n - 1) P (leftBy w.heap.size Kp I Ix (pre ++ [x]) W) (a₁ x) W)
    (hdone : ∀ (D : Nat) (xs : List α) (W : World), w.heap.size ≤ D → D < W.heap.size → S xs → I xs W → W.heap[D]? = some (.deferred (some [])) → Q .normal { a with defers := { target := .collected D, args := #[] } :: a.defers } W)
    (hstop : ∀ (D : Nat) (c : Code) (pre : List α) (W : World), w.heap.size ≤ D → D < W.heap.size → Sp pre → Ix c pre W → W.heap[D]? = some (.deferred (some [])) → c.wpIn Fence.wide n P Q { a with defers := { target := .collected D, args := #[] } :: a.defers } W) :
    (Code.rangeFunc g ps assign body).wpIn Fence.wide n P Q a w := by
  refine wpIn_rangeFunc ?_
  intro fn hfn
  let B := w.heap.size
  let rec' : LoopState → Option Code → Loop := fun st pe => { state := st, pending := pe, fn, tmps := a.tmps, params := ps, assign, body, defers := B }
  obtain ⟨W1, hW1⟩ : ∃ W1, (w.alloc (.deferred (some []))).alloc (.loop (rec' .ready none)) = W1 := ⟨_, rfl⟩
  have hbel : Below B w W1 := by rw [← hW1]; exact ((Below.refl _ _).alloc (Nat.le_refl _) _).alloc (by simp) _
  have hD1 : W1.heap[B]? = some (.deferred (some [])) := by
    rw [← hW1]; exact (Below.heap_alloc _ _ _ (by simp [B])).trans (World.alloc_heap_new w _)
  have hL1 : W1.heap[B + 1]? = some (.loop (rec' .ready none)) := by
    rw [← hW1]
    have := World.alloc_heap_new (w.alloc (.deferred (some []))) (.loop (rec' .ready none))
    rwa [World.size_alloc] at this
  -- the two blocks of the loop's own, in whatever state
  let At : LoopState → Option Code → World → Prop := fun st pe W => W.heap[B + 1]? = some (.loop (rec' st pe)) ∧ W.heap[B]? = some (.deferred (some []))
  have hAt : ∀ st pe, Stays B (At st pe) := by
    intro st pe X Y h k
    exact ⟨(k.same _ (by omega) (Array.getElem?_eq_some_iff.1 h.1).1).trans h.1, (k.same _ (Nat.le_refl _) (Array.getElem?_eq_some_iff.1 h.2).1).trans h.2⟩
  -- a turn of the record
  have turn : ∀ (W : World) (st st' : LoopState) (pe pe' : Option Code), At st pe W → At st' pe' (W.putObj (B + 1) (.loop (rec' st' pe'))) ∧ Below B W (W.putObj (B + 1) (.loop (rec' st' pe'))) := by
    intro W st st' pe pe' h
    have hlt := (Array.getElem?_eq_some_iff.1 h.1).1
    refine ⟨⟨World.putObj_heap_same hlt, (World.putObj_heap_other (by omega)).trans h.2⟩, ⟨rfl, rfl, rfl, by simp, fun k hk => World.putObj_heap_other (by omega)⟩⟩
  refine ⟨B + 1, [{ target := .collected B, args := #[] }], W1, { target := .fn (.func gf) lb, args := #[.func (.yield (B + 1)) #[] #[]] }, W1, gf, #[.func (.yield (B + 1)) #[] #[]] ++ lb, W1, ?_, ?_, ?_, ?_, fun h => by simp [Fence.wide] at h, ?_⟩
  · rw [← hW1]; exact run_enterLoop_outer _ _ _ _ _
  · simp only [resolve, hg]
    simp [go_sem]
  · intro f' _; trivial
  · simp [invoke, go_sem, eg]
  refine (hit (B + 1) (At .ready none) (fun c => At .done (some c)) W1 hbel (hAt _ _) (fun c => hAt _ _) ?_ (hI _ _ _ h0 hbel) ⟨hL1, hD1⟩).mono ?_
  · -- one round
    intro pre x W hi hK hlen
    refine ⟨fn, _, assign, body, run_yield hK.1 (hps x), roundIn_wide (n := n - 1) (roundIn_of_wpIn trivial (hassign _ x W _ ⟨_, run_beginRound hK.1 rfl, ?_⟩))⟩
    obtain ⟨k2, b2⟩ := turn W .ready .busy none none hK
    refine wpIn_mono (hbody _ pre x _ (hI _ _ _ hi b2) hlen) ?_
    have fin : ∀ (jump : Option Code) (W3 : World), Hi B (W.putObj (B + 1) (.loop (rec' .busy none))) W3 → At .busy none W3 ∧
        (Instr.endRound (B + 1) jump).run P W3 = .ok (.bool jump.isNone) (W3.putObj (B + 1) (.loop (rec' (if jump.isNone then .ready else .done) jump))) := by
      intro jump W3 h3
      have k3 := hAt _ _ _ _ k2 h3
      exact ⟨k3, run_endRound jump k3.1⟩
    rintro e a3 W3 hp
    cases e with
    | normal =>
      obtain ⟨h3, p3, i3⟩ := hp
      obtain ⟨k3, r3⟩ := fin none W3 h3
      obtain ⟨k4, b4⟩ := turn W3 .busy .ready none none k3
      exact ⟨_, _, r3, .inl ⟨rfl, hI _ _ _ i3 b4, hKt (hKt (hKb b2) p3) (hKb b4), k4⟩⟩
    | ret =>
      obtain ⟨h3, i3⟩ := hp
      obtain ⟨k3, r3⟩ := fin (some .ret) W3 h3
      obtain ⟨k4, b4⟩ := turn W3 .busy .done none (some .ret) k3
      exact ⟨_, _, r3, .inr ⟨rfl, _, hIx _ _ _ _ i3 b4, k4⟩⟩
    | exit id =>
      obtain ⟨h3, i3⟩ := hp
      obtain ⟨k3, r3⟩ := fin (some (.exit id)) W3 h3
      obtain ⟨k4, b4⟩ := turn W3 .busy .done none (some (.exit id)) k3
      exact ⟨_, _, r3, .inr ⟨rfl, _, hIx _ _ _ _ i3 b4, k4⟩⟩
    | goto t =>
      obtain ⟨h3, i3⟩ := hp
      obtain ⟨k3, r3⟩ := fin (some (.goto t)) W3 h3
      obtain ⟨k4, b4⟩ := turn W3 .busy .done none (some (.goto t)) k3
      exact ⟨_, _, r3, .inr ⟨rfl, _, hIx _ _ _ _ i3 b4, k4⟩⟩
    | panic ch => exact hp.elim
    | outgrown => exact hp.elim
  · -- behind the iterator
    rintro e W2 ⟨⟨v, rfl⟩, (⟨xs, hS, hi, hK⟩ | ⟨pre, c, hSp, hi, hK⟩)⟩
    · obtain ⟨k3, b3⟩ := turn W2 .ready .exhausted none none hK
      exact ⟨none, _, run_endLoop hK.1 (by simp [rec']), hdone _ xs _ (Nat.le_refl _) (Array.getElem?_eq_some_iff.1 k3.2).1 hS (hI _ _ _ hi b3) k3.2⟩
    · obtain ⟨k3, b3⟩ := turn W2 .done .exhausted (some c) (some c) hK
      exact ⟨some c, _, run_endLoop hK.1 (by simp [rec']), hstop _ c pre _ (Nat.le_refl _) (Array.getElem?_eq_some_iff.1 k3.2).1 hSp (hIx _ _ _ _ hi b3) k3.2⟩
end Go.Proofs.YtbgegnoenceflaaDoor
/- A range over a function whose iterator and whose body each own blocks of their own (captured cells, lists that grow in place): what either does leaves alone what the other owns. By the verifier of shale. -/
namespace Go.Proofs.YtbgegnoenceflaaDoor
open Go Go.RowKit
set_option linter.unusedVariables false
/-- below B (cl aside) and in bl all lies as it lay. -/
structure Fr (B : Nat) (cl bl : List Nat) (X Y : World) : Prop where
  os : Y.os = X.os
  tape : Y.tape = X.tape
  output : Y.output = X.output
  size : X.heap.size ≤ Y.heap.size
  same : ∀ k, (k < B ∧ k ∉ cl) ∨ k ∈ bl → k < X.heap.size → Y.heap[k]? = X.heap[k]?
theorem Fr.refl (B : Nat) (cl bl : List Nat) (X : World) : Fr B cl bl X X := ⟨rfl, rfl, rfl, Nat.le_refl _, fun _ _ _ => rfl⟩
theorem Fr.trans {B : Nat} {cl bl : List Nat} {X Y Z : World} (h : Fr B cl bl X Y) (k : Fr B cl bl Y Z) : Fr B cl bl X Z :=
  ⟨k.os.trans h.os, k.tape.trans h.tape, k.output.trans h.output, Nat.le_trans h.size k.size, fun i hi hs => (k.same i hi (Nat.lt_of_lt_of_le hs h.size)).trans (h.same i hi hs)⟩
theorem Fr.below {B : Nat} {cl bl : List Nat} {X Y : World} (h : Below X.heap.size X Y) : Fr B cl bl X Y := ⟨h.os, h.tape, h.output, h.size, fun k _ hk => h.block k hk⟩
theorem Fr.sub {B B' : Nat} {cl bl bl' : List Nat} {X Y : World} (h : Fr B cl bl X Y) (hB : B' ≤ B) (hs : ∀ k ∈ bl', k ∈ bl ∨ (k < B ∧ k ∉ cl)) : Fr B' cl bl' X Y :=
  ⟨h.os, h.tape, h.output, h.size, fun k hk hl => h.same k (by
    rcases hk with ⟨h1, h2⟩ | h1
    · exact .inl ⟨by omega, h2⟩
    · rcases hs k h1 with h2 | h2
      · exact .inr h2
      · exact .inl h2) hl⟩
/-- a store into a block that is none of these. -/
theorem Fr.setCell {B : Nat} {cl bl : List Nat} (X : World) (p : Addr) (u : Value) (h1 : p.block < B → p.block ∈ cl) (h2 : p.block ∉ bl) : Fr B cl bl X (X.setCell p u) :=
  ⟨rfl, rfl, rfl, by simp [World.setCell], fun k hk _ => Below.heap_setCell _ _ _ _ (by
    rintro rfl
    rcases hk with ⟨h, h'⟩ | h
    · exact h' (h1 h)
    · exact h2 h)⟩
/-- what the owner of bl may do: it turns these, and makes new ones. -/
structure Tn (bl : List Nat) (X Y : World) (bl' : List Nat) : Prop where
  os : Y.os = X.os
  tape : Y.tape = X.tape
  output : Y.output = X.output
  size : X.heap.size ≤ Y.heap.size
  same : ∀ k, k < X.heap.size → k ∉ bl → Y.heap[k]? = X.heap[k]?
  new : ∀ k ∈ bl', k ∈ bl ∨ X.heap.size ≤ k
theorem Tn.refl (bl : List Nat) (X : World) : Tn bl X X bl := ⟨rfl, rfl, rfl, Nat.le_refl _, fun _ _ _ => rfl, fun _ h => .inl h⟩
theorem Tn.trans {b1 b2 b3 : List Nat} {X Y Z : World} (h : Tn b1 X Y b2) (k : Tn b2 Y Z b3) : Tn b1 X Z b3 := by
  refine ⟨k.os.trans h.os, k.tape.trans h.tape, k.output.trans h.output, Nat.le_trans h.size k.size, fun i hi hs => ?_, fun i hi => ?_⟩
  · refine (k.same i (Nat.lt_of_lt_of_le hi h.size) fun hb => ?_).trans (h.same i hi hs)
    rcases h.new i hb with h1 | h1
    · exact hs h1
    · omega
  · rcases k.new i hi with h1 | h1
    · exact h.new i h1
    · exact .inr (Nat.le_trans h.size h1)
theorem Tn.below {bl : List Nat} {X Y : World} (h : Below X.heap.size X Y) : Tn bl X Y bl := ⟨h.os, h.tape, h.output, h.size, fun k hk _ => h.block k hk, fun _ h => .inl h⟩
theorem Tn.setCell {bl : List Nat} (X : World) (p : Addr) (u : Value) (h : p.block ∈ bl) : Tn bl X (X.setCell p u) bl :=
  ⟨rfl, rfl, rfl, by simp [World.setCell], fun k _ hk => Below.heap_setCell _ _ _ _ (by rintro rfl; exact hk h), fun _ h => .inl h⟩
/-- how the body of a round may be left. -/
def leftSep {α : Type} (I : List α → List Nat → World → Prop) (Ix : Code → List α → List Nat → World → Prop) (xs : List α) (bl : List Nat) (W : World) : Exit → Act → World → Prop
  | .normal, _, W' => ∃ bl', Tn bl W W' bl' ∧ I xs bl' W'
  | .ret, _, W' => ∃ bl', Tn bl W W' bl' ∧ Ix .ret xs bl' W'
  | .exit id, _, W' => ∃ bl', Tn bl W W' bl' ∧ Ix (.exit id) xs bl' W'
  | .goto t, _, W' => ∃ bl', Tn bl W W' bl' ∧ Ix (.goto t) xs bl' W'
  | .panic _, _, _ => False
  | .outgrown, _, _ => False
/-- the iterator's side: O is what is carried on for the body and the loop; ol the blocks that they own; C what the iterator finds. -/
def IterSep {α : Type} (n : Nat) (P : Program) (gf : Nat) (lb : Array Value) (encs : α → Array Value) (B : Nat) (cl : List Nat) (V : List α → α → Prop) (S Sp : List α → Prop) (C : List Nat → World → Prop) : Prop :=
  ∀ (l : Nat) (O : List α → List Nat → World → Prop) (Ox : Code → List α → List Nat → World → Prop) (ol : List Nat) (W : World),
    (∀ pre ol X Y, O pre ol X → Fr B cl ol X Y → O pre ol Y) → (∀ c pre ol X Y, Ox c pre ol X → Fr B cl ol X Y → Ox c pre ol Y) →
    (∀ pre ol X, O pre ol X → ∀ k ∈ ol, k < X.heap.size) →
    (∀ pre x ol X, O pre ol X → V pre x → YieldAt Fence.wide n P l (encs x) X fun e Y => ∃ ol', Tn ol X Y ol' ∧
      ((e = .returned (.bool true) ∧ O (pre ++ [x]) ol' Y) ∨ (e = .returned (.bool false) ∧ ∃ c, Ox c (pre ++ [x]) ol' Y))) →
    B ≤ W.heap.size → O [] ol W → C ol W →
    CallsIn Fence.wide n P gf (#[.func (.yield l) #[] #[]] ++ lb) W fun e W' => (∃ v, e = .returned v) ∧
      ((∃ xs ol', S xs ∧ O xs ol' W') ∨ (∃ pre c ol', Sp pre ∧ Ox c pre ol' W'))
/-- **THE STATEMENT.** -/
theorem range_sep {α : Type} {n : Nat} {P : Program} {g : Operand} {ps : Array Tmp} {assign body : Code} {Q : Exit → Act → World → Prop} {a : Act} {w : World}
    {gf : Nat} {lb : Array Value} (hg : a.eval g = .func (.func gf) #[] lb) (eg : ∀ args w, (callFunc gf args).run P w = .ok (.enter gf args) w)
    {encs : α → Array Value} (hps : ∀ x, (encs x).size = ps.size) {V : List α → α → Prop} {S Sp : List α → Prop} (cl : List Nat) {C : List Nat → World → Prop}
    (I : List α → List Nat → World → Prop) (Ix : Code → List α → List Nat → World → Prop)
    (hI : ∀ pre bl X Y, I pre bl X → Fr w.heap.size cl bl X Y → I pre bl Y) (hIx : ∀ c pre bl X Y, Ix c pre bl X → Fr w.heap.size cl bl X Y → Ix c pre bl Y)
    (hIl : ∀ pre bl X, I pre bl X → ∀ k ∈ bl, k < X.heap.size) {bl0 : List Nat} (h0 : I [] bl0 w)
    (hC : ∀ W, Below w.heap.size w W → C (w.heap.size :: (w.heap.size + 1) :: bl0) W)
    (hit : IterSep (n - 1) P gf lb encs w.heap.size cl V S Sp C) (a₁ : α → Act)
    (hassign : ∀ (l : Nat) (x : α) (W : World) (K : Act → World → Prop), K (a₁ x) W →
      assign.wpIn (Fence.wide.inRound l) (n - 1) P (Exit.then K (fun _ _ _ => False)) { tmps := (ps.zip (encs x)).foldl (fun t (p, v) => t.setIfInBounds p v) a.tmps, defers := [] } W)
    (hbody : ∀ (l : Nat) (pre : List α) (bl : List Nat) (x : α) (W : World), I pre bl W → V pre x → body.wpIn (Fence.wide.inRound l) (n - 1) P (leftSep I Ix (pre ++ [x]) bl W) (a₁ x) W)
    (hdone : ∀ (D : Nat) (xs : List α) (bl : List Nat) (W : World), w.heap.size ≤ D → D < W.heap.size → D ∉ bl → S xs → I xs bl W → W.heap[D]? = some (.deferred (some [])) → Q .normal { a with defers := { target := .collected D, args := #[] } :: a.defers } W)
    (hstop : ∀ (D : Nat) (c : Code) (pre : List α) (bl : List Nat) (W : World), w.heap.size ≤ D → D < W.heap.size → D ∉ bl → Sp pre → Ix c pre bl W → W.heap[D]? = some (.deferred (some [])) → c.wpIn Fence.wide n P Q { a with defers := { target := .collected D, args := #[] } :: a.defers } W) :
    (Code.rangeFunc g ps assign body).wpIn Fence.wide n P Q a w := by
  refine wpIn_rangeFunc ?_
  intro fn hfn
  obtain ⟨B, hB⟩ : ∃ B, B = w.heap.size := ⟨_, rfl⟩
  let rec' : LoopState → Option Code → Loop := fun st pe => { state := st, pending := pe, fn, tmps := a.tmps, params := ps, assign, body, defers := B }
  obtain ⟨W1, hW1⟩ : ∃ W1, (w.alloc (.deferred (some []))).alloc (.loop (rec' .ready none)) = W1 := ⟨_, rfl⟩
  have hbel : Below B w W1 := by rw [← hW1, hB]; exact ((Below.refl _ _).alloc (Nat.le_refl _) _).alloc (by simp) _
  have hD1 : W1.heap[B]? = some (.deferred (some [])) := by
    rw [← hW1, hB]; exact (Below.heap_alloc _ _ _ (by simp)).trans (World.alloc_heap_new w _)
  have hL1 : W1.heap[B + 1]? = some (.loop (rec' .ready none)) := by
    rw [← hW1]
    have := World.alloc_heap_new (w.alloc (.deferred (some []))) (.loop (rec' .ready none))
    rw [World.size_alloc] at this
    rw [hB]; exact this
  -- the two blocks of the loop's own, in whatever state
  let At : LoopState → Option Code → World → Prop := fun st pe W => W.heap[B + 1]? = some (.loop (rec' st pe)) ∧ W.heap[B]? = some (.deferred (some []))
  have hlt : ∀ {st pe W}, At st pe W → B + 1 < W.heap.size := fun h => (Array.getElem?_eq_some_iff.1 h.1).1
  have hAtF : ∀ {st pe cl ol X Y}, At st pe X → B ∈ ol → B + 1 ∈ ol → Fr B cl ol X Y → At st pe Y := by
    intro st pe cl ol X Y h m1 m2 f
    have := hlt h
    exact ⟨(f.same _ (.inr m2) (hlt h)).trans h.1, (f.same _ (.inr m1) (by omega)).trans h.2⟩
  have hAtT : ∀ {st pe bl bl' X Y}, At st pe X → B ∉ bl → B + 1 ∉ bl → Tn bl X Y bl' → At st pe Y ∧ B ∉ bl' ∧ B + 1 ∉ bl' := by
    intro st pe bl bl' X Y h m1 m2 t
    have := hlt h
    refine ⟨⟨(t.same _ (hlt h) m2).trans h.1, (t.same _ (by omega) m1).trans h.2⟩, fun hb => ?_, fun hb => ?_⟩
    · rcases t.new _ hb with h1 | h1
      · exact m1 h1
      · omega
    · rcases t.new _ hb with h1 | h1
      · exact m2 h1
      · omega
  -- a turn of the record
  have turn : ∀ (W : World) (st st' : LoopState) (pe pe' : Option Code), At st pe W → At st' pe' (W.putObj (B + 1) (.loop (rec' st' pe'))) ∧ Tn [B + 1] W (W.putObj (B + 1) (.loop (rec' st' pe'))) [B + 1] := by
    intro W st st' pe pe' h
    refine ⟨⟨World.putObj_heap_same (hlt h), (World.putObj_heap_other (by omega)).trans h.2⟩, ⟨rfl, rfl, rfl, by simp, fun k _ hk => World.putObj_heap_other (by simpa using hk), fun _ h => .inl h⟩⟩
  -- such a turn frames what the body owns
  have fr : ∀ {bl X Y}, B + 1 ∉ bl → Tn [B + 1] X Y [B + 1] → Fr B cl bl X Y := by
    intro bl X Y m t
    refine ⟨t.os, t.tape, t.output, t.size, fun k hk hl => t.same k hl fun hm => ?_⟩
    rw [List.mem_singleton.1 hm] at hk
    rcases hk with ⟨h1, _⟩ | h1
    · omega
    · exact m h1
  rw [← hB] at hI hIx hC hit
  refine ⟨B + 1, [{ target := .collected B, args := #[] }], W1, { target := .fn (.func gf) lb, args := #[.func (.yield (B + 1)) #[] #[]] }, W1, gf, #[.func (.yield (B + 1)) #[] #[]] ++ lb, W1, ?_, ?_, ?_, ?_, fun h => by simp [Fence.wide] at h, ?_⟩
  · rw [← hW1]
    subst hB
    exact run_enterLoop_outer _ _ _ _ _
  · simp only [resolve, hg]
    simp [go_sem]
  · intro f' _; trivial
  · simp [invoke, go_sem, eg]
  have m0 : B ∉ bl0 ∧ B + 1 ∉ bl0 := ⟨fun h => by have := hIl _ _ _ h0 _ h; omega, fun h => by have := hIl _ _ _ h0 _ h; omega⟩
  have hBW1 : B ≤ W1.heap.size := by have := hbel.size; omega
  refine (hit (B + 1) (fun pre ol W => ∃ bl, ol = B :: (B + 1) :: bl ∧ B ∉ bl ∧ B + 1 ∉ bl ∧ I pre bl W ∧ At .ready none W) (fun c pre ol W => ∃ bl, ol = B :: (B + 1) :: bl ∧ B ∉ bl ∧ B + 1 ∉ bl ∧ Ix c pre bl W ∧ At .done (some c) W)
    (B :: (B + 1) :: bl0) W1 ?_ ?_ ?_ ?_ hBW1 ⟨bl0, rfl, m0.1, m0.2, hI _ _ _ _ h0 (.below (by rw [← hB]; exact hbel)), hL1, hD1⟩ (hC _ hbel)).mono ?_
  · rintro pre ol X Y ⟨bl, rfl, m1, m2, hi, hK⟩ f
    exact ⟨bl, rfl, m1, m2, hI _ _ _ _ hi (f.sub (Nat.le_refl _) fun k hk => .inl (by simp [hk])), hAtF hK (by simp) (by simp) f⟩
  · rintro c pre ol X Y ⟨bl, rfl, m1, m2, hi, hK⟩ f
    exact ⟨bl, rfl, m1, m2, hIx _ _ _ _ _ hi (f.sub (Nat.le_refl _) fun k hk => .inl (by simp [hk])), hAtF hK (by simp) (by simp) f⟩
  · rintro pre ol X ⟨bl, rfl, m1, m2, hi, hK⟩ k hk
    have := hlt hK
    rcases List.mem_cons.1 hk with rfl | hk
    · omega
    · rcases List.mem_cons.1 hk with rfl | hk
      · exact this
      · exact hIl _ _ _ hi k hk
  · -- one round
    rintro pre x ol W ⟨bl, rfl, m1, m2, hi, hK⟩ hlen
    refine ⟨fn, _, assign, body, run_yield hK.1 (hps x), roundIn_wide (n := n - 1) (roundIn_of_wpIn trivial (hassign _ x W _ ⟨_, run_beginRound hK.1 rfl, ?_⟩))⟩
    obtain ⟨k2, b2⟩ := turn W .ready .busy none none hK
    refine wpIn_mono (hbody _ pre bl x _ (hI _ _ _ _ hi (fr m2 b2)) hlen) ?_
    have lift : ∀ {bl2 X Y}, Tn [B + 1] X Y [B + 1] → Tn (B :: (B + 1) :: bl2) X Y (B :: (B + 1) :: bl2) := by
      intro bl2 X Y t
      exact ⟨t.os, t.tape, t.output, t.size, fun k hk hb => t.same k hk (by simp only [List.mem_singleton]; rintro rfl; exact hb (by simp)), fun _ h => .inl h⟩
    have lift2 : ∀ {bl2 bl3 X Y}, Tn bl2 X Y bl3 → Tn (B :: (B + 1) :: bl2) X Y (B :: (B + 1) :: bl3) := by
      intro bl2 bl3 X Y t
      refine ⟨t.os, t.tape, t.output, t.size, fun k hk hb => t.same k hk fun h => hb (by simp [h]), fun k hk => ?_⟩
      rcases List.mem_cons.1 hk with rfl | hk
      · exact .inl (by simp)
      · rcases List.mem_cons.1 hk with rfl | hk
        · exact .inl (by simp)
        · rcases t.new k hk with h | h
          · exact .inl (by simp [h])
          · exact .inr h
    have fin : ∀ (jump : Option Code) (bl' : List Nat) (W3 : World), Tn bl (W.putObj (B + 1) (.loop (rec' .busy none))) W3 bl' → At .busy none W3 ∧ B ∉ bl' ∧ B + 1 ∉ bl' ∧
        (Instr.endRound (B + 1) jump).run P W3 = .ok (.bool jump.isNone) (W3.putObj (B + 1) (.loop (rec' (if jump.isNone then .ready else .done) jump))) := by
      intro jump bl' W3 h3
      obtain ⟨k3, n1, n2⟩ := hAtT k2 m1 m2 h3
      exact ⟨k3, n1, n2, run_endRound jump k3.1⟩
    rintro e a3 W3 hp
    cases e with
    | normal =>
      obtain ⟨bl', t3, i3⟩ := hp
      obtain ⟨k3, n1, n2, r3⟩ := fin none bl' W3 t3
      obtain ⟨k4, b4⟩ := turn W3 .busy .ready none none k3
      exact ⟨_, _, r3, _, ((lift b2).trans (lift2 t3)).trans (lift b4), .inl ⟨rfl, bl', rfl, n1, n2, hI _ _ _ _ i3 (fr n2 b4), k4⟩⟩
    | ret =>
      obtain ⟨bl', t3, i3⟩ := hp
      obtain ⟨k3, n1, n2, r3⟩ := fin (some .ret) bl' W3 t3
      obtain ⟨k4, b4⟩ := turn W3 .busy .done none (some .ret) k3
      exact ⟨_, _, r3, _, ((lift b2).trans (lift2 t3)).trans (lift b4), .inr ⟨rfl, _, bl', rfl, n1, n2, hIx _ _ _ _ _ i3 (fr n2 b4), k4⟩⟩
    | exit id =>
      obtain ⟨bl', t3, i3⟩ := hp
      obtain ⟨k3, n1, n2, r3⟩ := fin (some (.exit id)) bl' W3 t3
      obtain ⟨k4, b4⟩ := turn W3 .busy .done none (some (.exit id)) k3
      exact ⟨_, _, r3, _, ((lift b2).trans (lift2 t3)).trans (lift b4), .inr ⟨rfl, _, bl', rfl, n1, n2, hIx _ _ _ _ _ i3 (fr n2 b4), k4⟩⟩
    | goto t =>
      obtain ⟨bl', t3, i3⟩ := hp
      obtain ⟨k3, n1, n2, r3⟩ := fin (some (.goto t)) bl' W3 t3
      obtain ⟨k4, b4⟩ := turn W3 .busy .done none (some (.goto t)) k3
      exact ⟨_, _, r3, _, ((lift b2).trans (lift2 t3)).trans (lift b4), .inr ⟨rfl, _, bl', rfl, n1, n2, hIx _ _ _ _ _ i3 (fr n2 b4), k4⟩⟩
    | panic ch => exact hp.elim
    | outgrown => exact hp.elim
  · -- behind the iterator
    rintro e W2 ⟨⟨v, rfl⟩, (⟨xs, ol', hS, bl, rfl, m1, m2, hi, hK⟩ | ⟨pre, c, ol', hSp, bl, rfl, m1, m2, hi, hK⟩)⟩
    · obtain ⟨k3, b3⟩ := turn W2 .ready .exhausted none none hK
      exact ⟨none, _, run_endLoop hK.1 (by simp [rec']), hdone _ xs bl _ (by omega) (Array.getElem?_eq_some_iff.1 k3.2).1 m1 hS (hI _ _ _ _ hi (fr m2 b3)) k3.2⟩
    · obtain ⟨k3, b3⟩ := turn W2 .done .exhausted (some c) (some c) hK
      exact ⟨some c, _, run_endLoop hK.1 (by simp [rec']), hstop _ c pre bl _ (by omega) (Array.getElem?_eq_some_iff.1 k3.2).1 m1 hSp (hIx _ _ _ _ _ hi (fr m2 b3)) k3.2⟩
end Go.Proofs.YtbgegnoenceflaaDoor
/- The last methods of a field: orders, what is an element; the maker's error. By the verifier of shale. -/
namespace Go.Proofs.YtbgegnoenceflaaDoor.Fld
open Go Go.RowKit Bits16
set_option linter.unusedVariables false
/-- is that a field's element? -/
def isB (m : Nat) (a : Int) : Bool := decide (0 ≤ a ∧ a < (els m : Int))
theorem ret2_i64 {a b : Int} {v : Value} (e : a = b) : Ending.returned (.tuple #[.int .i64 a, v]) = Ending.returned (.tuple #[.int .i64 b, v]) := by rw [e]
section
variable {m s be ce bl : Nat}
variable (h1 : 3 ≤ m) (h2 : m ≤ 14)
include h1 h2
end
set_option maxHeartbeats 400000 in
theorem new_out (m : Int) (hm : m < 3 ∨ 14 < m) (w : World) (p : Addr) (hs : Sent w 1 p) (hg : 1 < w.heap.size) :
    Calls Tryd.prog 21 #[.int .i64 m] w fun e w' => e = .returned (.tuple #[.pointer none, errOf p]) ∧ Below w.heap.size w w' := by
  have hp := fun w => poly_out m hm w
  have HP := Lib.hid hp
  have hs' : w.cell? ⟨1, 0, none⟩ = some (errOf p) := hs
  clear hp hs hm
  go_enter Tryd.func21, Tryd.ntmps21
  go_wp2_with fail
  refine (HP.out w).mono ?_
  rintro e w1 ⟨rfl, b1⟩
  have hs1 := (b1.cell (p := ⟨1, 0, none⟩) hg).trans hs'
  go_wp2_with fail
  go_quiet (fail)
  go_wp2_with fail
  go_ret2
  exact ⟨rfl, b1.trans ((Drawn.mk _ _).below _)⟩
end Go.Proofs.YtbgegnoenceflaaDoor.Fld
/- Traces: a range over the squares of an element. By the verifier of shale. -/
namespace Go.Proofs.YtbgegnoenceflaaDoor.Fld
open Go Go.RowKit Bits16 Go.Shelf
set_option linter.unusedVariables false
attribute [local go_sem] Oper.semAt_some
/-- a block of one cell. -/
def Box (W : World) (b : Nat) (v : Value) (t : TypeId) : Prop := W.heap[b]? = some (.cells #[v] t (0, 0))
theorem Box.cell {W : World} {b : Nat} {v : Value} {t : TypeId} (e : Box W b v t) : W.cell? ⟨b, 0, none⟩ = some v := cell_of_one e
theorem Box.free {W : World} {b : Nat} {v : Value} {t : TypeId} (e : Box W b v t) : W.frozen? ⟨b, 0, none⟩ = false := free_of_one e
theorem Box.drawn {W W' : World} {b : Nat} {v : Value} {t : TypeId} (e : Box W b v t) (d : Drawn W W') : Box W' b v t := by obtain ⟨n, rfl⟩ := d; exact e
theorem Box.put {W : World} {b : Nat} {v : Value} {t : TypeId} (e : Box W b v t) (u : Value) : Box (W.setCell ⟨b, 0, none⟩ u) b u t := one_setCell e
theorem Box.other {W : World} {b : Nat} {v : Value} {t : TypeId} (e : Box W b v t) (p : Addr) (u : Value) (hp : b ≠ p.block) : Box (W.setCell p u) b v t := (Below.heap_setCell _ _ _ _ hp).trans e
theorem hi_drawn {B : Nat} {W W' : World} (d : Drawn W W') : Hi B W W' := .below (d.below _)
/-- the sum of these. -/
def xsum (l : List (BitVec 16)) : BitVec 16 := l.foldl (· ^^^ ·) 0
theorem xsum_snoc (l : List (BitVec 16)) (x : BitVec 16) : xsum (l ++ [x]) = xsum l ^^^ x := by simp [xsum]
/-- the first k squares. -/
def sqL (m : Nat) (E : BitVec 16) (k : Nat) : List (BitVec 16) := (List.range k).map fun i => sqs m i E
theorem sqL_succ (m : Nat) (E : BitVec 16) (k : Nat) : sqL m E (k + 1) = sqL m E k ++ [sqs m k E] := by simp [sqL, List.range_succ]
theorem sqL_length (m : Nat) (E : BitVec 16) (k : Nat) : (sqL m E k).length = k := by simp [sqL]
theorem xsum_sqL (m : Nat) (E : BitVec 16) : ∀ k, xsum (sqL m E k) = trTo m E k
  | 0 => rfl
  | k + 1 => by rw [sqL_succ, xsum_snoc, xsum_sqL m E k]; rfl
/-- what the loop's body holds: the sum so far, in a box of its own. -/
def TrI (sb : Nat) (w0 : World) (pre : List (BitVec 16)) (W : World) : Prop := Box W sb (.int .i64 (h (xsum pre))) 3 ∧ Below sb w0 W
theorem TrI.drawn {sb : Nat} {w0 W W' : World} {pre : List (BitVec 16)} (e : TrI sb w0 pre W) (d : Drawn W W') : TrI sb w0 pre W' := ⟨e.1.drawn d, e.2.trans (d.below _)⟩
theorem TrI.put {sb : Nat} {w0 W : World} {pre : List (BitVec 16)} (e : TrI sb w0 pre W) (p : Addr) (u : Value) (hp : sb < p.block) : TrI sb w0 pre (W.setCell p u) := ⟨e.1.other p u (by omega), e.2.setCell (by omega) _⟩
section
variable {m s be ce bl : Nat} (h1 : 3 ≤ m) (h2 : m ≤ 14)
include h1 h2
theorem mul_at (x y : BitVec 16) (hx : x.toNat < 2 ^ m) (hy : y.toNat < 2 ^ m) (w : World) (f : FldAt m w s be ce bl) :
    Calls Tryd.prog 19 #[.pointer (some ⟨s, 0, none⟩), .int .i64 (h x), .int .i64 (h y)] w fun e w' => e = .returned (.int .i64 (h (fmul m x y))) ∧ Drawn w w' := by
  have := mul_any h1 h2 (h x) (h y) w f
  rwa [el_of m h2 x hx, el_of m h2 y hy] at this
end
section
attribute [local go_sem] rxor
variable {m s be ce bl : Nat} (h1 : 3 ≤ m) (h2 : m ≤ 14)
include h1 h2
end
end Go.Proofs.YtbgegnoenceflaaDoor.Fld
/- The walk over package search's steps. By the verifier of shale. -/
namespace Go.Proofs.YtbgegnoenceflaaDoor.Sea
open Go Go.RowKit Pl Fld Bits16 Loc
set_option linter.unusedVariables false
theorem own_free {w : World} {base n k g c : Nat} {l : List Int} (h : Own64 w base (.slice (some ⟨g, 0, none⟩) n c) k l) (i : Nat) : w.frozen? ⟨g, i, none⟩ = false := by
  rcases h.2 with ⟨h0, _⟩ | ⟨g', cap', cur, hv, hbg, hh, _⟩
  · cases h0
  · simp only [Value.slice.injEq, Option.some.injEq, Addr.mk.injEq] at hv
    obtain ⟨⟨rfl, _⟩, _⟩ := hv
    unfold World.frozen?
    simp only
    rw [hh]; rfl
theorem own_store {w : World} {base n g c : Nat} {l : List Int} (h : Own64 w base (.slice (some ⟨g, 0, none⟩) n c) n l) (i : Nat) (hi : i < n) (z : Int) : Own64 (w.setCell ⟨g, i, none⟩ (.int .i64 z)) base (.slice (some ⟨g, 0, none⟩) n c) n (l.set i z) := by
  have hl := h.len
  refine ⟨by rw [cells64_length, List.length_set]; omega, ?_⟩
  rcases h.2 with ⟨h0, _⟩ | ⟨g', cap', cur, hv, hbg, hh, hnc, hm, hs, ht⟩
  · cases h0
  · simp only [Value.slice.injEq, Option.some.injEq, Addr.mk.injEq] at hv
    obtain ⟨⟨rfl, _⟩, _, rfl⟩ := hv
    refine Or.inr ⟨g, c, cur.setIfInBounds i (.int .i64 z), rfl, hbg, heap_setCell_same w g i cur _ _ hh, hnc, hm, by simpa using hs, ?_⟩
    rw [Array.toList_setIfInBounds, List.take_set, ht]
    unfold cells64
    rw [List.map_set]
/-- a search in block cb. -/
def chB (w : World) (cb g s : Nat) (a : Option Addr) (n c : Nat) (nn : Int) : Prop := w.heap[cb]? = some (.cells #[.pointer (some ⟨g, 0, none⟩), .pointer (some ⟨s, 0, none⟩), .slice a n c, .int .i64 nn] 50 (0, 0))
theorem chB.cells {w : World} {cb g s : Nat} {a : Option Addr} {n c : Nat} {nn : Int} (h : chB w cb g s a n c nn) :
    w.cell? ⟨cb, 0, none⟩ = some (.pointer (some ⟨g, 0, none⟩)) ∧ w.cell? ⟨cb, 1, none⟩ = some (.pointer (some ⟨s, 0, none⟩)) ∧ w.cell? ⟨cb, 2, none⟩ = some (.slice a n c) ∧ w.cell? ⟨cb, 3, none⟩ = some (.int .i64 nn) := by
  have e : w.heap[cb]? = _ := h
  refine ⟨?_, ?_, ?_, ?_⟩ <;> (unfold World.cell?; simp only; rw [e]; rfl)
abbrev chV (g s : Nat) (a : Option Addr) (n c : Nat) (nn : Int) : Value := .agg #[.pointer (some ⟨g, 0, none⟩), .pointer (some ⟨s, 0, none⟩), .slice a n c, .int .i64 nn]
set_option maxHeartbeats 400000 in
theorem steps_any (g s : Nat) (a : Option Addr) (n c : Nat) (nn : Int) (w : World) :
    Calls Tryd.prog 26 #[chV g s a n c nn] w fun e w' => e = .returned (.func (.func 39) #[] #[.pointer (some ⟨w.heap.size, 0, none⟩)]) ∧ chB w' w.heap.size g s a n c nn ∧ Below w.heap.size w w' := by
  have h1 : Hid (chB (w.alloc (.cells #[.pointer (some ⟨g, 0, none⟩), .pointer (some ⟨s, 0, none⟩), .slice a n c, .int .i64 nn] 50 (0, 0))) w.heap.size g s a n c nn ∧ Below w.heap.size w (w.alloc (.cells #[.pointer (some ⟨g, 0, none⟩), .pointer (some ⟨s, 0, none⟩), .slice a n c, .int .i64 nn] 50 (0, 0)))) :=
    ⟨heap_alloc_new w _, (Below.refl _ _).alloc (Nat.le_refl _) _⟩
  go_enter Tryd.func26, Tryd.ntmps26
  go_wp2_with fail
  go_ret
  exact ⟨rfl, h1.out.1, h1.out.2⟩
theorem intsN_at (l : List Nat) (j : Nat) (hj : j < l.length) : nth64 (intsN l) j = ((l.getD j 0 : Nat) : Int) := by
  unfold nth64 intsN
  simp [hj]
section
variable {m : Nat} [M : Mid m]
/-- what the iterator finds. -/
def Finds (w0 : World) (cb g s : Nat) (a : Option Addr) (n c : Nat) (nn : Int) (ol : List Nat) (W : World) : Prop :=
  Below w0.heap.size w0 W ∧ chB W cb g s a n c nn ∧ w0.heap.size ≤ cb ∧ ∀ k ∈ ol, w0.heap.size ≤ k ∧ k ≠ cb
abbrev encP (p : Ser (El m)) (n : Nat) (i : Nat) : Array Value := #[.int .i64 (i : Int), .int .i64 (zn (ev n p (pt m i)))]
set_option maxRecDepth 100000 in
set_option maxHeartbeats 2000000 in
theorem steps_iter (nf B : Nat) {K : Nat} {w0 : World} {s be ce bl cb g : Nat} {a : Option Addr} {n c : Nat} {p : Ser (El m)} {nn : Int} {y : Addr} (F : FldAt m w0 s be ce bl) (P : NV m w0 K a n c p) (hn : n ≤ 2048) (hnn : nn ≤ 16383) (E : ErrAt w0 2 y) :
    IterSep nf Tryd.prog 39 #[.pointer (some ⟨cb, 0, none⟩)] (encP p n) B [] (fun pre x => pre = List.range x ∧ x < nn.toNat) (fun xs => xs = List.range nn.toNat) (fun pre => ∃ k, k ≤ nn.toNat ∧ pre = List.range k) (Finds w0 cb g s a n c nn) := by
  obtain ⟨i0, hi, hz0, hz1, hz2⟩ := info64
  intro l O Ox ol W hO hOx hOl hY hBW h0 hC
  refine callsIn_wide.2 ?_
  obtain ⟨hB0, hch, hcb, hol⟩ := hC
  obtain ⟨c0, c1, c2, c3⟩ := hch.cells
  have HYY := Lib.hid hY
  have HOO := Lib.hid (And.intro hO (And.intro hOx hOl))
  have H0 := Lib.hid h0
  have HF := Lib.hid (And.intro F (And.intro P (And.intro E hB0)))
  have HC := Lib.hid (And.intro hch (And.intro hcb hol))
  clear hO hOx hOl hY h0 F P E hB0 hch hol
  go_enter Tryd.func39, Tryd.ntmps39
  go_wp2_with fail
  have hsW : cb < W.heap.size := lt_of_block HC.out.1
  have HW : Hid (∀ wx, Below W.heap.size W wx → chB wx cb g s a n c nn ∧ Below w0.heap.size w0 wx) := fun wx b => ⟨(b.block _ hsW).trans HC.out.1, HF.out.2.2.2.trans (b.mono HF.out.2.2.2.size)⟩
  clear c0 c1 c2 c3
  go_loopg [3, 4, 16] n (fun gh s3 s4 s16 wx => ∃ (k q : Nat), gh = n - k ∧ k ≤ n ∧ s16 = .int .i64 (k : Int) ∧ Hid (q = (nz p k).length) ∧ q ≤ k ∧ Hid (Own64 wx W.heap.size s3 q ((nz p k).map fun j => (lg m (p j).val : Int)) ∧ Own64 wx W.heap.size s4 q (intsN (nz p k)) ∧ ∀ x, s3.ownBlock = some x → s4.ownBlock ≠ some x) ∧ Below W.heap.size W wx)
  case atStart => exact ⟨0, 0, rfl, Nat.zero_le _, rfl, rfl, Nat.le_refl _, ⟨Own64.nil W _, Own64.nil W _, fun x hx => by cases hx⟩, Below.refl _ _⟩
  case round =>
    obtain ⟨k, q, hg, hk, rfl, HQ, hq, HO, hB⟩ := hrel
    have HG := Lib.hid hg
    clear hg
    obtain ⟨hch, hB0⟩ := HW.out wr hB
    obtain ⟨c0, c1, c2, c3⟩ := hch.cells
    obtain ⟨x3, y3, e3⟩ := own_slice HO.out.1
    obtain ⟨x4, y4, e4⟩ := own_slice HO.out.2.1
    subst e3 e4
    by_cases hlt : k < n
    · have u1 : (k : Int) < (n : Int) := by omega
      have u2 : (0 : Int) ≤ (k : Int) := by omega
      obtain ⟨bb, off, rfl, cc, _⟩ := (HF.out.2.1.row.below hB0).row k hlt
      rw [nums_at _ _ _ hlt] at cc
      have hf := HF.out.1.below M.lo hB0
      have hzz : el m (zn (p k)) = (p k).val := congrArg Subtype.val (elm_zn (p k))
      have HI1 : Hid (k + 1 ≤ n) := hlt
      have HBk := Lib.hid hB
      by_cases h0 : p k = 0
      · have hnz : nz p (k + 1) = nz p k := by
          unfold nz
          rw [hits_succ, show (!decide (p k = 0)) = false by simp [h0]]
          exact List.append_nil _
        have HNZ := Lib.hid hnz
        have hl := log_zero M.lo M.hi (zn (p k)) wr hf (by rw [hzz, h0]; rfl) y (HF.out.2.2.1.below hB0).1
        generalize zn (p k) = z at cc hl
        clear hnz h0 hzz hf hlt hB hB0 hch
        go_wp2_with fail
        refine hl.mono ?_
        rintro e w5 ⟨rfl, d⟩
        have HN : Hid (Own64 w5 W.heap.size (.slice x3 q y3) q ((nz p k).map fun j => (lg m (p j).val : Int)) ∧ Own64 w5 W.heap.size (.slice x4 q y4) q (intsN (nz p k)) ∧ ∀ x, (Value.slice x3 q y3).ownBlock = some x → (Value.slice x4 q y4).ownBlock ≠ some x) := by
          obtain ⟨nd, rfl⟩ := d
          exact HO.out
        have hB5 := HBk.out.trans (d.below _)
        clear d hl cc c0 c1 c2 c3
        go_wp2_with fail
        go_roundg (n - (k + 1))
        case measure => have := HG.out; have := HI1.out; omega
        case rel => exact ⟨k + 1, q, rfl, HI1.out, by go_num, by rw [HNZ.out]; exact HQ, by omega, by rw [HNZ.out]; exact HN, hB5⟩
      · have hnz : nz p (k + 1) = nz p k ++ [k] := by
          unfold nz
          rw [hits_succ, show (!decide (p k = 0)) = true by simp [h0]]
          rfl
        have HNZ := Lib.hid hnz
        have hl := log_any M.lo M.hi (zn (p k)) wr hf (by rw [hzz]; exact fun e => h0 (El.ext e))
        rw [hzz] at hl
        have hm1 : ((nz p (k + 1)).map fun j => (lg m (p j).val : Int)) = ((nz p k).map fun j => (lg m (p j).val : Int)) ++ [(lg m (p k).val : Int)] := by rw [hnz, List.map_append]; rfl
        have hm2 : intsN (nz p (k + 1)) = intsN (nz p k) ++ [(k : Int)] := by rw [hnz]; simp [intsN]
        have HM := Lib.hid (And.intro hm1 hm2)
        obtain ⟨L1, hL1⟩ : ∃ L1, L1 = ((nz p k).map fun j => (lg m (p j).val : Int)) := ⟨_, rfl⟩
        obtain ⟨L2, hL2⟩ : ∃ L2, L2 = intsN (nz p k) := ⟨_, rfl⟩
        rw [← hL1, ← hL2] at HO HM
        generalize zn (p k) = z at cc hl
        generalize (lg m (p k).val : Int) = lz at hl HM
        have hbs := HBk.out.size
        have ho3 := HO.out.1
        have ho4 := HO.out.2.1
        have hap := HO.out.2.2
        have hb4 : ∀ x, (Value.slice x4 q y4).ownBlock = some x → x < wr.heap.size := fun x hx => (ho4.block x hx).2
        clear hnz h0 hzz hf hlt hB hB0 hch hm1 hm2 hL1 hL2 HO
        go_wp2_with fail
        refine hl.mono ?_
        rintro e w5 ⟨rfl, rfl⟩
        clear hl
        have hH := Lib.hid (And.intro hap hb4)
        clear hap hb4
        go_wp2_with (first
          | (at_builtin; refine wpList_append_lies _ rfl _ _ 22 rfl W.heap.size 3 i0 (.int .i64 0) 1 8 Tryd.underlying22 hi hz0 hz1 hz2 rfl (by decide) (.slice x3 q y3) q (cells64 L1) rfl (World.ownsRow.alloc ho3 _) ⟨wr.heap.size, 0, none⟩ 1 1 [.int .i64 lz] rfl rfl (cell_one_new _ _ _) (ints_oneCell .i64 [_]) (by decide) (by unfold maxLen; omega) (by omega) (by simp; omega) _ rfl ?_; intro g3 cap3 w5 hown3 hgrow3 hat3 hlt3; have ho4' : Own64 w5 W.heap.size (.slice x4 q y4) q L2 := (ho4.keep fun x hx => (hgrow3.block x (by have := hH.out.2 x hx; simp; omega) (fun e => hH.out.1 x e.symm hx)).trans (Below.heap_alloc wr _ x (hH.out.2 x hx))); have hs5 : W.heap.size ≤ w5.heap.size := Nat.le_trans hbs (Nat.le_trans (by simp) hgrow3.size))
          | (at_builtin; refine wpList_append_lies _ rfl _ _ 22 rfl W.heap.size 3 i0 (.int .i64 0) 1 8 Tryd.underlying22 hi hz0 hz1 hz2 rfl (by decide) (.slice x4 q y4) q (cells64 L2) rfl (World.ownsRow.alloc ho4' _) ⟨w5.heap.size, 0, none⟩ 1 1 [.int .i64 (k : Int)] rfl rfl (cell_one_new _ _ _) (ints_oneCell .i64 [_]) (by decide) (by unfold maxLen; omega) (by omega) (by simp; omega) _ rfl ?_; intro g4 cap4 w6 hown4 hgrow4 hat4 hlt4))
        have hne : (Value.slice x4 q y4).ownBlock ≠ some g3 := by
          rcases hat3 with h | h
          · exact hH.out.1 _ h
          · intro hx
            have := hH.out.2 _ hx
            rw [h] at this
            simp at this
            omega
        have hne4 : g3 ≠ g4 := by
          rintro rfl
          rcases hat4 with h | h
          · exact hne h
          · rw [h, World.size_alloc] at hlt3; omega
        have b5 : Below W.heap.size wr w5 := ((Below.refl W.heap.size wr).alloc hbs _).grown hgrow3 (Nat.le_trans hbs (by simp)) (fun x hx => (ho3.block x hx).1)
        have b6 : Below W.heap.size w5 w6 := ((Below.refl W.heap.size w5).alloc hs5 _).grown hgrow4 (Nat.le_trans hs5 (by simp)) (fun x hx => (ho4'.block x hx).1)
        have HN : Hid ((Own64 w6 W.heap.size (.slice (some ⟨g3, 0, none⟩) (q + 1) cap3) (q + 1) ((nz p (k + 1)).map fun j => (lg m (p j).val : Int)) ∧ Own64 w6 W.heap.size (.slice (some ⟨g4, 0, none⟩) (q + 1) cap4) (q + 1) (intsN (nz p (k + 1))) ∧ ∀ x, (Value.slice (some ⟨g3, 0, none⟩) (q + 1) cap3).ownBlock = some x → (Value.slice (some ⟨g4, 0, none⟩) (q + 1) cap4).ownBlock ≠ some x) ∧ Below W.heap.size W w6) := by
          refine ⟨⟨?_, ?_, ?_⟩, HBk.out.trans (b5.trans b6)⟩
          · rw [HM.out.1]
            have h3 : Own64 w5 W.heap.size (.slice (some ⟨g3, 0, none⟩) (q + 1) cap3) (q + 1) (L1 ++ [lz]) := by unfold Own64; rw [← cells64_append]; exact hown3
            refine h3.keep fun x hx => ?_
            simp only [Value.ownBlock, Option.some.injEq] at hx
            subst hx
            exact (hgrow4.block _ (by simp; omega) (fun e => hne e.symm)).trans (Below.heap_alloc w5 _ _ hlt3)
          · rw [HM.out.2]
            unfold Own64; rw [← cells64_append]; exact hown4
          · intro x h1 h2
            simp only [Value.ownBlock, Option.some.injEq] at h1 h2
            omega
        have HQ2 : Hid (q + 1 = (nz p (k + 1)).length) := by show _ = _; rw [HNZ.out, List.length_append, ← HQ.out]; rfl
        clear hne hne4 b5 b6 hown3 hown4 hgrow3 hgrow4 hat3 hat4 hlt3 hlt4 ho3 ho4 ho4' hH HM
        go_wp2_with fail
        go_roundg (n - (k + 1))
        case measure => have := HG.out; have := HI1.out; omega
        case rel => exact ⟨k + 1, q + 1, rfl, HI1.out, by go_num, HQ2, by omega, HN.out.1, HN.out.2⟩
    · obtain rfl : k = n := by omega
      obtain ⟨L, hL⟩ : ∃ L, L = nz p k := ⟨_, rfl⟩
      have HL := Lib.hid hL
      have hlg : ((nz p k).map fun j => (lg m (p j).val : Int)) = lgs p L 0 0 := by rw [hL, lgs_zero]
      rw [hlg, ← hL] at HO
      rw [← hL] at HQ
      have hfr : Fr B [] ol W wr := ⟨hB.os, hB.tape, hB.output, hB.size, fun x _ hx => hB.block x hx⟩
      have hO0 := HOO.out.1 _ _ _ _ H0.out hfr
      have hlt3 : ∀ x, (Value.slice x3 q y3).ownBlock = some x → W.heap.size ≤ x ∧ x < wr.heap.size := HO.out.1.block
      have hlt4 : ∀ x, (Value.slice x4 q y4).ownBlock = some x → W.heap.size ≤ x ∧ x < wr.heap.size := HO.out.2.1.block
      have hol := HOO.out.2.2 _ _ _ H0.out
      have H1 : Hid (∃ ol', O (List.range 0) ol' wr ∧ (∀ x ∈ ol', w0.heap.size ≤ x ∧ x ≠ cb) ∧ (∀ x, (Value.slice x3 q y3).ownBlock = some x → x ∉ ol') ∧ (∀ x, (Value.slice x4 q y4).ownBlock = some x → x ∉ ol') ∧ chB wr cb g s a k c nn ∧ Below w0.heap.size w0 wr ∧ Own64 wr W.heap.size (.slice x3 q y3) q (lgs p L 0 0) ∧ Own64 wr W.heap.size (.slice x4 q y4) q (intsN L)) := by
        refine ⟨ol, hO0, HC.out.2.2, fun x hx h => ?_, fun x hx h => ?_, hch, hB0, HO.out.1, HO.out.2.1⟩
        · have := (hlt3 x hx).1; have := hol x h; omega
        · have := (hlt4 x hx).1; have := hol x h; omega
      have HAP := Lib.hid HO.out.2.2
      obtain ⟨NN, hNN⟩ : ∃ NN, NN = nn.toNat := ⟨_, rfl⟩
      have HNN := Lib.hid hNN
      have hNN2 : NN ≤ 16383 := by omega
      have hqn : q ≤ 2048 := by omega
      have HHB := Lib.hid hB
      have hnnz : (nn ≤ 0 ∧ NN = 0) ∨ nn = (NN : Int) := by omega
      clear hL hlg hfr hO0 hlt3 hlt4 hol HO hB hch hB0 HG hlt hk hNN
      go_wp2_with fail
      clear c0 c1 c2 c3
      go_loopg [41] NN (fun gh s41 wx => ∃ i : Nat, gh = NN - i ∧ i ≤ NN ∧ s41 = .int .i64 (i : Int) ∧ Hid (∃ ol', O (List.range i) ol' wx ∧ (∀ x ∈ ol', w0.heap.size ≤ x ∧ x ≠ cb) ∧ (∀ x, (Value.slice x3 q y3).ownBlock = some x → x ∉ ol') ∧ (∀ x, (Value.slice x4 q y4).ownBlock = some x → x ∉ ol') ∧ chB wx cb g s a k c nn ∧ Below w0.heap.size w0 wx ∧ Own64 wx W.heap.size (.slice x3 q y3) q (lgs p L i 0) ∧ Own64 wx W.heap.size (.slice x4 q y4) q (intsN L)))
      case atStart => exact ⟨0, rfl, Nat.zero_le _, rfl, H1⟩
      case round =>
        clear H1
        obtain ⟨i, hg, hi2, rfl, HI⟩ := hrel
        have HG2 := Lib.hid hg
        clear hg
        obtain ⟨W5, hW5⟩ : ∃ W5, W5 = wr := ⟨_, rfl⟩
        rw [← hW5] at HI ⊢
        clear hW5
        by_cases hlt : i < NN
        · have v1 : (i : Int) < nn := by omega
          have hii : i + 1 ≤ NN := hlt
          clear hlt
          obtain ⟨ol', hOi, hol', hn3, hn4, hch, hB0, ho3, ho4⟩ := HI.out
          have c3 := hch.cells.2.2.2
          have HI0 : Hid (O (List.range i) ol' W5 ∧ chB W5 cb g s a k c nn ∧ Below w0.heap.size w0 W5 ∧ Own64 W5 W.heap.size (.slice x3 q y3) q (lgs p L i 0) ∧ Own64 W5 W.heap.size (.slice x4 q y4) q (intsN L)) := ⟨hOi, hch, hB0, ho3, ho4⟩
          have HN3 := Lib.hid (And.intro hol' (And.intro hn3 hn4))
          clear hOi hol' hn3 hn4 hch hB0 ho3 ho4 HI
          go_wp2_with fail
          clear c3
          go_loopg [10, 46] q (fun gh s10 s46 wx => ∃ j : Nat, gh = q - j ∧ j ≤ q ∧ s46 = .int .i64 (j : Int) ∧ s10 = .int .i64 (zn (tsum p (pt m i) (L.take j))) ∧ Hid (O (List.range i) ol' wx ∧ chB wx cb g s a k c nn ∧ Below w0.heap.size w0 wx ∧ Own64 wx W.heap.size (.slice x3 q y3) q (lgs p L i j) ∧ Own64 wx W.heap.size (.slice x4 q y4) q (intsN L)))
          case atStart => exact ⟨0, rfl, Nat.zero_le _, rfl, rfl, HI0⟩
          case round =>
            clear HI0
            obtain ⟨j, hg, hj, rfl, rfl, HJ⟩ := hrel
            have HG3 := Lib.hid hg
            clear hg
            by_cases hlt : j < q
            · have z1 : (j : Int) < (q : Int) := by omega
              have z2 : (0 : Int) ≤ (j : Int) := by omega
              obtain ⟨hOi, hch, hB0, ho3, ho4⟩ := HJ.out
              have hjl : j < L.length := by rw [← HQ.out]; exact hlt
              obtain ⟨g3, cap3, e3, hb3, hl3, hc3, hcell3⟩ := ho3.cells (by omega)
              simp only [Value.slice.injEq] at e3
              obtain ⟨rfl, _, rfl⟩ := e3
              obtain ⟨g4, cap4, e4, hb4, hl4, hc4, hcell4⟩ := ho4.cells (by omega)
              simp only [Value.slice.injEq] at e4
              obtain ⟨rfl, _, rfl⟩ := e4
              have cc3 := hcell3 j hlt
              have ff3 := own_free ho3 j
              have cc4 := hcell4 j hlt
              rw [intsN_at L j hjl] at cc4
              have elg : nth64 (lgs p L i j) j = lgt p i (L.getD j 0) := lgs_at p L i j j hjl (Nat.le_refl _)
              rw [elg] at cc3
              obtain ⟨d1, d1e⟩ : ∃ d1, d1 = hch.cells.2.1 := ⟨_, rfl⟩
              have k1 := hch.cells.2.1
              have hmem : L.getD j 0 ∈ nz p k := by
                rw [← HL.out, List.getD_eq_getElem?_getD, List.getElem?_eq_getElem hjl]
                exact List.getElem_mem hjl
              have hjk := (hits_mem.1 hmem).1
              have hpj : p (L.getD j 0) ≠ 0 := by
                have := (hits_mem.1 hmem).2
                simpa using this
              have hex := fexp_any M.lo M.hi (lgt p i (L.getD j 0)) wr (HF.out.1.below M.lo hB0)
              have hez : h (pwZ m (lgt p i (L.getD j 0))) = zn (p (L.getD j 0) * pwK (pt m i) (L.getD j 0)) := by
                rw [← lgt_exp hpj i]; rfl
              rw [hez] at hex
              have hx := zn_add (tsum p (pt m i) (L.take j)) (p (L.getD j 0) * pwK (pt m i) (L.getD j 0))
              have htk : L.take (j + 1) = L.take j ++ [L.getD j 0] := by
                rw [List.take_add_one, List.getElem?_eq_getElem hjl, List.getD_eq_getElem?_getD, List.getElem?_eq_getElem hjl]; rfl
              rw [← tsum_snoc, ← htk] at hx
              have hset := lgs_set p L i j
              obtain ⟨lv, hlv⟩ : ∃ lv, lv = lgt p i (L.getD j 0) := ⟨_, rfl⟩
              obtain ⟨jj, hjj⟩ : ∃ jj, jj = L.getD j 0 := ⟨_, rfl⟩
              have hij : i * jj ≤ 16383 * 2048 := Nat.mul_le_mul (by omega) (by rw [hjj]; omega)
              have hlgm : lg m (p jj).val < size m := (lg_spec m M.lo M.hi _ (p jj).2 (fun e => hpj (by rw [← hjj]; exact El.ext e))).1
              have hsz := size_hi m M.hi
              have hlv2 : lv = (lg m (p jj).val : Int) - ((i * jj : Nat) : Int) := by rw [hlv, ← hjj]; unfold lgt; rw [Int.natCast_mul]
              have b1 : -40000000 ≤ lv := by omega
              have b2 : lv ≤ 16383 := by omega
              have b3 : (jj : Int) ≤ 2048 := by rw [hjj]; omega
              have b4 : (0 : Int) ≤ (jj : Int) := by omega
              have HSt : Hid (O (List.range i) ol' (wr.setCell ⟨g3, j, none⟩ (.int .i64 (lv - (jj : Int)))) ∧ chB (wr.setCell ⟨g3, j, none⟩ (.int .i64 (lv - (jj : Int)))) cb g s a k c nn ∧ Below w0.heap.size w0 (wr.setCell ⟨g3, j, none⟩ (.int .i64 (lv - (jj : Int)))) ∧ Own64 (wr.setCell ⟨g3, j, none⟩ (.int .i64 (lv - (jj : Int)))) W.heap.size (.slice (some ⟨g3, 0, none⟩) q y3) q (lgs p L i (j + 1)) ∧ Own64 (wr.setCell ⟨g3, j, none⟩ (.int .i64 (lv - (jj : Int)))) W.heap.size (.slice (some ⟨g4, 0, none⟩) q y4) q (intsN L)) := by
                have hwW := HF.out.2.2.2.size
                refine ⟨HOO.out.1 _ _ _ _ hOi (Fr.setCell _ _ _ (fun h => absurd h (by show ¬ g3 < B; omega)) (HN3.out.2.1 g3 rfl)), (Below.heap_setCell _ _ _ _ (by show cb ≠ g3; omega)).trans hch, hB0.setCell (by show _ ≤ g3; omega) _, ?_, ?_⟩
                · rw [← hset, ← hlv, ← hjj]
                  exact own_store ho3 j hlt _
                · refine ho4.keep fun x hx' => Below.heap_setCell _ _ _ _ ?_
                  simp only [Value.ownBlock, Option.some.injEq] at hx'
                  subst hx'
                  intro h
                  exact HAP.out g3 rfl (by rw [show (Value.slice (some ⟨g4, 0, none⟩) q y4).ownBlock = some g4 from rfl, h])
              have HJ1 : Hid (j + 1 ≤ q) := hlt
              rw [← hlv] at cc3 hex
              rw [← hjj] at cc4
              have HT2 : Hid (zn (tsum p (pt m i) (L.take (j + 1))) = zn (tsum p (pt m i) (L.take (j + 1)))) := rfl
              generalize zn (p (L.getD j 0) * pwK (pt m i) (L.getD j 0)) = q1 at hex hx
              generalize zn (tsum p (pt m i) (L.take j)) = q2 at hx ⊢
              generalize hq3 : zn (tsum p (pt m i) (L.take (j + 1))) = q3 at hx
              have HQ3 := Lib.hid hq3
              clear d1e d1 hOi hch hB0 ho3 ho4 hcell3 hcell4 elg hmem hpj hez htk hset hlv hjj hij hlgm hsz hlv2 hq3 HT2 HJ hb3 hb4 hl3 hl4 hc3 hc4 hlt hjk hjl
              go_wp2_with fail
              refine hex.mono ?_
              rintro e w6 ⟨rfl, rfl⟩
              clear hex
              go_wp2_with fail
              go_roundg (q - (j + 1))
              case measure => have := HG3.out; have := HJ1.out; omega
              case rel => exact ⟨j + 1, rfl, HJ1.out, by go_num, by rw [HQ3.out], HSt⟩
            · obtain rfl : j = q := by omega
              obtain ⟨hOi, hch, hB0, ho3, ho4⟩ := HJ.out
              have hHQ := HQ.out
              have etk : L.take j = L := by rw [hHQ]; exact List.take_length
              have ev1 : tsum p (pt m i) (L.take j) = ev k p (pt m i) := by rw [etk, HL.out]; exact tsum_nz _ _ _
              rw [ev1]
              have elg : lgs p L i j = lgs p L (i + 1) 0 := by rw [hHQ]; exact lgs_all p L i
              rw [elg] at ho3
              obtain ⟨fn, tmps, assign, body, hy, hR⟩ := HYY.out (List.range i) i ol' wr hOi ⟨rfl, by omega⟩
              have HR := Lib.hid hR
              have HK := Lib.hid (And.intro hOi (And.intro hch (And.intro hB0 (And.intro ho3 ho4))))
              clear hOi hch hB0 ho3 ho4 hR ev1 etk elg hHQ HJ hlt
              go_upto_region 18 with (fail)
              refine (wpIn_wide (n := nf)).1 ?_
              gi_wp2
              refine ⟨fun e => by simp [Fence.wide] at e, (roundIn_wide HR.out).mono ?_⟩
              rintro e W6 ⟨ol2, ht, (⟨rfl, hO6⟩ | ⟨rfl, cx, hO6⟩)⟩
              · obtain ⟨hOi, hch, hB0, ho3, ho4⟩ := HK.out
                obtain ⟨hol, hn3, hn4⟩ := HN3.out
                have hsz := HF.out.2.2.2.size
                have hck : cb < wr.heap.size := lt_of_block hch
                have hw0 : w0.heap.size ≤ wr.heap.size := hB0.size
                have HZ : Hid (∃ ol', O (List.range (i + 1)) ol' W6 ∧ (∀ x ∈ ol', w0.heap.size ≤ x ∧ x ≠ cb) ∧ (∀ x, (Value.slice x3 j y3).ownBlock = some x → x ∉ ol') ∧ (∀ x, (Value.slice x4 j y4).ownBlock = some x → x ∉ ol') ∧ chB W6 cb g s a k c nn ∧ Below w0.heap.size w0 W6 ∧ Own64 W6 W.heap.size (.slice x3 j y3) j (lgs p L (i + 1) 0) ∧ Own64 W6 W.heap.size (.slice x4 j y4) j (intsN L)) := by
                  have hnew : ∀ x, x < wr.heap.size → x ∉ ol' → x ∉ ol2 := fun x hx hm hm2 => by
                    rcases ht.new x hm2 with h | h
                    · exact hm h
                    · omega
                  refine ⟨ol2, by rw [List.range_succ]; exact hO6, fun x hx => ?_, fun x hx => hnew x (ho3.block x hx).2 (hn3 x hx), fun x hx => hnew x (ho4.block x hx).2 (hn4 x hx), (ht.same cb hck (fun hm => (hol _ hm).2 rfl)).trans hch, ?_, ho3.keep fun x hx => ht.same x (ho3.block x hx).2 (hn3 x hx), ho4.keep fun x hx => ht.same x (ho4.block x hx).2 (hn4 x hx)⟩
                  · rcases ht.new x hx with h | h
                    · exact hol x h
                    · omega
                  · exact hB0.trans { os := ht.os, tape := ht.tape, output := ht.output, size := ht.size, block := fun x hx => ht.same x (by omega) fun hm => by have := (hol x hm).1; omega }
                clear hOi hch hB0 ho3 ho4 hol hn3 hn4 ht hO6 hsz hck hw0 hy HR HK
                gi_wp2
                go_wp2_with fail
                go_roundg (NN - (i + 1))
                case measure => have := HG2.out; omega
                case rel => exact ⟨i + 1, rfl, hii, by go_num, HZ⟩
              · have HX := Lib.hid hO6
                clear hy HR HK hO6
                gi_wp2
                go_wp2_with fail
                refine bodyPost_ret (results_none rfl _ _ _) rfl ?_
                exact ⟨⟨_, rfl⟩, .inr ⟨List.range (i + 1), cx, ol2, ⟨i + 1, by rw [← HNN.out]; exact hii, rfl⟩, by rw [List.range_succ]; exact HX.out⟩⟩
        · obtain rfl : i = NN := by omega
          have v1 : ¬ (i : Int) < nn := by omega
          obtain ⟨ol', hOi, hol', hn3, hn4, hch, hB0, ho3, ho4⟩ := HI.out
          have c3 := hch.cells.2.2.2
          have HX := Lib.hid hOi
          clear hOi hol' hn3 hn4 hch hB0 ho3 ho4 hlt
          go_wp2_with fail
          go_end0
          exact ⟨⟨_, rfl⟩, .inl ⟨ol', by rw [← HNN.out]; exact HX.out⟩⟩
end
end Go.Proofs.YtbgegnoenceflaaDoor.Sea
/- The places at which package search's ways find 0. By the verifier of shale. -/
namespace Go.Proofs.YtbgegnoenceflaaDoor.Sea
open Go Go.RowKit Pl Fld Bits16 Loc Go.Shelf
set_option linter.unusedVariables false
attribute [local go_sem] Oper.semAt_some
section
variable {m : Nat} [M : Mid m]
/-- what the loop's body holds: the places so far, in a box of its own. -/
def RtI (w0 : World) (p : Ser (El m)) (n lb B : Nat) (pre : List Nat) (bl : List Nat) (W : World) : Prop :=
  ∃ (x : Option Addr) (k y : Nat), bl = lb :: (Value.slice x k y).ownBlock.toList ∧ Box W lb (.slice x k y) 22 ∧ k = (pre.filter (zAt p n)).length ∧ Own64 W B (.slice x k y) k (intsN (pre.filter (zAt p n))) ∧ Below w0.heap.size w0 W ∧ w0.heap.size ≤ lb ∧ lb < B ∧ B ≤ W.heap.size
theorem RtI.fr {w0 : World} {p : Ser (El m)} {n lb B : Nat} {pre bl : List Nat} {X Y : World} (h : RtI w0 p n lb B pre bl X) (hB : w0.heap.size ≤ B) (f : Fr B [] bl X Y) : RtI w0 p n lb B pre bl Y := by
  obtain ⟨x, k, y, rfl, b, hk, o, hw, h1, h2, h3⟩ := h
  refine ⟨x, k, y, rfl, (f.same lb (.inr (List.mem_cons_self ..)) (lt_of_block b)).trans b, hk, o.keep fun z hz => f.same z (.inr (by simp [hz])) (o.block z hz).2, hw.trans { os := f.os, tape := f.tape, output := f.output, size := f.size, block := fun z hz => f.same z (.inl ⟨by omega, by simp⟩) (by have := hw.size; omega) }, h1, h2, Nat.le_trans h3 f.size⟩
theorem RtI.lt {w0 : World} {p : Ser (El m)} {n lb B : Nat} {pre bl : List Nat} {X : World} (h : RtI w0 p n lb B pre bl X) : ∀ k ∈ bl, k < X.heap.size := by
  obtain ⟨x, k, y, rfl, b, hk, o, hw, h1, h2, h3⟩ := h
  intro z hz
  rcases List.mem_cons.1 hz with rfl | hz
  · exact lt_of_block b
  · exact (o.block z (by simpa using hz)).2
theorem rt_skip {w0 : World} {p : Ser (El m)} {n lb B x : Nat} {pre bl : List Nat} {X : World} (h : RtI w0 p n lb B pre bl X) (hx : zAt p n x = false) : RtI w0 p n lb B (pre ++ [x]) bl X := by
  obtain ⟨a, k, y, rfl, b, hk, o, hw, h1, h2, h3⟩ := h
  have e : (pre ++ [x]).filter (zAt p n) = pre.filter (zAt p n) := by simp [hx]
  refine ⟨a, k, y, rfl, b, by rw [e]; exact hk, by rw [e]; exact o, hw, h1, h2, h3⟩
theorem filter_snoc {p : Ser (El m)} {n x : Nat} {pre : List Nat} (hx : zAt p n x = true) : (pre ++ [x]).filter (zAt p n) = pre.filter (zAt p n) ++ [x] := by simp [hx]
theorem rt_add {w0 : World} {p : Ser (El m)} {n lb B x k y : Nat} {a : Option Addr} {pre : List Nat} {W W5 : World} {v : Value} {ob : Obj} (hx : zAt p n x = true) (hb : Box W lb (.slice a k y) 22) (hk : k = (pre.filter (zAt p n)).length) (ho : Own64 W B (.slice a k y) k (intsN (pre.filter (zAt p n)))) (hw : Below w0.heap.size w0 W) (h1 : w0.heap.size ≤ lb) (h2 : lb < B) (hB : B ≤ W.heap.size)
    (hown : W5.ownsRow B 3 1 v (k + 1) (cells64 (intsN (pre.filter (zAt p n))) ++ [.int .i64 (x : Int)])) (hgrow : (W.alloc ob).grownBy W5 (Value.slice a k y).ownBlock) (hat : v.ownBlock = (Value.slice a k y).ownBlock ∨ v.ownBlock = some (W.alloc ob).heap.size) :
    Tn (lb :: (Value.slice a k y).ownBlock.toList) W (W5.setCell ⟨lb, 0, none⟩ v) (lb :: v.ownBlock.toList) ∧ RtI w0 p n lb B (pre ++ [x]) (lb :: v.ownBlock.toList) (W5.setCell ⟨lb, 0, none⟩ v) := by
  have hlW := lt_of_block hb
  have hbel : Below B W W5 := ((Below.refl B W).alloc hB _).grown hgrow (by rw [World.size_alloc]; omega) (fun x hx => (ho.block x hx).1)
  have hsame : ∀ z, z < W.heap.size → z ∉ (Value.slice a k y).ownBlock.toList → W5.heap[z]? = W.heap[z]? := fun z hz hn => (hgrow.block z (by rw [World.size_alloc]; omega) (fun e => hn (by simp [← e]))).trans (Below.heap_alloc W _ z hz)
  have hlb5 : Box W5 lb (.slice a k y) 22 := (hbel.block lb h2).trans hb
  have ho5 : Own64 W5 B v (k + 1) (intsN ((pre ++ [x]).filter (zAt p n))) := by
    rw [filter_snoc hx, show intsN (pre.filter (zAt p n) ++ [x]) = intsN (pre.filter (zAt p n)) ++ [(x : Int)] by simp [intsN]]
    unfold Own64; rw [← cells64_append]; exact hown
  obtain ⟨av, cv, rfl⟩ := own_slice ho5
  refine ⟨⟨hbel.os, hbel.tape, hbel.output, by show W.heap.size ≤ (World.setCell _ _ _).heap.size; simp [World.setCell]; exact hbel.size, fun z hz hn => ?_, fun z hz => ?_⟩, av, k + 1, cv, rfl, hlb5.put _, by rw [filter_snoc hx, List.length_append, ← hk]; rfl, ?_, (hw.trans (hbel.mono (by omega))).setCell h1 _, h1, h2, by simp [World.setCell]; have := hbel.size; omega⟩
  · rw [List.mem_cons, not_or] at hn
    exact (Below.heap_setCell _ _ _ _ hn.1).trans (hsame z hz hn.2)
  · rcases List.mem_cons.1 hz with rfl | hz
    · exact .inl (List.mem_cons_self ..)
    · rcases hat with h | h
      · exact .inl (List.mem_cons_of_mem _ (by rw [← h]; exact hz))
      · rw [h] at hz
        simp only [Option.toList_some, List.mem_singleton] at hz
        rw [World.size_alloc] at hz
        exact .inr (by omega)
  · exact ho5.keep fun z hz => Below.heap_setCell _ _ _ _ (by have := (ho5.block z hz).1; show z ≠ lb; omega)
theorem zAt_eq {p : Ser (El m)} {n x : Nat} {z : Int} (hz : z = zn (ev n p (pt m x))) : zAt p n x = (z == 0) := by rw [hz]; rfl
set_option maxRecDepth 100000 in
set_option maxHeartbeats 2000000 in
theorem roots_steps {K : Nat} {w : World} {s be ce bl g : Nat} {a : Option Addr} {n c : Nat} {p : Ser (El m)} {nn : Int} {y : Addr} (F : FldAt m w s be ce bl) (R : RingAt m w g s be ce bl) (P : NV m w K a n c p) (hn : n ≤ 2048) (hnn : nn ≤ 16383) (E : ErrAt w 2 y) :
    Calls Tryd.prog 25 #[chV g s a n c nn, .func (.func 26) #[] #[]] w fun e w' => ∃ v k pre, e = .returned v ∧ Own64 w' w.heap.size v k (intsN (pre.filter (zAt p n))) ∧ Below w.heap.size w w' ∧ (pre = List.range nn.toNat ∨ ∃ j, j ≤ nn.toNat ∧ pre = List.range j ∧ 0 < n ∧ (pre.filter (zAt p n)).length = n - 1) := by
  obtain ⟨i0, hi, hz0, hz1, hz2⟩ := info64
  refine (callsIn_wide (n := 3)).1 ?_
  refine callsIn_of_wp_marks Tryd.func25 rfl trivial ?_ rfl
  simp only [Tryd.ntmps25, List.size_toArray, List.length_cons, List.length_nil, Nat.reduceAdd, Nat.reduceSub, Array.replicate_succ, Array.replicate_zero, List.push_toArray, List.append_toArray, List.nil_append, List.cons_append]
  refine wpIn_wide.2 ?_
  go_wp2_with fail
  obtain ⟨w1, hw1⟩ : ∃ w1, w1 = ((w.alloc (.cells #[.pointer (some ⟨g, 0, none⟩), .pointer (some ⟨s, 0, none⟩), .slice a n c, .int .i64 nn] 50 (0, 0))).alloc (.cells #[.slice none 0 0] 22)) := ⟨_, rfl⟩
  rw [← hw1]
  have hs1 : w1.heap.size = w.heap.size + 2 := by rw [hw1]; simp
  have hb1 : Below w.heap.size w w1 := by rw [hw1]; exact ((Below.refl _ _).alloc (Nat.le_refl _) _).alloc (by simp) _
  have hc1 : chB w1 w.heap.size g s a n c nn := by rw [hw1]; exact (Below.heap_alloc _ _ _ (by simp)).trans (heap_alloc_new w _)
  have hl1 : Box w1 (w.heap.size + 1) (.slice none 0 0) 22 := by
    rw [hw1]
    have := heap_alloc_new (w.alloc (.cells #[.pointer (some ⟨g, 0, none⟩), .pointer (some ⟨s, 0, none⟩), .slice a n c, .int .i64 nn] 50 (0, 0))) (.cells #[.slice none 0 0] 22)
    rwa [World.size_alloc] at this
  clear hw1
  refine (steps_any g s a n c nn w1).mono ?_
  rintro e w2 ⟨rfl, hcb, hb2⟩
  have hl2 : Box w2 (w.heap.size + 1) (.slice none 0 0) 22 := (hb2.block _ (by omega)).trans hl1
  have hc2 : chB w2 w.heap.size g s a n c nn := (hb2.block _ (by omega)).trans hc1
  have hb := hb1.trans (hb2.mono hb1.size)
  have hlt2 : w1.heap.size < w2.heap.size := lt_of_block hcb
  have HF := Lib.hid (And.intro F (And.intro P (And.intro E R)))
  have H2 := Lib.hid (And.intro hl2 (And.intro hc2 (And.intro hb (And.intro hcb (And.intro hlt2 hs1)))))
  obtain ⟨cb, hcbe⟩ : ∃ cb, cb = w1.heap.size := ⟨_, rfl⟩
  have HCB := Lib.hid hcbe
  rw [← hcbe]
  clear hl1 hc1 hb1 hb2 hl2 hc2 hb hcb hlt2 hs1 F P E R hcbe
  go_wp2_with fail
  refine wpIn_wide.1 (range_sep (n := 3) (gf := 39) (lb := #[.pointer (some ⟨cb, 0, none⟩)]) rfl (enters_of Tryd.func39 (by kernel_rfl) rfl)
    (encs := encP p n) (fun _ => rfl) (V := (fun pre x => pre = List.range x ∧ x < nn.toNat)) [] (C := Finds w cb g s a n c nn)
    (fun pre bl W => RtI w p n (w.heap.size + 1) w2.heap.size pre bl W ∧ chB W w.heap.size g s a n c nn)
    (fun cde pre bl W => cde = .exit 0 ∧ (RtI w p n (w.heap.size + 1) w2.heap.size pre bl W ∧ chB W w.heap.size g s a n c nn) ∧ 0 < n ∧ (pre.filter (zAt p n)).length = n - 1)
    ?_ ?_ ?_ (bl0 := [w.heap.size + 1]) ?_ ?_
    (steps_iter 2 w2.heap.size HF.out.1 HF.out.2.1 hn hnn HF.out.2.2.1)
    (fun x => { tmps := #[chV g s a n c nn, .func (.func 26) #[] #[], .pointer (some ⟨w.heap.size, 0, none⟩), undef, .slice none 0 0, .pointer (some ⟨w.heap.size + 1, 0, none⟩), .int .i64 (x : Int), .int .i64 (zn (ev n p (pt m x))), .func (.func 26) #[] #[], chV g s a n c nn, .func (.func 39) #[] #[.pointer (some ⟨cb, 0, none⟩)], .int .i64 (x : Int), .int .i64 (zn (ev n p (pt m x))), undef, undef, undef, undef, undef, undef, undef, undef, undef, undef, undef, undef, undef, undef, undef, undef, undef, undef, undef, undef], defers := [] }) ?_ ?_ ?_ ?_)
  · rintro pre bl X Y ⟨h1, h2⟩ f
    have := H2.out.2.2.2.2
    exact ⟨h1.fr (by omega) f, (f.same _ (.inl ⟨by omega, by simp⟩) (lt_of_block h2)).trans h2⟩
  · rintro cde pre bl X Y ⟨h0, ⟨h1, h2⟩, h3⟩ f
    have := H2.out.2.2.2.2
    exact ⟨h0, ⟨h1.fr (by omega) f, (f.same _ (.inl ⟨by omega, by simp⟩) (lt_of_block h2)).trans h2⟩, h3⟩
  · rintro pre bl X ⟨h1, _⟩
    exact h1.lt
  · have := H2.out.2.2.2.2
    exact ⟨⟨none, 0, 0, rfl, H2.out.1, rfl, Own64.nil _ _, H2.out.2.2.1, by omega, by omega, Nat.le_refl _⟩, H2.out.2.1⟩
  · intro W hW
    have h2 := H2.out
    have hcbe := HCB.out
    refine ⟨h2.2.2.1.trans (hW.mono h2.2.2.1.size), (hW.block _ (by rw [hcbe]; exact h2.2.2.2.2.1)).trans (by rw [hcbe]; exact h2.2.2.2.1), by omega, fun k hk => ?_⟩
    simp only [List.mem_cons, List.not_mem_nil, or_false] at hk
    omega
  · intro l x W K hK
    gi_wp2
    exact hK
  · rintro l pre bl x W ⟨hi', hc⟩ hV
    have hlen : pre.length < nn.toNat := by rw [hV.1, List.length_range]; exact hV.2
    clear hV
    have hii := hi'
    obtain ⟨xa, k, y', rfl, hb, hk, ho, hw, h1, h2, hwB⟩ := hii
    have g1 := hb.cell
    have g2 := hb.free
    have g3 := hc.cells.2.2.1
    obtain ⟨z, hz⟩ : ∃ z, z = zn (ev n p (pt m x)) := ⟨_, rfl⟩
    have HZ := Lib.hid (zAt_eq hz)
    show Code.wpIn _ _ _ _ _ ({ tmps := #[chV g s a n c nn, .func (.func 26) #[] #[], .pointer (some ⟨w.heap.size, 0, none⟩), undef, .slice none 0 0, .pointer (some ⟨w.heap.size + 1, 0, none⟩), .int .i64 (x : Int), .int .i64 (zn (ev n p (pt m x))), .func (.func 26) #[] #[], chV g s a n c nn, .func (.func 39) #[] #[.pointer (some ⟨cb, 0, none⟩)], .int .i64 (x : Int), .int .i64 (zn (ev n p (pt m x))), undef, undef, undef, undef, undef, undef, undef, undef, undef, undef, undef, undef, undef, undef, undef, undef, undef, undef, undef, undef], defers := [] }) _
    rw [← hz]
    clear hz
    have hkl : k ≤ pre.length := by rw [hk]; exact List.length_filter_le _ _
    have hk16 : k ≤ 16383 := by omega
    have HI := Lib.hid (And.intro hi' (And.intro hc (And.intro hw (And.intro h1 (And.intro h2 (And.intro hb hk))))))
    have HL := Lib.hid hlen
    clear hi' hc hw h1 h2 hb hlen
    by_cases hzz : z = 0
    · have hzb : (z == 0) = true := by simp [hzz]
      have hx : Hid (zAt p n x = true) := by show _ = _; rw [HZ.out]; exact hzb
      have HK := Lib.hid hk
      clear hk
      by_cases hn0 : 0 < n
      · by_cases hs : (k : Int) + 1 = (n : Int) - 1
        · have hs2 : ((k : Int) + 1 == (n : Int) - 1) = true := by simp [hs]
          have HS := Lib.hid hs
          clear hs
          gi_wp2_with (first
            | (gi_at_builtin; refine wpListIn_append_own_at _ rfl _ _ 22 rfl w2.heap.size 3 i0 (.int .i64 0) 1 8 Tryd.underlying22 hi hz0 hz1 hz2 rfl (by decide) (.slice xa k y') k (cells64 (intsN (pre.filter (zAt p n)))) rfl (World.ownsRow.alloc ho _) ⟨W.heap.size, 0, none⟩ 1 1 [.int .i64 (x : Int)] rfl rfl (cell_one_new _ _ _) (ints_oneCell .i64 [_]) (by unfold maxLen; omega) (by omega) (by rw [World.size_alloc]; omega) ?_; intro v' w5 hown hgrow hnil hat; have hadd := rt_add hx.out HI.out.2.2.2.2.2.1 HI.out.2.2.2.2.2.2 ho HI.out.2.2.1 HI.out.2.2.2.1 HI.out.2.2.2.2.1 hwB hown hgrow hat; obtain ⟨av, cv, rfl⟩ := own_slice (show Own64 w5 w2.heap.size v' (k + 1) (intsN (pre.filter (zAt p n)) ++ [(x : Int)]) by unfold Own64; rw [← cells64_append]; exact hown); have HB5 : Hid (Below w2.heap.size W w5) := (((Below.refl w2.heap.size W).alloc hwB _).grown hgrow (by rw [World.size_alloc]; omega) (fun x hx => (ho.block x hx).1)); have b5 : Box w5 (w.heap.size + 1) (.slice xa k y') 22 := (HB5.out.block _ HI.out.2.2.2.2.1).trans HI.out.2.2.2.2.2.1; have g4 := b5.free; have g8 := b5.cell; have c6 : chB (w5.setCell ⟨w.heap.size + 1, 0, none⟩ (.slice av (k + 1) cv)) w.heap.size g s a n c nn := (Below.heap_setCell _ _ _ _ (by show w.heap.size ≠ w.heap.size + 1; omega)).trans ((HB5.out.block _ (by have := HI.out.2.2.2.2.1; omega)).trans HI.out.2.1); have g5 := (b5.put (.slice av (k + 1) cv)).cell; have g6 := c6.cells.2.2.1; have g7 := (chB.cells ((HB5.out.block _ (by have := HI.out.2.2.2.2.1; omega)).trans HI.out.2.1 : chB w5 w.heap.size g s a n c nn)).2.2.1; have HA := Lib.hid (And.intro hadd c6); clear g1 g2 g3 hadd c6 b5 hown hgrow hnil hat ho)
            | fail)
          exact ⟨_, HA.out.1.1, rfl, ⟨HA.out.1.2, HA.out.2⟩, hn0, by rw [filter_snoc hx.out, List.length_append, ← HK.out]; have := HS.out; show k + 1 = n - 1; omega⟩
        · have hs2 : ((k : Int) + 1 == (n : Int) - 1) = false := by simp [hs]
          have HS := Lib.hid hs
          clear hs
          gi_wp2_with (first
            | (gi_at_builtin; refine wpListIn_append_own_at _ rfl _ _ 22 rfl w2.heap.size 3 i0 (.int .i64 0) 1 8 Tryd.underlying22 hi hz0 hz1 hz2 rfl (by decide) (.slice xa k y') k (cells64 (intsN (pre.filter (zAt p n)))) rfl (World.ownsRow.alloc ho _) ⟨W.heap.size, 0, none⟩ 1 1 [.int .i64 (x : Int)] rfl rfl (cell_one_new _ _ _) (ints_oneCell .i64 [_]) (by unfold maxLen; omega) (by omega) (by rw [World.size_alloc]; omega) ?_; intro v' w5 hown hgrow hnil hat; have hadd := rt_add hx.out HI.out.2.2.2.2.2.1 HI.out.2.2.2.2.2.2 ho HI.out.2.2.1 HI.out.2.2.2.1 HI.out.2.2.2.2.1 hwB hown hgrow hat; obtain ⟨av, cv, rfl⟩ := own_slice (show Own64 w5 w2.heap.size v' (k + 1) (intsN (pre.filter (zAt p n)) ++ [(x : Int)]) by unfold Own64; rw [← cells64_append]; exact hown); have HB5 : Hid (Below w2.heap.size W w5) := (((Below.refl w2.heap.size W).alloc hwB _).grown hgrow (by rw [World.size_alloc]; omega) (fun x hx => (ho.block x hx).1)); have b5 : Box w5 (w.heap.size + 1) (.slice xa k y') 22 := (HB5.out.block _ HI.out.2.2.2.2.1).trans HI.out.2.2.2.2.2.1; have g4 := b5.free; have g8 := b5.cell; have c6 : chB (w5.setCell ⟨w.heap.size + 1, 0, none⟩ (.slice av (k + 1) cv)) w.heap.size g s a n c nn := (Below.heap_setCell _ _ _ _ (by show w.heap.size ≠ w.heap.size + 1; omega)).trans ((HB5.out.block _ (by have := HI.out.2.2.2.2.1; omega)).trans HI.out.2.1); have g5 := (b5.put (.slice av (k + 1) cv)).cell; have g6 := c6.cells.2.2.1; have g7 := (chB.cells ((HB5.out.block _ (by have := HI.out.2.2.2.2.1; omega)).trans HI.out.2.1 : chB w5 w.heap.size g s a n c nn)).2.2.1; have HA := Lib.hid (And.intro hadd c6); clear g1 g2 g3 hadd c6 b5 hown hgrow hnil hat ho)
            | fail)
          exact ⟨_, HA.out.1.1, HA.out.1.2, HA.out.2⟩
      · gi_wp2_with (first
          | (gi_at_builtin; refine wpListIn_append_own_at _ rfl _ _ 22 rfl w2.heap.size 3 i0 (.int .i64 0) 1 8 Tryd.underlying22 hi hz0 hz1 hz2 rfl (by decide) (.slice xa k y') k (cells64 (intsN (pre.filter (zAt p n)))) rfl (World.ownsRow.alloc ho _) ⟨W.heap.size, 0, none⟩ 1 1 [.int .i64 (x : Int)] rfl rfl (cell_one_new _ _ _) (ints_oneCell .i64 [_]) (by unfold maxLen; omega) (by omega) (by rw [World.size_alloc]; omega) ?_; intro v' w5 hown hgrow hnil hat; have hadd := rt_add hx.out HI.out.2.2.2.2.2.1 HI.out.2.2.2.2.2.2 ho HI.out.2.2.1 HI.out.2.2.2.1 HI.out.2.2.2.2.1 hwB hown hgrow hat; obtain ⟨av, cv, rfl⟩ := own_slice (show Own64 w5 w2.heap.size v' (k + 1) (intsN (pre.filter (zAt p n)) ++ [(x : Int)]) by unfold Own64; rw [← cells64_append]; exact hown); have HB5 : Hid (Below w2.heap.size W w5) := (((Below.refl w2.heap.size W).alloc hwB _).grown hgrow (by rw [World.size_alloc]; omega) (fun x hx => (ho.block x hx).1)); have b5 : Box w5 (w.heap.size + 1) (.slice xa k y') 22 := (HB5.out.block _ HI.out.2.2.2.2.1).trans HI.out.2.2.2.2.2.1; have g4 := b5.free; have g8 := b5.cell; have c6 : chB (w5.setCell ⟨w.heap.size + 1, 0, none⟩ (.slice av (k + 1) cv)) w.heap.size g s a n c nn := (Below.heap_setCell _ _ _ _ (by show w.heap.size ≠ w.heap.size + 1; omega)).trans ((HB5.out.block _ (by have := HI.out.2.2.2.2.1; omega)).trans HI.out.2.1); have g5 := (b5.put (.slice av (k + 1) cv)).cell; have g6 := c6.cells.2.2.1; have g7 := (chB.cells ((HB5.out.block _ (by have := HI.out.2.2.2.2.1; omega)).trans HI.out.2.1 : chB w5 w.heap.size g s a n c nn)).2.2.1; have HA := Lib.hid (And.intro hadd c6); clear g1 g2 g3 hadd c6 b5 hown hgrow hnil hat ho)
          | fail)
        exact ⟨_, HA.out.1.1, HA.out.1.2, HA.out.2⟩
    · have hzb : (z == 0) = false := by simp [hzz]
      have hx : Hid (zAt p n x = false) := by show _ = _; rw [HZ.out]; exact hzb
      have HK := Lib.hid hk
      clear hk
      by_cases hn0 : 0 < n
      · by_cases hs : (k : Int) = (n : Int) - 1
        · have hs2 : ((k : Int) == (n : Int) - 1) = true := by simp [hs]
          have HS := Lib.hid hs
          clear hs
          gi_wp2
          exact ⟨_, Tn.refl _ _, rfl, ⟨rt_skip HI.out.1 hx.out, HI.out.2.1⟩, hn0, by rw [show (pre ++ [x]).filter (zAt p n) = pre.filter (zAt p n) by simp [hx.out], ← HK.out]; have := HS.out; omega⟩
        · have hs2 : ((k : Int) == (n : Int) - 1) = false := by simp [hs]
          have HS := Lib.hid hs
          clear hs
          gi_wp2
          exact ⟨_, Tn.refl _ _, rt_skip HI.out.1 hx.out, HI.out.2.1⟩
      · gi_wp2
        exact ⟨_, Tn.refl _ _, rt_skip HI.out.1 hx.out, HI.out.2.1⟩
  · intro D xs bl W hD hDl hDb hS hi' hdef
    obtain ⟨⟨xa, k, y', rfl, hb, hk, ho, hw, h1, h2, hwB⟩, hc⟩ := hi'
    have g1 := hb.cell
    have HX := Lib.hid (And.intro hk (And.intro ho (And.intro hw (And.intro hc (And.intro hS (And.intro hD hDb))))))
    clear hk ho hw hc hS hD hDb
    go_wp2
    obtain ⟨hk, ho, hw, hc, hS, hD, hDb⟩ := HX.out
    refine ⟨by simp, .inl ⟨_, _, rfl, run_takeDeferred hdef, ?_⟩⟩
    exact ⟨_, results_tmp rfl _ _ _, _, k, xs, rfl, own_from ((ho.keep fun z hz => World.putObj_heap_other (fun e => hDb (by rw [← e]; simp [hz])))) (by omega), hw.trans ⟨rfl, rfl, rfl, by simp, fun z hz => World.putObj_heap_other (by have := hw.size; omega)⟩, .inl hS⟩
  · intro D cde pre bl W hD hDl hDb hS hix hdef
    obtain ⟨rfl, ⟨⟨xa, k, y', rfl, hb, hk, ho, hw, h1, h2, hwB⟩, hc⟩, hn0, hlen⟩ := hix
    have g1 := hb.cell
    have HX := Lib.hid (And.intro hk (And.intro ho (And.intro hw (And.intro hc (And.intro hS (And.intro hD hDb))))))
    clear hk ho hw hc hS hD hDb
    gi_wp2
    go_wp2_with fail
    obtain ⟨hk, ho, hw, hc, hS, hD, hDb⟩ := HX.out
    refine ⟨by simp, .inl ⟨_, _, rfl, run_takeDeferred hdef, ?_⟩⟩
    exact ⟨_, results_tmp rfl _ _ _, _, k, pre, rfl, own_from ((ho.keep fun z hz => World.putObj_heap_other (fun e => hDb (by rw [← e]; simp [hz])))) (by omega), hw.trans ⟨rfl, rfl, rfl, by simp, fun z hz => World.putObj_heap_other (by have := hw.size; omega)⟩, .inr ⟨_, hS.choose_spec.1, hS.choose_spec.2, hn0, hlen⟩⟩
end
end Go.Proofs.YtbgegnoenceflaaDoor.Sea
/- The walk over package search's places, each by an evaluation. By the verifier of shale. -/
namespace Go.Proofs.YtbgegnoenceflaaDoor.Sea
open Go Go.RowKit Pl Fld Bits16 Loc
set_option linter.unusedVariables false
set_option maxHeartbeats 400000 in
theorem plain_any (g s : Nat) (a : Option Addr) (n c : Nat) (nn : Int) (w : World) :
    Calls Tryd.prog 27 #[chV g s a n c nn] w fun e w' => e = .returned (.func (.func 41) #[] #[.pointer (some ⟨w.heap.size, 0, none⟩)]) ∧ chB w' w.heap.size g s a n c nn ∧ Below w.heap.size w w' := by
  have h1 : Hid (chB (w.alloc (.cells #[.pointer (some ⟨g, 0, none⟩), .pointer (some ⟨s, 0, none⟩), .slice a n c, .int .i64 nn] 50 (0, 0))) w.heap.size g s a n c nn ∧ Below w.heap.size w (w.alloc (.cells #[.pointer (some ⟨g, 0, none⟩), .pointer (some ⟨s, 0, none⟩), .slice a n c, .int .i64 nn] 50 (0, 0)))) :=
    ⟨heap_alloc_new w _, (Below.refl _ _).alloc (Nat.le_refl _) _⟩
  go_enter Tryd.func27, Tryd.ntmps27
  go_wp2_with fail
  go_ret
  exact ⟨rfl, h1.out.1, h1.out.2⟩
section
variable {m : Nat} [M : Mid m]
set_option maxRecDepth 100000 in
set_option maxHeartbeats 2000000 in
theorem plain_iter (nf B : Nat) {K : Nat} {w0 : World} {s be ce bl cb g : Nat} {a : Option Addr} {n c : Nat} {p : Ser (El m)} {nn : Int} (F : FldAt m w0 s be ce bl) (R : RingAt m w0 g s be ce bl) (P : NV m w0 K a n c p) (hn : n ≤ 2048) (hnn : nn ≤ 16383) :
    IterSep nf Tryd.prog 41 #[.pointer (some ⟨cb, 0, none⟩)] (encP p n) B [] (fun pre x => pre = List.range x ∧ x < nn.toNat) (fun xs => xs = List.range nn.toNat) (fun pre => ∃ k, k ≤ nn.toNat ∧ pre = List.range k) (Finds w0 cb g s a n c nn) := by
  intro l O Ox ol W hO hOx hOl hY hBW h0 hC
  refine callsIn_wide.2 ?_
  obtain ⟨hB0, hch, hcb, hol⟩ := hC
  have c3 := hch.cells.2.2.2
  have HYY := Lib.hid hY
  have HOO := Lib.hid (And.intro hO (And.intro hOx hOl))
  have HF := Lib.hid (And.intro F (And.intro R (And.intro P hB0)))
  have H1 : Hid (∃ ol', O (List.range 0) ol' W ∧ (∀ x ∈ ol', w0.heap.size ≤ x ∧ x ≠ cb) ∧ chB W cb g s a n c nn ∧ Below w0.heap.size w0 W) := ⟨ol, h0, hol, hch, hB0⟩
  obtain ⟨NN, hNN⟩ : ∃ NN, NN = nn.toNat := ⟨_, rfl⟩
  have HNN := Lib.hid hNN
  have hNN2 : NN ≤ 16383 := by omega
  have hnnz : (nn ≤ 0 ∧ NN = 0) ∨ nn = (NN : Int) := by omega
  clear hO hOx hOl hY h0 F R P hB0 hch hol hNN
  go_enter Tryd.func41, Tryd.ntmps41
  go_wp2_with fail
  clear c3
  go_loopg [6] NN (fun gh s6 wx => ∃ i : Nat, gh = NN - i ∧ i ≤ NN ∧ s6 = .int .i64 (i : Int) ∧ Hid (∃ ol', O (List.range i) ol' wx ∧ (∀ x ∈ ol', w0.heap.size ≤ x ∧ x ≠ cb) ∧ chB wx cb g s a n c nn ∧ Below w0.heap.size w0 wx))
  case atStart => exact ⟨0, rfl, Nat.zero_le _, rfl, H1⟩
  case round =>
    clear H1
    obtain ⟨i, hg, hi2, rfl, HI⟩ := hrel
    have HG2 := Lib.hid hg
    clear hg
    obtain ⟨W5, hW5⟩ : ∃ W5, W5 = wr := ⟨_, rfl⟩
    rw [← hW5] at HI ⊢
    clear hW5
    by_cases hlt : i < NN
    · have v1 : (i : Int) < nn := by omega
      have hii : i + 1 ≤ NN := hlt
      clear hlt
      obtain ⟨ol', hOi, hol', hch, hB0⟩ := HI.out
      obtain ⟨c0, c1, c2, c3⟩ := hch.cells
      have HX : Hid (∀ X, Drawn W5 X → FldAt m X s be ce bl ∧ RingAt m X g s be ce bl ∧ PV m X n a n c p) := fun X d => ⟨HF.out.1.below M.lo (hB0.trans (d.below _)), HF.out.2.1.below (hB0.trans (d.below _)), (by have := HF.out.2.2.1.below (hB0.trans (d.below w0.heap.size)); exact ⟨_, this.row, sr_nums this.bd, Nat.le_refl _⟩)⟩
      have HK : Hid (chB W5 cb g s a n c nn ∧ (∀ x ∈ ol', w0.heap.size ≤ x ∧ x ≠ cb) ∧ Below w0.heap.size w0 W5) := ⟨hch, hol', hB0⟩
      have HYi : Hid (∀ X, Drawn W5 X → YieldAt Fence.wide nf Tryd.prog l (encP p n i) X fun e Y => ∃ ol2, Tn ol' X Y ol2 ∧ ((e = .returned (.bool true) ∧ O (List.range (i + 1)) ol2 Y) ∨ (e = .returned (.bool false) ∧ ∃ c, Ox c (List.range (i + 1)) ol2 Y))) := fun X d => by
        have := HYY.out (List.range i) i ol' X (HOO.out.1 _ _ _ _ hOi (Fr.below (d.below _))) ⟨rfl, by omega⟩
        rwa [← List.range_succ] at this
      have HEV : Hid (∀ X, Drawn W5 X → Calls Tryd.prog 42 #[.pointer (some ⟨g, 0, none⟩), .slice a n c, .int .i64 (zn (pt m i))] X fun e w' => e = .returned (.int .i64 (zn (ev n p (pt m i)))) ∧ Drawn X w') := fun X d => by
        have q := evalV (zn (pt m i)) (HX.out X d).2.1 (HX.out X d).2.2
        rwa [elm_zn] at q
      have HWR : Hid (IntKind.i64.wrap (-(i : Int)) = -(i : Int)) := IntWalk.i64_in _ (by omega)
      clear hOi hol' hch hB0 HI
      go_upto_region 3 with (fail)
      refine (wpIn_wide (n := nf)).1 ?_
      gi_region_with (first
        | (refine ⟨trivial, fun e => by simp [Fence.wide] at e, ?_⟩; gi_at_call 20; rw [HWR.out]; refine CallsIn.mono (callsIn_wide.2 (fexp_any M.lo M.hi (-(i : Int)) _ (HX.out _ ⟨1, rfl⟩).1)) ?_; rintro e w6 ⟨rfl, rfl⟩)
        | (refine ⟨trivial, fun e => by simp [Fence.wide] at e, ?_⟩; gi_at_call 42; refine CallsIn.mono (callsIn_wide.2 (HEV.out _ ⟨1, rfl⟩)) ?_; rintro e w6 ⟨rfl, d6⟩; obtain ⟨fn, tmps, assign, body, hy, hR⟩ := HYi.out w6 (Drawn.trans (⟨1, rfl⟩ : Drawn W5 W5.drew) d6); have HR := Lib.hid hR; clear hR)
        | (refine ⟨fun e => by simp [Fence.wide] at e, (roundIn_wide HR.out).mono ?_⟩; rintro e W6 ⟨ol2, ht, he⟩; obtain ⟨bv, rfl, hO6⟩ : ∃ bv, e = .returned (.bool bv) ∧ ((bv = true ∧ O (List.range (i + 1)) ol2 W6) ∨ (bv = false ∧ ∃ c, Ox c (List.range (i + 1)) ol2 W6)) := by rcases he with ⟨h, k⟩ | ⟨h, k⟩ <;> exact ⟨_, h, by simp [k]⟩)
        | fail)
      all_goals
        change Exit.then _ _ _ (Act.put _ (some 22) _) _
        simp only [Act.put, List.setIfInBounds_toArray, List.set_cons_zero, List.set_cons_succ]
        have dd := Drawn.trans (⟨1, rfl⟩ : Drawn W5 W5.drew) d6
        rcases hO6 with ⟨rfl, hO6⟩ | ⟨rfl, hO6⟩
        · have HZ : Hid (∃ ol', O (List.range (i + 1)) ol' W6 ∧ (∀ x ∈ ol', w0.heap.size ≤ x ∧ x ≠ cb) ∧ chB W6 cb g s a n c nn ∧ Below w0.heap.size w0 W6) := by
            obtain ⟨hch, hol', hB0⟩ := HK.out
            have hB6 := hB0.trans (dd.below w0.heap.size)
            have hc6 : chB _ cb g s a n c nn := ((dd.below W5.heap.size).block cb (lt_of_block hch)).trans hch
            have hck := lt_of_block hc6
            have hsz := hB6.size
            have hS5 := hB0.size
            have hS6 := (dd.below W5.heap.size).size
            have hnew : ∀ x ∈ ol2, w0.heap.size ≤ x ∧ x ≠ cb := fun x hx => by
              rcases ht.new x hx with h | h
              · exact hol' x h
              · exact ⟨by omega, by omega⟩
            refine ⟨ol2, hO6, hnew, (ht.same cb hck (fun hm => (hol' _ hm).2 rfl)).trans hc6, ?_⟩
            exact hB6.trans { os := ht.os, tape := ht.tape, output := ht.output, size := ht.size, block := fun x hx => ht.same x (by omega) fun hm => by have := (hol' x hm).1; omega }
          clear hO6 ht HR hy d6 dd c0 c1 c2 c3
          go_wp2_with fail
          go_roundg (NN - (i + 1))
          case measure => have := HG2.out; omega
          case rel => exact ⟨i + 1, rfl, hii, by go_num, HZ⟩
        · have HZ := Lib.hid hO6
          clear hO6 ht HR hy d6 dd c0 c1 c2 c3
          go_wp2_with fail
          refine bodyPost_ret (results_none rfl _ _ _) rfl ?_
          obtain ⟨cx, hx⟩ := HZ.out
          exact ⟨⟨_, rfl⟩, .inr ⟨List.range (i + 1), ⟨i + 1, by rw [← HNN.out]; exact hii, rfl⟩, cx, ol2, hx⟩⟩
    · obtain rfl : i = NN := by omega
      have v1 : ¬ (i : Int) < nn := by omega
      obtain ⟨ol', hOi, hol', hch, hB0⟩ := HI.out
      have c3 := hch.cells.2.2.2
      have HX := Lib.hid hOi
      clear hOi hol' hch hB0 hlt
      go_wp2_with fail
      go_end0
      exact ⟨⟨_, rfl⟩, .inl ⟨ol', by rw [← HNN.out]; exact HX.out⟩⟩
end
end Go.Proofs.YtbgegnoenceflaaDoor.Sea
/- The places at which package search's Plain finds 0. By the verifier of shale. -/
namespace Go.Proofs.YtbgegnoenceflaaDoor.Sea
open Go Go.RowKit Pl Fld Bits16 Loc Go.Shelf
set_option linter.unusedVariables false
attribute [local go_sem] Oper.semAt_some
section
variable {m : Nat} [M : Mid m]
set_option maxRecDepth 100000 in
set_option maxHeartbeats 2000000 in
theorem roots_plain {K : Nat} {w : World} {s be ce bl g : Nat} {a : Option Addr} {n c : Nat} {p : Ser (El m)} {nn : Int} {y : Addr} (F : FldAt m w s be ce bl) (R : RingAt m w g s be ce bl) (P : NV m w K a n c p) (hn : n ≤ 2048) (hnn : nn ≤ 16383) (E : ErrAt w 2 y) :
    Calls Tryd.prog 25 #[chV g s a n c nn, .func (.func 27) #[] #[]] w fun e w' => ∃ v k pre, e = .returned v ∧ Own64 w' w.heap.size v k (intsN (pre.filter (zAt p n))) ∧ Below w.heap.size w w' ∧ (pre = List.range nn.toNat ∨ ∃ j, j ≤ nn.toNat ∧ pre = List.range j ∧ 0 < n ∧ (pre.filter (zAt p n)).length = n - 1) := by
  obtain ⟨i0, hi, hz0, hz1, hz2⟩ := info64
  refine (callsIn_wide (n := 3)).1 ?_
  refine callsIn_of_wp_marks Tryd.func25 rfl trivial ?_ rfl
  simp only [Tryd.ntmps25, List.size_toArray, List.length_cons, List.length_nil, Nat.reduceAdd, Nat.reduceSub, Array.replicate_succ, Array.replicate_zero, List.push_toArray, List.append_toArray, List.nil_append, List.cons_append]
  refine wpIn_wide.2 ?_
  go_wp2_with fail
  obtain ⟨w1, hw1⟩ : ∃ w1, w1 = ((w.alloc (.cells #[.pointer (some ⟨g, 0, none⟩), .pointer (some ⟨s, 0, none⟩), .slice a n c, .int .i64 nn] 50 (0, 0))).alloc (.cells #[.slice none 0 0] 22)) := ⟨_, rfl⟩
  rw [← hw1]
  have hs1 : w1.heap.size = w.heap.size + 2 := by rw [hw1]; simp
  have hb1 : Below w.heap.size w w1 := by rw [hw1]; exact ((Below.refl _ _).alloc (Nat.le_refl _) _).alloc (by simp) _
  have hc1 : chB w1 w.heap.size g s a n c nn := by rw [hw1]; exact (Below.heap_alloc _ _ _ (by simp)).trans (heap_alloc_new w _)
  have hl1 : Box w1 (w.heap.size + 1) (.slice none 0 0) 22 := by
    rw [hw1]
    have := heap_alloc_new (w.alloc (.cells #[.pointer (some ⟨g, 0, none⟩), .pointer (some ⟨s, 0, none⟩), .slice a n c, .int .i64 nn] 50 (0, 0))) (.cells #[.slice none 0 0] 22)
    rwa [World.size_alloc] at this
  clear hw1
  refine (plain_any g s a n c nn w1).mono ?_
  rintro e w2 ⟨rfl, hcb, hb2⟩
  have hl2 : Box w2 (w.heap.size + 1) (.slice none 0 0) 22 := (hb2.block _ (by omega)).trans hl1
  have hc2 : chB w2 w.heap.size g s a n c nn := (hb2.block _ (by omega)).trans hc1
  have hb := hb1.trans (hb2.mono hb1.size)
  have hlt2 : w1.heap.size < w2.heap.size := lt_of_block hcb
  have HF := Lib.hid (And.intro F (And.intro P (And.intro E R)))
  have H2 := Lib.hid (And.intro hl2 (And.intro hc2 (And.intro hb (And.intro hcb (And.intro hlt2 hs1)))))
  obtain ⟨cb, hcbe⟩ : ∃ cb, cb = w1.heap.size := ⟨_, rfl⟩
  have HCB := Lib.hid hcbe
  rw [← hcbe]
  clear hl1 hc1 hb1 hb2 hl2 hc2 hb hcb hlt2 hs1 F P E R hcbe
  go_wp2_with fail
  refine wpIn_wide.1 (range_sep (n := 3) (gf := 41) (lb := #[.pointer (some ⟨cb, 0, none⟩)]) rfl (enters_of Tryd.func41 (by kernel_rfl) rfl)
    (encs := encP p n) (fun _ => rfl) (V := (fun pre x => pre = List.range x ∧ x < nn.toNat)) [] (C := Finds w cb g s a n c nn)
    (fun pre bl W => RtI w p n (w.heap.size + 1) w2.heap.size pre bl W ∧ chB W w.heap.size g s a n c nn)
    (fun cde pre bl W => cde = .exit 0 ∧ (RtI w p n (w.heap.size + 1) w2.heap.size pre bl W ∧ chB W w.heap.size g s a n c nn) ∧ 0 < n ∧ (pre.filter (zAt p n)).length = n - 1)
    ?_ ?_ ?_ (bl0 := [w.heap.size + 1]) ?_ ?_
    (plain_iter 2 w2.heap.size HF.out.1 HF.out.2.2.2 HF.out.2.1 hn hnn)
    (fun x => { tmps := #[chV g s a n c nn, .func (.func 27) #[] #[], .pointer (some ⟨w.heap.size, 0, none⟩), undef, .slice none 0 0, .pointer (some ⟨w.heap.size + 1, 0, none⟩), .int .i64 (x : Int), .int .i64 (zn (ev n p (pt m x))), .func (.func 27) #[] #[], chV g s a n c nn, .func (.func 41) #[] #[.pointer (some ⟨cb, 0, none⟩)], .int .i64 (x : Int), .int .i64 (zn (ev n p (pt m x))), undef, undef, undef, undef, undef, undef, undef, undef, undef, undef, undef, undef, undef, undef, undef, undef, undef, undef, undef, undef], defers := [] }) ?_ ?_ ?_ ?_)
  · rintro pre bl X Y ⟨h1, h2⟩ f
    have := H2.out.2.2.2.2
    exact ⟨h1.fr (by omega) f, (f.same _ (.inl ⟨by omega, by simp⟩) (lt_of_block h2)).trans h2⟩
  · rintro cde pre bl X Y ⟨h0, ⟨h1, h2⟩, h3⟩ f
    have := H2.out.2.2.2.2
    exact ⟨h0, ⟨h1.fr (by omega) f, (f.same _ (.inl ⟨by omega, by simp⟩) (lt_of_block h2)).trans h2⟩, h3⟩
  · rintro pre bl X ⟨h1, _⟩
    exact h1.lt
  · have := H2.out.2.2.2.2
    exact ⟨⟨none, 0, 0, rfl, H2.out.1, rfl, Own64.nil _ _, H2.out.2.2.1, by omega, by omega, Nat.le_refl _⟩, H2.out.2.1⟩
  · intro W hW
    have h2 := H2.out
    have hcbe := HCB.out
    refine ⟨h2.2.2.1.trans (hW.mono h2.2.2.1.size), (hW.block _ (by rw [hcbe]; exact h2.2.2.2.2.1)).trans (by rw [hcbe]; exact h2.2.2.2.1), by omega, fun k hk => ?_⟩
    simp only [List.mem_cons, List.not_mem_nil, or_false] at hk
    omega
  · intro l x W K hK
    gi_wp2
    exact hK
  · rintro l pre bl x W ⟨hi', hc⟩ hV
    have hlen : pre.length < nn.toNat := by rw [hV.1, List.length_range]; exact hV.2
    clear hV
    have hii := hi'
    obtain ⟨xa, k, y', rfl, hb, hk, ho, hw, h1, h2, hwB⟩ := hii
    have g1 := hb.cell
    have g2 := hb.free
    have g3 := hc.cells.2.2.1
    obtain ⟨z, hz⟩ : ∃ z, z = zn (ev n p (pt m x)) := ⟨_, rfl⟩
    have HZ := Lib.hid (zAt_eq hz)
    show Code.wpIn _ _ _ _ _ ({ tmps := #[chV g s a n c nn, .func (.func 27) #[] #[], .pointer (some ⟨w.heap.size, 0, none⟩), undef, .slice none 0 0, .pointer (some ⟨w.heap.size + 1, 0, none⟩), .int .i64 (x : Int), .int .i64 (zn (ev n p (pt m x))), .func (.func 27) #[] #[], chV g s a n c nn, .func (.func 41) #[] #[.pointer (some ⟨cb, 0, none⟩)], .int .i64 (x : Int), .int .i64 (zn (ev n p (pt m x))), undef, undef, undef, undef, undef, undef, undef, undef, undef, undef, undef, undef, undef, undef, undef, undef, undef, undef, undef, undef], defers := [] }) _
    rw [← hz]
    clear hz
    have hkl : k ≤ pre.length := by rw [hk]; exact List.length_filter_le _ _
    have hk16 : k ≤ 16383 := by omega
    have HI := Lib.hid (And.intro hi' (And.intro hc (And.intro hw (And.intro h1 (And.intro h2 (And.intro hb hk))))))
    have HL := Lib.hid hlen
    clear hi' hc hw h1 h2 hb hlen
    by_cases hzz : z = 0
    · have hzb : (z == 0) = true := by simp [hzz]
      have hx : Hid (zAt p n x = true) := by show _ = _; rw [HZ.out]; exact hzb
      have HK := Lib.hid hk
      clear hk
      by_cases hn0 : 0 < n
      · by_cases hs : (k : Int) + 1 = (n : Int) - 1
        · have hs2 : ((k : Int) + 1 == (n : Int) - 1) = true := by simp [hs]
          have HS := Lib.hid hs
          clear hs
          gi_wp2_with (first
            | (gi_at_builtin; refine wpListIn_append_own_at _ rfl _ _ 22 rfl w2.heap.size 3 i0 (.int .i64 0) 1 8 Tryd.underlying22 hi hz0 hz1 hz2 rfl (by decide) (.slice xa k y') k (cells64 (intsN (pre.filter (zAt p n)))) rfl (World.ownsRow.alloc ho _) ⟨W.heap.size, 0, none⟩ 1 1 [.int .i64 (x : Int)] rfl rfl (cell_one_new _ _ _) (ints_oneCell .i64 [_]) (by unfold maxLen; omega) (by omega) (by rw [World.size_alloc]; omega) ?_; intro v' w5 hown hgrow hnil hat; have hadd := rt_add hx.out HI.out.2.2.2.2.2.1 HI.out.2.2.2.2.2.2 ho HI.out.2.2.1 HI.out.2.2.2.1 HI.out.2.2.2.2.1 hwB hown hgrow hat; obtain ⟨av, cv, rfl⟩ := own_slice (show Own64 w5 w2.heap.size v' (k + 1) (intsN (pre.filter (zAt p n)) ++ [(x : Int)]) by unfold Own64; rw [← cells64_append]; exact hown); have HB5 : Hid (Below w2.heap.size W w5) := (((Below.refl w2.heap.size W).alloc hwB _).grown hgrow (by rw [World.size_alloc]; omega) (fun x hx => (ho.block x hx).1)); have b5 : Box w5 (w.heap.size + 1) (.slice xa k y') 22 := (HB5.out.block _ HI.out.2.2.2.2.1).trans HI.out.2.2.2.2.2.1; have g4 := b5.free; have g8 := b5.cell; have c6 : chB (w5.setCell ⟨w.heap.size + 1, 0, none⟩ (.slice av (k + 1) cv)) w.heap.size g s a n c nn := (Below.heap_setCell _ _ _ _ (by show w.heap.size ≠ w.heap.size + 1; omega)).trans ((HB5.out.block _ (by have := HI.out.2.2.2.2.1; omega)).trans HI.out.2.1); have g5 := (b5.put (.slice av (k + 1) cv)).cell; have g6 := c6.cells.2.2.1; have g7 := (chB.cells ((HB5.out.block _ (by have := HI.out.2.2.2.2.1; omega)).trans HI.out.2.1 : chB w5 w.heap.size g s a n c nn)).2.2.1; have HA := Lib.hid (And.intro hadd c6); clear g1 g2 g3 hadd c6 b5 hown hgrow hnil hat ho)
            | fail)
          exact ⟨_, HA.out.1.1, rfl, ⟨HA.out.1.2, HA.out.2⟩, hn0, by rw [filter_snoc hx.out, List.length_append, ← HK.out]; have := HS.out; show k + 1 = n - 1; omega⟩
        · have hs2 : ((k : Int) + 1 == (n : Int) - 1) = false := by simp [hs]
          have HS := Lib.hid hs
          clear hs
          gi_wp2_with (first
            | (gi_at_builtin; refine wpListIn_append_own_at _ rfl _ _ 22 rfl w2.heap.size 3 i0 (.int .i64 0) 1 8 Tryd.underlying22 hi hz0 hz1 hz2 rfl (by decide) (.slice xa k y') k (cells64 (intsN (pre.filter (zAt p n)))) rfl (World.ownsRow.alloc ho _) ⟨W.heap.size, 0, none⟩ 1 1 [.int .i64 (x : Int)] rfl rfl (cell_one_new _ _ _) (ints_oneCell .i64 [_]) (by unfold maxLen; omega) (by omega) (by rw [World.size_alloc]; omega) ?_; intro v' w5 hown hgrow hnil hat; have hadd := rt_add hx.out HI.out.2.2.2.2.2.1 HI.out.2.2.2.2.2.2 ho HI.out.2.2.1 HI.out.2.2.2.1 HI.out.2.2.2.2.1 hwB hown hgrow hat; obtain ⟨av, cv, rfl⟩ := own_slice (show Own64 w5 w2.heap.size v' (k + 1) (intsN (pre.filter (zAt p n)) ++ [(x : Int)]) by unfold Own64; rw [← cells64_append]; exact hown); have HB5 : Hid (Below w2.heap.size W w5) := (((Below.refl w2.heap.size W).alloc hwB _).grown hgrow (by rw [World.size_alloc]; omega) (fun x hx => (ho.block x hx).1)); have b5 : Box w5 (w.heap.size + 1) (.slice xa k y') 22 := (HB5.out.block _ HI.out.2.2.2.2.1).trans HI.out.2.2.2.2.2.1; have g4 := b5.free; have g8 := b5.cell; have c6 : chB (w5.setCell ⟨w.heap.size + 1, 0, none⟩ (.slice av (k + 1) cv)) w.heap.size g s a n c nn := (Below.heap_setCell _ _ _ _ (by show w.heap.size ≠ w.heap.size + 1; omega)).trans ((HB5.out.block _ (by have := HI.out.2.2.2.2.1; omega)).trans HI.out.2.1); have g5 := (b5.put (.slice av (k + 1) cv)).cell; have g6 := c6.cells.2.2.1; have g7 := (chB.cells ((HB5.out.block _ (by have := HI.out.2.2.2.2.1; omega)).trans HI.out.2.1 : chB w5 w.heap.size g s a n c nn)).2.2.1; have HA := Lib.hid (And.intro hadd c6); clear g1 g2 g3 hadd c6 b5 hown hgrow hnil hat ho)
            | fail)
          exact ⟨_, HA.out.1.1, HA.out.1.2, HA.out.2⟩
      · gi_wp2_with (first
          | (gi_at_builtin; refine wpListIn_append_own_at _ rfl _ _ 22 rfl w2.heap.size 3 i0 (.int .i64 0) 1 8 Tryd.underlying22 hi hz0 hz1 hz2 rfl (by decide) (.slice xa k y') k (cells64 (intsN (pre.filter (zAt p n)))) rfl (World.ownsRow.alloc ho _) ⟨W.heap.size, 0, none⟩ 1 1 [.int .i64 (x : Int)] rfl rfl (cell_one_new _ _ _) (ints_oneCell .i64 [_]) (by unfold maxLen; omega) (by omega) (by rw [World.size_alloc]; omega) ?_; intro v' w5 hown hgrow hnil hat; have hadd := rt_add hx.out HI.out.2.2.2.2.2.1 HI.out.2.2.2.2.2.2 ho HI.out.2.2.1 HI.out.2.2.2.1 HI.out.2.2.2.2.1 hwB hown hgrow hat; obtain ⟨av, cv, rfl⟩ := own_slice (show Own64 w5 w2.heap.size v' (k + 1) (intsN (pre.filter (zAt p n)) ++ [(x : Int)]) by unfold Own64; rw [← cells64_append]; exact hown); have HB5 : Hid (Below w2.heap.size W w5) := (((Below.refl w2.heap.size W).alloc hwB _).grown hgrow (by rw [World.size_alloc]; omega) (fun x hx => (ho.block x hx).1)); have b5 : Box w5 (w.heap.size + 1) (.slice xa k y') 22 := (HB5.out.block _ HI.out.2.2.2.2.1).trans HI.out.2.2.2.2.2.1; have g4 := b5.free; have g8 := b5.cell; have c6 : chB (w5.setCell ⟨w.heap.size + 1, 0, none⟩ (.slice av (k + 1) cv)) w.heap.size g s a n c nn := (Below.heap_setCell _ _ _ _ (by show w.heap.size ≠ w.heap.size + 1; omega)).trans ((HB5.out.block _ (by have := HI.out.2.2.2.2.1; omega)).trans HI.out.2.1); have g5 := (b5.put (.slice av (k + 1) cv)).cell; have g6 := c6.cells.2.2.1; have g7 := (chB.cells ((HB5.out.block _ (by have := HI.out.2.2.2.2.1; omega)).trans HI.out.2.1 : chB w5 w.heap.size g s a n c nn)).2.2.1; have HA := Lib.hid (And.intro hadd c6); clear g1 g2 g3 hadd c6 b5 hown hgrow hnil hat ho)
          | fail)
        exact ⟨_, HA.out.1.1, HA.out.1.2, HA.out.2⟩
    · have hzb : (z == 0) = false := by simp [hzz]
      have hx : Hid (zAt p n x = false) := by show _ = _; rw [HZ.out]; exact hzb
      have HK := Lib.hid hk
      clear hk
      by_cases hn0 : 0 < n
      · by_cases hs : (k : Int) = (n : Int) - 1
        · have hs2 : ((k : Int) == (n : Int) - 1) = true := by simp [hs]
          have HS := Lib.hid hs
          clear hs
          gi_wp2
          exact ⟨_, Tn.refl _ _, rfl, ⟨rt_skip HI.out.1 hx.out, HI.out.2.1⟩, hn0, by rw [show (pre ++ [x]).filter (zAt p n) = pre.filter (zAt p n) by simp [hx.out], ← HK.out]; have := HS.out; omega⟩
        · have hs2 : ((k : Int) == (n : Int) - 1) = false := by simp [hs]
          have HS := Lib.hid hs
          clear hs
          gi_wp2
          exact ⟨_, Tn.refl _ _, rt_skip HI.out.1 hx.out, HI.out.2.1⟩
      · gi_wp2
        exact ⟨_, Tn.refl _ _, rt_skip HI.out.1 hx.out, HI.out.2.1⟩
  · intro D xs bl W hD hDl hDb hS hi' hdef
    obtain ⟨⟨xa, k, y', rfl, hb, hk, ho, hw, h1, h2, hwB⟩, hc⟩ := hi'
    have g1 := hb.cell
    have HX := Lib.hid (And.intro hk (And.intro ho (And.intro hw (And.intro hc (And.intro hS (And.intro hD hDb))))))
    clear hk ho hw hc hS hD hDb
    go_wp2
    obtain ⟨hk, ho, hw, hc, hS, hD, hDb⟩ := HX.out
    refine ⟨by simp, .inl ⟨_, _, rfl, run_takeDeferred hdef, ?_⟩⟩
    exact ⟨_, results_tmp rfl _ _ _, _, k, xs, rfl, own_from ((ho.keep fun z hz => World.putObj_heap_other (fun e => hDb (by rw [← e]; simp [hz])))) (by omega), hw.trans ⟨rfl, rfl, rfl, by simp, fun z hz => World.putObj_heap_other (by have := hw.size; omega)⟩, .inl hS⟩
  · intro D cde pre bl W hD hDl hDb hS hix hdef
    obtain ⟨rfl, ⟨⟨xa, k, y', rfl, hb, hk, ho, hw, h1, h2, hwB⟩, hc⟩, hn0, hlen⟩ := hix
    have g1 := hb.cell
    have HX := Lib.hid (And.intro hk (And.intro ho (And.intro hw (And.intro hc (And.intro hS (And.intro hD hDb))))))
    clear hk ho hw hc hS hD hDb
    gi_wp2
    go_wp2_with fail
    obtain ⟨hk, ho, hw, hc, hS, hD, hDb⟩ := HX.out
    refine ⟨by simp, .inl ⟨_, _, rfl, run_takeDeferred hdef, ?_⟩⟩
    exact ⟨_, results_tmp rfl _ _ _, _, k, pre, rfl, own_from ((ho.keep fun z hz => World.putObj_heap_other (fun e => hDb (by rw [← e]; simp [hz])))) (by omega), hw.trans ⟨rfl, rfl, rfl, by simp, fun z hz => World.putObj_heap_other (by have := hw.size; omega)⟩, .inr ⟨_, hS.choose_spec.1, hS.choose_spec.2, hn0, hlen⟩⟩
end
end Go.Proofs.YtbgegnoenceflaaDoor.Sea
/- The contracts of package search: of, Search, Plain, Steps. By the verifier of shale. -/
namespace Go.Proofs.YtbgegnoenceflaaDoor.Sea
open Go Go.RowKit Pl Fld Bits16 Loc
set_option linter.unusedVariables false
section
variable {m : Nat} [M : Mid m]
theorem trimB {g s be ce bl : Nat} {w : World} {k : Nat} {a : Option Addr} {n c : Nat} {p : Ser (El m)} (R : RingAt m w g s be ce bl) (h1 : PV m w k a n c p) (hK2 : k ≤ 2048) :
    Calls Tryd.prog 37 #[.pointer (some ⟨g, 0, none⟩), .slice a n c] w fun e w' => ∃ t, e = .returned (.slice (some ⟨w.heap.size, 0, none⟩) t t) ∧ Blk64 w' w.heap.size (nums p t) ∧ (∀ X, Blk64 X w.heap.size (nums p t) → NV m X k (some ⟨w.heap.size, 0, none⟩) t t p) ∧ Below w.heap.size w w' := by
  have hb := h1.bd
  have hn := h1.bdn
  have ht := top_of h1
  have hle := top_le p k
  obtain ⟨l1, r1, rfl, n1⟩ := h1
  refine (trim_any a n c l1 w R r1 (by omega)).mono ?_
  rintro e w1 ⟨rfl, hB, b⟩
  refine ⟨_, rfl, hB, fun X hX => ⟨?_, top_bd hn, top_full hn rfl, by rw [ht]; exact hle⟩, b⟩
  have hr := Blk64.row hX _ (by rw [nums_length]; exact Nat.le_refl _) (by rw [nums_length]; omega)
  rw [nums_take _ (Nat.le_refl _), nums_length] at hr
  exact hr
set_option maxRecDepth 100000 in
set_option maxHeartbeats 1000000 in
theorem seaOf_any {s be ce bl : Nat} {K : Nat} {a : Option Addr} {n c : Nat} {p : Ser (El m)} (nn : Int) (w : World) (F : FldAt m w s be ce bl) (P : PV m w K a n c p) (hK : K ≤ 2048) :
    Calls Tryd.prog 24 #[.pointer (some ⟨s, 0, none⟩), .slice a n c, .int .i64 nn] w fun e w' => ∃ g a' n' c', e = .returned (chV g s a' n' c' (min nn (size m : Int))) ∧ RingAt m w' g s be ce bl ∧ NV m w' K a' n' c' p ∧ Below w.heap.size w w' := by
  have hn : n ≤ K := by obtain ⟨_, _, _, h3⟩ := P; exact h3
  have x3 : n ≤ c := by obtain ⟨_, r, _⟩ := P; exact r.hcap
  have hz := size_hi m M.hi
  have he := els_eq m
  have x1 : ¬ 2048 < n := by omega
  have x2 : (els m : Int) - 1 = (size m : Int) := by omega
  have HM : Hid (min nn (size m : Int) = if (size m : Int) < nn then (size m : Int) else nn) := by show _ = _; split <;> omega
  have HF := Lib.hid (And.intro F P)
  clear F P he
  go_enter Tryd.func24, Tryd.ntmps24
  go_wp2_with fail
  obtain ⟨w1, hw1⟩ : ∃ w1, w1 = w.alloc (.cells #[.pointer none, .pointer none, .slice none 0 0, .int .i64 0] 50 (0, 0)) := ⟨_, rfl⟩
  have b1 : Below w.heap.size w w1 := by rw [hw1]; exact (Below.refl _ _).alloc (Nat.le_refl _) _
  have h1 : w1.heap[w.heap.size]? = some (.cells #[.pointer none, .pointer none, .slice none 0 0, .int .i64 0] 50 (0, 0)) := by rw [hw1]; exact heap_alloc_new w _
  rw [← hw1]
  clear hw1
  refine (pnew_any w1 (HF.out.1.below M.lo b1)).mono ?_
  rintro e w2 ⟨g, rfl, R, b2⟩
  have h2 : w2.heap[w.heap.size]? = some (.cells #[.pointer none, .pointer none, .slice none 0 0, .int .i64 0] 50 (0, 0)) := (b2.block _ (lt_of_block h1)).trans h1
  have B2 := b1.trans (b2.mono b1.size)
  have HR := Lib.hid (And.intro R (And.intro B2 h2))
  clear R b1 b2 B2 h1 h2
  go_wp2_with fail
  refine (trimB HR.out.1 (HF.out.2.below HR.out.2.1) hK).mono ?_
  rintro e w3 ⟨t3, rfl, K3, N3, b3⟩
  have B3 := HR.out.2.1.trans (b3.mono HR.out.2.1.size)
  have h3 := (b3.block _ (lt_of_block HR.out.2.2)).trans HR.out.2.2
  have R3 := HR.out.1.below b3
  obtain ⟨kk, hkk⟩ : ∃ kk, kk = w2.heap.size := ⟨_, rfl⟩
  have hne : w.heap.size ≠ kk := by have := lt_of_block HR.out.2.2; omega
  rw [← hkk] at K3 N3 ⊢
  have H3 := Lib.hid (And.intro N3 (And.intro R3 (And.intro B3 (And.intro K3 hne))))
  have H4 := Lib.hid h3
  clear N3 R3 b3 B3 h3 K3 hkk hne
  have hmin := HM.out.symm
  go_wp2_with fail
  refine (size_any w3 H3.out.2.1.2).mono ?_
  rintro e w4 ⟨rfl, rfl⟩
  have h4 := H4.out
  have hc0 : w3.cell? ⟨w.heap.size, 0, none⟩ = some (.pointer none) := by unfold World.cell?; simp only; rw [h4]; rfl
  have hc1 : w3.cell? ⟨w.heap.size, 1, none⟩ = some (.pointer none) := by unfold World.cell?; simp only; rw [h4]; rfl
  have hc2 : w3.cell? ⟨w.heap.size, 2, none⟩ = some (.slice none 0 0) := by unfold World.cell?; simp only; rw [h4]; rfl
  have hc3 : w3.cell? ⟨w.heap.size, 3, none⟩ = some (.int .i64 0) := by unfold World.cell?; simp only; rw [h4]; rfl
  have hf0 : ∀ i, w3.frozen? ⟨w.heap.size, i, none⟩ = false := fun i => by unfold World.frozen?; simp only; rw [h4]; rfl
  have f0 := hf0 0
  have f1 := hf0 1
  have f2 := hf0 2
  have f3 := hf0 3
  clear h4 hf0
  go_wp2_with fail
  obtain ⟨w5, hw5⟩ : ∃ w5, w5 = ((((w3.setCell ⟨w.heap.size, 0, none⟩ (.pointer (some ⟨g, 0, none⟩))).setCell ⟨w.heap.size, 1, none⟩ (.pointer (some ⟨s, 0, none⟩))).setCell ⟨w.heap.size, 2, none⟩ (.slice (some ⟨kk, 0, none⟩) t3 t3)).setCell ⟨w.heap.size, 3, none⟩ (.int .i64 (min nn (size m : Int)))) := ⟨_, rfl⟩
  rw [← hw5]
  have h5 : chB w5 w.heap.size g s (some ⟨kk, 0, none⟩) t3 t3 (min nn (size m : Int)) := by
    rw [hw5]
    exact heap_setCell_same _ _ 3 _ _ _ (heap_setCell_same _ _ 2 _ _ _ (heap_setCell_same _ _ 1 _ _ _ (heap_setCell_same _ _ 0 _ _ _ H4.out)))
  have o5 : ∀ z, z ≠ w.heap.size → w5.heap[z]? = w3.heap[z]? := fun z hz => by
    rw [hw5]
    exact (((Below.heap_setCell _ _ _ _ hz).trans (Below.heap_setCell _ _ _ _ hz)).trans (Below.heap_setCell _ _ _ _ hz)).trans (Below.heap_setCell _ _ _ _ hz)
  have B5 : Below w.heap.size w w5 := by
    rw [hw5]
    exact (((H3.out.2.2.1.setCell (Nat.le_refl _) _).setCell (Nat.le_refl _) _).setCell (Nat.le_refl _) _).setCell (Nat.le_refl _) _
  obtain ⟨k0, k1, k2, k3⟩ := h5.cells
  have hg : g ≠ w.heap.size := fun e => by
    have h := H3.out.2.1.1
    rw [e, H4.out] at h
    cases h
  have R5 : RingAt m w5 g s be ce bl := ⟨(o5 g hg).trans H3.out.2.1.1, HF.out.1.below M.lo B5⟩
  have N5 := H3.out.1 w5 ((o5 kk H3.out.2.2.2.2.symm).trans H3.out.2.2.2.1)
  exact bodyPost_ret (v := chV g s (some ⟨kk, 0, none⟩) t3 t3 (min nn (size m : Int))) (by simp [results, Tryd.results24, go_sem, k0, k1, k2, k3]) rfl ⟨g, _, _, _, rfl, R5, N5, B5⟩
end
end Go.Proofs.YtbgegnoenceflaaDoor.Sea
/- The contracts of package search's Search, Plain, Steps. By the verifier of shale. -/
namespace Go.Proofs.YtbgegnoenceflaaDoor.Sea
open Go Go.RowKit Pl Fld Bits16 Loc
set_option linter.unusedVariables false
section
variable {m : Nat} [M : Mid m]
/-- how many places are gone through. -/
def lim (m : Nat) (nn : Int) : Nat := (min nn (size m : Int)).toNat
theorem lim_le (m : Nat) (nn : Int) : lim m nn ≤ size m := by unfold lim; omega
theorem zAt_more {p : Ser (El m)} {n k : Nat} (h : Bd p n) (hk : n ≤ k) : zAt p k = zAt p n := funext fun i => by
  unfold zAt; rw [ev_more _ n k p h hk]
/-- what a way finds is all that there is. -/
theorem found {w : World} {K : Nat} {a : Option Addr} {n c : Nat} {p : Ser (El m)} (P : NV m w K a n c p) {nn : Int} {pre : List Nat} (h : pre = List.range (min nn (size m : Int)).toNat ∨ ∃ j, j ≤ (min nn (size m : Int)).toNat ∧ pre = List.range j ∧ 0 < n ∧ (pre.filter (zAt p n)).length = n - 1) : pre.filter (zAt p n) = hits (zAt p K) (lim m nn) := by
  rw [zAt_more P.bd P.le]
  rcases h with rfl | ⟨j, hj, rfl, h0, hl⟩
  · rfl
  · obtain ⟨N, rfl⟩ : ∃ N, n = N + 1 := ⟨n - 1, by omega⟩
    have hd : Dg p N := dg_top P.bd (by rw [P.top])
    exact (hits_stop (f := zAt p (N + 1)) (d := N) (k := j) (n := lim m nn) hj hl (hits_few hd (lim_le m nn))).symm
set_option maxRecDepth 100000 in
set_option maxHeartbeats 1000000 in
theorem search_any {s be ce bl : Nat} {K : Nat} {a : Option Addr} {n c : Nat} {p : Ser (El m)} {y : Addr} (nn : Int) (w : World) (F : FldAt m w s be ce bl) (P : PV m w K a n c p) (hK : K ≤ 2048) (E : ErrAt w 2 y) :
    Calls Tryd.prog 11 #[.pointer (some ⟨s, 0, none⟩), .slice a n c, .int .i64 nn] w fun e w' => ∃ v k, e = .returned v ∧ Own64 w' w.heap.size v k (intsN (hits (zAt p K) (lim m nn))) ∧ Below w.heap.size w w' := by
  have hz := size_hi m M.hi
  have HF := Lib.hid (And.intro F (And.intro P E))
  clear F P E
  go_enter Tryd.func11, Tryd.ntmps11
  go_wp2_with fail
  refine (seaOf_any nn w HF.out.1 HF.out.2.1 hK).mono ?_
  rintro e w1 ⟨g, a', n', c', rfl, R, N, b1⟩
  have hn := N.le
  have HR := Lib.hid (And.intro R (And.intro N b1))
  clear R N b1
  go_wp2_with fail
  refine (roots_steps (HF.out.1.below M.lo HR.out.2.2) HR.out.1 HR.out.2.1 (by omega) (by omega) (HF.out.2.2.below HR.out.2.2)).mono ?_
  rintro e w2 ⟨v, k, pre, rfl, o, b2, hp⟩
  have HO : Hid (Own64 w2 w.heap.size v k (intsN (hits (zAt p K) (lim m nn))) ∧ Below w.heap.size w w2) := by
    refine ⟨?_, HR.out.2.2.trans (b2.mono HR.out.2.2.size)⟩
    rw [found HR.out.2.1 hp] at o
    exact own_from o HR.out.2.2.size
  clear o b2 hp
  go_wp2_with fail
  go_ret
  exact ⟨v, k, rfl, HO.out.1, HO.out.2⟩
set_option maxRecDepth 100000 in
set_option maxHeartbeats 1000000 in
theorem plainS_any {s be ce bl : Nat} {K : Nat} {a : Option Addr} {n c : Nat} {p : Ser (El m)} {y : Addr} (nn : Int) (w : World) (F : FldAt m w s be ce bl) (P : PV m w K a n c p) (hK : K ≤ 2048) (E : ErrAt w 2 y) :
    Calls Tryd.prog 12 #[.pointer (some ⟨s, 0, none⟩), .slice a n c, .int .i64 nn] w fun e w' => ∃ v k, e = .returned v ∧ Own64 w' w.heap.size v k (intsN (hits (zAt p K) (lim m nn))) ∧ Below w.heap.size w w' := by
  have hz := size_hi m M.hi
  have HF := Lib.hid (And.intro F (And.intro P E))
  clear F P E
  go_enter Tryd.func12, Tryd.ntmps12
  go_wp2_with fail
  refine (seaOf_any nn w HF.out.1 HF.out.2.1 hK).mono ?_
  rintro e w1 ⟨g, a', n', c', rfl, R, N, b1⟩
  have hn := N.le
  have HR := Lib.hid (And.intro R (And.intro N b1))
  clear R N b1
  go_wp2_with fail
  refine (roots_plain (HF.out.1.below M.lo HR.out.2.2) HR.out.1 HR.out.2.1 (by omega) (by omega) (HF.out.2.2.below HR.out.2.2)).mono ?_
  rintro e w2 ⟨v, k, pre, rfl, o, b2, hp⟩
  have HO : Hid (Own64 w2 w.heap.size v k (intsN (hits (zAt p K) (lim m nn))) ∧ Below w.heap.size w w2) := by
    refine ⟨?_, HR.out.2.2.trans (b2.mono HR.out.2.2.size)⟩
    rw [found HR.out.2.1 hp] at o
    exact own_from o HR.out.2.2.size
  clear o b2 hp
  go_wp2_with fail
  go_ret
  exact ⟨v, k, rfl, HO.out.1, HO.out.2⟩
set_option maxRecDepth 100000 in
set_option maxHeartbeats 1000000 in
theorem stepsS_any {s be ce bl : Nat} {K : Nat} {a : Option Addr} {n c : Nat} {p : Ser (El m)} (nn : Int) (w : World) (F : FldAt m w s be ce bl) (P : PV m w K a n c p) (hK : K ≤ 2048) :
    Calls Tryd.prog 13 #[.pointer (some ⟨s, 0, none⟩), .slice a n c, .int .i64 nn] w fun e w' => ∃ cb g a' n' c' wm, e = .returned (.func (.func 39) #[] #[.pointer (some ⟨cb, 0, none⟩)]) ∧ chB w' cb g s a' n' c' (min nn (size m : Int)) ∧ wm.heap.size ≤ cb ∧ NV m wm K a' n' c' p ∧ Below w.heap.size w wm ∧ Below wm.heap.size wm w' := by
  have hz := size_hi m M.hi
  have HF := Lib.hid (And.intro F P)
  clear F P
  go_enter Tryd.func13, Tryd.ntmps13
  go_wp2_with fail
  refine (seaOf_any nn w HF.out.1 HF.out.2 hK).mono ?_
  rintro e w1 ⟨g, a', n', c', rfl, R, N, b1⟩
  have HR := Lib.hid (And.intro R (And.intro N b1))
  clear R N b1
  go_wp2_with fail
  refine (steps_any g s a' n' c' _ w1).mono ?_
  rintro e w2 ⟨rfl, hc, b2⟩
  have HC := Lib.hid (And.intro hc b2)
  clear hc b2
  go_wp2_with fail
  go_ret
  exact ⟨_, _, _, _, _, w1, rfl, HC.out.1, Nat.le_refl _, HR.out.2.1, HR.out.2.2, HC.out.2⟩
end
end Go.Proofs.YtbgegnoenceflaaDoor.Sea
/- The field of a statement of chapter 9, its examples. By the verifier of shale. -/
namespace Go.Proofs.YtbgegnoenceflaaDoor.Sea
open Go Go.RowKit Pl Fld Bits16 Loc
set_option linter.unusedVariables false
/-- the m that a statement makes of any number. -/
def mk9 (z : Int) : Nat := (z % 6).toNat + 3
instance (z : Int) : Mid (mk9 z) := ⟨by unfold mk9; omega, by unfold mk9; omega⟩
theorem mk9_hi (z : Int) : mk9 z ≤ 8 := by unfold mk9; omega
theorem mk9_go (z : Int) : z.tmod 6 % 6 + 3 = (mk9 z : Int) := by
  unfold mk9
  have : z.tmod 6 % 6 = z % 6 := by rw [Int.tmod_eq_emod]; split <;> omega
  omega
def MadeAt (m : Nat) (w : World) (e : Ending) (w' : World) : Prop := ∃ s be ce bl, e = .returned (.tuple #[.pointer (some ⟨s, 0, none⟩), .int .i64 (m : Int)]) ∧ FldAt m w' s be ce bl ∧ Below w.heap.size w w'
set_option maxHeartbeats 400000 in
theorem made_any (z : Int) (w : World) : Calls Tryd.prog 8 #[.int .i64 z] w (MadeAt (mk9 z) w) := by
  have a1 := Int.tmod_lt_of_pos z (b := 6) (by omega)
  have a2 : -6 < z.tmod 6 := by
    have := Int.tmod_lt_of_pos (-z) (b := 6) (by omega)
    rw [Int.neg_tmod] at this
    omega
  have HQ := Lib.hid (mk9_go z)
  have l1 : 3 ≤ mk9 z := Mid.lo
  have l2 : mk9 z ≤ 14 := Mid.hi
  go_enter Tryd.func8, Tryd.ntmps8
  go_wp2_with fail
  rw [HQ.out]
  refine (new_any (mk9 z) l1 l2 w).mono ?_
  rintro e w1 ⟨s, be, ce, bl, rfl, f, b1⟩
  go_wp2_with fail
  go_ret2
  exact ⟨s, be, ce, bl, rfl, f, b1⟩
section
variable {m : Nat} [M : Mid m]
/-- Search, its answer a list handed on. -/
theorem searchZ {s be ce bl : Nat} {K : Nat} {a : Option Addr} {n c : Nat} {p : Ser (El m)} {y : Addr} (nn : Int) (w : World) (F : FldAt m w s be ce bl) (P : PV m w K a n c p) (hK : K ≤ 2048) (E : ErrAt w 2 y) :
    Calls Tryd.prog 11 #[.pointer (some ⟨s, 0, none⟩), .slice a n c, .int .i64 nn] w fun e w' => ∃ a' c', e = .returned (.slice a' (hits (zAt p K) (lim m nn)).length c') ∧ RowZ w' a' (hits (zAt p K) (lim m nn)).length c' (intsN (hits (zAt p K) (lim m nn))) ∧ Below w.heap.size w w' := by
  refine (search_any nn w F P hK E).mono ?_
  rintro e w1 ⟨v, k, rfl, o, b⟩
  obtain ⟨av, cv, rfl⟩ := own_slice o
  obtain rfl : k = (hits (zAt p K) (lim m nn)).length := by have := o.len; rw [← this]; simp [intsN]
  exact ⟨av, cv, rfl, (own_rowz o).1, b⟩
theorem plainZ {s be ce bl : Nat} {K : Nat} {a : Option Addr} {n c : Nat} {p : Ser (El m)} {y : Addr} (nn : Int) (w : World) (F : FldAt m w s be ce bl) (P : PV m w K a n c p) (hK : K ≤ 2048) (E : ErrAt w 2 y) :
    Calls Tryd.prog 12 #[.pointer (some ⟨s, 0, none⟩), .slice a n c, .int .i64 nn] w fun e w' => ∃ a' c', e = .returned (.slice a' (hits (zAt p K) (lim m nn)).length c') ∧ RowZ w' a' (hits (zAt p K) (lim m nn)).length c' (intsN (hits (zAt p K) (lim m nn))) ∧ Below w.heap.size w w' := by
  refine (plainS_any nn w F P hK E).mono ?_
  rintro e w1 ⟨v, k, rfl, o, b⟩
  obtain ⟨av, cv, rfl⟩ := own_slice o
  obtain rfl : k = (hits (zAt p K) (lim m nn)).length := by have := o.len; rw [← this]; simp [intsN]
  exact ⟨av, cv, rfl, (own_rowz o).1, b⟩
theorem sameOk {a1 : Option Addr} {n1 c1 : Nat} {l : List Int} {a2 : Option Addr} {n2 c2 : Nat} {k : List Int} {w : World} (h1 : RowZ w a1 n1 c1 l) (h2 : RowZ w a2 n2 c2 k) (e : l = k) :
    Calls Tryd.prog 10 #[.slice a1 n1 c1, .slice a2 n2 c2] w fun e w' => e = .returned (.bool true) ∧ Drawn w w' := by
  have := sameZ_any a1 n1 c1 l a2 n2 c2 k w h1 h2
  rwa [show decide (l = k) = true by simp [e]] at this
end
theorem ex_a : hits (zAt (sr 4 [1, 3, 2]) 3) (lim 4 15) = [0, 1] := by decide +kernel
theorem ex_b : hits (zAt (sr 4 [1, 1]) 2) (lim 4 15) = [0] := by decide +kernel
theorem ex_c : hits (zAt (sr 4 [1]) 1) (lim 4 15) = [] := by decide +kernel
theorem ex_d : hits (zAt (sr 4 [1, 3, 2]) 3) (lim 4 1) = [0] := by decide +kernel
set_option maxRecDepth 100000 in
set_option maxHeartbeats 4000000 in
theorem first_any (w : World) {y : Addr} (E : ErrAt w 2 y) : Calls Tryd.prog 7 #[] w fun e w' => e = .returned (.bool true) ∧ Below w.heap.size w w' := by
  have HN := new_any 4 (by decide) (by decide) w
  go_enter Tryd.func7, Tryd.ntmps7
  go_wp2_with fail
  refine HN.mono ?_
  rintro e w1 ⟨s, be, ce, bl, rfl, F, B⟩
  clear HN
  replace E := E.below B
  go_wp2_with fail
  generalize hw : w1.alloc (.cells #[.int .i64 1, .int .i64 3, .int .i64 2] 3 (0, 0)) = w2
  obtain ⟨Z, b, hs⟩ := lit_new w1 w2 [1, 3, 2] 3 rfl (by decide) hw.symm
  clear hw hs
  replace F := F.below (Pl.Mid.lo (m := 4)) b
  replace E := E.below b
  replace B := B.trans (b.mono B.size)
  clear b
  have q := searchZ 15 w2 F (RowZ.pv (m := 4) Z (sr 4 [1, 3, 2]) rfl 3 (by decide)) (by decide) E
  rw [ex_a] at q
  refine q.mono ?_
  rintro e w3 ⟨a3, c3, rfl, R, b⟩
  clear q
  replace F := F.below (Pl.Mid.lo (m := 4)) b
  replace E := E.below b
  replace B := B.trans (b.mono B.size)
  replace Z := Z.below b
  clear b Z
  go_wp2_with fail
  generalize hw : w3.alloc (.cells #[.int .i64 0, .int .i64 1] 3 (0, 0)) = w4
  obtain ⟨Y, b, hs⟩ := lit_new w3 w4 [0, 1] 2 rfl (by decide) hw.symm
  clear hw hs
  replace F := F.below (Pl.Mid.lo (m := 4)) b
  replace E := E.below b
  replace B := B.trans (b.mono B.size)
  replace R := R.below b
  clear b
  refine (sameOk R Y rfl).mono ?_
  rintro e w5 ⟨rfl, d⟩
  have b := d.below w4.heap.size
  clear R Y
  replace F := F.below (Pl.Mid.lo (m := 4)) b
  replace E := E.below b
  replace B := B.trans (b.mono B.size)
  clear b d
  go_wp2_with fail
  generalize hw : w5.alloc (.cells #[.int .i64 1, .int .i64 1] 3 (0, 0)) = w6
  obtain ⟨Z, b, hs⟩ := lit_new w5 w6 [1, 1] 2 rfl (by decide) hw.symm
  clear hw hs
  replace F := F.below (Pl.Mid.lo (m := 4)) b
  replace E := E.below b
  replace B := B.trans (b.mono B.size)
  clear b
  have q := searchZ 15 w6 F (RowZ.pv (m := 4) Z (sr 4 [1, 1]) rfl 2 (by decide)) (by decide) E
  rw [ex_b] at q
  refine q.mono ?_
  rintro e w7 ⟨a7, c7, rfl, R, b⟩
  clear q
  replace F := F.below (Pl.Mid.lo (m := 4)) b
  replace E := E.below b
  replace B := B.trans (b.mono B.size)
  replace Z := Z.below b
  clear b Z
  go_wp2_with fail
  generalize hw : w7.alloc (.cells #[.int .i64 0] 3 (0, 0)) = w8
  obtain ⟨Y, b, hs⟩ := lit_new w7 w8 [0] 1 rfl (by decide) hw.symm
  clear hw hs
  replace F := F.below (Pl.Mid.lo (m := 4)) b
  replace E := E.below b
  replace B := B.trans (b.mono B.size)
  replace R := R.below b
  clear b
  refine (sameOk R Y rfl).mono ?_
  rintro e w9 ⟨rfl, d⟩
  have b := d.below w8.heap.size
  clear R Y
  replace F := F.below (Pl.Mid.lo (m := 4)) b
  replace E := E.below b
  replace B := B.trans (b.mono B.size)
  clear b d
  go_wp2_with fail
  generalize hw : w9.alloc (.cells #[.int .i64 1] 3 (0, 0)) = w10
  obtain ⟨Z, b, hs⟩ := lit_new w9 w10 [1] 1 rfl (by decide) hw.symm
  clear hw hs
  replace F := F.below (Pl.Mid.lo (m := 4)) b
  replace E := E.below b
  replace B := B.trans (b.mono B.size)
  clear b
  have q := searchZ 15 w10 F (RowZ.pv (m := 4) Z (sr 4 [1]) rfl 1 (by decide)) (by decide) E
  rw [ex_c] at q
  refine q.mono ?_
  rintro e w11 ⟨a11, c11, rfl, R, b⟩
  clear q
  replace F := F.below (Pl.Mid.lo (m := 4)) b
  replace E := E.below b
  replace B := B.trans (b.mono B.size)
  replace Z := Z.below b
  clear b Z
  clear R
  go_wp2_with fail
  generalize hw : w11.alloc (.cells #[.int .i64 1, .int .i64 3, .int .i64 2] 3 (0, 0)) = w12
  obtain ⟨Z, b, hs⟩ := lit_new w11 w12 [1, 3, 2] 3 rfl (by decide) hw.symm
  clear hw hs
  replace F := F.below (Pl.Mid.lo (m := 4)) b
  replace E := E.below b
  replace B := B.trans (b.mono B.size)
  clear b
  have q := plainZ 1 w12 F (RowZ.pv (m := 4) Z (sr 4 [1, 3, 2]) rfl 3 (by decide)) (by decide) E
  rw [ex_d] at q
  refine q.mono ?_
  rintro e w13 ⟨a13, c13, rfl, R, b⟩
  clear q
  replace F := F.below (Pl.Mid.lo (m := 4)) b
  replace E := E.below b
  replace B := B.trans (b.mono B.size)
  replace Z := Z.below b
  clear b Z
  go_wp2_with fail
  generalize hw : w13.alloc (.cells #[.int .i64 0] 3 (0, 0)) = w14
  obtain ⟨Y, b, hs⟩ := lit_new w13 w14 [0] 1 rfl (by decide) hw.symm
  clear hw hs
  replace F := F.below (Pl.Mid.lo (m := 4)) b
  replace E := E.below b
  replace B := B.trans (b.mono B.size)
  replace R := R.below b
  clear b
  refine (sameOk R Y rfl).mono ?_
  rintro e w15 ⟨rfl, d⟩
  have b := d.below w14.heap.size
  clear R Y
  replace F := F.below (Pl.Mid.lo (m := 4)) b
  replace E := E.below b
  replace B := B.trans (b.mono B.size)
  clear b d
  go_wp2_with fail
  go_ret
  exact ⟨rfl, B⟩
end Go.Proofs.YtbgegnoenceflaaDoor.Sea
/- Small words for the laws of chapter 9. By the verifier of shale. -/
namespace Go.Proofs.YtbgegnoenceflaaDoor.Sea
open Go Go.RowKit Pl Fld Bits16 Loc
set_option linter.unusedVariables false
theorem hits_at {f : Nat → Bool} {n i : Nat} (h : i < (hits f n).length) : (hits f n).getD i 0 < n ∧ f ((hits f n).getD i 0) = true := by
  have : (hits f n).getD i 0 ∈ hits f n := by
    rw [List.getD_eq_getElem?_getD, List.getElem?_eq_getElem h]
    exact List.getElem_mem h
  exact hits_mem.1 this
theorem hits_rise {f : Nat → Bool} {n i : Nat} (h : i + 1 < (hits f n).length) : (hits f n).getD i 0 < (hits f n).getD (i + 1) 0 := by
  have hp : (hits f n).Pairwise (· < ·) := List.Pairwise.filter _ List.pairwise_lt_range
  have := List.pairwise_iff_getElem.1 hp i (i + 1) (by omega) h (by omega)
  rw [List.getD_eq_getElem?_getD, List.getElem?_eq_getElem (by omega), List.getD_eq_getElem?_getD, List.getElem?_eq_getElem h]
  exact this
theorem hits_all {f : Nat → Bool} {n : Nat} (h : ∀ i, f i = true) : hits f n = List.range n := by
  unfold hits
  exact List.filter_eq_self.2 fun i _ => h i
section
variable {m : Nat} [M : Mid m]
theorem zAt_zero {p : Ser (El m)} {K i : Nat} (h : zAt p K i = true) : zn (ev K p (pt m i)) = 0 := by
  unfold zAt at h
  simpa using h
theorem zAt_pz (K i : Nat) : zAt (pz : Ser (El m)) K i = true := by
  rw [zAt_iff, ev_more (pt m i) 0 K pz (fun _ _ => rfl) (Nat.zero_le _)]; rfl
theorem pt_num (i : Nat) : h (pwZ m (-(i : Int))) = zn (pt m i) := rfl
end
theorem lim_pos {m : Nat} {nn : Int} {i : Nat} (h : i < lim m nn) : (i : Int) < nn ∧ i < size m := by unfold lim at h; omega
theorem lim_max (m : Nat) (nn : Int) : (if (0 : Int) < (if (size m : Int) < nn then (size m : Int) else nn) then (if (size m : Int) < nn then (size m : Int) else nn) else 0) = (lim m nn : Int) := by
  unfold lim
  split <;> split <;> omega
theorem rem_in (z : Int) (L : Nat) (h : 0 < L) : ∃ k : Nat, k < L ∧ z.tmod L % L = (k : Int) := by
  have h1 := Int.emod_nonneg (z.tmod L) (b := (L : Int)) (by omega)
  have h2 := Int.emod_lt_of_pos (z.tmod L) (b := (L : Int)) (by omega)
  exact ⟨(z.tmod L % L).toNat, by omega, by omega⟩
theorem rem_lo (z : Int) (L : Nat) (h : 0 < L) : -(L : Int) < z.tmod L ∧ z.tmod L < (L : Int) := by
  have a1 := Int.tmod_lt_of_pos z (b := (L : Int)) (by omega)
  have := Int.tmod_lt_of_pos (-z) (b := (L : Int)) (by omega)
  rw [Int.neg_tmod] at this
  omega
/-- places that are turned by some. -/
theorem hits_turn {f g : Nat → Bool} {b r : Nat} (h : ∀ i, i < b + r → g i = f ((i + r) % (b + r))) : (hits g (b + r)).length = (hits f (b + r)).length := by
  unfold hits
  rw [← List.countP_eq_length_filter, ← List.countP_eq_length_filter]
  have e1 : List.countP g (List.range (b + r)) = List.countP g (List.range b) + List.countP (g ∘ (b + ·)) (List.range r) := by
    rw [List.range_add, List.countP_append, List.countP_map]
  have e2 : List.countP f (List.range (b + r)) = List.countP f (List.range r) + List.countP (f ∘ (r + ·)) (List.range b) := by
    rw [Nat.add_comm b r, List.range_add, List.countP_append, List.countP_map]
  rw [e1, e2, Nat.add_comm]
  congr 1
  · refine List.countP_congr fun i hi => ?_
    have hi := List.mem_range.1 hi
    show g (b + i) = true ↔ f i = true
    rw [h _ (by omega), show b + i + r = i + (b + r) by omega, Nat.add_mod_right, Nat.mod_eq_of_lt (by omega)]
  · refine List.countP_congr fun i hi => ?_
    have hi := List.mem_range.1 hi
    show g i = true ↔ f (r + i) = true
    rw [h _ (by omega), Nat.mod_eq_of_lt (by omega), Nat.add_comm]
section
variable {m : Nat} [M : Mid m]
theorem pwK_both (b x : El m) : ∀ n, pwK (b * x) n = pwK b n * pwK x n
  | 0 => (Fl.mul_one _).symm
  | n + 1 => by
    show (b * x) * pwK (b * x) n = (b * pwK b n) * (x * pwK x n)
    rw [pwK_both b x n]
    ac_rfl
theorem evs_tw (b x : El m) (p : Ser (El m)) : ∀ n, evs (tw b p) x n = evs p (b * x) n
  | 0 => rfl
  | n + 1 => by
    show evs (tw b p) x n + (p n * pwK b n) * pwK x n = evs p (b * x) n + p n * pwK (b * x) n
    rw [evs_tw b x p n, pwK_both, Fl.mul_assoc]
theorem ev_tw (b x : El m) (p : Ser (El m)) (n : Nat) : ev n (tw b p) x = ev n p (b * x) := by rw [ev_evs, ev_evs, evs_tw]
theorem exK_pow (z : Int) : ∀ i : Nat, pwK (exK m z) i = exK m (z * (i : Int))
  | 0 => by rw [show z * ((0 : Nat) : Int) = 0 by simp, exK_zero]; rfl
  | i + 1 => by
    show exK m z * pwK (exK m z) i = _
    rw [exK_pow z i, exK_mul]
    congr 1
    rw [Int.natCast_succ, Int.mul_add]; omega
theorem zAt_turn (p : Ser (El m)) (K b r i : Nat) (hs : size m = b + r) : zAt (tw (exK m (b : Int)) p) K i = zAt p K ((i + r) % (b + r)) := by
  unfold zAt
  have e : exK m (b : Int) * pt m i = pt m ((i + r) % (b + r)) := by
    unfold pt
    rw [exK_mul]
    refine El.ext (pwZ_congr m _ _ ?_)
    rw [hs]
    have h1 := Nat.div_add_mod (i + r) (b + r)
    generalize (i + r) / (b + r) = q at h1
    generalize (i + r) % (b + r) = x at h1
    have : (b : Int) + -(i : Int) = -(x : Int) + ((b + r : Nat) : Int) * (1 - (q : Int)) := by
      rw [Int.mul_sub, ← Int.natCast_mul]; omega
    rw [this, Int.add_mul_emod_self_left]
  rw [ev_tw, e]
end
section
variable {m : Nat} [M : Mid m]
theorem pt_inv (i : Nat) : pt m i = (exK m (i : Int))⁻¹ := inv_unique (by
  unfold pt
  rw [exK_mul, show (i : Int) + -(i : Int) = 0 by omega, exK_zero])
theorem exK_nat {i j : Nat} (hi : i < size m) (hj : j < size m) (e : exK m (i : Int) = exK m (j : Int)) : i = j := by
  refine pw_inj m M.lo M.hi i j hi hj ?_
  rw [← pwZ_nat m M.lo M.hi i, ← pwZ_nat m M.lo M.hi j]
  exact congrArg Subtype.val e
/-- the polynomial of places is 0 just there. -/
theorem lam_at {l : List Nat} (hl : ∀ p ∈ l, p < size m) {K i : Nat} (hK : l.length + 1 ≤ K) (hi : i < size m) : zAt (lamZ m (intsN l)) K i = decide (i ∈ l) := by
  have hne : ∀ a ∈ (intsN l).map (exK m), a ≠ 0 := fun a ha => by
    obtain ⟨z, _, rfl⟩ := List.mem_map.1 ha
    exact exK_ne z
  have hlen : ((intsN l).map (exK m)).length = l.length := by simp [intsN]
  have hb : Bd (lamZ m (intsN l)) (l.length + 1) := by
    have := lamZ_bd (m := m) (intsN l)
    rwa [show (intsN l).length = l.length by simp [intsN]] at this
  rw [zAt_more hb hK]
  refine Bool.eq_iff_iff.2 ?_
  rw [zAt_iff, pt_inv]
  have h := lam_root hne (b := exK m (i : Int)) (exK_ne _)
  rw [hlen] at h
  refine h.trans ?_
  rw [decide_eq_true_iff]
  constructor
  · intro hm
    obtain ⟨z, hz, e⟩ := List.mem_map.1 hm
    obtain ⟨p, hp, rfl⟩ := List.mem_map.1 hz
    have := exK_nat (hl p hp) hi e
    rwa [← this]
  · intro hm
    exact List.mem_map.2 ⟨(i : Int), List.mem_map.2 ⟨i, hm, rfl⟩, rfl⟩
theorem hits_same {f g : Nat → Bool} {n : Nat} (h : ∀ i, i < n → f i = g i) : hits f n = hits g n := by
  unfold hits
  exact List.filter_congr fun i hi => h i (List.mem_range.1 hi)
end
end Go.Proofs.YtbgegnoenceflaaDoor.Sea
/- The examples of chapter 4, as the statements ask them first of all. By the verifier of shale. -/
namespace Go.Proofs.YtbgegnoenceflaaDoor.Pl
open Go Go.RowKit Fld Bits16
set_option linter.unusedVariables false
end Go.Proofs.YtbgegnoenceflaaDoor.Pl
/- Small words for the laws of chapter 4. By the verifier of shale. -/
namespace Go.Proofs.YtbgegnoenceflaaDoor.Pl
open Go Go.RowKit Fld Bits16
set_option linter.unusedVariables false
/-- numbers that came in. -/
theorem row_rowz {w : World} {a : Option Addr} {len cap : Nat} {zs : List Int} (h : IsRow .i64 w a len cap zs) : RowZ w a len cap (zs.take len) := by
  rcases h with ⟨rfl, rfl, rfl, rfl⟩ | ⟨x, rfl, hl, hm, hz, hc, hw⟩
  · exact ⟨rfl, Nat.le_refl _, by decide, fun i hi => by omega⟩
  · refine ⟨by rw [List.length_take]; omega, hl, hm, fun i hi => ?_⟩
    obtain ⟨bb, off, spot⟩ := x
    have ci := hc i (by omega)
    have c0 := hc 0 (by omega)
    obtain rfl : spot = none := by simpa [Addr.add] using World.cell?_spot c0
    rw [add_row] at ci
    refine ⟨bb, off, rfl, ?_, World.block_lt_of_cell? w _ ci⟩
    rw [ci, List.getD_eq_getElem?_getD, List.getD_eq_getElem?_getD, List.getElem?_take_of_lt hi]
section
variable {m : Nat} [M : Mid m]
theorem row_pv {w : World} {a : Option Addr} {len cap : Nat} {zs : List Int} (h : IsRow .i64 w a len cap zs) (K : Nat) (hK : len ≤ K) : ∃ p : Ser (El m), PV m w K a len cap p := ⟨_, _, row_rowz h, rfl, hK⟩
theorem sr_one (x : Int) : sr m [x] = mono 0 (elm m x) := by
  funext i
  show elm m (([x] : List Int).getD i 0) = if i = 0 then elm m x else 0
  cases i with
  | zero => rfl
  | succ i => rw [if_neg (by omega)]; exact elm_zero
theorem mono_psm (x : El m) (p : Ser (El m)) : cv (mono 0 x) p = psm x p := by
  funext i
  rw [cv_mono, if_neg (by omega)]; rfl
theorem psm_lit (x : Int) (p : Ser (El m)) : psm (elm m x) p = cv p (sr m [x]) := by rw [sr_one, cv_comm, mono_psm]
theorem rest_lt {w : World} {K : Nat} {q L A p : Ser (El m)} (h : Dv2 p q A L (Pl.top q K - 1)) (hq : Bd q K) (h0 : q ≠ pz) (hL : Bd L K) : Pl.top L K < Pl.top q K := by
  have h1 := top_nz hq h0
  have h2 := top_same h.low hL
  have := top_le L (Pl.top q K - 1)
  omega
theorem nv_zero {w : World} {K : Nat} {a : Option Addr} {n c : Nat} {p : Ser (El m)} (h : NV m w K a n c p) (e : p = pz) : n = 0 := by
  subst e
  rw [← h.top, top_pz]
theorem nv_pos {w : World} {K : Nat} {a : Option Addr} {n c : Nat} {p : Ser (El m)} (h : NV m w K a n c p) (e : p ≠ pz) : ∃ k, n = k + 1 ∧ Dg p k := by
  have h1 := top_nz h.bd e
  have h2 := top_deg h.bd e
  rw [h.top] at h1 h2
  exact ⟨n - 1, by omega, h2⟩
theorem rootsV_le {K : Nat} {p : Ser (El m)} (hp : Bd p K) : (rootsV K p).length ≤ Pl.top p K - 1 := by
  unfold rootsV
  split
  · exact Nat.zero_le _
  · rename_i h0
    have hd := (top_ne h0).resolve_right fun x => x hp
    have := rts_len hd (2 ^ m) (Nat.le_refl _)
    rw [show Pl.top p K - 1 + 1 = Pl.top p K by omega] at this
    simpa [intsN] using this
/-- the value of a product. -/
theorem ev_mul {p q : Ser (El m)} {k k' K : Nat} (hp : Bd p k) (hq : Bd q k') (h : k + k' ≤ K) (x : El m) : ev K (cv p q) x = ev k p x * ev k' q x := ev_cv x k k' K p q hp hq h
theorem cv_cancel {a b c : Ser (El m)} {n k d : Nat} (ha : Bd a n) (hb : Bd b k) (hc : Dg c d) (h : cv a c = cv b c) : a = b := by
  have h1 : cv (padd a b) c = pz := by rw [cv_add, h, padd_self]
  have hB : Bd (padd a b) (max n k) := (ha.mono (by omega)).add (hb.mono (by omega))
  rcases dg_or hB with h0 | ⟨e, _, he⟩
  · exact padd_cancel h0
  · exact absurd h1 (he.mul hc).ne
/-- the greatest divisor of two products with one factor. -/
theorem gcd_times {p q c G H : Ser (El m)} {kp kq d : Nat} (bp : Bd p kp) (bq : Bd q kq) (hp : p ≠ pz) (hc : Dg c d) (hG : IsG p q G) (hH : IsG (cv p c) (cv q c) H) : H = cv G (psm (c d)⁻¹ c) := by
  have hG0 : G ≠ pz := fun e => hp (hG.zero.1 e).1
  obtain ⟨g, dG, g1⟩ := hG.2.resolve_left hG0
  have hH0 : H ≠ pz := fun e => by
    have h0 := (hH.zero.1 e).1
    rcases dg_or bp with h1 | ⟨e, _, he⟩
    · exact hp h1
    · exact (he.mul hc).ne h0
  obtain ⟨e, dH, h1⟩ := hH.2.resolve_left hH0
  obtain ⟨K, n, bK, eK⟩ : PD c H := hH.1.2.2 c ⟨p, kp, bp, rfl⟩ ⟨q, kq, bq, rfl⟩
  have kd : ∀ {r : Ser (El m)} {k : Nat}, Bd r k → PD H (cv r c) → PD K r := by
    rintro r k br ⟨x, j, bx, ex⟩
    rw [eK, ← cv_assoc] at ex
    exact ⟨x, j, bx, cv_cancel br (bd_cv bx bK) hc ex⟩
  obtain ⟨x, j, bx, ex⟩ := hG.1.2.2 K (kd bp hH.1.1) (kd bq hH.1.2.1)
  have a1 : PD H (cv G c) := ⟨x, j, bx, by rw [ex, eK, cv_assoc]⟩
  have a2 : PD (cv G c) H := by
    refine hH.1.2.2 _ ?_ ?_
    · obtain ⟨y, i, hy, ey⟩ := hG.1.1
      exact ⟨y, i, hy, by rw [ey, cv_assoc]⟩
    · obtain ⟨y, i, hy, ey⟩ := hG.1.2.1
      exact ⟨y, i, hy, by rw [ey, cv_assoc]⟩
  have cd : c d ≠ 0 := hc.1
  have es : cv G (psm (c d)⁻¹ c) = psm (c d)⁻¹ (cv G c) := by rw [cv_comm, cv_psm, cv_comm c]
  have hS : Dg (psm (c d)⁻¹ c) d := ⟨by show (c d)⁻¹ * c d ≠ 0; exact mul_ne (inv_ne cd) cd, hc.2.sm _⟩
  have hT := dG.mul hS
  have hT1 : cv G (psm (c d)⁻¹ c) (g + d) = 1 := by
    rw [(cv_top G _ g d dG.2 hS.2).1, g1, one_mul]
    show (c d)⁻¹ * c d = 1
    rw [Fl.mul_comm, Fl.mul_inv _ cd]
  refine PD.antisymm dH hT ?_ ?_ h1 hT1
  · rw [es]; exact a1.sm _
  · rw [es]; exact a2.unit (inv_ne cd)
/-- that of one and nothing. -/
theorem gcd_nil {p G : Ser (El m)} {d : Nat} (hp : Dg p d) (hG : IsG p pz G) : G = psm (p d)⁻¹ p := by
  refine hG.unique ⟨(PG.right_zero p).unit (inv_ne hp.1), Or.inr ⟨d, ⟨?_, hp.2.sm _⟩, ?_⟩⟩
  · show (p d)⁻¹ * p d ≠ 0
    exact mul_ne (inv_ne hp.1) hp.1
  · show (p d)⁻¹ * p d = 1
    rw [Fl.mul_comm, Fl.mul_inv _ hp.1]
end
end Go.Proofs.YtbgegnoenceflaaDoor.Pl
/- Structs of integers that came in by value. By the verifier of shale. -/
namespace Go.Proofs.YtbgegnoenceflaaDoor
open Go Go.RowKit Go.ChangeShapes Go.WideShapes Go.Deep
/-- a struct of integers alone, handed in by value: its cells are integers that fit. -/
theorem open_ints_struct {H : Type} {enc : TypeId × Value → H} {P : Program} {w : World} {base b0 : Nat} {spare : Nat → Bool} {held : Bool} {r : Reach} {k : IntKind} {t : TypeId} {fs : Array Field} {v : Value} {d : DataW H} {p : List MemPlace}
    (hs : P.underlying t = some (.struct fs)) (hone : oneCellFields P fs = true) (hC : P.cellsOf t = fs.size) (hi : ∀ (j : Nat) (f : Field), fs[j]? = some f → P.underlying f.type = some (.int k))
    (hv : Value.okWide P w r b0 t v) (h : DataW.Trod enc P w base spare held t v d p) :
    ∃ n : Nat → Int, v = .agg ((List.range fs.size).map fun i => .int k (n i)).toArray ∧ ∀ i, i < fs.size → (Lit.int k (n i)).wf = true := by
  obtain ⟨cs, rfl, hsz⟩ := okWide_struct hs hv
  obtain ⟨fuel, hf⟩ := h
  obtain ⟨xs, n, _, _, hl, _, hg⟩ := DataW.trod_struct hs hf
  have each : ∀ j, j < fs.size → ∃ m, cs[j]? = some (.int k m) ∧ (Lit.int k m).wf = true := by
    intro j hj
    have hf0 : fs[j]? = some (fs[j]'hj) := Array.getElem?_eq_getElem hj
    obtain ⟨o, c⟩ := hone_of hone j _ hf0
    have g := hg j _ hf0
    rw [o, c] at g
    have hx : j < xs.length := by omega
    rw [List.getElem?_eq_getElem hx] at g
    obtain ⟨m, e, _, hw⟩ := DataW.trod_int (hi j _ hf0) g
    refine ⟨m, ?_, hw⟩
    have hj2 : j < cs.toList.length := by rw [Array.length_toList]; omega
    have e2 : (cs.toList.drop j).take 1 = [.int k m] := by simpa [Value.cells] using e
    rw [List.drop_eq_getElem_cons hj2] at e2
    simp only [List.take_succ_cons, List.take_zero, List.cons.injEq, and_true] at e2
    rw [Array.getElem?_eq_getElem (by simpa using hj2)]
    congr 1
  refine ⟨fun j => match cs[j]? with | some (.int _ m) => m | _ => 0, ?_, fun i hi => ?_⟩
  · congr 1
    apply Array.ext_getElem?
    intro j
    by_cases hj : j < fs.size
    · obtain ⟨m, e, _⟩ := each j hj
      rw [e]
      simp [hj, e]
    · have h1 : cs.size ≤ j := by omega
      rw [Array.getElem?_eq_none h1, Array.getElem?_eq_none (by simp; omega)]
  · obtain ⟨m, e, hw⟩ := each i hi
    simp only [e]
    exact hw
end Go.Proofs.YtbgegnoenceflaaDoor
/- Blocks of bools that the call itself makes. By the verifier of shale. -/
namespace Go.Proofs.YtbgegnoenceflaaDoor
open Go Go.RowKit
set_option linter.unusedVariables false
def objB (l : List Bool) : Obj := .cells (l.map Value.bool).toArray 4 (0, 0)
/-- block g is the first N values of p. -/
def BF (w : World) (g N : Nat) (p : Nat → Bool) : Prop := w.heap[g]? = some (objB ((List.range N).map p))
theorem BF.lt {w : World} {g N : Nat} {p : Nat → Bool} (h : BF w g N p) : g < w.heap.size := lt_of_block h
theorem BF.cell {w : World} {g N : Nat} {p : Nat → Bool} (h : BF w g N p) {i : Nat} (hi : i < N) : w.cell? ⟨g, i, none⟩ = some (.bool (p i)) := by
  unfold World.cell?
  simp only
  rw [show w.heap[g]? = some (objB ((List.range N).map p)) from h]
  simp [objB, hi]
theorem BF.free {w : World} {g N : Nat} {p : Nat → Bool} (h : BF w g N p) (i : Nat) : w.frozen? ⟨g, i, none⟩ = false := by
  unfold World.frozen?
  simp only
  rw [show w.heap[g]? = some (objB ((List.range N).map p)) from h]
  rfl
theorem BF.of {w : World} {g N : Nat} {p q : Nat → Bool} (h : BF w g N p) (e : ∀ i, i < N → p i = q i) : BF w g N q := by
  unfold BF at h ⊢
  rw [h]
  congr 2
  exact List.map_congr_left fun i hi => e i (List.mem_range.1 hi)
theorem BF.set {w : World} {g N : Nat} {p : Nat → Bool} (h : BF w g N p) (k : Nat) : BF (w.setCell ⟨g, k, none⟩ (.bool true)) g N (fun i => p i || decide (i = k)) := by
  unfold BF
  rw [heap_setCell_same w g k _ _ _ h]
  congr 2
  apply Array.ext
  · simp
  · intro i h1 h2
    simp at h1 h2
    by_cases e : i = k
    · subst e; simp
    · simp [e, Ne.symm e]
set_option maxRecDepth 100000 in
theorem infoB : ∃ i, Tryd.prog.info? 4 = some i ∧ i.zero = some (.bool false) ∧ i.size = 1 ∧ i.bytes = 1 :=
  info_parts (show (Tryd.prog.info? 4).map (fun i => (i.zero, i.size, i.bytes)) = some (some (.bool false), 1, 1) by kernel_rfl)
set_option maxRecDepth 100000 in
theorem madeB (w : World) (n : Nat) (hn : n ≤ 1000000) :
    (Instr.makeSlice 37 (.int .i64 (n : Int)) (.int .i64 (n : Int))).run Tryd.prog w = .ok (.slice (some ⟨w.heap.size, 0, none⟩) n n) (w.alloc (objB (List.replicate n false))) := by
  obtain ⟨i0, hi, hz0, hz1, hz2⟩ := infoB
  rw [run_make (P := Tryd.prog) w 37 4 i0 (.bool false) Tryd.underlying37 hi hz0 .i64 .i64 (n : Int) (n : Int) (by omega) (by omega) (by rw [hz2]; omega) (by omega)]
  congr 2
  unfold objB madeCells
  rw [hz1]
  congr 1
  apply Array.ext
  · simp
  · intro i h1 h2
    simp [Value.cells, Nat.mod_one]
theorem BF.new (w : World) (n : Nat) : BF (w.alloc (objB (List.replicate n false))) w.heap.size n (fun _ => false) := by
  unfold BF
  rw [heap_alloc_new]
  congr 2
  apply List.ext_getElem
  · simp
  · intro i h1 h2; simp
end Go.Proofs.YtbgegnoenceflaaDoor
