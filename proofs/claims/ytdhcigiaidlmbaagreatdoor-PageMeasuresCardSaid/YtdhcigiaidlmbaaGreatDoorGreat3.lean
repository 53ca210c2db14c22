/- Texts of the verifier of shale, laid into one: BinVal, RefSame, RangeOwn, RangeSep, FldTrace, SeaSteps, SeaRoots, SeaFirst. -/
import Derived.Test.YtdhcigiaidlmbaaGreatDoorGreat1
import Derived.Test.YtdhcigiaidlmbaaGreatDoorGreat2
import Derived.Lib.BitFns
import Derived.WalkKit
import Derived.WalkSpells
import Derived.WalkLawsBesides
import Derived.Laws.BytesArg
import Derived.RangeFuncNested
import Derived.RangeFuncBound
import Derived.RangeFuncCalls
import Derived.RangeFuncLeaves
import Derived.Below
import Derived.Shelf.Abstract
import Derived.Shelf.RegionOpen
import Derived.OwnWalkIn
import Derived.TacticsInMore
import Derived.LoopNIn
import Derived.LoopIn
import Derived.Deep.RegionHeld3
import Derived.Deep.LoopGhost
import Derived.Deep.Cut
import Derived.Maps.OwnIn
import Derived.Stop.RegionWithIn
/- Bytes as polynomials: bit i of byte k is the coefficient of x^(8k + i). By the verifier of shale. -/
namespace Go.Proofs.YtdhcigiaidlmbaaGreatDoor.Bin
open Go Go.RowKit
set_option linter.unusedVariables false
def val : List (BitVec 8) → Nat
  | [] => 0
  | c :: l => c.toNat + 256 * val l
theorem nth8_nil (i : Nat) : nth8 [] i = 0 := by unfold nth8; simp
theorem nth8_zero (c : BitVec 8) (l : List (BitVec 8)) : nth8 (c :: l) 0 = c := rfl
theorem nth8_succ (c : BitVec 8) (l : List (BitVec 8)) (i : Nat) : nth8 (c :: l) (i + 1) = nth8 l i := by unfold nth8; simp
theorem nth8_far (l : List (BitVec 8)) (i : Nat) (h : l.length ≤ i) : nth8 l i = 0 := by
  unfold nth8
  rw [List.getD_eq_getElem?_getD, List.getElem?_eq_none h]; rfl
theorem val_bit : ∀ (l : List (BitVec 8)) (i : Nat), (val l).testBit i = (nth8 l (i / 8)).getLsbD (i % 8)
  | [], i => by rw [nth8_nil]; simp [val]
  | c :: l, i => by
    have h : val (c :: l) = 2 ^ 8 * val l + c.toNat := by simp only [val]; omega
    rw [h, Nat.testBit_two_pow_mul_add _ c.isLt]
    by_cases hi : i < 8
    · rw [if_pos hi, show i / 8 = 0 by omega, nth8_zero, show i % 8 = i by omega]; rfl
    · rw [if_neg hi, val_bit l (i - 8), show i / 8 = (i - 8) / 8 + 1 by omega, nth8_succ, show (i - 8) % 8 = i % 8 by omega]
theorem val_ext {l m : List (BitVec 8)} (h : ∀ i, nth8 l i = nth8 m i) : val l = val m := by
  apply Nat.eq_of_testBit_eq
  intro i
  rw [val_bit, val_bit, h]
theorem nth8_of_val {l m : List (BitVec 8)} (h : val l = val m) (k : Nat) : nth8 l k = nth8 m k := by
  apply BitVec.eq_of_getLsbD_eq
  intro i hi
  have e1 := val_bit l (8 * k + i)
  have e2 := val_bit m (8 * k + i)
  rw [show (8 * k + i) / 8 = k by omega, show (8 * k + i) % 8 = i by omega] at e1 e2
  rw [← e1, ← e2, h]
/-- the length without the zeros at the end, of the first n. -/
def tl (l : List (BitVec 8)) : Nat → Nat
  | 0 => 0
  | n + 1 => if nth8 l n = 0 then tl l n else n + 1
theorem tl_le (l : List (BitVec 8)) : ∀ n, tl l n ≤ n
  | 0 => Nat.le_refl _
  | n + 1 => by have := tl_le l n; simp only [tl]; split <;> omega
theorem tl_zero (l : List (BitVec 8)) : ∀ n i, tl l n ≤ i → i < n → nth8 l i = 0
  | 0, i, _, h => by omega
  | n + 1, i, h, h' => by
    simp only [tl] at h
    split at h
    · rename_i h0
      by_cases e : i = n
      · rw [e]; exact h0
      · exact tl_zero l n i h (by omega)
    · omega
theorem tl_ne (l : List (BitVec 8)) : ∀ n, tl l n ≠ 0 → nth8 l (tl l n - 1) ≠ 0
  | 0, h => absurd rfl h
  | n + 1, h => by
    simp only [tl] at h ⊢
    split
    · rename_i h0
      rw [if_pos h0] at h
      exact tl_ne l n h
    · rename_i h0
      exact h0
def trimL (l : List (BitVec 8)) : List (BitVec 8) := l.take (tl l l.length)
theorem trimL_length (l : List (BitVec 8)) : (trimL l).length = tl l l.length := by
  unfold trimL; rw [List.length_take]; have := tl_le l l.length; omega
theorem nth8_take (l : List (BitVec 8)) (k i : Nat) : nth8 (l.take k) i = if i < k then nth8 l i else 0 := by
  by_cases h : i < k
  · rw [if_pos h]
    unfold nth8
    rw [List.getD_eq_getElem?_getD, List.getElem?_take_of_lt h, ← List.getD_eq_getElem?_getD]
  · rw [if_neg h, nth8_far _ _ (by rw [List.length_take]; omega)]
theorem nth8_trim (l : List (BitVec 8)) (i : Nat) : nth8 (trimL l) i = nth8 l i := by
  unfold trimL
  rw [nth8_take]
  split
  · rfl
  · rename_i h
    by_cases h2 : i < l.length
    · exact (tl_zero l _ i (by omega) h2).symm
    · exact (nth8_far l i (by omega)).symm
theorem val_trim (l : List (BitVec 8)) : val (trimL l) = val l := val_ext (nth8_trim l)
/-- no zero at its end. -/
def Bare (l : List (BitVec 8)) : Prop := l.length ≠ 0 → nth8 l (l.length - 1) ≠ 0
theorem bare_trim (l : List (BitVec 8)) : Bare (trimL l) := by
  intro h
  rw [trimL_length] at h ⊢
  rw [nth8_trim]
  exact tl_ne l _ h
theorem bare_nil : Bare [] := fun h => absurd rfl h
theorem nth8_ext {l m : List (BitVec 8)} (hl : l.length = m.length) (h : ∀ i, i < l.length → nth8 l i = nth8 m i) : l = m := by
  apply List.ext_getElem hl
  intro i h1 h2
  have := h i h1
  unfold nth8 at this
  rw [List.getD_eq_getElem?_getD, List.getD_eq_getElem?_getD, List.getElem?_eq_getElem h1, List.getElem?_eq_getElem h2] at this
  exact this
theorem bare_inj {l m : List (BitVec 8)} (hl : Bare l) (hm : Bare m) (h : val l = val m) : l = m := by
  have hn := nth8_of_val h
  have hlen : l.length = m.length := by
    rcases Nat.lt_trichotomy l.length m.length with h1 | h1 | h1
    · exact absurd ((hn _).symm.trans (nth8_far l (m.length - 1) (by omega))) (hm (by omega))
    · exact h1
    · exact absurd ((hn _).trans (nth8_far m (l.length - 1) (by omega))) (hl (by omega))
  exact nth8_ext hlen fun i _ => hn i
/-- the degree, -1 of 0. -/
def degZ (n : Nat) : Int := if n = 0 then -1 else (n.log2 : Int)
theorem bitLen_byte : ∀ n : Fin 256, n.val ≠ 0 → Lib.bitLen n.val = n.val.log2 + 1 := by decide +kernel
theorem deg_bare {l : List (BitVec 8)} (h : Bare l) (h0 : l.length ≠ 0) : Deg (val l) (8 * (l.length - 1) + (nth8 l (l.length - 1)).toNat.log2) := by
  have hb := h h0
  have hc : (nth8 l (l.length - 1)).toNat ≠ 0 := fun e => hb (BitVec.eq_of_toNat_eq (by rw [e]; rfl))
  have hd := deg_of hc
  have hlt : (nth8 l (l.length - 1)).toNat.log2 < 8 := (Nat.log2_lt hc).2 (nth8 l (l.length - 1)).isLt
  generalize hk : (nth8 l (l.length - 1)).toNat.log2 = k at hd hlt
  constructor
  · apply Nat.ge_two_pow_of_testBit
    rw [val_bit, show (8 * (l.length - 1) + k) / 8 = l.length - 1 by omega, show (8 * (l.length - 1) + k) % 8 = k by omega]
    show (nth8 l (l.length - 1)).toNat.testBit k = true
    rw [Nat.testBit_eq_decide_div_mod_eq, decide_eq_true_eq]
    have h3 : (nth8 l (l.length - 1)).toNat / 2 ^ k = 1 := by
      have h1 := hd.1; have h2 := hd.2
      rw [Nat.pow_succ] at h2
      apply Nat.div_eq_of_lt_le <;> omega
    rw [h3]
  · apply Nat.lt_pow_two_of_testBit
    intro i hi
    rw [val_bit]
    by_cases e : i / 8 = l.length - 1
    · rw [e]
      show (nth8 l (l.length - 1)).toNat.testBit (i % 8) = false
      exact Nat.testBit_lt_two_pow (lt_of_deg hd (by omega))
    · rw [nth8_far l (i / 8) (by omega)]; simp
theorem degZ_bare {l : List (BitVec 8)} (h : Bare l) (h0 : l.length ≠ 0) : degZ (val l) = 8 * (l.length : Int) - 9 + (Lib.bitLen (nth8 l (l.length - 1)).toNat : Int) := by
  have hd := deg_bare h h0
  have hb := h h0
  have hc : (nth8 l (l.length - 1)).toNat ≠ 0 := fun e => hb (BitVec.eq_of_toNat_eq (by rw [e]; rfl))
  have e := bitLen_byte ⟨_, (nth8 l (l.length - 1)).isLt⟩ hc
  simp only at e
  rw [e]
  unfold degZ
  rw [if_neg (by have := hd.pos; omega), hd.log2]
  omega
theorem nth8_map (n : Nat) (f : Nat → BitVec 8) (i : Nat) (h : i < n) : nth8 ((List.range n).map f) i = f i := by
  unfold nth8; simp [h]
end Go.Proofs.YtdhcigiaidlmbaaGreatDoor.Bin
/- shaleref.SameBytes: are two lists of bytes the same? By the verifier of shale. -/
namespace Go.Proofs.YtdhcigiaidlmbaaGreatDoor
open Go Go.RowKit
set_option linter.unusedVariables false
/-- bytes as a string. -/
def strOf (l : List (BitVec 8)) : ByteArray := strOfNums (l.map Bits32.b)
theorem strOf_inj (l m : List (BitVec 8)) (h : strOf l = strOf m) : l = m := by
  have e := congrArg (fun s : ByteArray => s.data.toList) h
  simp only [strOf, strOfNums_data, List.map_map] at e
  have key : ∀ (l m : List (BitVec 8)), l.map ((fun n : Int => UInt8.ofNat n.toNat) ∘ Bits32.b) = m.map ((fun n : Int => UInt8.ofNat n.toNat) ∘ Bits32.b) → l = m := by
    intro l
    induction l with
    | nil => intro m h; cases m with | nil => rfl | cons _ _ => simp at h
    | cons a l ih =>
      intro m h
      cases m with
      | nil => simp at h
      | cons b m =>
        simp only [List.map_cons, List.cons.injEq, Function.comp] at h
        rw [ih m h.2]
        congr 1
        have e := congrArg UInt8.toNat h.1
        unfold Bits32.b at e
        simp at e
        have := a.isLt
        have := b.isLt
        apply BitVec.eq_of_toNat_eq
        omega
  exact key l m e
/-- bytes in a slice, as SameBytes reads them. -/
def Str8 (w : World) (v : Value) (l : List (BitVec 8)) : Prop := ∀ w', (∀ b, b < w.heap.size → w'.heap[b]? = w.heap[b]?) → (convert 25 9 v).run Tryz.prog w' = .ok (.string (strOf l)) w'
theorem Str8.nil (w : World) (p : Option Addr) (c : Nat) : Str8 w (.slice p 0 c) [] := by
  intro w' h
  rw [run_convert_bytes_string w' 25 9 5 p 0 c Tryz.underlying25 Tryz.underlying5 Tryz.underlying9]
  cases p with
  | none => simp [Conv.bytesToString]; rfl
  | some a =>
    have hl : (loadCells a 0).run Tryz.prog w' = .ok #[] w' := by
      have := run_loadCells_list (P := Tryz.prog) w' a [] (fun j v hj => by simp at hj)
      simpa using this
    rw [run_bytesToString w' a 0 c [] (by simpa using hl)]
    rfl
theorem Str8.of {w : World} {v : Value} {l : List (BitVec 8)} (h : IsBytes w v l) : Str8 w v l := by
  rcases h with ⟨rfl, p, c, rfl⟩ | ⟨bb, off, cap, rfl, hr, hb⟩
  · exact Str8.nil w p c
  · intro w' hw
    have := run_convert_bytes_arg (P := Tryz.prog) w' 25 5 Tryz.underlying25 Tryz.underlying5 bb off l.length cap (l.map Bits32.b) (by simp)
      (fun i hi => by
        rw [World.cell?_of_block (w := w) (hw bb hb), hr i hi]
        unfold nth8
        simp [hi]) 9 Tryz.underlying9
    exact this
set_option maxHeartbeats 400000 in
theorem same_any (l m : List (BitVec 8)) (v u : Value) (w : World) (hv : Str8 w v l) (hu : Str8 w u m) :
    Calls Tryz.prog 23 #[v, u] w fun e w' => e = .returned (.bool (decide (l = m))) ∧ w = w' := by
  have h1 := hv w (fun _ _ => rfl)
  have h2 := hu w (fun _ _ => rfl)
  go_enter Tryz.func23, Tryz.ntmps23
  go_wp2
  go_ret
  refine ⟨?_, rfl⟩
  have e : ((strOf l).toList == (strOf m).toList) = decide (l = m) := by
    rw [Bool.eq_iff_iff, beq_iff_eq, decide_eq_true_iff]
    constructor
    · intro h
      rw [ByteArray.toList_eq, ByteArray.toList_eq] at h
      exact strOf_inj l m (by
        have : (strOf l).data = (strOf m).data := Array.toList_inj.1 h
        cases hl : strOf l; cases hm : strOf m
        simp_all)
    · intro h; rw [h]
  rw [← e]; rfl
/-- the same memory, but for draws. -/
def SameHeap (W w : World) : Prop := w.heap = W.heap
theorem SameHeap.refl (W : World) : SameHeap W W := rfl
theorem SameHeap.drew {W w : World} (h : SameHeap W w) : SameHeap W w.drew := h
theorem Str8.since {W w : World} {v : Value} {l : List (BitVec 8)} (h : Str8 W v l) (o : ∀ b, b < W.heap.size → w.heap[b]? = W.heap[b]?) (hs : W.heap.size ≤ w.heap.size) : Str8 w v l :=
  fun w' hw => h w' (fun b hb => (hw b (Nat.lt_of_lt_of_le hb hs)).trans (o b hb))
theorem same_since {l m : List (BitVec 8)} {v u : Value} {W w : World} (hv : Str8 W v l) (hu : Str8 W u m) (h : SameHeap W w) :
    Calls Tryz.prog 23 #[v, u] w fun e w' => e = .returned (.bool (decide (l = m))) ∧ w = w' :=
  same_any l m v u w (hv.since (fun b _ => by rw [show w.heap = W.heap from h]) (by rw [show w.heap = W.heap from h]; exact Nat.le_refl _)) (hu.since (fun b _ => by rw [show w.heap = W.heap from h]) (by rw [show w.heap = W.heap from h]; exact Nat.le_refl _))
/-- SameBytes answers c of these two, in whatever world that has W's memory. -/
def Sames (W : World) (v u : Value) (c : Bool) : Prop := ∀ w, SameHeap W w → Calls Tryz.prog 23 #[v, u] w fun e w' => e = .returned (.bool c) ∧ w = w'
theorem Sames.mk {W : World} {v u : Value} {l m : List (BitVec 8)} {c : Bool} (hv : Str8 W v l) (hu : Str8 W u m) (hc : decide (l = m) = c) : Sames W v u c := by
  intro w h; rw [← hc]; exact same_since hv hu h
end Go.Proofs.YtdhcigiaidlmbaaGreatDoor
/- A range over a function whose iterator keeps state in cells of its own: one invariant for what the iterator and the body hold together, all of it below the blocks that the loop itself lays. By the verifier of shale. -/
namespace Go.Proofs.YtdhcigiaidlmbaaGreatDoor
open Go Go.RowKit
set_option linter.unusedVariables false
/-- what lies at or above B and was there lies as it lay. -/
structure Hi (B : Nat) (W W' : World) : Prop where
  size : W.heap.size ≤ W'.heap.size
  same : ∀ k, B ≤ k → k < W.heap.size → W'.heap[k]? = W.heap[k]?
theorem Hi.refl (B : Nat) (W : World) : Hi B W W := ⟨Nat.le_refl _, fun _ _ _ => rfl⟩
theorem Hi.trans {B : Nat} {X Y Z : World} (h : Hi B X Y) (k : Hi B Y Z) : Hi B X Z :=
  ⟨Nat.le_trans h.size k.size, fun i hB hi => (k.same i hB (Nat.lt_of_lt_of_le hi h.size)).trans (h.same i hB hi)⟩
theorem Hi.below {B : Nat} {W W' : World} (h : Below W.heap.size W W') : Hi B W W' := ⟨h.size, fun k _ hk => h.block k hk⟩
theorem Hi.setCell {B : Nat} (W : World) (p : Addr) (u : Value) (hp : p.block < B) : Hi B W (W.setCell p u) :=
  ⟨by simp [World.setCell], fun k hB _ => Below.heap_setCell _ _ _ _ (by omega)⟩
/-- whatever lies below B, block s aside, lies as it lay. -/
structure Others (B s : Nat) (W W' : World) : Prop where
  size : W.heap.size ≤ W'.heap.size
  same : ∀ k, k < B → k ≠ s → W'.heap[k]? = W.heap[k]?
theorem Others.trans {B s : Nat} {X Y Z : World} (h : Others B s X Y) (k : Others B s Y Z) : Others B s X Z :=
  ⟨Nat.le_trans h.size k.size, fun i hi hs => (k.same i hi hs).trans (h.same i hi hs)⟩
theorem Others.below {B s : Nat} {X Y : World} (h : Below B X Y) : Others B s X Y := ⟨h.size, fun k hk _ => h.block k hk⟩
theorem Others.setCell {B s : Nat} (W : World) (p : Addr) (u : Value) (hp : p.block = s) : Others B s W (W.setCell p u) :=
  ⟨by simp [World.setCell], fun k _ hs => Below.heap_setCell _ _ _ _ (by omega)⟩
end Go.Proofs.YtdhcigiaidlmbaaGreatDoor
/- A range over a function whose iterator and whose body each own blocks of their own (captured cells, lists that grow in place): what either does leaves alone what the other owns. By the verifier of shale. -/
namespace Go.Proofs.YtdhcigiaidlmbaaGreatDoor
open Go Go.RowKit
set_option linter.unusedVariables false
/-- below B (cl aside) and in bl all lies as it lay. -/
structure Fr (B : Nat) (cl bl : List Nat) (X Y : World) : Prop where
  os : Y.os = X.os
  tape : Y.tape = X.tape
  output : Y.output = X.output
  size : X.heap.size ≤ Y.heap.size
  same : ∀ k, (k < B ∧ k ∉ cl) ∨ k ∈ bl → k < X.heap.size → Y.heap[k]? = X.heap[k]?
theorem Fr.refl (B : Nat) (cl bl : List Nat) (X : World) : Fr B cl bl X X := ⟨rfl, rfl, rfl, Nat.le_refl _, fun _ _ _ => rfl⟩
theorem Fr.trans {B : Nat} {cl bl : List Nat} {X Y Z : World} (h : Fr B cl bl X Y) (k : Fr B cl bl Y Z) : Fr B cl bl X Z :=
  ⟨k.os.trans h.os, k.tape.trans h.tape, k.output.trans h.output, Nat.le_trans h.size k.size, fun i hi hs => (k.same i hi (Nat.lt_of_lt_of_le hs h.size)).trans (h.same i hi hs)⟩
theorem Fr.below {B : Nat} {cl bl : List Nat} {X Y : World} (h : Below X.heap.size X Y) : Fr B cl bl X Y := ⟨h.os, h.tape, h.output, h.size, fun k _ hk => h.block k hk⟩
/-- a store into a block that is none of these. -/
theorem Fr.setCell {B : Nat} {cl bl : List Nat} (X : World) (p : Addr) (u : Value) (h1 : p.block < B → p.block ∈ cl) (h2 : p.block ∉ bl) : Fr B cl bl X (X.setCell p u) :=
  ⟨rfl, rfl, rfl, by simp [World.setCell], fun k hk _ => Below.heap_setCell _ _ _ _ (by
    rintro rfl
    rcases hk with ⟨h, h'⟩ | h
    · exact h' (h1 h)
    · exact h2 h)⟩
/-- what the owner of bl may do: it turns these, and makes new ones. -/
structure Tn (bl : List Nat) (X Y : World) (bl' : List Nat) : Prop where
  os : Y.os = X.os
  tape : Y.tape = X.tape
  output : Y.output = X.output
  size : X.heap.size ≤ Y.heap.size
  same : ∀ k, k < X.heap.size → k ∉ bl → Y.heap[k]? = X.heap[k]?
  new : ∀ k ∈ bl', k ∈ bl ∨ X.heap.size ≤ k
theorem Tn.refl (bl : List Nat) (X : World) : Tn bl X X bl := ⟨rfl, rfl, rfl, Nat.le_refl _, fun _ _ _ => rfl, fun _ h => .inl h⟩
theorem Tn.trans {b1 b2 b3 : List Nat} {X Y Z : World} (h : Tn b1 X Y b2) (k : Tn b2 Y Z b3) : Tn b1 X Z b3 := by
  refine ⟨k.os.trans h.os, k.tape.trans h.tape, k.output.trans h.output, Nat.le_trans h.size k.size, fun i hi hs => ?_, fun i hi => ?_⟩
  · refine (k.same i (Nat.lt_of_lt_of_le hi h.size) fun hb => ?_).trans (h.same i hi hs)
    rcases h.new i hb with h1 | h1
    · exact hs h1
    · omega
  · rcases k.new i hi with h1 | h1
    · exact h.new i h1
    · exact .inr (Nat.le_trans h.size h1)
theorem Tn.below {bl : List Nat} {X Y : World} (h : Below X.heap.size X Y) : Tn bl X Y bl := ⟨h.os, h.tape, h.output, h.size, fun k hk _ => h.block k hk, fun _ h => .inl h⟩
theorem Tn.setCell {bl : List Nat} (X : World) (p : Addr) (u : Value) (h : p.block ∈ bl) : Tn bl X (X.setCell p u) bl :=
  ⟨rfl, rfl, rfl, by simp [World.setCell], fun k _ hk => Below.heap_setCell _ _ _ _ (by rintro rfl; exact hk h), fun _ h => .inl h⟩
end Go.Proofs.YtdhcigiaidlmbaaGreatDoor
/- Traces: a range over the squares of an element. By the verifier of shale. -/
namespace Go.Proofs.YtdhcigiaidlmbaaGreatDoor.Fld
open Go Go.RowKit Bits16 Go.Shelf
set_option linter.unusedVariables false
attribute [local go_sem] Oper.semAt_some
/-- a block of one cell. -/
def Box (W : World) (b : Nat) (v : Value) (t : TypeId) : Prop := W.heap[b]? = some (.cells #[v] t (0, 0))
theorem Box.cell {W : World} {b : Nat} {v : Value} {t : TypeId} (e : Box W b v t) : W.cell? ⟨b, 0, none⟩ = some v := cell_of_one e
theorem Box.free {W : World} {b : Nat} {v : Value} {t : TypeId} (e : Box W b v t) : W.frozen? ⟨b, 0, none⟩ = false := free_of_one e
theorem Box.drawn {W W' : World} {b : Nat} {v : Value} {t : TypeId} (e : Box W b v t) (d : Drawn W W') : Box W' b v t := by obtain ⟨n, rfl⟩ := d; exact e
theorem Box.put {W : World} {b : Nat} {v : Value} {t : TypeId} (e : Box W b v t) (u : Value) : Box (W.setCell ⟨b, 0, none⟩ u) b u t := one_setCell e
theorem Box.other {W : World} {b : Nat} {v : Value} {t : TypeId} (e : Box W b v t) (p : Addr) (u : Value) (hp : b ≠ p.block) : Box (W.setCell p u) b v t := (Below.heap_setCell _ _ _ _ hp).trans e
/-- the sum of these. -/
def xsum (l : List (BitVec 16)) : BitVec 16 := l.foldl (· ^^^ ·) 0
/-- what the loop's body holds: the sum so far, in a box of its own. -/
def TrI (sb : Nat) (w0 : World) (pre : List (BitVec 16)) (W : World) : Prop := Box W sb (.int .i64 (h (xsum pre))) 3 ∧ Below sb w0 W
theorem TrI.drawn {sb : Nat} {w0 W W' : World} {pre : List (BitVec 16)} (e : TrI sb w0 pre W) (d : Drawn W W') : TrI sb w0 pre W' := ⟨e.1.drawn d, e.2.trans (d.below _)⟩
theorem TrI.put {sb : Nat} {w0 W : World} {pre : List (BitVec 16)} (e : TrI sb w0 pre W) (p : Addr) (u : Value) (hp : sb < p.block) : TrI sb w0 pre (W.setCell p u) := ⟨e.1.other p u (by omega), e.2.setCell (by omega) _⟩
section
variable {m s be ce bl : Nat} (h1 : 3 ≤ m) (h2 : m ≤ 14)
include h1 h2
end
section
attribute [local go_sem] rxor
variable {m s be ce bl : Nat} (h1 : 3 ≤ m) (h2 : m ≤ 14)
include h1 h2
end
end Go.Proofs.YtdhcigiaidlmbaaGreatDoor.Fld
/- The walk over package search's steps. By the verifier of shale. -/
namespace Go.Proofs.YtdhcigiaidlmbaaGreatDoor.Sea
open Go Go.RowKit Pl Fld Bits16 Loc
set_option linter.unusedVariables false
/-- a search in block cb. -/
def chB (w : World) (cb g s : Nat) (a : Option Addr) (n c : Nat) (nn : Int) : Prop := w.heap[cb]? = some (.cells #[.pointer (some ⟨g, 0, none⟩), .pointer (some ⟨s, 0, none⟩), .slice a n c, .int .i64 nn] 231 (0, 0))
theorem chB.cells {w : World} {cb g s : Nat} {a : Option Addr} {n c : Nat} {nn : Int} (h : chB w cb g s a n c nn) :
    w.cell? ⟨cb, 0, none⟩ = some (.pointer (some ⟨g, 0, none⟩)) ∧ w.cell? ⟨cb, 1, none⟩ = some (.pointer (some ⟨s, 0, none⟩)) ∧ w.cell? ⟨cb, 2, none⟩ = some (.slice a n c) ∧ w.cell? ⟨cb, 3, none⟩ = some (.int .i64 nn) := by
  have e : w.heap[cb]? = _ := h
  refine ⟨?_, ?_, ?_, ?_⟩ <;> (unfold World.cell?; simp only; rw [e]; rfl)
section
variable {m : Nat} [M : Mid m]
end
end Go.Proofs.YtdhcigiaidlmbaaGreatDoor.Sea
/- The places at which package search's ways find 0. By the verifier of shale. -/
namespace Go.Proofs.YtdhcigiaidlmbaaGreatDoor.Sea
open Go Go.RowKit Pl Fld Bits16 Loc Go.Shelf
set_option linter.unusedVariables false
attribute [local go_sem] Oper.semAt_some
section
variable {m : Nat} [M : Mid m]
/-- what the loop's body holds: the places so far, in a box of its own. -/
def RtI (w0 : World) (p : Ser (El m)) (n lb B : Nat) (pre : List Nat) (bl : List Nat) (W : World) : Prop :=
  ∃ (x : Option Addr) (k y : Nat), bl = lb :: (Value.slice x k y).ownBlock.toList ∧ Box W lb (.slice x k y) 65 ∧ k = (pre.filter (zAt p n)).length ∧ Own64 W B (.slice x k y) k (intsN (pre.filter (zAt p n))) ∧ Below w0.heap.size w0 W ∧ w0.heap.size ≤ lb ∧ lb < B ∧ B ≤ W.heap.size
theorem RtI.fr {w0 : World} {p : Ser (El m)} {n lb B : Nat} {pre bl : List Nat} {X Y : World} (h : RtI w0 p n lb B pre bl X) (hB : w0.heap.size ≤ B) (f : Fr B [] bl X Y) : RtI w0 p n lb B pre bl Y := by
  obtain ⟨x, k, y, rfl, b, hk, o, hw, h1, h2, h3⟩ := h
  refine ⟨x, k, y, rfl, (f.same lb (.inr (List.mem_cons_self ..)) (lt_of_block b)).trans b, hk, o.keep fun z hz => f.same z (.inr (by simp [hz])) (o.block z hz).2, hw.trans { os := f.os, tape := f.tape, output := f.output, size := f.size, block := fun z hz => f.same z (.inl ⟨by omega, by simp⟩) (by have := hw.size; omega) }, h1, h2, Nat.le_trans h3 f.size⟩
theorem RtI.lt {w0 : World} {p : Ser (El m)} {n lb B : Nat} {pre bl : List Nat} {X : World} (h : RtI w0 p n lb B pre bl X) : ∀ k ∈ bl, k < X.heap.size := by
  obtain ⟨x, k, y, rfl, b, hk, o, hw, h1, h2, h3⟩ := h
  intro z hz
  rcases List.mem_cons.1 hz with rfl | hz
  · exact lt_of_block b
  · exact (o.block z (by simpa using hz)).2
end
end Go.Proofs.YtdhcigiaidlmbaaGreatDoor.Sea
/- The field of a statement of chapter 9, its examples. By the verifier of shale. -/
namespace Go.Proofs.YtdhcigiaidlmbaaGreatDoor.Sea
open Go Go.RowKit Pl Fld Bits16 Loc
set_option linter.unusedVariables false
/-- the m that a statement makes of any number. -/
def mk9 (z : Int) : Nat := (z % 6).toNat + 3
instance (z : Int) : Mid (mk9 z) := ⟨by unfold mk9; omega, by unfold mk9; omega⟩
def MadeAt (m : Nat) (w : World) (e : Ending) (w' : World) : Prop := ∃ s be ce bl, e = .returned (.tuple #[.pointer (some ⟨s, 0, none⟩), .int .i64 (m : Int)]) ∧ FldAt m w' s be ce bl ∧ Below w.heap.size w w'
section
variable {m : Nat} [M : Mid m]
end
end Go.Proofs.YtdhcigiaidlmbaaGreatDoor.Sea
