/- Texts of the verifier of shale, laid into one: BinVal, RefSame, RangeOwn, RangeSep, FldTrace, SeaSteps, SeaRoots, SeaOf, SeaOps, SeaFirst, SeaLaw. -/
import Derived.Test.YtdhcigiaidlmbaaGreatDoorGreat1
import Derived.Test.YtdhcigiaidlmbaaGreatDoorGreat2
import Derived.Test.YtdhcigiaidlmbaaGreatDoorGreat3
import Derived.Lib.BitFns
import Derived.WalkKit
import Derived.WalkSpells
import Derived.WalkLawsBesides
import Derived.Laws.BytesArg
import Derived.RangeFuncNested
import Derived.RangeFuncBound
import Derived.RangeFuncCalls
import Derived.RangeFuncLeaves
import Derived.Below
import Derived.Shelf.Abstract
import Derived.Shelf.RegionOpen
import Derived.OwnWalkIn
import Derived.TacticsInMore
import Derived.LoopNIn
import Derived.LoopIn
import Derived.Deep.RegionHeld3
import Derived.Deep.LoopGhost
import Derived.Deep.Cut
import Derived.Maps.OwnIn
import Derived.Stop.RegionWithIn
/- Bytes as polynomials: bit i of byte k is the coefficient of x^(8k + i). By the verifier of shale. -/
namespace Go.Proofs.YtdhcigiaidlmbaaGreatDoor.Bin
open Go Go.RowKit
set_option linter.unusedVariables false
def val : List (BitVec 8) → Nat
  | [] => 0
  | c :: l => c.toNat + 256 * val l
theorem nth8_nil (i : Nat) : nth8 [] i = 0 := by unfold nth8; simp
theorem nth8_zero (c : BitVec 8) (l : List (BitVec 8)) : nth8 (c :: l) 0 = c := rfl
theorem nth8_succ (c : BitVec 8) (l : List (BitVec 8)) (i : Nat) : nth8 (c :: l) (i + 1) = nth8 l i := by unfold nth8; simp
theorem nth8_far (l : List (BitVec 8)) (i : Nat) (h : l.length ≤ i) : nth8 l i = 0 := by
  unfold nth8
  rw [List.getD_eq_getElem?_getD, List.getElem?_eq_none h]; rfl
theorem val_bit : ∀ (l : List (BitVec 8)) (i : Nat), (val l).testBit i = (nth8 l (i / 8)).getLsbD (i % 8)
  | [], i => by rw [nth8_nil]; simp [val]
  | c :: l, i => by
    have h : val (c :: l) = 2 ^ 8 * val l + c.toNat := by simp only [val]; omega
    rw [h, Nat.testBit_two_pow_mul_add _ c.isLt]
    by_cases hi : i < 8
    · rw [if_pos hi, show i / 8 = 0 by omega, nth8_zero, show i % 8 = i by omega]; rfl
    · rw [if_neg hi, val_bit l (i - 8), show i / 8 = (i - 8) / 8 + 1 by omega, nth8_succ, show (i - 8) % 8 = i % 8 by omega]
theorem val_ext {l m : List (BitVec 8)} (h : ∀ i, nth8 l i = nth8 m i) : val l = val m := by
  apply Nat.eq_of_testBit_eq
  intro i
  rw [val_bit, val_bit, h]
theorem nth8_of_val {l m : List (BitVec 8)} (h : val l = val m) (k : Nat) : nth8 l k = nth8 m k := by
  apply BitVec.eq_of_getLsbD_eq
  intro i hi
  have e1 := val_bit l (8 * k + i)
  have e2 := val_bit m (8 * k + i)
  rw [show (8 * k + i) / 8 = k by omega, show (8 * k + i) % 8 = i by omega] at e1 e2
  rw [← e1, ← e2, h]
/-- the length without the zeros at the end, of the first n. -/
def tl (l : List (BitVec 8)) : Nat → Nat
  | 0 => 0
  | n + 1 => if nth8 l n = 0 then tl l n else n + 1
theorem tl_le (l : List (BitVec 8)) : ∀ n, tl l n ≤ n
  | 0 => Nat.le_refl _
  | n + 1 => by have := tl_le l n; simp only [tl]; split <;> omega
theorem tl_zero (l : List (BitVec 8)) : ∀ n i, tl l n ≤ i → i < n → nth8 l i = 0
  | 0, i, _, h => by omega
  | n + 1, i, h, h' => by
    simp only [tl] at h
    split at h
    · rename_i h0
      by_cases e : i = n
      · rw [e]; exact h0
      · exact tl_zero l n i h (by omega)
    · omega
theorem tl_ne (l : List (BitVec 8)) : ∀ n, tl l n ≠ 0 → nth8 l (tl l n - 1) ≠ 0
  | 0, h => absurd rfl h
  | n + 1, h => by
    simp only [tl] at h ⊢
    split
    · rename_i h0
      rw [if_pos h0] at h
      exact tl_ne l n h
    · rename_i h0
      exact h0
def trimL (l : List (BitVec 8)) : List (BitVec 8) := l.take (tl l l.length)
theorem trimL_length (l : List (BitVec 8)) : (trimL l).length = tl l l.length := by
  unfold trimL; rw [List.length_take]; have := tl_le l l.length; omega
theorem nth8_take (l : List (BitVec 8)) (k i : Nat) : nth8 (l.take k) i = if i < k then nth8 l i else 0 := by
  by_cases h : i < k
  · rw [if_pos h]
    unfold nth8
    rw [List.getD_eq_getElem?_getD, List.getElem?_take_of_lt h, ← List.getD_eq_getElem?_getD]
  · rw [if_neg h, nth8_far _ _ (by rw [List.length_take]; omega)]
theorem nth8_trim (l : List (BitVec 8)) (i : Nat) : nth8 (trimL l) i = nth8 l i := by
  unfold trimL
  rw [nth8_take]
  split
  · rfl
  · rename_i h
    by_cases h2 : i < l.length
    · exact (tl_zero l _ i (by omega) h2).symm
    · exact (nth8_far l i (by omega)).symm
theorem val_trim (l : List (BitVec 8)) : val (trimL l) = val l := val_ext (nth8_trim l)
/-- no zero at its end. -/
def Bare (l : List (BitVec 8)) : Prop := l.length ≠ 0 → nth8 l (l.length - 1) ≠ 0
theorem bare_trim (l : List (BitVec 8)) : Bare (trimL l) := by
  intro h
  rw [trimL_length] at h ⊢
  rw [nth8_trim]
  exact tl_ne l _ h
theorem bare_nil : Bare [] := fun h => absurd rfl h
theorem nth8_ext {l m : List (BitVec 8)} (hl : l.length = m.length) (h : ∀ i, i < l.length → nth8 l i = nth8 m i) : l = m := by
  apply List.ext_getElem hl
  intro i h1 h2
  have := h i h1
  unfold nth8 at this
  rw [List.getD_eq_getElem?_getD, List.getD_eq_getElem?_getD, List.getElem?_eq_getElem h1, List.getElem?_eq_getElem h2] at this
  exact this
/-- the degree, -1 of 0. -/
def degZ (n : Nat) : Int := if n = 0 then -1 else (n.log2 : Int)
theorem bitLen_byte : ∀ n : Fin 256, n.val ≠ 0 → Lib.bitLen n.val = n.val.log2 + 1 := by decide +kernel
theorem deg_bare {l : List (BitVec 8)} (h : Bare l) (h0 : l.length ≠ 0) : Deg (val l) (8 * (l.length - 1) + (nth8 l (l.length - 1)).toNat.log2) := by
  have hb := h h0
  have hc : (nth8 l (l.length - 1)).toNat ≠ 0 := fun e => hb (BitVec.eq_of_toNat_eq (by rw [e]; rfl))
  have hd := deg_of hc
  have hlt : (nth8 l (l.length - 1)).toNat.log2 < 8 := (Nat.log2_lt hc).2 (nth8 l (l.length - 1)).isLt
  generalize hk : (nth8 l (l.length - 1)).toNat.log2 = k at hd hlt
  constructor
  · apply Nat.ge_two_pow_of_testBit
    rw [val_bit, show (8 * (l.length - 1) + k) / 8 = l.length - 1 by omega, show (8 * (l.length - 1) + k) % 8 = k by omega]
    show (nth8 l (l.length - 1)).toNat.testBit k = true
    rw [Nat.testBit_eq_decide_div_mod_eq, decide_eq_true_eq]
    have h3 : (nth8 l (l.length - 1)).toNat / 2 ^ k = 1 := by
      have h1 := hd.1; have h2 := hd.2
      rw [Nat.pow_succ] at h2
      apply Nat.div_eq_of_lt_le <;> omega
    rw [h3]
  · apply Nat.lt_pow_two_of_testBit
    intro i hi
    rw [val_bit]
    by_cases e : i / 8 = l.length - 1
    · rw [e]
      show (nth8 l (l.length - 1)).toNat.testBit (i % 8) = false
      exact Nat.testBit_lt_two_pow (lt_of_deg hd (by omega))
    · rw [nth8_far l (i / 8) (by omega)]; simp
theorem degZ_bare {l : List (BitVec 8)} (h : Bare l) (h0 : l.length ≠ 0) : degZ (val l) = 8 * (l.length : Int) - 9 + (Lib.bitLen (nth8 l (l.length - 1)).toNat : Int) := by
  have hd := deg_bare h h0
  have hb := h h0
  have hc : (nth8 l (l.length - 1)).toNat ≠ 0 := fun e => hb (BitVec.eq_of_toNat_eq (by rw [e]; rfl))
  have e := bitLen_byte ⟨_, (nth8 l (l.length - 1)).isLt⟩ hc
  simp only at e
  rw [e]
  unfold degZ
  rw [if_neg (by have := hd.pos; omega), hd.log2]
  omega
theorem nth8_map (n : Nat) (f : Nat → BitVec 8) (i : Nat) (h : i < n) : nth8 ((List.range n).map f) i = f i := by
  unfold nth8; simp [h]
end Go.Proofs.YtdhcigiaidlmbaaGreatDoor.Bin
/- shaleref.SameBytes: are two lists of bytes the same? By the verifier of shale. -/
namespace Go.Proofs.YtdhcigiaidlmbaaGreatDoor
open Go Go.RowKit
set_option linter.unusedVariables false
/-- bytes as a string. -/
def strOf (l : List (BitVec 8)) : ByteArray := strOfNums (l.map Bits32.b)
theorem strOf_inj (l m : List (BitVec 8)) (h : strOf l = strOf m) : l = m := by
  have e := congrArg (fun s : ByteArray => s.data.toList) h
  simp only [strOf, strOfNums_data, List.map_map] at e
  have key : ∀ (l m : List (BitVec 8)), l.map ((fun n : Int => UInt8.ofNat n.toNat) ∘ Bits32.b) = m.map ((fun n : Int => UInt8.ofNat n.toNat) ∘ Bits32.b) → l = m := by
    intro l
    induction l with
    | nil => intro m h; cases m with | nil => rfl | cons _ _ => simp at h
    | cons a l ih =>
      intro m h
      cases m with
      | nil => simp at h
      | cons b m =>
        simp only [List.map_cons, List.cons.injEq, Function.comp] at h
        rw [ih m h.2]
        congr 1
        have e := congrArg UInt8.toNat h.1
        unfold Bits32.b at e
        simp at e
        have := a.isLt
        have := b.isLt
        apply BitVec.eq_of_toNat_eq
        omega
  exact key l m e
/-- bytes in a slice, as SameBytes reads them. -/
def Str8 (w : World) (v : Value) (l : List (BitVec 8)) : Prop := ∀ w', (∀ b, b < w.heap.size → w'.heap[b]? = w.heap[b]?) → (convert 25 9 v).run Tryz.prog w' = .ok (.string (strOf l)) w'
theorem Str8.nil (w : World) (p : Option Addr) (c : Nat) : Str8 w (.slice p 0 c) [] := by
  intro w' h
  rw [run_convert_bytes_string w' 25 9 5 p 0 c Tryz.underlying25 Tryz.underlying5 Tryz.underlying9]
  cases p with
  | none => simp [Conv.bytesToString]; rfl
  | some a =>
    have hl : (loadCells a 0).run Tryz.prog w' = .ok #[] w' := by
      have := run_loadCells_list (P := Tryz.prog) w' a [] (fun j v hj => by simp at hj)
      simpa using this
    rw [run_bytesToString w' a 0 c [] (by simpa using hl)]
    rfl
theorem Str8.of {w : World} {v : Value} {l : List (BitVec 8)} (h : IsBytes w v l) : Str8 w v l := by
  rcases h with ⟨rfl, p, c, rfl⟩ | ⟨bb, off, cap, rfl, hr, hb⟩
  · exact Str8.nil w p c
  · intro w' hw
    have := run_convert_bytes_arg (P := Tryz.prog) w' 25 5 Tryz.underlying25 Tryz.underlying5 bb off l.length cap (l.map Bits32.b) (by simp)
      (fun i hi => by
        rw [World.cell?_of_block (w := w) (hw bb hb), hr i hi]
        unfold nth8
        simp [hi]) 9 Tryz.underlying9
    exact this
set_option maxHeartbeats 400000 in
theorem same_any (l m : List (BitVec 8)) (v u : Value) (w : World) (hv : Str8 w v l) (hu : Str8 w u m) :
    Calls Tryz.prog 23 #[v, u] w fun e w' => e = .returned (.bool (decide (l = m))) ∧ w = w' := by
  have h1 := hv w (fun _ _ => rfl)
  have h2 := hu w (fun _ _ => rfl)
  go_enter Tryz.func23, Tryz.ntmps23
  go_wp2
  go_ret
  refine ⟨?_, rfl⟩
  have e : ((strOf l).toList == (strOf m).toList) = decide (l = m) := by
    rw [Bool.eq_iff_iff, beq_iff_eq, decide_eq_true_iff]
    constructor
    · intro h
      rw [ByteArray.toList_eq, ByteArray.toList_eq] at h
      exact strOf_inj l m (by
        have : (strOf l).data = (strOf m).data := Array.toList_inj.1 h
        cases hl : strOf l; cases hm : strOf m
        simp_all)
    · intro h; rw [h]
  rw [← e]; rfl
/-- the same memory, but for draws. -/
def SameHeap (W w : World) : Prop := w.heap = W.heap
theorem SameHeap.refl (W : World) : SameHeap W W := rfl
theorem SameHeap.drew {W w : World} (h : SameHeap W w) : SameHeap W w.drew := h
theorem Str8.since {W w : World} {v : Value} {l : List (BitVec 8)} (h : Str8 W v l) (o : ∀ b, b < W.heap.size → w.heap[b]? = W.heap[b]?) (hs : W.heap.size ≤ w.heap.size) : Str8 w v l :=
  fun w' hw => h w' (fun b hb => (hw b (Nat.lt_of_lt_of_le hb hs)).trans (o b hb))
theorem same_since {l m : List (BitVec 8)} {v u : Value} {W w : World} (hv : Str8 W v l) (hu : Str8 W u m) (h : SameHeap W w) :
    Calls Tryz.prog 23 #[v, u] w fun e w' => e = .returned (.bool (decide (l = m))) ∧ w = w' :=
  same_any l m v u w (hv.since (fun b _ => by rw [show w.heap = W.heap from h]) (by rw [show w.heap = W.heap from h]; exact Nat.le_refl _)) (hu.since (fun b _ => by rw [show w.heap = W.heap from h]) (by rw [show w.heap = W.heap from h]; exact Nat.le_refl _))
/-- SameBytes answers c of these two, in whatever world that has W's memory. -/
def Sames (W : World) (v u : Value) (c : Bool) : Prop := ∀ w, SameHeap W w → Calls Tryz.prog 23 #[v, u] w fun e w' => e = .returned (.bool c) ∧ w = w'
theorem Sames.mk {W : World} {v u : Value} {l m : List (BitVec 8)} {c : Bool} (hv : Str8 W v l) (hu : Str8 W u m) (hc : decide (l = m) = c) : Sames W v u c := by
  intro w h; rw [← hc]; exact same_since hv hu h
end Go.Proofs.YtdhcigiaidlmbaaGreatDoor
/- A range over a function whose iterator keeps state in cells of its own: one invariant for what the iterator and the body hold together, all of it below the blocks that the loop itself lays. By the verifier of shale. -/
namespace Go.Proofs.YtdhcigiaidlmbaaGreatDoor
open Go Go.RowKit
set_option linter.unusedVariables false
/-- what lies at or above B and was there lies as it lay. -/
structure Hi (B : Nat) (W W' : World) : Prop where
  size : W.heap.size ≤ W'.heap.size
  same : ∀ k, B ≤ k → k < W.heap.size → W'.heap[k]? = W.heap[k]?
theorem Hi.refl (B : Nat) (W : World) : Hi B W W := ⟨Nat.le_refl _, fun _ _ _ => rfl⟩
theorem Hi.trans {B : Nat} {X Y Z : World} (h : Hi B X Y) (k : Hi B Y Z) : Hi B X Z :=
  ⟨Nat.le_trans h.size k.size, fun i hB hi => (k.same i hB (Nat.lt_of_lt_of_le hi h.size)).trans (h.same i hB hi)⟩
theorem Hi.below {B : Nat} {W W' : World} (h : Below W.heap.size W W') : Hi B W W' := ⟨h.size, fun k _ hk => h.block k hk⟩
theorem Hi.setCell {B : Nat} (W : World) (p : Addr) (u : Value) (hp : p.block < B) : Hi B W (W.setCell p u) :=
  ⟨by simp [World.setCell], fun k hB _ => Below.heap_setCell _ _ _ _ (by omega)⟩
/-- whatever lies below B, block s aside, lies as it lay. -/
structure Others (B s : Nat) (W W' : World) : Prop where
  size : W.heap.size ≤ W'.heap.size
  same : ∀ k, k < B → k ≠ s → W'.heap[k]? = W.heap[k]?
theorem Others.trans {B s : Nat} {X Y Z : World} (h : Others B s X Y) (k : Others B s Y Z) : Others B s X Z :=
  ⟨Nat.le_trans h.size k.size, fun i hi hs => (k.same i hi hs).trans (h.same i hi hs)⟩
theorem Others.below {B s : Nat} {X Y : World} (h : Below B X Y) : Others B s X Y := ⟨h.size, fun k hk _ => h.block k hk⟩
theorem Others.setCell {B s : Nat} (W : World) (p : Addr) (u : Value) (hp : p.block = s) : Others B s W (W.setCell p u) :=
  ⟨by simp [World.setCell], fun k _ hs => Below.heap_setCell _ _ _ _ (by omega)⟩
theorem roundIn_wide {n m : Nat} {P : Program} {l : Nat} {f : FuncId} {tmps : Array Value} {assign body : Code} {w : World} {R : Ending → World → Prop}
    (h : RoundIn Fence.wide n P l f tmps assign body w R) : RoundIn Fence.wide m P l f tmps assign body w R := ⟨h.1, fun c cs _ => h.2 c cs (room_wide _)⟩
end Go.Proofs.YtdhcigiaidlmbaaGreatDoor
/- A range over a function whose iterator and whose body each own blocks of their own (captured cells, lists that grow in place): what either does leaves alone what the other owns. By the verifier of shale. -/
namespace Go.Proofs.YtdhcigiaidlmbaaGreatDoor
open Go Go.RowKit
set_option linter.unusedVariables false
/-- below B (cl aside) and in bl all lies as it lay. -/
structure Fr (B : Nat) (cl bl : List Nat) (X Y : World) : Prop where
  os : Y.os = X.os
  tape : Y.tape = X.tape
  output : Y.output = X.output
  size : X.heap.size ≤ Y.heap.size
  same : ∀ k, (k < B ∧ k ∉ cl) ∨ k ∈ bl → k < X.heap.size → Y.heap[k]? = X.heap[k]?
theorem Fr.refl (B : Nat) (cl bl : List Nat) (X : World) : Fr B cl bl X X := ⟨rfl, rfl, rfl, Nat.le_refl _, fun _ _ _ => rfl⟩
theorem Fr.trans {B : Nat} {cl bl : List Nat} {X Y Z : World} (h : Fr B cl bl X Y) (k : Fr B cl bl Y Z) : Fr B cl bl X Z :=
  ⟨k.os.trans h.os, k.tape.trans h.tape, k.output.trans h.output, Nat.le_trans h.size k.size, fun i hi hs => (k.same i hi (Nat.lt_of_lt_of_le hs h.size)).trans (h.same i hi hs)⟩
theorem Fr.below {B : Nat} {cl bl : List Nat} {X Y : World} (h : Below X.heap.size X Y) : Fr B cl bl X Y := ⟨h.os, h.tape, h.output, h.size, fun k _ hk => h.block k hk⟩
theorem Fr.sub {B B' : Nat} {cl bl bl' : List Nat} {X Y : World} (h : Fr B cl bl X Y) (hB : B' ≤ B) (hs : ∀ k ∈ bl', k ∈ bl ∨ (k < B ∧ k ∉ cl)) : Fr B' cl bl' X Y :=
  ⟨h.os, h.tape, h.output, h.size, fun k hk hl => h.same k (by
    rcases hk with ⟨h1, h2⟩ | h1
    · exact .inl ⟨by omega, h2⟩
    · rcases hs k h1 with h2 | h2
      · exact .inr h2
      · exact .inl h2) hl⟩
/-- a store into a block that is none of these. -/
theorem Fr.setCell {B : Nat} {cl bl : List Nat} (X : World) (p : Addr) (u : Value) (h1 : p.block < B → p.block ∈ cl) (h2 : p.block ∉ bl) : Fr B cl bl X (X.setCell p u) :=
  ⟨rfl, rfl, rfl, by simp [World.setCell], fun k hk _ => Below.heap_setCell _ _ _ _ (by
    rintro rfl
    rcases hk with ⟨h, h'⟩ | h
    · exact h' (h1 h)
    · exact h2 h)⟩
/-- what the owner of bl may do: it turns these, and makes new ones. -/
structure Tn (bl : List Nat) (X Y : World) (bl' : List Nat) : Prop where
  os : Y.os = X.os
  tape : Y.tape = X.tape
  output : Y.output = X.output
  size : X.heap.size ≤ Y.heap.size
  same : ∀ k, k < X.heap.size → k ∉ bl → Y.heap[k]? = X.heap[k]?
  new : ∀ k ∈ bl', k ∈ bl ∨ X.heap.size ≤ k
theorem Tn.refl (bl : List Nat) (X : World) : Tn bl X X bl := ⟨rfl, rfl, rfl, Nat.le_refl _, fun _ _ _ => rfl, fun _ h => .inl h⟩
theorem Tn.trans {b1 b2 b3 : List Nat} {X Y Z : World} (h : Tn b1 X Y b2) (k : Tn b2 Y Z b3) : Tn b1 X Z b3 := by
  refine ⟨k.os.trans h.os, k.tape.trans h.tape, k.output.trans h.output, Nat.le_trans h.size k.size, fun i hi hs => ?_, fun i hi => ?_⟩
  · refine (k.same i (Nat.lt_of_lt_of_le hi h.size) fun hb => ?_).trans (h.same i hi hs)
    rcases h.new i hb with h1 | h1
    · exact hs h1
    · omega
  · rcases k.new i hi with h1 | h1
    · exact h.new i h1
    · exact .inr (Nat.le_trans h.size h1)
theorem Tn.below {bl : List Nat} {X Y : World} (h : Below X.heap.size X Y) : Tn bl X Y bl := ⟨h.os, h.tape, h.output, h.size, fun k hk _ => h.block k hk, fun _ h => .inl h⟩
theorem Tn.setCell {bl : List Nat} (X : World) (p : Addr) (u : Value) (h : p.block ∈ bl) : Tn bl X (X.setCell p u) bl :=
  ⟨rfl, rfl, rfl, by simp [World.setCell], fun k _ hk => Below.heap_setCell _ _ _ _ (by rintro rfl; exact hk h), fun _ h => .inl h⟩
/-- how the body of a round may be left. -/
def leftSep {α : Type} (I : List α → List Nat → World → Prop) (Ix : Code → List α → List Nat → World → Prop) (xs : List α) (bl : List Nat) (W : World) : Exit → Act → World → Prop
  | .normal, _, W' => ∃ bl', Tn bl W W' bl' ∧ I xs bl' W'
  | .ret, _, W' => ∃ bl', Tn bl W W' bl' ∧ Ix .ret xs bl' W'
  | .exit id, _, W' => ∃ bl', Tn bl W W' bl' ∧ Ix (.exit id) xs bl' W'
  | .goto t, _, W' => ∃ bl', Tn bl W W' bl' ∧ Ix (.goto t) xs bl' W'
  | .panic _, _, _ => False
  | .outgrown, _, _ => False
/-- the iterator's side: O is what is carried on for the body and the loop; ol the blocks that they own; C what the iterator finds. -/
def IterSep {α : Type} (n : Nat) (P : Program) (gf : Nat) (lb : Array Value) (encs : α → Array Value) (B : Nat) (cl : List Nat) (V : List α → α → Prop) (S Sp : List α → Prop) (C : List Nat → World → Prop) : Prop :=
  ∀ (l : Nat) (O : List α → List Nat → World → Prop) (Ox : Code → List α → List Nat → World → Prop) (ol : List Nat) (W : World),
    (∀ pre ol X Y, O pre ol X → Fr B cl ol X Y → O pre ol Y) → (∀ c pre ol X Y, Ox c pre ol X → Fr B cl ol X Y → Ox c pre ol Y) →
    (∀ pre ol X, O pre ol X → ∀ k ∈ ol, k < X.heap.size) →
    (∀ pre x ol X, O pre ol X → V pre x → YieldAt Fence.wide n P l (encs x) X fun e Y => ∃ ol', Tn ol X Y ol' ∧
      ((e = .returned (.bool true) ∧ O (pre ++ [x]) ol' Y) ∨ (e = .returned (.bool false) ∧ ∃ c, Ox c (pre ++ [x]) ol' Y))) →
    B ≤ W.heap.size → O [] ol W → C ol W →
    CallsIn Fence.wide n P gf (#[.func (.yield l) #[] #[]] ++ lb) W fun e W' => (∃ v, e = .returned v) ∧
      ((∃ xs ol', S xs ∧ O xs ol' W') ∨ (∃ pre c ol', Sp pre ∧ Ox c pre ol' W'))
/-- **THE STATEMENT.** -/
theorem range_sep {α : Type} {n : Nat} {P : Program} {g : Operand} {ps : Array Tmp} {assign body : Code} {Q : Exit → Act → World → Prop} {a : Act} {w : World}
    {gf : Nat} {lb : Array Value} (hg : a.eval g = .func (.func gf) #[] lb) (eg : ∀ args w, (callFunc gf args).run P w = .ok (.enter gf args) w)
    {encs : α → Array Value} (hps : ∀ x, (encs x).size = ps.size) {V : List α → α → Prop} {S Sp : List α → Prop} (cl : List Nat) {C : List Nat → World → Prop}
    (I : List α → List Nat → World → Prop) (Ix : Code → List α → List Nat → World → Prop)
    (hI : ∀ pre bl X Y, I pre bl X → Fr w.heap.size cl bl X Y → I pre bl Y) (hIx : ∀ c pre bl X Y, Ix c pre bl X → Fr w.heap.size cl bl X Y → Ix c pre bl Y)
    (hIl : ∀ pre bl X, I pre bl X → ∀ k ∈ bl, k < X.heap.size) {bl0 : List Nat} (h0 : I [] bl0 w)
    (hC : ∀ W, Below w.heap.size w W → C (w.heap.size :: (w.heap.size + 1) :: bl0) W)
    (hit : IterSep (n - 1) P gf lb encs w.heap.size cl V S Sp C) (a₁ : α → Act)
    (hassign : ∀ (l : Nat) (x : α) (W : World) (K : Act → World → Prop), K (a₁ x) W →
      assign.wpIn (Fence.wide.inRound l) (n - 1) P (Exit.then K (fun _ _ _ => False)) { tmps := (ps.zip (encs x)).foldl (fun t (p, v) => t.setIfInBounds p v) a.tmps, defers := [] } W)
    (hbody : ∀ (l : Nat) (pre : List α) (bl : List Nat) (x : α) (W : World), I pre bl W → V pre x → body.wpIn (Fence.wide.inRound l) (n - 1) P (leftSep I Ix (pre ++ [x]) bl W) (a₁ x) W)
    (hdone : ∀ (D : Nat) (xs : List α) (bl : List Nat) (W : World), w.heap.size ≤ D → D < W.heap.size → D ∉ bl → S xs → I xs bl W → W.heap[D]? = some (.deferred (some [])) → Q .normal { a with defers := { target := .collected D, args := #[] } :: a.defers } W)
    (hstop : ∀ (D : Nat) (c : Code) (pre : List α) (bl : List Nat) (W : World), w.heap.size ≤ D → D < W.heap.size → D ∉ bl → Sp pre → Ix c pre bl W → W.heap[D]? = some (.deferred (some [])) → c.wpIn Fence.wide n P Q { a with defers := { target := .collected D, args := #[] } :: a.defers } W) :
    (Code.rangeFunc g ps assign body).wpIn Fence.wide n P Q a w := by
  refine wpIn_rangeFunc ?_
  intro fn hfn
  obtain ⟨B, hB⟩ : ∃ B, B = w.heap.size := ⟨_, rfl⟩
  let rec' : LoopState → Option Code → Loop := fun st pe => { state := st, pending := pe, fn, tmps := a.tmps, params := ps, assign, body, defers := B }
  obtain ⟨W1, hW1⟩ : ∃ W1, (w.alloc (.deferred (some []))).alloc (.loop (rec' .ready none)) = W1 := ⟨_, rfl⟩
  have hbel : Below B w W1 := by rw [← hW1, hB]; exact ((Below.refl _ _).alloc (Nat.le_refl _) _).alloc (by simp) _
  have hD1 : W1.heap[B]? = some (.deferred (some [])) := by
    rw [← hW1, hB]; exact (Below.heap_alloc _ _ _ (by simp)).trans (World.alloc_heap_new w _)
  have hL1 : W1.heap[B + 1]? = some (.loop (rec' .ready none)) := by
    rw [← hW1]
    have := World.alloc_heap_new (w.alloc (.deferred (some []))) (.loop (rec' .ready none))
    rw [World.size_alloc] at this
    rw [hB]; exact this
  -- the two blocks of the loop's own, in whatever state
  let At : LoopState → Option Code → World → Prop := fun st pe W => W.heap[B + 1]? = some (.loop (rec' st pe)) ∧ W.heap[B]? = some (.deferred (some []))
  have hlt : ∀ {st pe W}, At st pe W → B + 1 < W.heap.size := fun h => (Array.getElem?_eq_some_iff.1 h.1).1
  have hAtF : ∀ {st pe cl ol X Y}, At st pe X → B ∈ ol → B + 1 ∈ ol → Fr B cl ol X Y → At st pe Y := by
    intro st pe cl ol X Y h m1 m2 f
    have := hlt h
    exact ⟨(f.same _ (.inr m2) (hlt h)).trans h.1, (f.same _ (.inr m1) (by omega)).trans h.2⟩
  have hAtT : ∀ {st pe bl bl' X Y}, At st pe X → B ∉ bl → B + 1 ∉ bl → Tn bl X Y bl' → At st pe Y ∧ B ∉ bl' ∧ B + 1 ∉ bl' := by
    intro st pe bl bl' X Y h m1 m2 t
    have := hlt h
    refine ⟨⟨(t.same _ (hlt h) m2).trans h.1, (t.same _ (by omega) m1).trans h.2⟩, fun hb => ?_, fun hb => ?_⟩
    · rcases t.new _ hb with h1 | h1
      · exact m1 h1
      · omega
    · rcases t.new _ hb with h1 | h1
      · exact m2 h1
      · omega
  -- a turn of the record
  have turn : ∀ (W : World) (st st' : LoopState) (pe pe' : Option Code), At st pe W → At st' pe' (W.putObj (B + 1) (.loop (rec' st' pe'))) ∧ Tn [B + 1] W (W.putObj (B + 1) (.loop (rec' st' pe'))) [B + 1] := by
    intro W st st' pe pe' h
    refine ⟨⟨World.putObj_heap_same (hlt h), (World.putObj_heap_other (by omega)).trans h.2⟩, ⟨rfl, rfl, rfl, by simp, fun k _ hk => World.putObj_heap_other (by simpa using hk), fun _ h => .inl h⟩⟩
  -- such a turn frames what the body owns
  have fr : ∀ {bl X Y}, B + 1 ∉ bl → Tn [B + 1] X Y [B + 1] → Fr B cl bl X Y := by
    intro bl X Y m t
    refine ⟨t.os, t.tape, t.output, t.size, fun k hk hl => t.same k hl fun hm => ?_⟩
    rw [List.mem_singleton.1 hm] at hk
    rcases hk with ⟨h1, _⟩ | h1
    · omega
    · exact m h1
  rw [← hB] at hI hIx hC hit
  refine ⟨B + 1, [{ target := .collected B, args := #[] }], W1, { target := .fn (.func gf) lb, args := #[.func (.yield (B + 1)) #[] #[]] }, W1, gf, #[.func (.yield (B + 1)) #[] #[]] ++ lb, W1, ?_, ?_, ?_, ?_, fun h => by simp [Fence.wide] at h, ?_⟩
  · rw [← hW1]
    subst hB
    exact run_enterLoop_outer _ _ _ _ _
  · simp only [resolve, hg]
    simp [go_sem]
  · intro f' _; trivial
  · simp [invoke, go_sem, eg]
  have m0 : B ∉ bl0 ∧ B + 1 ∉ bl0 := ⟨fun h => by have := hIl _ _ _ h0 _ h; omega, fun h => by have := hIl _ _ _ h0 _ h; omega⟩
  have hBW1 : B ≤ W1.heap.size := by have := hbel.size; omega
  refine (hit (B + 1) (fun pre ol W => ∃ bl, ol = B :: (B + 1) :: bl ∧ B ∉ bl ∧ B + 1 ∉ bl ∧ I pre bl W ∧ At .ready none W) (fun c pre ol W => ∃ bl, ol = B :: (B + 1) :: bl ∧ B ∉ bl ∧ B + 1 ∉ bl ∧ Ix c pre bl W ∧ At .done (some c) W)
    (B :: (B + 1) :: bl0) W1 ?_ ?_ ?_ ?_ hBW1 ⟨bl0, rfl, m0.1, m0.2, hI _ _ _ _ h0 (.below (by rw [← hB]; exact hbel)), hL1, hD1⟩ (hC _ hbel)).mono ?_
  · rintro pre ol X Y ⟨bl, rfl, m1, m2, hi, hK⟩ f
    exact ⟨bl, rfl, m1, m2, hI _ _ _ _ hi (f.sub (Nat.le_refl _) fun k hk => .inl (by simp [hk])), hAtF hK (by simp) (by simp) f⟩
  · rintro c pre ol X Y ⟨bl, rfl, m1, m2, hi, hK⟩ f
    exact ⟨bl, rfl, m1, m2, hIx _ _ _ _ _ hi (f.sub (Nat.le_refl _) fun k hk => .inl (by simp [hk])), hAtF hK (by simp) (by simp) f⟩
  · rintro pre ol X ⟨bl, rfl, m1, m2, hi, hK⟩ k hk
    have := hlt hK
    rcases List.mem_cons.1 hk with rfl | hk
    · omega
    · rcases List.mem_cons.1 hk with rfl | hk
      · exact this
      · exact hIl _ _ _ hi k hk
  · -- one round
    rintro pre x ol W ⟨bl, rfl, m1, m2, hi, hK⟩ hlen
    refine ⟨fn, _, assign, body, run_yield hK.1 (hps x), roundIn_wide (n := n - 1) (roundIn_of_wpIn trivial (hassign _ x W _ ⟨_, run_beginRound hK.1 rfl, ?_⟩))⟩
    obtain ⟨k2, b2⟩ := turn W .ready .busy none none hK
    refine wpIn_mono (hbody _ pre bl x _ (hI _ _ _ _ hi (fr m2 b2)) hlen) ?_
    have lift : ∀ {bl2 X Y}, Tn [B + 1] X Y [B + 1] → Tn (B :: (B + 1) :: bl2) X Y (B :: (B + 1) :: bl2) := by
      intro bl2 X Y t
      exact ⟨t.os, t.tape, t.output, t.size, fun k hk hb => t.same k hk (by simp only [List.mem_singleton]; rintro rfl; exact hb (by simp)), fun _ h => .inl h⟩
    have lift2 : ∀ {bl2 bl3 X Y}, Tn bl2 X Y bl3 → Tn (B :: (B + 1) :: bl2) X Y (B :: (B + 1) :: bl3) := by
      intro bl2 bl3 X Y t
      refine ⟨t.os, t.tape, t.output, t.size, fun k hk hb => t.same k hk fun h => hb (by simp [h]), fun k hk => ?_⟩
      rcases List.mem_cons.1 hk with rfl | hk
      · exact .inl (by simp)
      · rcases List.mem_cons.1 hk with rfl | hk
        · exact .inl (by simp)
        · rcases t.new k hk with h | h
          · exact .inl (by simp [h])
          · exact .inr h
    have fin : ∀ (jump : Option Code) (bl' : List Nat) (W3 : World), Tn bl (W.putObj (B + 1) (.loop (rec' .busy none))) W3 bl' → At .busy none W3 ∧ B ∉ bl' ∧ B + 1 ∉ bl' ∧
        (Instr.endRound (B + 1) jump).run P W3 = .ok (.bool jump.isNone) (W3.putObj (B + 1) (.loop (rec' (if jump.isNone then .ready else .done) jump))) := by
      intro jump bl' W3 h3
      obtain ⟨k3, n1, n2⟩ := hAtT k2 m1 m2 h3
      exact ⟨k3, n1, n2, run_endRound jump k3.1⟩
    rintro e a3 W3 hp
    cases e with
    | normal =>
      obtain ⟨bl', t3, i3⟩ := hp
      obtain ⟨k3, n1, n2, r3⟩ := fin none bl' W3 t3
      obtain ⟨k4, b4⟩ := turn W3 .busy .ready none none k3
      exact ⟨_, _, r3, _, ((lift b2).trans (lift2 t3)).trans (lift b4), .inl ⟨rfl, bl', rfl, n1, n2, hI _ _ _ _ i3 (fr n2 b4), k4⟩⟩
    | ret =>
      obtain ⟨bl', t3, i3⟩ := hp
      obtain ⟨k3, n1, n2, r3⟩ := fin (some .ret) bl' W3 t3
      obtain ⟨k4, b4⟩ := turn W3 .busy .done none (some .ret) k3
      exact ⟨_, _, r3, _, ((lift b2).trans (lift2 t3)).trans (lift b4), .inr ⟨rfl, _, bl', rfl, n1, n2, hIx _ _ _ _ _ i3 (fr n2 b4), k4⟩⟩
    | exit id =>
      obtain ⟨bl', t3, i3⟩ := hp
      obtain ⟨k3, n1, n2, r3⟩ := fin (some (.exit id)) bl' W3 t3
      obtain ⟨k4, b4⟩ := turn W3 .busy .done none (some (.exit id)) k3
      exact ⟨_, _, r3, _, ((lift b2).trans (lift2 t3)).trans (lift b4), .inr ⟨rfl, _, bl', rfl, n1, n2, hIx _ _ _ _ _ i3 (fr n2 b4), k4⟩⟩
    | goto t =>
      obtain ⟨bl', t3, i3⟩ := hp
      obtain ⟨k3, n1, n2, r3⟩ := fin (some (.goto t)) bl' W3 t3
      obtain ⟨k4, b4⟩ := turn W3 .busy .done none (some (.goto t)) k3
      exact ⟨_, _, r3, _, ((lift b2).trans (lift2 t3)).trans (lift b4), .inr ⟨rfl, _, bl', rfl, n1, n2, hIx _ _ _ _ _ i3 (fr n2 b4), k4⟩⟩
    | panic ch => exact hp.elim
    | outgrown => exact hp.elim
  · -- behind the iterator
    rintro e W2 ⟨⟨v, rfl⟩, (⟨xs, ol', hS, bl, rfl, m1, m2, hi, hK⟩ | ⟨pre, c, ol', hSp, bl, rfl, m1, m2, hi, hK⟩)⟩
    · obtain ⟨k3, b3⟩ := turn W2 .ready .exhausted none none hK
      exact ⟨none, _, run_endLoop hK.1 (by simp [rec']), hdone _ xs bl _ (by omega) (Array.getElem?_eq_some_iff.1 k3.2).1 m1 hS (hI _ _ _ _ hi (fr m2 b3)) k3.2⟩
    · obtain ⟨k3, b3⟩ := turn W2 .done .exhausted (some c) (some c) hK
      exact ⟨some c, _, run_endLoop hK.1 (by simp [rec']), hstop _ c pre bl _ (by omega) (Array.getElem?_eq_some_iff.1 k3.2).1 m1 hSp (hIx _ _ _ _ _ hi (fr m2 b3)) k3.2⟩
end Go.Proofs.YtdhcigiaidlmbaaGreatDoor
/- Traces: a range over the squares of an element. By the verifier of shale. -/
namespace Go.Proofs.YtdhcigiaidlmbaaGreatDoor.Fld
open Go Go.RowKit Bits16 Go.Shelf
set_option linter.unusedVariables false
attribute [local go_sem] Oper.semAt_some
/-- a block of one cell. -/
def Box (W : World) (b : Nat) (v : Value) (t : TypeId) : Prop := W.heap[b]? = some (.cells #[v] t (0, 0))
theorem Box.cell {W : World} {b : Nat} {v : Value} {t : TypeId} (e : Box W b v t) : W.cell? ⟨b, 0, none⟩ = some v := cell_of_one e
theorem Box.free {W : World} {b : Nat} {v : Value} {t : TypeId} (e : Box W b v t) : W.frozen? ⟨b, 0, none⟩ = false := free_of_one e
theorem Box.drawn {W W' : World} {b : Nat} {v : Value} {t : TypeId} (e : Box W b v t) (d : Drawn W W') : Box W' b v t := by obtain ⟨n, rfl⟩ := d; exact e
theorem Box.put {W : World} {b : Nat} {v : Value} {t : TypeId} (e : Box W b v t) (u : Value) : Box (W.setCell ⟨b, 0, none⟩ u) b u t := one_setCell e
theorem Box.other {W : World} {b : Nat} {v : Value} {t : TypeId} (e : Box W b v t) (p : Addr) (u : Value) (hp : b ≠ p.block) : Box (W.setCell p u) b v t := (Below.heap_setCell _ _ _ _ hp).trans e
/-- the sum of these. -/
def xsum (l : List (BitVec 16)) : BitVec 16 := l.foldl (· ^^^ ·) 0
/-- what the loop's body holds: the sum so far, in a box of its own. -/
def TrI (sb : Nat) (w0 : World) (pre : List (BitVec 16)) (W : World) : Prop := Box W sb (.int .i64 (h (xsum pre))) 3 ∧ Below sb w0 W
theorem TrI.drawn {sb : Nat} {w0 W W' : World} {pre : List (BitVec 16)} (e : TrI sb w0 pre W) (d : Drawn W W') : TrI sb w0 pre W' := ⟨e.1.drawn d, e.2.trans (d.below _)⟩
theorem TrI.put {sb : Nat} {w0 W : World} {pre : List (BitVec 16)} (e : TrI sb w0 pre W) (p : Addr) (u : Value) (hp : sb < p.block) : TrI sb w0 pre (W.setCell p u) := ⟨e.1.other p u (by omega), e.2.setCell (by omega) _⟩
section
variable {m s be ce bl : Nat} (h1 : 3 ≤ m) (h2 : m ≤ 14)
include h1 h2
end
section
attribute [local go_sem] rxor
variable {m s be ce bl : Nat} (h1 : 3 ≤ m) (h2 : m ≤ 14)
include h1 h2
end
end Go.Proofs.YtdhcigiaidlmbaaGreatDoor.Fld
/- The walk over package search's steps. By the verifier of shale. -/
namespace Go.Proofs.YtdhcigiaidlmbaaGreatDoor.Sea
open Go Go.RowKit Pl Fld Bits16 Loc
set_option linter.unusedVariables false
theorem own_free {w : World} {base n k g c : Nat} {l : List Int} (h : Own64 w base (.slice (some ⟨g, 0, none⟩) n c) k l) (i : Nat) : w.frozen? ⟨g, i, none⟩ = false := by
  rcases h.2 with ⟨h0, _⟩ | ⟨g', cap', cur, hv, hbg, hh, _⟩
  · cases h0
  · simp only [Value.slice.injEq, Option.some.injEq, Addr.mk.injEq] at hv
    obtain ⟨⟨rfl, _⟩, _⟩ := hv
    unfold World.frozen?
    simp only
    rw [hh]; rfl
theorem own_store {w : World} {base n g c : Nat} {l : List Int} (h : Own64 w base (.slice (some ⟨g, 0, none⟩) n c) n l) (i : Nat) (hi : i < n) (z : Int) : Own64 (w.setCell ⟨g, i, none⟩ (.int .i64 z)) base (.slice (some ⟨g, 0, none⟩) n c) n (l.set i z) := by
  have hl := h.len
  refine ⟨by rw [cells64_length, List.length_set]; omega, ?_⟩
  rcases h.2 with ⟨h0, _⟩ | ⟨g', cap', cur, hv, hbg, hh, hnc, hm, hs, ht⟩
  · cases h0
  · simp only [Value.slice.injEq, Option.some.injEq, Addr.mk.injEq] at hv
    obtain ⟨⟨rfl, _⟩, _, rfl⟩ := hv
    refine Or.inr ⟨g, c, cur.setIfInBounds i (.int .i64 z), rfl, hbg, heap_setCell_same w g i cur _ _ hh, hnc, hm, by simpa using hs, ?_⟩
    rw [Array.toList_setIfInBounds, List.take_set, ht]
    unfold cells64
    rw [List.map_set]
/-- a search in block cb. -/
def chB (w : World) (cb g s : Nat) (a : Option Addr) (n c : Nat) (nn : Int) : Prop := w.heap[cb]? = some (.cells #[.pointer (some ⟨g, 0, none⟩), .pointer (some ⟨s, 0, none⟩), .slice a n c, .int .i64 nn] 231 (0, 0))
theorem chB.cells {w : World} {cb g s : Nat} {a : Option Addr} {n c : Nat} {nn : Int} (h : chB w cb g s a n c nn) :
    w.cell? ⟨cb, 0, none⟩ = some (.pointer (some ⟨g, 0, none⟩)) ∧ w.cell? ⟨cb, 1, none⟩ = some (.pointer (some ⟨s, 0, none⟩)) ∧ w.cell? ⟨cb, 2, none⟩ = some (.slice a n c) ∧ w.cell? ⟨cb, 3, none⟩ = some (.int .i64 nn) := by
  have e : w.heap[cb]? = _ := h
  refine ⟨?_, ?_, ?_, ?_⟩ <;> (unfold World.cell?; simp only; rw [e]; rfl)
abbrev chV (g s : Nat) (a : Option Addr) (n c : Nat) (nn : Int) : Value := .agg #[.pointer (some ⟨g, 0, none⟩), .pointer (some ⟨s, 0, none⟩), .slice a n c, .int .i64 nn]
set_option maxHeartbeats 400000 in
theorem steps_any (g s : Nat) (a : Option Addr) (n c : Nat) (nn : Int) (w : World) :
    Calls Tryz.prog 180 #[chV g s a n c nn] w fun e w' => e = .returned (.func (.func 194) #[] #[.pointer (some ⟨w.heap.size, 0, none⟩)]) ∧ chB w' w.heap.size g s a n c nn ∧ Below w.heap.size w w' := by
  have h1 : Hid (chB (w.alloc (.cells #[.pointer (some ⟨g, 0, none⟩), .pointer (some ⟨s, 0, none⟩), .slice a n c, .int .i64 nn] 231 (0, 0))) w.heap.size g s a n c nn ∧ Below w.heap.size w (w.alloc (.cells #[.pointer (some ⟨g, 0, none⟩), .pointer (some ⟨s, 0, none⟩), .slice a n c, .int .i64 nn] 231 (0, 0)))) :=
    ⟨heap_alloc_new w _, (Below.refl _ _).alloc (Nat.le_refl _) _⟩
  go_enter Tryz.func180, Tryz.ntmps180
  go_wp2_with fail
  go_ret
  exact ⟨rfl, h1.out.1, h1.out.2⟩
theorem intsN_at (l : List Nat) (j : Nat) (hj : j < l.length) : nth64 (intsN l) j = ((l.getD j 0 : Nat) : Int) := by
  unfold nth64 intsN
  simp [hj]
section
variable {m : Nat} [M : Mid m]
/-- what the iterator finds. -/
def Finds (w0 : World) (cb g s : Nat) (a : Option Addr) (n c : Nat) (nn : Int) (ol : List Nat) (W : World) : Prop :=
  Below w0.heap.size w0 W ∧ chB W cb g s a n c nn ∧ w0.heap.size ≤ cb ∧ ∀ k ∈ ol, w0.heap.size ≤ k ∧ k ≠ cb
abbrev encP (p : Ser (El m)) (n : Nat) (i : Nat) : Array Value := #[.int .i64 (i : Int), .int .i64 (zn (ev n p (pt m i)))]
set_option maxRecDepth 100000 in
set_option maxHeartbeats 2000000 in
theorem steps_iter (nf B : Nat) {K : Nat} {w0 : World} {s be ce bl cb g : Nat} {a : Option Addr} {n c : Nat} {p : Ser (El m)} {nn : Int} {y : Addr} (F : FldAt m w0 s be ce bl) (P : NV m w0 K a n c p) (hn : n ≤ 2048) (hnn : nn ≤ 16383) (E : ErrAt w0 9 y) :
    IterSep nf Tryz.prog 194 #[.pointer (some ⟨cb, 0, none⟩)] (encP p n) B [] (fun pre x => pre = List.range x ∧ x < nn.toNat) (fun xs => xs = List.range nn.toNat) (fun pre => ∃ k, k ≤ nn.toNat ∧ pre = List.range k) (Finds w0 cb g s a n c nn) := by
  obtain ⟨i0, hi, hz0, hz1, hz2⟩ := info64
  intro l O Ox ol W hO hOx hOl hY hBW h0 hC
  refine callsIn_wide.2 ?_
  obtain ⟨hB0, hch, hcb, hol⟩ := hC
  obtain ⟨c0, c1, c2, c3⟩ := hch.cells
  have HYY := Lib.hid hY
  have HOO := Lib.hid (And.intro hO (And.intro hOx hOl))
  have H0 := Lib.hid h0
  have HF := Lib.hid (And.intro F (And.intro P (And.intro E hB0)))
  have HC := Lib.hid (And.intro hch (And.intro hcb hol))
  clear hO hOx hOl hY h0 F P E hB0 hch hol
  go_enter Tryz.func194, Tryz.ntmps194
  go_wp2_with fail
  have hsW : cb < W.heap.size := lt_of_block HC.out.1
  have HW : Hid (∀ wx, Below W.heap.size W wx → chB wx cb g s a n c nn ∧ Below w0.heap.size w0 wx) := fun wx b => ⟨(b.block _ hsW).trans HC.out.1, HF.out.2.2.2.trans (b.mono HF.out.2.2.2.size)⟩
  clear c0 c1 c2 c3
  go_loopg [3, 4, 16] n (fun gh s3 s4 s16 wx => ∃ (k q : Nat), gh = n - k ∧ k ≤ n ∧ s16 = .int .i64 (k : Int) ∧ Hid (q = (nz p k).length) ∧ q ≤ k ∧ Hid (Own64 wx W.heap.size s3 q ((nz p k).map fun j => (lg m (p j).val : Int)) ∧ Own64 wx W.heap.size s4 q (intsN (nz p k)) ∧ ∀ x, s3.ownBlock = some x → s4.ownBlock ≠ some x) ∧ Below W.heap.size W wx)
  case atStart => exact ⟨0, 0, rfl, Nat.zero_le _, rfl, rfl, Nat.le_refl _, ⟨Own64.nil W _, Own64.nil W _, fun x hx => by cases hx⟩, Below.refl _ _⟩
  case round =>
    obtain ⟨k, q, hg, hk, rfl, HQ, hq, HO, hB⟩ := hrel
    have HG := Lib.hid hg
    clear hg
    obtain ⟨hch, hB0⟩ := HW.out wr hB
    obtain ⟨c0, c1, c2, c3⟩ := hch.cells
    obtain ⟨x3, y3, e3⟩ := own_slice HO.out.1
    obtain ⟨x4, y4, e4⟩ := own_slice HO.out.2.1
    subst e3 e4
    by_cases hlt : k < n
    · have u1 : (k : Int) < (n : Int) := by omega
      have u2 : (0 : Int) ≤ (k : Int) := by omega
      obtain ⟨bb, off, rfl, cc, _⟩ := (HF.out.2.1.row.below hB0).row k hlt
      rw [nums_at _ _ _ hlt] at cc
      have hf := HF.out.1.below M.lo hB0
      have hzz : el m (zn (p k)) = (p k).val := congrArg Subtype.val (elm_zn (p k))
      have HI1 : Hid (k + 1 ≤ n) := hlt
      have HBk := Lib.hid hB
      by_cases h0 : p k = 0
      · have hnz : nz p (k + 1) = nz p k := by
          unfold nz
          rw [hits_succ, show (!decide (p k = 0)) = false by simp [h0]]
          exact List.append_nil _
        have HNZ := Lib.hid hnz
        have hl := log_zero M.lo M.hi (zn (p k)) wr hf (by rw [hzz, h0]; rfl) y (HF.out.2.2.1.below hB0).1
        generalize zn (p k) = z at cc hl
        clear hnz h0 hzz hf hlt hB hB0 hch
        go_wp2_with fail
        refine hl.mono ?_
        rintro e w5 ⟨rfl, d⟩
        have HN : Hid (Own64 w5 W.heap.size (.slice x3 q y3) q ((nz p k).map fun j => (lg m (p j).val : Int)) ∧ Own64 w5 W.heap.size (.slice x4 q y4) q (intsN (nz p k)) ∧ ∀ x, (Value.slice x3 q y3).ownBlock = some x → (Value.slice x4 q y4).ownBlock ≠ some x) := by
          obtain ⟨nd, rfl⟩ := d
          exact HO.out
        have hB5 := HBk.out.trans (d.below _)
        clear d hl cc c0 c1 c2 c3
        go_wp2_with fail
        go_roundg (n - (k + 1))
        case measure => have := HG.out; have := HI1.out; omega
        case rel => exact ⟨k + 1, q, rfl, HI1.out, by go_num, by rw [HNZ.out]; exact HQ, by omega, by rw [HNZ.out]; exact HN, hB5⟩
      · have hnz : nz p (k + 1) = nz p k ++ [k] := by
          unfold nz
          rw [hits_succ, show (!decide (p k = 0)) = true by simp [h0]]
          rfl
        have HNZ := Lib.hid hnz
        have hl := log_any M.lo M.hi (zn (p k)) wr hf (by rw [hzz]; exact fun e => h0 (El.ext e))
        rw [hzz] at hl
        have hm1 : ((nz p (k + 1)).map fun j => (lg m (p j).val : Int)) = ((nz p k).map fun j => (lg m (p j).val : Int)) ++ [(lg m (p k).val : Int)] := by rw [hnz, List.map_append]; rfl
        have hm2 : intsN (nz p (k + 1)) = intsN (nz p k) ++ [(k : Int)] := by rw [hnz]; simp [intsN]
        have HM := Lib.hid (And.intro hm1 hm2)
        obtain ⟨L1, hL1⟩ : ∃ L1, L1 = ((nz p k).map fun j => (lg m (p j).val : Int)) := ⟨_, rfl⟩
        obtain ⟨L2, hL2⟩ : ∃ L2, L2 = intsN (nz p k) := ⟨_, rfl⟩
        rw [← hL1, ← hL2] at HO HM
        generalize zn (p k) = z at cc hl
        generalize (lg m (p k).val : Int) = lz at hl HM
        have hbs := HBk.out.size
        have ho3 := HO.out.1
        have ho4 := HO.out.2.1
        have hap := HO.out.2.2
        have hb4 : ∀ x, (Value.slice x4 q y4).ownBlock = some x → x < wr.heap.size := fun x hx => (ho4.block x hx).2
        clear hnz h0 hzz hf hlt hB hB0 hch hm1 hm2 hL1 hL2 HO
        go_wp2_with fail
        refine hl.mono ?_
        rintro e w5 ⟨rfl, rfl⟩
        clear hl
        have hH := Lib.hid (And.intro hap hb4)
        clear hap hb4
        go_wp2_with (first
          | (at_builtin; refine wpList_append_lies _ rfl _ _ 65 rfl W.heap.size 3 i0 (.int .i64 0) 1 8 Tryz.underlying65 hi hz0 hz1 hz2 rfl (by decide) (.slice x3 q y3) q (cells64 L1) rfl (World.ownsRow.alloc ho3 _) ⟨wr.heap.size, 0, none⟩ 1 1 [.int .i64 lz] rfl rfl (cell_one_new _ _ _) (ints_oneCell .i64 [_]) (by decide) (by unfold maxLen; omega) (by omega) (by simp; omega) _ rfl ?_; intro g3 cap3 w5 hown3 hgrow3 hat3 hlt3; have ho4' : Own64 w5 W.heap.size (.slice x4 q y4) q L2 := (ho4.keep fun x hx => (hgrow3.block x (by have := hH.out.2 x hx; simp; omega) (fun e => hH.out.1 x e.symm hx)).trans (Below.heap_alloc wr _ x (hH.out.2 x hx))); have hs5 : W.heap.size ≤ w5.heap.size := Nat.le_trans hbs (Nat.le_trans (by simp) hgrow3.size))
          | (at_builtin; refine wpList_append_lies _ rfl _ _ 65 rfl W.heap.size 3 i0 (.int .i64 0) 1 8 Tryz.underlying65 hi hz0 hz1 hz2 rfl (by decide) (.slice x4 q y4) q (cells64 L2) rfl (World.ownsRow.alloc ho4' _) ⟨w5.heap.size, 0, none⟩ 1 1 [.int .i64 (k : Int)] rfl rfl (cell_one_new _ _ _) (ints_oneCell .i64 [_]) (by decide) (by unfold maxLen; omega) (by omega) (by simp; omega) _ rfl ?_; intro g4 cap4 w6 hown4 hgrow4 hat4 hlt4))
        have hne : (Value.slice x4 q y4).ownBlock ≠ some g3 := by
          rcases hat3 with h | h
          · exact hH.out.1 _ h
          · intro hx
            have := hH.out.2 _ hx
            rw [h] at this
            simp at this
            omega
        have hne4 : g3 ≠ g4 := by
          rintro rfl
          rcases hat4 with h | h
          · exact hne h
          · rw [h, World.size_alloc] at hlt3; omega
        have b5 : Below W.heap.size wr w5 := ((Below.refl W.heap.size wr).alloc hbs _).grown hgrow3 (Nat.le_trans hbs (by simp)) (fun x hx => (ho3.block x hx).1)
        have b6 : Below W.heap.size w5 w6 := ((Below.refl W.heap.size w5).alloc hs5 _).grown hgrow4 (Nat.le_trans hs5 (by simp)) (fun x hx => (ho4'.block x hx).1)
        have HN : Hid ((Own64 w6 W.heap.size (.slice (some ⟨g3, 0, none⟩) (q + 1) cap3) (q + 1) ((nz p (k + 1)).map fun j => (lg m (p j).val : Int)) ∧ Own64 w6 W.heap.size (.slice (some ⟨g4, 0, none⟩) (q + 1) cap4) (q + 1) (intsN (nz p (k + 1))) ∧ ∀ x, (Value.slice (some ⟨g3, 0, none⟩) (q + 1) cap3).ownBlock = some x → (Value.slice (some ⟨g4, 0, none⟩) (q + 1) cap4).ownBlock ≠ some x) ∧ Below W.heap.size W w6) := by
          refine ⟨⟨?_, ?_, ?_⟩, HBk.out.trans (b5.trans b6)⟩
          · rw [HM.out.1]
            have h3 : Own64 w5 W.heap.size (.slice (some ⟨g3, 0, none⟩) (q + 1) cap3) (q + 1) (L1 ++ [lz]) := by unfold Own64; rw [← cells64_append]; exact hown3
            refine h3.keep fun x hx => ?_
            simp only [Value.ownBlock, Option.some.injEq] at hx
            subst hx
            exact (hgrow4.block _ (by simp; omega) (fun e => hne e.symm)).trans (Below.heap_alloc w5 _ _ hlt3)
          · rw [HM.out.2]
            unfold Own64; rw [← cells64_append]; exact hown4
          · intro x h1 h2
            simp only [Value.ownBlock, Option.some.injEq] at h1 h2
            omega
        have HQ2 : Hid (q + 1 = (nz p (k + 1)).length) := by show _ = _; rw [HNZ.out, List.length_append, ← HQ.out]; rfl
        clear hne hne4 b5 b6 hown3 hown4 hgrow3 hgrow4 hat3 hat4 hlt3 hlt4 ho3 ho4 ho4' hH HM
        go_wp2_with fail
        go_roundg (n - (k + 1))
        case measure => have := HG.out; have := HI1.out; omega
        case rel => exact ⟨k + 1, q + 1, rfl, HI1.out, by go_num, HQ2, by omega, HN.out.1, HN.out.2⟩
    · obtain rfl : k = n := by omega
      obtain ⟨L, hL⟩ : ∃ L, L = nz p k := ⟨_, rfl⟩
      have HL := Lib.hid hL
      have hlg : ((nz p k).map fun j => (lg m (p j).val : Int)) = lgs p L 0 0 := by rw [hL, lgs_zero]
      rw [hlg, ← hL] at HO
      rw [← hL] at HQ
      have hfr : Fr B [] ol W wr := ⟨hB.os, hB.tape, hB.output, hB.size, fun x _ hx => hB.block x hx⟩
      have hO0 := HOO.out.1 _ _ _ _ H0.out hfr
      have hlt3 : ∀ x, (Value.slice x3 q y3).ownBlock = some x → W.heap.size ≤ x ∧ x < wr.heap.size := HO.out.1.block
      have hlt4 : ∀ x, (Value.slice x4 q y4).ownBlock = some x → W.heap.size ≤ x ∧ x < wr.heap.size := HO.out.2.1.block
      have hol := HOO.out.2.2 _ _ _ H0.out
      have H1 : Hid (∃ ol', O (List.range 0) ol' wr ∧ (∀ x ∈ ol', w0.heap.size ≤ x ∧ x ≠ cb) ∧ (∀ x, (Value.slice x3 q y3).ownBlock = some x → x ∉ ol') ∧ (∀ x, (Value.slice x4 q y4).ownBlock = some x → x ∉ ol') ∧ chB wr cb g s a k c nn ∧ Below w0.heap.size w0 wr ∧ Own64 wr W.heap.size (.slice x3 q y3) q (lgs p L 0 0) ∧ Own64 wr W.heap.size (.slice x4 q y4) q (intsN L)) := by
        refine ⟨ol, hO0, HC.out.2.2, fun x hx h => ?_, fun x hx h => ?_, hch, hB0, HO.out.1, HO.out.2.1⟩
        · have := (hlt3 x hx).1; have := hol x h; omega
        · have := (hlt4 x hx).1; have := hol x h; omega
      have HAP := Lib.hid HO.out.2.2
      obtain ⟨NN, hNN⟩ : ∃ NN, NN = nn.toNat := ⟨_, rfl⟩
      have HNN := Lib.hid hNN
      have hNN2 : NN ≤ 16383 := by omega
      have hqn : q ≤ 2048 := by omega
      have HHB := Lib.hid hB
      have hnnz : (nn ≤ 0 ∧ NN = 0) ∨ nn = (NN : Int) := by omega
      clear hL hlg hfr hO0 hlt3 hlt4 hol HO hB hch hB0 HG hlt hk hNN
      go_wp2_with fail
      clear c0 c1 c2 c3
      go_loopg [41] NN (fun gh s41 wx => ∃ i : Nat, gh = NN - i ∧ i ≤ NN ∧ s41 = .int .i64 (i : Int) ∧ Hid (∃ ol', O (List.range i) ol' wx ∧ (∀ x ∈ ol', w0.heap.size ≤ x ∧ x ≠ cb) ∧ (∀ x, (Value.slice x3 q y3).ownBlock = some x → x ∉ ol') ∧ (∀ x, (Value.slice x4 q y4).ownBlock = some x → x ∉ ol') ∧ chB wx cb g s a k c nn ∧ Below w0.heap.size w0 wx ∧ Own64 wx W.heap.size (.slice x3 q y3) q (lgs p L i 0) ∧ Own64 wx W.heap.size (.slice x4 q y4) q (intsN L)))
      case atStart => exact ⟨0, rfl, Nat.zero_le _, rfl, H1⟩
      case round =>
        clear H1
        obtain ⟨i, hg, hi2, rfl, HI⟩ := hrel
        have HG2 := Lib.hid hg
        clear hg
        obtain ⟨W5, hW5⟩ : ∃ W5, W5 = wr := ⟨_, rfl⟩
        rw [← hW5] at HI ⊢
        clear hW5
        by_cases hlt : i < NN
        · have v1 : (i : Int) < nn := by omega
          have hii : i + 1 ≤ NN := hlt
          clear hlt
          obtain ⟨ol', hOi, hol', hn3, hn4, hch, hB0, ho3, ho4⟩ := HI.out
          have c3 := hch.cells.2.2.2
          have HI0 : Hid (O (List.range i) ol' W5 ∧ chB W5 cb g s a k c nn ∧ Below w0.heap.size w0 W5 ∧ Own64 W5 W.heap.size (.slice x3 q y3) q (lgs p L i 0) ∧ Own64 W5 W.heap.size (.slice x4 q y4) q (intsN L)) := ⟨hOi, hch, hB0, ho3, ho4⟩
          have HN3 := Lib.hid (And.intro hol' (And.intro hn3 hn4))
          clear hOi hol' hn3 hn4 hch hB0 ho3 ho4 HI
          go_wp2_with fail
          clear c3
          go_loopg [10, 46] q (fun gh s10 s46 wx => ∃ j : Nat, gh = q - j ∧ j ≤ q ∧ s46 = .int .i64 (j : Int) ∧ s10 = .int .i64 (zn (tsum p (pt m i) (L.take j))) ∧ Hid (O (List.range i) ol' wx ∧ chB wx cb g s a k c nn ∧ Below w0.heap.size w0 wx ∧ Own64 wx W.heap.size (.slice x3 q y3) q (lgs p L i j) ∧ Own64 wx W.heap.size (.slice x4 q y4) q (intsN L)))
          case atStart => exact ⟨0, rfl, Nat.zero_le _, rfl, rfl, HI0⟩
          case round =>
            clear HI0
            obtain ⟨j, hg, hj, rfl, rfl, HJ⟩ := hrel
            have HG3 := Lib.hid hg
            clear hg
            by_cases hlt : j < q
            · have z1 : (j : Int) < (q : Int) := by omega
              have z2 : (0 : Int) ≤ (j : Int) := by omega
              obtain ⟨hOi, hch, hB0, ho3, ho4⟩ := HJ.out
              have hjl : j < L.length := by rw [← HQ.out]; exact hlt
              obtain ⟨g3, cap3, e3, hb3, hl3, hc3, hcell3⟩ := ho3.cells (by omega)
              simp only [Value.slice.injEq] at e3
              obtain ⟨rfl, _, rfl⟩ := e3
              obtain ⟨g4, cap4, e4, hb4, hl4, hc4, hcell4⟩ := ho4.cells (by omega)
              simp only [Value.slice.injEq] at e4
              obtain ⟨rfl, _, rfl⟩ := e4
              have cc3 := hcell3 j hlt
              have ff3 := own_free ho3 j
              have cc4 := hcell4 j hlt
              rw [intsN_at L j hjl] at cc4
              have elg : nth64 (lgs p L i j) j = lgt p i (L.getD j 0) := lgs_at p L i j j hjl (Nat.le_refl _)
              rw [elg] at cc3
              obtain ⟨d1, d1e⟩ : ∃ d1, d1 = hch.cells.2.1 := ⟨_, rfl⟩
              have k1 := hch.cells.2.1
              have hmem : L.getD j 0 ∈ nz p k := by
                rw [← HL.out, List.getD_eq_getElem?_getD, List.getElem?_eq_getElem hjl]
                exact List.getElem_mem hjl
              have hjk := (hits_mem.1 hmem).1
              have hpj : p (L.getD j 0) ≠ 0 := by
                have := (hits_mem.1 hmem).2
                simpa using this
              have hex := fexp_any M.lo M.hi (lgt p i (L.getD j 0)) wr (HF.out.1.below M.lo hB0)
              have hez : h (pwZ m (lgt p i (L.getD j 0))) = zn (p (L.getD j 0) * pwK (pt m i) (L.getD j 0)) := by
                rw [← lgt_exp hpj i]; rfl
              rw [hez] at hex
              have hx := zn_add (tsum p (pt m i) (L.take j)) (p (L.getD j 0) * pwK (pt m i) (L.getD j 0))
              have htk : L.take (j + 1) = L.take j ++ [L.getD j 0] := by
                rw [List.take_add_one, List.getElem?_eq_getElem hjl, List.getD_eq_getElem?_getD, List.getElem?_eq_getElem hjl]; rfl
              rw [← tsum_snoc, ← htk] at hx
              have hset := lgs_set p L i j
              obtain ⟨lv, hlv⟩ : ∃ lv, lv = lgt p i (L.getD j 0) := ⟨_, rfl⟩
              obtain ⟨jj, hjj⟩ : ∃ jj, jj = L.getD j 0 := ⟨_, rfl⟩
              have hij : i * jj ≤ 16383 * 2048 := Nat.mul_le_mul (by omega) (by rw [hjj]; omega)
              have hlgm : lg m (p jj).val < size m := (lg_spec m M.lo M.hi _ (p jj).2 (fun e => hpj (by rw [← hjj]; exact El.ext e))).1
              have hsz := size_hi m M.hi
              have hlv2 : lv = (lg m (p jj).val : Int) - ((i * jj : Nat) : Int) := by rw [hlv, ← hjj]; unfold lgt; rw [Int.natCast_mul]
              have b1 : -40000000 ≤ lv := by omega
              have b2 : lv ≤ 16383 := by omega
              have b3 : (jj : Int) ≤ 2048 := by rw [hjj]; omega
              have b4 : (0 : Int) ≤ (jj : Int) := by omega
              have HSt : Hid (O (List.range i) ol' (wr.setCell ⟨g3, j, none⟩ (.int .i64 (lv - (jj : Int)))) ∧ chB (wr.setCell ⟨g3, j, none⟩ (.int .i64 (lv - (jj : Int)))) cb g s a k c nn ∧ Below w0.heap.size w0 (wr.setCell ⟨g3, j, none⟩ (.int .i64 (lv - (jj : Int)))) ∧ Own64 (wr.setCell ⟨g3, j, none⟩ (.int .i64 (lv - (jj : Int)))) W.heap.size (.slice (some ⟨g3, 0, none⟩) q y3) q (lgs p L i (j + 1)) ∧ Own64 (wr.setCell ⟨g3, j, none⟩ (.int .i64 (lv - (jj : Int)))) W.heap.size (.slice (some ⟨g4, 0, none⟩) q y4) q (intsN L)) := by
                have hwW := HF.out.2.2.2.size
                refine ⟨HOO.out.1 _ _ _ _ hOi (Fr.setCell _ _ _ (fun h => absurd h (by show ¬ g3 < B; omega)) (HN3.out.2.1 g3 rfl)), (Below.heap_setCell _ _ _ _ (by show cb ≠ g3; omega)).trans hch, hB0.setCell (by show _ ≤ g3; omega) _, ?_, ?_⟩
                · rw [← hset, ← hlv, ← hjj]
                  exact own_store ho3 j hlt _
                · refine ho4.keep fun x hx' => Below.heap_setCell _ _ _ _ ?_
                  simp only [Value.ownBlock, Option.some.injEq] at hx'
                  subst hx'
                  intro h
                  exact HAP.out g3 rfl (by rw [show (Value.slice (some ⟨g4, 0, none⟩) q y4).ownBlock = some g4 from rfl, h])
              have HJ1 : Hid (j + 1 ≤ q) := hlt
              rw [← hlv] at cc3 hex
              rw [← hjj] at cc4
              have HT2 : Hid (zn (tsum p (pt m i) (L.take (j + 1))) = zn (tsum p (pt m i) (L.take (j + 1)))) := rfl
              generalize zn (p (L.getD j 0) * pwK (pt m i) (L.getD j 0)) = q1 at hex hx
              generalize zn (tsum p (pt m i) (L.take j)) = q2 at hx ⊢
              generalize hq3 : zn (tsum p (pt m i) (L.take (j + 1))) = q3 at hx
              have HQ3 := Lib.hid hq3
              clear d1e d1 hOi hch hB0 ho3 ho4 hcell3 hcell4 elg hmem hpj hez htk hset hlv hjj hij hlgm hsz hlv2 hq3 HT2 HJ hb3 hb4 hl3 hl4 hc3 hc4 hlt hjk hjl
              go_wp2_with fail
              refine hex.mono ?_
              rintro e w6 ⟨rfl, rfl⟩
              clear hex
              go_wp2_with fail
              go_roundg (q - (j + 1))
              case measure => have := HG3.out; have := HJ1.out; omega
              case rel => exact ⟨j + 1, rfl, HJ1.out, by go_num, by rw [HQ3.out], HSt⟩
            · obtain rfl : j = q := by omega
              obtain ⟨hOi, hch, hB0, ho3, ho4⟩ := HJ.out
              have hHQ := HQ.out
              have etk : L.take j = L := by rw [hHQ]; exact List.take_length
              have ev1 : tsum p (pt m i) (L.take j) = ev k p (pt m i) := by rw [etk, HL.out]; exact tsum_nz _ _ _
              rw [ev1]
              have elg : lgs p L i j = lgs p L (i + 1) 0 := by rw [hHQ]; exact lgs_all p L i
              rw [elg] at ho3
              obtain ⟨fn, tmps, assign, body, hy, hR⟩ := HYY.out (List.range i) i ol' wr hOi ⟨rfl, by omega⟩
              have HR := Lib.hid hR
              have HK := Lib.hid (And.intro hOi (And.intro hch (And.intro hB0 (And.intro ho3 ho4))))
              clear hOi hch hB0 ho3 ho4 hR ev1 etk elg hHQ HJ hlt
              go_upto_region 18 with (fail)
              refine (wpIn_wide (n := nf)).1 ?_
              gi_wp2
              refine ⟨fun e => by simp [Fence.wide] at e, (roundIn_wide HR.out).mono ?_⟩
              rintro e W6 ⟨ol2, ht, (⟨rfl, hO6⟩ | ⟨rfl, cx, hO6⟩)⟩
              · obtain ⟨hOi, hch, hB0, ho3, ho4⟩ := HK.out
                obtain ⟨hol, hn3, hn4⟩ := HN3.out
                have hsz := HF.out.2.2.2.size
                have hck : cb < wr.heap.size := lt_of_block hch
                have hw0 : w0.heap.size ≤ wr.heap.size := hB0.size
                have HZ : Hid (∃ ol', O (List.range (i + 1)) ol' W6 ∧ (∀ x ∈ ol', w0.heap.size ≤ x ∧ x ≠ cb) ∧ (∀ x, (Value.slice x3 j y3).ownBlock = some x → x ∉ ol') ∧ (∀ x, (Value.slice x4 j y4).ownBlock = some x → x ∉ ol') ∧ chB W6 cb g s a k c nn ∧ Below w0.heap.size w0 W6 ∧ Own64 W6 W.heap.size (.slice x3 j y3) j (lgs p L (i + 1) 0) ∧ Own64 W6 W.heap.size (.slice x4 j y4) j (intsN L)) := by
                  have hnew : ∀ x, x < wr.heap.size → x ∉ ol' → x ∉ ol2 := fun x hx hm hm2 => by
                    rcases ht.new x hm2 with h | h
                    · exact hm h
                    · omega
                  refine ⟨ol2, by rw [List.range_succ]; exact hO6, fun x hx => ?_, fun x hx => hnew x (ho3.block x hx).2 (hn3 x hx), fun x hx => hnew x (ho4.block x hx).2 (hn4 x hx), (ht.same cb hck (fun hm => (hol _ hm).2 rfl)).trans hch, ?_, ho3.keep fun x hx => ht.same x (ho3.block x hx).2 (hn3 x hx), ho4.keep fun x hx => ht.same x (ho4.block x hx).2 (hn4 x hx)⟩
                  · rcases ht.new x hx with h | h
                    · exact hol x h
                    · omega
                  · exact hB0.trans { os := ht.os, tape := ht.tape, output := ht.output, size := ht.size, block := fun x hx => ht.same x (by omega) fun hm => by have := (hol x hm).1; omega }
                clear hOi hch hB0 ho3 ho4 hol hn3 hn4 ht hO6 hsz hck hw0 hy HR HK
                gi_wp2
                go_wp2_with fail
                go_roundg (NN - (i + 1))
                case measure => have := HG2.out; omega
                case rel => exact ⟨i + 1, rfl, hii, by go_num, HZ⟩
              · have HX := Lib.hid hO6
                clear hy HR HK hO6
                gi_wp2
                go_wp2_with fail
                refine bodyPost_ret (results_none rfl _ _ _) rfl ?_
                exact ⟨⟨_, rfl⟩, .inr ⟨List.range (i + 1), cx, ol2, ⟨i + 1, by rw [← HNN.out]; exact hii, rfl⟩, by rw [List.range_succ]; exact HX.out⟩⟩
        · obtain rfl : i = NN := by omega
          have v1 : ¬ (i : Int) < nn := by omega
          obtain ⟨ol', hOi, hol', hn3, hn4, hch, hB0, ho3, ho4⟩ := HI.out
          have c3 := hch.cells.2.2.2
          have HX := Lib.hid hOi
          clear hOi hol' hn3 hn4 hch hB0 ho3 ho4 hlt
          go_wp2_with fail
          go_end0
          exact ⟨⟨_, rfl⟩, .inl ⟨ol', by rw [← HNN.out]; exact HX.out⟩⟩
end
end Go.Proofs.YtdhcigiaidlmbaaGreatDoor.Sea
/- The places at which package search's ways find 0. By the verifier of shale. -/
namespace Go.Proofs.YtdhcigiaidlmbaaGreatDoor.Sea
open Go Go.RowKit Pl Fld Bits16 Loc Go.Shelf
set_option linter.unusedVariables false
attribute [local go_sem] Oper.semAt_some
section
variable {m : Nat} [M : Mid m]
/-- what the loop's body holds: the places so far, in a box of its own. -/
def RtI (w0 : World) (p : Ser (El m)) (n lb B : Nat) (pre : List Nat) (bl : List Nat) (W : World) : Prop :=
  ∃ (x : Option Addr) (k y : Nat), bl = lb :: (Value.slice x k y).ownBlock.toList ∧ Box W lb (.slice x k y) 65 ∧ k = (pre.filter (zAt p n)).length ∧ Own64 W B (.slice x k y) k (intsN (pre.filter (zAt p n))) ∧ Below w0.heap.size w0 W ∧ w0.heap.size ≤ lb ∧ lb < B ∧ B ≤ W.heap.size
theorem RtI.fr {w0 : World} {p : Ser (El m)} {n lb B : Nat} {pre bl : List Nat} {X Y : World} (h : RtI w0 p n lb B pre bl X) (hB : w0.heap.size ≤ B) (f : Fr B [] bl X Y) : RtI w0 p n lb B pre bl Y := by
  obtain ⟨x, k, y, rfl, b, hk, o, hw, h1, h2, h3⟩ := h
  refine ⟨x, k, y, rfl, (f.same lb (.inr (List.mem_cons_self ..)) (lt_of_block b)).trans b, hk, o.keep fun z hz => f.same z (.inr (by simp [hz])) (o.block z hz).2, hw.trans { os := f.os, tape := f.tape, output := f.output, size := f.size, block := fun z hz => f.same z (.inl ⟨by omega, by simp⟩) (by have := hw.size; omega) }, h1, h2, Nat.le_trans h3 f.size⟩
theorem RtI.lt {w0 : World} {p : Ser (El m)} {n lb B : Nat} {pre bl : List Nat} {X : World} (h : RtI w0 p n lb B pre bl X) : ∀ k ∈ bl, k < X.heap.size := by
  obtain ⟨x, k, y, rfl, b, hk, o, hw, h1, h2, h3⟩ := h
  intro z hz
  rcases List.mem_cons.1 hz with rfl | hz
  · exact lt_of_block b
  · exact (o.block z (by simpa using hz)).2
theorem rt_skip {w0 : World} {p : Ser (El m)} {n lb B x : Nat} {pre bl : List Nat} {X : World} (h : RtI w0 p n lb B pre bl X) (hx : zAt p n x = false) : RtI w0 p n lb B (pre ++ [x]) bl X := by
  obtain ⟨a, k, y, rfl, b, hk, o, hw, h1, h2, h3⟩ := h
  have e : (pre ++ [x]).filter (zAt p n) = pre.filter (zAt p n) := by simp [hx]
  refine ⟨a, k, y, rfl, b, by rw [e]; exact hk, by rw [e]; exact o, hw, h1, h2, h3⟩
theorem filter_snoc {p : Ser (El m)} {n x : Nat} {pre : List Nat} (hx : zAt p n x = true) : (pre ++ [x]).filter (zAt p n) = pre.filter (zAt p n) ++ [x] := by simp [hx]
theorem rt_add {w0 : World} {p : Ser (El m)} {n lb B x k y : Nat} {a : Option Addr} {pre : List Nat} {W W5 : World} {v : Value} {ob : Obj} (hx : zAt p n x = true) (hb : Box W lb (.slice a k y) 65) (hk : k = (pre.filter (zAt p n)).length) (ho : Own64 W B (.slice a k y) k (intsN (pre.filter (zAt p n)))) (hw : Below w0.heap.size w0 W) (h1 : w0.heap.size ≤ lb) (h2 : lb < B) (hB : B ≤ W.heap.size)
    (hown : W5.ownsRow B 3 1 v (k + 1) (cells64 (intsN (pre.filter (zAt p n))) ++ [.int .i64 (x : Int)])) (hgrow : (W.alloc ob).grownBy W5 (Value.slice a k y).ownBlock) (hat : v.ownBlock = (Value.slice a k y).ownBlock ∨ v.ownBlock = some (W.alloc ob).heap.size) :
    Tn (lb :: (Value.slice a k y).ownBlock.toList) W (W5.setCell ⟨lb, 0, none⟩ v) (lb :: v.ownBlock.toList) ∧ RtI w0 p n lb B (pre ++ [x]) (lb :: v.ownBlock.toList) (W5.setCell ⟨lb, 0, none⟩ v) := by
  have hlW := lt_of_block hb
  have hbel : Below B W W5 := ((Below.refl B W).alloc hB _).grown hgrow (by rw [World.size_alloc]; omega) (fun x hx => (ho.block x hx).1)
  have hsame : ∀ z, z < W.heap.size → z ∉ (Value.slice a k y).ownBlock.toList → W5.heap[z]? = W.heap[z]? := fun z hz hn => (hgrow.block z (by rw [World.size_alloc]; omega) (fun e => hn (by simp [← e]))).trans (Below.heap_alloc W _ z hz)
  have hlb5 : Box W5 lb (.slice a k y) 65 := (hbel.block lb h2).trans hb
  have ho5 : Own64 W5 B v (k + 1) (intsN ((pre ++ [x]).filter (zAt p n))) := by
    rw [filter_snoc hx, show intsN (pre.filter (zAt p n) ++ [x]) = intsN (pre.filter (zAt p n)) ++ [(x : Int)] by simp [intsN]]
    unfold Own64; rw [← cells64_append]; exact hown
  obtain ⟨av, cv, rfl⟩ := own_slice ho5
  refine ⟨⟨hbel.os, hbel.tape, hbel.output, by show W.heap.size ≤ (World.setCell _ _ _).heap.size; simp [World.setCell]; exact hbel.size, fun z hz hn => ?_, fun z hz => ?_⟩, av, k + 1, cv, rfl, hlb5.put _, by rw [filter_snoc hx, List.length_append, ← hk]; rfl, ?_, (hw.trans (hbel.mono (by omega))).setCell h1 _, h1, h2, by simp [World.setCell]; have := hbel.size; omega⟩
  · rw [List.mem_cons, not_or] at hn
    exact (Below.heap_setCell _ _ _ _ hn.1).trans (hsame z hz hn.2)
  · rcases List.mem_cons.1 hz with rfl | hz
    · exact .inl (List.mem_cons_self ..)
    · rcases hat with h | h
      · exact .inl (List.mem_cons_of_mem _ (by rw [← h]; exact hz))
      · rw [h] at hz
        simp only [Option.toList_some, List.mem_singleton] at hz
        rw [World.size_alloc] at hz
        exact .inr (by omega)
  · exact ho5.keep fun z hz => Below.heap_setCell _ _ _ _ (by have := (ho5.block z hz).1; show z ≠ lb; omega)
theorem zAt_eq {p : Ser (El m)} {n x : Nat} {z : Int} (hz : z = zn (ev n p (pt m x))) : zAt p n x = (z == 0) := by rw [hz]; rfl
set_option maxRecDepth 100000 in
set_option maxHeartbeats 2000000 in
theorem roots_steps {K : Nat} {w : World} {s be ce bl g : Nat} {a : Option Addr} {n c : Nat} {p : Ser (El m)} {nn : Int} {y : Addr} (F : FldAt m w s be ce bl) (R : RingAt m w g s be ce bl) (P : NV m w K a n c p) (hn : n ≤ 2048) (hnn : nn ≤ 16383) (E : ErrAt w 9 y) :
    Calls Tryz.prog 179 #[chV g s a n c nn, .func (.func 180) #[] #[]] w fun e w' => ∃ v k pre, e = .returned v ∧ Own64 w' w.heap.size v k (intsN (pre.filter (zAt p n))) ∧ Below w.heap.size w w' ∧ (pre = List.range nn.toNat ∨ ∃ j, j ≤ nn.toNat ∧ pre = List.range j ∧ 0 < n ∧ (pre.filter (zAt p n)).length = n - 1) := by
  obtain ⟨i0, hi, hz0, hz1, hz2⟩ := info64
  refine (callsIn_wide (n := 3)).1 ?_
  refine callsIn_of_wp_marks Tryz.func179 rfl trivial ?_ rfl
  simp only [Tryz.ntmps179, List.size_toArray, List.length_cons, List.length_nil, Nat.reduceAdd, Nat.reduceSub, Array.replicate_succ, Array.replicate_zero, List.push_toArray, List.append_toArray, List.nil_append, List.cons_append]
  refine wpIn_wide.2 ?_
  go_wp2_with fail
  obtain ⟨w1, hw1⟩ : ∃ w1, w1 = ((w.alloc (.cells #[.pointer (some ⟨g, 0, none⟩), .pointer (some ⟨s, 0, none⟩), .slice a n c, .int .i64 nn] 231 (0, 0))).alloc (.cells #[.slice none 0 0] 65)) := ⟨_, rfl⟩
  rw [← hw1]
  have hs1 : w1.heap.size = w.heap.size + 2 := by rw [hw1]; simp
  have hb1 : Below w.heap.size w w1 := by rw [hw1]; exact ((Below.refl _ _).alloc (Nat.le_refl _) _).alloc (by simp) _
  have hc1 : chB w1 w.heap.size g s a n c nn := by rw [hw1]; exact (Below.heap_alloc _ _ _ (by simp)).trans (heap_alloc_new w _)
  have hl1 : Box w1 (w.heap.size + 1) (.slice none 0 0) 65 := by
    rw [hw1]
    have := heap_alloc_new (w.alloc (.cells #[.pointer (some ⟨g, 0, none⟩), .pointer (some ⟨s, 0, none⟩), .slice a n c, .int .i64 nn] 231 (0, 0))) (.cells #[.slice none 0 0] 65)
    rwa [World.size_alloc] at this
  clear hw1
  refine (steps_any g s a n c nn w1).mono ?_
  rintro e w2 ⟨rfl, hcb, hb2⟩
  have hl2 : Box w2 (w.heap.size + 1) (.slice none 0 0) 65 := (hb2.block _ (by omega)).trans hl1
  have hc2 : chB w2 w.heap.size g s a n c nn := (hb2.block _ (by omega)).trans hc1
  have hb := hb1.trans (hb2.mono hb1.size)
  have hlt2 : w1.heap.size < w2.heap.size := lt_of_block hcb
  have HF := Lib.hid (And.intro F (And.intro P (And.intro E R)))
  have H2 := Lib.hid (And.intro hl2 (And.intro hc2 (And.intro hb (And.intro hcb (And.intro hlt2 hs1)))))
  obtain ⟨cb, hcbe⟩ : ∃ cb, cb = w1.heap.size := ⟨_, rfl⟩
  have HCB := Lib.hid hcbe
  rw [← hcbe]
  clear hl1 hc1 hb1 hb2 hl2 hc2 hb hcb hlt2 hs1 F P E R hcbe
  go_wp2_with fail
  refine wpIn_wide.1 (range_sep (n := 3) (gf := 194) (lb := #[.pointer (some ⟨cb, 0, none⟩)]) rfl (enters_of Tryz.func194 (by kernel_rfl) rfl)
    (encs := encP p n) (fun _ => rfl) (V := (fun pre x => pre = List.range x ∧ x < nn.toNat)) [] (C := Finds w cb g s a n c nn)
    (fun pre bl W => RtI w p n (w.heap.size + 1) w2.heap.size pre bl W ∧ chB W w.heap.size g s a n c nn)
    (fun cde pre bl W => cde = .exit 0 ∧ (RtI w p n (w.heap.size + 1) w2.heap.size pre bl W ∧ chB W w.heap.size g s a n c nn) ∧ 0 < n ∧ (pre.filter (zAt p n)).length = n - 1)
    ?_ ?_ ?_ (bl0 := [w.heap.size + 1]) ?_ ?_
    (steps_iter 2 w2.heap.size HF.out.1 HF.out.2.1 hn hnn HF.out.2.2.1)
    (fun x => { tmps := #[chV g s a n c nn, .func (.func 180) #[] #[], .pointer (some ⟨w.heap.size, 0, none⟩), undef, .slice none 0 0, .pointer (some ⟨w.heap.size + 1, 0, none⟩), .int .i64 (x : Int), .int .i64 (zn (ev n p (pt m x))), .func (.func 180) #[] #[], chV g s a n c nn, .func (.func 194) #[] #[.pointer (some ⟨cb, 0, none⟩)], .int .i64 (x : Int), .int .i64 (zn (ev n p (pt m x))), undef, undef, undef, undef, undef, undef, undef, undef, undef, undef, undef, undef, undef, undef, undef, undef, undef, undef, undef, undef], defers := [] }) ?_ ?_ ?_ ?_)
  · rintro pre bl X Y ⟨h1, h2⟩ f
    have := H2.out.2.2.2.2
    exact ⟨h1.fr (by omega) f, (f.same _ (.inl ⟨by omega, by simp⟩) (lt_of_block h2)).trans h2⟩
  · rintro cde pre bl X Y ⟨h0, ⟨h1, h2⟩, h3⟩ f
    have := H2.out.2.2.2.2
    exact ⟨h0, ⟨h1.fr (by omega) f, (f.same _ (.inl ⟨by omega, by simp⟩) (lt_of_block h2)).trans h2⟩, h3⟩
  · rintro pre bl X ⟨h1, _⟩
    exact h1.lt
  · have := H2.out.2.2.2.2
    exact ⟨⟨none, 0, 0, rfl, H2.out.1, rfl, Own64.nil _ _, H2.out.2.2.1, by omega, by omega, Nat.le_refl _⟩, H2.out.2.1⟩
  · intro W hW
    have h2 := H2.out
    have hcbe := HCB.out
    refine ⟨h2.2.2.1.trans (hW.mono h2.2.2.1.size), (hW.block _ (by rw [hcbe]; exact h2.2.2.2.2.1)).trans (by rw [hcbe]; exact h2.2.2.2.1), by omega, fun k hk => ?_⟩
    simp only [List.mem_cons, List.not_mem_nil, or_false] at hk
    omega
  · intro l x W K hK
    gi_wp2
    exact hK
  · rintro l pre bl x W ⟨hi', hc⟩ hV
    have hlen : pre.length < nn.toNat := by rw [hV.1, List.length_range]; exact hV.2
    clear hV
    have hii := hi'
    obtain ⟨xa, k, y', rfl, hb, hk, ho, hw, h1, h2, hwB⟩ := hii
    have g1 := hb.cell
    have g2 := hb.free
    have g3 := hc.cells.2.2.1
    obtain ⟨z, hz⟩ : ∃ z, z = zn (ev n p (pt m x)) := ⟨_, rfl⟩
    have HZ := Lib.hid (zAt_eq hz)
    show Code.wpIn _ _ _ _ _ ({ tmps := #[chV g s a n c nn, .func (.func 180) #[] #[], .pointer (some ⟨w.heap.size, 0, none⟩), undef, .slice none 0 0, .pointer (some ⟨w.heap.size + 1, 0, none⟩), .int .i64 (x : Int), .int .i64 (zn (ev n p (pt m x))), .func (.func 180) #[] #[], chV g s a n c nn, .func (.func 194) #[] #[.pointer (some ⟨cb, 0, none⟩)], .int .i64 (x : Int), .int .i64 (zn (ev n p (pt m x))), undef, undef, undef, undef, undef, undef, undef, undef, undef, undef, undef, undef, undef, undef, undef, undef, undef, undef, undef, undef], defers := [] }) _
    rw [← hz]
    clear hz
    have hkl : k ≤ pre.length := by rw [hk]; exact List.length_filter_le _ _
    have hk16 : k ≤ 16383 := by omega
    have HI := Lib.hid (And.intro hi' (And.intro hc (And.intro hw (And.intro h1 (And.intro h2 (And.intro hb hk))))))
    have HL := Lib.hid hlen
    clear hi' hc hw h1 h2 hb hlen
    by_cases hzz : z = 0
    · have hzb : (z == 0) = true := by simp [hzz]
      have hx : Hid (zAt p n x = true) := by show _ = _; rw [HZ.out]; exact hzb
      have HK := Lib.hid hk
      clear hk
      by_cases hn0 : 0 < n
      · by_cases hs : (k : Int) + 1 = (n : Int) - 1
        · have hs2 : ((k : Int) + 1 == (n : Int) - 1) = true := by simp [hs]
          have HS := Lib.hid hs
          clear hs
          gi_wp2_with (first
            | (gi_at_builtin; refine wpListIn_append_own_at _ rfl _ _ 65 rfl w2.heap.size 3 i0 (.int .i64 0) 1 8 Tryz.underlying65 hi hz0 hz1 hz2 rfl (by decide) (.slice xa k y') k (cells64 (intsN (pre.filter (zAt p n)))) rfl (World.ownsRow.alloc ho _) ⟨W.heap.size, 0, none⟩ 1 1 [.int .i64 (x : Int)] rfl rfl (cell_one_new _ _ _) (ints_oneCell .i64 [_]) (by unfold maxLen; omega) (by omega) (by rw [World.size_alloc]; omega) ?_; intro v' w5 hown hgrow hnil hat; have hadd := rt_add hx.out HI.out.2.2.2.2.2.1 HI.out.2.2.2.2.2.2 ho HI.out.2.2.1 HI.out.2.2.2.1 HI.out.2.2.2.2.1 hwB hown hgrow hat; obtain ⟨av, cv, rfl⟩ := own_slice (show Own64 w5 w2.heap.size v' (k + 1) (intsN (pre.filter (zAt p n)) ++ [(x : Int)]) by unfold Own64; rw [← cells64_append]; exact hown); have HB5 : Hid (Below w2.heap.size W w5) := (((Below.refl w2.heap.size W).alloc hwB _).grown hgrow (by rw [World.size_alloc]; omega) (fun x hx => (ho.block x hx).1)); have b5 : Box w5 (w.heap.size + 1) (.slice xa k y') 65 := (HB5.out.block _ HI.out.2.2.2.2.1).trans HI.out.2.2.2.2.2.1; have g4 := b5.free; have g8 := b5.cell; have c6 : chB (w5.setCell ⟨w.heap.size + 1, 0, none⟩ (.slice av (k + 1) cv)) w.heap.size g s a n c nn := (Below.heap_setCell _ _ _ _ (by show w.heap.size ≠ w.heap.size + 1; omega)).trans ((HB5.out.block _ (by have := HI.out.2.2.2.2.1; omega)).trans HI.out.2.1); have g5 := (b5.put (.slice av (k + 1) cv)).cell; have g6 := c6.cells.2.2.1; have g7 := (chB.cells ((HB5.out.block _ (by have := HI.out.2.2.2.2.1; omega)).trans HI.out.2.1 : chB w5 w.heap.size g s a n c nn)).2.2.1; have HA := Lib.hid (And.intro hadd c6); clear g1 g2 g3 hadd c6 b5 hown hgrow hnil hat ho)
            | fail)
          exact ⟨_, HA.out.1.1, rfl, ⟨HA.out.1.2, HA.out.2⟩, hn0, by rw [filter_snoc hx.out, List.length_append, ← HK.out]; have := HS.out; show k + 1 = n - 1; omega⟩
        · have hs2 : ((k : Int) + 1 == (n : Int) - 1) = false := by simp [hs]
          have HS := Lib.hid hs
          clear hs
          gi_wp2_with (first
            | (gi_at_builtin; refine wpListIn_append_own_at _ rfl _ _ 65 rfl w2.heap.size 3 i0 (.int .i64 0) 1 8 Tryz.underlying65 hi hz0 hz1 hz2 rfl (by decide) (.slice xa k y') k (cells64 (intsN (pre.filter (zAt p n)))) rfl (World.ownsRow.alloc ho _) ⟨W.heap.size, 0, none⟩ 1 1 [.int .i64 (x : Int)] rfl rfl (cell_one_new _ _ _) (ints_oneCell .i64 [_]) (by unfold maxLen; omega) (by omega) (by rw [World.size_alloc]; omega) ?_; intro v' w5 hown hgrow hnil hat; have hadd := rt_add hx.out HI.out.2.2.2.2.2.1 HI.out.2.2.2.2.2.2 ho HI.out.2.2.1 HI.out.2.2.2.1 HI.out.2.2.2.2.1 hwB hown hgrow hat; obtain ⟨av, cv, rfl⟩ := own_slice (show Own64 w5 w2.heap.size v' (k + 1) (intsN (pre.filter (zAt p n)) ++ [(x : Int)]) by unfold Own64; rw [← cells64_append]; exact hown); have HB5 : Hid (Below w2.heap.size W w5) := (((Below.refl w2.heap.size W).alloc hwB _).grown hgrow (by rw [World.size_alloc]; omega) (fun x hx => (ho.block x hx).1)); have b5 : Box w5 (w.heap.size + 1) (.slice xa k y') 65 := (HB5.out.block _ HI.out.2.2.2.2.1).trans HI.out.2.2.2.2.2.1; have g4 := b5.free; have g8 := b5.cell; have c6 : chB (w5.setCell ⟨w.heap.size + 1, 0, none⟩ (.slice av (k + 1) cv)) w.heap.size g s a n c nn := (Below.heap_setCell _ _ _ _ (by show w.heap.size ≠ w.heap.size + 1; omega)).trans ((HB5.out.block _ (by have := HI.out.2.2.2.2.1; omega)).trans HI.out.2.1); have g5 := (b5.put (.slice av (k + 1) cv)).cell; have g6 := c6.cells.2.2.1; have g7 := (chB.cells ((HB5.out.block _ (by have := HI.out.2.2.2.2.1; omega)).trans HI.out.2.1 : chB w5 w.heap.size g s a n c nn)).2.2.1; have HA := Lib.hid (And.intro hadd c6); clear g1 g2 g3 hadd c6 b5 hown hgrow hnil hat ho)
            | fail)
          exact ⟨_, HA.out.1.1, HA.out.1.2, HA.out.2⟩
      · gi_wp2_with (first
          | (gi_at_builtin; refine wpListIn_append_own_at _ rfl _ _ 65 rfl w2.heap.size 3 i0 (.int .i64 0) 1 8 Tryz.underlying65 hi hz0 hz1 hz2 rfl (by decide) (.slice xa k y') k (cells64 (intsN (pre.filter (zAt p n)))) rfl (World.ownsRow.alloc ho _) ⟨W.heap.size, 0, none⟩ 1 1 [.int .i64 (x : Int)] rfl rfl (cell_one_new _ _ _) (ints_oneCell .i64 [_]) (by unfold maxLen; omega) (by omega) (by rw [World.size_alloc]; omega) ?_; intro v' w5 hown hgrow hnil hat; have hadd := rt_add hx.out HI.out.2.2.2.2.2.1 HI.out.2.2.2.2.2.2 ho HI.out.2.2.1 HI.out.2.2.2.1 HI.out.2.2.2.2.1 hwB hown hgrow hat; obtain ⟨av, cv, rfl⟩ := own_slice (show Own64 w5 w2.heap.size v' (k + 1) (intsN (pre.filter (zAt p n)) ++ [(x : Int)]) by unfold Own64; rw [← cells64_append]; exact hown); have HB5 : Hid (Below w2.heap.size W w5) := (((Below.refl w2.heap.size W).alloc hwB _).grown hgrow (by rw [World.size_alloc]; omega) (fun x hx => (ho.block x hx).1)); have b5 : Box w5 (w.heap.size + 1) (.slice xa k y') 65 := (HB5.out.block _ HI.out.2.2.2.2.1).trans HI.out.2.2.2.2.2.1; have g4 := b5.free; have g8 := b5.cell; have c6 : chB (w5.setCell ⟨w.heap.size + 1, 0, none⟩ (.slice av (k + 1) cv)) w.heap.size g s a n c nn := (Below.heap_setCell _ _ _ _ (by show w.heap.size ≠ w.heap.size + 1; omega)).trans ((HB5.out.block _ (by have := HI.out.2.2.2.2.1; omega)).trans HI.out.2.1); have g5 := (b5.put (.slice av (k + 1) cv)).cell; have g6 := c6.cells.2.2.1; have g7 := (chB.cells ((HB5.out.block _ (by have := HI.out.2.2.2.2.1; omega)).trans HI.out.2.1 : chB w5 w.heap.size g s a n c nn)).2.2.1; have HA := Lib.hid (And.intro hadd c6); clear g1 g2 g3 hadd c6 b5 hown hgrow hnil hat ho)
          | fail)
        exact ⟨_, HA.out.1.1, HA.out.1.2, HA.out.2⟩
    · have hzb : (z == 0) = false := by simp [hzz]
      have hx : Hid (zAt p n x = false) := by show _ = _; rw [HZ.out]; exact hzb
      have HK := Lib.hid hk
      clear hk
      by_cases hn0 : 0 < n
      · by_cases hs : (k : Int) = (n : Int) - 1
        · have hs2 : ((k : Int) == (n : Int) - 1) = true := by simp [hs]
          have HS := Lib.hid hs
          clear hs
          gi_wp2
          exact ⟨_, Tn.refl _ _, rfl, ⟨rt_skip HI.out.1 hx.out, HI.out.2.1⟩, hn0, by rw [show (pre ++ [x]).filter (zAt p n) = pre.filter (zAt p n) by simp [hx.out], ← HK.out]; have := HS.out; omega⟩
        · have hs2 : ((k : Int) == (n : Int) - 1) = false := by simp [hs]
          have HS := Lib.hid hs
          clear hs
          gi_wp2
          exact ⟨_, Tn.refl _ _, rt_skip HI.out.1 hx.out, HI.out.2.1⟩
      · gi_wp2
        exact ⟨_, Tn.refl _ _, rt_skip HI.out.1 hx.out, HI.out.2.1⟩
  · intro D xs bl W hD hDl hDb hS hi' hdef
    obtain ⟨⟨xa, k, y', rfl, hb, hk, ho, hw, h1, h2, hwB⟩, hc⟩ := hi'
    have g1 := hb.cell
    have HX := Lib.hid (And.intro hk (And.intro ho (And.intro hw (And.intro hc (And.intro hS (And.intro hD hDb))))))
    clear hk ho hw hc hS hD hDb
    go_wp2
    obtain ⟨hk, ho, hw, hc, hS, hD, hDb⟩ := HX.out
    refine ⟨by simp, .inl ⟨_, _, rfl, run_takeDeferred hdef, ?_⟩⟩
    exact ⟨_, results_tmp rfl _ _ _, _, k, xs, rfl, own_from ((ho.keep fun z hz => World.putObj_heap_other (fun e => hDb (by rw [← e]; simp [hz])))) (by omega), hw.trans ⟨rfl, rfl, rfl, by simp, fun z hz => World.putObj_heap_other (by have := hw.size; omega)⟩, .inl hS⟩
  · intro D cde pre bl W hD hDl hDb hS hix hdef
    obtain ⟨rfl, ⟨⟨xa, k, y', rfl, hb, hk, ho, hw, h1, h2, hwB⟩, hc⟩, hn0, hlen⟩ := hix
    have g1 := hb.cell
    have HX := Lib.hid (And.intro hk (And.intro ho (And.intro hw (And.intro hc (And.intro hS (And.intro hD hDb))))))
    clear hk ho hw hc hS hD hDb
    gi_wp2
    go_wp2_with fail
    obtain ⟨hk, ho, hw, hc, hS, hD, hDb⟩ := HX.out
    refine ⟨by simp, .inl ⟨_, _, rfl, run_takeDeferred hdef, ?_⟩⟩
    exact ⟨_, results_tmp rfl _ _ _, _, k, pre, rfl, own_from ((ho.keep fun z hz => World.putObj_heap_other (fun e => hDb (by rw [← e]; simp [hz])))) (by omega), hw.trans ⟨rfl, rfl, rfl, by simp, fun z hz => World.putObj_heap_other (by have := hw.size; omega)⟩, .inr ⟨_, hS.choose_spec.1, hS.choose_spec.2, hn0, hlen⟩⟩
end
end Go.Proofs.YtdhcigiaidlmbaaGreatDoor.Sea
/- The contracts of package search: of, Search, Plain, Steps. By the verifier of shale. -/
namespace Go.Proofs.YtdhcigiaidlmbaaGreatDoor.Sea
open Go Go.RowKit Pl Fld Bits16 Loc
set_option linter.unusedVariables false
section
variable {m : Nat} [M : Mid m]
theorem trimB {g s be ce bl : Nat} {w : World} {k : Nat} {a : Option Addr} {n c : Nat} {p : Ser (El m)} (R : RingAt m w g s be ce bl) (h1 : PV m w k a n c p) (hK2 : k ≤ 2048) :
    Calls Tryz.prog 185 #[.pointer (some ⟨g, 0, none⟩), .slice a n c] w fun e w' => ∃ t, e = .returned (.slice (some ⟨w.heap.size, 0, none⟩) t t) ∧ Blk64 w' w.heap.size (nums p t) ∧ (∀ X, Blk64 X w.heap.size (nums p t) → NV m X k (some ⟨w.heap.size, 0, none⟩) t t p) ∧ Below w.heap.size w w' := by
  have hb := h1.bd
  have hn := h1.bdn
  have ht := top_of h1
  have hle := top_le p k
  obtain ⟨l1, r1, rfl, n1⟩ := h1
  refine (trim_any a n c l1 w R r1 (by omega)).mono ?_
  rintro e w1 ⟨rfl, hB, b⟩
  refine ⟨_, rfl, hB, fun X hX => ⟨?_, top_bd hn, top_full hn rfl, by rw [ht]; exact hle⟩, b⟩
  have hr := Blk64.row hX _ (by rw [nums_length]; exact Nat.le_refl _) (by rw [nums_length]; omega)
  rw [nums_take _ (Nat.le_refl _), nums_length] at hr
  exact hr
set_option maxRecDepth 100000 in
set_option maxHeartbeats 1000000 in
theorem seaOf_any {s be ce bl : Nat} {K : Nat} {a : Option Addr} {n c : Nat} {p : Ser (El m)} (nn : Int) (w : World) (F : FldAt m w s be ce bl) (P : PV m w K a n c p) (hK : K ≤ 2048) :
    Calls Tryz.prog 178 #[.pointer (some ⟨s, 0, none⟩), .slice a n c, .int .i64 nn] w fun e w' => ∃ g a' n' c', e = .returned (chV g s a' n' c' (min nn (size m : Int))) ∧ RingAt m w' g s be ce bl ∧ NV m w' K a' n' c' p ∧ Below w.heap.size w w' := by
  have hn : n ≤ K := by obtain ⟨_, _, _, h3⟩ := P; exact h3
  have x3 : n ≤ c := by obtain ⟨_, r, _⟩ := P; exact r.hcap
  have hz := size_hi m M.hi
  have he := els_eq m
  have x1 : ¬ 2048 < n := by omega
  have x9 : min (n : Int) 2048 = (n : Int) := by omega
  have x2 : (els m : Int) - 1 = (size m : Int) := by omega
  have HM : Hid (min nn (size m : Int) = if (size m : Int) < nn then (size m : Int) else nn) := by show _ = _; split <;> omega
  have HF := Lib.hid (And.intro F P)
  clear F P he
  go_enter Tryz.func178, Tryz.ntmps178
  go_wp2_with fail
  obtain ⟨w1, hw1⟩ : ∃ w1, w1 = w.alloc (.cells #[.pointer none, .pointer none, .slice none 0 0, .int .i64 0] 231 (0, 0)) := ⟨_, rfl⟩
  have b1 : Below w.heap.size w w1 := by rw [hw1]; exact (Below.refl _ _).alloc (Nat.le_refl _) _
  have h1 : w1.heap[w.heap.size]? = some (.cells #[.pointer none, .pointer none, .slice none 0 0, .int .i64 0] 231 (0, 0)) := by rw [hw1]; exact heap_alloc_new w _
  rw [← hw1]
  clear hw1
  refine (pnew_any w1 (HF.out.1.below M.lo b1)).mono ?_
  rintro e w2 ⟨g, rfl, R, b2⟩
  have h2 : w2.heap[w.heap.size]? = some (.cells #[.pointer none, .pointer none, .slice none 0 0, .int .i64 0] 231 (0, 0)) := (b2.block _ (lt_of_block h1)).trans h1
  have B2 := b1.trans (b2.mono b1.size)
  have HR := Lib.hid (And.intro R (And.intro B2 h2))
  clear R b1 b2 B2 h1 h2
  go_wp2_with fail
  refine (trimB HR.out.1 (HF.out.2.below HR.out.2.1) hK).mono ?_
  rintro e w3 ⟨t3, rfl, K3, N3, b3⟩
  have B3 := HR.out.2.1.trans (b3.mono HR.out.2.1.size)
  have h3 := (b3.block _ (lt_of_block HR.out.2.2)).trans HR.out.2.2
  have R3 := HR.out.1.below b3
  obtain ⟨kk, hkk⟩ : ∃ kk, kk = w2.heap.size := ⟨_, rfl⟩
  have hne : w.heap.size ≠ kk := by have := lt_of_block HR.out.2.2; omega
  rw [← hkk] at K3 N3 ⊢
  have H3 := Lib.hid (And.intro N3 (And.intro R3 (And.intro B3 (And.intro K3 hne))))
  have H4 := Lib.hid h3
  clear N3 R3 b3 B3 h3 K3 hkk hne
  have hmin := HM.out.symm
  go_wp2_with fail
  refine (size_any w3 H3.out.2.1.2).mono ?_
  rintro e w4 ⟨rfl, rfl⟩
  have h4 := H4.out
  have hc0 : w3.cell? ⟨w.heap.size, 0, none⟩ = some (.pointer none) := by unfold World.cell?; simp only; rw [h4]; rfl
  have hc1 : w3.cell? ⟨w.heap.size, 1, none⟩ = some (.pointer none) := by unfold World.cell?; simp only; rw [h4]; rfl
  have hc2 : w3.cell? ⟨w.heap.size, 2, none⟩ = some (.slice none 0 0) := by unfold World.cell?; simp only; rw [h4]; rfl
  have hc3 : w3.cell? ⟨w.heap.size, 3, none⟩ = some (.int .i64 0) := by unfold World.cell?; simp only; rw [h4]; rfl
  have hf0 : ∀ i, w3.frozen? ⟨w.heap.size, i, none⟩ = false := fun i => by unfold World.frozen?; simp only; rw [h4]; rfl
  have f0 := hf0 0
  have f1 := hf0 1
  have f2 := hf0 2
  have f3 := hf0 3
  clear h4 hf0
  go_wp2_with fail
  obtain ⟨w5, hw5⟩ : ∃ w5, w5 = ((((w3.setCell ⟨w.heap.size, 0, none⟩ (.pointer (some ⟨g, 0, none⟩))).setCell ⟨w.heap.size, 1, none⟩ (.pointer (some ⟨s, 0, none⟩))).setCell ⟨w.heap.size, 2, none⟩ (.slice (some ⟨kk, 0, none⟩) t3 t3)).setCell ⟨w.heap.size, 3, none⟩ (.int .i64 (min nn (size m : Int)))) := ⟨_, rfl⟩
  rw [← hw5]
  have h5 : chB w5 w.heap.size g s (some ⟨kk, 0, none⟩) t3 t3 (min nn (size m : Int)) := by
    rw [hw5]
    exact heap_setCell_same _ _ 3 _ _ _ (heap_setCell_same _ _ 2 _ _ _ (heap_setCell_same _ _ 1 _ _ _ (heap_setCell_same _ _ 0 _ _ _ H4.out)))
  have o5 : ∀ z, z ≠ w.heap.size → w5.heap[z]? = w3.heap[z]? := fun z hz => by
    rw [hw5]
    exact (((Below.heap_setCell _ _ _ _ hz).trans (Below.heap_setCell _ _ _ _ hz)).trans (Below.heap_setCell _ _ _ _ hz)).trans (Below.heap_setCell _ _ _ _ hz)
  have B5 : Below w.heap.size w w5 := by
    rw [hw5]
    exact (((H3.out.2.2.1.setCell (Nat.le_refl _) _).setCell (Nat.le_refl _) _).setCell (Nat.le_refl _) _).setCell (Nat.le_refl _) _
  obtain ⟨k0, k1, k2, k3⟩ := h5.cells
  have hg : g ≠ w.heap.size := fun e => by
    have h := H3.out.2.1.1
    rw [e, H4.out] at h
    cases h
  have R5 : RingAt m w5 g s be ce bl := ⟨(o5 g hg).trans H3.out.2.1.1, HF.out.1.below M.lo B5⟩
  have N5 := H3.out.1 w5 ((o5 kk H3.out.2.2.2.2.symm).trans H3.out.2.2.2.1)
  exact bodyPost_ret (v := chV g s (some ⟨kk, 0, none⟩) t3 t3 (min nn (size m : Int))) (by simp [results, Tryz.results178, go_sem, k0, k1, k2, k3]) rfl ⟨g, _, _, _, rfl, R5, N5, B5⟩
end
end Go.Proofs.YtdhcigiaidlmbaaGreatDoor.Sea
/- The contracts of package search's Search, Plain, Steps. By the verifier of shale. -/
namespace Go.Proofs.YtdhcigiaidlmbaaGreatDoor.Sea
open Go Go.RowKit Pl Fld Bits16 Loc
set_option linter.unusedVariables false
section
variable {m : Nat} [M : Mid m]
/-- how many places are gone through. -/
def lim (m : Nat) (nn : Int) : Nat := (min nn (size m : Int)).toNat
theorem lim_le (m : Nat) (nn : Int) : lim m nn ≤ size m := by unfold lim; omega
theorem zAt_more {p : Ser (El m)} {n k : Nat} (h : Bd p n) (hk : n ≤ k) : zAt p k = zAt p n := funext fun i => by
  unfold zAt; rw [ev_more _ n k p h hk]
/-- what a way finds is all that there is. -/
theorem found {w : World} {K : Nat} {a : Option Addr} {n c : Nat} {p : Ser (El m)} (P : NV m w K a n c p) {nn : Int} {pre : List Nat} (h : pre = List.range (min nn (size m : Int)).toNat ∨ ∃ j, j ≤ (min nn (size m : Int)).toNat ∧ pre = List.range j ∧ 0 < n ∧ (pre.filter (zAt p n)).length = n - 1) : pre.filter (zAt p n) = hits (zAt p K) (lim m nn) := by
  rw [zAt_more P.bd P.le]
  rcases h with rfl | ⟨j, hj, rfl, h0, hl⟩
  · rfl
  · obtain ⟨N, rfl⟩ : ∃ N, n = N + 1 := ⟨n - 1, by omega⟩
    have hd : Dg p N := dg_top P.bd (by rw [P.top])
    exact (hits_stop (f := zAt p (N + 1)) (d := N) (k := j) (n := lim m nn) hj hl (hits_few hd (lim_le m nn))).symm
set_option maxRecDepth 100000 in
set_option maxHeartbeats 1000000 in
theorem search_any {s be ce bl : Nat} {K : Nat} {a : Option Addr} {n c : Nat} {p : Ser (El m)} {y : Addr} (nn : Int) (w : World) (F : FldAt m w s be ce bl) (P : PV m w K a n c p) (hK : K ≤ 2048) (E : ErrAt w 9 y) :
    Calls Tryz.prog 157 #[.pointer (some ⟨s, 0, none⟩), .slice a n c, .int .i64 nn] w fun e w' => ∃ v k, e = .returned v ∧ Own64 w' w.heap.size v k (intsN (hits (zAt p K) (lim m nn))) ∧ Below w.heap.size w w' := by
  have hz := size_hi m M.hi
  have HF := Lib.hid (And.intro F (And.intro P E))
  clear F P E
  go_enter Tryz.func157, Tryz.ntmps157
  go_wp2_with fail
  refine (seaOf_any nn w HF.out.1 HF.out.2.1 hK).mono ?_
  rintro e w1 ⟨g, a', n', c', rfl, R, N, b1⟩
  have hn := N.le
  have HR := Lib.hid (And.intro R (And.intro N b1))
  clear R N b1
  go_wp2_with fail
  refine (roots_steps (HF.out.1.below M.lo HR.out.2.2) HR.out.1 HR.out.2.1 (by omega) (by omega) (HF.out.2.2.below HR.out.2.2)).mono ?_
  rintro e w2 ⟨v, k, pre, rfl, o, b2, hp⟩
  have HO : Hid (Own64 w2 w.heap.size v k (intsN (hits (zAt p K) (lim m nn))) ∧ Below w.heap.size w w2) := by
    refine ⟨?_, HR.out.2.2.trans (b2.mono HR.out.2.2.size)⟩
    rw [found HR.out.2.1 hp] at o
    exact own_from o HR.out.2.2.size
  clear o b2 hp
  go_wp2_with fail
  go_ret
  exact ⟨v, k, rfl, HO.out.1, HO.out.2⟩
end
end Go.Proofs.YtdhcigiaidlmbaaGreatDoor.Sea
/- The field of a statement of chapter 9, its examples. By the verifier of shale. -/
namespace Go.Proofs.YtdhcigiaidlmbaaGreatDoor.Sea
open Go Go.RowKit Pl Fld Bits16 Loc
set_option linter.unusedVariables false
/-- the m that a statement makes of any number. -/
def mk9 (z : Int) : Nat := (z % 6).toNat + 3
instance (z : Int) : Mid (mk9 z) := ⟨by unfold mk9; omega, by unfold mk9; omega⟩
def MadeAt (m : Nat) (w : World) (e : Ending) (w' : World) : Prop := ∃ s be ce bl, e = .returned (.tuple #[.pointer (some ⟨s, 0, none⟩), .int .i64 (m : Int)]) ∧ FldAt m w' s be ce bl ∧ Below w.heap.size w w'
section
variable {m : Nat} [M : Mid m]
/-- Search, its answer a list handed on. -/
theorem searchZ {s be ce bl : Nat} {K : Nat} {a : Option Addr} {n c : Nat} {p : Ser (El m)} {y : Addr} (nn : Int) (w : World) (F : FldAt m w s be ce bl) (P : PV m w K a n c p) (hK : K ≤ 2048) (E : ErrAt w 9 y) :
    Calls Tryz.prog 157 #[.pointer (some ⟨s, 0, none⟩), .slice a n c, .int .i64 nn] w fun e w' => ∃ a' c', e = .returned (.slice a' (hits (zAt p K) (lim m nn)).length c') ∧ RowZ w' a' (hits (zAt p K) (lim m nn)).length c' (intsN (hits (zAt p K) (lim m nn))) ∧ Below w.heap.size w w' := by
  refine (search_any nn w F P hK E).mono ?_
  rintro e w1 ⟨v, k, rfl, o, b⟩
  obtain ⟨av, cv, rfl⟩ := own_slice o
  obtain rfl : k = (hits (zAt p K) (lim m nn)).length := by have := o.len; rw [← this]; simp [intsN]
  exact ⟨av, cv, rfl, (own_rowz o).1, b⟩
end
end Go.Proofs.YtdhcigiaidlmbaaGreatDoor.Sea
/- Small words for the laws of chapter 9. By the verifier of shale. -/
namespace Go.Proofs.YtdhcigiaidlmbaaGreatDoor.Sea
open Go Go.RowKit Pl Fld Bits16 Loc
set_option linter.unusedVariables false
section
variable {m : Nat} [M : Mid m]
end
section
variable {m : Nat} [M : Mid m]
theorem exK_pow (z : Int) : ∀ i : Nat, pwK (exK m z) i = exK m (z * (i : Int))
  | 0 => by rw [show z * ((0 : Nat) : Int) = 0 by simp, exK_zero]; rfl
  | i + 1 => by
    show exK m z * pwK (exK m z) i = _
    rw [exK_pow z i, exK_mul]
    congr 1
    rw [Int.natCast_succ, Int.mul_add]; omega
end
section
variable {m : Nat} [M : Mid m]
theorem pt_inv (i : Nat) : pt m i = (exK m (i : Int))⁻¹ := inv_unique (by
  unfold pt
  rw [exK_mul, show (i : Int) + -(i : Int) = 0 by omega, exK_zero])
theorem exK_nat {i j : Nat} (hi : i < size m) (hj : j < size m) (e : exK m (i : Int) = exK m (j : Int)) : i = j := by
  refine pw_inj m M.lo M.hi i j hi hj ?_
  rw [← pwZ_nat m M.lo M.hi i, ← pwZ_nat m M.lo M.hi j]
  exact congrArg Subtype.val e
/-- the polynomial of places is 0 just there. -/
theorem lam_at {l : List Nat} (hl : ∀ p ∈ l, p < size m) {K i : Nat} (hK : l.length + 1 ≤ K) (hi : i < size m) : zAt (lamZ m (intsN l)) K i = decide (i ∈ l) := by
  have hne : ∀ a ∈ (intsN l).map (exK m), a ≠ 0 := fun a ha => by
    obtain ⟨z, _, rfl⟩ := List.mem_map.1 ha
    exact exK_ne z
  have hlen : ((intsN l).map (exK m)).length = l.length := by simp [intsN]
  have hb : Bd (lamZ m (intsN l)) (l.length + 1) := by
    have := lamZ_bd (m := m) (intsN l)
    rwa [show (intsN l).length = l.length by simp [intsN]] at this
  rw [zAt_more hb hK]
  refine Bool.eq_iff_iff.2 ?_
  rw [zAt_iff, pt_inv]
  have h := lam_root hne (b := exK m (i : Int)) (exK_ne _)
  rw [hlen] at h
  refine h.trans ?_
  rw [decide_eq_true_iff]
  constructor
  · intro hm
    obtain ⟨z, hz, e⟩ := List.mem_map.1 hm
    obtain ⟨p, hp, rfl⟩ := List.mem_map.1 hz
    have := exK_nat (hl p hp) hi e
    rwa [← this]
  · intro hm
    exact List.mem_map.2 ⟨(i : Int), List.mem_map.2 ⟨i, hm, rfl⟩, rfl⟩
theorem hits_same {f g : Nat → Bool} {n : Nat} (h : ∀ i, i < n → f i = g i) : hits f n = hits g n := by
  unfold hits
  exact List.filter_congr fun i hi => h i (List.mem_range.1 hi)
end
end Go.Proofs.YtdhcigiaidlmbaaGreatDoor.Sea
