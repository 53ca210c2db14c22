/- The walks over package crc's sums: what they answer, and what they do to memory. By the verifier of shale. -/
import Derived.Test.YtfcmhlmllcpkmaaDoorRows
import Derived.Test.YtfcmhlmllcpkmaaDoorBits
import Derived.Test.YtfcmhlmllcpkmaaDoorCrcMath
import Derived.Test.YtfcmhlmllcpkmaaDoorMem
import Derived.WalkKit
import Derived.WalkSpells
import Derived.WalkLawsBesides
import Derived.OneCell
import Derived.Deep.LoopGhost
namespace Go.Proofs.YtfcmhlmllcpkmaaDoor.Crc
open Go Go.RowKit

section
attribute [local go_sem] Bits32.xor Bits32.xor8 Bits32.and15 Bits32.and1 Bits32.andMsb Bits32.xorPoly Bits32.xorOnes 
attribute [local go_sem high] Bits32.shr1 Bits32.shr4 Bits32.shl1

/-- The table of package crc is as its text lays it. -/
def Tab (w : World) : Prop := ∀ x : BitVec 32, w.cell? ⟨1, (Bits32.u (x &&& 15#32)).toNat, none⟩ = some (.int .u32 (Bits32.u (ups 4 (x &&& 15#32))))

/-- Block s of the heap is a Sum with that state. -/
def IsSum (w : World) (s : Nat) (a : BitVec 32) : Prop := w.heap[s]? = some (.cells #[.int .u32 (Bits32.u a)] 65 (0, 0))
theorem IsSum.put {w : World} {s : Nat} {a : BitVec 32} (h : IsSum w s a) (c : BitVec 32) : IsSum (w.setCell ⟨s, 0, none⟩ (.int .u32 (Bits32.u c))) s c := one_setCell h

set_option maxHeartbeats 400000 in
theorem byte_any (a : BitVec 32) (c : BitVec 8) (s : Nat) (w : World) (hs : IsSum w s a) (ht : Tab w) :
    Calls Tryd.prog 42 #[.pointer (some ⟨s, 0, none⟩), .int .u8 (Bits32.b c)] w fun e w' => e = .returned (.tuple #[]) ∧ w.setCell ⟨s, 0, none⟩ (.int .u32 (Bits32.u (step a c))) = w' := by
  have c0 := cell_of_one hs
  have f0 := free_of_one hs
  have H : Hid (_ = step a c) := step_of a c
  have l1 := Bits32.b_lo c
  have l2 := Bits32.b_hi c
  have k1 := ht (a ^^^ c.setWidth 32)
  have m1 := Bits32.u_lo ((a ^^^ c.setWidth 32) &&& 15#32)
  have n1 := Bits32.and15_lt (a ^^^ c.setWidth 32)
  have k2 := ht (((a ^^^ c.setWidth 32) >>> 4) ^^^ ups 4 ((a ^^^ c.setWidth 32) &&& 15#32))
  have m2 := Bits32.u_lo ((((a ^^^ c.setWidth 32) >>> 4) ^^^ ups 4 ((a ^^^ c.setWidth 32) &&& 15#32)) &&& 15#32)
  have n2 := Bits32.and15_lt (((a ^^^ c.setWidth 32) >>> 4) ^^^ ups 4 ((a ^^^ c.setWidth 32) &&& 15#32))
  clear hs ht
  go_enter Tryd.func42, Tryd.ntmps42
  go_wp2
  go_end0
  exact ⟨rfl, by rw [H.out]⟩

set_option maxHeartbeats 400000 in
theorem new_any (w : World) :
    Calls Tryd.prog 37 #[] w fun e w' => e = .returned (.pointer (some ⟨w.heap.size, 0, none⟩)) ∧ IsSum w' w.heap.size ones ∧ Below w.heap.size w w' := by
  go_enter Tryd.func37, Tryd.ntmps37
  go_wp2
  go_ret
  exact ⟨rfl, heap_alloc_new w _, (Below.refl _ _).alloc (Nat.le_refl _) _⟩

set_option maxHeartbeats 400000 in
theorem value_any (a : BitVec 32) (s : Nat) (w : World) (hs : IsSum w s a) :
    Calls Tryd.prog 39 #[.pointer (some ⟨s, 0, none⟩)] w fun e w' => e = .returned (.int .i64 (Bits32.u (a ^^^ ones))) ∧ w = w' := by
  have c0 := cell_of_one hs
  have l5 := Bits32.u_lo (a ^^^ 4294967295#32)
  have l6 := Bits32.u_hi (a ^^^ 4294967295#32)
  clear hs
  go_enter Tryd.func39, Tryd.ntmps39
  go_wp2
  go_ret
  exact ⟨rfl, rfl⟩

theorem Tab.only {w w' : World} {s : Nat} (h : Tab w) (o : Only s w w') (hs : 1 ≠ s) : Tab w' := fun x => (o.cell (p := ⟨1, _, none⟩) hs).trans (h x)
theorem Tab.below {w w' : World} {B : Nat} (h : Tab w) (o : Below B w w') (hs : 1 < B) : Tab w' := fun x => (o.cell (p := ⟨1, _, none⟩) hs).trans (h x)
theorem Tab.lt {w : World} (h : Tab w) : 1 < w.heap.size := World.block_lt_of_cell? w _ (h 0)

theorem st_take (a : BitVec 32) (l : List (BitVec 8)) (k : Nat) (h : k < l.length) : st a (l.take (k + 1)) = step (st a (l.take k)) (nth8 l k) := by
  unfold nth8; rw [List.take_succ_eq_append_getElem h, st_snoc, List.getD_eq_getElem?_getD, List.getElem?_eq_getElem h]; rfl

set_option maxHeartbeats 400000 in
theorem hand_some (a : BitVec 32) (l : List (BitVec 8)) (s bb off cap : Nat) (w : World) (hs : IsSum w s a) (ht : Tab w) (hr : Row8 w bb off l) (h1 : bb ≠ s) (h2 : 1 ≠ s) (hl : l.length ≤ maxLen) :
    Calls Tryd.prog 41 #[.slice (some ⟨bb, off, none⟩) l.length cap, .func (.func 42) #[.pointer (some ⟨s, 0, none⟩)] #[]] w fun e w' =>
      e = .returned (.tuple #[]) ∧ IsSum w' s (st a l) ∧ Only s w w' := by
  unfold maxLen at hl
  go_enter Tryd.func41, Tryd.ntmps41
  go_wp2
  go_loopg [8] l.length (fun g s8 wx => ∃ k : Nat, k ≤ l.length ∧ g = l.length - k ∧ s8 = .int .i64 (k : Int) ∧ IsSum wx s (st a (l.take k)) ∧ Only s w wx)
  case atStart => exact ⟨0, Nat.zero_le _, by omega, rfl, hs, Only.refl _ _⟩
  case round =>
    obtain ⟨k, hk, hg, rfl, hsum, ho⟩ := hrel
    have HG := Lib.hid hg
    clear hg
    by_cases hlt : k < l.length
    · have hc := (hr.only ho h1) k hlt
      have htab := ht.only ho h2
      have HT := Lib.hid (st_take a l k hlt)
      go_wp2_with fail
      refine (byte_any _ _ _ _ hsum htab).mono ?_
      rintro e w' ⟨rfl, rfl⟩
      go_wp2
      go_roundg (l.length - (k + 1))
      case measure => have := HG.out; omega
      case rel => exact ⟨k + 1, by omega, rfl, by go_num, by rw [HT.out]; exact hsum.put _, ho.trans (Only.setCell _ ⟨s, 0, none⟩ _)⟩
    · go_wp2
      go_end0
      exact ⟨rfl, by rw [show l.take k = l by rw [List.take_of_length_le (by omega)]] at hsum; exact hsum, ho⟩

set_option maxHeartbeats 400000 in
theorem hand_none (s cap : Nat) (p : Option Addr) (w : World) :
    Calls Tryd.prog 41 #[.slice p 0 cap, .func (.func 42) #[.pointer (some ⟨s, 0, none⟩)] #[]] w fun e w' =>
      e = .returned (.tuple #[]) ∧ w = w' := by
  go_enter Tryd.func41, Tryd.ntmps41
  go_wp2
  go_loopg [8] 0 (fun _ s8 wx => s8 = .int .i64 0 ∧ w = wx)
  case atStart => exact ⟨rfl, rfl⟩
  case round =>
    obtain ⟨rfl, rfl⟩ := hrel
    go_wp2
    go_end0
    exact ⟨rfl, rfl⟩

theorem hand_any (a : BitVec 32) (l : List (BitVec 8)) (s : Nat) (v : Value) (w : World) (hs : IsSum w s a) (ht : Tab w) (hr : IsBytes w v l) (h1 : ∀ bb off cap, v = .slice (some ⟨bb, off, none⟩) l.length cap → l ≠ [] → bb ≠ s) (h2 : 1 ≠ s) (hl : l.length ≤ maxLen) :
    Calls Tryd.prog 41 #[v, .func (.func 42) #[.pointer (some ⟨s, 0, none⟩)] #[]] w fun e w' =>
      e = .returned (.tuple #[]) ∧ IsSum w' s (st a l) ∧ Only s w w' := by
  rcases hr with ⟨rfl, p, cap, rfl⟩ | ⟨bb, off, cap, rfl, hrow, _⟩
  · refine (hand_none s cap p w).mono ?_
    rintro e w' ⟨rfl, rfl⟩
    exact ⟨rfl, hs, Only.refl _ _⟩
  · by_cases hn : l = []
    · subst hn
      refine (hand_none s cap _ w).mono ?_
      rintro e w' ⟨rfl, rfl⟩
      exact ⟨rfl, hs, Only.refl _ _⟩
    · exact hand_some a l s bb off cap w hs ht hrow (h1 bb off cap rfl hn) h2 hl

set_option maxHeartbeats 400000 in
theorem write_any (a : BitVec 32) (l : List (BitVec 8)) (s : Nat) (v : Value) (w : World) (hs : IsSum w s a) (ht : Tab w) (hr : IsBytes w v l) (h1 : ∀ bb off cap, v = .slice (some ⟨bb, off, none⟩) l.length cap → l ≠ [] → bb ≠ s) (h2 : 1 ≠ s) (hl : l.length ≤ maxLen) :
    Calls Tryd.prog 38 #[.pointer (some ⟨s, 0, none⟩), v] w fun e w' =>
      e = .returned (.tuple #[]) ∧ IsSum w' s (st a l) ∧ Only s w w' := by
  go_enter Tryd.func38, Tryd.ntmps38
  go_wp2_with fail
  refine (hand_any a l s v w hs ht hr h1 h2 hl).mono ?_
  rintro e w' ⟨rfl, h3, h4⟩
  go_wp2
  go_end0
  exact ⟨rfl, h3, h4⟩

set_option maxHeartbeats 400000 in
theorem of_any (l : List (BitVec 8)) (v : Value) (w : World) (ht : Tab w) (hr : IsBytes w v l) (hl : l.length ≤ maxLen) :
    Calls Tryd.prog 25 #[v] w fun e w' => e = .returned (.int .i64 (Bits32.u (crc l))) ∧ Below w.heap.size w w' := by
  go_enter Tryd.func25, Tryd.ntmps25
  go_wp2_with fail
  refine (new_any _).mono ?_
  rintro e w1 ⟨rfl, h1, h2⟩
  go_wp2_with fail
  have hlt := ht.lt
  refine (write_any ones l w.heap.size v w1 h1 (ht.below h2 hlt) (hr.below h2 hr.block) ?_ (by omega) hl).mono ?_
  · intro bb off cap hv hn
    have := hr.block bb off cap hv hn
    omega
  rintro e w2 ⟨rfl, h3, h4⟩
  go_wp2_with fail
  refine (value_any _ _ _ h3).mono ?_
  rintro e w3 ⟨rfl, rfl⟩
  go_wp2
  go_ret
  exact ⟨rfl, h2.trans (h4.below (Nat.le_refl _))⟩

/-- Of of a literal. -/
theorem of_lit (L : List (BitVec 8)) (w : World) (ht : Tab w) (C : Array Value) (T : TypeId) (fr : Nat × Nat) (n c : Nat) (hC : C = (L.map fun x => Value.int .u8 (Bits32.b x)).toArray) (hn : n = L.length) (hl : L.length ≤ maxLen) :
    Calls Tryd.prog 25 #[.slice (some ⟨w.heap.size, 0, none⟩) n c] (w.alloc (.cells C T fr)) fun e w' => e = .returned (.int .i64 (Bits32.u (crc L))) ∧ Below w.heap.size w w' := by
  subst hn
  have hb : Below w.heap.size w (w.alloc (.cells C T fr)) := (Below.refl _ _).alloc (Nat.le_refl _) _
  have hr : IsBytes (w.alloc (.cells C T fr)) (.slice (some ⟨w.heap.size, 0, none⟩) L.length c) L := by
    refine Or.inr ⟨_, _, _, rfl, ?_, by simp⟩
    intro i hi
    have : (w.alloc (.cells C T fr)).heap[w.heap.size]? = some (.cells C T fr) := by
      show (w.heap.push (.cells C T fr))[w.heap.size]? = _
      simp
    subst hC
    unfold nth8
    show World.cell? _ ⟨w.heap.size, 0 + i, none⟩ = _
    unfold World.cell?
    simp only
    rw [this]
    simp [hi]
  refine (of_any L _ _ (ht.below hb ht.lt) hr hl).mono ?_
  rintro e w' ⟨rfl, h⟩
  exact ⟨rfl, hb.trans (h.mono (by simp))⟩
theorem of_nil (w : World) (ht : Tab w) :
    Calls Tryd.prog 25 #[.slice none 0 0] w fun e w' => e = .returned (.int .i64 (Bits32.u (crc []))) ∧ Below w.heap.size w w' :=
  of_any [] _ w ht (Or.inl ⟨rfl, _, _, rfl⟩) (Nat.zero_le _)

/-- Of, told of a world W in which the bytes stood and since which nothing of it has changed. -/
theorem of_since {l : List (BitVec 8)} {v : Value} {W w : World} (ht : Tab W) (hr : Arg8 W v l) (hg : Below W.heap.size W w) :
    Calls Tryd.prog 25 #[v] w fun e w' => e = .returned (.int .i64 (Bits32.u (crc l))) ∧ Below W.heap.size W w' := by
  refine (of_any l v w (ht.below hg ht.lt) (hr.1.below hg hr.1.block) hr.2).mono ?_
  rintro e w' ⟨rfl, h⟩
  exact ⟨rfl, hg.trans (h.mono hg.size)⟩
/-- since W nothing of it has changed, and block s is a Sum with that state. -/
def Held (W : World) (s : Nat) (a : BitVec 32) (w : World) : Prop := Below W.heap.size W w ∧ IsSum w s a
theorem Held.drew {W w : World} {s : Nat} {a : BitVec 32} (h : Held W s a w) : Held W s a w.drew := ⟨h.1.drew, h.2⟩
theorem of_held {W w : World} {s : Nat} {a : BitVec 32} {l : List (BitVec 8)} {v : Value} (ht : Tab W) (hr : Arg8 W v l) (hg : Held W s a w) :
    Calls Tryd.prog 25 #[v] w fun e w' => e = .returned (.int .i64 (Bits32.u (crc l))) ∧ Held W s a w' := by
  refine (of_any l v w (ht.below hg.1 ht.lt) (hr.1.below hg.1 hr.1.block) hr.2).mono ?_
  rintro e w' ⟨rfl, h⟩
  exact ⟨rfl, hg.1.trans (h.mono hg.1.size), (h.block _ (lt_of_block hg.2)).trans hg.2⟩
theorem write_held {W w : World} {s : Nat} {a : BitVec 32} {l : List (BitVec 8)} {v : Value} (ht : Tab W) (hr : Arg8 W v l) (hs : W.heap.size ≤ s) (hg : Held W s a w) :
    Calls Tryd.prog 38 #[.pointer (some ⟨s, 0, none⟩), v] w fun e w' => e = .returned (.tuple #[]) ∧ Held W s (st a l) w' := by
  have hlt := ht.lt
  refine (write_any a l s v w hg.2 (ht.below hg.1 hlt) (hr.1.below hg.1 hr.1.block) (fun bb off cap hv hn => by have := hr.1.block bb off cap hv hn; omega) (by omega) hr.2).mono ?_
  rintro e w' ⟨rfl, h1, h2⟩
  exact ⟨rfl, hg.1.trans (h2.below hs), h1⟩
theorem byte_held {W w : World} {s : Nat} {a : BitVec 32} (c : BitVec 8) (ht : Tab W) (hs : W.heap.size ≤ s) (hg : Held W s a w) :
    Calls Tryd.prog 42 #[.pointer (some ⟨s, 0, none⟩), .int .u8 (Bits32.b c)] w fun e w' => e = .returned (.tuple #[]) ∧ Held W s (step a c) w' := by
  refine (byte_any a c s w hg.2 (ht.below hg.1 ht.lt)).mono ?_
  rintro e w' ⟨rfl, rfl⟩
  exact ⟨rfl, hg.1.setCell hs _, hg.2.put _⟩
theorem value_held {W w : World} {s : Nat} {a : BitVec 32} (hg : Held W s a w) :
    Calls Tryd.prog 39 #[.pointer (some ⟨s, 0, none⟩)] w fun e w' => e = .returned (.int .i64 (Bits32.u (a ^^^ ones))) ∧ w = w' := value_any a s w hg.2
end
end Go.Proofs.YtfcmhlmllcpkmaaDoor.Crc
