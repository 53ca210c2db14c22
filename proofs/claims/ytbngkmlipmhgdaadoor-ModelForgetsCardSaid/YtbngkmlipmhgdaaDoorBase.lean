/- Small words on memory: a world in which one block alone may have changed; calls that only compute. By the verifier of shale. -/
import Derived.Test.YtbngkmlipmhgdaaDoorBits
import Derived.Test.YtbngkmlipmhgdaaDoorRows
import Derived.WalkKit
import Derived.IntWalk
import Derived.OneCell
import Derived.Deep.QuietTactic
import Derived.WalkSmall
import Derived.Lib.Hide
namespace Go.Proofs.YtbngkmlipmhgdaaDoor
open Go Go.RowKit

/-- of all blocks that were there s alone may have changed; none is new. -/
structure Only (s : Nat) (w w' : World) : Prop where
  os : w'.os = w.os
  tape : w'.tape = w.tape
  output : w'.output = w.output
  size : w'.heap.size = w.heap.size
  block : ∀ k, k ≠ s → w'.heap[k]? = w.heap[k]?
theorem Only.refl (s : Nat) (w : World) : Only s w w := ⟨rfl, rfl, rfl, rfl, fun _ _ => rfl⟩
theorem Only.trans {s : Nat} {a b c : World} (h : Only s a b) (k : Only s b c) : Only s a c :=
  ⟨k.os.trans h.os, k.tape.trans h.tape, k.output.trans h.output, k.size.trans h.size, fun i hi => (k.block i hi).trans (h.block i hi)⟩
theorem Only.setCell (w : World) (p : Addr) (u : Value) : Only p.block w (w.setCell p u) :=
  ⟨rfl, rfl, rfl, by simp [World.setCell], fun k hk => Below.heap_setCell _ _ _ _ hk⟩
theorem Only.drew {s : Nat} {a w : World} (h : Only s a w) : Only s a w.drew := ⟨h.os, h.tape, h.output, h.size, h.block⟩
theorem Only.cell {s : Nat} {w w' : World} (h : Only s w w') {p : Addr} (hp : p.block ≠ s) : w'.cell? p = w.cell? p := World.cell?_of_block (w := w) (h.block p.block hp)
theorem Only.below {s : Nat} {w w' : World} (h : Only s w w') {B : Nat} (hs : B ≤ s) : Below B w w' :=
  ⟨h.os, h.tape, h.output, by rw [h.size]; exact Nat.le_refl _, fun k hk => h.block k (by omega)⟩

/-- A call that only computes: whatever the world, it answers v and leaves the world as it is. -/
def Gives (f : Nat) (args : Array Value) (v : Value) : Prop := ∀ w, Calls Tryd.prog f args w fun e w' => e = .returned v ∧ w = w'
theorem gives_run {f : Nat} {args : Array Value} {v : Value} {w : World} (h : Gives f args v) : Calls Tryd.prog f args w fun e w' => e = .returned v ∧ w = w' := h w

/-- an index brought into 0 .. n as the statements do. -/
theorem norm_at (x : Int) (n : Nat) (hn : n ≤ 1000000) :
    ∃ k : Nat, k ≤ n ∧ (wrap64 (wrap64 (x.tmod ((n : Int) + 1) + (n : Int)) + 1)).tmod ((n : Int) + 1) = (k : Int) := by
  have h1 : x.tmod ((n : Int) + 1) < (n : Int) + 1 := Int.tmod_lt_of_pos x (by omega)
  have h2 : -((n : Int) + 1) < x.tmod ((n : Int) + 1) := by
    have := Int.tmod_lt_of_pos (-x) (b := (n : Int) + 1) (by omega)
    rw [Int.neg_tmod] at this
    omega
  rw [show wrap64 (x.tmod ((n : Int) + 1) + (n : Int)) = x.tmod ((n : Int) + 1) + (n : Int) from IntWalk.wrap64_in _ (by omega)]
  rw [show wrap64 (x.tmod ((n : Int) + 1) + (n : Int) + 1) = x.tmod ((n : Int) + 1) + (n : Int) + 1 from IntWalk.wrap64_in _ (by omega)]
  have h3 := Int.tmod_lt_of_pos (x.tmod ((n : Int) + 1) + (n : Int) + 1) (b := (n : Int) + 1) (by omega)
  have h4 := Int.tmod_nonneg ((n : Int) + 1) (a := x.tmod ((n : Int) + 1) + (n : Int) + 1) (by omega)
  exact ⟨((x.tmod ((n : Int) + 1) + (n : Int) + 1).tmod ((n : Int) + 1)).toNat, by omega, by omega⟩

/-- a number brought into 0 .. n - 1 as the statements do. -/
theorem norm_in (x : Int) (n : Nat) (h0 : 0 < n) (hn : n ≤ 1000000) :
    ∃ k : Nat, k < n ∧ (wrap64 (x.tmod (n : Int) + (n : Int))).tmod (n : Int) = (k : Int) := by
  have h1 : x.tmod (n : Int) < (n : Int) := Int.tmod_lt_of_pos x (by omega)
  have h2 : -(n : Int) < x.tmod (n : Int) := by
    have := Int.tmod_lt_of_pos (-x) (b := (n : Int)) (by omega)
    rw [Int.neg_tmod] at this
    omega
  rw [show wrap64 (x.tmod (n : Int) + (n : Int)) = x.tmod (n : Int) + (n : Int) from IntWalk.wrap64_in _ (by omega)]
  have h3 := Int.tmod_lt_of_pos (x.tmod (n : Int) + (n : Int)) (b := (n : Int)) (by omega)
  have h4 := Int.tmod_nonneg (n : Int) (a := x.tmod (n : Int) + (n : Int)) (by omega)
  exact ⟨((x.tmod (n : Int) + (n : Int)).tmod (n : Int)).toNat, by omega, by omega⟩

/-- of the blocks that were there s alone may have changed; others may be new. -/
structure Upd (s : Nat) (w w' : World) : Prop where
  os : w'.os = w.os
  tape : w'.tape = w.tape
  output : w'.output = w.output
  size : w.heap.size ≤ w'.heap.size
  block : ∀ k, k < w.heap.size → k ≠ s → w'.heap[k]? = w.heap[k]?
theorem Upd.refl (s : Nat) (w : World) : Upd s w w := ⟨rfl, rfl, rfl, Nat.le_refl _, fun _ _ _ => rfl⟩
theorem Upd.trans {s : Nat} {a b c : World} (h : Upd s a b) (k : Upd s b c) : Upd s a c :=
  ⟨k.os.trans h.os, k.tape.trans h.tape, k.output.trans h.output, Nat.le_trans h.size k.size, fun i hi hs => (k.block i (Nat.lt_of_lt_of_le hi h.size) hs).trans (h.block i hi hs)⟩
theorem Upd.only {s : Nat} {a b c : World} (h : Upd s a b) (k : Only s b c) : Upd s a c :=
  h.trans ⟨k.os, k.tape, k.output, by rw [k.size]; exact Nat.le_refl _, fun i _ hs => k.block i hs⟩
theorem Upd.below {s : Nat} {a b c : World} (h : Upd s a b) (k : Below b.heap.size b c) : Upd s a c :=
  h.trans ⟨k.os, k.tape, k.output, k.size, fun i hi _ => k.block i hi⟩
theorem Upd.setNew {s : Nat} {a w : World} (h : Upd s a w) {p : Addr} (hp : a.heap.size ≤ p.block) (u : Value) : Upd s a (w.setCell p u) :=
  ⟨h.os, h.tape, h.output, by simp [World.setCell, h.size], fun i hi hs => (Below.heap_setCell _ _ _ _ (by omega)).trans (h.block i hi hs)⟩
theorem Upd.drew {s : Nat} {a w : World} (h : Upd s a w) : Upd s a w.drew := ⟨h.os, h.tape, h.output, h.size, h.block⟩
theorem Upd.cell {s : Nat} {w w' : World} (h : Upd s w w') {p : Addr} (hb : p.block < w.heap.size) (hp : p.block ≠ s) : w'.cell? p = w.cell? p := World.cell?_of_block (w := w) (h.block p.block hb hp)
theorem Upd.toBelow {s : Nat} {w w' : World} (h : Upd s w w') {B : Nat} (hs : B ≤ s) (hB : B ≤ w.heap.size) : Below B w w' :=
  ⟨h.os, h.tape, h.output, h.size, fun k hk => h.block k (by omega) (by omega)⟩
/-- the world but for draws. -/
def Drawn (w w' : World) : Prop := ∃ n, w' = w.drewN n
theorem Drawn.refl (w : World) : Drawn w w := ⟨0, rfl⟩
theorem Drawn.mk (w : World) (n : Nat) : Drawn w (w.drewN n) := ⟨n, rfl⟩
theorem Drawn.trans {a b c : World} (h : Drawn a b) (k : Drawn b c) : Drawn a c := by
  obtain ⟨n, rfl⟩ := h
  obtain ⟨m, rfl⟩ := k
  exact ⟨n + m, World.drewN_drewN _ _ _⟩
theorem Drawn.below {a b : World} (h : Drawn a b) (B : Nat) : Below B a b := by
  obtain ⟨n, rfl⟩ := h
  exact below_drewN (Below.refl _ _) n
theorem quiet_drawn {P : Program} {f : FuncId} {args : Array Value} {w : World} {n : Nat} {v : Value} (h : Calls P f args (w.drewN n) fun e w' => e = .returned v ∧ Drawn (w.drewN n) w') :
    Calls P f args (w.drewN n) fun e w'' => e = .returned v ∧ ∃ m, w'' = w.drewN m :=
  h.mono fun _ _ ⟨he, m, hm⟩ => ⟨he, n + m, by rw [hm, World.drewN_drewN]⟩
theorem quiet_same {P : Program} {f : FuncId} {args : Array Value} {w : World} {n : Nat} {v : Value} (h : Calls P f args (w.drewN n) fun e w' => e = .returned v ∧ w.drewN n = w') :
    Calls P f args (w.drewN n) fun e w'' => e = .returned v ∧ ∃ m, w'' = w.drewN m :=
  h.mono fun _ _ ⟨he, hm⟩ => ⟨he, n, hm.symm⟩
theorem ret_i64 {a b : Int} (e : a = b) : Ending.returned (.int .i64 a) = Ending.returned (.int .i64 b) := by rw [e]
theorem ret_bool {a b : Bool} (e : a = b) : Ending.returned (.bool a) = Ending.returned (.bool b) := by rw [e]
end Go.Proofs.YtbngkmlipmhgdaaDoor
