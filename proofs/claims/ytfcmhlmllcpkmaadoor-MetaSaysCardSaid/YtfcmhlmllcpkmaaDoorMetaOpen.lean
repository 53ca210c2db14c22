/- The walk over package meta's Open: the record that bytes are. By the verifier of shale. -/
import Derived.Test.YtfcmhlmllcpkmaaDoorMetaMay
namespace Go.Proofs.YtfcmhlmllcpkmaaDoor.Meta
open Go Go.RowKit Crc
set_option linter.unusedVariables false
def zeroM : M6 := ⟨0, 0, 0, 0, 0, 0⟩
/-- what Open answers. -/
def OpenAt (l d : List (BitVec 8)) (p : Addr) (w : World) (e : Ending) (w' : World) : Prop :=
  e = .returned (.tuple #[metaV (if Good l d then parse l else zeroM), if Good l d then .nilIface else errOf p]) ∧ Below w.heap.size w w'
def setF (m : M6) (i : Nat) (x : Int) : M6 :=
  match i with
  | 0 => { m with kind := x } | 1 => { m with key := x } | 2 => { m with seq := x } | 3 => { m with stamp := x } | 4 => { m with batch := x } | 5 => { m with floor := x } | _ => m
theorem RecAt.setF {w : World} {r : Nat} {m : M6} {t : TypeId} (e : RecAt w r m t) (i : Nat) (x : Int) (hi : i < 6) : RecAt (w.setCell ⟨r, i, none⟩ (.int .i64 x)) r (setF m i x) t := by
  have hlt := lt_of_block e
  have h' : w.heap[r] = .cells #[.int .i64 (fld m 0), .int .i64 (fld m 1), .int .i64 (fld m 2), .int .i64 (fld m 3), .int .i64 (fld m 4), .int .i64 (fld m 5)] t (0, 0) := by have := e; unfold RecAt at this; rw [Array.getElem?_eq_getElem hlt] at this; exact Option.some.inj this
  show (w.heap.modify r _)[r]? = _
  rw [Array.getElem?_eq_getElem (by simpa using hlt), Array.getElem_modify_self, h']
  rcases (by omega : i = 0 ∨ i = 1 ∨ i = 2 ∨ i = 3 ∨ i = 4 ∨ i = 5) with rfl | rfl | rfl | rfl | rfl | rfl <;> rfl
/-- the six fields of block r made 0, one after another. -/
def zeros (w : World) (r : Nat) : World := ((((((w.setCell ⟨r, 0, none⟩ (.int .i64 0)).setCell ⟨r, 1, none⟩ (.int .i64 0)).setCell ⟨r, 2, none⟩ (.int .i64 0)).setCell ⟨r, 3, none⟩ (.int .i64 0)).setCell ⟨r, 4, none⟩ (.int .i64 0)).setCell ⟨r, 5, none⟩ (.int .i64 0))
theorem zeroed {w : World} {r : Nat} {t : TypeId} (e : RecAt w r zeroM t) : RecAt (zeros w r) r zeroM t :=
  ((((((e.setF 0 0 (by omega)).setF 1 0 (by omega)).setF 2 0 (by omega)).setF 3 0 (by omega)).setF 4 0 (by omega)).setF 5 0 (by omega))
theorem zeroed_below {W w : World} {r B : Nat} (h : B ≤ r) (b : Below B W w) : Below B W (zeros w r) :=
  (((((b.setCell h _).setCell h _).setCell h _).setCell h _).setCell h _).setCell h _
theorem zero_at (w : World) : RecAt (w.alloc (.cells #[.int .i64 0, .int .i64 0, .int .i64 0, .int .i64 0, .int .i64 0, .int .i64 0] 23)) w.heap.size zeroM 23 := heap_alloc_new w _
set_option maxRecDepth 100000 in
set_option maxHeartbeats 1000000 in
theorem open_far (l d : List (BitVec 8)) (a : Option Addr) (n cap : Nat) (v : Value) (w : World) (hn : n = l.length) (hf : n ≠ 32) (p : Addr) (E : ErrAt w 0 p) :
    Calls Tryd.prog 11 #[.slice a n cap, v] w (OpenAt l d p w) := by
  have HN : Hid (¬ Good l d) := fun h => hf (hn.trans h.1)
  have y1 : ((n : Int) == 32) = false := by rw [beq_eq_false_iff_ne]; omega
  have y : ((n : Int) != 32) = true := by rw [bne_iff_ne]; omega
  have b0 : Below w.heap.size w (w.alloc (.cells #[.int .i64 0, .int .i64 0, .int .i64 0, .int .i64 0, .int .i64 0, .int .i64 0] 23)) := (Below.refl _ _).alloc (Nat.le_refl _) _
  have r0 := zero_at w
  have hz1 : ¬ 0 = w.heap.size := by have := E.2.1; omega
  have hz2 : ¬ w.heap.size = 0 := by have := E.2.1; omega
  have hz3 : w.heap.size ≠ 0 := hz2
  have HE := Lib.hid E
  clear E hn
  go_enter Tryd.func11, Tryd.ntmps11
  go_wp2_with fail
  generalize w.alloc (.cells #[.int .i64 0, .int .i64 0, .int .i64 0, .int .i64 0, .int .i64 0, .int .i64 0] 23) = w1 at b0 r0 ⊢
  have e1 := (HE.out.below b0).1
  unfold Sent at e1
  have c0 := r0.cell 0 (by omega); have c1 := r0.cell 1 (by omega); have c2 := r0.cell 2 (by omega); have c3 := r0.cell 3 (by omega); have c4 := r0.cell 4 (by omega); have c5 := r0.cell 5 (by omega)
  have f0 := r0.free 0; have f1 := r0.free 1; have f2 := r0.free 2; have f3 := r0.free 3; have f4 := r0.free 4; have f5 := r0.free 5
  go_wp2_with fail
  go_big_region
  go_wp2_with fail
  go_region
  have rz := zeroed r0
  have bz := zeroed_below (Nat.le_refl _) b0
  unfold zeros at rz bz
  generalize ((((((w1.setCell ⟨w.heap.size, 0, none⟩ (.int .i64 0)).setCell ⟨w.heap.size, 1, none⟩ (.int .i64 0)).setCell ⟨w.heap.size, 2, none⟩ (.int .i64 0)).setCell ⟨w.heap.size, 3, none⟩ (.int .i64 0)).setCell ⟨w.heap.size, 4, none⟩ (.int .i64 0)).setCell ⟨w.heap.size, 5, none⟩ (.int .i64 0)) = w2 at rz bz ⊢
  clear c0 c1 c2 c3 c4 c5 f0 f1 f2 f3 f4 f5 e1
  have c0 := rz.cell 0 (by omega); have c1 := rz.cell 1 (by omega); have c2 := rz.cell 2 (by omega); have c3 := rz.cell 3 (by omega); have c4 := rz.cell 4 (by omega); have c5 := rz.cell 5 (by omega)
  go_wp2_with fail
  exact bodyPost_ret (v := .tuple #[metaV zeroM, errOf p]) (by simp [results, Tryd.results11, go_sem, c0, c1, c2, c3, c4, c5]) rfl ⟨by rw [if_neg HN.out, if_neg HN.out], bz.drew.drew⟩
/-- the fields read so far. -/
def part (l : List (BitVec 8)) : Nat → M6
  | 0 => zeroM
  | k + 1 => setF (part l k) k (un32 (l.drop (4 * k)))
theorem part_six (l : List (BitVec 8)) : part l 6 = parse l := rfl
theorem rec_zero (w : World) : RecAt (w.alloc (.cells #[.int .i64 0, .int .i64 0, .int .i64 0, .int .i64 0, .int .i64 0, .int .i64 0] 47)) w.heap.size zeroM 47 := heap_alloc_new w _
end Go.Proofs.YtfcmhlmllcpkmaaDoor.Meta
