/- Traces: a range over the squares of an element. By the verifier of shale. -/
import Derived.Test.YtdcnknlpmajlfaaDoorFldOrd
import Derived.Test.YtdcnknlpmajlfaaDoorRangeOwn
import Derived.Shelf.Abstract
import Derived.Shelf.RegionOpen
import Derived.WalkKit
import Derived.OwnWalkIn
import Derived.TacticsInMore
import Derived.LoopNIn
import Derived.LoopIn
import Derived.Deep.RegionHeld3
namespace Go.Proofs.YtdcnknlpmajlfaaDoor.Fld
open Go Go.RowKit Bits16 Go.Shelf
set_option linter.unusedVariables false
attribute [local go_sem] Oper.semAt_some
/-- a block of one cell. -/
def Box (W : World) (b : Nat) (v : Value) (t : TypeId) : Prop := W.heap[b]? = some (.cells #[v] t (0, 0))
theorem Box.cell {W : World} {b : Nat} {v : Value} {t : TypeId} (e : Box W b v t) : W.cell? ⟨b, 0, none⟩ = some v := cell_of_one e
theorem Box.free {W : World} {b : Nat} {v : Value} {t : TypeId} (e : Box W b v t) : W.frozen? ⟨b, 0, none⟩ = false := free_of_one e
theorem Box.drawn {W W' : World} {b : Nat} {v : Value} {t : TypeId} (e : Box W b v t) (d : Drawn W W') : Box W' b v t := by obtain ⟨n, rfl⟩ := d; exact e
theorem Box.put {W : World} {b : Nat} {v : Value} {t : TypeId} (e : Box W b v t) (u : Value) : Box (W.setCell ⟨b, 0, none⟩ u) b u t := one_setCell e
theorem Box.other {W : World} {b : Nat} {v : Value} {t : TypeId} (e : Box W b v t) (p : Addr) (u : Value) (hp : b ≠ p.block) : Box (W.setCell p u) b v t := (Below.heap_setCell _ _ _ _ hp).trans e
theorem hi_drawn {B : Nat} {W W' : World} (d : Drawn W W') : Hi B W W' := .below (d.below _)
/-- the sum of these. -/
def xsum (l : List (BitVec 16)) : BitVec 16 := l.foldl (· ^^^ ·) 0
theorem xsum_snoc (l : List (BitVec 16)) (x : BitVec 16) : xsum (l ++ [x]) = xsum l ^^^ x := by simp [xsum]
/-- the first k squares. -/
def sqL (m : Nat) (E : BitVec 16) (k : Nat) : List (BitVec 16) := (List.range k).map fun i => sqs m i E
theorem sqL_succ (m : Nat) (E : BitVec 16) (k : Nat) : sqL m E (k + 1) = sqL m E k ++ [sqs m k E] := by simp [sqL, List.range_succ]
theorem sqL_length (m : Nat) (E : BitVec 16) (k : Nat) : (sqL m E k).length = k := by simp [sqL]
theorem xsum_sqL (m : Nat) (E : BitVec 16) : ∀ k, xsum (sqL m E k) = trTo m E k
  | 0 => rfl
  | k + 1 => by rw [sqL_succ, xsum_snoc, xsum_sqL m E k]; rfl
/-- what the loop's body holds: the sum so far, in a box of its own. -/
def TrI (sb : Nat) (w0 : World) (pre : List (BitVec 16)) (W : World) : Prop := Box W sb (.int .i64 (h (xsum pre))) 3 ∧ Below sb w0 W
theorem TrI.drawn {sb : Nat} {w0 W W' : World} {pre : List (BitVec 16)} (e : TrI sb w0 pre W) (d : Drawn W W') : TrI sb w0 pre W' := ⟨e.1.drawn d, e.2.trans (d.below _)⟩
theorem TrI.put {sb : Nat} {w0 W : World} {pre : List (BitVec 16)} (e : TrI sb w0 pre W) (p : Addr) (u : Value) (hp : sb < p.block) : TrI sb w0 pre (W.setCell p u) := ⟨e.1.other p u (by omega), e.2.setCell (by omega) _⟩
section
variable {m s be ce bl : Nat} (h1 : 3 ≤ m) (h2 : m ≤ 14)
include h1 h2
theorem mul_at (x y : BitVec 16) (hx : x.toNat < 2 ^ m) (hy : y.toNat < 2 ^ m) (w : World) (f : FldAt m w s be ce bl) :
    Calls Tryd.prog 20 #[.pointer (some ⟨s, 0, none⟩), .int .i64 (h x), .int .i64 (h y)] w fun e w' => e = .returned (.int .i64 (h (fmul m x y))) ∧ Drawn w w' := by
  have := mul_any h1 h2 (h x) (h y) w f
  rwa [el_of m h2 x hx, el_of m h2 y hy] at this
set_option maxRecDepth 100000 in
set_option maxHeartbeats 2000000 in
theorem squares_iter (n sb bb : Nat) (hbb : sb < bb) (E : BitVec 16) (hE : E.toNat < 2 ^ m) (w0 w : World) (hsb : sb = w0.heap.size) (f : FldAt m w0 s be ce bl)
    (c1 : Box w bb (.int .i64 (h E)) 3) (c2 : Box w (bb + 1) (.int .i64 (m : Int)) 3) (c3 : Box w (bb + 2) (.func (.func 20) #[.pointer (some ⟨s, 0, none⟩)] #[]) 36) :
    Iterates n Tryd.prog 42 #[.pointer (some ⟨bb + 1, 0, none⟩), .pointer (some ⟨bb, 0, none⟩), .pointer (some ⟨bb + 2, 0, none⟩)] (fun x : BitVec 16 => #[.int .i64 (h x)]) (bb + 3) m (Others (bb + 3) sb)
      (TrI sb w0) (fun _ _ _ => False) (fun xs => xs = sqL m E m) (fun _ => True) w := by
  intro l K Kx W hW hK hKx hY h0 hK0
  have c1' : Box W bb (.int .i64 (h E)) 3 := (hW.block _ (by omega)).trans c1
  have c2' : Box W (bb + 1) (.int .i64 (m : Int)) 3 := (hW.block _ (by omega)).trans c2
  have c3' : Box W (bb + 2) (.func (.func 20) #[.pointer (some ⟨s, 0, none⟩)] #[]) 36 := (hW.block _ (by omega)).trans c3
  have k2 := c2'.cell
  refine callsIn_of_wp Tryd.func42 rfl trivial ?_ rfl
  simp only [Tryd.ntmps42, List.size_toArray, List.length_cons, List.length_nil, Nat.reduceAdd, Nat.reduceSub, Array.replicate_succ, Array.replicate_zero, List.push_toArray, List.append_toArray, List.nil_append, List.cons_append]
  have HSB := Lib.hid hsb
  clear hsb hW c1 c2 c3
  gi_wp2
  gi_loopw [6] (fun p wr => ∃ k : Nat, k ≤ m ∧ p = .int .i64 (k : Int) ∧ TrI sb w0 (sqL m E k) wr ∧ K wr ∧ Box wr bb (.int .i64 (h (sqs m k E))) 3 ∧ Box wr (bb + 1) (.int .i64 (m : Int)) 3 ∧ Box wr (bb + 2) (.func (.func 20) #[.pointer (some ⟨s, 0, none⟩)] #[]) 36)
    (fun p _ => m - (intOf p).toNat)
  case atStart => exact ⟨0, Nat.zero_le _, rfl, h0, hK0, c1', c2', c3'⟩
  case round =>
    obtain ⟨k, hk, rfl, hI, hKr, d1, d2, d3⟩ := hrel
    have k1 := d1.cell
    have k2 := d2.cell
    have k3 := d3.cell
    clear c1' c2' c3' h0 hK0
    by_cases hlt : k < m
    · have y : (k : Int) < (m : Int) := by omega
      obtain ⟨fn, tmps, assign, body, hy, hR⟩ := hY (sqL m E k) (sqs m k E) wr hI hKr (by rw [sqL_length]; exact hlt)
      rw [← sqL_succ] at hR
      clear hY
      gi_wp2
      refine ⟨fun e => by simp [Fence.wide] at e, (roundIn_wide hR).mono ?_⟩
      rintro e W3 (⟨rfl, hI3, hO3, hK3⟩ | ⟨rfl, c, hf, _⟩)
      · have d1' : Box W3 bb (.int .i64 (h (sqs m k E))) 3 := (hO3.same _ (by omega) (by omega)).trans d1
        have d2' : Box W3 (bb + 1) (.int .i64 (m : Int)) 3 := (hO3.same _ (by omega) (by omega)).trans d2
        have d3' : Box W3 (bb + 2) (.func (.func 20) #[.pointer (some ⟨s, 0, none⟩)] #[]) 36 := (hO3.same _ (by omega) (by omega)).trans d3
        have k1' := d1'.cell
        have k1f := d1'.free
        have k2' := d2'.cell
        have k3' := d3'.cell
        have hf3 : FldAt m W3 s be ce bl := f.below h1 (by rw [← HSB.out]; exact hI3.2)
        have hsq := sqs_lt m h1 h2 k E hE
        clear k1 k2 k3 d1 d2 d3 hO3 hI hKr
        gi_wp2
        refine ⟨trivial, fun e => by simp [Fence.wide] at e, (callsIn_wide.2 (mul_at h1 h2 _ _ hsq hsq _ hf3)).mono ?_⟩
        rintro e W4 ⟨rfl, d4⟩
        have g1 := d1'.drawn d4
        have g2 := d2'.drawn d4
        have g3 := d3'.drawn d4
        have k4 := g1.cell
        have k4f := g1.free
        have hI4 := hI3.drawn d4
        have hK4 := hK _ _ hK3 (hi_drawn d4)
        have HS := Lib.hid (sqs_succ m k E)
        clear d1' d2' d3' k1' k1f k2' k3' hI3 hK3 d4 hf3
        gi_wp2
        go_roundw
        case rel => exact ⟨k + 1, by omega, by go_num, hI4.put _ _ (by exact hbb), hK _ _ hK4 (.setCell _ _ _ (by show bb < bb + 3; omega)), by rw [HS.out]; exact g1.put _, g2.other _ _ (by show bb + 1 ≠ bb; omega), g3.other _ _ (by show bb + 2 ≠ bb; omega)⟩
        case measure => simp [intOf]; omega
      · exact hf.elim
    · have HK2 : Hid (k = m) := by show _ = _; omega
      have y : ¬ ((k : Int) < (m : Int)) := by omega
      have hfin : TrI sb w0 (sqL m E m) wr := by have := HK2.out; subst this; exact hI
      clear hI hY d1 d2 d3 k1 k2 k3
      gi_wp2
      go_end0
      exact ⟨⟨_, rfl⟩, hfin, hKr⟩
end
set_option maxHeartbeats 400000 in
theorem squares_any (x m : Int) (s : Nat) (w : World) :
    Calls Tryd.prog 38 #[.int .i64 x, .int .i64 m, .func (.func 20) #[.pointer (some ⟨s, 0, none⟩)] #[]] w fun e w' => e = .returned (.func (.func 42) #[] #[.pointer (some ⟨w.heap.size + 1, 0, none⟩), .pointer (some ⟨w.heap.size, 0, none⟩), .pointer (some ⟨w.heap.size + 2, 0, none⟩)]) ∧
      Box w' w.heap.size (.int .i64 x) 3 ∧ Box w' (w.heap.size + 1) (.int .i64 m) 3 ∧ Box w' (w.heap.size + 2) (.func (.func 20) #[.pointer (some ⟨s, 0, none⟩)] #[]) 36 ∧ Below w.heap.size w w' ∧ w'.heap.size = w.heap.size + 3 := by
  have q1 : Box (((w.alloc (.cells #[.int .i64 x] 3)).alloc (.cells #[.int .i64 m] 3)).alloc (.cells #[.func (.func 20) #[.pointer (some ⟨s, 0, none⟩)] #[]] 36)) w.heap.size (.int .i64 x) 3 :=
    (Below.heap_alloc _ _ _ (by simp; omega)).trans ((Below.heap_alloc _ _ _ (by simp)).trans (heap_alloc_new w _))
  have q2 : Box (((w.alloc (.cells #[.int .i64 x] 3)).alloc (.cells #[.int .i64 m] 3)).alloc (.cells #[.func (.func 20) #[.pointer (some ⟨s, 0, none⟩)] #[]] 36)) (w.heap.size + 1) (.int .i64 m) 3 := by
    refine (Below.heap_alloc _ _ _ (by simp)).trans ?_
    have := heap_alloc_new (w.alloc (.cells #[.int .i64 x] 3)) (.cells #[.int .i64 m] 3)
    rwa [World.size_alloc] at this
  have q3 : Box (((w.alloc (.cells #[.int .i64 x] 3)).alloc (.cells #[.int .i64 m] 3)).alloc (.cells #[.func (.func 20) #[.pointer (some ⟨s, 0, none⟩)] #[]] 36)) (w.heap.size + 2) (.func (.func 20) #[.pointer (some ⟨s, 0, none⟩)] #[]) 36 := by
    have := heap_alloc_new ((w.alloc (.cells #[.int .i64 x] 3)).alloc (.cells #[.int .i64 m] 3)) (.cells #[.func (.func 20) #[.pointer (some ⟨s, 0, none⟩)] #[]] 36)
    rwa [World.size_alloc, World.size_alloc] at this
  have q4 : Below w.heap.size w (((w.alloc (.cells #[.int .i64 x] 3)).alloc (.cells #[.int .i64 m] 3)).alloc (.cells #[.func (.func 20) #[.pointer (some ⟨s, 0, none⟩)] #[]] 36)) :=
    (((Below.refl _ _).alloc (Nat.le_refl _) _).alloc (by simp) _).alloc (by simp; omega) _
  have HQ := Lib.hid (And.intro q1 (And.intro q2 (And.intro q3 q4)))
  clear q1 q2 q3 q4
  go_enter Tryd.func38, Tryd.ntmps38
  go_wp2
  go_ret
  exact ⟨rfl, HQ.out.1, HQ.out.2.1, HQ.out.2.2.1, HQ.out.2.2.2, by simp⟩
theorem squares_since {W : World} {B : Nat} (x m : Int) (s : Nat) (w : World) (hb : Below W.heap.size W w) (hB : B = W.heap.size := by rfl) :
    Calls Tryd.prog 38 #[.int .i64 x, .int .i64 m, .func (.func 20) #[.pointer (some ⟨s, 0, none⟩)] #[]] w fun e w' => ∃ bb, e = .returned (.func (.func 42) #[] #[.pointer (some ⟨bb + 1, 0, none⟩), .pointer (some ⟨bb, 0, none⟩), .pointer (some ⟨bb + 2, 0, none⟩)]) ∧ B ≤ bb ∧
      Box w' bb (.int .i64 x) 3 ∧ Box w' (bb + 1) (.int .i64 m) 3 ∧ Box w' (bb + 2) (.func (.func 20) #[.pointer (some ⟨s, 0, none⟩)] #[]) 36 ∧ Below W.heap.size W w' ∧ w'.heap.size = bb + 3 := by
  refine (squares_any x m s w).mono ?_
  rintro e w' ⟨rfl, q1, q2, q3, q4, q5⟩
  exact ⟨_, rfl, by rw [hB]; exact hb.size, q1, q2, q3, hb.trans (q4.mono hb.size), q5⟩
section
attribute [local go_sem] rxor
variable {m s be ce bl : Nat} (h1 : 3 ≤ m) (h2 : m ≤ 14)
include h1 h2
set_option maxRecDepth 100000 in
set_option maxHeartbeats 2000000 in
theorem trace_any (a : Int) (w : World) (f : FldAt m w s be ce bl) :
    Calls Tryd.prog 26 #[.pointer (some ⟨s, 0, none⟩), .int .i64 a] w fun e w' => e = .returned (.int .i64 (h (tr m (el m a)))) ∧ Below w.heap.size w w' := by
  refine (callsIn_wide (n := 3)).1 ?_
  refine callsIn_of_wp_marks Tryd.func26 rfl trivial ?_ rfl
  simp only [Tryd.ntmps26, List.size_toArray, List.length_cons, List.length_nil, Nat.reduceAdd, Nat.reduceSub, Array.replicate_succ, Array.replicate_zero, List.push_toArray, List.append_toArray, List.nil_append, List.cons_append]
  refine wpIn_wide.2 ?_
  go_wp2_with fail
  have s1 : Box (w.alloc (.cells #[.int .i64 0] 3)) w.heap.size (.int .i64 0) 3 := heap_alloc_new w _
  have s2 : Below w.heap.size w (w.alloc (.cells #[.int .i64 0] 3)) := (Below.refl _ _).alloc (Nat.le_refl _) _
  have s3 : (w.alloc (.cells #[.int .i64 0] 3)).heap.size = w.heap.size + 1 := by simp
  generalize w.alloc (.cells #[.int .i64 0] 3) = w1 at s1 s2 s3 ⊢
  have f1 := f.below h1 s2
  have hla := el_lt m h2 a
  have H3 := Lib.hid s3
  clear s3
  obtain ⟨c0, c1, c2⟩ := f1.cells
  have hs1 := (f1.lt h1).1
  go_region_held3 (fun w' => w'.cell? ⟨s, 0, none⟩ = some (.int .i64 (m : Int)) ∧ Below w1.heap.size w1 w')
    (first
      | assumption
      | exact ⟨(Below.cell (p := ⟨s, 0, none⟩) (by assumption) hs1).trans c0, by assumption⟩
      | exact ⟨c0, Below.refl _ _⟩
      | exact ⟨c0, Below.drew (Below.refl _ _)⟩)
    (first
      | (go_at_call 36; refine Calls.mono (element_any h1 h2 _ _ (f1.below h1 (by first | assumption | exact And.right (by assumption) | exact Below.drew (Below.refl _ _)))) ?_; rintro e w' ⟨rfl, rfl⟩)
      | (go_at_call 38; refine Calls.mono (squares_since (B := w1.heap.size) (W := w1) _ _ _ _ (by first | assumption | exact And.right (by assumption) | exact Below.drew (Below.refl _ _))) ?_; rintro e w' ⟨bb, rfl, q0, q1, q2, q3, q4, q5⟩))
  all_goals
    have q4w : Below w.heap.size w w' := s2.trans (q4.mono s2.size)
    have q6 : Box w' w.heap.size (.int .i64 0) 3 := (q4.block _ (by have := H3.out; omega)).trans s1
    have f2 := f.below h1 q4w
    have qb : w.heap.size < bb := by have := H3.out; omega
    have H5 := Lib.hid q5
    clear f1 s1 c0 c1 c2 hs1 q4 q5
    go_wp2_with fail
    refine wpIn_wide.1 (range_own (n := 3) (gf := 42) (lb := #[.pointer (some ⟨bb + 1, 0, none⟩), .pointer (some ⟨bb, 0, none⟩), .pointer (some ⟨bb + 2, 0, none⟩)]) rfl (enters_of Tryd.func42 (by kernel_rfl) rfl)
      (encs := fun x : BitVec 16 => #[.int .i64 (h x)]) (fun _ => rfl) (N := m) (S := fun xs => xs = sqL m (el m a) m) (Sp := fun _ => True) (Others (bb + 3) w.heap.size) (fun x y => x.trans y) (fun x => Others.below (by rw [← H5.out]; exact x))
      (TrI w.heap.size w) (fun _ _ _ => False) (fun pre X Y i b => ⟨(b.block _ (by have := H5.out; omega)).trans i.1, i.2.trans (b.mono (by have := H5.out; omega))⟩) (fun _ _ _ _ i _ => i) ⟨q6, q4w⟩
      (by rw [H5.out]; exact squares_iter h1 h2 2 w.heap.size bb qb (el m a) hla w w' rfl f q1 q2 q3)
      (fun x => { tmps := #[.pointer (some ⟨s, 0, none⟩), .int .i64 a, undef, undef, .int .i64 0, .pointer (some ⟨w.heap.size, 0, none⟩), .int .i64 (h x), .pointer (some ⟨s, 0, none⟩), .int .i64 a, .int .i64 (h (el m a)), .pointer (some ⟨s, 0, none⟩), .pointer (some ⟨s, 0, none⟩), .pointer (some ⟨s, 0, none⟩), .int .i64 (m : Int), .pointer (some ⟨s, 0, none⟩),
        .func (.func 20) #[.pointer (some ⟨s, 0, none⟩)] #[], .func (.func 42) #[] #[.pointer (some ⟨bb + 1, 0, none⟩), .pointer (some ⟨bb, 0, none⟩), .pointer (some ⟨bb + 2, 0, none⟩)], .int .i64 (h x), undef, undef, undef, undef], defers := [] }) ?_ ?_ ?_ ?_)
    · intro l x W K hK
      gi_wp2
      exact hK
    · intro l pre x W hi _
      have g1 := hi.1.cell
      have g2 := hi.1.free
      have HX := Lib.hid (xsum_snoc pre x)
      gi_wp2
      exact ⟨.setCell _ _ _ (by show w.heap.size < _; rw [H5.out]; omega), .setCell _ _ _ rfl, by rw [HX.out]; exact hi.1.put _, hi.2.setCell (p := ⟨w.heap.size, 0, none⟩) (Nat.le_refl _) _⟩
    · intro D xs W hD _ hS hi hdef
      have g1 := hi.1.cell
      have HT : Hid (h (xsum (sqL m (el m a) m)) = h (tr m (el m a))) := by show _ = _; rw [xsum_sqL]; rfl
      go_wp2
      refine ⟨by simp, .inl ⟨_, _, rfl, run_takeDeferred hdef, ?_⟩⟩
      exact ⟨_, results_tmp rfl _ _ _, by rw [← HT.out]; rfl, hi.2.trans ⟨rfl, rfl, rfl, by simp, fun k hk => World.putObj_heap_other (by have := H5.out; omega)⟩⟩
    · intro D c pre W _ _ _ hf _
      exact hf.elim
end
end Go.Proofs.YtdcnknlpmajlfaaDoor.Fld
