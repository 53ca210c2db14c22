/- The walk over CrcJoins. By the verifier of shale. -/
import Derived.Test.YtakfbjalclnpmaaDoorCrcFirst
import Derived.Test.YtakfbjalclnpmaaDoorRow
import Derived.Deep.RegionHeld3
namespace Go.Proofs.YtakfbjalclnpmaaDoor.walkCrcJoins
open Go Go.RowKit Crc
set_option maxRecDepth 100000 in
set_option maxHeartbeats 1000000 in
theorem joins_some (bb off cap n : Nat) (l : List (BitVec 8)) (x : Int) (w : World) (ht : Tab w) (hr : Row8 w bb off l) (hb : bb < w.heap.size) (hl : n = l.length) (hn : n ≤ 4000) (hc : n ≤ cap) :
    Calls Tryd.prog 4 #[.slice (some ⟨bb, off, none⟩) n cap, .int .i64 x] w fun e w' => e = .returned (.bool true) ∧ Below w.heap.size w w' := by
  have t1 : ¬ ((4000 : Int) < (n : Int)) := by omega
  obtain ⟨k, hk, hke⟩ := norm_at x n (by omega)
  have k0 : (0 : Int) ≤ (k : Int) := by omega
  have k1 : (k : Int) ≤ (n : Int) := by omega
  have k2 : (k : Int) ≤ (cap : Int) := by omega
  have k3 : (n : Int) ≤ (cap : Int) := by omega
  have hm : n ≤ maxLen := by unfold maxLen; omega
  have r1 : Arg8 w (.slice (some ⟨bb, off, none⟩) k cap) (l.take k) := Arg8.take hr hb (by omega) (by omega)
  have r2 : Arg8 w (.slice (some ⟨bb, off + k, none⟩) (n - k) (cap - k)) (l.drop k) := Arg8.drop hr hb (by omega) (by omega)
  have r3 : Arg8 w (.slice (some ⟨bb, off, none⟩) n cap) l := Arg8.whole hr hb hl hm
  have j1 : Gives 14 #[.int .i64 (Bits32.u (crc (l.take k))), .int .i64 (Bits32.u (crc (l.drop k))), .int .i64 (IntKind.i64.wrap ((n : Int) - (k : Int)))] (.int .i64 (Bits32.u (crc l))) :=
    fun w => join_parts (l.take k) (l.drop k) l (List.take_append_drop k l) _ (by rw [IntWalk.i64_in _ (by omega), List.length_drop]; omega) w (by rw [List.length_drop]; omega)
  have j2 : Gives 14 #[.int .i64 0, .int .i64 (Bits32.u (crc l)), .int .i64 (n : Int)] (.int .i64 (Bits32.u (crc l))) :=
    fun w => join_none l _ (by omega) w (by omega)
  have HL := Lib.hid hl
  have hl1 : l.length ≤ n := by omega
  have hl2 : n ≤ l.length := by omega
  clear hl hr
  have r2' : ¬ k < cap → Arg8 w (.slice (some ⟨bb, off, none⟩) 0 0) (l.drop k) := by
    intro h
    rw [List.drop_of_length_le (by omega)]
    exact Arg8.nil _ _ _
  by_cases hq : k < cap
  rotate_left
  · replace r2 := r2' hq
    have e1 : cap = n := by omega
    have e2 : k = n := by omega
    subst e1
    obtain rfl : cap = k := e2.symm
    rw [Int.sub_self] at j1
    rw [List.take_of_length_le (by omega)] at r1 j1
    clear hq r2' hk k0 k1 k2 k3 hc
    go_enter Tryd.func4, Tryd.ntmps4
    go_wp2_with fail
    refine (first_any w ht).mono ?_
    rintro e w1 ⟨rfl, b1⟩
    go_wp2_with fail
    go_region_held3 (fun w' => Below w.heap.size w w') (first | assumption | exact Below.drew (by assumption))
      (first
        | (go_at_call 13; refine Calls.mono (of_since (l := ?_) ht ?_ (by assumption)) ?_; rotate_left; (first | with_reducible exact r1 | with_reducible exact r2 | with_reducible exact r3); rintro e w' ⟨rfl, hg⟩)
        | (go_at_call 14; refine Calls.mono (gives_run (v := ?_) ?_) ?_; rotate_left; (first | with_reducible exact j1 | with_reducible exact j2); rintro e w' ⟨rfl, rfl⟩))
    go_wp2
    go_ret
    exact ⟨rfl, by assumption⟩
  clear r2'
  go_enter Tryd.func4, Tryd.ntmps4
  go_wp2_with fail
  refine (first_any w ht).mono ?_
  rintro e w1 ⟨rfl, b1⟩
  go_wp2_with fail
  go_region_held3 (fun w' => Below w.heap.size w w') (first | assumption | exact Below.drew (by assumption))
    (first
      | (go_at_call 13; refine Calls.mono (of_since (l := ?_) ht ?_ (by assumption)) ?_; rotate_left; (first | with_reducible exact r1 | with_reducible exact r2 | with_reducible exact r3); rintro e w' ⟨rfl, hg⟩)
      | (go_at_call 14; refine Calls.mono (gives_run (v := ?_) ?_) ?_; rotate_left; (first | with_reducible exact j1 | with_reducible exact j2); rintro e w' ⟨rfl, rfl⟩))
  go_wp2
  go_ret
  exact ⟨rfl, by assumption⟩

set_option maxRecDepth 100000 in
set_option maxHeartbeats 1000000 in
theorem joins_long (p : Option Addr) (cap n : Nat) (x : Int) (w : World) (ht : Tab w) (hn : 4000 < n) (hm : n ≤ maxLen) :
    Calls Tryd.prog 4 #[.slice p n cap, .int .i64 x] w fun e w' => e = .returned (.bool true) ∧ Below w.heap.size w w' := by
  unfold maxLen at hm
  have t1 : (4000 : Int) < (n : Int) := by omega
  go_enter Tryd.func4, Tryd.ntmps4
  go_wp2_with fail
  refine (first_any w ht).mono ?_
  rintro e w1 ⟨rfl, b1⟩
  go_wp2
  go_ret
  exact ⟨rfl, b1⟩
set_option maxRecDepth 100000 in
set_option maxHeartbeats 1000000 in
theorem joins_nil (p : Option Addr) (cap : Nat) (x : Int) (w : World) (ht : Tab w) (hp : p = none → cap = 0) :
    Calls Tryd.prog 4 #[.slice p 0 cap, .int .i64 x] w fun e w' => e = .returned (.bool true) ∧ Below w.heap.size w w' := by
  have j2 : Gives 14 #[.int .i64 0, .int .i64 (Bits32.u (crc [])), .int .i64 0] (.int .i64 (Bits32.u (crc []))) :=
    fun w => join_none [] _ rfl w (by decide)
  have j1 : Gives 14 #[.int .i64 (Bits32.u (crc [])), .int .i64 (Bits32.u (crc [])), .int .i64 (IntKind.i64.wrap 0)] (.int .i64 (Bits32.u (crc []))) :=
    fun w => join_parts [] [] [] rfl _ (by rw [IntWalk.i64_in _ (by omega)]; rfl) w (by decide)
  have hn := fun (a : Option Addr) (c : Nat) => Arg8.nil w a c
  cases p with
  | none =>
    obtain rfl := hp rfl
    go_enter Tryd.func4, Tryd.ntmps4
    go_wp2_with fail
    refine (first_any w ht).mono ?_
    rintro e w1 ⟨rfl, b1⟩
    go_wp2_with fail
    go_region_held3 (fun w' => Below w.heap.size w w') (first | assumption | exact Below.drew (by assumption))
      (first
        | (go_at_call 13; refine Calls.mono (of_since (l := ?_) ht ?_ (by assumption)) ?_; rotate_left; (with_reducible exact hn _ _); rintro e w' ⟨rfl, hg⟩)
        | (go_at_call 14; refine Calls.mono (gives_run (v := ?_) ?_) ?_; rotate_left; (first | with_reducible exact j1 | with_reducible exact j2); rintro e w' ⟨rfl, rfl⟩))
    go_wp2
    go_ret
    exact ⟨rfl, by assumption⟩
  | some a =>
    go_enter Tryd.func4, Tryd.ntmps4
    go_wp2_with fail
    refine (first_any w ht).mono ?_
    rintro e w1 ⟨rfl, b1⟩
    go_wp2_with fail
    go_region_held3 (fun w' => Below w.heap.size w w') (first | assumption | exact Below.drew (by assumption))
      (first
        | (go_at_call 13; refine Calls.mono (of_since (l := ?_) ht ?_ (by assumption)) ?_; rotate_left; (with_reducible exact hn _ _); rintro e w' ⟨rfl, hg⟩)
        | (go_at_call 14; refine Calls.mono (gives_run (v := ?_) ?_) ?_; rotate_left; (first | with_reducible exact j1 | with_reducible exact j2); rintro e w' ⟨rfl, rfl⟩))
    go_wp2
    go_ret
    exact ⟨rfl, by assumption⟩

theorem walk (a0 : Option Addr) (len0 cap0 : Nat) (z0 : List Int) (a1 : Int) (w : World) (w0 : IsRow .u8 w a0 len0 cap0 z0) (_w1 : (Lit.int .i64 a1).wf = true) (ht : Tab w) :
    Calls Tryd.prog 4 #[.slice a0 len0 cap0, .int .i64 a1] w fun e w' => e = .returned (.bool true) ∧ Below w.heap.size w w' := by
  obtain ⟨hm, h⟩ := w0.bytes
  by_cases h4 : 4000 < len0
  · exact joins_long a0 cap0 len0 a1 w ht h4 hm
  · rcases h with rfl | ⟨bb, off, l, rfl, hl, hc, hr, hb⟩
    · refine joins_nil a0 cap0 a1 w ht ?_
      rintro rfl
      rcases w0 with ⟨_, _, h, _⟩ | ⟨x, h, _⟩
      · exact h
      · cases h
    · exact joins_some bb off cap0 len0 l a1 w ht hr hb hl.symm (by omega) hc
end Go.Proofs.YtakfbjalclnpmaaDoor.walkCrcJoins
