/- A table's Len, is, At, Live. By the verifier of shale. -/
import Derived.Test.YtpbckjagiebmjaaDoorTbMem
import Derived.Test.YtpbckjagiebmjaaDoorSee
import Derived.Lib.QuietBelow
import Derived.Deep.Cut
namespace Go.Proofs.YtpbckjagiebmjaaDoor.Tb
open Go Go.RowKit
set_option linter.unusedVariables false
set_option linter.unusedSimpArgs false
theorem newPl (w W : World) (b p : Int) (h : w.alloc (.cells #[.int .i64 b, .int .i64 p] 24 (0, 0)) = W) : W.heap[w.heap.size]? = some (.cells #[.int .i64 b, .int .i64 p] 24 (0, 0)) ∧ Below w.heap.size w W := by
  subst h
  exact ⟨heap_alloc_new w _, (Below.refl _ _).alloc (Nat.le_refl _) _⟩
theorem pl_cells {w : World} {g : Nat} {x y : Value} {t : TypeId} (e : w.heap[g]? = some (.cells #[x, y] t (0, 0))) : w.cell? ⟨g, 0, none⟩ = some x ∧ w.cell? ⟨g, 1, none⟩ = some y ∧ ∀ i, w.frozen? ⟨g, i, none⟩ = false := by
  refine ⟨?_, ?_, fun i => ?_⟩
  · unfold World.cell?; simp only; rw [e]; rfl
  · unfold World.cell?; simp only; rw [e]; rfl
  · unfold World.frozen?; simp only; rw [e]; rfl
set_option maxHeartbeats 1000000 in
theorem samePlace_any (b p b' p' : Int) (w : World) : Calls Tryd.prog 12 #[.agg #[.int .i64 b, .int .i64 p], .agg #[.int .i64 b', .int .i64 p']] w fun e w' => e = .returned (.bool (decide (b = b') && decide (p = p'))) ∧ Below w.heap.size w w' := by
  have key : ∀ (c1 c2 : Bool), (b == b') = c1 → (p == p') = c2 → Calls Tryd.prog 12 #[.agg #[.int .i64 b, .int .i64 p], .agg #[.int .i64 b', .int .i64 p']] w fun e w' => e = .returned (.bool (c1 && c2)) ∧ Below w.heap.size w w' := by
    intro c1 c2 h1 h2
    go_enter Tryd.func12, Tryd.ntmps12
    go_upto_region 1 with (fail)
    generalize hw : w.alloc (.cells #[.int .i64 b, .int .i64 p] 24 (0, 0)) = w1
    obtain ⟨k1, b1⟩ := newPl w w1 b p hw
    have hs1 : w1.heap.size = w.heap.size + 1 := by rw [← hw]; simp
    clear hw
    rw [← hs1]
    generalize hw : w1.alloc (.cells #[.int .i64 b', .int .i64 p'] 24 (0, 0)) = w2
    obtain ⟨k2, b2⟩ := newPl w1 w2 b' p' hw
    clear hw
    have k3 := (b2.block _ (lt_of_block k1)).trans k1
    have HB := Lib.hid (b1.trans (b2.mono b1.size))
    obtain ⟨x0, x1, _⟩ := pl_cells k3
    obtain ⟨z0, z1, _⟩ := pl_cells k2
    obtain ⟨xb, hxb⟩ : ∃ xb, xb = w.heap.size := ⟨_, rfl⟩
    obtain ⟨zb, hzb⟩ : ∃ zb, zb = w1.heap.size := ⟨_, rfl⟩
    rw [← hxb] at x0 x1 ⊢
    rw [← hzb] at z0 z1 ⊢
    have HX := Lib.hid hxb
    clear k1 k2 k3 b1 b2 hs1 hxb hzb
    cases c1 <;> cases c2
    all_goals
      go_wp2_with fail
      go_ret
      exact ⟨rfl, HB.out⟩
  have e1 : (b == b') = decide (b = b') := by rw [Bool.eq_iff_iff]; simp
  have e2 : (p == p') = decide (p = p') := by rw [Bool.eq_iff_iff]; simp
  exact key _ _ e1 e2
section
variable {w : World} {base tb mb ob B P cO : Nat} {kb : Nat → Nat} {kf : Nat → Nat → Int} {m : Int → Option Sl} {cnt nb : Nat}
set_option maxHeartbeats 1000000 in
theorem len_any (T : TabAt w base tb mb ob B P cO kb kf m cnt nb) : Calls Tryd.prog 18 #[.pointer (some ⟨tb, 0, none⟩)] w fun e w' => e = .returned (.int .i64 (cnt : Int)) ∧ w = w' := by
  obtain ⟨k0, k1, _⟩ := T.cells
  have hl := T.map.len 3
  clear T
  go_enter Tryd.func18, Tryd.ntmps18
  go_wp2_with fail
  go_ret
  exact ⟨rfl, rfl⟩
set_option maxHeartbeats 1000000 in
theorem is_yes (T : TabAt w base tb mb ob B P cO kb kf m cnt nb) {b p : Nat} (hb : b < B) (hp : p < P) : Calls Tryd.prog 26 #[.pointer (some ⟨tb, 0, none⟩), .agg #[.int .i64 (b : Int), .int .i64 (p : Int)]] w fun e w' => e = .returned (.bool true) ∧ Below w.heap.size w w' := by
  go_enter Tryd.func26, Tryd.ntmps26
  go_upto_region 1 with (fail)
  generalize hw : w.alloc (.cells #[.int .i64 (b : Int), .int .i64 (p : Int)] 24 (0, 0)) = w1
  obtain ⟨K1, b1⟩ := newPl w w1 b p hw
  clear hw
  obtain ⟨x0, x1, _⟩ := pl_cells K1
  obtain ⟨xb, hxb⟩ : ∃ xb, xb = w.heap.size := ⟨_, rfl⟩
  rw [← hxb] at x0 x1 ⊢
  have T1 := T.below b1
  obtain ⟨k0, k1, _⟩ := T1.cells
  have k2 := T1.outer 0 T.pos.1
  have hP := T.pos
  have HX := Lib.hid (And.intro hxb b1)
  have y0 : (0 : Int) ≤ (b : Int) := by omega
  have y1 : (b : Int) < (B : Int) := by omega
  have y2 : (0 : Int) ≤ (p : Int) := by omega
  have y3 : (p : Int) < (P : Int) := by omega
  have y4 : (0 : Int) < (B : Int) := by omega
  have z0 : decide ((0 : Int) ≤ (b : Int)) = true := decide_eq_true y0
  have z1 : decide ((b : Int) < (B : Int)) = true := decide_eq_true y1
  have z1' : decide (b < B) = true := decide_eq_true hb
  have z2 : decide ((0 : Int) ≤ (p : Int)) = true := decide_eq_true y2
  have z3 : decide ((p : Int) < (P : Int)) = true := decide_eq_true y3
  have z3' : decide (p < P) = true := decide_eq_true hp
  obtain ⟨q1, q2, q3, q4, q5, q6⟩ := hP
  unfold maxLen at q6
  clear T T1 K1 b1 hxb
  go_quiet (fail)
  have HD : Hid (Below w.heap.size w (w1.drewN nq)) := HX.out.2.trans (((Drawn.mk w1 nq).below w1.heap.size).mono HX.out.2.size)
  generalize w1.drewN nq = w2 at HD ⊢
  go_wp2_with fail
  go_ret
  exact ⟨rfl, HD.out⟩
set_option maxHeartbeats 1000000 in
theorem at_no (T : TabAt w base tb mb ob B P cO kb kf m cnt nb) {b p : Nat} (hb : b < B) (hp : p < P) (hk : kf b p = -1) : Calls Tryd.prog 15 #[.pointer (some ⟨tb, 0, none⟩), .agg #[.int .i64 (b : Int), .int .i64 (p : Int)]] w fun e w' => e = .returned (.tuple #[.int .i64 0, .bool false]) ∧ Below w.heap.size w w' := by
  go_enter Tryd.func15, Tryd.ntmps15
  go_upto_region 1 with (fail)
  generalize hw : w.alloc (.cells #[.int .i64 (b : Int), .int .i64 (p : Int)] 24 (0, 0)) = w1
  obtain ⟨K1, b1⟩ := newPl w w1 b p hw
  clear hw
  obtain ⟨x0, x1, _⟩ := pl_cells K1
  obtain ⟨xb, hxb⟩ : ∃ xb, xb = w.heap.size := ⟨_, rfl⟩
  rw [← hxb] at x0 x1 ⊢
  have T1 := T.below b1
  obtain ⟨k0, k1, _⟩ := T1.cells
  have k2 := T1.outer b hb
  have k3 := (T1.page hb hp).1
  rw [hk] at k3
  have HI : Hid (∀ q os, Calls Tryd.prog 26 #[.pointer (some ⟨tb, 0, none⟩), .agg #[.int .i64 (b : Int), .int .i64 (p : Int)]] (Sort.grow (redrawn w1 q) os) fun x w'' => x = .returned (.bool true) ∧ ∃ p : Regrown, w'' = Sort.grow (redrawn w1 p.d) p.os) := fun q os => Calls.regrown_of (is_yes (T1.below (below_regrown w1 q os)) hb hp)
  have hP := T.pos
  have HX := Lib.hid (And.intro hxb b1)
  have y0 : (0 : Int) ≤ (b : Int) := by omega
  have y1 : (b : Int) < (B : Int) := by omega
  have y2 : (0 : Int) ≤ (p : Int) := by omega
  have y3 : (p : Int) < (P : Int) := by omega
  obtain ⟨q1, q2, q3, q4, q5, q6⟩ := hP
  unfold maxLen at q6
  replace x0 := cell_regrown x0
  replace x1 := cell_regrown x1
  replace k0 := cell_regrown k0
  replace k1 := cell_regrown k1
  replace k2 := cell_regrown k2
  replace k3 := cell_regrown k3
  clear T T1 K1 b1 hxb hb hp hk
  refine wp_region_quiet_below (by kernel_rfl) (by kernel_rfl) ?_
  repeat (go_big_quiet_step (first | (go_at_call 26; with_reducible exact HI.out _ _)))
  refine wpQuiet_nil ?_
  intro _ hw'
  obtain ⟨⟨dq, osq⟩, hw''⟩ := hw'
  subst hw''
  have HD : Hid (Below w.heap.size w (Sort.grow (redrawn w1 dq) osq)) := HX.out.2.trans ((below_regrown w1 dq osq).mono HX.out.2.size)
  generalize Sort.grow (redrawn w1 dq) osq = w2 at HD ⊢
  clear x0 x1 k0 k1 k2 k3 HI
  go_wp2_with fail
  go_ret2
  exact ⟨rfl, HD.out⟩
set_option maxHeartbeats 1000000 in
theorem at_yes (T : TabAt w base tb mb ob B P cO kb kf m cnt nb) {b p : Nat} (hb : b < B) (hp : p < P) (hk : kf b p ≠ -1) : Calls Tryd.prog 15 #[.pointer (some ⟨tb, 0, none⟩), .agg #[.int .i64 (b : Int), .int .i64 (p : Int)]] w fun e w' => e = .returned (.tuple #[.int .i64 (kf b p), .bool true]) ∧ Below w.heap.size w w' := by
  go_enter Tryd.func15, Tryd.ntmps15
  go_upto_region 1 with (fail)
  generalize hw : w.alloc (.cells #[.int .i64 (b : Int), .int .i64 (p : Int)] 24 (0, 0)) = w1
  obtain ⟨K1, b1⟩ := newPl w w1 b p hw
  clear hw
  obtain ⟨x0, x1, _⟩ := pl_cells K1
  obtain ⟨xb, hxb⟩ : ∃ xb, xb = w.heap.size := ⟨_, rfl⟩
  rw [← hxb] at x0 x1 K1 ⊢
  have T1 := T.below b1
  obtain ⟨k0, k1, _⟩ := T1.cells
  have k2 := T1.outer b hb
  have k3 := (T1.page hb hp).1
  have HI : Hid (∀ q os, Calls Tryd.prog 26 #[.pointer (some ⟨tb, 0, none⟩), .agg #[.int .i64 (b : Int), .int .i64 (p : Int)]] (Sort.grow (redrawn w1 q) os) fun x w'' => x = .returned (.bool true) ∧ ∃ p : Regrown, w'' = Sort.grow (redrawn w1 p.d) p.os) := fun q os => Calls.regrown_of (is_yes (T1.below (below_regrown w1 q os)) hb hp)
  have hP := T.pos
  have HX := Lib.hid (And.intro hxb (And.intro b1 (And.intro T1 (And.intro K1 (And.intro hb hp)))))
  have y0 : (0 : Int) ≤ (b : Int) := by omega
  have y1 : (b : Int) < (B : Int) := by omega
  have y2 : (0 : Int) ≤ (p : Int) := by omega
  have y3 : (p : Int) < (P : Int) := by omega
  have y4 : (kf b p == -1) = false := by rw [beq_eq_false_iff_ne]; exact hk
  obtain ⟨q1, q2, q3, q4, q5, q6⟩ := hP
  unfold maxLen at q6
  generalize hkk : kf b p = kk at k3 y4
  have HKK := Lib.hid hkk
  replace x0 := cell_regrown x0
  replace x1 := cell_regrown x1
  replace k0 := cell_regrown k0
  replace k1 := cell_regrown k1
  replace k2 := cell_regrown k2
  replace k3 := cell_regrown k3
  clear T T1 K1 b1 hxb hb hp hk hkk
  refine wp_region_quiet_below (by kernel_rfl) (by kernel_rfl) ?_
  repeat (go_big_quiet_step (first | (go_at_call 26; with_reducible exact HI.out _ _)))
  refine wpQuiet_nil ?_
  intro _ hw'
  obtain ⟨⟨dq, osq⟩, hw''⟩ := hw'
  subst hw''
  have b2 := below_regrown w1 dq osq
  have HD : Hid (Below w.heap.size w (Sort.grow (redrawn w1 dq) osq)) := HX.out.2.1.trans (b2.mono HX.out.2.1.size)
  generalize Sort.grow (redrawn w1 dq) osq = w2 at HD b2 ⊢
  clear x0 x1 k0 k1 k2 k3 HI
  have T2 := HX.out.2.2.1.below b2
  obtain ⟨x0, x1, _⟩ := pl_cells ((b2.block _ (lt_of_block HX.out.2.2.2.1)).trans HX.out.2.2.2.1)
  obtain ⟨k0, k1, _⟩ := T2.cells
  have k2 := T2.outer b HX.out.2.2.2.2.1
  have k3 := (T2.page HX.out.2.2.2.2.1 HX.out.2.2.2.2.2).1
  rw [HKK.out] at k3
  clear T2 b2
  go_wp2_with fail
  go_quiet (fail)
  have HD2 : Hid (Below w.heap.size w (w2.drewN nq)) := HD.out.trans (((Drawn.mk w2 nq).below w2.heap.size).mono HD.out.size)
  generalize w2.drewN nq = w3 at HD2 ⊢
  go_wp2_with fail
  go_ret2
  exact ⟨by rw [HKK.out]; rfl, HD2.out⟩
/-- so many of the first k pages are some key's. -/
def liveN (f : Nat → Int) (k : Nat) : Nat := ((List.range k).filter fun j => decide (f j ≠ -1)).length
theorem liveN_succ (f : Nat → Int) (k : Nat) : liveN f (k + 1) = liveN f k + if f k ≠ -1 then 1 else 0 := by
  unfold liveN
  rw [List.range_succ, List.filter_append, List.length_append]
  by_cases h : f k ≠ -1
  · simp [h]
  · simp [h]
theorem liveN_le (f : Nat → Int) (k : Nat) : liveN f k ≤ k := by
  unfold liveN
  have := List.length_filter_le (fun j => decide (f j ≠ -1)) (List.range k)
  rwa [List.length_range] at this
set_option maxHeartbeats 1000000 in
theorem live_any (T : TabAt w base tb mb ob B P cO kb kf m cnt nb) {b : Nat} (hb : b < B) : Calls Tryd.prog 19 #[.pointer (some ⟨tb, 0, none⟩), .int .i64 (b : Int)] w fun e w' => e = .returned (.int .i64 (liveN (kf b) P : Int)) ∧ w = w' := by
  obtain ⟨k0, k1, _⟩ := T.cells
  have k2 := T.outer b hb
  have HT := Lib.hid T
  have hP := T.pos
  obtain ⟨q1, q2, q3, q4, q5, q6⟩ := hP
  unfold maxLen at q6
  have y0 : (0 : Int) ≤ (b : Int) := by omega
  have y1 : (b : Int) < (B : Int) := by omega
  have z0 : decide ((0 : Int) ≤ (b : Int)) = true := decide_eq_true y0
  have z1 : decide ((b : Int) < (B : Int)) = true := decide_eq_true y1
  have HB := Lib.hid hb
  clear T hb
  go_enter Tryd.func19, Tryd.ntmps19
  go_wp2_with fail
  go_loopg [5, 27] P (fun gh s5 s27 wx => ∃ k : Nat, gh = P - k ∧ k ≤ P ∧ s27 = .int .i64 (k : Int) ∧ s5 = .int .i64 (liveN (kf b) k : Int) ∧ w = wx)
  case atStart => exact ⟨0, rfl, Nat.zero_le _, rfl, rfl, rfl⟩
  case round =>
    obtain ⟨k, hg, hk, rfl, rfl, rfl⟩ := hrel
    have HI := Lib.hid hg
    clear hg
    by_cases hlt : k < P
    · have x1 : (k : Int) < (P : Int) := by omega
      have x0 : (0 : Int) ≤ (k : Int) := by omega
      have c0 := (HT.out.page HB.out hlt).1
      have hle := liveN_le (kf b) k
      have HS := Lib.hid (liveN_succ (kf b) k)
      by_cases hf : kf b k = -1
      · rw [hf] at c0 HS
        have HS' : Hid (liveN (kf b) (k + 1) = liveN (kf b) k) := by have := HS.out; show _ = _; simpa using this
        clear hf HS
        go_wp2_with fail
        go_roundg (P - (k + 1))
        case measure => have := HI.out; omega
        case rel => exact ⟨k + 1, rfl, hlt, by go_num, by rw [HS'.out], rfl⟩
      · have HS' : Hid (liveN (kf b) (k + 1) = liveN (kf b) k + 1) := by have := HS.out; show _ = _; simpa [hf] using this
        generalize kf b k = z at c0 hf
        have u1 : (z == -1) = false := by rw [beq_eq_false_iff_ne]; exact hf
        have u2 : (z != -1) = true := by rw [bne, u1]; rfl
        clear hf HS
        go_wp2_with fail
        go_roundg (P - (k + 1))
        case measure => have := HI.out; omega
        case rel => exact ⟨k + 1, rfl, hlt, by go_num, by rw [HS'.out]; go_num, rfl⟩
    · obtain rfl : k = P := by omega
      go_wp2_with fail
      go_ret
      exact ⟨rfl, rfl⟩
end
end Go.Proofs.YtpbckjagiebmjaaDoor.Tb
