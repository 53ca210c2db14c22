/- shaleref13's OpenRecord: the record that bytes are. By the verifier of shale. -/
import Derived.Test.YtfcmhlmllcpkmaaDoorRefRec
import Derived.Test.YtfcmhlmllcpkmaaDoorMetaOpenD
namespace Go.Proofs.YtfcmhlmllcpkmaaDoor.Meta
open Go Go.RowKit Crc
set_option linter.unusedVariables false
/-- what OpenRecord answers. -/
def ROpenAt (l d : List (BitVec 8)) (w : World) (e : Ending) (w' : World) : Prop :=
  e = .returned (.tuple #[metaV (if Good l d then parse l else zeroM), .bool (decide (Good l d))]) ∧ Below w.heap.size w w'
set_option maxRecDepth 100000 in
set_option maxHeartbeats 1000000 in
theorem ropen_far (l d : List (BitVec 8)) (a : Option Addr) (n cap : Nat) (v : Value) (w : World) (hn : n = l.length) (hf : n ≠ 32) :
    Calls Tryd.prog 17 #[.slice a n cap, v] w (ROpenAt l d w) := by
  have HN : Hid (¬ Good l d) := fun h => hf (hn.trans h.1)
  have y1 : ((n : Int) == 32) = false := by rw [beq_eq_false_iff_ne]; omega
  have y3 : ¬ ((n : Int) = 32) := by omega
  clear hn hf
  have b0 := (Below.refl w.heap.size w).alloc (Nat.le_refl _) (.cells #[.int .i64 0, .int .i64 0, .int .i64 0, .int .i64 0, .int .i64 0, .int .i64 0] 23)
  have r0 := zero_at w
  have HQ := Lib.hid (And.intro r0 b0)
  clear r0 b0
  go_enter Tryd.func17, Tryd.ntmps17
  go_upto_region 1 with (fail)
  obtain ⟨r0, b0⟩ := HQ.out
  clear HQ
  generalize w.alloc (.cells #[.int .i64 0, .int .i64 0, .int .i64 0, .int .i64 0, .int .i64 0, .int .i64 0] 23) = w1 at r0 b0 ⊢
  go_quiet (fail)
  generalize hwq : w1.drewN nq = w2
  have hd : Drawn w1 w2 := ⟨nq, hwq.symm⟩
  have r1 := r0.below (hd.below w1.heap.size) r0.lt
  have B1 := b0.trans (hd.below w.heap.size)
  clear hwq hd r0 b0
  have c0 := r1.cell 0 (by omega); have c1 := r1.cell 1 (by omega); have c2 := r1.cell 2 (by omega); have c3 := r1.cell 3 (by omega); have c4 := r1.cell 4 (by omega); have c5 := r1.cell 5 (by omega)
  have f0 := r1.free 0; have f1 := r1.free 1; have f2 := r1.free 2; have f3 := r1.free 3; have f4 := r1.free 4; have f5 := r1.free 5
  go_wp2_with fail
  have rz := zeroed r1
  have bz := zeroed_below (Nat.le_refl _) B1
  unfold zeros at rz bz
  generalize ((((((w2.setCell ⟨w.heap.size, 0, none⟩ (.int .i64 0)).setCell ⟨w.heap.size, 1, none⟩ (.int .i64 0)).setCell ⟨w.heap.size, 2, none⟩ (.int .i64 0)).setCell ⟨w.heap.size, 3, none⟩ (.int .i64 0)).setCell ⟨w.heap.size, 4, none⟩ (.int .i64 0)).setCell ⟨w.heap.size, 5, none⟩ (.int .i64 0)) = w5 at rz bz ⊢
  clear c0 c1 c2 c3 c4 c5 f0 f1 f2 f3 f4 f5
  have c0 := rz.cell 0 (by omega); have c1 := rz.cell 1 (by omega); have c2 := rz.cell 2 (by omega); have c3 := rz.cell 3 (by omega); have c4 := rz.cell 4 (by omega); have c5 := rz.cell 5 (by omega)
  exact bodyPost_ret (v := .tuple #[metaV zeroM, .bool false]) (by simp [results, Tryd.results17, go_sem, c0, c1, c2, c3, c4, c5]) rfl ⟨by rw [if_neg HN.out, decide_eq_false HN.out], bz⟩
set_option maxRecDepth 100000 in
set_option maxHeartbeats 1000000 in
theorem ropen_own (l d : List (BitVec 8)) (bb off cap : Nat) (v : Value) (w : World) (hr : Row8 w bb off l) (hbb : bb < w.heap.size) (hl : l.length = 32) (hc : 32 ≤ cap) (hv : Arg8 w v d) (hx0 : ¬ un32 (l.drop 28) = Bits32.u (crc (l.take 28))) :
    Calls Tryd.prog 17 #[.slice (some ⟨bb, off, none⟩) 32 cap, v] w (ROpenAt l d w) := by
  have HN : Hid (¬ Good l d) := fun h => hx0 h.2.1
  have hx := hx0
  have q28 : ¬ cap = 28 := by omega
  have yc : (28 : Int) ≤ (cap : Int) := by omega
  have HR := Lib.hid hr
  have HV := Lib.hid hv
  have hm : (32 : Nat) ≤ maxLen := by decide
  clear hr hv hx0
  have b0 := (Below.refl w.heap.size w).alloc (Nat.le_refl _) (.cells #[.int .i64 0, .int .i64 0, .int .i64 0, .int .i64 0, .int .i64 0, .int .i64 0] 23)
  have r0 := zero_at w
  have HQ := Lib.hid (And.intro r0 b0)
  clear r0 b0
  go_enter Tryd.func17, Tryd.ntmps17
  go_upto_region 1 with (fail)
  obtain ⟨r0, b0⟩ := HQ.out
  clear HQ
  generalize w.alloc (.cells #[.int .i64 0, .int .i64 0, .int .i64 0, .int .i64 0, .int .i64 0, .int .i64 0] 23) = w1 at r0 b0 ⊢
  have KN : Hid (∀ (k : Nat) n, k + 4 ≤ 32 → Calls Tryd.prog 30 #[.slice (some ⟨bb, off, none⟩) 32 cap, .int .i64 (k : Int)] (w1.drewN n) fun e w' => e = .returned (.int .i64 (un32 (l.drop k))) ∧ Drawn (w1.drewN n) w') := fun k n hk =>
    number_any l bb off 32 cap k _ ((HR.out.below b0 hbb).below ((Drawn.mk w1 n).below w1.heap.size) (Nat.lt_of_lt_of_le hbb b0.size)) hl.symm hk hm
  have KO : Hid (∀ n, Calls Tryd.prog 29 #[.slice (some ⟨bb, off, none⟩) 28 cap] (w1.drewN n) fun e w' => e = .returned (.int .i64 (Bits32.u (crc (l.take 28)))) ∧ w1.drewN n = w') := fun n =>
    rof_any (l.take 28) _ _ ⟨.mk (by rw [List.length_take]; omega) (((HR.out.below b0 hbb).below ((Drawn.mk w1 n).below w1.heap.size) (Nat.lt_of_lt_of_le hbb b0.size)).take 28) (Nat.lt_of_lt_of_le hbb (Nat.le_trans b0.size ((Drawn.mk w1 n).below 0).size)), by rw [List.length_take]; unfold maxLen; omega⟩
  have KD : Hid (∀ n, Calls Tryd.prog 29 #[v] (w1.drewN n) fun e w' => e = .returned (.int .i64 (Bits32.u (crc d))) ∧ w1.drewN n = w') := fun n =>
    rof_any d _ _ (HV.out.since (Nat.le_refl _) (b0.trans ((Drawn.mk w1 n).below w.heap.size)))
  have K28 : Hid (∀ n, Calls Tryd.prog 30 #[.slice (some ⟨bb, off, none⟩) 32 cap, .int .i64 28] (w1.drewN n) fun e w' => e = .returned (.int .i64 (un32 (l.drop 28))) ∧ Drawn (w1.drewN n) w') := fun n => KN.out 28 n (by omega)
  have K24 : Hid (∀ n, Calls Tryd.prog 30 #[.slice (some ⟨bb, off, none⟩) 32 cap, .int .i64 24] (w1.drewN n) fun e w' => e = .returned (.int .i64 (un32 (l.drop 24))) ∧ Drawn (w1.drewN n) w') := fun n => KN.out 24 n (by omega)
  obtain ⟨x, ex⟩ : ∃ x, x = un32 (l.drop 28) := ⟨_, rfl⟩
  obtain ⟨y, ey⟩ : ∃ y, y = Bits32.u (crc (l.take 28)) := ⟨_, rfl⟩
  obtain ⟨z, ez⟩ : ∃ z, z = un32 (l.drop 24) := ⟨_, rfl⟩
  obtain ⟨t, et⟩ : ∃ t, t = Bits32.u (crc d) := ⟨_, rfl⟩
  rw [← ex] at K28
  rw [← ez] at K24
  rw [← ey] at KO
  rw [← et] at KD
  rw [← ex, ← ey] at hx
  have y1 : (x == y) = false := by rw [beq_eq_false_iff_ne]; exact hx
  have y2 : (x != y) = true := by rw [bne_iff_ne]; exact hx
  clear ex ey ez et KN hl hbb
  go_quiet (first
    | (go_at_call 30; with_reducible exact quiet_drawn (K28.out _))
    | (go_at_call 30; with_reducible exact quiet_drawn (K24.out _))
    | (go_at_call 29; with_reducible exact quiet_same (KO.out _))
    | (go_at_call 29; with_reducible exact quiet_same (KD.out _)))
  generalize hwq : w1.drewN nq = w2
  have hd : Drawn w1 w2 := ⟨nq, hwq.symm⟩
  have r1 := r0.below (hd.below w1.heap.size) r0.lt
  have B1 := b0.trans (hd.below w.heap.size)
  clear hwq hd r0 b0
  have c0 := r1.cell 0 (by omega); have c1 := r1.cell 1 (by omega); have c2 := r1.cell 2 (by omega); have c3 := r1.cell 3 (by omega); have c4 := r1.cell 4 (by omega); have c5 := r1.cell 5 (by omega)
  have f0 := r1.free 0; have f1 := r1.free 1; have f2 := r1.free 2; have f3 := r1.free 3; have f4 := r1.free 4; have f5 := r1.free 5
  go_wp2_with fail
  have rz := zeroed r1
  have bz := zeroed_below (Nat.le_refl _) B1
  unfold zeros at rz bz
  generalize ((((((w2.setCell ⟨w.heap.size, 0, none⟩ (.int .i64 0)).setCell ⟨w.heap.size, 1, none⟩ (.int .i64 0)).setCell ⟨w.heap.size, 2, none⟩ (.int .i64 0)).setCell ⟨w.heap.size, 3, none⟩ (.int .i64 0)).setCell ⟨w.heap.size, 4, none⟩ (.int .i64 0)).setCell ⟨w.heap.size, 5, none⟩ (.int .i64 0)) = w5 at rz bz ⊢
  clear c0 c1 c2 c3 c4 c5 f0 f1 f2 f3 f4 f5
  have c0 := rz.cell 0 (by omega); have c1 := rz.cell 1 (by omega); have c2 := rz.cell 2 (by omega); have c3 := rz.cell 3 (by omega); have c4 := rz.cell 4 (by omega); have c5 := rz.cell 5 (by omega)
  exact bodyPost_ret (v := .tuple #[metaV zeroM, .bool false]) (by simp [results, Tryd.results17, go_sem, c0, c1, c2, c3, c4, c5]) rfl ⟨by rw [if_neg HN.out, decide_eq_false HN.out], bz⟩
set_option maxRecDepth 100000 in
set_option maxHeartbeats 1000000 in
theorem ropen_data (l d : List (BitVec 8)) (bb off cap : Nat) (v : Value) (w : World) (hr : Row8 w bb off l) (hbb : bb < w.heap.size) (hl : l.length = 32) (hc : 32 ≤ cap) (hv : Arg8 w v d) (hx0 : un32 (l.drop 28) = Bits32.u (crc (l.take 28))) (hy0 : ¬ un32 (l.drop 24) = Bits32.u (crc d)) :
    Calls Tryd.prog 17 #[.slice (some ⟨bb, off, none⟩) 32 cap, v] w (ROpenAt l d w) := by
  have HN : Hid (¬ Good l d) := fun h => hy0 h.2.2.1
  have hx := hx0
  have hy := hy0
  have q28 : ¬ cap = 28 := by omega
  have yc : (28 : Int) ≤ (cap : Int) := by omega
  have HR := Lib.hid hr
  have HV := Lib.hid hv
  have hm : (32 : Nat) ≤ maxLen := by decide
  clear hr hv hx0 hy0
  have b0 := (Below.refl w.heap.size w).alloc (Nat.le_refl _) (.cells #[.int .i64 0, .int .i64 0, .int .i64 0, .int .i64 0, .int .i64 0, .int .i64 0] 23)
  have r0 := zero_at w
  have HQ := Lib.hid (And.intro r0 b0)
  clear r0 b0
  go_enter Tryd.func17, Tryd.ntmps17
  go_upto_region 1 with (fail)
  obtain ⟨r0, b0⟩ := HQ.out
  clear HQ
  generalize w.alloc (.cells #[.int .i64 0, .int .i64 0, .int .i64 0, .int .i64 0, .int .i64 0, .int .i64 0] 23) = w1 at r0 b0 ⊢
  have KN : Hid (∀ (k : Nat) n, k + 4 ≤ 32 → Calls Tryd.prog 30 #[.slice (some ⟨bb, off, none⟩) 32 cap, .int .i64 (k : Int)] (w1.drewN n) fun e w' => e = .returned (.int .i64 (un32 (l.drop k))) ∧ Drawn (w1.drewN n) w') := fun k n hk =>
    number_any l bb off 32 cap k _ ((HR.out.below b0 hbb).below ((Drawn.mk w1 n).below w1.heap.size) (Nat.lt_of_lt_of_le hbb b0.size)) hl.symm hk hm
  have KO : Hid (∀ n, Calls Tryd.prog 29 #[.slice (some ⟨bb, off, none⟩) 28 cap] (w1.drewN n) fun e w' => e = .returned (.int .i64 (Bits32.u (crc (l.take 28)))) ∧ w1.drewN n = w') := fun n =>
    rof_any (l.take 28) _ _ ⟨.mk (by rw [List.length_take]; omega) (((HR.out.below b0 hbb).below ((Drawn.mk w1 n).below w1.heap.size) (Nat.lt_of_lt_of_le hbb b0.size)).take 28) (Nat.lt_of_lt_of_le hbb (Nat.le_trans b0.size ((Drawn.mk w1 n).below 0).size)), by rw [List.length_take]; unfold maxLen; omega⟩
  have KD : Hid (∀ n, Calls Tryd.prog 29 #[v] (w1.drewN n) fun e w' => e = .returned (.int .i64 (Bits32.u (crc d))) ∧ w1.drewN n = w') := fun n =>
    rof_any d _ _ (HV.out.since (Nat.le_refl _) (b0.trans ((Drawn.mk w1 n).below w.heap.size)))
  have K28 : Hid (∀ n, Calls Tryd.prog 30 #[.slice (some ⟨bb, off, none⟩) 32 cap, .int .i64 28] (w1.drewN n) fun e w' => e = .returned (.int .i64 (un32 (l.drop 28))) ∧ Drawn (w1.drewN n) w') := fun n => KN.out 28 n (by omega)
  have K24 : Hid (∀ n, Calls Tryd.prog 30 #[.slice (some ⟨bb, off, none⟩) 32 cap, .int .i64 24] (w1.drewN n) fun e w' => e = .returned (.int .i64 (un32 (l.drop 24))) ∧ Drawn (w1.drewN n) w') := fun n => KN.out 24 n (by omega)
  obtain ⟨x, ex⟩ : ∃ x, x = un32 (l.drop 28) := ⟨_, rfl⟩
  obtain ⟨y, ey⟩ : ∃ y, y = Bits32.u (crc (l.take 28)) := ⟨_, rfl⟩
  obtain ⟨z, ez⟩ : ∃ z, z = un32 (l.drop 24) := ⟨_, rfl⟩
  obtain ⟨t, et⟩ : ∃ t, t = Bits32.u (crc d) := ⟨_, rfl⟩
  rw [← ex] at K28
  rw [← ez] at K24
  rw [← ey] at KO
  rw [← et] at KD
  rw [← ex, ← ey] at hx
  rw [← ez, ← et] at hy
  rw [hx] at K28
  have y1 : (z == t) = false := by rw [beq_eq_false_iff_ne]; exact hy
  have y2 : (z != t) = true := by rw [bne_iff_ne]; exact hy
  clear ex ey ez et KN hl hbb hx
  go_quiet (first
    | (go_at_call 30; with_reducible exact quiet_drawn (K28.out _))
    | (go_at_call 30; with_reducible exact quiet_drawn (K24.out _))
    | (go_at_call 29; with_reducible exact quiet_same (KO.out _))
    | (go_at_call 29; with_reducible exact quiet_same (KD.out _)))
  generalize hwq : w1.drewN nq = w2
  have hd : Drawn w1 w2 := ⟨nq, hwq.symm⟩
  have r1 := r0.below (hd.below w1.heap.size) r0.lt
  have B1 := b0.trans (hd.below w.heap.size)
  clear hwq hd r0 b0
  have c0 := r1.cell 0 (by omega); have c1 := r1.cell 1 (by omega); have c2 := r1.cell 2 (by omega); have c3 := r1.cell 3 (by omega); have c4 := r1.cell 4 (by omega); have c5 := r1.cell 5 (by omega)
  have f0 := r1.free 0; have f1 := r1.free 1; have f2 := r1.free 2; have f3 := r1.free 3; have f4 := r1.free 4; have f5 := r1.free 5
  go_wp2_with fail
  have rz := zeroed r1
  have bz := zeroed_below (Nat.le_refl _) B1
  unfold zeros at rz bz
  generalize ((((((w2.setCell ⟨w.heap.size, 0, none⟩ (.int .i64 0)).setCell ⟨w.heap.size, 1, none⟩ (.int .i64 0)).setCell ⟨w.heap.size, 2, none⟩ (.int .i64 0)).setCell ⟨w.heap.size, 3, none⟩ (.int .i64 0)).setCell ⟨w.heap.size, 4, none⟩ (.int .i64 0)).setCell ⟨w.heap.size, 5, none⟩ (.int .i64 0)) = w5 at rz bz ⊢
  clear c0 c1 c2 c3 c4 c5 f0 f1 f2 f3 f4 f5
  have c0 := rz.cell 0 (by omega); have c1 := rz.cell 1 (by omega); have c2 := rz.cell 2 (by omega); have c3 := rz.cell 3 (by omega); have c4 := rz.cell 4 (by omega); have c5 := rz.cell 5 (by omega)
  exact bodyPost_ret (v := .tuple #[metaV zeroM, .bool false]) (by simp [results, Tryd.results17, go_sem, c0, c1, c2, c3, c4, c5]) rfl ⟨by rw [if_neg HN.out, decide_eq_false HN.out], bz⟩
set_option maxRecDepth 100000 in
set_option maxHeartbeats 1000000 in
theorem ropen_sums (l d : List (BitVec 8)) (bb off cap : Nat) (v : Value) (w : World) (hr : Row8 w bb off l) (hbb : bb < w.heap.size) (hl : l.length = 32) (hc : 32 ≤ cap) (hv : Arg8 w v d) (hx0 : un32 (l.drop 28) = Bits32.u (crc (l.take 28))) (hy0 : un32 (l.drop 24) = Bits32.u (crc d)) :
    Calls Tryd.prog 17 #[.slice (some ⟨bb, off, none⟩) 32 cap, v] w (ROpenAt l d w) := by
  have HGY : Hid (decide (May (parse l)) = true → Good l d) := fun h => ⟨hl, hx0, hy0, of_decide_eq_true h⟩
  have HGN : Hid (decide (May (parse l)) = false → ¬ Good l d) := fun h g => of_decide_eq_false h g.2.2.2
  have hx := hx0
  have hy := hy0
  have q28 : ¬ cap = 28 := by omega
  have yc : (28 : Int) ≤ (cap : Int) := by omega
  have HR := Lib.hid hr
  have HV := Lib.hid hv
  have hm : (32 : Nat) ≤ maxLen := by decide
  clear hr hv hx0 hy0
  have b0 := (Below.refl w.heap.size w).alloc (Nat.le_refl _) (.cells #[.int .i64 0, .int .i64 0, .int .i64 0, .int .i64 0, .int .i64 0, .int .i64 0] 23)
  have r0 := zero_at w
  have HQ := Lib.hid (And.intro r0 b0)
  clear r0 b0
  go_enter Tryd.func17, Tryd.ntmps17
  go_upto_region 1 with (fail)
  obtain ⟨r0, b0⟩ := HQ.out
  clear HQ
  generalize w.alloc (.cells #[.int .i64 0, .int .i64 0, .int .i64 0, .int .i64 0, .int .i64 0, .int .i64 0] 23) = w1 at r0 b0 ⊢
  have KN : Hid (∀ (k : Nat) n, k + 4 ≤ 32 → Calls Tryd.prog 30 #[.slice (some ⟨bb, off, none⟩) 32 cap, .int .i64 (k : Int)] (w1.drewN n) fun e w' => e = .returned (.int .i64 (un32 (l.drop k))) ∧ Drawn (w1.drewN n) w') := fun k n hk =>
    number_any l bb off 32 cap k _ ((HR.out.below b0 hbb).below ((Drawn.mk w1 n).below w1.heap.size) (Nat.lt_of_lt_of_le hbb b0.size)) hl.symm hk hm
  have KO : Hid (∀ n, Calls Tryd.prog 29 #[.slice (some ⟨bb, off, none⟩) 28 cap] (w1.drewN n) fun e w' => e = .returned (.int .i64 (Bits32.u (crc (l.take 28)))) ∧ w1.drewN n = w') := fun n =>
    rof_any (l.take 28) _ _ ⟨.mk (by rw [List.length_take]; omega) (((HR.out.below b0 hbb).below ((Drawn.mk w1 n).below w1.heap.size) (Nat.lt_of_lt_of_le hbb b0.size)).take 28) (Nat.lt_of_lt_of_le hbb (Nat.le_trans b0.size ((Drawn.mk w1 n).below 0).size)), by rw [List.length_take]; unfold maxLen; omega⟩
  have KD : Hid (∀ n, Calls Tryd.prog 29 #[v] (w1.drewN n) fun e w' => e = .returned (.int .i64 (Bits32.u (crc d))) ∧ w1.drewN n = w') := fun n =>
    rof_any d _ _ (HV.out.since (Nat.le_refl _) (b0.trans ((Drawn.mk w1 n).below w.heap.size)))
  have K28 : Hid (∀ n, Calls Tryd.prog 30 #[.slice (some ⟨bb, off, none⟩) 32 cap, .int .i64 28] (w1.drewN n) fun e w' => e = .returned (.int .i64 (un32 (l.drop 28))) ∧ Drawn (w1.drewN n) w') := fun n => KN.out 28 n (by omega)
  have K24 : Hid (∀ n, Calls Tryd.prog 30 #[.slice (some ⟨bb, off, none⟩) 32 cap, .int .i64 24] (w1.drewN n) fun e w' => e = .returned (.int .i64 (un32 (l.drop 24))) ∧ Drawn (w1.drewN n) w') := fun n => KN.out 24 n (by omega)
  obtain ⟨x, ex⟩ : ∃ x, x = un32 (l.drop 28) := ⟨_, rfl⟩
  obtain ⟨y, ey⟩ : ∃ y, y = Bits32.u (crc (l.take 28)) := ⟨_, rfl⟩
  obtain ⟨z, ez⟩ : ∃ z, z = un32 (l.drop 24) := ⟨_, rfl⟩
  obtain ⟨t, et⟩ : ∃ t, t = Bits32.u (crc d) := ⟨_, rfl⟩
  rw [← ex] at K28
  rw [← ez] at K24
  rw [← ey] at KO
  rw [← et] at KD
  rw [← ex, ← ey] at hx
  have KW : Hid (∀ (k : Nat) W, k < 6 → Drawn w1 W → Calls Tryd.prog 30 #[.slice (some ⟨bb, off, none⟩) 32 cap, .int .i64 ((4 * k : Nat) : Int)] W fun e w' => e = .returned (.int .i64 (fld (parse l) k)) ∧ Drawn W w') := by
    intro k W hk hd
    rw [fld_parse l k hk]
    exact number_any l bb off 32 cap (4 * k) _ ((HR.out.below b0 hbb).below (hd.below w1.heap.size) (Nat.lt_of_lt_of_le hbb b0.size)) hl.symm (by omega) hm
  have KW0 : Hid (∀ W, Drawn w1 W → Calls Tryd.prog 30 #[.slice (some ⟨bb, off, none⟩) 32 cap, .int .i64 0] W fun e w' => e = .returned (.int .i64 (fld (parse l) 0)) ∧ Drawn W w') := fun W hd => KW.out 0 W (by omega) hd
  have KW1 : Hid (∀ W, Drawn w1 W → Calls Tryd.prog 30 #[.slice (some ⟨bb, off, none⟩) 32 cap, .int .i64 4] W fun e w' => e = .returned (.int .i64 (fld (parse l) 1)) ∧ Drawn W w') := fun W hd => KW.out 1 W (by omega) hd
  have KW2 : Hid (∀ W, Drawn w1 W → Calls Tryd.prog 30 #[.slice (some ⟨bb, off, none⟩) 32 cap, .int .i64 8] W fun e w' => e = .returned (.int .i64 (fld (parse l) 2)) ∧ Drawn W w') := fun W hd => KW.out 2 W (by omega) hd
  have KW3 : Hid (∀ W, Drawn w1 W → Calls Tryd.prog 30 #[.slice (some ⟨bb, off, none⟩) 32 cap, .int .i64 12] W fun e w' => e = .returned (.int .i64 (fld (parse l) 3)) ∧ Drawn W w') := fun W hd => KW.out 3 W (by omega) hd
  have KW4 : Hid (∀ W, Drawn w1 W → Calls Tryd.prog 30 #[.slice (some ⟨bb, off, none⟩) 32 cap, .int .i64 16] W fun e w' => e = .returned (.int .i64 (fld (parse l) 4)) ∧ Drawn W w') := fun W hd => KW.out 4 W (by omega) hd
  have KW5 : Hid (∀ W, Drawn w1 W → Calls Tryd.prog 30 #[.slice (some ⟨bb, off, none⟩) 32 cap, .int .i64 20] W fun e w' => e = .returned (.int .i64 (fld (parse l) 5)) ∧ Drawn W w') := fun W hd => KW.out 5 W (by omega) hd
  rw [← ez, ← et] at hy
  rw [hx] at K28
  rw [hy] at K24
  clear ex ey ez et KN hl hbb hx hy KW
  go_quiet (first
    | (go_at_call 30; with_reducible exact quiet_drawn (K28.out _))
    | (go_at_call 30; with_reducible exact quiet_drawn (K24.out _))
    | (go_at_call 29; with_reducible exact quiet_same (KO.out _))
    | (go_at_call 29; with_reducible exact quiet_same (KD.out _)))
  generalize hwq : w1.drewN nq = w2
  have hd : Drawn w1 w2 := ⟨nq, hwq.symm⟩
  clear hwq KO KD K28 K24
  have HQ : Hid (∀ W, Drawn w1 W → RecAt (W.alloc (.cells #[.int .i64 (fld (parse l) 0), .int .i64 (fld (parse l) 1), .int .i64 (fld (parse l) 2), .int .i64 (fld (parse l) 3), .int .i64 (fld (parse l) 4), .int .i64 (fld (parse l) 5)] 23)) W.heap.size (parse l) 23 ∧ RecAt (W.alloc (.cells #[.int .i64 (fld (parse l) 0), .int .i64 (fld (parse l) 1), .int .i64 (fld (parse l) 2), .int .i64 (fld (parse l) 3), .int .i64 (fld (parse l) 4), .int .i64 (fld (parse l) 5)] 23)) w.heap.size zeroM 23 ∧ Below w.heap.size w (W.alloc (.cells #[.int .i64 (fld (parse l) 0), .int .i64 (fld (parse l) 1), .int .i64 (fld (parse l) 2), .int .i64 (fld (parse l) 3), .int .i64 (fld (parse l) 4), .int .i64 (fld (parse l) 5)] 23))) := by
    intro W hd
    have B1 := b0.trans (hd.below w.heap.size)
    have b2 := hd.below w1.heap.size
    exact ⟨rec_new W (parse l) _, r0.below (b2.alloc b2.size _) r0.lt, B1.alloc B1.size _⟩
  clear r0 b0
  go_wp2_with (first
    | (go_at_call 30; with_reducible refine Calls.mono (KW0.out _ (by assumption)) ?_; rintro e w' ⟨rfl, dn⟩; replace hd := hd.trans dn; clear dn)
    | (go_at_call 30; with_reducible refine Calls.mono (KW1.out _ (by assumption)) ?_; rintro e w' ⟨rfl, dn⟩; replace hd := hd.trans dn; clear dn)
    | (go_at_call 30; with_reducible refine Calls.mono (KW2.out _ (by assumption)) ?_; rintro e w' ⟨rfl, dn⟩; replace hd := hd.trans dn; clear dn)
    | (go_at_call 30; with_reducible refine Calls.mono (KW3.out _ (by assumption)) ?_; rintro e w' ⟨rfl, dn⟩; replace hd := hd.trans dn; clear dn)
    | (go_at_call 30; with_reducible refine Calls.mono (KW4.out _ (by assumption)) ?_; rintro e w' ⟨rfl, dn⟩; replace hd := hd.trans dn; clear dn)
    | (go_at_call 30; with_reducible refine Calls.mono (KW5.out _ (by assumption)) ?_; rintro e w' ⟨rfl, dn⟩; replace hd := hd.trans dn; clear dn))
  obtain ⟨x4, r4, B4⟩ := HQ.out _ hd
  clear HQ
  generalize w'.alloc (.cells #[.int .i64 (fld (parse l) 0), .int .i64 (fld (parse l) 1), .int .i64 (fld (parse l) 2), .int .i64 (fld (parse l) 3), .int .i64 (fld (parse l) 4), .int .i64 (fld (parse l) 5)] 23) = w4 at x4 r4 B4 ⊢
  generalize w'.heap.size = r at x4 ⊢
  clear hd KW0 KW1 KW2 KW3 KW4 KW5
  refine (rmay_any (parse l) w4).mono ?_
  rintro e w6 ⟨rfl, b6⟩
  have r6 := r4.below b6 r4.lt
  have x6 := x4.below b6 x4.lt
  have B6 := B4.trans (b6.mono B4.size)
  clear x4 r4 B4 b6
  have c0 := r6.cell 0 (by omega); have c1 := r6.cell 1 (by omega); have c2 := r6.cell 2 (by omega); have c3 := r6.cell 3 (by omega); have c4 := r6.cell 4 (by omega); have c5 := r6.cell 5 (by omega)
  have f0 := r6.free 0; have f1 := r6.free 1; have f2 := r6.free 2; have f3 := r6.free 3; have f4 := r6.free 4; have f5 := r6.free 5
  have d0 := x6.cell 0 (by omega); have d1 := x6.cell 1 (by omega); have d2 := x6.cell 2 (by omega); have d3 := x6.cell 3 (by omega); have d4 := x6.cell 4 (by omega); have d5 := x6.cell 5 (by omega)
  rcases Bool.eq_false_or_eq_true (decide (May (parse l))) with hm2 | hm2
  · have HGd := Lib.hid (HGY.out hm2)
    rw [hm2]
    clear hm2
    go_wp2_with fail
    have rz := filled_at (m := parse l) r6
    have bz := filled_below (m := parse l) (Nat.le_refl _) B6
    unfold filled at rz bz
    generalize ((((((w6.setCell ⟨w.heap.size, 0, none⟩ (.int .i64 (fld (parse l) 0))).setCell ⟨w.heap.size, 1, none⟩ (.int .i64 (fld (parse l) 1))).setCell ⟨w.heap.size, 2, none⟩ (.int .i64 (fld (parse l) 2))).setCell ⟨w.heap.size, 3, none⟩ (.int .i64 (fld (parse l) 3))).setCell ⟨w.heap.size, 4, none⟩ (.int .i64 (fld (parse l) 4))).setCell ⟨w.heap.size, 5, none⟩ (.int .i64 (fld (parse l) 5))) = w7 at rz bz ⊢
    clear c0 c1 c2 c3 c4 c5 f0 f1 f2 f3 f4 f5 d0 d1 d2 d3 d4 d5
    have c0 := rz.cell 0 (by omega); have c1 := rz.cell 1 (by omega); have c2 := rz.cell 2 (by omega); have c3 := rz.cell 3 (by omega); have c4 := rz.cell 4 (by omega); have c5 := rz.cell 5 (by omega)
    exact bodyPost_ret (v := .tuple #[metaV (parse l), .bool true]) (by simp [results, Tryd.results17, go_sem, c0, c1, c2, c3, c4, c5]) rfl ⟨by rw [if_pos HGd.out, decide_eq_true HGd.out], bz⟩
  · have HN := Lib.hid (HGN.out hm2)
    rw [hm2]
    clear hm2
    go_wp2_with fail
    have rz := zeroed r6
    have bz := zeroed_below (Nat.le_refl _) B6
    unfold zeros at rz bz
    generalize ((((((w6.setCell ⟨w.heap.size, 0, none⟩ (.int .i64 0)).setCell ⟨w.heap.size, 1, none⟩ (.int .i64 0)).setCell ⟨w.heap.size, 2, none⟩ (.int .i64 0)).setCell ⟨w.heap.size, 3, none⟩ (.int .i64 0)).setCell ⟨w.heap.size, 4, none⟩ (.int .i64 0)).setCell ⟨w.heap.size, 5, none⟩ (.int .i64 0)) = w7 at rz bz ⊢
    clear c0 c1 c2 c3 c4 c5 f0 f1 f2 f3 f4 f5 d0 d1 d2 d3 d4 d5
    have c0 := rz.cell 0 (by omega); have c1 := rz.cell 1 (by omega); have c2 := rz.cell 2 (by omega); have c3 := rz.cell 3 (by omega); have c4 := rz.cell 4 (by omega); have c5 := rz.cell 5 (by omega)
    exact bodyPost_ret (v := .tuple #[metaV zeroM, .bool false]) (by simp [results, Tryd.results17, go_sem, c0, c1, c2, c3, c4, c5]) rfl ⟨by rw [if_neg HN.out, decide_eq_false HN.out], bz⟩
theorem ropen_any (l d : List (BitVec 8)) (a : Option Addr) (n cap : Nat) (v : Value) (w : World) (h1 : IsBytes w (.slice a n cap) l) (hn : n = l.length) (hc : n ≤ cap) (hv : Arg8 w v d) :
    Calls Tryd.prog 17 #[.slice a n cap, v] w (ROpenAt l d w) := by
  by_cases h32 : n = 32
  · rcases h1 with ⟨rfl, _⟩ | ⟨bb, off, cap', e, hr, hb⟩
    · rw [h32] at hn; cases hn
    · simp only [Value.slice.injEq] at e
      obtain ⟨rfl, _, rfl⟩ := e
      subst h32
      by_cases hx : un32 (l.drop 28) = Bits32.u (crc (l.take 28))
      · by_cases hy : un32 (l.drop 24) = Bits32.u (crc d)
        · exact ropen_sums l d bb off cap v w hr hb hn.symm hc hv hx hy
        · exact ropen_data l d bb off cap v w hr hb hn.symm hc hv hx hy
      · exact ropen_own l d bb off cap v w hr hb hn.symm hc hv hx
  · exact ropen_far l d a n cap v w hn h32
end Go.Proofs.YtfcmhlmllcpkmaaDoor.Meta
