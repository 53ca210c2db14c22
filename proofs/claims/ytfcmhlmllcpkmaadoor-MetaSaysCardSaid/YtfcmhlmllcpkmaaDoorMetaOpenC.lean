/- The walk over package meta's Open: the data's sum is not right. By the verifier of shale. -/
import Derived.Test.YtfcmhlmllcpkmaaDoorMetaOpen
namespace Go.Proofs.YtfcmhlmllcpkmaaDoor.Meta
open Go Go.RowKit Crc
set_option linter.unusedVariables false
set_option maxRecDepth 100000 in
set_option maxHeartbeats 1500000 in
theorem open_data (l d : List (BitVec 8)) (bb off cap : Nat) (v : Value) (w : World) (ht : Tab w) (hr : Row8 w bb off l) (hbb : bb < w.heap.size) (hl : l.length = 32) (hc : 32 ≤ cap) (p : Addr) (E : ErrAt w 0 p)
    (hv : Arg8 w v d) (hx : un32 (l.drop 28) = Bits32.u (crc (l.take 28))) (hy : ¬ un32 (l.drop 24) = Bits32.u (crc d)) :
    Calls Tryd.prog 11 #[.slice (some ⟨bb, off, none⟩) 32 cap, v] w (OpenAt l d p w) := by
  have HN : Hid (¬ Good l d) := fun h => hy h.2.2.1
  obtain ⟨x, ex⟩ : ∃ x, x = Bits32.u (crc (l.take 28)) := ⟨_, rfl⟩
  obtain ⟨y, ey⟩ : ∃ y, y = Bits32.u (crc d) := ⟨_, rfl⟩
  obtain ⟨z, ez⟩ : ∃ z, z = un32 (l.drop 24) := ⟨_, rfl⟩
  have y1 : (z == y) = false := by rw [beq_eq_false_iff_ne, ez, ey]; exact hy
  have HX2 : Hid (un32 (l.drop 28) = x) := hx.trans ex.symm
  have EX := Lib.hid ex
  have EY := Lib.hid ey
  have EZ := Lib.hid ez
  clear ex ey ez
  have q2 : IntKind.i64.wrap 24 = 24 := by decide
  have hc28 : ¬ cap = 28 := by omega
  have hc24 : ¬ cap = 24 := by omega
  have yc : (28 : Int) ≤ (cap : Int) := by omega
  have q : IntKind.i64.wrap 28 = 28 := by decide
  have b0 : Below w.heap.size w (w.alloc (.cells #[.int .i64 0, .int .i64 0, .int .i64 0, .int .i64 0, .int .i64 0, .int .i64 0] 23)) := (Below.refl _ _).alloc (Nat.le_refl _) _
  have r0 := zero_at w
  have hz1 : ¬ 0 = w.heap.size := by have := E.2.1; omega
  have hz2 : ¬ w.heap.size = 0 := by have := E.2.1; omega
  have hz3 : w.heap.size ≠ 0 := hz2
  have HE := Lib.hid E
  have HX := Lib.hid hx
  have HV := Lib.hid hv
  clear E hx hy hv
  go_enter Tryd.func11, Tryd.ntmps11
  go_wp2_with fail
  generalize w.alloc (.cells #[.int .i64 0, .int .i64 0, .int .i64 0, .int .i64 0, .int .i64 0, .int .i64 0] 23) = w1 at b0 r0 ⊢
  have rw1 := hr.below b0 hbb
  have hI : Hid (IsBytes w1 (.slice (some ⟨bb, off, none⟩) 28 cap) (l.take 28)) := .mk (by rw [List.length_take]; omega) (rw1.take 28) (Nat.lt_of_lt_of_le hbb b0.size)
  have hG : Hid (∀ W, Below w1.heap.size w1 W → Row8 W bb (off + 28) (l.drop 28)) := fun W b => (rw1.drop 28).below b (Nat.lt_of_lt_of_le hbb b0.size)
  have hG2 : Hid (∀ W, Below w1.heap.size w1 W → Row8 W bb (off + 24) (l.drop 24)) := fun W b => (rw1.drop 24).below b (Nat.lt_of_lt_of_le hbb b0.size)
  have hV1 : Hid (Arg8 w1 v d) := HV.out.since (Nat.le_refl _) b0
  have hl24 : (l.drop 24).length = 8 := by rw [List.length_drop]; omega
  have ht1 := ht.below b0 ht.lt
  have hl28 : (l.drop 28).length = 4 := by rw [List.length_drop]; omega
  have hl28' : (l.take 28).length ≤ maxLen := by rw [List.length_take]; unfold maxLen; omega
  go_wp2_with fail
  have K1 : Hid (∀ W len cap', Below w1.heap.size w1 W → 4 ≤ len → len ≤ maxLen → Calls Tryd.prog 26 #[.slice (some ⟨bb, off + 28, none⟩) len cap'] W fun e w' => e = .returned (.int .i64 x) ∧ W = w') := by
    intro W len cap' b h4 hm
    have := get_any (l.drop 28) bb (off + 28) len cap' W (hG.out _ b) h4 (by omega) hm
    rw [HX2.out] at this
    exact this
  have K2 : Hid (∀ W len cap', Below w1.heap.size w1 W → 4 ≤ len → len ≤ maxLen → Calls Tryd.prog 26 #[.slice (some ⟨bb, off + 24, none⟩) len cap'] W fun e w' => e = .returned (.int .i64 z) ∧ W = w') := by
    intro W len cap' b h4 hm
    have := get_any (l.drop 24) bb (off + 24) len cap' W (hG2.out _ b) h4 (by omega) hm
    rw [← EZ.out] at this
    exact this
  have K3 : Hid (∀ W, Below w1.heap.size w1 W → Calls Tryd.prog 25 #[.slice (some ⟨bb, off, none⟩) 28 cap] W fun e w' => e = .returned (.int .i64 x) ∧ Below w1.heap.size w1 w') := by
    intro W b
    have := of_since (l := l.take 28) ht1 ⟨hI.out, hl28'⟩ b
    rw [← EX.out] at this
    exact this
  have K4 : Hid (∀ W, Below w1.heap.size w1 W → Calls Tryd.prog 25 #[v] W fun e w' => e = .returned (.int .i64 y) ∧ Below w1.heap.size w1 w') := by
    intro W b
    have := of_since (l := d) ht1 hV1.out b
    rw [← EY.out] at this
    exact this
  clear HX2 EX EY EZ HX hI hG hG2 hV1 hl28 hl28' hl24 HV hr rw1 ht hl
  go_region_held3 (fun w' => Below w1.heap.size w1 w') (first | assumption | exact Below.refl _ _ | exact Below.drew (by assumption) | exact (Below.refl _ _).drew)
    (first
      | (go_at_call 26; with_reducible refine Calls.mono (K1.out _ _ _ (by assumption) (by omega) (by decide)) ?_; rintro e w2 ⟨rfl, rfl⟩)
      | (go_at_call 26; with_reducible refine Calls.mono (K2.out _ _ _ (by assumption) (by omega) (by decide)) ?_; rintro e w2 ⟨rfl, rfl⟩)
      | (go_at_call 25; with_reducible refine Calls.mono (K3.out _ (by assumption)) ?_; rintro e w3 ⟨rfl, b3⟩)
      | (go_at_call 25; with_reducible refine Calls.mono (K4.out _ (by assumption)) ?_; rintro e w3 ⟨rfl, b4⟩))
  have r1 := r0.below b4 r0.lt
  have B := b0.trans (b4.mono b0.size)
  have e1 := (HE.out.below B).1
  unfold Sent at e1
  have c0 := r1.cell 0 (by omega); have c1 := r1.cell 1 (by omega); have c2 := r1.cell 2 (by omega); have c3 := r1.cell 3 (by omega); have c4 := r1.cell 4 (by omega); have c5 := r1.cell 5 (by omega)
  have f0 := r1.free 0; have f1 := r1.free 1; have f2 := r1.free 2; have f3 := r1.free 3; have f4 := r1.free 4; have f5 := r1.free 5
  clear K1 K2 K3 K4
  go_wp2_with fail
  go_region
  have rz := zeroed r1
  have bz := zeroed_below (Nat.le_refl _) B
  unfold zeros at rz bz
  generalize ((((((w3.setCell ⟨w.heap.size, 0, none⟩ (.int .i64 0)).setCell ⟨w.heap.size, 1, none⟩ (.int .i64 0)).setCell ⟨w.heap.size, 2, none⟩ (.int .i64 0)).setCell ⟨w.heap.size, 3, none⟩ (.int .i64 0)).setCell ⟨w.heap.size, 4, none⟩ (.int .i64 0)).setCell ⟨w.heap.size, 5, none⟩ (.int .i64 0)) = w5 at rz bz ⊢
  clear c0 c1 c2 c3 c4 c5 f0 f1 f2 f3 f4 f5 e1
  have c0 := rz.cell 0 (by omega); have c1 := rz.cell 1 (by omega); have c2 := rz.cell 2 (by omega); have c3 := rz.cell 3 (by omega); have c4 := rz.cell 4 (by omega); have c5 := rz.cell 5 (by omega)
  go_wp2_with fail
  exact bodyPost_ret (v := .tuple #[metaV zeroM, errOf p]) (by simp [results, Tryd.results11, go_sem, c0, c1, c2, c3, c4, c5]) rfl ⟨by rw [if_neg HN.out, if_neg HN.out], bz.drew⟩
end Go.Proofs.YtfcmhlmllcpkmaaDoor.Meta
