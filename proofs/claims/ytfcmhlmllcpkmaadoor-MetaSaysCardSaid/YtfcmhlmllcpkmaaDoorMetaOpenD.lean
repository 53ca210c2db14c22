/- The walk over package meta's Open: both sums are right. By the verifier of shale. -/
import Derived.Test.YtfcmhlmllcpkmaaDoorMetaOpen
namespace Go.Proofs.YtfcmhlmllcpkmaaDoor.Meta
open Go Go.RowKit Crc
set_option linter.unusedVariables false
/-- the six fields of block r laid, one after another. -/
def filled (w : World) (r : Nat) (m : M6) : World := ((((((w.setCell ⟨r, 0, none⟩ (.int .i64 (fld m 0))).setCell ⟨r, 1, none⟩ (.int .i64 (fld m 1))).setCell ⟨r, 2, none⟩ (.int .i64 (fld m 2))).setCell ⟨r, 3, none⟩ (.int .i64 (fld m 3))).setCell ⟨r, 4, none⟩ (.int .i64 (fld m 4))).setCell ⟨r, 5, none⟩ (.int .i64 (fld m 5)))
theorem filled_at {w : World} {r : Nat} {m : M6} {t : TypeId} (e : RecAt w r zeroM t) : RecAt (filled w r m) r m t :=
  ((((((e.setF 0 _ (by omega)).setF 1 _ (by omega)).setF 2 _ (by omega)).setF 3 _ (by omega)).setF 4 _ (by omega)).setF 5 _ (by omega))
theorem filled_below {W w : World} {r B : Nat} {m : M6} (h : B ≤ r) (b : Below B W w) : Below B W (filled w r m) :=
  (((((b.setCell h _).setCell h _).setCell h _).setCell h _).setCell h _).setCell h _
set_option maxRecDepth 100000 in
set_option maxHeartbeats 4000000 in
theorem open_sums (l d : List (BitVec 8)) (bb off cap : Nat) (v : Value) (w : World) (ht : Tab w) (hr : Row8 w bb off l) (hbb : bb < w.heap.size) (hl : l.length = 32) (hc : 32 ≤ cap) (p : Addr) (E : ErrAt w 0 p)
    (hv : Arg8 w v d) (hx : un32 (l.drop 28) = Bits32.u (crc (l.take 28))) (hy : un32 (l.drop 24) = Bits32.u (crc d)) :
    Calls Tryd.prog 11 #[.slice (some ⟨bb, off, none⟩) 32 cap, v] w (OpenAt l d p w) := by
  have HGY : Hid (decide (May (parse l)) = true → Good l d) := fun h => ⟨hl, hx, hy, of_decide_eq_true h⟩
  have HGN : Hid (decide (May (parse l)) = false → ¬ Good l d) := fun h g => of_decide_eq_false h g.2.2.2
  obtain ⟨x, ex⟩ : ∃ x, x = Bits32.u (crc (l.take 28)) := ⟨_, rfl⟩
  obtain ⟨y, ey⟩ : ∃ y, y = Bits32.u (crc d) := ⟨_, rfl⟩
  have HX2 : Hid (un32 (l.drop 28) = x) := hx.trans ex.symm
  have HY2 : Hid (un32 (l.drop 24) = y) := hy.trans ey.symm
  have EX := Lib.hid ex
  have EY := Lib.hid ey
  clear ex ey
  have q2 : IntKind.i64.wrap 24 = 24 := by decide
  have hc28 : ¬ cap = 28 := by omega
  have hc24 : ¬ cap = 24 := by omega
  have yc : (28 : Int) ≤ (cap : Int) := by omega
  have q : IntKind.i64.wrap 28 = 28 := by decide
  have b0 : Below w.heap.size w (w.alloc (.cells #[.int .i64 0, .int .i64 0, .int .i64 0, .int .i64 0, .int .i64 0, .int .i64 0] 23)) := (Below.refl _ _).alloc (Nat.le_refl _) _
  have r0 := zero_at w
  have hz1 : ¬ 0 = w.heap.size := by have := E.2.1; omega
  have hz2 : ¬ w.heap.size = 0 := by have := E.2.1; omega
  have hz3 : w.heap.size ≠ 0 := hz2
  have HE := Lib.hid E
  have HX := Lib.hid hx
  have HV := Lib.hid hv
  clear E hx hy hv
  go_enter Tryd.func11, Tryd.ntmps11
  go_wp2_with fail
  generalize w.alloc (.cells #[.int .i64 0, .int .i64 0, .int .i64 0, .int .i64 0, .int .i64 0, .int .i64 0] 23) = w1 at b0 r0 ⊢
  have rw1 := hr.below b0 hbb
  have hI : Hid (IsBytes w1 (.slice (some ⟨bb, off, none⟩) 28 cap) (l.take 28)) := .mk (by rw [List.length_take]; omega) (rw1.take 28) (Nat.lt_of_lt_of_le hbb b0.size)
  have hG : Hid (∀ W, Below w1.heap.size w1 W → Row8 W bb (off + 28) (l.drop 28)) := fun W b => (rw1.drop 28).below b (Nat.lt_of_lt_of_le hbb b0.size)
  have hG2 : Hid (∀ W, Below w1.heap.size w1 W → Row8 W bb (off + 24) (l.drop 24)) := fun W b => (rw1.drop 24).below b (Nat.lt_of_lt_of_le hbb b0.size)
  have hV1 : Hid (Arg8 w1 v d) := HV.out.since (Nat.le_refl _) b0
  have hl24 : (l.drop 24).length = 8 := by rw [List.length_drop]; omega
  have ht1 := ht.below b0 ht.lt
  have hl28 : (l.drop 28).length = 4 := by rw [List.length_drop]; omega
  have hl28' : (l.take 28).length ≤ maxLen := by rw [List.length_take]; unfold maxLen; omega
  go_wp2_with fail
  have K1 : Hid (∀ W len cap', Below w1.heap.size w1 W → 4 ≤ len → len ≤ maxLen → Calls Tryd.prog 26 #[.slice (some ⟨bb, off + 28, none⟩) len cap'] W fun e w' => e = .returned (.int .i64 x) ∧ W = w') := by
    intro W len cap' b h4 hm
    have := get_any (l.drop 28) bb (off + 28) len cap' W (hG.out _ b) h4 (by omega) hm
    rw [HX2.out] at this
    exact this
  have K2 : Hid (∀ W len cap', Below w1.heap.size w1 W → 4 ≤ len → len ≤ maxLen → Calls Tryd.prog 26 #[.slice (some ⟨bb, off + 24, none⟩) len cap'] W fun e w' => e = .returned (.int .i64 y) ∧ W = w') := by
    intro W len cap' b h4 hm
    have := get_any (l.drop 24) bb (off + 24) len cap' W (hG2.out _ b) h4 (by omega) hm
    rw [HY2.out] at this
    exact this
  have K3 : Hid (∀ W, Below w1.heap.size w1 W → Calls Tryd.prog 25 #[.slice (some ⟨bb, off, none⟩) 28 cap] W fun e w' => e = .returned (.int .i64 x) ∧ Below w1.heap.size w1 w') := by
    intro W b
    have := of_since (l := l.take 28) ht1 ⟨hI.out, hl28'⟩ b
    rw [← EX.out] at this
    exact this
  have K4 : Hid (∀ W, Below w1.heap.size w1 W → Calls Tryd.prog 25 #[v] W fun e w' => e = .returned (.int .i64 y) ∧ Below w1.heap.size w1 w') := by
    intro W b
    have := of_since (l := d) ht1 hV1.out b
    rw [← EY.out] at this
    exact this
  have HG3 : Hid (∀ k, k < 6 → ∀ W len cap', Below w1.heap.size w1 W → 4 ≤ len → len ≤ maxLen → Calls Tryd.prog 26 #[.slice (some ⟨bb, off + 4 * k, none⟩) len cap'] W fun e w' => e = .returned (.int .i64 (un32 (l.drop (4 * k)))) ∧ W = w') := by
    intro k hk W len cap' b h4 hm
    exact get_any (l.drop (4 * k)) bb (off + 4 * k) len cap' W ((rw1.drop (4 * k)).below b (Nat.lt_of_lt_of_le hbb b0.size)) h4 (by rw [List.length_drop]; omega) hm
  clear HX2 EX EY HX HY2 hI hG hG2 hV1 hl28 hl28' hl24 HV hr rw1 ht
  go_region_held3 (fun w' => Below w1.heap.size w1 w') (first | assumption | exact Below.refl _ _ | exact Below.drew (by assumption) | exact (Below.refl _ _).drew)
    (first
      | (go_at_call 26; with_reducible refine Calls.mono (K1.out _ _ _ (by assumption) (by omega) (by decide)) ?_; rintro e w2 ⟨rfl, rfl⟩)
      | (go_at_call 26; with_reducible refine Calls.mono (K2.out _ _ _ (by assumption) (by omega) (by decide)) ?_; rintro e w2 ⟨rfl, rfl⟩)
      | (go_at_call 25; with_reducible refine Calls.mono (K3.out _ (by assumption)) ?_; rintro e w3 ⟨rfl, b3⟩)
      | (go_at_call 25; with_reducible refine Calls.mono (K4.out _ (by assumption)) ?_; rintro e w3 ⟨rfl, b4⟩))
  clear K1 K2 K3 K4
  have B0 := b0
  have B4 := b0.trans (b4.mono b0.size)
  have r1 := r0.below b4 r0.lt
  have lt1 := r1.lt
  clear b0 r0
  go_wp2_with fail
  have r2 := r1.below ((Below.refl w3.heap.size w3).alloc (Nat.le_refl _) (.cells #[.int .i64 0, .int .i64 0, .int .i64 0, .int .i64 0, .int .i64 0, .int .i64 0] 47)) lt1
  have rr := rec_zero w3
  have b5 := (Below.refl w3.heap.size w3).alloc (Nat.le_refl _) (.cells #[.int .i64 0, .int .i64 0, .int .i64 0, .int .i64 0, .int .i64 0, .int .i64 0] 47)
  have B5 := b4.trans (b5.mono b4.size)
  have hrr : w1.heap.size ≤ w3.heap.size := b4.size
  generalize w3.alloc (.cells #[.int .i64 0, .int .i64 0, .int .i64 0, .int .i64 0, .int .i64 0, .int .i64 0] 47) = w4 at r2 rr b5 B5 ⊢
  generalize w3.heap.size = r at rr lt1 hrr b5 ⊢
  refine (fields_any w4).mono ?_
  rintro e w5 ⟨fb, rfl, fb1, fb2, fc, b6⟩
  have r3 := r2.below b6 r2.lt
  have rr3 := rr.below b6 rr.lt
  have hfr : fb ≠ r := by have := rr.lt; omega
  have hAr : w.heap.size ≠ r := by omega
  have B6 := B5.trans (b6.mono B5.size)
  have HF := Lib.hid fc
  clear fc fb1 fb2 b6 b5 B5 r1 r2 rr
  go_wp2_with fail
  go_loopg [33] 6 (fun gh s33 wx => ∃ k : Nat, gh = 6 - k ∧ k ≤ 6 ∧ s33 = .int .i64 (k : Int) ∧ RecAt wx r (part l k) 47 ∧ Only r w5 wx)
  case atStart => exact ⟨0, rfl, by omega, rfl, rr3, Only.refl _ _⟩
  case round =>
    obtain ⟨k, hg, hk, rfl, hR, hO⟩ := hrel
    have HG := Lib.hid hg
    clear hg rr3
    have B7 : Below w1.heap.size w1 wr := B6.trans (hO.below hrr)
    by_cases hlt : k < 6
    · have c0 := (hO.cell (p := ⟨fb, k, none⟩) hfr).trans (HF.out k hlt)
      have c1 := hR.cell k hlt
      have f1 := hR.free k
      have HK := Lib.hid (HG3.out k hlt)
      obtain ⟨g2, hg2⟩ : ∃ g2, g2 = 6 - (k + 1) := ⟨_, rfl⟩
      have HG2 := Lib.hid hg2
      have HR2 := Lib.hid (fun x => RecAt.setF (w := wr) hR k x hlt)
      clear hg2
      have hck : ¬ cap = 4 * k := by omega
      rcases (by omega : k = 0 ∨ k = 1 ∨ k = 2 ∨ k = 3 ∨ k = 4 ∨ k = 5) with rfl | rfl | rfl | rfl | rfl | rfl
      all_goals
        unfold fnOf at c0
        simp only [Nat.mul_zero, Nat.add_zero, Nat.reduceMul] at HK hck
        go_wp2_with fail
      · have q : IntKind.i64.wrap 0 = 0 := by decide
        go_region_held3 (fun w' => Below w1.heap.size w1 w') (first | assumption | exact Below.drew (by assumption) | exact Below.drew (Below.setCell (by assumption) hrr _))
          (first
            | (go_at_call 31; refine Calls.mono (kind_any _ _) ?_; rintro e w' ⟨rfl, rfl⟩)
            | (go_at_call 26; with_reducible refine Calls.mono (HK.out _ _ _ (by assumption) (by omega) (by decide)) ?_; rintro e w' ⟨rfl, rfl⟩))
        go_wp2_with fail
        go_roundg g2
        case measure => have := HG.out; have := HG2.out; omega
        case rel => exact ⟨_, HG2.out, by omega, rfl, HR2.out _, hO.trans (Only.setCell _ ⟨r, 0, none⟩ _).drew⟩
      · have q : IntKind.i64.wrap 4 = 4 := by decide
        go_region_held3 (fun w' => Below w1.heap.size w1 w') (first | assumption | exact Below.drew (by assumption) | exact Below.drew (Below.setCell (by assumption) hrr _))
          (first
            | (go_at_call 32; refine Calls.mono (key_any _ _) ?_; rintro e w' ⟨rfl, rfl⟩)
            | (go_at_call 26; with_reducible refine Calls.mono (HK.out _ _ _ (by assumption) (by omega) (by decide)) ?_; rintro e w' ⟨rfl, rfl⟩))
        go_wp2_with fail
        go_roundg g2
        case measure => have := HG.out; have := HG2.out; omega
        case rel => exact ⟨_, HG2.out, by omega, rfl, HR2.out _, hO.trans (Only.setCell _ ⟨r, 1, none⟩ _).drew⟩
      · have q : IntKind.i64.wrap 8 = 8 := by decide
        go_region_held3 (fun w' => Below w1.heap.size w1 w') (first | assumption | exact Below.drew (by assumption) | exact Below.drew (Below.setCell (by assumption) hrr _))
          (first
            | (go_at_call 33; refine Calls.mono (seq_any _ _) ?_; rintro e w' ⟨rfl, rfl⟩)
            | (go_at_call 26; with_reducible refine Calls.mono (HK.out _ _ _ (by assumption) (by omega) (by decide)) ?_; rintro e w' ⟨rfl, rfl⟩))
        go_wp2_with fail
        go_roundg g2
        case measure => have := HG.out; have := HG2.out; omega
        case rel => exact ⟨_, HG2.out, by omega, rfl, HR2.out _, hO.trans (Only.setCell _ ⟨r, 2, none⟩ _).drew⟩
      · have q : IntKind.i64.wrap 12 = 12 := by decide
        go_region_held3 (fun w' => Below w1.heap.size w1 w') (first | assumption | exact Below.drew (by assumption) | exact Below.drew (Below.setCell (by assumption) hrr _))
          (first
            | (go_at_call 34; refine Calls.mono (stamp_any _ _) ?_; rintro e w' ⟨rfl, rfl⟩)
            | (go_at_call 26; with_reducible refine Calls.mono (HK.out _ _ _ (by assumption) (by omega) (by decide)) ?_; rintro e w' ⟨rfl, rfl⟩))
        go_wp2_with fail
        go_roundg g2
        case measure => have := HG.out; have := HG2.out; omega
        case rel => exact ⟨_, HG2.out, by omega, rfl, HR2.out _, hO.trans (Only.setCell _ ⟨r, 3, none⟩ _).drew⟩
      · have q : IntKind.i64.wrap 16 = 16 := by decide
        go_region_held3 (fun w' => Below w1.heap.size w1 w') (first | assumption | exact Below.drew (by assumption) | exact Below.drew (Below.setCell (by assumption) hrr _))
          (first
            | (go_at_call 35; refine Calls.mono (batch_any _ _) ?_; rintro e w' ⟨rfl, rfl⟩)
            | (go_at_call 26; with_reducible refine Calls.mono (HK.out _ _ _ (by assumption) (by omega) (by decide)) ?_; rintro e w' ⟨rfl, rfl⟩))
        go_wp2_with fail
        go_roundg g2
        case measure => have := HG.out; have := HG2.out; omega
        case rel => exact ⟨_, HG2.out, by omega, rfl, HR2.out _, hO.trans (Only.setCell _ ⟨r, 4, none⟩ _).drew⟩
      · have q : IntKind.i64.wrap 20 = 20 := by decide
        go_region_held3 (fun w' => Below w1.heap.size w1 w') (first | assumption | exact Below.drew (by assumption) | exact Below.drew (Below.setCell (by assumption) hrr _))
          (first
            | (go_at_call 36; refine Calls.mono (floor_any _ _) ?_; rintro e w' ⟨rfl, rfl⟩)
            | (go_at_call 26; with_reducible refine Calls.mono (HK.out _ _ _ (by assumption) (by omega) (by decide)) ?_; rintro e w' ⟨rfl, rfl⟩))
        go_wp2_with fail
        go_roundg g2
        case measure => have := HG.out; have := HG2.out; omega
        case rel => exact ⟨_, HG2.out, by omega, rfl, HR2.out _, hO.trans (Only.setCell _ ⟨r, 5, none⟩ _).drew⟩
    · obtain rfl : k = 6 := by omega
      have c0 := hR.cell 0 (by omega); have c1 := hR.cell 1 (by omega); have c2 := hR.cell 2 (by omega); have c3 := hR.cell 3 (by omega); have c4 := hR.cell 4 (by omega); have c5 := hR.cell 5 (by omega)
      rw [part_six] at hR c0 c1 c2 c3 c4 c5
      have r4 : RecAt wr w.heap.size zeroM 23 := (hO.block w.heap.size hAr).trans r3
      have B8 : Below w.heap.size w wr := B0.trans (B7.mono B0.size)
      clear hO HG HF HG3 B7
      go_wp2_with fail
      refine (may_any (parse l) wr).mono ?_
      rintro e w6 ⟨rfl, b9⟩
      have r5 := r4.below b9 r4.lt
      have rr5 := hR.below b9 hR.lt
      have B9 := B8.trans (b9.mono B8.size)
      clear c0 c1 c2 c3 c4 c5 r4 hR b9 B8
      have e1 := (HE.out.below B9).1
      unfold Sent at e1
      have c0 := r5.cell 0 (by omega); have c1 := r5.cell 1 (by omega); have c2 := r5.cell 2 (by omega); have c3 := r5.cell 3 (by omega); have c4 := r5.cell 4 (by omega); have c5 := r5.cell 5 (by omega)
      have f0 := r5.free 0; have f1 := r5.free 1; have f2 := r5.free 2; have f3 := r5.free 3; have f4 := r5.free 4; have f5 := r5.free 5
      have d0 := rr5.cell 0 (by omega); have d1 := rr5.cell 1 (by omega); have d2 := rr5.cell 2 (by omega); have d3 := rr5.cell 3 (by omega); have d4 := rr5.cell 4 (by omega); have d5 := rr5.cell 5 (by omega)
      rcases Bool.eq_false_or_eq_true (decide (May (parse l))) with hm | hm
      · have HGd := Lib.hid (HGY.out hm)
        rw [hm]
        clear hm e1
        go_wp2_with fail
        have rz := filled_at (m := parse l) r5
        have bz := filled_below (m := parse l) (Nat.le_refl _) B9
        unfold filled at rz bz
        generalize ((((((w6.setCell ⟨w.heap.size, 0, none⟩ (.int .i64 (fld (parse l) 0))).setCell ⟨w.heap.size, 1, none⟩ (.int .i64 (fld (parse l) 1))).setCell ⟨w.heap.size, 2, none⟩ (.int .i64 (fld (parse l) 2))).setCell ⟨w.heap.size, 3, none⟩ (.int .i64 (fld (parse l) 3))).setCell ⟨w.heap.size, 4, none⟩ (.int .i64 (fld (parse l) 4))).setCell ⟨w.heap.size, 5, none⟩ (.int .i64 (fld (parse l) 5))) = w7 at rz bz ⊢
        clear c0 c1 c2 c3 c4 c5 f0 f1 f2 f3 f4 f5 d0 d1 d2 d3 d4 d5
        have c0 := rz.cell 0 (by omega); have c1 := rz.cell 1 (by omega); have c2 := rz.cell 2 (by omega); have c3 := rz.cell 3 (by omega); have c4 := rz.cell 4 (by omega); have c5 := rz.cell 5 (by omega)
        exact bodyPost_ret (v := .tuple #[metaV (parse l), .nilIface]) (by simp [results, Tryd.results11, go_sem, c0, c1, c2, c3, c4, c5]) rfl ⟨by rw [if_pos HGd.out, if_pos HGd.out], bz⟩
      · have HN := Lib.hid (HGN.out hm)
        rw [hm]
        clear hm
        go_wp2_with fail
        go_region
        have rz := zeroed r5
        have bz := zeroed_below (Nat.le_refl _) B9
        unfold zeros at rz bz
        generalize ((((((w6.setCell ⟨w.heap.size, 0, none⟩ (.int .i64 0)).setCell ⟨w.heap.size, 1, none⟩ (.int .i64 0)).setCell ⟨w.heap.size, 2, none⟩ (.int .i64 0)).setCell ⟨w.heap.size, 3, none⟩ (.int .i64 0)).setCell ⟨w.heap.size, 4, none⟩ (.int .i64 0)).setCell ⟨w.heap.size, 5, none⟩ (.int .i64 0)) = w7 at rz bz ⊢
        clear c0 c1 c2 c3 c4 c5 f0 f1 f2 f3 f4 f5 e1 d0 d1 d2 d3 d4 d5
        have c0 := rz.cell 0 (by omega); have c1 := rz.cell 1 (by omega); have c2 := rz.cell 2 (by omega); have c3 := rz.cell 3 (by omega); have c4 := rz.cell 4 (by omega); have c5 := rz.cell 5 (by omega)
        go_wp2_with fail
        exact bodyPost_ret (v := .tuple #[metaV zeroM, errOf p]) (by simp [results, Tryd.results11, go_sem, c0, c1, c2, c3, c4, c5]) rfl ⟨by rw [if_neg HN.out, if_neg HN.out], bz.drew⟩
end Go.Proofs.YtfcmhlmllcpkmaaDoor.Meta
