/- The walk over MetaOrder. By the verifier of shale. -/
import Derived.Test.YtfcmhlmllcpkmaaDoorMetaFirst
import Derived.Test.YtfcmhlmllcpkmaaDoorLaidMetaOrder
namespace Go.Proofs.YtfcmhlmllcpkmaaDoor.walkMetaOrder
open Go Go.RowKit Crc Meta
set_option linter.unusedVariables false
theorem newer_trans {a b c : M6} (h : newer a b = true) (k : newer b c = true) : newer a c = true := by
  unfold newer at *
  rw [decide_eq_true_eq] at *
  omega
theorem alive_more {a : M6} {fl m : Int} (h : alive a fl = true) : alive a (max fl m) = true := by
  unfold alive at *
  rw [decide_eq_true_eq] at *
  omega
theorem alive_le {a : M6} {fl m : Int} (h : alive a fl = true) (hm : fl ≤ m) : alive a m = true := by
  unfold alive at *
  rw [decide_eq_true_eq] at *
  omega
/-- the three records in blocks of their own. -/
def Three (w w' : World) (a b c : M6) : Prop := RecAt w' w.heap.size a 23 ∧ RecAt w' (w.heap.size + 1) b 23 ∧ RecAt w' (w.heap.size + 1 + 1) c 23 ∧ Below w.heap.size w w'
theorem three (w : World) (a b c : M6) : Three w (((w.alloc (.cells #[.int .i64 (fld a 0), .int .i64 (fld a 1), .int .i64 (fld a 2), .int .i64 (fld a 3), .int .i64 (fld a 4), .int .i64 (fld a 5)] 23)).alloc (.cells #[.int .i64 (fld b 0), .int .i64 (fld b 1), .int .i64 (fld b 2), .int .i64 (fld b 3), .int .i64 (fld b 4), .int .i64 (fld b 5)] 23)).alloc (.cells #[.int .i64 (fld c 0), .int .i64 (fld c 1), .int .i64 (fld c 2), .int .i64 (fld c 3), .int .i64 (fld c 4), .int .i64 (fld c 5)] 23)) a b c := by
  obtain ⟨h1, h2, B⟩ := rec_two w a b
  have h3 := rec_new ((w.alloc (.cells #[.int .i64 (fld a 0), .int .i64 (fld a 1), .int .i64 (fld a 2), .int .i64 (fld a 3), .int .i64 (fld a 4), .int .i64 (fld a 5)] 23)).alloc (.cells #[.int .i64 (fld b 0), .int .i64 (fld b 1), .int .i64 (fld b 2), .int .i64 (fld b 3), .int .i64 (fld b 4), .int .i64 (fld b 5)] 23)) c 23
  rw [World.size_alloc, World.size_alloc] at h3
  exact ⟨(Below.heap_alloc _ _ _ (by simp only [World.size_alloc]; omega)).trans h1, (Below.heap_alloc _ _ _ (by simp only [World.size_alloc]; omega)).trans h2, h3, B.alloc (by simp only [World.size_alloc]; omega) _⟩
set_option maxRecDepth 100000 in
set_option maxHeartbeats 2000000 in
theorem order_any (a b c : M6) (fl more : Int) (w : World) (ht : Tab w) (p : Addr) (E : ErrAt w 0 p) :
    Calls Tryd.prog 6 #[metaV a, metaV b, metaV c, .int .i64 fl, .int .i64 more] w fun e w' => e = .returned (.bool true) ∧ Below w.heap.size w w' := by
  have HL := Lib.hid (three w a b c)
  have HE := Lib.hid E
  clear E
  go_enter Tryd.func6, Tryd.ntmps6
  go_wp2_with fail
  obtain ⟨h1, h2, h3, B⟩ := HL.out
  clear HL
  generalize ((w.alloc (.cells #[.int .i64 (fld a 0), .int .i64 (fld a 1), .int .i64 (fld a 2), .int .i64 (fld a 3), .int .i64 (fld a 4), .int .i64 (fld a 5)] 23)).alloc (.cells #[.int .i64 (fld b 0), .int .i64 (fld b 1), .int .i64 (fld b 2), .int .i64 (fld b 3), .int .i64 (fld b 4), .int .i64 (fld b 5)] 23)).alloc (.cells #[.int .i64 (fld c 0), .int .i64 (fld c 1), .int .i64 (fld c 2), .int .i64 (fld c 3), .int .i64 (fld c 4), .int .i64 (fld c 5)] 23) = w1 at h1 h2 h3 B ⊢
  refine (first_any w1 (ht.below B ht.lt) p (HE.out.below B)).mono ?_
  rintro e w2 ⟨rfl, b2⟩
  have r1 := h1.below b2 h1.lt; have r2 := h2.below b2 h2.lt; have r3 := h3.below b2 h3.lt
  have B2 := B.trans (b2.mono B.size)
  have a0 := r1.cell 0 (by omega); have a1 := r1.cell 1 (by omega); have a2 := r1.cell 2 (by omega); have a3 := r1.cell 3 (by omega); have a4 := r1.cell 4 (by omega); have a5 := r1.cell 5 (by omega)
  have c0 := r2.cell 0 (by omega); have c1 := r2.cell 1 (by omega); have c2 := r2.cell 2 (by omega); have c3 := r2.cell 3 (by omega); have c4 := r2.cell 4 (by omega); have c5 := r2.cell 5 (by omega)
  clear h1 h2 h3 b2 B
  go_wp2_with fail
  refine (newer_any a b w2).mono ?_
  rintro e w3 ⟨rfl, b3⟩
  have HA := Lib.hid (newer_trans (a := a) (b := b) (c := c))
  have cases5 : (newer a b = true ∧ newer b a = false ∧ ((fld a 2 == fld b 2) = false ∨ ((fld a 2 == fld b 2) = true ∧ (fld a 3 == fld b 3) = false))) ∨ (newer a b = false ∧ newer b a = true ∧ ((fld a 2 == fld b 2) = false ∨ ((fld a 2 == fld b 2) = true ∧ (fld a 3 == fld b 3) = false))) ∨ (newer a b = false ∧ newer b a = false ∧ (fld a 2 == fld b 2) = true ∧ (fld a 3 == fld b 3) = true) := by
    show (newer a b = true ∧ newer b a = false ∧ ((a.seq == b.seq) = false ∨ ((a.seq == b.seq) = true ∧ (a.stamp == b.stamp) = false))) ∨ (newer a b = false ∧ newer b a = true ∧ ((a.seq == b.seq) = false ∨ ((a.seq == b.seq) = true ∧ (a.stamp == b.stamp) = false))) ∨ (newer a b = false ∧ newer b a = false ∧ (a.seq == b.seq) = true ∧ (a.stamp == b.stamp) = true)
    simp only [newer, decide_eq_true_eq, decide_eq_false_iff_not, beq_iff_eq, beq_eq_false_iff_ne]
    omega
  replace r1 := r1.below b3 r1.lt; replace r2 := r2.below b3 r2.lt; replace r3 := r3.below b3 r3.lt
  have B3 := B2.trans (b3.mono B2.size)
  clear a0 a1 a2 a3 a4 a5 c0 c1 c2 c3 c4 c5 b3 B2
  have a0 := r1.cell 0 (by omega)
  have a1 := r1.cell 1 (by omega)
  have a2 := r1.cell 2 (by omega)
  have a3 := r1.cell 3 (by omega)
  have a4 := r1.cell 4 (by omega)
  have a5 := r1.cell 5 (by omega)
  have c0 := r2.cell 0 (by omega)
  have c1 := r2.cell 1 (by omega)
  have c2 := r2.cell 2 (by omega)
  have c3 := r2.cell 3 (by omega)
  have c4 := r2.cell 4 (by omega)
  have c5 := r2.cell 5 (by omega)
  rcases cases5 with ⟨o1, o2, o3⟩ | ⟨o1, o2, o3⟩ | ⟨o1, o2, o3, o4⟩
  all_goals
    have HO1 := Lib.hid o1
    have HO2 := Lib.hid o2
    rw [o1]
    clear o1 o2
    go_wp2_with fail
    refine (newer_any b a _).mono ?_
    rintro e w4 ⟨rfl, b4⟩
    rw [HO2.out]
    replace r1 := r1.below b4 r1.lt; replace r2 := r2.below b4 r2.lt; replace r3 := r3.below b4 r3.lt
    have B4 := B3.trans (b4.mono B3.size)
    clear b4 B3 a0 a1 a2 a3 a4 a5 c0 c1 c2 c3 c4 c5
    have a0 := r1.cell 0 (by omega)
    have a1 := r1.cell 1 (by omega)
    have a2 := r1.cell 2 (by omega)
    have a3 := r1.cell 3 (by omega)
    have a4 := r1.cell 4 (by omega)
    have a5 := r1.cell 5 (by omega)
    have c0 := r2.cell 0 (by omega)
    have c1 := r2.cell 1 (by omega)
    have c2 := r2.cell 2 (by omega)
    have c3 := r2.cell 3 (by omega)
    have c4 := r2.cell 4 (by omega)
    have c5 := r2.cell 5 (by omega)
    have d0 := r3.cell 0 (by omega)
    have d1 := r3.cell 1 (by omega)
    have d2 := r3.cell 2 (by omega)
    have d3 := r3.cell 3 (by omega)
    have d4 := r3.cell 4 (by omega)
    have d5 := r3.cell 5 (by omega)
  all_goals
    have HM := Lib.hid (alive_more (a := a) (fl := fl) (m := more))
    rcases Bool.eq_false_or_eq_true (alive a fl) with hf | hf
  all_goals
    have HF := Lib.hid hf
    rcases Bool.eq_false_or_eq_true (newer b c) with hbc | hbc
  all_goals
    have HBC := Lib.hid hbc
    first
    | (have HAC : Hid (newer a c = true) := HA.out HO1.out hbc)
    | skip
    clear hf hbc
  all_goals
    first
    | (rcases o3 with o3 | ⟨o3, o4⟩)
    | skip
  all_goals
    go_wp2_with (first
      | (go_at_call 18; (with_reducible refine (newer_any b c _).mono ?_); rintro e w5 ⟨rfl, b5⟩; rw [HBC.out]; replace r1 := r1.below b5 r1.lt; replace r2 := r2.below b5 r2.lt; replace r3 := r3.below b5 r3.lt; replace B4 := B4.trans (b5.mono B4.size); replace a0 := r1.cell 0 (by omega); replace a1 := r1.cell 1 (by omega); replace a2 := r1.cell 2 (by omega); replace a3 := r1.cell 3 (by omega); replace a4 := r1.cell 4 (by omega); replace a5 := r1.cell 5 (by omega); replace c0 := r2.cell 0 (by omega); replace c1 := r2.cell 1 (by omega); replace c2 := r2.cell 2 (by omega); replace c3 := r2.cell 3 (by omega); replace c4 := r2.cell 4 (by omega); replace c5 := r2.cell 5 (by omega); replace d0 := r3.cell 0 (by omega); replace d1 := r3.cell 1 (by omega); replace d2 := r3.cell 2 (by omega); replace d3 := r3.cell 3 (by omega); replace d4 := r3.cell 4 (by omega); replace d5 := r3.cell 5 (by omega); clear b5)
      | (go_at_call 18; (with_reducible refine (newer_any a c _).mono ?_); rintro e w6 ⟨rfl, b6⟩; rw [HAC.out]; replace r1 := r1.below b6 r1.lt; replace r2 := r2.below b6 r2.lt; replace r3 := r3.below b6 r3.lt; replace B4 := B4.trans (b6.mono B4.size); replace a0 := r1.cell 0 (by omega); replace a1 := r1.cell 1 (by omega); replace a2 := r1.cell 2 (by omega); replace a3 := r1.cell 3 (by omega); replace a4 := r1.cell 4 (by omega); replace a5 := r1.cell 5 (by omega); replace c0 := r2.cell 0 (by omega); replace c1 := r2.cell 1 (by omega); replace c2 := r2.cell 2 (by omega); replace c3 := r2.cell 3 (by omega); replace c4 := r2.cell 4 (by omega); replace c5 := r2.cell 5 (by omega); replace d0 := r3.cell 0 (by omega); replace d1 := r3.cell 1 (by omega); replace d2 := r3.cell 2 (by omega); replace d3 := r3.cell 3 (by omega); replace d4 := r3.cell 4 (by omega); replace d5 := r3.cell 5 (by omega); clear b6)
      | (go_at_call 20; (with_reducible refine (alive_any a fl _).mono ?_); rintro e w7 ⟨rfl, b7⟩; rw [HF.out]; replace r1 := r1.below b7 r1.lt; replace r2 := r2.below b7 r2.lt; replace r3 := r3.below b7 r3.lt; replace B4 := B4.trans (b7.mono B4.size); replace a0 := r1.cell 0 (by omega); replace a1 := r1.cell 1 (by omega); replace a2 := r1.cell 2 (by omega); replace a3 := r1.cell 3 (by omega); replace a4 := r1.cell 4 (by omega); replace a5 := r1.cell 5 (by omega); replace c0 := r2.cell 0 (by omega); replace c1 := r2.cell 1 (by omega); replace c2 := r2.cell 2 (by omega); replace c3 := r2.cell 3 (by omega); replace c4 := r2.cell 4 (by omega); replace c5 := r2.cell 5 (by omega); replace d0 := r3.cell 0 (by omega); replace d1 := r3.cell 1 (by omega); replace d2 := r3.cell 2 (by omega); replace d3 := r3.cell 3 (by omega); replace d4 := r3.cell 4 (by omega); replace d5 := r3.cell 5 (by omega); clear b7)
      | (go_at_call 20; (with_reducible refine (alive_any a _ _).mono ?_); rintro e w8 ⟨rfl, b8⟩; replace r1 := r1.below b8 r1.lt; replace r2 := r2.below b8 r2.lt; replace r3 := r3.below b8 r3.lt; replace B4 := B4.trans (b8.mono B4.size); replace a0 := r1.cell 0 (by omega); replace a1 := r1.cell 1 (by omega); replace a2 := r1.cell 2 (by omega); replace a3 := r1.cell 3 (by omega); replace a4 := r1.cell 4 (by omega); replace a5 := r1.cell 5 (by omega); replace c0 := r2.cell 0 (by omega); replace c1 := r2.cell 1 (by omega); replace c2 := r2.cell 2 (by omega); replace c3 := r2.cell 3 (by omega); replace c4 := r2.cell 4 (by omega); replace c5 := r2.cell 5 (by omega); replace d0 := r3.cell 0 (by omega); replace d1 := r3.cell 1 (by omega); replace d2 := r3.cell 2 (by omega); replace d3 := r3.cell 3 (by omega); replace d4 := r3.cell 4 (by omega); replace d5 := r3.cell 5 (by omega); clear b8))
  all_goals
    first
    | (go_ret; exact ⟨rfl, by assumption⟩)
    | (go_ret; exact ⟨ret_bool (alive_le HF.out (by omega)), by assumption⟩)
theorem walk (n0 n1 n2 : Nat → Int) (a3 a4 : Int) (W : World) (w0 : ∀ i, i < 6 → (Lit.int .i64 (n0 i)).wf = true) (w1 : ∀ i, i < 6 → (Lit.int .i64 (n1 i)).wf = true) (w2 : ∀ i, i < 6 → (Lit.int .i64 (n2 i)).wf = true)
    (w3 : (Lit.int .i64 a3).wf = true) (w4 : (Lit.int .i64 a4).wf = true) (h : LaidMetaOrder.Holds W) :
    Calls Tryd.prog 6 #[.agg ((List.range 6).map fun i => .int .i64 (n0 i)).toArray, .agg ((List.range 6).map fun i => .int .i64 (n1 i)).toArray, .agg ((List.range 6).map fun i => .int .i64 (n2 i)).toArray, .int .i64 a3, .int .i64 a4] W
      fun e w' => e = .returned (.bool true) ∧ Below W.heap.size W w' := by
  obtain ⟨ht, f, hf, _⟩ := h
  exact order_any ⟨n0 0, n0 1, n0 2, n0 3, n0 4, n0 5⟩ ⟨n1 0, n1 1, n1 2, n1 3, n1 4, n1 5⟩ ⟨n2 0, n2 1, n2 2, n2 3, n2 4, n2 5⟩ a3 a4 W ht _ hf
end Go.Proofs.YtfcmhlmllcpkmaaDoor.walkMetaOrder
