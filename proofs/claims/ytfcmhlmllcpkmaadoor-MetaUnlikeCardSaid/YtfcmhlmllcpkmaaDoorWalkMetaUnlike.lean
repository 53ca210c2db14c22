/- The walk over MetaUnlike. By the verifier of shale. -/
import Derived.Test.YtfcmhlmllcpkmaaDoorMetaFirst
import Derived.Test.YtfcmhlmllcpkmaaDoorMetaAll
import Derived.Test.YtfcmhlmllcpkmaaDoorRefSame
import Derived.Test.YtfcmhlmllcpkmaaDoorLaidMetaUnlike
namespace Go.Proofs.YtfcmhlmllcpkmaaDoor.walkMetaUnlike
open Go Go.RowKit Crc Meta
set_option linter.unusedVariables false
set_option maxRecDepth 100000 in
set_option maxHeartbeats 2000000 in
/-- bytes that are too long: nothing is asked. -/
theorem unlike_long (m n : M6) (p2 p3 : Option Addr) (n2 c2 n3 c3 : Nat) (w : World) (ht : Tab w) (p : Addr) (E : ErrAt w 0 p) (h : 2000 < n2 ∨ (n2 ≤ 2000 ∧ 2000 < n3)) :
    Calls Tryd.prog 7 #[metaV m, metaV n, .slice p2 n2 c2, .slice p3 n3 c3] w fun e w' => e = .returned (.bool true) ∧ Below w.heap.size w w' := by
  have HL := Lib.hid (rec_two w m n)
  have HE := Lib.hid E
  have hc : (decide ((2000 : Int) < (n2 : Int)) = true) ∨ (decide ((2000 : Int) < (n2 : Int)) = false ∧ decide ((2000 : Int) < (n3 : Int)) = true) := by
    rcases h with h | ⟨h, h'⟩
    · exact Or.inl (decide_eq_true (by omega))
    · exact Or.inr ⟨decide_eq_false (by omega), decide_eq_true (by omega)⟩
  clear E h
  rcases hc with t1 | ⟨t1, t2⟩
  all_goals
    go_enter Tryd.func7, Tryd.ntmps7
    go_wp2_with fail
    obtain ⟨h1, h2, B⟩ := HL.out
    clear HL
    generalize (w.alloc (.cells #[.int .i64 (fld m 0), .int .i64 (fld m 1), .int .i64 (fld m 2), .int .i64 (fld m 3), .int .i64 (fld m 4), .int .i64 (fld m 5)] 23)).alloc (.cells #[.int .i64 (fld n 0), .int .i64 (fld n 1), .int .i64 (fld n 2), .int .i64 (fld n 3), .int .i64 (fld n 4), .int .i64 (fld n 5)] 23) = w1 at h1 h2 B ⊢
    refine (first_any w1 (ht.below B ht.lt) p (HE.out.below B)).mono ?_
    rintro e w2 ⟨rfl, b2⟩
    have B2 := B.trans (b2.mono B.size)
    clear h1 h2 b2 B
    go_wp2_with fail
    go_ret
    exact ⟨rfl, B2⟩
set_option maxRecDepth 100000 in
set_option maxHeartbeats 4000000 in
theorem unlike_core (m n : M6) (d o : List (BitVec 8)) (p2 p3 : Option Addr) (n2 c2 n3 c3 : Nat) (w : World) (ht : Tab w) (p : Addr) (E : ErrAt w 0 p)
    (k2 : n2 ≤ 2000) (k3 : n3 ≤ 2000) (a2 : Arg8 w (.slice p2 n2 c2) d) (a3 : Arg8 w (.slice p3 n3 c3) o) :
    Calls Tryd.prog 7 #[metaV m, metaV n, .slice p2 n2 c2, .slice p3 n3 c3] w fun e w' => e = .returned (.bool true) ∧ Below w.heap.size w w' := by
  have HL := Lib.hid (rec_two w m n)
  have HE := Lib.hid E
  have H2 := Lib.hid a2
  have H3 := Lib.hid a3
  have t1 : decide ((2000 : Int) < (n2 : Int)) = false := decide_eq_false (by omega)
  have t2 : decide ((2000 : Int) < (n3 : Int)) = false := decide_eq_false (by omega)
  clear E a2 a3
  go_enter Tryd.func7, Tryd.ntmps7
  go_wp2_with fail
  obtain ⟨h1, h2, B⟩ := HL.out
  clear HL
  generalize (w.alloc (.cells #[.int .i64 (fld m 0), .int .i64 (fld m 1), .int .i64 (fld m 2), .int .i64 (fld m 3), .int .i64 (fld m 4), .int .i64 (fld m 5)] 23)).alloc (.cells #[.int .i64 (fld n 0), .int .i64 (fld n 1), .int .i64 (fld n 2), .int .i64 (fld n 3), .int .i64 (fld n 4), .int .i64 (fld n 5)] 23) = w1 at h1 h2 B ⊢
  refine (first_any w1 (ht.below B ht.lt) p (HE.out.below B)).mono ?_
  rintro e w2 ⟨rfl, b2⟩
  have r1 := h1.below b2 h1.lt; have r2 := h2.below b2 h2.lt
  have B2 := B.trans (b2.mono B.size)
  have f0 := r1.cell 0 (by omega); have f1 := r1.cell 1 (by omega); have f2 := r1.cell 2 (by omega); have f3 := r1.cell 3 (by omega); have f4 := r1.cell 4 (by omega); have f5 := r1.cell 5 (by omega)
  have g0 := r2.cell 0 (by omega); have g1 := r2.cell 1 (by omega); have g2 := r2.cell 2 (by omega); have g3 := r2.cell 3 (by omega); have g4 := r2.cell 4 (by omega); have g5 := r2.cell 5 (by omega)
  clear h1 h2 b2 B
  go_wp2_with fail
  rcases Decidable.em (May m) with hm | hm
  · have HM := Lib.hid hm
    refine (bytes_yes m hm d _ w2 (ht.below B2 ht.lt) (H2.out.since (Nat.le_refl _) B2)).mono ?_
    rintro e w3 ⟨g1', rfl, hb1, hg1, b3⟩
    have q1 := r1.below b3 r1.lt; have q2 := r2.below b3 r2.lt
    have B3 := B2.trans (b3.mono B2.size)
    clear hm r1 r2 f0 f1 f2 f3 f4 f5 g0 g1 g2 g3 g4 g5 b3 B2
    have f0 := q1.cell 0 (by omega); have f1 := q1.cell 1 (by omega); have f2 := q1.cell 2 (by omega); have f3 := q1.cell 3 (by omega); have f4 := q1.cell 4 (by omega); have f5 := q1.cell 5 (by omega)
    have g0 := q2.cell 0 (by omega); have g1 := q2.cell 1 (by omega); have g2 := q2.cell 2 (by omega); have g3 := q2.cell 3 (by omega); have g4 := q2.cell 4 (by omega); have g5 := q2.cell 5 (by omega)
    go_wp2_with fail
    rcases Decidable.em (May n) with hn | hn
    · have HN := Lib.hid hn
      refine (bytes_yes n hn d _ w3 (ht.below B3 ht.lt) (H2.out.since (Nat.le_refl _) B3)).mono ?_
      rintro e w4 ⟨g2', rfl, hb2, hg2, b4⟩
      have r1 := q1.below b4 q1.lt; have r2 := q2.below b4 q2.lt
      have hb1' : Blk8 w4 g1' (rec32 m d) := (b4.block _ hb1.lt).trans hb1
      have B4 := B3.trans (b4.mono B3.size)
      clear hn q1 q2 f0 f1 f2 f3 f4 f5 g0 g1 g2 g3 g4 g5 b4 B3 hb1
      have f0 := r1.cell 0 (by omega); have f1 := r1.cell 1 (by omega); have f2 := r1.cell 2 (by omega); have f3 := r1.cell 3 (by omega); have f4 := r1.cell 4 (by omega); have f5 := r1.cell 5 (by omega)
      have g0 := r2.cell 0 (by omega); have g1 := r2.cell 1 (by omega); have g2 := r2.cell 2 (by omega); have g3 := r2.cell 3 (by omega); have g4 := r2.cell 4 (by omega); have g5 := r2.cell 5 (by omega)
      go_wp2_with fail
      refine (bytes_yes m HM.out o _ w4 (ht.below B4 ht.lt) (H3.out.since (Nat.le_refl _) B4)).mono ?_
      rintro e w5 ⟨g3', rfl, hb3, hg3, b5⟩
      have q1 := r1.below b5 r1.lt; have q2 := r2.below b5 r2.lt
      have hc1 : Blk8 w5 g1' (rec32 m d) := (b5.block _ hb1'.lt).trans hb1'
      have hc2 : Blk8 w5 g2' (rec32 n d) := (b5.block _ hb2.lt).trans hb2
      have B5 := B4.trans (b5.mono B4.size)
      clear r1 r2 f0 f1 f2 f3 f4 f5 g0 g1 g2 g3 g4 g5 b5 B4 hb1' hb2
      have f0 := q1.cell 0 (by omega); have f1 := q1.cell 1 (by omega); have f2 := q1.cell 2 (by omega); have f3 := q1.cell 3 (by omega); have f4 := q1.cell 4 (by omega); have f5 := q1.cell 5 (by omega)
      have g0 := q2.cell 0 (by omega); have g1 := q2.cell 1 (by omega); have g2 := q2.cell 2 (by omega); have g3 := q2.cell 3 (by omega); have g4 := q2.cell 4 (by omega); have g5 := q2.cell 5 (by omega)
      go_wp2_with fail
      obtain ⟨c, ec⟩ : ∃ c, c = sameM m n := ⟨_, rfl⟩
      refine (sameMeta_any m n w5).mono ?_
      rintro e w6 ⟨rfl, b6⟩
      rw [← ec]
      have hd1 : Blk8 w6 g1' (rec32 m d) := (b6.block _ hc1.lt).trans hc1
      have hd2 : Blk8 w6 g2' (rec32 n d) := (b6.block _ hc2.lt).trans hc2
      have hd3 : Blk8 w6 g3' (rec32 m o) := (b6.block _ hb3.lt).trans hb3
      have B6 := B5.trans (b6.mono B5.size)
      clear q1 q2 f0 f1 f2 f3 f4 f5 g0 g1 g2 g3 g4 g5 b6 B5 hc1 hc2 hb3
      go_wp2_with fail
      have s1 := Str8.of (hd1.arg (n := 32) (cap := 32) (rec32_length _ _).symm (by decide)).1
      have s2 := Str8.of (hd2.arg (n := 32) (cap := 32) (rec32_length _ _).symm (by decide)).1
      refine (same_any _ _ _ _ w6 s1 s2).mono ?_
      rintro e w7 ⟨rfl, rfl⟩
      rw [rec_inj HM.out HN.out, ← ec]
      clear s1 s2 ec
      have l1 : (((rec32 m d).drop 24).take 4).length = 4 := by simp [rec32_length]
      have l3 : (((rec32 m o).drop 24).take 4).length = 4 := by simp [rec32_length]
      have z1 : Row8 w6 g1' 24 (((rec32 m d).drop 24).take 4) := by have := (hd1.row.drop 24).take 4; rwa [Nat.zero_add] at this
      have z3 : Row8 w6 g3' 24 (((rec32 m o).drop 24).take 4) := by have := (hd3.row.drop 24).take 4; rwa [Nat.zero_add] at this
      have s1 := Str8.of (IsBytes.mk (n := 4) (cap := 8) l1.symm z1 hd1.lt)
      have s3 := Str8.of (IsBytes.mk (n := 4) (cap := 8) l3.symm z3 hd3.lt)
      obtain ⟨s, es⟩ : ∃ s, s = decide (Bits32.u (crc d) = Bits32.u (crc o)) := ⟨_, rfl⟩
      have SS := Sames.mk s1 s3 (c := s) (by rw [cut_same, es])
      have HGd := Lib.hid (good_other HM.out d o)
      have ES := Lib.hid es
      clear l1 l3 z1 z3 s1 s3 es hd2 hd3
      have i1 := (hd1.arg (n := 32) (cap := 32) (rec32_length _ _).symm (by decide)).1
      go_wp2_with fail
      go_region_held3 (fun w' => SameHeap w6 w') (first | exact SameHeap.refl _ | exact SameHeap.drew (SameHeap.refl _) | assumption)
        (first
          | (go_at_call 13; with_reducible refine Calls.mono (sames_run SS (by assumption)) ?_; rintro e w' ⟨rfl, rfl⟩))
      go_wp2_with fail
      have B7 : Below w.heap.size w w6.drew := B6.drew
      refine (open_any (rec32 m d) o _ 32 32 _ w6.drew (ht.below B7 ht.lt) i1 (rec32_length _ _).symm (Nat.le_refl _) p (HE.out.below B7) (H3.out.since (Nat.le_refl _) B7)).mono ?_
      rintro e w7 ⟨rfl, b7⟩
      have B8 := B7.trans (b7.mono B7.size)
      clear SS i1 hd1 B6 b7 B7
      cases s with
      | true =>
        have hG : Meta.Good (rec32 m d) o := HGd.out.2 (of_decide_eq_true ES.out.symm)
        rw [if_pos hG, if_pos hG]
        clear hG
        go_wp2_with fail
        go_ret
        exact ⟨rfl, B8.alloc B8.size _⟩
      | false =>
        have hG : ¬ Meta.Good (rec32 m d) o := fun g => of_decide_eq_false ES.out.symm (HGd.out.1 g)
        rw [if_neg hG, if_neg hG]
        clear hG
        go_wp2_with fail
        go_ret
        exact ⟨rfl, B8.alloc B8.size _⟩
    · refine (bytes_no n hn _ w3 p (HE.out.below B3)).mono ?_
      rintro e w4 ⟨rfl, b4⟩
      have r1 := q1.below b4 q1.lt; have r2 := q2.below b4 q2.lt
      have B4 := B3.trans (b4.mono B3.size)
      clear hn q1 q2 f0 f1 f2 f3 f4 f5 g0 g1 g2 g3 g4 g5 b4 B3
      have f0 := r1.cell 0 (by omega); have f1 := r1.cell 1 (by omega); have f2 := r1.cell 2 (by omega); have f3 := r1.cell 3 (by omega); have f4 := r1.cell 4 (by omega); have f5 := r1.cell 5 (by omega)
      go_wp2_with fail
      refine (bytes_yes m HM.out o _ w4 (ht.below B4 ht.lt) (H3.out.since (Nat.le_refl _) B4)).mono ?_
      rintro e w5 ⟨g3', rfl, hb3, hg3, b5⟩
      have B5 := B4.trans (b5.mono B4.size)
      clear r1 r2 f0 f1 f2 f3 f4 f5 b5 B4
      go_wp2_with fail
      go_ret
      exact ⟨rfl, B5⟩
  · refine (bytes_no m hm _ w2 p (HE.out.below B2)).mono ?_
    rintro e w3 ⟨rfl, b3⟩
    have q1 := r1.below b3 r1.lt; have q2 := r2.below b3 r2.lt
    have B3 := B2.trans (b3.mono B2.size)
    have HM := Lib.hid hm
    clear hm r1 r2 f0 f1 f2 f3 f4 f5 g0 g1 g2 g3 g4 g5 b3 B2
    have f0 := q1.cell 0 (by omega); have f1 := q1.cell 1 (by omega); have f2 := q1.cell 2 (by omega); have f3 := q1.cell 3 (by omega); have f4 := q1.cell 4 (by omega); have f5 := q1.cell 5 (by omega)
    have g0 := q2.cell 0 (by omega); have g1 := q2.cell 1 (by omega); have g2 := q2.cell 2 (by omega); have g3 := q2.cell 3 (by omega); have g4 := q2.cell 4 (by omega); have g5 := q2.cell 5 (by omega)
    go_wp2_with fail
    rcases Decidable.em (May n) with hn | hn
    · refine (bytes_yes n hn d _ w3 (ht.below B3 ht.lt) (H2.out.since (Nat.le_refl _) B3)).mono ?_
      rintro e w4 ⟨g2', rfl, hb2, hg2, b4⟩
      have r1 := q1.below b4 q1.lt
      have B4 := B3.trans (b4.mono B3.size)
      clear hn q1 q2 f0 f1 f2 f3 f4 f5 g0 g1 g2 g3 g4 g5 b4 B3
      have f0 := r1.cell 0 (by omega); have f1 := r1.cell 1 (by omega); have f2 := r1.cell 2 (by omega); have f3 := r1.cell 3 (by omega); have f4 := r1.cell 4 (by omega); have f5 := r1.cell 5 (by omega)
      go_wp2_with fail
      refine (bytes_no m HM.out _ w4 p (HE.out.below B4)).mono ?_
      rintro e w5 ⟨rfl, b5⟩
      have B5 := B4.trans (b5.mono B4.size)
      clear r1 f0 f1 f2 f3 f4 f5 b5 B4
      go_wp2_with fail
      go_ret
      exact ⟨rfl, B5⟩
    · refine (bytes_no n hn _ w3 p (HE.out.below B3)).mono ?_
      rintro e w4 ⟨rfl, b4⟩
      have r1 := q1.below b4 q1.lt
      have B4 := B3.trans (b4.mono B3.size)
      clear hn q1 q2 f0 f1 f2 f3 f4 f5 g0 g1 g2 g3 g4 g5 b4 B3
      have f0 := r1.cell 0 (by omega); have f1 := r1.cell 1 (by omega); have f2 := r1.cell 2 (by omega); have f3 := r1.cell 3 (by omega); have f4 := r1.cell 4 (by omega); have f5 := r1.cell 5 (by omega)
      go_wp2_with fail
      refine (bytes_no m HM.out _ w4 p (HE.out.below B4)).mono ?_
      rintro e w5 ⟨rfl, b5⟩
      have B5 := B4.trans (b5.mono B4.size)
      clear r1 f0 f1 f2 f3 f4 f5 b5 B4
      go_wp2_with fail
      go_ret
      exact ⟨rfl, B5⟩
theorem walk (n0 n1 : Nat → Int) (a2 : Option Addr) (len2 cap2 : Nat) (z2 : List Int) (a3 : Option Addr) (len3 cap3 : Nat) (z3 : List Int) (W : World) (w0 : ∀ i, i < 6 → (Lit.int .i64 (n0 i)).wf = true) (w1 : ∀ i, i < 6 → (Lit.int .i64 (n1 i)).wf = true)
    (w2 : IsRow .u8 W a2 len2 cap2 z2) (w3 : IsRow .u8 W a3 len3 cap3 z3) (h : LaidMetaUnlike.Holds W) :
    Calls Tryd.prog 7 #[.agg ((List.range 6).map fun i => .int .i64 (n0 i)).toArray, .agg ((List.range 6).map fun i => .int .i64 (n1 i)).toArray, .slice a2 len2 cap2, .slice a3 len3 cap3] W
      fun e w' => e = .returned (.bool true) ∧ Below W.heap.size W w' := by
  obtain ⟨ht, f, hf, _⟩ := h
  obtain ⟨d, hd, ad, _⟩ := w2.arg8
  obtain ⟨o, ho, ao, _⟩ := w3.arg8
  by_cases h2 : len2 ≤ 2000
  · by_cases h3 : len3 ≤ 2000
    · exact unlike_core ⟨n0 0, n0 1, n0 2, n0 3, n0 4, n0 5⟩ ⟨n1 0, n1 1, n1 2, n1 3, n1 4, n1 5⟩ d o _ _ _ _ _ _ W ht _ hf h2 h3 ad ao
    · exact unlike_long ⟨n0 0, n0 1, n0 2, n0 3, n0 4, n0 5⟩ ⟨n1 0, n1 1, n1 2, n1 3, n1 4, n1 5⟩ _ _ _ _ _ _ W ht _ hf (by omega)
  · exact unlike_long ⟨n0 0, n0 1, n0 2, n0 3, n0 4, n0 5⟩ ⟨n1 0, n1 1, n1 2, n1 3, n1 4, n1 5⟩ _ _ _ _ _ _ W ht _ hf (by omega)
end Go.Proofs.YtfcmhlmllcpkmaaDoor.walkMetaUnlike
