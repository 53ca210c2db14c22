/- The walk over MetaCut. By the verifier of shale. -/
import Derived.Test.YtfcmhlmllcpkmaaDoorMetaFirst
import Derived.Test.YtfcmhlmllcpkmaaDoorMetaAll
import Derived.Test.YtfcmhlmllcpkmaaDoorRefSame
import Derived.Test.YtfcmhlmllcpkmaaDoorRefCopy
import Derived.RangeFuncBox
import Derived.Test.YtfcmhlmllcpkmaaDoorLaidMetaCut
namespace Go.Proofs.YtfcmhlmllcpkmaaDoor.walkMetaCut
open Go Go.RowKit Crc Meta
set_option linter.unusedVariables false
def at31 (z : Int) : Nat := (z % 32).toNat
theorem at31_lt (z : Int) : at31 z < 32 := by unfold at31; omega
theorem and31 (z : Int) : bits .and .i64 z 31 = ((at31 z : Nat) : Int) := by
  show IntKind.i64.wrap ((BitVec.ofInt 64 z &&& BitVec.ofInt 64 31).toNat : Int) = _
  rw [BitVec.toNat_and, show (BitVec.ofInt 64 31).toNat = 2 ^ 5 - 1 by decide, Nat.and_two_pow_sub_one_eq_mod, BitVec.toNat_ofInt]
  unfold at31
  rw [show (((z % ((2 ^ 64 : Nat) : Int)).toNat % 2 ^ 5 : Nat) : Int) = ((z % 32).toNat : Int) by omega]
  exact IntWalk.i64_in _ (by omega)
attribute [local go_sem] and31
set_option maxRecDepth 100000 in
set_option maxHeartbeats 2000000 in
/-- bytes that are too long: nothing is asked. -/
theorem cut_long (m : M6) (p1 : Option Addr) (n1 c1 : Nat) (z more : Int) (w : World) (ht : Tab w) (p : Addr) (E : ErrAt w 0 p) (h : 2000 < n1) :
    Calls Tryd.prog 3 #[metaV m, .slice p1 n1 c1, .int .i64 z, .int .u8 more] w fun e w' => e = .returned (.bool true) ∧ Below w.heap.size w w' := by
  have t1 : decide ((2000 : Int) < (n1 : Int)) = true := decide_eq_true (by omega)
  have HE := Lib.hid E
  have B := (Below.refl w.heap.size w).alloc (Nat.le_refl _) (.cells #[.int .i64 (fld m 0), .int .i64 (fld m 1), .int .i64 (fld m 2), .int .i64 (fld m 3), .int .i64 (fld m 4), .int .i64 (fld m 5)] 23)
  have HB := Lib.hid B
  clear E B
  go_enter Tryd.func3, Tryd.ntmps3
  go_wp2_with fail
  have B := HB.out
  generalize w.alloc (.cells #[.int .i64 (fld m 0), .int .i64 (fld m 1), .int .i64 (fld m 2), .int .i64 (fld m 3), .int .i64 (fld m 4), .int .i64 (fld m 5)] 23) = w1 at B ⊢
  refine (first_any w1 (ht.below B ht.lt) p (HE.out.below B)).mono ?_
  rintro e w2 ⟨rfl, b2⟩
  have B2 := B.trans (b2.mono B.size)
  clear b2 B
  go_wp2_with fail
  go_ret
  exact ⟨rfl, B2⟩
set_option maxRecDepth 100000 in
set_option maxHeartbeats 4000000 in
theorem cut_core (m : M6) (d : List (BitVec 8)) (p1 : Option Addr) (n1 c1 : Nat) (z more : Int) (w : World) (ht : Tab w) (p : Addr) (E : ErrAt w 0 p)
    (k1 : n1 ≤ 2000) (a1 : Arg8 w (.slice p1 n1 c1) d) (hp1 : p1 = none → c1 = 0) (hmore : (Lit.int .u8 more).wf = true) :
    Calls Tryd.prog 3 #[metaV m, .slice p1 n1 c1, .int .i64 z, .int .u8 more] w fun e w' => e = .returned (.bool true) ∧ Below w.heap.size w w' := by
  obtain ⟨i0, hi, hz0, hz1, hz2⟩ := info8
  have t1 : decide ((2000 : Int) < (n1 : Int)) = false := decide_eq_false (by omega)
  have HE := Lib.hid E
  have H1 := Lib.hid a1
  have HP := Lib.hid hp1
  have r0 := rec_new w m 23
  have B := (Below.refl w.heap.size w).alloc (Nat.le_refl _) (.cells #[.int .i64 (fld m 0), .int .i64 (fld m 1), .int .i64 (fld m 2), .int .i64 (fld m 3), .int .i64 (fld m 4), .int .i64 (fld m 5)] 23)
  have HB := Lib.hid (And.intro r0 B)
  clear E B a1 hp1 r0
  go_enter Tryd.func3, Tryd.ntmps3
  go_wp2_with fail
  obtain ⟨r0, B⟩ := HB.out
  generalize w.alloc (.cells #[.int .i64 (fld m 0), .int .i64 (fld m 1), .int .i64 (fld m 2), .int .i64 (fld m 3), .int .i64 (fld m 4), .int .i64 (fld m 5)] 23) = w1 at r0 B ⊢
  refine (first_any w1 (ht.below B ht.lt) p (HE.out.below B)).mono ?_
  rintro e w2 ⟨rfl, b2⟩
  have r2 := r0.below b2 r0.lt
  have B2 := B.trans (b2.mono B.size)
  clear b2 B r0 HB
  have f0 := r2.cell 0 (by omega); have f1 := r2.cell 1 (by omega); have f2 := r2.cell 2 (by omega); have f3 := r2.cell 3 (by omega); have f4 := r2.cell 4 (by omega); have f5 := r2.cell 5 (by omega)
  go_wp2_with fail
  rcases Decidable.em (May m) with hm | hm
  · have HM := Lib.hid hm
    refine (bytes_yes m hm d _ w2 (ht.below B2 ht.lt) (H1.out.since (Nat.le_refl _) B2)).mono ?_
    rintro e w3 ⟨g1, rfl, hb1, hg1, b3⟩
    have r3 := r2.below b3 r2.lt
    have B3 := B2.trans (b3.mono B2.size)
    have hb1lt := hb1.lt
    clear hm r2 f0 f1 f2 f3 f4 f5 b3 B2
    have k31 := at31_lt z
    have y1 : ((at31 z : Nat) : Int) ≤ 32 := by omega
    have y0 : (0 : Int) ≤ ((at31 z : Nat) : Int) := by omega
    go_wp2_with fail
    refine (copy_of (H1.out.since (Nat.le_refl _) B3) HP.out (by omega)).mono ?_
    rintro e w4 ⟨rfl, hk4, b4⟩
    have r4 := r3.below b4 r3.lt
    have hb4 := (b4.block _ hb1.lt).trans hb1
    have B4 := B3.trans (b4.mono B3.size)
    have hb4lt := lt_of_block hb4
    generalize hgk : w3.heap.size = gk at hk4 b4 ⊢
    have hgk1 : g1 < gk := by omega
    clear r3 hb1 b4 B3 hgk
    go_wp2_with fail
    generalize at31 z = k at k31 y0 y1 ⊢
    refine (open_far (List.replicate k 0) d _ k 32 _ w4 (by simp) (by omega) p (HE.out.below B4)).mono ?_
    rintro e w5 ⟨rfl, b5⟩
    have HN1 : ¬ Meta.Good (List.replicate k 0) d := fun h => by have := h.1; simp at this; omega
    rw [if_neg HN1, if_neg HN1]
    clear HN1
    have b5' := b5.alloc b5.size (.cells #[.int .i64 (fld zeroM 0), .int .i64 (fld zeroM 1), .int .i64 (fld zeroM 2), .int .i64 (fld zeroM 3), .int .i64 (fld zeroM 4), .int .i64 (fld zeroM 5)] 23)
    have r5 := r4.below b5' r4.lt
    have hb5 : Blk8 _ g1 (rec32 m d) := (b5'.block _ hb4lt).trans hb4
    have hk5 : Blk8 _ gk d := (b5'.block _ hk4.lt).trans hk4
    have B5 := B4.trans (b5'.mono B4.size)
    have HQ := Lib.hid (And.intro r5 (And.intro hb5 (And.intro hk5 B5)))
    clear r4 hb4 hk4 b5 b5' B4 r5 hb5 hk5 B5 hb4lt
    go_wp2_with fail
    obtain ⟨r5, hb5, hk5, B5⟩ := HQ.out
    clear HQ
    generalize w5.alloc (.cells #[.int .i64 (fld zeroM 0), .int .i64 (fld zeroM 1), .int .i64 (fld zeroM 2), .int .i64 (fld zeroM 3), .int .i64 (fld zeroM 4), .int .i64 (fld zeroM 5)] 23) = w6 at r5 hb5 hk5 B5 ⊢
    refine (copy_of (n := 32) (cap := 32) (hb5.arg (rec32_length _ _).symm (by decide)) (fun h => by cases h) (by omega)).mono ?_
    rintro e w7 ⟨rfl, hc7, b7⟩
    have hown := hc7.own (base := w6.heap.size) (n := 32) (Nat.le_refl _) (rec32_length _ _).symm (by decide)
    have hbs := b7.size
    have HQ := Lib.hid (And.intro r5 (And.intro hb5 (And.intro hk5 B5)))
    clear r5 hb5 hk5 B5
    go_wp2_with (at_builtin; refine wpList_append_own _ rfl _ _ 24 rfl w6.heap.size 5 i0 (.int .u8 0) 1 1 Tryd.underlying24 hi hz0 hz1 hz2 rfl (by decide) _ 32 _ rfl (World.ownsRow.alloc hown _) ⟨w7.heap.size, 0, none⟩ 1 1 [.int .u8 more] rfl rfl (cell_one_new _ _ _) (ints_oneCell .u8 [_]) (by unfold maxLen; omega) (by omega) (by simp; omega) ?_; intro v8 w8 hown8 hgrow _)
    obtain ⟨g8, cap8, rfl⟩ := ownsRow_succ hown8
    have b8 : Below w6.heap.size w6 w8 := (b7.alloc hbs _).grown hgrow (by simp; omega) (fun g hg => (hown.block g hg).1)
    obtain ⟨r5, hb5, hk5, B5⟩ := HQ.out
    clear HQ
    have r8 := r5.below b8 r5.lt
    have hb8 : Blk8 w8 g1 (rec32 m d) := (b8.block _ hb5.lt).trans hb5
    have hk8 : Blk8 w8 gk d := (b8.block _ hk5.lt).trans hk5
    have B8 := B5.trans (b8.mono B5.size)
    clear r5 hb5 hk5 B5 b8 b7 hown hown8 hgrow hc7 hbs
    refine (open_far (List.replicate 33 0) d _ 33 cap8 _ w8 rfl (by decide) p (HE.out.below B8)).mono ?_
    rintro e w9 ⟨rfl, b9⟩
    have HN1 : ¬ Meta.Good (List.replicate 33 0) d := fun h => by have := h.1; simp at this
    rw [if_neg HN1, if_neg HN1]
    clear HN1
    have b9' := b9.alloc b9.size (.cells #[.int .i64 (fld zeroM 0), .int .i64 (fld zeroM 1), .int .i64 (fld zeroM 2), .int .i64 (fld zeroM 3), .int .i64 (fld zeroM 4), .int .i64 (fld zeroM 5)] 23)
    have r9 := r8.below b9' r8.lt
    have hb9 : Blk8 _ g1 (rec32 m d) := (b9'.block _ hb8.lt).trans hb8
    have hk9 : Blk8 _ gk d := (b9'.block _ hk8.lt).trans hk8
    have B9 := B8.trans (b9'.mono B8.size)
    have HQ := Lib.hid (And.intro r9 (And.intro hb9 (And.intro hk9 B9)))
    clear r8 hb8 hk8 B8 b9 b9' r9 hb9 hk9 B9
    go_wp2_with fail
    obtain ⟨r9, hb9, hk9, B9⟩ := HQ.out
    clear HQ
    generalize w9.alloc (.cells #[.int .i64 (fld zeroM 0), .int .i64 (fld zeroM 1), .int .i64 (fld zeroM 2), .int .i64 (fld zeroM 3), .int .i64 (fld zeroM 4), .int .i64 (fld zeroM 5)] 23) = w10 at r9 hb9 hk9 B9 ⊢
    refine (open_any (rec32 m d) d _ 32 32 _ w10 (ht.below B9 ht.lt) (hb9.arg (rec32_length _ _).symm (by decide)).1 (rec32_length _ _).symm (Nat.le_refl _) p (HE.out.below B9) (H1.out.since (Nat.le_refl _) B9)).mono ?_
    rintro e w11 ⟨rfl, b11⟩
    have hG := rec_good m HM.out d
    rw [if_pos hG, if_pos hG, parse_rec m HM.out d]
    clear hG
    have x11 := rec_new w11 m 23
    have b11' := b11.alloc b11.size (.cells #[.int .i64 (fld m 0), .int .i64 (fld m 1), .int .i64 (fld m 2), .int .i64 (fld m 3), .int .i64 (fld m 4), .int .i64 (fld m 5)] 23)
    have r11 := r9.below b11' r9.lt
    have hb11 : Blk8 _ g1 (rec32 m d) := (b11'.block _ hb9.lt).trans hb9
    have hk11 : Blk8 _ gk d := (b11'.block _ hk9.lt).trans hk9
    have B11 := B9.trans (b11'.mono B9.size)
    have e11 := (HE.out.below B11).1
    have HQ := Lib.hid (And.intro r11 (And.intro hk11 (And.intro B11 (And.intro x11 e11))))
    clear r9 hb9 hk9 B9 b11 b11' r11 hb11 hk11 B11 x11 e11
    go_upto_region 12 with (fail)
    obtain ⟨r11, hk11, B11, x11, e11⟩ := HQ.out
    clear HQ
    unfold Sent at e11
    have eqe : ∀ W, (binOp .eql 27 (errOf p) (errOf p)).run Tryd.prog W = .ok (.bool true) W := fun W => eql_err p W
    generalize w11.heap.size = gx at x11 ⊢
    generalize w11.alloc (.cells #[.int .i64 (fld m 0), .int .i64 (fld m 1), .int .i64 (fld m 2), .int .i64 (fld m 3), .int .i64 (fld m 4), .int .i64 (fld m 5)] 23) = w12 at r11 hk11 B11 x11 e11 ⊢
    have f0 := r11.cell 0 (by omega); have f1 := r11.cell 1 (by omega); have f2 := r11.cell 2 (by omega); have f3 := r11.cell 3 (by omega); have f4 := r11.cell 4 (by omega); have f5 := r11.cell 5 (by omega)
    have x0 := x11.cell 0 (by omega); have x1 := x11.cell 1 (by omega); have x2 := x11.cell 2 (by omega); have x3 := x11.cell 3 (by omega); have x4 := x11.cell 4 (by omega); have x5 := x11.cell 5 (by omega)
    go_wp2_with fail
    refine (sameMeta_any m m w12).mono ?_
    rintro e w13 ⟨rfl, b13⟩
    rw [(sameM_eq m m).2 rfl]
    have hk13 : Blk8 w13 gk d := (b13.block _ hk11.lt).trans hk11
    have B13 := B11.trans (b13.mono B11.size)
    clear r11 x11 f0 f1 f2 f3 f4 f5 x0 x1 x2 x3 x4 x5 e11 B11 hk11 b13
    have s1 := Str8.of (hk13.arg (n := n1) (cap := n1) (H1.out.len) (by have := H1.out.2; have := H1.out.len; omega)).1
    have s2 := Str8.of (H1.out.since (Nat.le_refl _) B13).1
    go_wp2_with fail
    refine (same_any _ _ _ _ w13 s1 s2).mono ?_
    rintro e w14 ⟨rfl, rfl⟩
    rw [show decide (d = d) = true from decide_eq_true rfl]
    clear s1 s2 hk13
    go_wp2_with fail
    go_ret
    exact ⟨rfl, B13⟩
  · refine (bytes_no m hm _ w2 p (HE.out.below B2)).mono ?_
    rintro e w3 ⟨rfl, b3⟩
    have B3 := B2.trans (b3.mono B2.size)
    clear hm r2 f0 f1 f2 f3 f4 f5 b3 B2
    go_wp2_with fail
    go_ret
    exact ⟨rfl, B3⟩
theorem walk (n0 : Nat → Int) (a1 : Option Addr) (len1 cap1 : Nat) (z1 : List Int) (a2 a3 : Int) (W : World) (w0 : ∀ i, i < 6 → (Lit.int .i64 (n0 i)).wf = true)
    (w1 : IsRow .u8 W a1 len1 cap1 z1) (w2 : (Lit.int .i64 a2).wf = true) (w3 : (Lit.int .u8 a3).wf = true) (h : LaidMetaCut.Holds W) :
    Calls Tryd.prog 3 #[.agg ((List.range 6).map fun i => .int .i64 (n0 i)).toArray, .slice a1 len1 cap1, .int .i64 a2, .int .u8 a3] W
      fun e w' => e = .returned (.bool true) ∧ Below W.heap.size W w' := by
  obtain ⟨ht, f, hf, _⟩ := h
  obtain ⟨d, hd, ad, _⟩ := w1.arg8
  by_cases h2 : len1 ≤ 2000
  · exact cut_core ⟨n0 0, n0 1, n0 2, n0 3, n0 4, n0 5⟩ d _ _ _ _ _ W ht _ hf h2 ad w1.nil_cap w3
  · exact cut_long ⟨n0 0, n0 1, n0 2, n0 3, n0 4, n0 5⟩ _ _ _ _ _ W ht _ hf (by omega)
end Go.Proofs.YtfcmhlmllcpkmaaDoor.walkMetaCut
