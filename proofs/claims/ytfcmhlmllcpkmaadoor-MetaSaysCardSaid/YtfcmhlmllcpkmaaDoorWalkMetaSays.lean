/- The walk over MetaSays. By the verifier of shale. -/
import Derived.Test.YtfcmhlmllcpkmaaDoorMetaFirst
import Derived.Test.YtfcmhlmllcpkmaaDoorMetaAll
import Derived.Test.YtfcmhlmllcpkmaaDoorRefOpen
import Derived.Test.YtfcmhlmllcpkmaaDoorRefRecord
import Derived.Test.YtfcmhlmllcpkmaaDoorRefSame
import Derived.Test.YtfcmhlmllcpkmaaDoorLaidMetaSays
import Derived.Lib.QuietBelow
namespace Go.Proofs.YtfcmhlmllcpkmaaDoor.walkMetaSays
open Go Go.RowKit Crc Meta Go.Sort
set_option linter.unusedVariables false
theorem neq_err (a : Addr) (w : World) : (binOp .neq 27 (errOf a) (errOf a)).run Tryd.prog w = .ok (.bool false) w := by
  obtain ⟨i, hi, hc⟩ := Option.map_eq_some_iff.1 compErr
  obtain ⟨j, hj, _⟩ := Option.map_eq_some_iff.1 sizeErr
  simp only [binOp]
  simp [Op.equal, Op.maxDepth, run_equalIn_iface_ptr_same w 9998 a Tryd.underlying27 Tryd.underlying69 hi hc hj, errOf]
set_option maxRecDepth 100000 in
set_option maxHeartbeats 2000000 in
/-- bytes that are too long: nothing is asked. -/
theorem says_long (m n : M6) (p2 p3 : Option Addr) (n2 c2 n3 c3 : Nat) (fl : Int) (w : World) (ht : Tab w) (p : Addr) (E : ErrAt w 0 p) (h : 4000 < n2 ∨ (n2 ≤ 4000 ∧ 4000 < n3)) :
    Calls Tryd.prog 4 #[metaV m, metaV n, .slice p2 n2 c2, .slice p3 n3 c3, .int .i64 fl] w fun e w' => e = .returned (.bool true) ∧ Below w.heap.size w w' := by
  have HL := Lib.hid (rec_two w m n)
  have HE := Lib.hid E
  have hc : (decide ((4000 : Int) < (n2 : Int)) = true) ∨ (decide ((4000 : Int) < (n2 : Int)) = false ∧ decide ((4000 : Int) < (n3 : Int)) = true) := by
    rcases h with h | ⟨h, h'⟩
    · exact Or.inl (decide_eq_true (by omega))
    · exact Or.inr ⟨decide_eq_false (by omega), decide_eq_true (by omega)⟩
  clear E h
  rcases hc with t1 | ⟨t1, t2⟩
  all_goals
    go_enter Tryd.func4, Tryd.ntmps4
    go_wp2_with fail
    obtain ⟨h1, h2, B⟩ := HL.out
    clear HL
    generalize (w.alloc (.cells #[.int .i64 (fld m 0), .int .i64 (fld m 1), .int .i64 (fld m 2), .int .i64 (fld m 3), .int .i64 (fld m 4), .int .i64 (fld m 5)] 23)).alloc (.cells #[.int .i64 (fld n 0), .int .i64 (fld n 1), .int .i64 (fld n 2), .int .i64 (fld n 3), .int .i64 (fld n 4), .int .i64 (fld n 5)] 23) = w1 at h1 h2 B ⊢
    refine (first_any w1 (ht.below B ht.lt) p (HE.out.below B)).mono ?_
    rintro e w2 ⟨rfl, b2⟩
    have B2 := B.trans (b2.mono B.size)
    clear h1 h2 b2 B
    go_wp2_with fail
    go_ret
    exact ⟨rfl, B2⟩
set_option maxRecDepth 100000 in
set_option maxHeartbeats 4000000 in
theorem says_core (m n : M6) (d l : List (BitVec 8)) (p2 p3 : Option Addr) (n2 c2 n3 c3 : Nat) (fl : Int) (w : World) (ht : Tab w) (p : Addr) (E : ErrAt w 0 p)
    (k2 : n2 ≤ 4000) (k3 : n3 ≤ 4000) (a2 : Arg8 w (.slice p2 n2 c2) d) (a3 : Arg8 w (.slice p3 n3 c3) l) (hn3 : n3 = l.length) (hc3 : n3 ≤ c3) :
    Calls Tryd.prog 4 #[metaV m, metaV n, .slice p2 n2 c2, .slice p3 n3 c3, .int .i64 fl] w fun e w' => e = .returned (.bool true) ∧ Below w.heap.size w w' := by
  have HL := Lib.hid (rec_two w m n)
  have HE := Lib.hid E
  have H2 := Lib.hid a2
  have H3 := Lib.hid a3
  have HN3 := Lib.hid hn3
  have HC3 := Lib.hid hc3
  have t1 : decide ((4000 : Int) < (n2 : Int)) = false := decide_eq_false (by omega)
  have t2 : decide ((4000 : Int) < (n3 : Int)) = false := decide_eq_false (by omega)
  clear E a2 a3 hn3 hc3
  go_enter Tryd.func4, Tryd.ntmps4
  go_wp2_with fail
  obtain ⟨h1, h2, B⟩ := HL.out
  clear HL
  generalize (w.alloc (.cells #[.int .i64 (fld m 0), .int .i64 (fld m 1), .int .i64 (fld m 2), .int .i64 (fld m 3), .int .i64 (fld m 4), .int .i64 (fld m 5)] 23)).alloc (.cells #[.int .i64 (fld n 0), .int .i64 (fld n 1), .int .i64 (fld n 2), .int .i64 (fld n 3), .int .i64 (fld n 4), .int .i64 (fld n 5)] 23) = w1 at h1 h2 B ⊢
  refine (first_any w1 (ht.below B ht.lt) p (HE.out.below B)).mono ?_
  rintro e w2 ⟨rfl, b2⟩
  have r1 := h1.below b2 h1.lt; have r2 := h2.below b2 h2.lt
  have B2 := B.trans (b2.mono B.size)
  have f0 := r1.cell 0 (by omega); have f1 := r1.cell 1 (by omega); have f2 := r1.cell 2 (by omega); have f3 := r1.cell 3 (by omega); have f4 := r1.cell 4 (by omega); have f5 := r1.cell 5 (by omega)
  clear h1 h2 b2 B
  go_wp2_with fail
  rcases Decidable.em (May m) with hm | hm
  · have HM := Lib.hid (decide_eq_true hm)
    refine (bytes_yes m hm d _ w2 (ht.below B2 ht.lt) (H2.out.since (Nat.le_refl _) B2)).mono ?_
    rintro e w3 ⟨g1, rfl, hb3, hg1, b3⟩
    have q1 := r1.below b3 r1.lt; have q2 := r2.below b3 r2.lt
    have B3 := B2.trans (b3.mono B2.size)
    clear hm r1 r2 f0 f1 f2 f3 f4 f5 b3 B2
    have f0 := q1.cell 0 (by omega); have f1 := q1.cell 1 (by omega); have f2 := q1.cell 2 (by omega); have f3 := q1.cell 3 (by omega); have f4 := q1.cell 4 (by omega); have f5 := q1.cell 5 (by omega)
    go_wp2_with fail
    refine (rmay_any m w3).mono ?_
    rintro e w4 ⟨rfl, b4⟩
    rw [HM.out]
    have r1 := q1.below b4 q1.lt; have r2 := q2.below b4 q2.lt
    have hb4 : Blk8 w4 g1 (rec32 m d) := (b4.block _ hb3.lt).trans hb3
    have B4 := B3.trans (b4.mono B3.size)
    clear q1 q2 f0 f1 f2 f3 f4 f5 b4 B3 hb3
    have f0 := r1.cell 0 (by omega); have f1 := r1.cell 1 (by omega); have f2 := r1.cell 2 (by omega); have f3 := r1.cell 3 (by omega); have f4 := r1.cell 4 (by omega); have f5 := r1.cell 5 (by omega)
    go_wp2_with fail
    refine (may_any m w4).mono ?_
    rintro e w5 ⟨rfl, b5⟩
    rw [HM.out]
    have q1 := r1.below b5 r1.lt; have q2 := r2.below b5 r2.lt
    have hb5 : Blk8 w5 g1 (rec32 m d) := (b5.block _ hb4.lt).trans hb4
    have B5 := B4.trans (b5.mono B4.size)
    clear r1 r2 f0 f1 f2 f3 f4 f5 b5 B4 hb4
    have f0 := q1.cell 0 (by omega); have f1 := q1.cell 1 (by omega); have f2 := q1.cell 2 (by omega); have f3 := q1.cell 3 (by omega); have f4 := q1.cell 4 (by omega); have f5 := q1.cell 5 (by omega)
    go_wp2_with fail
    refine (record_any m d _ w5 (H2.out.since (Nat.le_refl _) B5)).mono ?_
    rintro e w6 ⟨vr, rfl, ir, b6⟩
    have r1 := q1.below b6 q1.lt; have r2 := q2.below b6 q2.lt
    have hb6 : Blk8 w6 g1 (rec32 m d) := (b6.block _ hb5.lt).trans hb5
    have B6 := B5.trans (b6.mono B5.size)
    have s1 := Str8.of (hb6.arg (n := 32) (cap := 32) (rec32_length _ _).symm (by decide)).1
    have s2 := Str8.of ir
    clear q1 q2 f0 f1 f2 f3 f4 f5 b6 B5 hb5 hb6 ir
    go_wp2_with fail
    refine (same_any _ _ _ _ w6 s1 s2).mono ?_
    rintro e w7 ⟨rfl, rfl⟩
    rw [show decide (rec32 m d = rec32 m d) = true from decide_eq_true rfl]
    clear s1 s2 hg1 HM
    go_wp2_with fail
    rcases Decidable.em (Meta.Good l d) with hG | hG
    · refine (open_any l d _ n3 c3 _ w6 (ht.below B6 ht.lt) (H3.out.since (Nat.le_refl _) B6).1 HN3.out HC3.out p (HE.out.below B6) (H2.out.since (Nat.le_refl _) B6)).mono ?_
      rintro e w8 ⟨rfl, b8⟩
      rw [if_pos hG, if_pos hG]
      have HG := Lib.hid hG
      clear hG
      have y8 := rec_new w8 (parse l) 23
      have b8' := b8.alloc b8.size (.cells #[.int .i64 (fld (parse l) 0), .int .i64 (fld (parse l) 1), .int .i64 (fld (parse l) 2), .int .i64 (fld (parse l) 3), .int .i64 (fld (parse l) 4), .int .i64 (fld (parse l) 5)] 23)
      have q1 := r1.below b8' r1.lt; have q2 := r2.below b8' r2.lt
      have B8 := B6.trans (b8'.mono B6.size)
      have HQ := Lib.hid (And.intro q1 (And.intro q2 (And.intro y8 B8)))
      clear r1 r2 b8 b8' B6 q1 q2 y8 B8
      go_wp2_with fail
      obtain ⟨q1, q2, y8, B8⟩ := HQ.out
      clear HQ
      generalize w8.heap.size = gy at y8 ⊢
      generalize w8.alloc (.cells #[.int .i64 (fld (parse l) 0), .int .i64 (fld (parse l) 1), .int .i64 (fld (parse l) 2), .int .i64 (fld (parse l) 3), .int .i64 (fld (parse l) 4), .int .i64 (fld (parse l) 5)] 23) = w9 at q1 q2 y8 B8 ⊢
      refine (ropen_any l d _ n3 c3 _ w9 (H3.out.since (Nat.le_refl _) B8).1 HN3.out HC3.out (H2.out.since (Nat.le_refl _) B8)).mono ?_
      rintro e w10 ⟨rfl, b10⟩
      rw [if_pos HG.out, decide_eq_true HG.out]
      have z10 := rec_new w10 (parse l) 23
      have b10' := b10.alloc b10.size (.cells #[.int .i64 (fld (parse l) 0), .int .i64 (fld (parse l) 1), .int .i64 (fld (parse l) 2), .int .i64 (fld (parse l) 3), .int .i64 (fld (parse l) 4), .int .i64 (fld (parse l) 5)] 23)
      have r1 := q1.below b10' q1.lt; have r2 := q2.below b10' q2.lt; have y10 := y8.below b10' y8.lt
      have B10 := B8.trans (b10'.mono B8.size)
      have HQ := Lib.hid (And.intro r1 (And.intro r2 (And.intro y10 (And.intro z10 B10))))
      clear q1 q2 y8 b10 b10' B8 r1 r2 y10 z10 B10
      go_upto_region 10 with (fail)
      obtain ⟨r1, r2, y10, z10, B10⟩ := HQ.out
      clear HQ
      generalize w10.heap.size = gz at z10 ⊢
      generalize w10.alloc (.cells #[.int .i64 (fld (parse l) 0), .int .i64 (fld (parse l) 1), .int .i64 (fld (parse l) 2), .int .i64 (fld (parse l) 3), .int .i64 (fld (parse l) 4), .int .i64 (fld (parse l) 5)] 23) = w11 at r1 r2 y10 z10 B10 ⊢
      have eqe : ∀ W, (binOp .eql 27 (errOf p) (errOf p)).run Tryd.prog W = .ok (.bool true) W := fun W => eql_err p W
      have e11 := (HE.out.below B10).1
      unfold Sent at e11
      have ee := cell_regrown e11
      have km0 := cell_regrown (r1.cell 0 (by omega)); have km1 := cell_regrown (r1.cell 1 (by omega)); have km2 := cell_regrown (r1.cell 2 (by omega)); have km3 := cell_regrown (r1.cell 3 (by omega)); have km4 := cell_regrown (r1.cell 4 (by omega)); have km5 := cell_regrown (r1.cell 5 (by omega)); have kn0 := cell_regrown (r2.cell 0 (by omega)); have kn1 := cell_regrown (r2.cell 1 (by omega)); have kn2 := cell_regrown (r2.cell 2 (by omega)); have kn3 := cell_regrown (r2.cell 3 (by omega)); have kn4 := cell_regrown (r2.cell 4 (by omega)); have kn5 := cell_regrown (r2.cell 5 (by omega)); have ky0 := cell_regrown (y10.cell 0 (by omega)); have ky1 := cell_regrown (y10.cell 1 (by omega)); have ky2 := cell_regrown (y10.cell 2 (by omega)); have ky3 := cell_regrown (y10.cell 3 (by omega)); have ky4 := cell_regrown (y10.cell 4 (by omega)); have ky5 := cell_regrown (y10.cell 5 (by omega)); have kz0 := cell_regrown (z10.cell 0 (by omega)); have kz1 := cell_regrown (z10.cell 1 (by omega)); have kz2 := cell_regrown (z10.cell 2 (by omega)); have kz3 := cell_regrown (z10.cell 3 (by omega)); have kz4 := cell_regrown (z10.cell 4 (by omega)); have kz5 := cell_regrown (z10.cell 5 (by omega))
      have cS : ∀ q os, Calls Tryd.prog 12 #[metaV (parse l), metaV (parse l)] (grow (redrawn w11 q) os) fun e w'' => e = .returned (.bool true) ∧ ∃ p : Regrown, w'' = grow (redrawn w11 p.d) p.os := fun q os => Calls.regrown_of (by have h := sameMeta_any (parse l) (parse l) (grow (redrawn w11 q) os); rwa [(sameM_eq (parse l) (parse l)).2 rfl] at h)
      obtain ⟨nw, enw⟩ : ∃ b, b = newer m n := ⟨_, rfl⟩
      obtain ⟨av, eav⟩ : ∃ b, b = alive m fl := ⟨_, rfl⟩
      have cN : ∀ q os, Calls Tryd.prog 18 #[metaV m, metaV n] (grow (redrawn w11 q) os) fun e w'' => e = .returned (.bool nw) ∧ ∃ p : Regrown, w'' = grow (redrawn w11 p.d) p.os := fun q os => Calls.regrown_of (by rw [enw]; exact newer_any m n _)
      have cM : ∀ q os, Calls Tryd.prog 19 #[metaV m, metaV n] (grow (redrawn w11 q) os) fun e w'' => e = .returned (.bool nw) ∧ ∃ p : Regrown, w'' = grow (redrawn w11 p.d) p.os := fun q os => Calls.regrown_of (by rw [enw]; exact rnewer_any m n _)
      have cA : ∀ q os, Calls Tryd.prog 20 #[metaV m, .int .i64 fl] (grow (redrawn w11 q) os) fun e w'' => e = .returned (.bool av) ∧ ∃ p : Regrown, w'' = grow (redrawn w11 p.d) p.os := fun q os => Calls.regrown_of (by rw [eav]; exact alive_any m fl _)
      have cB : ∀ q os, Calls Tryd.prog 21 #[metaV m, .int .i64 fl] (grow (redrawn w11 q) os) fun e w'' => e = .returned (.bool av) ∧ ∃ p : Regrown, w'' = grow (redrawn w11 p.d) p.os := fun q os => Calls.regrown_of (by rw [eav]; exact ralive_any m fl _)
      have HcS := Lib.hid cS; have HcN := Lib.hid cN; have HcM := Lib.hid cM; have HcA := Lib.hid cA; have HcB := Lib.hid cB
      clear r1 r2 y10 z10 e11 enw eav cS cN cM cA cB
      refine wp_region_quiet_below (by kernel_rfl) (by kernel_rfl) ?_
      repeat (go_big_quiet_step (first
        | (go_at_call 12; with_reducible exact HcS.out _ _)
        | (go_at_call 18; with_reducible exact HcN.out _ _)
        | (go_at_call 19; with_reducible exact HcM.out _ _)
        | (go_at_call 20; with_reducible exact HcA.out _ _)
        | (go_at_call 21; with_reducible exact HcB.out _ _)))
      refine wpQuiet_nil ?_
      intro _ hw'
      obtain ⟨⟨dq, osq⟩, hw''⟩ := hw'
      subst hw''
      have B12 := B10.trans ((below_regrown w11 dq osq).mono B10.size)
      generalize grow (redrawn w11 dq) osq = w12 at B12 ⊢
      go_wp2_with fail
      go_ret
      exact ⟨rfl, B12⟩
    · refine (open_any l d _ n3 c3 _ w6 (ht.below B6 ht.lt) (H3.out.since (Nat.le_refl _) B6).1 HN3.out HC3.out p (HE.out.below B6) (H2.out.since (Nat.le_refl _) B6)).mono ?_
      rintro e w8 ⟨rfl, b8⟩
      rw [if_neg hG, if_neg hG]
      have HG := Lib.hid hG
      clear hG
      have y8 := rec_new w8 zeroM 23
      have b8' := b8.alloc b8.size (.cells #[.int .i64 (fld zeroM 0), .int .i64 (fld zeroM 1), .int .i64 (fld zeroM 2), .int .i64 (fld zeroM 3), .int .i64 (fld zeroM 4), .int .i64 (fld zeroM 5)] 23)
      have q1 := r1.below b8' r1.lt; have q2 := r2.below b8' r2.lt
      have B8 := B6.trans (b8'.mono B6.size)
      have HQ := Lib.hid (And.intro q1 (And.intro q2 (And.intro y8 B8)))
      clear r1 r2 b8 b8' B6 q1 q2 y8 B8
      go_wp2_with fail
      obtain ⟨q1, q2, y8, B8⟩ := HQ.out
      clear HQ
      generalize w8.heap.size = gy at y8 ⊢
      generalize w8.alloc (.cells #[.int .i64 (fld zeroM 0), .int .i64 (fld zeroM 1), .int .i64 (fld zeroM 2), .int .i64 (fld zeroM 3), .int .i64 (fld zeroM 4), .int .i64 (fld zeroM 5)] 23) = w9 at q1 q2 y8 B8 ⊢
      refine (ropen_any l d _ n3 c3 _ w9 (H3.out.since (Nat.le_refl _) B8).1 HN3.out HC3.out (H2.out.since (Nat.le_refl _) B8)).mono ?_
      rintro e w10 ⟨rfl, b10⟩
      rw [if_neg HG.out, decide_eq_false HG.out]
      have z10 := rec_new w10 zeroM 23
      have b10' := b10.alloc b10.size (.cells #[.int .i64 (fld zeroM 0), .int .i64 (fld zeroM 1), .int .i64 (fld zeroM 2), .int .i64 (fld zeroM 3), .int .i64 (fld zeroM 4), .int .i64 (fld zeroM 5)] 23)
      have r1 := q1.below b10' q1.lt; have r2 := q2.below b10' q2.lt; have y10 := y8.below b10' y8.lt
      have B10 := B8.trans (b10'.mono B8.size)
      have HQ := Lib.hid (And.intro r1 (And.intro r2 (And.intro y10 (And.intro z10 B10))))
      clear q1 q2 y8 b10 b10' B8 r1 r2 y10 z10 B10
      go_upto_region 10 with (fail)
      obtain ⟨r1, r2, y10, z10, B10⟩ := HQ.out
      clear HQ
      generalize w10.heap.size = gz at z10 ⊢
      generalize w10.alloc (.cells #[.int .i64 (fld zeroM 0), .int .i64 (fld zeroM 1), .int .i64 (fld zeroM 2), .int .i64 (fld zeroM 3), .int .i64 (fld zeroM 4), .int .i64 (fld zeroM 5)] 23) = w11 at r1 r2 y10 z10 B10 ⊢
      have eqe : ∀ W, (binOp .eql 27 (errOf p) (errOf p)).run Tryd.prog W = .ok (.bool true) W := fun W => eql_err p W
      have e11 := (HE.out.below B10).1
      unfold Sent at e11
      have ee := cell_regrown e11
      have km0 := cell_regrown (r1.cell 0 (by omega)); have km1 := cell_regrown (r1.cell 1 (by omega)); have km2 := cell_regrown (r1.cell 2 (by omega)); have km3 := cell_regrown (r1.cell 3 (by omega)); have km4 := cell_regrown (r1.cell 4 (by omega)); have km5 := cell_regrown (r1.cell 5 (by omega)); have kn0 := cell_regrown (r2.cell 0 (by omega)); have kn1 := cell_regrown (r2.cell 1 (by omega)); have kn2 := cell_regrown (r2.cell 2 (by omega)); have kn3 := cell_regrown (r2.cell 3 (by omega)); have kn4 := cell_regrown (r2.cell 4 (by omega)); have kn5 := cell_regrown (r2.cell 5 (by omega)); have ky0 := cell_regrown (y10.cell 0 (by omega)); have ky1 := cell_regrown (y10.cell 1 (by omega)); have ky2 := cell_regrown (y10.cell 2 (by omega)); have ky3 := cell_regrown (y10.cell 3 (by omega)); have ky4 := cell_regrown (y10.cell 4 (by omega)); have ky5 := cell_regrown (y10.cell 5 (by omega)); have kz0 := cell_regrown (z10.cell 0 (by omega)); have kz1 := cell_regrown (z10.cell 1 (by omega)); have kz2 := cell_regrown (z10.cell 2 (by omega)); have kz3 := cell_regrown (z10.cell 3 (by omega)); have kz4 := cell_regrown (z10.cell 4 (by omega)); have kz5 := cell_regrown (z10.cell 5 (by omega))
      have cS : ∀ q os, Calls Tryd.prog 12 #[metaV zeroM, metaV zeroM] (grow (redrawn w11 q) os) fun e w'' => e = .returned (.bool true) ∧ ∃ p : Regrown, w'' = grow (redrawn w11 p.d) p.os := fun q os => Calls.regrown_of (by have h := sameMeta_any zeroM zeroM (grow (redrawn w11 q) os); rwa [(sameM_eq zeroM zeroM).2 rfl] at h)
      obtain ⟨nw, enw⟩ : ∃ b, b = newer m n := ⟨_, rfl⟩
      obtain ⟨av, eav⟩ : ∃ b, b = alive m fl := ⟨_, rfl⟩
      have cN : ∀ q os, Calls Tryd.prog 18 #[metaV m, metaV n] (grow (redrawn w11 q) os) fun e w'' => e = .returned (.bool nw) ∧ ∃ p : Regrown, w'' = grow (redrawn w11 p.d) p.os := fun q os => Calls.regrown_of (by rw [enw]; exact newer_any m n _)
      have cM : ∀ q os, Calls Tryd.prog 19 #[metaV m, metaV n] (grow (redrawn w11 q) os) fun e w'' => e = .returned (.bool nw) ∧ ∃ p : Regrown, w'' = grow (redrawn w11 p.d) p.os := fun q os => Calls.regrown_of (by rw [enw]; exact rnewer_any m n _)
      have cA : ∀ q os, Calls Tryd.prog 20 #[metaV m, .int .i64 fl] (grow (redrawn w11 q) os) fun e w'' => e = .returned (.bool av) ∧ ∃ p : Regrown, w'' = grow (redrawn w11 p.d) p.os := fun q os => Calls.regrown_of (by rw [eav]; exact alive_any m fl _)
      have cB : ∀ q os, Calls Tryd.prog 21 #[metaV m, .int .i64 fl] (grow (redrawn w11 q) os) fun e w'' => e = .returned (.bool av) ∧ ∃ p : Regrown, w'' = grow (redrawn w11 p.d) p.os := fun q os => Calls.regrown_of (by rw [eav]; exact ralive_any m fl _)
      have HcS := Lib.hid cS; have HcN := Lib.hid cN; have HcM := Lib.hid cM; have HcA := Lib.hid cA; have HcB := Lib.hid cB
      clear r1 r2 y10 z10 e11 enw eav cS cN cM cA cB
      refine wp_region_quiet_below (by kernel_rfl) (by kernel_rfl) ?_
      repeat (go_big_quiet_step (first
        | (go_at_call 12; with_reducible exact HcS.out _ _)
        | (go_at_call 18; with_reducible exact HcN.out _ _)
        | (go_at_call 19; with_reducible exact HcM.out _ _)
        | (go_at_call 20; with_reducible exact HcA.out _ _)
        | (go_at_call 21; with_reducible exact HcB.out _ _)))
      refine wpQuiet_nil ?_
      intro _ hw'
      obtain ⟨⟨dq, osq⟩, hw''⟩ := hw'
      subst hw''
      have B12 := B10.trans ((below_regrown w11 dq osq).mono B10.size)
      generalize grow (redrawn w11 dq) osq = w12 at B12 ⊢
      go_wp2_with fail
      go_ret
      exact ⟨rfl, B12⟩
  · have HM := Lib.hid (decide_eq_false hm)
    refine (bytes_no m hm _ w2 p (HE.out.below B2)).mono ?_
    rintro e w3 ⟨rfl, b3⟩
    have q1 := r1.below b3 r1.lt; have q2 := r2.below b3 r2.lt
    have B3 := B2.trans (b3.mono B2.size)
    clear hm r1 r2 f0 f1 f2 f3 f4 f5 b3 B2
    have f0 := q1.cell 0 (by omega); have f1 := q1.cell 1 (by omega); have f2 := q1.cell 2 (by omega); have f3 := q1.cell 3 (by omega); have f4 := q1.cell 4 (by omega); have f5 := q1.cell 5 (by omega)
    go_wp2_with fail
    refine (rmay_any m w3).mono ?_
    rintro e w4 ⟨rfl, b4⟩
    rw [HM.out]
    have r1 := q1.below b4 q1.lt; have r2 := q2.below b4 q2.lt
    have B4 := B3.trans (b4.mono B3.size)
    clear q1 q2 f0 f1 f2 f3 f4 f5 b4 B3
    have f0 := r1.cell 0 (by omega); have f1 := r1.cell 1 (by omega); have f2 := r1.cell 2 (by omega); have f3 := r1.cell 3 (by omega); have f4 := r1.cell 4 (by omega); have f5 := r1.cell 5 (by omega)
    go_wp2_with fail
    refine (may_any m w4).mono ?_
    rintro e w6 ⟨rfl, b5⟩
    rw [HM.out]
    have q1 := r1.below b5 r1.lt; have q2 := r2.below b5 r2.lt
    have B6 := B4.trans (b5.mono B4.size)
    have e6 := (HE.out.below B6).1
    unfold Sent at e6
    have nee : ∀ W, (binOp .neq 27 (errOf p) (errOf p)).run Tryd.prog W = .ok (.bool false) W := fun W => neq_err p W
    clear r1 r2 f0 f1 f2 f3 f4 f5 b5 B4
    have r1 := q1; have r2 := q2
    clear q1 q2
    go_wp2_with fail
    clear nee e6 HM
    rcases Decidable.em (Meta.Good l d) with hG | hG
    · refine (open_any l d _ n3 c3 _ w6 (ht.below B6 ht.lt) (H3.out.since (Nat.le_refl _) B6).1 HN3.out HC3.out p (HE.out.below B6) (H2.out.since (Nat.le_refl _) B6)).mono ?_
      rintro e w8 ⟨rfl, b8⟩
      rw [if_pos hG, if_pos hG]
      have HG := Lib.hid hG
      clear hG
      have y8 := rec_new w8 (parse l) 23
      have b8' := b8.alloc b8.size (.cells #[.int .i64 (fld (parse l) 0), .int .i64 (fld (parse l) 1), .int .i64 (fld (parse l) 2), .int .i64 (fld (parse l) 3), .int .i64 (fld (parse l) 4), .int .i64 (fld (parse l) 5)] 23)
      have q1 := r1.below b8' r1.lt; have q2 := r2.below b8' r2.lt
      have B8 := B6.trans (b8'.mono B6.size)
      have HQ := Lib.hid (And.intro q1 (And.intro q2 (And.intro y8 B8)))
      clear r1 r2 b8 b8' B6 q1 q2 y8 B8
      go_wp2_with fail
      obtain ⟨q1, q2, y8, B8⟩ := HQ.out
      clear HQ
      generalize w8.heap.size = gy at y8 ⊢
      generalize w8.alloc (.cells #[.int .i64 (fld (parse l) 0), .int .i64 (fld (parse l) 1), .int .i64 (fld (parse l) 2), .int .i64 (fld (parse l) 3), .int .i64 (fld (parse l) 4), .int .i64 (fld (parse l) 5)] 23) = w9 at q1 q2 y8 B8 ⊢
      refine (ropen_any l d _ n3 c3 _ w9 (H3.out.since (Nat.le_refl _) B8).1 HN3.out HC3.out (H2.out.since (Nat.le_refl _) B8)).mono ?_
      rintro e w10 ⟨rfl, b10⟩
      rw [if_pos HG.out, decide_eq_true HG.out]
      have z10 := rec_new w10 (parse l) 23
      have b10' := b10.alloc b10.size (.cells #[.int .i64 (fld (parse l) 0), .int .i64 (fld (parse l) 1), .int .i64 (fld (parse l) 2), .int .i64 (fld (parse l) 3), .int .i64 (fld (parse l) 4), .int .i64 (fld (parse l) 5)] 23)
      have r1 := q1.below b10' q1.lt; have r2 := q2.below b10' q2.lt; have y10 := y8.below b10' y8.lt
      have B10 := B8.trans (b10'.mono B8.size)
      have HQ := Lib.hid (And.intro r1 (And.intro r2 (And.intro y10 (And.intro z10 B10))))
      clear q1 q2 y8 b10 b10' B8 r1 r2 y10 z10 B10
      go_upto_region 10 with (fail)
      obtain ⟨r1, r2, y10, z10, B10⟩ := HQ.out
      clear HQ
      generalize w10.heap.size = gz at z10 ⊢
      generalize w10.alloc (.cells #[.int .i64 (fld (parse l) 0), .int .i64 (fld (parse l) 1), .int .i64 (fld (parse l) 2), .int .i64 (fld (parse l) 3), .int .i64 (fld (parse l) 4), .int .i64 (fld (parse l) 5)] 23) = w11 at r1 r2 y10 z10 B10 ⊢
      have eqe : ∀ W, (binOp .eql 27 (errOf p) (errOf p)).run Tryd.prog W = .ok (.bool true) W := fun W => eql_err p W
      have e11 := (HE.out.below B10).1
      unfold Sent at e11
      have ee := cell_regrown e11
      have km0 := cell_regrown (r1.cell 0 (by omega)); have km1 := cell_regrown (r1.cell 1 (by omega)); have km2 := cell_regrown (r1.cell 2 (by omega)); have km3 := cell_regrown (r1.cell 3 (by omega)); have km4 := cell_regrown (r1.cell 4 (by omega)); have km5 := cell_regrown (r1.cell 5 (by omega)); have kn0 := cell_regrown (r2.cell 0 (by omega)); have kn1 := cell_regrown (r2.cell 1 (by omega)); have kn2 := cell_regrown (r2.cell 2 (by omega)); have kn3 := cell_regrown (r2.cell 3 (by omega)); have kn4 := cell_regrown (r2.cell 4 (by omega)); have kn5 := cell_regrown (r2.cell 5 (by omega)); have ky0 := cell_regrown (y10.cell 0 (by omega)); have ky1 := cell_regrown (y10.cell 1 (by omega)); have ky2 := cell_regrown (y10.cell 2 (by omega)); have ky3 := cell_regrown (y10.cell 3 (by omega)); have ky4 := cell_regrown (y10.cell 4 (by omega)); have ky5 := cell_regrown (y10.cell 5 (by omega)); have kz0 := cell_regrown (z10.cell 0 (by omega)); have kz1 := cell_regrown (z10.cell 1 (by omega)); have kz2 := cell_regrown (z10.cell 2 (by omega)); have kz3 := cell_regrown (z10.cell 3 (by omega)); have kz4 := cell_regrown (z10.cell 4 (by omega)); have kz5 := cell_regrown (z10.cell 5 (by omega))
      have cS : ∀ q os, Calls Tryd.prog 12 #[metaV (parse l), metaV (parse l)] (grow (redrawn w11 q) os) fun e w'' => e = .returned (.bool true) ∧ ∃ p : Regrown, w'' = grow (redrawn w11 p.d) p.os := fun q os => Calls.regrown_of (by have h := sameMeta_any (parse l) (parse l) (grow (redrawn w11 q) os); rwa [(sameM_eq (parse l) (parse l)).2 rfl] at h)
      obtain ⟨nw, enw⟩ : ∃ b, b = newer m n := ⟨_, rfl⟩
      obtain ⟨av, eav⟩ : ∃ b, b = alive m fl := ⟨_, rfl⟩
      have cN : ∀ q os, Calls Tryd.prog 18 #[metaV m, metaV n] (grow (redrawn w11 q) os) fun e w'' => e = .returned (.bool nw) ∧ ∃ p : Regrown, w'' = grow (redrawn w11 p.d) p.os := fun q os => Calls.regrown_of (by rw [enw]; exact newer_any m n _)
      have cM : ∀ q os, Calls Tryd.prog 19 #[metaV m, metaV n] (grow (redrawn w11 q) os) fun e w'' => e = .returned (.bool nw) ∧ ∃ p : Regrown, w'' = grow (redrawn w11 p.d) p.os := fun q os => Calls.regrown_of (by rw [enw]; exact rnewer_any m n _)
      have cA : ∀ q os, Calls Tryd.prog 20 #[metaV m, .int .i64 fl] (grow (redrawn w11 q) os) fun e w'' => e = .returned (.bool av) ∧ ∃ p : Regrown, w'' = grow (redrawn w11 p.d) p.os := fun q os => Calls.regrown_of (by rw [eav]; exact alive_any m fl _)
      have cB : ∀ q os, Calls Tryd.prog 21 #[metaV m, .int .i64 fl] (grow (redrawn w11 q) os) fun e w'' => e = .returned (.bool av) ∧ ∃ p : Regrown, w'' = grow (redrawn w11 p.d) p.os := fun q os => Calls.regrown_of (by rw [eav]; exact ralive_any m fl _)
      have HcS := Lib.hid cS; have HcN := Lib.hid cN; have HcM := Lib.hid cM; have HcA := Lib.hid cA; have HcB := Lib.hid cB
      clear r1 r2 y10 z10 e11 enw eav cS cN cM cA cB
      refine wp_region_quiet_below (by kernel_rfl) (by kernel_rfl) ?_
      repeat (go_big_quiet_step (first
        | (go_at_call 12; with_reducible exact HcS.out _ _)
        | (go_at_call 18; with_reducible exact HcN.out _ _)
        | (go_at_call 19; with_reducible exact HcM.out _ _)
        | (go_at_call 20; with_reducible exact HcA.out _ _)
        | (go_at_call 21; with_reducible exact HcB.out _ _)))
      refine wpQuiet_nil ?_
      intro _ hw'
      obtain ⟨⟨dq, osq⟩, hw''⟩ := hw'
      subst hw''
      have B12 := B10.trans ((below_regrown w11 dq osq).mono B10.size)
      generalize grow (redrawn w11 dq) osq = w12 at B12 ⊢
      go_wp2_with fail
      go_ret
      exact ⟨rfl, B12⟩
    · refine (open_any l d _ n3 c3 _ w6 (ht.below B6 ht.lt) (H3.out.since (Nat.le_refl _) B6).1 HN3.out HC3.out p (HE.out.below B6) (H2.out.since (Nat.le_refl _) B6)).mono ?_
      rintro e w8 ⟨rfl, b8⟩
      rw [if_neg hG, if_neg hG]
      have HG := Lib.hid hG
      clear hG
      have y8 := rec_new w8 zeroM 23
      have b8' := b8.alloc b8.size (.cells #[.int .i64 (fld zeroM 0), .int .i64 (fld zeroM 1), .int .i64 (fld zeroM 2), .int .i64 (fld zeroM 3), .int .i64 (fld zeroM 4), .int .i64 (fld zeroM 5)] 23)
      have q1 := r1.below b8' r1.lt; have q2 := r2.below b8' r2.lt
      have B8 := B6.trans (b8'.mono B6.size)
      have HQ := Lib.hid (And.intro q1 (And.intro q2 (And.intro y8 B8)))
      clear r1 r2 b8 b8' B6 q1 q2 y8 B8
      go_wp2_with fail
      obtain ⟨q1, q2, y8, B8⟩ := HQ.out
      clear HQ
      generalize w8.heap.size = gy at y8 ⊢
      generalize w8.alloc (.cells #[.int .i64 (fld zeroM 0), .int .i64 (fld zeroM 1), .int .i64 (fld zeroM 2), .int .i64 (fld zeroM 3), .int .i64 (fld zeroM 4), .int .i64 (fld zeroM 5)] 23) = w9 at q1 q2 y8 B8 ⊢
      refine (ropen_any l d _ n3 c3 _ w9 (H3.out.since (Nat.le_refl _) B8).1 HN3.out HC3.out (H2.out.since (Nat.le_refl _) B8)).mono ?_
      rintro e w10 ⟨rfl, b10⟩
      rw [if_neg HG.out, decide_eq_false HG.out]
      have z10 := rec_new w10 zeroM 23
      have b10' := b10.alloc b10.size (.cells #[.int .i64 (fld zeroM 0), .int .i64 (fld zeroM 1), .int .i64 (fld zeroM 2), .int .i64 (fld zeroM 3), .int .i64 (fld zeroM 4), .int .i64 (fld zeroM 5)] 23)
      have r1 := q1.below b10' q1.lt; have r2 := q2.below b10' q2.lt; have y10 := y8.below b10' y8.lt
      have B10 := B8.trans (b10'.mono B8.size)
      have HQ := Lib.hid (And.intro r1 (And.intro r2 (And.intro y10 (And.intro z10 B10))))
      clear q1 q2 y8 b10 b10' B8 r1 r2 y10 z10 B10
      go_upto_region 10 with (fail)
      obtain ⟨r1, r2, y10, z10, B10⟩ := HQ.out
      clear HQ
      generalize w10.heap.size = gz at z10 ⊢
      generalize w10.alloc (.cells #[.int .i64 (fld zeroM 0), .int .i64 (fld zeroM 1), .int .i64 (fld zeroM 2), .int .i64 (fld zeroM 3), .int .i64 (fld zeroM 4), .int .i64 (fld zeroM 5)] 23) = w11 at r1 r2 y10 z10 B10 ⊢
      have eqe : ∀ W, (binOp .eql 27 (errOf p) (errOf p)).run Tryd.prog W = .ok (.bool true) W := fun W => eql_err p W
      have e11 := (HE.out.below B10).1
      unfold Sent at e11
      have ee := cell_regrown e11
      have km0 := cell_regrown (r1.cell 0 (by omega)); have km1 := cell_regrown (r1.cell 1 (by omega)); have km2 := cell_regrown (r1.cell 2 (by omega)); have km3 := cell_regrown (r1.cell 3 (by omega)); have km4 := cell_regrown (r1.cell 4 (by omega)); have km5 := cell_regrown (r1.cell 5 (by omega)); have kn0 := cell_regrown (r2.cell 0 (by omega)); have kn1 := cell_regrown (r2.cell 1 (by omega)); have kn2 := cell_regrown (r2.cell 2 (by omega)); have kn3 := cell_regrown (r2.cell 3 (by omega)); have kn4 := cell_regrown (r2.cell 4 (by omega)); have kn5 := cell_regrown (r2.cell 5 (by omega)); have ky0 := cell_regrown (y10.cell 0 (by omega)); have ky1 := cell_regrown (y10.cell 1 (by omega)); have ky2 := cell_regrown (y10.cell 2 (by omega)); have ky3 := cell_regrown (y10.cell 3 (by omega)); have ky4 := cell_regrown (y10.cell 4 (by omega)); have ky5 := cell_regrown (y10.cell 5 (by omega)); have kz0 := cell_regrown (z10.cell 0 (by omega)); have kz1 := cell_regrown (z10.cell 1 (by omega)); have kz2 := cell_regrown (z10.cell 2 (by omega)); have kz3 := cell_regrown (z10.cell 3 (by omega)); have kz4 := cell_regrown (z10.cell 4 (by omega)); have kz5 := cell_regrown (z10.cell 5 (by omega))
      have cS : ∀ q os, Calls Tryd.prog 12 #[metaV zeroM, metaV zeroM] (grow (redrawn w11 q) os) fun e w'' => e = .returned (.bool true) ∧ ∃ p : Regrown, w'' = grow (redrawn w11 p.d) p.os := fun q os => Calls.regrown_of (by have h := sameMeta_any zeroM zeroM (grow (redrawn w11 q) os); rwa [(sameM_eq zeroM zeroM).2 rfl] at h)
      obtain ⟨nw, enw⟩ : ∃ b, b = newer m n := ⟨_, rfl⟩
      obtain ⟨av, eav⟩ : ∃ b, b = alive m fl := ⟨_, rfl⟩
      have cN : ∀ q os, Calls Tryd.prog 18 #[metaV m, metaV n] (grow (redrawn w11 q) os) fun e w'' => e = .returned (.bool nw) ∧ ∃ p : Regrown, w'' = grow (redrawn w11 p.d) p.os := fun q os => Calls.regrown_of (by rw [enw]; exact newer_any m n _)
      have cM : ∀ q os, Calls Tryd.prog 19 #[metaV m, metaV n] (grow (redrawn w11 q) os) fun e w'' => e = .returned (.bool nw) ∧ ∃ p : Regrown, w'' = grow (redrawn w11 p.d) p.os := fun q os => Calls.regrown_of (by rw [enw]; exact rnewer_any m n _)
      have cA : ∀ q os, Calls Tryd.prog 20 #[metaV m, .int .i64 fl] (grow (redrawn w11 q) os) fun e w'' => e = .returned (.bool av) ∧ ∃ p : Regrown, w'' = grow (redrawn w11 p.d) p.os := fun q os => Calls.regrown_of (by rw [eav]; exact alive_any m fl _)
      have cB : ∀ q os, Calls Tryd.prog 21 #[metaV m, .int .i64 fl] (grow (redrawn w11 q) os) fun e w'' => e = .returned (.bool av) ∧ ∃ p : Regrown, w'' = grow (redrawn w11 p.d) p.os := fun q os => Calls.regrown_of (by rw [eav]; exact ralive_any m fl _)
      have HcS := Lib.hid cS; have HcN := Lib.hid cN; have HcM := Lib.hid cM; have HcA := Lib.hid cA; have HcB := Lib.hid cB
      clear r1 r2 y10 z10 e11 enw eav cS cN cM cA cB
      refine wp_region_quiet_below (by kernel_rfl) (by kernel_rfl) ?_
      repeat (go_big_quiet_step (first
        | (go_at_call 12; with_reducible exact HcS.out _ _)
        | (go_at_call 18; with_reducible exact HcN.out _ _)
        | (go_at_call 19; with_reducible exact HcM.out _ _)
        | (go_at_call 20; with_reducible exact HcA.out _ _)
        | (go_at_call 21; with_reducible exact HcB.out _ _)))
      refine wpQuiet_nil ?_
      intro _ hw'
      obtain ⟨⟨dq, osq⟩, hw''⟩ := hw'
      subst hw''
      have B12 := B10.trans ((below_regrown w11 dq osq).mono B10.size)
      generalize grow (redrawn w11 dq) osq = w12 at B12 ⊢
      go_wp2_with fail
      go_ret
      exact ⟨rfl, B12⟩
theorem walk (n0 n1 : Nat → Int) (a2 : Option Addr) (len2 cap2 : Nat) (z2 : List Int) (a3 : Option Addr) (len3 cap3 : Nat) (z3 : List Int) (a4 : Int) (W : World) (w0 : ∀ i, i < 6 → (Lit.int .i64 (n0 i)).wf = true) (w1 : ∀ i, i < 6 → (Lit.int .i64 (n1 i)).wf = true)
    (w2 : IsRow .u8 W a2 len2 cap2 z2) (w3 : IsRow .u8 W a3 len3 cap3 z3) (w4 : (Lit.int .i64 a4).wf = true) (h : LaidMetaSays.Holds W) :
    Calls Tryd.prog 4 #[.agg ((List.range 6).map fun i => .int .i64 (n0 i)).toArray, .agg ((List.range 6).map fun i => .int .i64 (n1 i)).toArray, .slice a2 len2 cap2, .slice a3 len3 cap3, .int .i64 a4] W
      fun e w' => e = .returned (.bool true) ∧ Below W.heap.size W w' := by
  obtain ⟨ht, f, hf, _⟩ := h
  obtain ⟨d, hd, ad, _⟩ := w2.arg8
  obtain ⟨l, hl, al, hc⟩ := w3.arg8
  by_cases h2 : len2 ≤ 4000
  · by_cases h3 : len3 ≤ 4000
    · exact says_core ⟨n0 0, n0 1, n0 2, n0 3, n0 4, n0 5⟩ ⟨n1 0, n1 1, n1 2, n1 3, n1 4, n1 5⟩ d l _ _ _ _ _ _ a4 W ht _ hf h2 h3 ad al hl.symm hc
    · exact says_long ⟨n0 0, n0 1, n0 2, n0 3, n0 4, n0 5⟩ ⟨n1 0, n1 1, n1 2, n1 3, n1 4, n1 5⟩ _ _ _ _ _ _ a4 W ht _ hf (by omega)
  · exact says_long ⟨n0 0, n0 1, n0 2, n0 3, n0 4, n0 5⟩ ⟨n1 0, n1 1, n1 2, n1 3, n1 4, n1 5⟩ _ _ _ _ _ _ a4 W ht _ hf (by omega)
end Go.Proofs.YtfcmhlmllcpkmaaDoor.walkMetaSays
