/- The walk over MetaBack. By the verifier of shale. -/
import Derived.Test.YtfcmhlmllcpkmaaDoorMetaFirst
import Derived.Test.YtfcmhlmllcpkmaaDoorMetaZeros
import Derived.Laws.AppendOwnNone
import Derived.RangeFuncBox
import Derived.Test.YtfcmhlmllcpkmaaDoorLaidMetaBack
namespace Go.Proofs.YtfcmhlmllcpkmaaDoor.walkMetaBack
open Go Go.RowKit Crc Meta
set_option linter.unusedVariables false
attribute [local go_sem] Bits32.bxor Bits32.bxor_bit
theorem news_of {W : World} {ad : Addr} {n cap : Nat} {l : List (BitVec 8)} (h : Arg8 W (.slice (some ad) n cap) l) : ∀ W', Below W.heap.size W W' → ∀ j u, (cells8 l)[j]? = some u → W'.cell? (ad.add j) = some u := by
  intro W' b j u hu
  have hj : j < l.length := by
    have := (List.getElem?_eq_some_iff.1 hu).1
    rwa [cells8_length] at this
  rcases h.1 with ⟨rfl, _⟩ | ⟨bb, off, c, e, hr, hb⟩
  · cases hj
  · simp only [Value.slice.injEq, Option.some.injEq] at e
    obtain ⟨rfl, _⟩ := e
    have hadd : (⟨bb, off, none⟩ : Addr).add j = ⟨bb, off + j, none⟩ := by by_cases h : j = 0 <;> simp [Addr.add, h]
    rw [hadd, (hr.below b hb) j hj, ← hu]
    unfold cells8 nth8
    simp [hj]
theorem rec_drew {w : World} {r : Nat} {m : M6} {t : TypeId} (h : RecAt w r m t) : RecAt w.drew r m t := by unfold RecAt at h ⊢; exact h
theorem six_below {W w : World} {r B : Nat} {v0 v1 v2 v3 v4 v5 : Value} (h : B ≤ r) (b : Below B W w) : Below B W ((((((w.setCell ⟨r, 0, none⟩ v0).setCell ⟨r, 1, none⟩ v1).setCell ⟨r, 2, none⟩ v2).setCell ⟨r, 3, none⟩ v3).setCell ⟨r, 4, none⟩ v4).setCell ⟨r, 5, none⟩ v5) :=
  (((((b.setCell h _).setCell h _).setCell h _).setCell h _).setCell h _).setCell h _
/-- behind an append to a copy of 32 bytes: a slice of the call's own that holds both. -/
theorem appended {w w8 w9 : World} {g6 N : Nat} {v : Value} {a d : List (BitVec 8)} (ha : a.length = 32) (h32 : 32 ≤ N) (hown : w9.ownsRow g6 5 1 v N (cells8 a ++ cells8 d))
    (hgrow : w8.grownBy w9 (Value.slice (some ⟨g6, 0, none⟩) 32 32).ownBlock) (b8 : Below g6 w w8) (hbs : g6 ≤ w8.heap.size) :
    ∃ g9 cap9, v = .slice (some ⟨g9, 0, none⟩) N cap9 ∧ Buf8 w9 g9 (a ++ d) ∧ N = (a ++ d).length ∧ N ≤ cap9 ∧ g6 ≤ g9 ∧ Below g6 w w9 := by
  have h2 : Own8 w9 g6 v N (a ++ d) := by unfold Own8; rw [← cells8_append]; exact hown
  obtain ⟨g9, cap9, rfl⟩ : ∃ g9 cap9, v = .slice (some ⟨g9, 0, none⟩) N cap9 := by
    obtain ⟨x, y, e⟩ := ownsRow_succ (k := N - 1) (by rw [show N - 1 + 1 = N by omega]; exact hown)
    exact ⟨x, y, by rw [e, show N - 1 + 1 = N by omega]⟩
  obtain ⟨hb, hl, hc⟩ := Meta.Own8.buf h2
  exact ⟨g9, cap9, rfl, hb, hl, hc, (h2.block g9 rfl).1, b8.grown hgrow hbs (fun k hk => by simp only [Value.ownBlock, Option.some.injEq] at hk; omega)⟩
set_option maxRecDepth 100000 in
set_option maxHeartbeats 2000000 in
/-- bytes that are too long: nothing is asked. -/
theorem back_long (m : M6) (p1 : Option Addr) (n1 c1 : Nat) (z : Int) (w : World) (ht : Tab w) (p : Addr) (E : ErrAt w 0 p) (h : 2000 < n1) :
    Calls Tryd.prog 5 #[metaV m, .slice p1 n1 c1, .int .i64 z] w fun e w' => e = .returned (.bool true) ∧ Below w.heap.size w w' := by
  have t1 : decide ((2000 : Int) < (n1 : Int)) = true := decide_eq_true (by omega)
  have HE := Lib.hid E
  have B := (Below.refl w.heap.size w).alloc (Nat.le_refl _) (.cells #[.int .i64 (fld m 0), .int .i64 (fld m 1), .int .i64 (fld m 2), .int .i64 (fld m 3), .int .i64 (fld m 4), .int .i64 (fld m 5)] 23)
  have HB := Lib.hid B
  clear E B
  go_enter Tryd.func5, Tryd.ntmps5
  go_wp2_with fail
  have B := HB.out
  generalize w.alloc (.cells #[.int .i64 (fld m 0), .int .i64 (fld m 1), .int .i64 (fld m 2), .int .i64 (fld m 3), .int .i64 (fld m 4), .int .i64 (fld m 5)] 23) = w1 at B ⊢
  refine (first_any w1 (ht.below B ht.lt) p (HE.out.below B)).mono ?_
  rintro e w2 ⟨rfl, b2⟩
  have B2 := B.trans (b2.mono B.size)
  clear b2 B
  go_wp2_with fail
  go_ret
  exact ⟨rfl, B2⟩
set_option maxRecDepth 100000 in
set_option maxHeartbeats 8000000 in
theorem back_core (m : M6) (d : List (BitVec 8)) (p1 : Option Addr) (n1 c1 : Nat) (z : Int) (w : World) (ht : Tab w) (p : Addr) (E : ErrAt w 0 p)
    (k1 : n1 ≤ 2000) (a1 : Arg8 w (.slice p1 n1 c1) d) (hp1 : p1 = none → c1 = 0) :
    Calls Tryd.prog 5 #[metaV m, .slice p1 n1 c1, .int .i64 z] w fun e w' => e = .returned (.bool true) ∧ Below w.heap.size w w' := by
  obtain ⟨i0, hi, hz0, hz1, hz2⟩ := info8
  have t1 : decide ((2000 : Int) < (n1 : Int)) = false := decide_eq_false (by omega)
  have hn1 := a1.len
  have HE := Lib.hid E
  have H1 := Lib.hid a1
  have HN1 := Lib.hid hn1
  have r0 := rec_new w m 23
  have B := (Below.refl w.heap.size w).alloc (Nat.le_refl _) (.cells #[.int .i64 (fld m 0), .int .i64 (fld m 1), .int .i64 (fld m 2), .int .i64 (fld m 3), .int .i64 (fld m 4), .int .i64 (fld m 5)] 23)
  have HB := Lib.hid (And.intro r0 B)
  have hcap1 : p1 = none → n1 = 0 := by
    intro e
    rcases a1.1 with ⟨rfl, _⟩ | ⟨bb, off, c, e', _, _⟩
    · exact hn1
    · rw [e] at e'; simp at e'
  have hcases : (n1 = 0 ∧ p1 = none ∧ c1 = 0) ∨ ∃ ad, p1 = some ad := by
    cases p1 with
    | none => exact Or.inl ⟨hcap1 rfl, rfl, hp1 rfl⟩
    | some ad => exact Or.inr ⟨ad, rfl⟩
  have HC := Lib.hid hcases
  clear E B a1 hp1 r0 hcap1 hcases hn1
  go_enter Tryd.func5, Tryd.ntmps5
  go_wp2_with fail
  obtain ⟨r0, B⟩ := HB.out
  generalize w.alloc (.cells #[.int .i64 (fld m 0), .int .i64 (fld m 1), .int .i64 (fld m 2), .int .i64 (fld m 3), .int .i64 (fld m 4), .int .i64 (fld m 5)] 23) = w1 at r0 B ⊢
  refine (first_any w1 (ht.below B ht.lt) p (HE.out.below B)).mono ?_
  rintro e w2 ⟨rfl, b2⟩
  have r2 := r0.below b2 r0.lt
  have B2 := B.trans (b2.mono B.size)
  clear b2 B r0 HB
  have f0 := r2.cell 0 (by omega); have f1 := r2.cell 1 (by omega); have f2 := r2.cell 2 (by omega); have f3 := r2.cell 3 (by omega); have f4 := r2.cell 4 (by omega); have f5 := r2.cell 5 (by omega)
  go_wp2_with fail
  rcases Decidable.em (May m) with hm | hm
  · have HM := Lib.hid hm
    refine (bytes_yes m hm d _ w2 (ht.below B2 ht.lt) (H1.out.since (Nat.le_refl _) B2)).mono ?_
    rintro e w3 ⟨g1, rfl, hb1, hg1, b3⟩
    have r3 := r2.below b3 r2.lt
    have B3 := B2.trans (b3.mono B2.size)
    clear hm r2 f0 f1 f2 f3 f4 f5 b3 B2
    go_wp2_with fail
    refine (open_any (rec32 m d) d _ 32 32 _ w3 (ht.below B3 ht.lt) (hb1.arg (rec32_length _ _).symm (by decide)).1 (rec32_length _ _).symm (Nat.le_refl _) p (HE.out.below B3) (H1.out.since (Nat.le_refl _) B3)).mono ?_
    rintro e w4 ⟨rfl, b4⟩
    have hG := rec_good m HM.out d
    rw [if_pos hG, if_pos hG, parse_rec m HM.out d]
    clear hG
    have x4 := rec_new w4 m 23
    have b4' := b4.alloc b4.size (.cells #[.int .i64 (fld m 0), .int .i64 (fld m 1), .int .i64 (fld m 2), .int .i64 (fld m 3), .int .i64 (fld m 4), .int .i64 (fld m 5)] 23)
    have r4 := r3.below b4' r3.lt
    have hb4 : Blk8 _ g1 (rec32 m d) := (b4'.block _ hb1.lt).trans hb1
    have B4 := B3.trans (b4'.mono B3.size)
    have HQ := Lib.hid (And.intro r4 (And.intro hb4 (And.intro B4 x4)))
    clear r3 hb1 B3 b4 b4' r4 hb4 B4 x4
    go_upto_region 8 with (fail)
    obtain ⟨r4, hb4, B4, x4⟩ := HQ.out
    clear HQ
    generalize w4.heap.size = gx at x4 ⊢
    generalize w4.alloc (.cells #[.int .i64 (fld m 0), .int .i64 (fld m 1), .int .i64 (fld m 2), .int .i64 (fld m 3), .int .i64 (fld m 4), .int .i64 (fld m 5)] 23) = w5 at r4 hb4 B4 x4 ⊢
    have f0 := r4.cell 0 (by omega); have f1 := r4.cell 1 (by omega); have f2 := r4.cell 2 (by omega); have f3 := r4.cell 3 (by omega); have f4 := r4.cell 4 (by omega); have f5 := r4.cell 5 (by omega)
    have q0 := x4.cell 0 (by omega); have q1 := x4.cell 1 (by omega); have q2 := x4.cell 2 (by omega); have q3 := x4.cell 3 (by omega); have q4 := x4.cell 4 (by omega); have q5 := x4.cell 5 (by omega)
    go_wp2_with fail
    refine (sameMeta_any m m w5).mono ?_
    rintro e w6 ⟨rfl, b6⟩
    rw [(sameM_eq m m).2 rfl]
    have hb6 : Blk8 _ g1 (rec32 m d) := (b6.block _ hb4.lt).trans hb4
    have B6 := B4.trans (b6.mono B4.size)
    clear r4 hb4 B4 x4 f0 f1 f2 f3 f4 f5 q0 q1 q2 q3 q4 q5 b6
    go_wp2_with fail
    refine (zeros_any ((rec32 m d).take 24) g1 0 24 32 w6 (hb6.row.take 24) (by rw [List.length_take, rec32_length]; rfl) (by omega)).mono ?_
    rintro e w7 ⟨rfl, rfl⟩
    have hz37 : decide (((zL ((rec32 m d).take 24) 24 : Nat) : Int) < 37) = false := decide_eq_false (by have := zeros_rec m HM.out d; omega)
    go_wp2_with fail
    clear hz37
    refine (copy_of (n := 32) (cap := 32) (hb6.arg (rec32_length _ _).symm (by decide)) (fun h => by cases h) (by omega)).mono ?_
    rintro e w8 ⟨rfl, hc8, b8⟩
    have hown := hc8.own (base := w6.heap.size) (n := 32) (Nat.le_refl _) (rec32_length _ _).symm (by decide)
    have hbs := b8.size
    have B8 := B6.trans (b8.mono B6.size)
    have hgw : w.heap.size ≤ w6.heap.size := B6.size
    generalize hg6 : w6.heap.size = g6 at hc8 hown hbs b8 hgw ⊢
    clear hb6
    rcases HC.out with ⟨rfl, rfl, rfl⟩ | ⟨ad, rfl⟩
    · have hd0 : d = [] := List.eq_nil_of_length_eq_zero HN1.out.symm
      have HNl : Hid (32 = (rec32 m d ++ d).length) := by rw [hd0, List.append_nil]; exact (rec32_length m []).symm
      have hbuf : Buf8 w8 g6 (rec32 m d ++ d) := ⟨_, _, hc8, by
        intro i hi
        rw [hd0, List.append_nil] at hi ⊢
        simp [nth8, hi]⟩
      have hg6' : g6 ≤ g6 := Nat.le_refl _
      have B9 := B8
      obtain ⟨c, hc, hce⟩ := norm_in z 256 (by omega) (by omega)
      have bi : ((256 : Nat) : Int) = 256 := rfl
      rw [bi] at hce
      clear bi
      have c2 : (c : Int) / 8 < (32 : Int) := by omega
      have c3 : (0 : Int) ≤ (c : Int) := by omega
      have c4 : (c : Int) < 256 := by omega
      have d1 := hbuf.cell (c / 8) (by have := HNl.out; omega)
      have d2 := hbuf.free (c / 8)
      have hNb : 32 ≤ 2032 := by omega
      have hNc : 32 ≤ 32 := by omega
      clear hd0
      go_wp2_with (at_builtin; refine wpList_append_own_none _ rfl _ _ 24 rfl g6 5 i0 1 Tryd.underlying24 hi (.slice (some ⟨g6, 0, none⟩) 32 32) 32 _ rfl hown rfl ?_)
      have HBd := Lib.hid (turned_bad m HM.out d c (by have h1 := HNl.out; rw [List.length_append, rec32_length] at h1; omega))
      have hL : ∀ i, i = c / 8 → i < (rec32 m d ++ d).length := fun i hi => by have := HNl.out; omega
      have hb10 : Buf8 _ g6 (turn (rec32 m d ++ d) c) := hbuf.set (c / 8) (hL _ rfl) (nth8 (rec32 m d ++ d) (c / 8) ^^^ BitVec.twoPow 8 (c % 8))
      have b10 := B9.setCell (p := ⟨g6, c / 8, none⟩) hgw (.int .u8 (Bits32.b (nth8 (rec32 m d ++ d) (c / 8) ^^^ BitVec.twoPow 8 (c % 8))))
      generalize w8.setCell ⟨g6, c / 8, none⟩ (.int .u8 (Bits32.b (nth8 (rec32 m d ++ d) (c / 8) ^^^ BitVec.twoPow 8 (c % 8)))) = w10 at hb10 b10 ⊢
      have hTl : (turn (rec32 m d ++ d) c).length = 32 := by rw [turn_length]; exact HNl.out.symm
      generalize turn (rec32 m d ++ d) c = T at hb10 hTl HBd
      clear hbuf B9 d1 d2 hL hce c2 c3 c4 hc HNl
      have hT1 : (T.take 32).length = 32 := by rw [List.length_take]; omega
      have i1 : ∀ W, Below w10.heap.size w10 W → IsBytes W (.slice (some ⟨g6, 0, none⟩) 32 32) (T.take 32) := fun W b => .mk hT1.symm ((hb10.below b hb10.lt).row.take 32) (Nat.lt_of_lt_of_le hb10.lt b.size)
      have K0 : ∀ W v, Below w10.heap.size w10 W → Arg8 W v (T.drop 32) → Calls Tryd.prog 11 #[.slice (some ⟨g6, 0, none⟩) 32 32, v] W fun e w' => e = .returned (.tuple #[metaV zeroM, errOf p]) ∧ Below w10.heap.size w10 w' ∧ Below W.heap.size W w' := by
        intro W v b hv
        have B := b10.trans (b.mono b10.size)
        refine (open_any (T.take 32) (T.drop 32) _ 32 32 v W (ht.below B ht.lt) (i1 W b) hT1.symm (by omega) p (HE.out.below B) hv).mono ?_
        rintro e w' ⟨rfl, b'⟩
        exact ⟨by rw [if_neg HBd.out, if_neg HBd.out], b.trans (b'.mono b.size), b'⟩
      have e10 := (HE.out.below b10).1
      unfold Sent at e10
      have hz1 : ¬ 0 = w10.heap.size := by have h1 := HE.out.2.1; have h2 := b10.size; omega
      have hz2 : ¬ w10.heap.size = 0 := fun h => hz1 h.symm
      have hz3 : w10.heap.size ≠ 0 := hz2
      have HE12 : Hid (∀ W', Below w10.heap.size w10 W' → W'.cell? ⟨0, 0, none⟩ = some (errOf p)) := fun W' b => (HE.out.below (b10.trans (b.mono b10.size))).1
      have eqe : ∀ W, (binOp .eql 27 (errOf p) (errOf p)).run Tryd.prog W = .ok (.bool true) W := fun W => eql_err p W
      have y32 : (32 : Int) ≤ (32 : Int) := by omega
      have y33 : (32 : Int) ≤ (32 : Int) := by omega
      have K : Hid (∀ W, Below w10.heap.size w10 W → Calls Tryd.prog 11 #[.slice (some ⟨g6, 0, none⟩) 32 32, .slice (some ⟨g6, 0, none⟩) 0 0] W fun e w' => e = .returned (.tuple #[metaV zeroM, errOf p]) ∧ Below w10.heap.size w10 w' ∧ Below W.heap.size W w') := fun W b => K0 W _ b (by rw [List.drop_of_length_le (by omega)]; exact Arg8.nil _ _ _)
      clear K0 i1 hb10
      go_region_held3 (fun w' => Below w10.heap.size w10 w') (first | assumption | with_reducible exact Below.drew (Below.refl _ _) | with_reducible exact Below.drew (by assumption) | with_reducible exact Below.alloc (by assumption) (Below.size (by assumption)) _ | with_reducible exact Below.drew (Below.alloc (by assumption) (Below.size (by assumption)) _) | with_reducible exact Below.drew (Below.alloc (Below.refl _ _) (Nat.le_refl _) _) | with_reducible exact six_below (Nat.le_refl _) (by assumption) | with_reducible exact Below.drew (six_below (Nat.le_refl _) (by assumption)) | with_reducible exact six_below (Below.size (by assumption)) (Below.alloc (by assumption) (Below.size (by assumption)) _))
        (first
          | (go_at_call 11; with_reducible refine Calls.mono (K.out _ (by assumption)) ?_; rintro e w11 ⟨rfl, b11, bW⟩; have e11 := HE12.out w11 b11; first | (have bX : Below w10.drew.heap.size w10.drew w11 := bW; clear bW bX) | (have rr : RecAt w11 w10.heap.size zeroM 23 := RecAt.below (w := (w10.alloc (.cells #[.int .i64 0, .int .i64 0, .int .i64 0, .int .i64 0, .int .i64 0, .int .i64 0] 23)).drew) (rec_drew (zero_at w10)) bW (by simp); have c0 := rr.cell 0 (by decide); have c1 := rr.cell 1 (by decide); have c2 := rr.cell 2 (by decide); have c3 := rr.cell 3 (by decide); have c4 := rr.cell 4 (by decide); have c5 := rr.cell 5 (by decide); have f0 := rr.free 0; have f1 := rr.free 1; have f2 := rr.free 2; have f3 := rr.free 3; have f4 := rr.free 4; have f5 := rr.free 5; clear bW)))
      all_goals
        first
        | have e12 := HE12.out (w11.alloc (.cells #[.int .i64 (fld zeroM 0), .int .i64 (fld zeroM 1), .int .i64 (fld zeroM 2), .int .i64 (fld zeroM 3), .int .i64 (fld zeroM 4), .int .i64 (fld zeroM 5)] 23)) (by with_reducible assumption)
        | have e12 := HE12.out ((((((w11.setCell ⟨w10.heap.size, 0, none⟩ (.int .i64 (fld zeroM 0))).setCell ⟨w10.heap.size, 1, none⟩ (.int .i64 (fld zeroM 1))).setCell ⟨w10.heap.size, 2, none⟩ (.int .i64 (fld zeroM 2))).setCell ⟨w10.heap.size, 3, none⟩ (.int .i64 (fld zeroM 3))).setCell ⟨w10.heap.size, 4, none⟩ (.int .i64 (fld zeroM 4))).setCell ⟨w10.heap.size, 5, none⟩ (.int .i64 (fld zeroM 5))) (by with_reducible assumption)
        go_wp2_with fail
        go_ret
        exact ⟨rfl, b10.trans (Below.mono (by with_reducible assumption) b10.size)⟩

    · have hnews := news_of H1.out _ B8
      obtain ⟨N, hN⟩ : ∃ N, N = 32 + n1 := ⟨_, rfl⟩
      have hNb : N ≤ 2032 := by omega
      have hN32 : 32 ≤ N := by omega
      have HN := Lib.hid hN
      clear hN
      obtain ⟨c, hc, hce⟩ := norm_in z (8 * N) (by omega) (by omega)
      have bi : (8 * (N : Int)) = ((8 * N : Nat) : Int) := by omega
      rw [← bi] at hce
      clear bi
      have t2 : ¬ (8 * (N : Int) = 0) := by omega
      have c2 : (c : Int) / 8 < (N : Int) := by omega
      have c3 : (0 : Int) ≤ (c : Int) := by omega
      have c4 : (c : Int) < 8 * (N : Int) := by omega
      go_wp2_with (at_builtin; refine wpList_append_own _ rfl _ _ 24 rfl g6 5 i0 (.int .u8 0) 1 1 Tryd.underlying24 hi hz0 hz1 hz2 rfl (by decide) (.slice (some ⟨g6, 0, none⟩) 32 32) 32 _ rfl hown ad n1 c1 (cells8 d) rfl (by rw [cells8_length, HN1.out, Nat.mul_one]) hnews (cells8_one _) (by unfold maxLen; omega) (by omega) hbs ?_; intro v9 w9 hown9 hgrow _; rw [← HN.out] at hown9; obtain ⟨g9, cap9, rfl, hbuf, hNl, hNc, hg9, b9⟩ := appended (rec32_length m d) hN32 hown9 hgrow b8 hbs; have HNl := Lib.hid hNl; have d1 := hbuf.cell (c / 8) (by omega); clear hNl; have d2 := hbuf.free (c / 8); clear hown9 hgrow)
      have B9 := B6.trans (b9.mono hgw)
      clear hnews hown hc8 b8 hbs b9 B6 B8 HC hg6
      have HBd := Lib.hid (turned_bad m HM.out d c (by have h1 := HNl.out; rw [List.length_append, rec32_length] at h1; omega))
      have hL : ∀ i, i = c / 8 → i < (rec32 m d ++ d).length := fun i hi => by have := HNl.out; omega
      have hb10 : Buf8 _ g9 (turn (rec32 m d ++ d) c) := hbuf.set (c / 8) (hL _ rfl) (nth8 (rec32 m d ++ d) (c / 8) ^^^ BitVec.twoPow 8 (c % 8))
      have b10 := B9.setCell (p := ⟨g9, c / 8, none⟩) (Nat.le_trans hgw hg9) (.int .u8 (Bits32.b (nth8 (rec32 m d ++ d) (c / 8) ^^^ BitVec.twoPow 8 (c % 8))))
      generalize w9.setCell ⟨g9, c / 8, none⟩ (.int .u8 (Bits32.b (nth8 (rec32 m d ++ d) (c / 8) ^^^ BitVec.twoPow 8 (c % 8)))) = w10 at hb10 b10 ⊢
      have hTl : (turn (rec32 m d ++ d) c).length = N := by rw [turn_length]; exact HNl.out.symm
      generalize turn (rec32 m d ++ d) c = T at hb10 hTl HBd
      clear hbuf B9 d1 d2 hL hce c2 c3 c4 hc HNl t2
      have hT1 : (T.take 32).length = 32 := by rw [List.length_take]; omega
      have i1 : ∀ W, Below w10.heap.size w10 W → IsBytes W (.slice (some ⟨g9, 0, none⟩) 32 cap9) (T.take 32) := fun W b => .mk hT1.symm ((hb10.below b hb10.lt).row.take 32) (Nat.lt_of_lt_of_le hb10.lt b.size)
      have K0 : ∀ W v, Below w10.heap.size w10 W → Arg8 W v (T.drop 32) → Calls Tryd.prog 11 #[.slice (some ⟨g9, 0, none⟩) 32 cap9, v] W fun e w' => e = .returned (.tuple #[metaV zeroM, errOf p]) ∧ Below w10.heap.size w10 w' ∧ Below W.heap.size W w' := by
        intro W v b hv
        have B := b10.trans (b.mono b10.size)
        refine (open_any (T.take 32) (T.drop 32) _ 32 cap9 v W (ht.below B ht.lt) (i1 W b) hT1.symm (by omega) p (HE.out.below B) hv).mono ?_
        rintro e w' ⟨rfl, b'⟩
        exact ⟨by rw [if_neg HBd.out, if_neg HBd.out], b.trans (b'.mono b.size), b'⟩
      have e10 := (HE.out.below b10).1
      unfold Sent at e10
      have hz1 : ¬ 0 = w10.heap.size := by have h1 := HE.out.2.1; have h2 := b10.size; omega
      have hz2 : ¬ w10.heap.size = 0 := fun h => hz1 h.symm
      have hz3 : w10.heap.size ≠ 0 := hz2
      have HE12 : Hid (∀ W', Below w10.heap.size w10 W' → W'.cell? ⟨0, 0, none⟩ = some (errOf p)) := fun W' b => (HE.out.below (b10.trans (b.mono b10.size))).1
      have eqe : ∀ W, (binOp .eql 27 (errOf p) (errOf p)).run Tryd.prog W = .ok (.bool true) W := fun W => eql_err p W
      have y32 : (32 : Int) ≤ (cap9 : Int) := by omega
      have y33 : (32 : Int) ≤ (N : Int) := by omega
      have Kv : (cap9 = 32 ∧ N = 32) ∨ ¬ cap9 = 32 := by omega
      rcases Kv with ⟨rfl, rfl⟩ | hcap
      · have K : Hid (∀ W, Below w10.heap.size w10 W → Calls Tryd.prog 11 #[.slice (some ⟨g9, 0, none⟩) 32 32, .slice (some ⟨g9, 0, none⟩) 0 0] W fun e w' => e = .returned (.tuple #[metaV zeroM, errOf p]) ∧ Below w10.heap.size w10 w' ∧ Below W.heap.size W w') := fun W b => K0 W _ b (by rw [List.drop_of_length_le (by omega)]; exact Arg8.nil _ _ _)
        clear K0 i1 hb10
        go_region_held3 (fun w' => Below w10.heap.size w10 w') (first | assumption | with_reducible exact Below.drew (Below.refl _ _) | with_reducible exact Below.drew (by assumption) | with_reducible exact Below.alloc (by assumption) (Below.size (by assumption)) _ | with_reducible exact Below.drew (Below.alloc (by assumption) (Below.size (by assumption)) _) | with_reducible exact Below.drew (Below.alloc (Below.refl _ _) (Nat.le_refl _) _) | with_reducible exact six_below (Nat.le_refl _) (by assumption) | with_reducible exact Below.drew (six_below (Nat.le_refl _) (by assumption)) | with_reducible exact six_below (Below.size (by assumption)) (Below.alloc (by assumption) (Below.size (by assumption)) _))
          (first
            | (go_at_call 11; with_reducible refine Calls.mono (K.out _ (by assumption)) ?_; rintro e w11 ⟨rfl, b11, bW⟩; have e11 := HE12.out w11 b11; first | (have bX : Below w10.drew.heap.size w10.drew w11 := bW; clear bW bX) | (have rr : RecAt w11 w10.heap.size zeroM 23 := RecAt.below (w := (w10.alloc (.cells #[.int .i64 0, .int .i64 0, .int .i64 0, .int .i64 0, .int .i64 0, .int .i64 0] 23)).drew) (rec_drew (zero_at w10)) bW (by simp); have c0 := rr.cell 0 (by decide); have c1 := rr.cell 1 (by decide); have c2 := rr.cell 2 (by decide); have c3 := rr.cell 3 (by decide); have c4 := rr.cell 4 (by decide); have c5 := rr.cell 5 (by decide); have f0 := rr.free 0; have f1 := rr.free 1; have f2 := rr.free 2; have f3 := rr.free 3; have f4 := rr.free 4; have f5 := rr.free 5; clear bW)))
        all_goals
          first
          | have e12 := HE12.out (w11.alloc (.cells #[.int .i64 (fld zeroM 0), .int .i64 (fld zeroM 1), .int .i64 (fld zeroM 2), .int .i64 (fld zeroM 3), .int .i64 (fld zeroM 4), .int .i64 (fld zeroM 5)] 23)) (by with_reducible assumption)
          | have e12 := HE12.out ((((((w11.setCell ⟨w10.heap.size, 0, none⟩ (.int .i64 (fld zeroM 0))).setCell ⟨w10.heap.size, 1, none⟩ (.int .i64 (fld zeroM 1))).setCell ⟨w10.heap.size, 2, none⟩ (.int .i64 (fld zeroM 2))).setCell ⟨w10.heap.size, 3, none⟩ (.int .i64 (fld zeroM 3))).setCell ⟨w10.heap.size, 4, none⟩ (.int .i64 (fld zeroM 4))).setCell ⟨w10.heap.size, 5, none⟩ (.int .i64 (fld zeroM 5))) (by with_reducible assumption)
          go_wp2_with fail
          go_ret
          exact ⟨rfl, b10.trans (Below.mono (by with_reducible assumption) b10.size)⟩
      · have K : Hid (∀ W, Below w10.heap.size w10 W → Calls Tryd.prog 11 #[.slice (some ⟨g9, 0, none⟩) 32 cap9, .slice (some ⟨g9, 32, none⟩) (N - 32) (cap9 - 32)] W fun e w' => e = .returned (.tuple #[metaV zeroM, errOf p]) ∧ Below w10.heap.size w10 w' ∧ Below W.heap.size W w') := fun W b => K0 W _ b
          (Arg8.whole (by have := (hb10.below b hb10.lt).row.drop 32; rwa [Nat.zero_add] at this) (Nat.lt_of_lt_of_le hb10.lt b.size) (by rw [List.length_drop]; omega) (by unfold maxLen; omega))
        clear K0 i1 hb10
        go_region_held3 (fun w' => Below w10.heap.size w10 w') (first | assumption | with_reducible exact Below.drew (Below.refl _ _) | with_reducible exact Below.drew (by assumption) | with_reducible exact Below.alloc (by assumption) (Below.size (by assumption)) _ | with_reducible exact Below.drew (Below.alloc (by assumption) (Below.size (by assumption)) _) | with_reducible exact Below.drew (Below.alloc (Below.refl _ _) (Nat.le_refl _) _) | with_reducible exact six_below (Nat.le_refl _) (by assumption) | with_reducible exact Below.drew (six_below (Nat.le_refl _) (by assumption)) | with_reducible exact six_below (Below.size (by assumption)) (Below.alloc (by assumption) (Below.size (by assumption)) _))
          (first
            | (go_at_call 11; with_reducible refine Calls.mono (K.out _ (by assumption)) ?_; rintro e w11 ⟨rfl, b11, bW⟩; have e11 := HE12.out w11 b11; first | (have bX : Below w10.drew.heap.size w10.drew w11 := bW; clear bW bX) | (have rr : RecAt w11 w10.heap.size zeroM 23 := RecAt.below (w := (w10.alloc (.cells #[.int .i64 0, .int .i64 0, .int .i64 0, .int .i64 0, .int .i64 0, .int .i64 0] 23)).drew) (rec_drew (zero_at w10)) bW (by simp); have c0 := rr.cell 0 (by decide); have c1 := rr.cell 1 (by decide); have c2 := rr.cell 2 (by decide); have c3 := rr.cell 3 (by decide); have c4 := rr.cell 4 (by decide); have c5 := rr.cell 5 (by decide); have f0 := rr.free 0; have f1 := rr.free 1; have f2 := rr.free 2; have f3 := rr.free 3; have f4 := rr.free 4; have f5 := rr.free 5; clear bW)))
        all_goals
          first
          | have e12 := HE12.out (w11.alloc (.cells #[.int .i64 (fld zeroM 0), .int .i64 (fld zeroM 1), .int .i64 (fld zeroM 2), .int .i64 (fld zeroM 3), .int .i64 (fld zeroM 4), .int .i64 (fld zeroM 5)] 23)) (by with_reducible assumption)
          | have e12 := HE12.out ((((((w11.setCell ⟨w10.heap.size, 0, none⟩ (.int .i64 (fld zeroM 0))).setCell ⟨w10.heap.size, 1, none⟩ (.int .i64 (fld zeroM 1))).setCell ⟨w10.heap.size, 2, none⟩ (.int .i64 (fld zeroM 2))).setCell ⟨w10.heap.size, 3, none⟩ (.int .i64 (fld zeroM 3))).setCell ⟨w10.heap.size, 4, none⟩ (.int .i64 (fld zeroM 4))).setCell ⟨w10.heap.size, 5, none⟩ (.int .i64 (fld zeroM 5))) (by with_reducible assumption)
          go_wp2_with fail
          go_ret
          exact ⟨rfl, b10.trans (Below.mono (by with_reducible assumption) b10.size)⟩
  · refine (bytes_no m hm _ w2 p (HE.out.below B2)).mono ?_
    rintro e w3 ⟨rfl, b3⟩
    have r3 := r2.below b3 r2.lt
    have B3 := B2.trans (b3.mono B2.size)
    have HM := Lib.hid (decide_eq_false hm)
    clear hm r2 f0 f1 f2 f3 f4 f5 b3 B2
    have f0 := r3.cell 0 (by omega); have f1 := r3.cell 1 (by omega); have f2 := r3.cell 2 (by omega); have f3 := r3.cell 3 (by omega); have f4 := r3.cell 4 (by omega); have f5 := r3.cell 5 (by omega)
    go_wp2_with fail
    refine (may_any m w3).mono ?_
    rintro e w4 ⟨rfl, b4⟩
    rw [HM.out]
    have B4 := B3.trans (b4.mono B3.size)
    clear r3 f0 f1 f2 f3 f4 f5 b4 B3
    go_wp2_with fail
    go_ret
    exact ⟨rfl, B4⟩
theorem walk (n0 : Nat → Int) (a1 : Option Addr) (len1 cap1 : Nat) (z1 : List Int) (a2 : Int) (W : World) (w0 : ∀ i, i < 6 → (Lit.int .i64 (n0 i)).wf = true)
    (w1 : IsRow .u8 W a1 len1 cap1 z1) (w2 : (Lit.int .i64 a2).wf = true) (h : LaidMetaBack.Holds W) :
    Calls Tryd.prog 5 #[.agg ((List.range 6).map fun i => .int .i64 (n0 i)).toArray, .slice a1 len1 cap1, .int .i64 a2] W
      fun e w' => e = .returned (.bool true) ∧ Below W.heap.size W w' := by
  obtain ⟨ht, f, hf, _⟩ := h
  obtain ⟨d, hd, ad, _⟩ := w1.arg8
  by_cases h2 : len1 ≤ 2000
  · exact back_core ⟨n0 0, n0 1, n0 2, n0 3, n0 4, n0 5⟩ d _ _ _ _ W ht _ hf h2 ad w1.nil_cap
  · exact back_long ⟨n0 0, n0 1, n0 2, n0 3, n0 4, n0 5⟩ _ _ _ _ W ht _ hf (by omega)
end Go.Proofs.YtfcmhlmllcpkmaaDoor.walkMetaBack
