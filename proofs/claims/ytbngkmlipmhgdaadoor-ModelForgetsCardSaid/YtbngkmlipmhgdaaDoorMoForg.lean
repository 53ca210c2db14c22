/- The walk over ModelForgets. By the verifier of shale. -/
import Derived.Test.YtbngkmlipmhgdaaDoorMoSame
import Derived.Test.YtbngkmlipmhgdaaDoorRowEn
import Derived.Deep.Cut
namespace Go.Proofs.YtbngkmlipmhgdaaDoor.Mo
open Go Go.RowKit Bin
set_option linter.unusedVariables false
set_option linter.unusedSimpArgs false
theorem and7 (z : Int) : bits .and .i64 z 7 = (((z % 8).toNat : Nat) : Int) := by
  show IntKind.i64.wrap ((BitVec.ofInt 64 z &&& BitVec.ofInt 64 7).toNat : Int) = _
  rw [BitVec.toNat_and, show (BitVec.ofInt 64 7).toNat = 2 ^ 3 - 1 by decide, Nat.and_two_pow_sub_one_eq_mod, BitVec.toNat_ofInt]
  rw [show (((z % ((2 ^ 64 : Nat) : Int)).toNat % 2 ^ 3 : Nat) : Int) = ((z % 8).toNat : Int) by omega]
  exact IntWalk.i64_in _ (by omega)
def kOf (D : Nat → EnV) (i : Nat) : Nat := ((D i).key % 8).toNat
def bOf (i : Nat) : BitVec 8 := BitVec.ofNat 8 (i + 1)
theorem b_of {i : Nat} (h : i < 200) : Bits32.b (bOf i) = (i : Int) + 1 := by
  unfold Bits32.b bOf
  rw [BitVec.toNat_ofNat, Nat.mod_eq_of_lt (by omega)]
  rfl
def wrt (D : Nat → EnV) (i : Nat) : Nat × Bs := (kOf D i, if (D i).trim then zerosL 1 else [bOf i])
def Lw (D : Nat → EnV) (i : Nat) : List (Nat × Bs) := (List.range i).map (wrt D)
theorem lw_succ (D : Nat → EnV) (i : Nat) : Lw D (i + 1) = Lw D i ++ [wrt D i] := by unfold Lw; rw [List.range_succ, List.map_append]; rfl
theorem lw_len (D : Nat → EnV) (i : Nat) : (Lw D i).length = i := by simp [Lw]
theorem lw_take (D : Nat → EnV) {q n : Nat} (h : q ≤ n) : (Lw D n).take q = Lw D q := by
  unfold Lw
  rw [← List.map_take, List.take_range, Nat.min_eq_left h]
def T1 : Nat → Bs := fun _ => zerosL 1
/-- so many are told. -/
def St (w : World) (m1 m2 q : Nat) (D : Nat → EnV) (i : Nat) (wx : World) : Prop := ∃ b1 d1 b2 d2, Two w wx m1 m2 8 1 T1 T1 (Lw D i) (Lw D (min i q)) b1 d1 b2 d2 i i
theorem Two.more {w wx : World} {m1 m2 n sz : Nat} {T1 T2 : Nat → Bs} {L1 L2 : List (Nat × Bs)} {b1 d1 b2 d2 : List Nat} {c1 c2 c1' c2' : Nat} (h : Two w wx m1 m2 n sz T1 T2 L1 L2 b1 d1 b2 d2 c1 c2) (e1 : c1 ≤ c1') (e2 : c2 ≤ c2') (h1 : c1' ≤ 1000) (h2 : c2' ≤ 1000) : Two w wx m1 m2 n sz T1 T2 L1 L2 b1 d1 b2 d2 c1' c2' :=
  ⟨h.b, h.x.more e1 h1, h.y.more e2 h2, h.g1, h.g2, h.s1, h.s2⟩
theorem newB (w W : World) (x : BitVec 8) (h : w.alloc (.cells #[.int .u8 (Bits32.b x)] 5 (0, 0)) = W) : Dat W ⟨some (w.heap.size, 0), 1, 1⟩ [x] ∧ Below w.heap.size w W := by
  have hb : Blk8 W w.heap.size [x] := by
    subst h
    exact heap_alloc_new w _
  subst h
  exact ⟨dat_of_blk hb rfl (by omega), (Below.refl _ _).alloc (Nat.le_refl _) _⟩
set_option maxRecDepth 100000 in
set_option maxHeartbeats 8000000 in
theorem forgets (a : Option Addr) (n c : Nat) (D : Nat → EnV) (x1 : Int) (w : World) (hF : ∀ W : World, Calls Tryd.prog 5 #[] W fun e w' => e = .returned (.bool true) ∧ Below W.heap.size W w') (R : RowEn w a n D) :
    Calls Tryd.prog 4 #[.slice a n c, .int .i64 x1] w fun e w' => e = .returned (.bool true) ∧ Below w.heap.size w w' := by
  have HR : Hid (∀ W, Below w.heap.size w W → ∀ i, i < n → ∃ kb off, a = some ⟨kb, off, none⟩ ∧ W.cell? ⟨kb, off + i * 3, none⟩ = some (.int .i64 (D i).key) ∧ W.cell? ⟨kb, off + i * 3 + 1, none⟩ = some (.bool (D i).trim)) := fun W b i hi => by
    obtain ⟨kb, off, h1, h2, h3⟩ := R.2 i hi
    have hk : kb < w.heap.size := World.block_lt_of_cell? w _ h2
    exact ⟨kb, off, h1, (b.cell (p := ⟨kb, off + i * 3, none⟩) hk).trans h2, (b.cell (p := ⟨kb, off + i * 3 + 1, none⟩) hk).trans h3⟩
  have hn := R.1
  unfold maxLen at hn
  have HF := Lib.hid (hF w)
  clear R hF
  go_enter Tryd.func4, Tryd.ntmps4
  go_wp2_with fail
  refine HF.out.mono ?_
  rintro e w1 ⟨rfl, b1⟩
  clear HF
  go_wp2_with fail
  refine (new_yes 8 1 (by omega) (by omega) (by omega) (by omega) w1).mono ?_
  rintro e w2 ⟨m1, bl1, rfl, x1', b2, g1⟩
  go_wp2_with fail
  refine (new_yes 8 1 (by omega) (by omega) (by omega) (by omega) w2).mono ?_
  rintro e w3 ⟨m2, bl2, rfl, y1, b3, g2⟩
  have HT : Hid (Two w w3 m1 m2 8 1 T1 T1 [] [] bl1 [] bl2 [] 0 0) := by
    have hlt := x1'.lt
    have hs1 := b1.size
    have hs2 := b2.size
    refine ⟨(b1.trans (b2.mono b1.size)).trans (b3.mono (by omega)), x1'.below b3, y1, fun k hk => by have := g1 k hk; omega, fun k hk => by have := g2 k hk; omega, fun k hk => ⟨fun h => ?_, fun h => (nomatch h)⟩, fun k hk => ⟨fun h => ?_, fun h => (nomatch h)⟩⟩
    · have := g2 k h; have := hlt k (.inl hk); omega
    · have := g2 k hk; have := hlt k (.inl h); omega
  clear b1 x1' b2 g1 y1 b3 g2
  by_cases h30 : 30 < n
  · have t : decide ((30 : Int) < (n : Int)) = true := decide_eq_true (by omega)
    have HB := Lib.hid HT.out.b
    clear HT HR h30
    go_wp2_with fail
    go_ret
    exact ⟨rfl, HB.out⟩
  have t : decide ((30 : Int) < (n : Int)) = false := decide_eq_false (by omega)
  obtain ⟨q, hq, eq⟩ := norm_at x1 n (by omega)
  have hn30 : (n : Int) ≤ 30 := by omega
  have wn : wrap64 ((n : Int) + 1) = (n : Int) + 1 := IntWalk.wrap64_in _ (by omega)
  have wz : ((n : Int) + 1 == 0) = false := by rw [beq_eq_false_iff_ne]; omega
  have HN := Lib.hid (And.intro hq h30)
  have HS0 : Hid (St w m1 m2 q D 0 w3) := ⟨bl1, [], bl2, [], by rw [Nat.zero_min]; exact HT.out⟩
  clear HT hq h30
  go_wp2_with fail
  go_loopg [10] n (fun gh s10 wx => ∃ i : Nat, gh = n - i ∧ i ≤ n ∧ s10 = .int .i64 (i : Int) ∧ Hid (St w m1 m2 q D i wx))
  case atStart => exact ⟨0, rfl, Nat.zero_le _, rfl, HS0⟩
  case round =>
    clear HS0 t
    obtain ⟨i, hg, hin, rfl, HX⟩ := hrel
    have HI := Lib.hid hg
    clear hg
    by_cases hlt : i < n
    · have x1' : (i : Int) < (n : Int) := by omega
      have x0 : (0 : Int) ≤ (i : Int) := by omega
      have x9 : (i : Int) ≤ 30 := by omega
      obtain ⟨b1, d1, b2, d2, hT⟩ := HX.out
      obtain ⟨kb, off, rfl, c0, c1⟩ := HR.out wr hT.b i hlt
      have HL := Lib.hid (And.intro hlt (And.intro hin trivial))
      have e7 := and7 (D i).key
      obtain ⟨kk, hkk⟩ : ∃ kk, kk = kOf D i := ⟨_, rfl⟩
      have e7' : bits .and .i64 (D i).key 7 = (kk : Int) := by rw [hkk]; exact e7
      have hk8 : kk < 8 := by rw [hkk]; unfold kOf; omega
      have eb : Bits32.b (bOf i) = (i : Int) + 1 := b_of (by omega)
      have hb1 := Bits32.b_hi (bOf i)
      obtain ⟨tr, htr⟩ : ∃ tr, tr = (D i).trim := ⟨_, rfl⟩
      rw [← htr] at c1
      have HT := Lib.hid hT
      have HD := Lib.hid (And.intro hkk htr)
      clear hlt hin HX hT e7 hkk htr
      go_upto_region 12 with (fail)
      rw [← eb]
      generalize hw : wr.alloc (.cells #[.int .u8 (Bits32.b (bOf i))] 5 (0, 0)) = w4
      obtain ⟨d4, b4⟩ := newB wr w4 _ hw
      clear hw
      obtain ⟨sb, hsb⟩ : ∃ sb, sb = wr.heap.size := ⟨_, rfl⟩
      rw [← hsb] at d4 ⊢
      have cT := (b4.cell (p := ⟨kb, off + i * 3 + 1, none⟩) (World.block_lt_of_cell? wr _ c1)).trans c1
      have HT4 := Lib.hid (HT.out.below b4)
      have HD4 := Lib.hid d4
      have HKB : Hid (kb < w.heap.size) := by
        obtain ⟨kb', off', h1, h2, _⟩ := HR.out w (Below.refl _ _) i HL.out.1
        cases h1
        exact World.block_lt_of_cell? w _ h2
      have HSB : Hid (sb ∉ b1 ∧ sb < w4.heap.size) := ⟨fun hm => by have := HT.out.x.lt sb (.inl hm); omega, by have := HT4.out.b; obtain ⟨_, _, h, hr, hl⟩ := (HD4.out.hrow.resolve_left (by simp)); cases h; exact hl⟩
      clear hsb c0 c1 d4 b4 e7' eb hb1
      cases tr with
      | true =>
        have HW := Lib.hid (trim_yes HT4.out.x kk hk8 (by omega))
        have HP : Hid (wrt D i = (kk, zerosL 1)) := by show _ = _; unfold wrt; rw [← HD.out.1, ← HD.out.2]; rfl
        go_wp2_with fail
        refine HW.out.mono ?_
        rintro e w5 ⟨rfl, b1', d1', m5, t5, hd5⟩
        have HT5 := Lib.hid (HT4.out.turn m5 t5 hd5)
        rw [← HP.out, ← lw_succ] at HT5
        have cT5 : w5.cell? ⟨kb, off + i * 3 + 1, none⟩ = some (.bool true) := (World.cell?_of_block (w := w4) (w' := w5) (t5.same kb (World.block_lt_of_cell? w4 _ cT) (fun hm => by have h1 := HT4.out.g1 kb hm; have h2 := HKB.out; omega))).trans cT
        have HD5 : Hid (Dat w5 ⟨some (sb, 0), 1, 1⟩ [bOf i]) := Dat.same (s := ⟨some (sb, 0), 1, 1⟩) HD4.out t5.size fun p hp => by cases hp; exact t5.same sb HSB.out.2 fun hm => HSB.out.1 hm
        clear HW m5 t5 hd5 cT
        by_cases hiq : i < q
        · have z1 : (i : Int) < (q : Int) := by omega
          have z2 : decide ((i : Int) < (q : Int)) = true := decide_eq_true z1
          have HW := Lib.hid (trim_yes HT5.out.y kk hk8 (by omega))
          have HQ := Lib.hid hiq
          clear hiq
          go_wp2_with fail
          refine HW.out.mono ?_
          rintro e w6 ⟨rfl, b2', d2', m6, t6, hd6⟩
          have HN6 : Hid (St w m1 m2 q D (i + 1) w6) := by
            have h := (HT5.out.flip.turn m6 t6 hd6).flip
            have hm : min i q = i := by have := HQ.out; omega
            have hm2 : min (i + 1) q = i + 1 := by have := HQ.out; omega
            rw [hm, ← HP.out, ← lw_succ] at h
            exact ⟨_, _, _, _, by rw [hm2]; exact h⟩
          clear HW m6 t6 hd6
          go_wp2_with fail
          go_roundg (n - (i + 1))
          case measure => have := HI.out; have := HL.out.1; omega
          case rel => exact ⟨i + 1, rfl, HL.out.1, by go_num, HN6⟩
        · have z1 : ¬ (i : Int) < (q : Int) := by omega
          have z2 : decide ((i : Int) < (q : Int)) = false := decide_eq_false z1
          have HN6 : Hid (St w m1 m2 q D (i + 1) w5) := by
            have hm : min i q = q := by omega
            have hm2 : min (i + 1) q = q := by omega
            have h := HT5.out
            rw [hm] at h
            exact ⟨_, _, _, _, by rw [hm2]; exact h.more (Nat.le_refl _) (Nat.le_succ i) (by omega) (by omega)⟩
          clear hiq
          go_wp2_with fail
          go_roundg (n - (i + 1))
          case measure => have := HI.out; have := HL.out.1; omega
          case rel => exact ⟨i + 1, rfl, HL.out.1, by go_num, HN6⟩
      | false =>
        have HW := Lib.hid (write_yes HT4.out.x kk hk8 HD4.out (by omega))
        have HP : Hid (wrt D i = (kk, [bOf i])) := by show _ = _; unfold wrt; rw [← HD.out.1, ← HD.out.2]; rfl
        go_wp2_with fail
        refine HW.out.mono ?_
        rintro e w5 ⟨rfl, b1', d1', m5, t5, hd5⟩
        have HT5 := Lib.hid (HT4.out.turn m5 t5 hd5)
        rw [← HP.out, ← lw_succ] at HT5
        have cT5 : w5.cell? ⟨kb, off + i * 3 + 1, none⟩ = some (.bool false) := (World.cell?_of_block (w := w4) (w' := w5) (t5.same kb (World.block_lt_of_cell? w4 _ cT) (fun hm => by have h1 := HT4.out.g1 kb hm; have h2 := HKB.out; omega))).trans cT
        have HD5 : Hid (Dat w5 ⟨some (sb, 0), 1, 1⟩ [bOf i]) := Dat.same (s := ⟨some (sb, 0), 1, 1⟩) HD4.out t5.size fun p hp => by cases hp; exact t5.same sb HSB.out.2 fun hm => HSB.out.1 hm
        clear HW m5 t5 hd5 cT
        by_cases hiq : i < q
        · have z1 : (i : Int) < (q : Int) := by omega
          have z2 : decide ((i : Int) < (q : Int)) = true := decide_eq_true z1
          have HW := Lib.hid (write_yes HT5.out.y kk hk8 HD5.out (by omega))
          have HQ := Lib.hid hiq
          clear hiq
          go_wp2_with fail
          refine HW.out.mono ?_
          rintro e w6 ⟨rfl, b2', d2', m6, t6, hd6⟩
          have HN6 : Hid (St w m1 m2 q D (i + 1) w6) := by
            have h := (HT5.out.flip.turn m6 t6 hd6).flip
            have hm : min i q = i := by have := HQ.out; omega
            have hm2 : min (i + 1) q = i + 1 := by have := HQ.out; omega
            rw [hm, ← HP.out, ← lw_succ] at h
            exact ⟨_, _, _, _, by rw [hm2]; exact h⟩
          clear HW m6 t6 hd6
          go_wp2_with fail
          go_roundg (n - (i + 1))
          case measure => have := HI.out; have := HL.out.1; omega
          case rel => exact ⟨i + 1, rfl, HL.out.1, by go_num, HN6⟩
        · have z1 : ¬ (i : Int) < (q : Int) := by omega
          have z2 : decide ((i : Int) < (q : Int)) = false := decide_eq_false z1
          have HN6 : Hid (St w m1 m2 q D (i + 1) w5) := by
            have hm : min i q = q := by omega
            have hm2 : min (i + 1) q = q := by omega
            have h := HT5.out
            rw [hm] at h
            exact ⟨_, _, _, _, by rw [hm2]; exact h.more (Nat.le_refl _) (Nat.le_succ i) (by omega) (by omega)⟩
          clear hiq
          go_wp2_with fail
          go_roundg (n - (i + 1))
          case measure => have := HI.out; have := HL.out.1; omega
          case rel => exact ⟨i + 1, rfl, HL.out.1, by go_num, HN6⟩
    · obtain rfl : i = n := by omega
      have x1' : ¬ (i : Int) < (i : Int) := by omega
      obtain ⟨b1, d1, b2, d2, hT⟩ := HX.out
      have hiq : min i q = q := by have := HN.out; omega
      rw [hiq] at hT
      have HT := Lib.hid hT
      have HSec := Lib.hid (sectors_any hT.y)
      have z1' : decide ((i : Int) < (i : Int)) = false := decide_eq_false x1'
      have hi30 : i ≤ 30 := by have := HN.out; omega
      clear hT hiq hin hlt HX HR
      go_wp2_with fail
      refine HSec.out.mono ?_
      rintro e w5 ⟨kb5, rfl, hA5, b5⟩
      obtain ⟨og, hog⟩ : ∃ og, og = wr.heap.size := ⟨_, rfl⟩
      rw [← hog] at hA5 ⊢
      have hlenM : ∀ k, (app T1 (Lw D q) k).length = 1 := app_len _ _ HT.out.y.lens.1 (fun p hp => (HT.out.y.lens.2.1 p hp).2)
      have HT5 := Lib.hid (HT.out.below b5)
      have HSt := Lib.hid (settl_any (c2 := 8) HT5.out.x (hA5.lst hlenM (by omega)) (by unfold maxLen; omega))
      have HA5 : Hid (AllS w5 og 8 1 kb5 (app T1 (Lw D q)) ∧ ∀ k ∈ gift 8 ⟨0, og, kb5⟩, k ∉ b1) := ⟨hA5, fun k hk hm => by
        have h1 := HT.out.x.lt k (.inl hm)
        unfold gift at hk
        rcases List.mem_cons.1 hk with e | hk
        · have e' : k = og := e
          omega
        · obtain ⟨j, hj, rfl⟩ := List.mem_map.1 hk
          have h2 := (hA5.2.1 j (List.mem_range.1 hj)).2
          exact absurd h1 (by show ¬ kb5 j < _; omega)⟩
      have HM := Lib.hid hlenM
      clear hA5 b5 hog HSec hlenM
      go_wp2_with fail
      refine HSt.out.mono ?_
      intro e w6 hp
      have hqJ : EqJ 8 8 T1 (Lw D i) (app T1 (Lw D q)) q := ⟨rfl, fun j hj => by rw [lw_take D HN.out.1]⟩
      have hlw := lw_len D i
      rcases hp with ⟨k, hk, he, hmin, rfl, bl', mo6, t6⟩ | ⟨hno, _, _⟩
      rotate_left
      · exact absurd hqJ (hno q (by rw [hlw]; exact HN.out.1))
      have hkq : k ≤ q := by
        by_cases h : k ≤ q
        · exact h
        · exact absurd hqJ (hmin q (by omega))
      have HT6 := Lib.hid (HT5.out.turn mo6 t6 (fun z hz => .inl hz))
      have hA6 : AllS w6 og 8 1 kb5 (app T1 (Lw D q)) := HA5.out.1.same fun z hz => t6.same z (gift_lt (x := ⟨0, og, kb5⟩) HA5.out.1 z hz) (HA5.out.2 z hz)
      have HA6 := Lib.hid (And.intro hA6 he)
      have z2 : decide ((q : Int) < (k : Int)) = false := decide_eq_false (by omega)
      have z3 : ¬ (q : Int) < (k : Int) := by omega
      have HWt : Hid (Calls Tryd.prog 15 #[.pointer (some ⟨m1, 0, none⟩)] w6 fun e w' => e = .returned (.int .i64 0) ∧ w6 = w') := waiting_any HT6.out.x
      have HSc := Lib.hid (sectors_any HT6.out.x)
      clear hqJ hlw hk he hmin mo6 t6 hkq hA6 HSt HA5
      go_wp2_with fail
      refine HWt.out.mono ?_
      rintro e w' ⟨rfl, rfl⟩
      clear HWt
      go_wp2_with fail
      refine HSc.out.mono ?_
      rintro e w7 ⟨kb7, rfl, hA7, b7⟩
      have hl7 : ∀ z, (app (app T1 ((Lw D i).take k)) [] z).length = 1 := HT6.out.x.lens.1
      have HSm := Lib.hid (sameLists_any (c1 := 8) (c2 := 8) (hA7.lst hl7 (by omega)) ((HA6.out.1.lst HM.out (by omega)).below b7) (by omega) (by unfold maxLen; omega))
      rw [decide_eq_true (show 8 = 8 ∧ eqN (app (app T1 ((Lw D i).take k)) []) (app T1 (Lw D q)) 8 from ⟨rfl, HA6.out.2.2⟩)] at HSm
      have HT7 := Lib.hid (HT6.out.below b7)
      clear hA7 b7 hl7 HSc HA6 HM
      go_wp2_with fail
      refine HSm.out.mono ?_
      rintro e w8 ⟨rfl, b8⟩
      have HT8 := Lib.hid (HT7.out.below b8)
      clear b8 HSm HT7 HT6 z2 z3
      go_wp2_with fail
      generalize hw : w8.alloc (.cells #[.int .u8 77] 5 (0, 0)) = w9
      obtain ⟨d9, b9⟩ := newB w8 w9 77 hw
      clear hw
      have HT9 := Lib.hid (HT8.out.below b9)
      have HW := Lib.hid (write_yes HT9.out.x 3 (by omega) d9 (by omega))
      clear d9 b9 HT8
      refine HW.out.mono ?_
      rintro e w10 ⟨rfl, b10, d10, m10, t10, hd10⟩
      have HT10 := Lib.hid (HT9.out.turn m10 t10 hd10)
      clear HW m10 t10 hd10 HT9
      have HFl := Lib.hid (flush_any HT10.out.x)
      go_wp2_with fail
      refine HFl.out.mono ?_
      rintro e w11 ⟨rfl, b11, m11, t11⟩
      have HT11 := Lib.hid (HT10.out.turn m11 t11 (fun z hz => .inl hz))
      clear HFl m11 t11 HT10
      go_wp2_with fail
      generalize hw : w11.alloc (.cells #[.int .u8 78] 5 (0, 0)) = w12
      obtain ⟨d12, b12⟩ := newB w11 w12 78 hw
      clear hw
      have HT12 := Lib.hid (HT11.out.below b12)
      have HW := Lib.hid (write_yes HT12.out.x 3 (by omega) d12 (by omega))
      clear d12 b12 HT11
      refine HW.out.mono ?_
      rintro e w13 ⟨rfl, b13, d13, m13, t13, hd13⟩
      have HT13 := Lib.hid (HT12.out.turn m13 t13 hd13)
      clear HW m13 t13 hd13 HT12
      obtain ⟨T2, hT2⟩ : ∃ T2, T2 = app (app T1 ((Lw D i).take k)) ([] ++ [(3, [77])]) := ⟨_, rfl⟩
      have h77 : T2 3 = [77] := by rw [hT2, app_snoc]; rfl
      rw [← hT2] at HT13
      have HSc := Lib.hid (sectors_any HT13.out.x)
      have H77 := Lib.hid h77
      clear hT2 h77
      go_wp2_with fail
      refine HSc.out.mono ?_
      rintro e w14 ⟨kb14, rfl, hA14, b14⟩
      have HT14 := Lib.hid (HT13.out.below b14)
      have HL13 : Hid (∀ z, (app T2 ([] ++ [(3, [78])]) z).length = 1) := app_len _ _ HT13.out.x.lens.1 (fun p hp => (HT13.out.x.lens.2.1 p hp).2)
      have HSt := Lib.hid (settl_any (c2 := 8) HT14.out.x (hA14.lst HL13.out (by omega)) (by unfold maxLen; omega))
      clear hA14 b14 HSc HT13
      go_wp2_with fail
      refine HSt.out.mono ?_
      intro e w15 hp
      have h1J : EqJ 8 8 T2 ([] ++ [(3, [78])]) (app T2 ([] ++ [(3, [78])])) 1 := ⟨rfl, fun j hj => rfl⟩
      have h0J : ¬ EqJ 8 8 T2 ([] ++ [(3, [78])]) (app T2 ([] ++ [(3, [78])])) 0 := fun h => by
        have h3 : T2 3 = app T2 ([] ++ [(3, ([78] : Bs))]) 3 := h.2 3 (by omega)
        have h4 : app T2 ([] ++ [(3, ([78] : Bs))]) 3 = [78] := rfl
        rw [H77.out, h4] at h3
        exact absurd h3 (by decide)
      rcases hp with ⟨k2, hk2, he2, hmin2, rfl, bl15, mo15, t15⟩ | ⟨hno, _, _⟩
      rotate_left
      · exact absurd h1J (hno 1 (by simp))
      obtain rfl : k2 = 1 := by
        have h1 : k2 ≤ 1 := hk2
        have h2 : k2 ≠ 0 := fun e => h0J (by rw [← e]; exact he2)
        omega
      have HT15 := Lib.hid (HT14.out.turn mo15 t15 (fun z hz => .inl hz))
      have HRd := Lib.hid (read_yes HT15.out.x 3 (by omega))
      clear h1J h0J hk2 he2 hmin2 mo15 t15 HSt HT14
      go_wp2_with fail
      refine HRd.out.mono ?_
      rintro e w16 ⟨rfl, hB, b16⟩
      have hB' : Blk8 w16 w15.heap.size [78] := hB
      have c78 : w16.cell? ⟨w15.heap.size, 0, none⟩ = some (.int .u8 78) := hB'.cell (i := 0) (by decide)
      have HE := Lib.hid (HT15.out.below b16).b
      clear hB hB' b16 HRd HT15
      go_wp2_with fail
      go_ret
      exact ⟨rfl, HE.out⟩
end Go.Proofs.YtbngkmlipmhgdaaDoor.Mo
