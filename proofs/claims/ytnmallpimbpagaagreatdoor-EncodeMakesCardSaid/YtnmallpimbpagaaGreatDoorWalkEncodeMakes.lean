/- The walk over EncodeMakes. By the verifier of shale. -/
import Derived.Test.YtnmallpimbpagaaGreatDoorGreat1
import Derived.Test.YtnmallpimbpagaaGreatDoorGreat2
import Derived.Test.YtnmallpimbpagaaGreatDoorGreat3
import Derived.Test.YtnmallpimbpagaaGreatDoorGreat4
import Derived.Test.YtnmallpimbpagaaGreatDoorLaidEncodeMakes
import Derived.Deep.RegionHeld3
namespace Go.Proofs.YtnmallpimbpagaaGreatDoor.walkEncodeMakes
open Go Go.RowKit Bin Cos Enc
set_option linter.unusedVariables false
set_option maxRecDepth 100000 in
set_option maxHeartbeats 2000000 in
theorem bad (a t z : Int) (f : Nat → Addr) (v : Value) (c : Int) (hv : SeeV f v c) (hc : c ≠ 0) (hn : v ≠ .nilIface)
    (HN : ∀ w, AllErrs w f → Calls Tryz.prog 6 #[.int .i64 a, .int .i64 t, .int .i64 z] w fun e w' => e = .returned (.tuple #[.pointer none, v]) ∧ Below w.heap.size w w')
    (HR : ∀ w, Calls Tryz.prog 5 #[.int .i64 a, .int .i64 t, .int .i64 z] w fun e w' => e = .returned (.tuple #[cdZ, .int .i64 c]) ∧ Below w.heap.size w w') (w : World) (E : AllErrs w f) :
    Calls Tryz.prog 3 #[.int .i64 a, .int .i64 t, .int .i64 z] w fun e w' => e = .returned (.bool true) ∧ Below w.heap.size w w' := by
  have t0 : (c == 0) = false := by rw [beq_eq_false_iff_ne]; exact hc
  have t2 : (c != 0) = true := by rw [bne_iff_ne]; exact hc
  have HHN := Lib.hid HN
  have HHR := Lib.hid HR
  have HV := Lib.hid hv
  clear HN HR hv hc hn
  go_enter Tryz.func3, Tryz.ntmps3
  go_wp2_with fail
  refine (first_any w (f 4) E.1.2.2.2.2.1).mono ?_
  rintro e w1 ⟨rfl, B⟩
  replace E := E.below B
  go_wp2_with fail
  refine (HHR.out w1).mono ?_
  rintro e w2 ⟨rfl, b⟩
  replace E := E.below b
  replace B := B.trans (b.mono B.size)
  clear b
  have HE := Lib.hid (And.intro E B)
  clear E B
  go_wp2_with fail
  generalize hw : w2.alloc (.cells #[.int .i64 0, .int .i64 0, .int .i64 0, .slice none 0 0, .int .i64 0] 25 (0, 0)) = w3
  obtain ⟨K, b⟩ := newCd w2 w3 _ _ _ _ _ hw
  have E := HE.out.1.below b
  have B := HE.out.2.trans (b.mono HE.out.2.size)
  clear hw HE b K
  refine (HHN.out w3 E).mono ?_
  rintro e w4 ⟨rfl, b⟩
  replace E := E.below b
  replace B := B.trans (b.mono B.size)
  clear b HHN HHR
  go_wp2_with fail
  refine (is_v E HV.out).mono ?_
  rintro e w5 ⟨rfl, b⟩
  replace B := B.trans (b.mono B.size)
  clear b E
  go_wp2_with fail
  go_ret
  exact ⟨rfl, B⟩
set_option maxRecDepth 100000 in
set_option maxHeartbeats 4000000 in
theorem good (m t n : Nat) [M : Pl.Mid m] (H : May m t n) (f : Nat → Addr) (w : World) (E : AllErrs w f) :
    Calls Tryz.prog 3 #[.int .i64 (m : Int), .int .i64 (t : Int), .int .i64 (n : Int)] w fun e w' => e = .returned (.bool true) ∧ Below w.heap.size w w' := by
  have HH := Lib.hid H
  have hm2 := M.hi
  have ht2 := H.t2
  have hn2 := H.n2
  have hd5 := deg_560 (m := m) ht2
  clear H
  go_enter Tryz.func3, Tryz.ntmps3
  go_wp2_with fail
  refine (first_any w (f 4) E.1.2.2.2.2.1).mono ?_
  rintro e w1 ⟨rfl, B⟩
  replace E := E.below B
  go_wp2_with fail
  refine (rnew_any HH.out w1).mono ?_
  rintro e w2 ⟨ga, gn, gc, rfl, G, b⟩
  replace E := E.below b
  replace B := B.trans (b.mono B.size)
  clear b
  obtain ⟨D, hD⟩ : ∃ D, D = deg m t := ⟨_, rfl⟩
  have HD := Lib.hid hD
  rw [← hD] at hd5 ⊢
  clear hD
  have HE := Lib.hid (And.intro E (And.intro B G))
  clear E B G
  have hcd : (w2.alloc (.cells #[.int .i64 (m : Int), .int .i64 (t : Int), .int .i64 (n : Int), .slice ga gn gc, .int .i64 (D : Int)] 25 (0, 0))).heap[w2.heap.size]? = some (cdO (.int .i64 (m : Int)) (.int .i64 (t : Int)) (.int .i64 (n : Int)) (.slice ga gn gc) (.int .i64 (D : Int))) := heap_alloc_new w2 _
  by_cases h200 : 200 < D
  · have t0 : (200 : Int) < (D : Int) := by omega
    obtain ⟨c0, c1, c2, c3, c4, cf⟩ := cd_cells hcd
    have BB := HE.out.2.1.trans (((Below.refl w2.heap.size w2).alloc (Nat.le_refl _) (.cells #[.int .i64 (m : Int), .int .i64 (t : Int), .int .i64 (n : Int), .slice ga gn gc, .int .i64 (D : Int)] 25 (0, 0))).mono HE.out.2.1.size)
    clear hcd h200
    go_wp2_with fail
    go_ret
    exact ⟨rfl, BB⟩
  have t0 : ¬ ((200 : Int) < (D : Int)) := by omega
  obtain ⟨c0, c1, c2, c3, c4, cf⟩ := cd_cells hcd
  clear hcd h200
  go_wp2_with fail
  clear c0 c1 c2 c3 c4 cf t0
  generalize hw : w2.alloc (.cells #[.int .i64 (m : Int), .int .i64 (t : Int), .int .i64 (n : Int), .slice ga gn gc, .int .i64 (D : Int)] 25 (0, 0)) = w3
  obtain ⟨K, b⟩ := newCd w2 w3 _ _ _ _ _ hw
  clear hw
  obtain ⟨bq, hbq⟩ : ∃ bq, bq = w2.heap.size := ⟨_, rfl⟩
  rw [← hbq] at K ⊢
  clear hbq
  obtain ⟨E, B, G⟩ := HE.out
  replace E := E.below b
  replace B := B.trans (b.mono B.size)
  replace G := newV_since G b
  clear HE b
  refine (new_any HH.out w3 (f 4) E.1.2.2.2.2.1).mono ?_
  rintro e w4 ⟨s, rfl, C, b, _⟩
  replace E := E.below b
  replace B := B.trans (b.mono B.size)
  replace G := newV_since G b
  replace K := keepB K b
  clear b
  go_wp2_with fail
  refine (is_v E (Or.inl ⟨rfl, rfl⟩)).mono ?_
  rintro e w5 ⟨rfl, b⟩
  replace B := B.trans (b.mono B.size)
  replace G := newV_since G b
  replace K := keepB K b
  replace C := C.below b
  clear b E
  go_wp2_with fail
  refine (generator_code w5 s C).mono ?_
  rintro e w6 ⟨a7, n7, c7, rfl, G7, b⟩
  have hs5 := b.size
  have H5 := Lib.hid (And.intro C (And.intro K (And.intro G (And.intro B b))))
  replace B := B.trans (b.mono B.size)
  replace G := newV_since G b
  replace K := keepB K b
  replace C := C.below b
  clear b
  obtain ⟨c0, c1, c2, c3, c4, cf⟩ := cd_cells K
  go_wp2_with fail
  refine (sameNV G7 G rfl).mono ?_
  rintro e w7 ⟨rfl, rfl⟩
  clear c0 c1 c2 c3 c4 cf
  have hroom : n7 ≤ maxLen ∧ (n7 = 0 ∨ ∃ g X, a7 = some ⟨g, 0, none⟩ ∧ w5.heap.size ≤ g ∧ X.length = n7 ∧ Buf8 w6 g X) := by
    obtain ⟨X, p1, _⟩ := G7
    refine ⟨Nat.le_trans p1.hcap p1.hmost, ?_⟩
    rcases p1.own with ⟨_, h0, _⟩ | ⟨g, ha, hg, hB⟩
    · exact Or.inl h0
    · exact Or.inr ⟨g, X, ha, hg, p1.hlen.symm, hB⟩
  obtain ⟨hmx, hroom⟩ := hroom
  unfold maxLen at hmx
  have HR0 := Lib.hid hroom
  clear G7 hroom G K C B
  go_wp2_with fail
  go_loopg [14] n7 (fun gh s14 wx => ∃ i : Nat, gh = n7 - i ∧ i ≤ n7 ∧ s14 = .int .i64 (i : Int) ∧ Hid (n7 = 0 ∨ ∃ g X, a7 = some ⟨g, 0, none⟩ ∧ w5.heap.size ≤ g ∧ X.length = n7 ∧ Buf8 wx g X) ∧ Below w5.heap.size w6 wx)
  case atStart => exact ⟨0, rfl, Nat.zero_le _, rfl, HR0, Below.refl _ _⟩
  case round =>
    clear HR0
    obtain ⟨i, hg, hin, rfl, HX, hB⟩ := hrel
    have HG := Lib.hid hg
    clear hg
    by_cases hlt : i < n7
    · have x1 : (i : Int) < (n7 : Int) := by omega
      have x0 : (0 : Int) ≤ (i : Int) := by omega
      obtain ⟨g, X, ea, hgb, hXl, hBuf⟩ := HX.out.resolve_left (by omega)
      subst ea
      have cv := hBuf.cell i (by omega)
      have fr := hBuf.free i
      generalize Bits32.b (nth8 X i) = z0 at cv
      have HN : Hid ((n7 = 0 ∨ ∃ g' X, (some ⟨g, 0, none⟩ : Option Addr) = some ⟨g', 0, none⟩ ∧ w5.heap.size ≤ g' ∧ X.length = n7 ∧ Buf8 (wr.setCell ⟨g, i, none⟩ (.int .u8 238)) g' X) ∧ Below w5.heap.size w6 (wr.setCell ⟨g, i, none⟩ (.int .u8 238))) := by
        refine ⟨Or.inr ⟨g, X.set i 238#8, rfl, hgb, by simpa using hXl, ?_⟩, hB.setCell hgb _⟩
        exact hBuf.set i (by omega) 238#8
      clear HX hBuf hB hXl
      go_wp2_with fail
      go_roundg (n7 - (i + 1))
      case measure => have := HG.out; omega
      case rel => exact ⟨i + 1, rfl, hlt, by go_num, HN.out.1, HN.out.2⟩
    · obtain rfl : i = n7 := by omega
      go_wp2_with fail
      obtain ⟨C, K, G, B, b5⟩ := H5.out
      have hB5 : Below w5.heap.size w5 wr := b5.trans hB
      have HC := Lib.hid (C.below hB5)
      have HG := Lib.hid (newV_since G hB5)
      have K7 := keepB K hB5
      have B7 := B.trans (hB5.mono B.size)
      obtain ⟨c0, c1, c2, c3, c4, cf⟩ := cd_cells K7
      have hbq : bq < wr.heap.size := lt_of_block K7
      have HS : Hid (∀ w', Below wr.heap.size wr w' → (w'.cell? ⟨bq, 0, none⟩ = some (.int .i64 (m : Int)) ∧ w'.cell? ⟨bq, 1, none⟩ = some (.int .i64 (t : Int)) ∧ w'.cell? ⟨bq, 2, none⟩ = some (.int .i64 (n : Int)) ∧ w'.cell? ⟨bq, 3, none⟩ = some (.slice ga gn gc) ∧ w'.cell? ⟨bq, 4, none⟩ = some (.int .i64 (D : Int)) ∧ Below wr.heap.size wr w')) := fun w' b => ⟨(b.cell (p := ⟨bq, 0, none⟩) hbq).trans c0, (b.cell (p := ⟨bq, 1, none⟩) hbq).trans c1, (b.cell (p := ⟨bq, 2, none⟩) hbq).trans c2, (b.cell (p := ⟨bq, 3, none⟩) hbq).trans c3, (b.cell (p := ⟨bq, 4, none⟩) hbq).trans c4, b⟩
      have HCx : Hid (∀ w', (w'.cell? ⟨bq, 0, none⟩ = some (.int .i64 (m : Int)) ∧ w'.cell? ⟨bq, 1, none⟩ = some (.int .i64 (t : Int)) ∧ w'.cell? ⟨bq, 2, none⟩ = some (.int .i64 (n : Int)) ∧ w'.cell? ⟨bq, 3, none⟩ = some (.slice ga gn gc) ∧ w'.cell? ⟨bq, 4, none⟩ = some (.int .i64 (D : Int)) ∧ Below wr.heap.size wr w') → CodeAt m t n w' s) := fun w' h => HC.out.below h.2.2.2.2.2
      have HGx : Hid (∀ w', (w'.cell? ⟨bq, 0, none⟩ = some (.int .i64 (m : Int)) ∧ w'.cell? ⟨bq, 1, none⟩ = some (.int .i64 (t : Int)) ∧ w'.cell? ⟨bq, 2, none⟩ = some (.int .i64 (n : Int)) ∧ w'.cell? ⟨bq, 3, none⟩ = some (.slice ga gn gc) ∧ w'.cell? ⟨bq, 4, none⟩ = some (.int .i64 (D : Int)) ∧ Below wr.heap.size wr w') → NewV w1 w' 81 ga gn gc (gen m t)) := fun w' h => newV_since HG.out h.2.2.2.2.2
      have q8 : Hid (∀ w', (w'.cell? ⟨bq, 0, none⟩ = some (.int .i64 (m : Int)) ∧ w'.cell? ⟨bq, 1, none⟩ = some (.int .i64 (t : Int)) ∧ w'.cell? ⟨bq, 2, none⟩ = some (.int .i64 (n : Int)) ∧ w'.cell? ⟨bq, 3, none⟩ = some (.slice ga gn gc) ∧ w'.cell? ⟨bq, 4, none⟩ = some (.int .i64 (D : Int)) ∧ Below wr.heap.size wr w') → Calls Tryz.prog 8 #[.pointer (some ⟨s, 0, none⟩)] w' fun e w'' => ∃ a9 n9 c9, e = .returned (.slice a9 n9 c9) ∧ NewV w' w'' 81 a9 n9 c9 (gen m t) ∧ (w''.cell? ⟨bq, 0, none⟩ = some (.int .i64 (m : Int)) ∧ w''.cell? ⟨bq, 1, none⟩ = some (.int .i64 (t : Int)) ∧ w''.cell? ⟨bq, 2, none⟩ = some (.int .i64 (n : Int)) ∧ w''.cell? ⟨bq, 3, none⟩ = some (.slice ga gn gc) ∧ w''.cell? ⟨bq, 4, none⟩ = some (.int .i64 (D : Int)) ∧ Below wr.heap.size wr w'')) := fun w' h => by
        refine (generator_code w' s (HCx.out w' h)).mono ?_
        rintro e w'' ⟨a, n', c', rfl, g, b⟩
        exact ⟨_, _, _, rfl, g, HS.out _ (h.2.2.2.2.2.trans (b.mono h.2.2.2.2.2.size))⟩
      have q12 : Hid (∀ w', (w'.cell? ⟨bq, 0, none⟩ = some (.int .i64 (m : Int)) ∧ w'.cell? ⟨bq, 1, none⟩ = some (.int .i64 (t : Int)) ∧ w'.cell? ⟨bq, 2, none⟩ = some (.int .i64 (n : Int)) ∧ w'.cell? ⟨bq, 3, none⟩ = some (.slice ga gn gc) ∧ w'.cell? ⟨bq, 4, none⟩ = some (.int .i64 (D : Int)) ∧ Below wr.heap.size wr w') → Calls Tryz.prog 12 #[.pointer (some ⟨s, 0, none⟩)] w' fun e w'' => e = .returned (.int .i64 (D : Int)) ∧ w' = w'') := fun w' h => by
        have := degree_code w' s (HCx.out w' h)
        rwa [← HD.out] at this
      have q13 : Hid (∀ w', (w'.cell? ⟨bq, 0, none⟩ = some (.int .i64 (m : Int)) ∧ w'.cell? ⟨bq, 1, none⟩ = some (.int .i64 (t : Int)) ∧ w'.cell? ⟨bq, 2, none⟩ = some (.int .i64 (n : Int)) ∧ w'.cell? ⟨bq, 3, none⟩ = some (.slice ga gn gc) ∧ w'.cell? ⟨bq, 4, none⟩ = some (.int .i64 (D : Int)) ∧ Below wr.heap.size wr w') → Calls Tryz.prog 13 #[.pointer (some ⟨s, 0, none⟩)] w' fun e w'' => e = .returned (.int .i64 (pb D : Int)) ∧ w' = w'') := fun w' h => by
        have := parityB_any w' s (HCx.out w' h) ht2
        rwa [← HD.out] at this
      have q14 : Hid (∀ w', (w'.cell? ⟨bq, 0, none⟩ = some (.int .i64 (m : Int)) ∧ w'.cell? ⟨bq, 1, none⟩ = some (.int .i64 (t : Int)) ∧ w'.cell? ⟨bq, 2, none⟩ = some (.int .i64 (n : Int)) ∧ w'.cell? ⟨bq, 3, none⟩ = some (.slice ga gn gc) ∧ w'.cell? ⟨bq, 4, none⟩ = some (.int .i64 (D : Int)) ∧ Below wr.heap.size wr w') → Calls Tryz.prog 14 #[cdV m t n ga gn gc D] w' fun e w'' => e = .returned (.int .i64 (pb D : Int)) ∧ (w''.cell? ⟨bq, 0, none⟩ = some (.int .i64 (m : Int)) ∧ w''.cell? ⟨bq, 1, none⟩ = some (.int .i64 (t : Int)) ∧ w''.cell? ⟨bq, 2, none⟩ = some (.int .i64 (n : Int)) ∧ w''.cell? ⟨bq, 3, none⟩ = some (.slice ga gn gc) ∧ w''.cell? ⟨bq, 4, none⟩ = some (.int .i64 (D : Int)) ∧ Below wr.heap.size wr w'')) := fun w' h => by
        refine (rparity_any m t n ga gn gc D (by omega) w').mono ?_
        rintro e w'' ⟨rfl, b⟩
        exact ⟨rfl, HS.out _ (h.2.2.2.2.2.trans (b.mono h.2.2.2.2.2.size))⟩
      have q15 : Hid (∀ w', (w'.cell? ⟨bq, 0, none⟩ = some (.int .i64 (m : Int)) ∧ w'.cell? ⟨bq, 1, none⟩ = some (.int .i64 (t : Int)) ∧ w'.cell? ⟨bq, 2, none⟩ = some (.int .i64 (n : Int)) ∧ w'.cell? ⟨bq, 3, none⟩ = some (.slice ga gn gc) ∧ w'.cell? ⟨bq, 4, none⟩ = some (.int .i64 (D : Int)) ∧ Below wr.heap.size wr w') → Calls Tryz.prog 15 #[.pointer (some ⟨s, 0, none⟩)] w' fun e w'' => e = .returned (.int .i64 ((8 * n + D : Nat) : Int)) ∧ (w''.cell? ⟨bq, 0, none⟩ = some (.int .i64 (m : Int)) ∧ w''.cell? ⟨bq, 1, none⟩ = some (.int .i64 (t : Int)) ∧ w''.cell? ⟨bq, 2, none⟩ = some (.int .i64 (n : Int)) ∧ w''.cell? ⟨bq, 3, none⟩ = some (.slice ga gn gc) ∧ w''.cell? ⟨bq, 4, none⟩ = some (.int .i64 (D : Int)) ∧ Below wr.heap.size wr w'')) := fun w' h => by
        have h1 := bits_code w' s (HCx.out w' h) hn2 ht2
        rw [← HD.out] at h1
        refine h1.mono ?_
        rintro e w'' ⟨rfl, d⟩
        exact ⟨rfl, HS.out _ (h.2.2.2.2.2.trans (d.below _))⟩
      have q16 : Hid (∀ w', (w'.cell? ⟨bq, 0, none⟩ = some (.int .i64 (m : Int)) ∧ w'.cell? ⟨bq, 1, none⟩ = some (.int .i64 (t : Int)) ∧ w'.cell? ⟨bq, 2, none⟩ = some (.int .i64 (n : Int)) ∧ w'.cell? ⟨bq, 3, none⟩ = some (.slice ga gn gc) ∧ w'.cell? ⟨bq, 4, none⟩ = some (.int .i64 (D : Int)) ∧ Below wr.heap.size wr w') → Calls Tryz.prog 16 #[cdV m t n ga gn gc D] w' fun e w'' => e = .returned (.int .i64 ((8 * n + D : Nat) : Int)) ∧ (w''.cell? ⟨bq, 0, none⟩ = some (.int .i64 (m : Int)) ∧ w''.cell? ⟨bq, 1, none⟩ = some (.int .i64 (t : Int)) ∧ w''.cell? ⟨bq, 2, none⟩ = some (.int .i64 (n : Int)) ∧ w''.cell? ⟨bq, 3, none⟩ = some (.slice ga gn gc) ∧ w''.cell? ⟨bq, 4, none⟩ = some (.int .i64 (D : Int)) ∧ Below wr.heap.size wr w'')) := fun w' h => by
        refine (rbits_any m t n ga gn gc D (by omega) hn2 w').mono ?_
        rintro e w'' ⟨rfl, b⟩
        exact ⟨rfl, HS.out _ (h.2.2.2.2.2.trans (b.mono h.2.2.2.2.2.size))⟩
      obtain ⟨PB, hPB⟩ : ∃ PB, PB = pb D := ⟨_, rfl⟩
      obtain ⟨NB, hNB⟩ : ∃ NB, NB = 8 * n + D := ⟨_, rfl⟩
      rw [← hPB] at q13 q14
      rw [← hNB] at q15 q16
      have HB7 := Lib.hid B7
      have hS0 := HS.out _ ((Drawn.mk wr 1).below wr.heap.size)
      replace hS0 : (wr.drew.cell? ⟨bq, 0, none⟩ = some (.int .i64 (m : Int)) ∧ wr.drew.cell? ⟨bq, 1, none⟩ = some (.int .i64 (t : Int)) ∧ wr.drew.cell? ⟨bq, 2, none⟩ = some (.int .i64 (n : Int)) ∧ wr.drew.cell? ⟨bq, 3, none⟩ = some (.slice ga gn gc) ∧ wr.drew.cell? ⟨bq, 4, none⟩ = some (.int .i64 (D : Int)) ∧ Below wr.heap.size wr wr.drew) := hS0
      clear hPB hNB B7 C K G B b5 hB5 K7 hbq hB HX HC HG c0 c1 c2 c3 c4 cf
      go_region_held3 (fun w' => (w'.cell? ⟨bq, 0, none⟩ = some (.int .i64 (m : Int)) ∧ w'.cell? ⟨bq, 1, none⟩ = some (.int .i64 (t : Int)) ∧ w'.cell? ⟨bq, 2, none⟩ = some (.int .i64 (n : Int)) ∧ w'.cell? ⟨bq, 3, none⟩ = some (.slice ga gn gc) ∧ w'.cell? ⟨bq, 4, none⟩ = some (.int .i64 (D : Int)) ∧ Below wr.heap.size wr w'))
        (first | assumption | exact ⟨by assumption, by assumption, by assumption, by assumption, by assumption, by assumption⟩)
        ((first
          | (go_at_call 8; refine Calls.mono (q8.out _ (by assumption)) ?_; rintro e w8 ⟨a8, n8, c8, rfl, g8, h8⟩)
          | (go_at_call 9; refine Calls.mono (sameNV (by assumption) (HGx.out _ (by assumption)) rfl) ?_; rintro e w9 ⟨rfl, rfl⟩)
          | (go_at_call 10; refine Calls.mono (t_code _ s (HCx.out _ (by assumption))) ?_; rintro e w9 ⟨rfl, rfl⟩)
          | (go_at_call 11; refine Calls.mono (data_code _ s (HCx.out _ (by assumption))) ?_; rintro e w9 ⟨rfl, rfl⟩)
          | (go_at_call 12; refine Calls.mono (q12.out _ (by assumption)) ?_; rintro e w9 ⟨rfl, rfl⟩)
          | (go_at_call 13; refine Calls.mono (q13.out _ (by assumption)) ?_; rintro e w9 ⟨rfl, rfl⟩)
          | (go_at_call 14; refine Calls.mono (q14.out _ (by assumption)) ?_; rintro e w10 ⟨rfl, h10⟩)
          | (go_at_call 15; refine Calls.mono (q15.out _ (by assumption)) ?_; rintro e w11 ⟨rfl, h11⟩)
          | (go_at_call 16; refine Calls.mono (q16.out _ (by assumption)) ?_; rintro e w12 ⟨rfl, h12⟩)
          | (go_at_call 17; refine Calls.mono (field_code _ s (HCx.out _ (by assumption))) ?_; rintro e w13 ⟨⟨fb, be, ce, bl, rfl, ff⟩, rfl⟩)
          | (go_at_call 18; refine Calls.mono (Fld.fm_any _ (by assumption)) ?_; rintro e w13 ⟨rfl, rfl⟩)))
      have hfin : Below wr.heap.size wr w12 := h12.2.2.2.2.2
      clear h8 h10 h11 h12 g8 ff hS0
      go_wp2_with fail
      go_ret
      exact ⟨rfl, HB7.out.trans (hfin.mono HB7.out.size)⟩
theorem walk (x0 x1 x2 : Int) (W : World) (w0 : (Lit.int .i64 x0).wf = true) (w1 : (Lit.int .i64 x1).wf = true) (w2 : (Lit.int .i64 x2).wf = true) (h : LaidEncodeMakes.Holds W) :
    Calls Tryz.prog 3 #[.int .i64 x0, .int .i64 x1, .int .i64 x2] W fun e w' => e = .returned (.bool true) ∧ Below W.heap.size W w' := by
  obtain ⟨f, E⟩ := h
  rcases new_cases x0 x1 x2 f with ⟨m, t, n, M, rfl, rfl, rfl, H⟩ | ⟨v, c, hv, hc, hn, _, HN, HR⟩
  · exact good m t n H f W E
  · exact bad x0 x1 x2 f v c hv hc hn HN HR W E
end Go.Proofs.YtnmallpimbpagaaGreatDoor.walkEncodeMakes
