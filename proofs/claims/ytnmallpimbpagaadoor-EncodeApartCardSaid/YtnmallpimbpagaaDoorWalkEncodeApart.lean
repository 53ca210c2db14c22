/- The walk over EncodeApart. By the verifier of shale. -/
import Derived.Test.YtnmallpimbpagaaDoorGreat1
import Derived.Test.YtnmallpimbpagaaDoorGreat2
import Derived.Test.YtnmallpimbpagaaDoorGreat3
import Derived.Test.YtnmallpimbpagaaDoorGreat4
import Derived.Test.YtnmallpimbpagaaDoorLaidEncodeApart
namespace Go.Proofs.YtnmallpimbpagaaDoor.walkEncodeApart
open Go Go.RowKit Bin Cos Enc
set_option linter.unusedVariables false
/-- ints that came in: each is there. -/
def ZRow (w : World) (a : Option Addr) (n c : Nat) : Prop := ∀ i, i < n → ∃ bb off z, a = some ⟨bb, off, none⟩ ∧ w.cell? ⟨bb, off + i, none⟩ = some (.int .i64 z) ∧ bb < w.heap.size
theorem ZRow.below {w w' : World} {a : Option Addr} {n c : Nat} (h : ZRow w a n c) (b : Below w.heap.size w w') : ZRow w' a n c := by
  intro i hi
  obtain ⟨bb, off, z, e, d, hb⟩ := h i hi
  exact ⟨bb, off, z, e, (b.cell (p := ⟨bb, off + i, none⟩) hb).trans d, Nat.lt_of_lt_of_le hb b.size⟩
theorem ZRow.at {w : World} {a : Option Addr} {n c : Nat} (h : ZRow w a n c) (i : Nat) (hi : i < n) : ∃ bb off z, a = some ⟨bb, off, none⟩ ∧ w.cell? ⟨bb, off + i, none⟩ = some (.int .i64 z) := by
  obtain ⟨bb, off, z, e, d, _⟩ := h i hi
  exact ⟨bb, off, z, e, d⟩
section
attribute [local go_sem] Bits32.bxor Bits32.bxor_bit
set_option maxRecDepth 100000 in
set_option maxHeartbeats 4000000 in
theorem core (z1 z2 z3 : Int) (a : Option Addr) (na ca : Nat) (l : List (BitVec 8)) (a4 : Option Addr) (n4 k4 : Nat) (hn4 : n4 ≤ 40) (w : World) (yc : Addr) (EC : ErrAt w 2 yc) (A1 : Pol w a na ca l) (HR : ZRow w a4 n4 k4) :
    Calls Tryd.prog 5 #[.int .i64 z1, .int .i64 z2, .int .i64 z3, .slice a na ca, .slice a4 n4 k4] w fun e w' => e = .returned (.bool true) ∧ Below w.heap.size w w' := by
  have h40 : ¬ (40 : Int) < (n4 : Int) := by omega
  go_enter Tryd.func5, Tryd.ntmps5
  go_wp2_with fail
  refine (first_any w yc EC).mono ?_
  rintro e w1 ⟨rfl, b⟩
  have B := b
  replace EC := EC.below b
  replace A1 := A1.below b
  replace HR := HR.below b
  clear b
  go_wp2_with fail
  refine (made_any z1 z2 z3 w1 yc EC).mono ?_
  rintro e w2 ⟨m, t, n, M, s, ga, gn, gc, hm6, hm10, ht6, hn24, hmay, rfl, C, G, b⟩
  haveI := M
  replace EC := EC.below b
  replace A1 := A1.below b
  replace HR := HR.below b
  replace B := B.trans (b.mono B.size)
  clear b
  have ht1 := hmay.t1
  have ht40 := hmay.t2
  have hn1 := hmay.n1
  have hn2 := hmay.n2
  have hroom := hmay.room
  have hDpos := deg_pos M.lo ht1
  have hD60 : deg m t ≤ 60 := by
    have h1 := deg_le M.lo t
    have h2 : m * t ≤ 10 * 6 := Nat.mul_le_mul hm10 ht6
    omega
  have HG := Lib.hid (gen_deg (m := m) t)
  obtain ⟨D, hD⟩ : ∃ D, D = deg m t := ⟨_, rfl⟩
  have HD := Lib.hid hD
  rw [← hD] at hDpos hD60 hroom HG
  rw [← hD]
  clear hD
  go_wp2_with fail
  generalize hw : w2.alloc (.cells #[.int .i64 (m : Int), .int .i64 (t : Int), .int .i64 (n : Int), .slice ga gn gc, .int .i64 (D : Int)] 26 (0, 0)) = w3
  obtain ⟨K, b⟩ := newCd w2 w3 _ _ _ _ _ hw
  clear hw
  replace EC := EC.below b
  replace A1 := A1.below b
  replace HR := HR.below b
  replace C := C.below b
  replace G := G.below b
  replace B := B.trans (b.mono B.size)
  clear b
  obtain ⟨bq, hbq⟩ : ∃ bq, bq = w2.heap.size := ⟨_, rfl⟩
  rw [← hbq] at K ⊢
  clear hbq
  refine (fit_any a na ca l n (by omega) w3 A1).mono ?_
  rintro e w4 ⟨rfl, Z1, b⟩
  have hf1 := fitL_length l n
  generalize fitL l n = X at Z1 hf1
  obtain ⟨g1, hg1⟩ : ∃ g1, g1 = w3.heap.size := ⟨_, rfl⟩
  rw [← hg1] at Z1 ⊢
  clear hg1
  clear A1
  replace EC := EC.below b
  replace HR := HR.below b
  replace C := C.below b
  replace G := G.below b
  replace K := keepB K b
  replace B := B.trans (b.mono B.size)
  clear b
  obtain ⟨c0, c1, c2, c3, c4, _⟩ := cd_cells K
  go_wp2_with fail
  clear c0 c1 c2 c3 c4
  obtain ⟨w5', hw5'⟩ : ∃ x : Nat, x = w4.heap.size := ⟨_, rfl⟩
  have Z1lt := Z1.lt
  refine (copy_of (Arg8.whole Z1.row Z1.lt hf1.symm (by unfold maxLen; omega)) (fun h => by cases h) (by omega)).mono ?_
  rintro e w5 ⟨rfl, Z2, b5⟩
  obtain ⟨g2, hg2⟩ : ∃ g2, g2 = w4.heap.size := ⟨_, rfl⟩
  have HG2 := Lib.hid hg2
  clear hw5'
  rw [← hg2] at Z2 b5 Z1lt ⊢
  have HZ : Hid (Blk8 w5 g1 X ∧ Blk8 w5 g2 X) := ⟨(b5.block g1 Z1lt).trans Z1, Z2⟩
  have HS : Hid (CodeAt m t n w4 s ∧ w4.heap[bq]? = some (cdO (.int .i64 (m : Int)) (.int .i64 (t : Int)) (.int .i64 (n : Int)) (.slice ga gn gc) (.int .i64 (D : Int))) ∧ ZRow w4 a4 n4 k4 ∧ Below w.heap.size w w4) := ⟨C, K, HR, B⟩
  clear Z1 Z2 EC C G K B HR hg2
  obtain ⟨N, hN⟩ : ∃ N, N = 8 * n := ⟨_, rfl⟩
  have eN : 8 * (n : Int) = (N : Int) := by omega
  have HN := Lib.hid hN
  have hN1 : 0 < N := by omega
  have hN2 : N ≤ 1000000 := by omega
  clear hN
  go_wp2_with fail
  go_loopg [17] n4 (fun gh s17 wx => ∃ (k : Nat), gh = n4 - k ∧ k ≤ n4 ∧ s17 = .int .i64 (k : Int) ∧ Hid (Blk8 wx g1 X ∧ ∃ Y, Y.length = n ∧ Blk8 wx g2 Y) ∧ Below g2 w4 wx)
  case atStart => exact ⟨0, rfl, Nat.zero_le _, rfl, ⟨HZ.out.1, X, hf1, HZ.out.2⟩, b5⟩
  case round =>
    clear HZ b5
    obtain ⟨k, hg, hk, rfl, HZ, hO⟩ := hrel
    have HGk := Lib.hid hg
    clear hg
    obtain ⟨Z1, Y, hY, Z2⟩ := HZ.out
    obtain ⟨C, K, HR, B⟩ := HS.out
    have hO' := hO
    rw [HG2.out] at hO'
    replace K := keepB K hO'
    by_cases hlt : k < n4
    · have x1 : (k : Int) < (n4 : Int) := by omega
      have x0 : (0 : Int) ≤ (k : Int) := by omega
      obtain ⟨bb, off, z, rfl, d1⟩ := (HR.below hO').at k hlt
      obtain ⟨c0, c1, c2, c3, c4, _⟩ := cd_cells K
      obtain ⟨r1, r2, q, hq, r3⟩ := norm_var z N hN1 hN2
      have HI := Lib.hid (And.intro Z1 (And.intro Z2 hO))
      clear C K HR B hO hO' Z1 Z2 HZ
      go_wp2_with fail
      go_quiet (fail)
      obtain ⟨Z1, Z2, hO⟩ := HI.out
      have hdr := Drawn.mk wr nq
      generalize wr.drewN nq = w6 at hdr ⊢
      have b6 := hdr.below wr.heap.size
      replace Z1 := keepZ Z1 b6
      replace Z2 := keepZ Z2 b6
      replace hO := hO.trans (hdr.below g2)
      clear HI hdr b6 c0 c1 c2 c3 c4 d1 r1 r2 r3
      have y0 : (0 : Int) ≤ (q : Int) := by omega
      have y1 : (q : Int) / 8 < (n : Int) := by have := HN.out; omega
      have d1 := Z2.cell (i := q / 8) (by have := HN.out; omega)
      have d2 := Z2.free (q / 8)
      have hs := Z2.set (q / 8) (nth8 Y (q / 8) ^^^ BitVec.twoPow 8 (q % 8))
      have o4 := Only.setCell w6 ⟨g2, q / 8, none⟩ (.int .u8 (Bits32.b (nth8 Y (q / 8) ^^^ BitVec.twoPow 8 (q % 8))))
      have HNx : Hid ((Blk8 (w6.setCell ⟨g2, q / 8, none⟩ (.int .u8 (Bits32.b (nth8 Y (q / 8) ^^^ BitVec.twoPow 8 (q % 8))))) g1 X ∧ ∃ Y', Y'.length = n ∧ Blk8 (w6.setCell ⟨g2, q / 8, none⟩ (.int .u8 (Bits32.b (nth8 Y (q / 8) ^^^ BitVec.twoPow 8 (q % 8))))) g2 Y') ∧ Below g2 w4 (w6.setCell ⟨g2, q / 8, none⟩ (.int .u8 (Bits32.b (nth8 Y (q / 8) ^^^ BitVec.twoPow 8 (q % 8)))))) :=
        ⟨⟨(o4.block g1 (by show g1 ≠ g2; omega)).trans Z1, Y.set (q / 8) (nth8 Y (q / 8) ^^^ BitVec.twoPow 8 (q % 8)), by rw [List.length_set]; exact hY, hs⟩, hO.trans (o4.below (Nat.le_refl g2))⟩
      clear Z1 Z2 hO hs o4
      go_wp2_with fail
      go_roundg (n4 - (k + 1))
      case measure => have := HGk.out; omega
      case rel => exact ⟨k + 1, rfl, by omega, by go_num, Lib.hid HNx.out.1, HNx.out.2⟩
    · obtain rfl : k = n4 := by omega
      replace C := C.below hO'
      replace B := B.trans (hO'.mono B.size)
      clear HZ hO hO' HS HR
      obtain ⟨w6, rfl⟩ : ∃ w6, w6 = wr := ⟨_, rfl⟩
      obtain ⟨c0, c1, c2, c3, c4, _⟩ := cd_cells K
      go_wp2_with fail
      clear c0 c1 c2 c3 c4
      refine (fast_any (m := m) ht1 ht40 w6 s C _ n X (blk_pol Z1 hf1.symm (by omega)) hn2).mono ?_
      rintro e w7 ⟨g7, rfl, Z7, b, _⟩
      rw [← HD.out] at Z7 ⊢
      replace C := C.below b
      replace K := keepB K b
      replace Z1 := keepZ Z1 b
      replace Z2 := keepZ Z2 b
      replace B := B.trans (b.mono B.size)
      clear b
      obtain ⟨c0, c1, c2, c3, c4, _⟩ := cd_cells K
      go_wp2_with fail
      clear c0 c1 c2 c3 c4
      refine (fast_any (m := m) ht1 ht40 w7 s C _ n Y (blk_pol Z2 hY.symm (by omega)) hn2).mono ?_
      rintro e w8 ⟨g8, rfl, Z8, b, _⟩
      rw [← HD.out] at Z8 ⊢
      have hap := apart (m := m) (t := t) (X := val X) (X' := val Y) (n := 8 * n) (by have := val_lt X; rwa [hf1] at this) (by have := val_lt Y; rwa [hY] at this) (by have := HD.out; omega)
      rw [← HD.out] at hap
      have hl7 := byN_length (prt (gen m t) D (val X)) (pb D)
      have hl8 := byN_length (prt (gen m t) D (val Y)) (pb D)
      have hv7 := val_byN (pb_room (prt_lt HG.out (val X)))
      have hv8 := val_byN (pb_room (prt_lt HG.out (val Y)))
      have hmore : pop (prt (gen m t) D (val X) ^^^ prt (gen m t) D (val Y)) (8 * pb D) = pop (prt (gen m t) D (val X) ^^^ prt (gen m t) D (val Y)) D := pop_more (Nat.xor_lt_two_pow (prt_lt HG.out _) (prt_lt HG.out _)) (by unfold pb; omega)
      rw [← hmore] at hap
      obtain ⟨P, hP⟩ : ∃ P, P = pb D := ⟨_, rfl⟩
      have HPe := Lib.hid hP
      have hP8 : P ≤ 8 := by rw [hP]; unfold pb; omega
      rw [← hP] at Z7 Z8 hl7 hl8 hv7 hv8 hap ⊢
      rw [← hv7, ← hv8] at hap
      have heq : val X = val Y → X = Y := fun h => len_inj (by omega) h
      have heq2 : X = Y → byN (prt (gen m t) D (val X)) P = byN (prt (gen m t) D (val Y)) P := fun h => by rw [h]
      generalize byN (prt (gen m t) D (val X)) P = L7 at Z7 hl7 hap heq2
      generalize byN (prt (gen m t) D (val Y)) P = L8 at Z8 hl8 hap heq2
      have HA := Lib.hid (And.intro hap (And.intro heq heq2))
      clear hap heq heq2 hmore hv7 hv8 hP
      replace C := C.below b
      replace K := keepB K b
      replace Z1 := keepZ Z1 b
      replace Z2 := keepZ Z2 b
      replace Z7 := keepZ Z7 b
      replace B := B.trans (b.mono B.size)
      clear b
      obtain ⟨c0, c1, c2, c3, c4, _⟩ := cd_cells K
      go_wp2_with fail
      clear c0 c1 c2 c3 c4
      refine (distance_any _ _ n _ _ X Y (by omega) w8 (blk_pol Z1 hf1.symm (by omega)) (blk_pol Z2 hY.symm (by omega))).mono ?_
      rintro e w' ⟨rfl, rfl⟩
      have hpb1 : pop (val X ^^^ val Y) (8 * n) ≤ 8 * n := pop_le _ _
      have hpb2 : pop (val L7 ^^^ val L8) (8 * P) ≤ 8 * P := pop_le _ _
      obtain ⟨p1, hp1⟩ : ∃ p1, p1 = pop (val X ^^^ val Y) (8 * n) := ⟨_, rfl⟩
      obtain ⟨p2, hp2⟩ : ∃ p2, p2 = pop (val L7 ^^^ val L8) (8 * P) := ⟨_, rfl⟩
      rw [← hp1] at hpb1 ⊢
      have HP1 := Lib.hid hp1
      have HP2 := Lib.hid hp2
      rw [← hp2] at hpb2
      have bp1 : p1 ≤ 192 := by omega
      have bp2 : p2 ≤ 64 := by omega
      clear hp1 hp2 hpb1 hpb2
      obtain ⟨c0, c1, c2, c3, c4, _⟩ := cd_cells K
      go_wp2_with fail
      clear c0 c1 c2 c3 c4
      refine (distance_any _ _ P _ _ L7 L8 (by omega) w8 (blk_pol Z7 hl7.symm (by omega)) (blk_pol Z8 hl8.symm (by omega))).mono ?_
      rintro e w' ⟨rfl, rfl⟩
      rw [← HP2.out]
      obtain ⟨c0, c1, c2, c3, c4, _⟩ := cd_cells K
      go_wp2_with fail
      clear c0 c1 c2 c3 c4
      refine (rparity_any m t n ga gn gc D (by omega) w8).mono ?_
      rintro e w9 ⟨rfl, b⟩
      rw [← HPe.out]
      replace C := C.below b
      replace K := keepB K b
      replace Z1 := keepZ Z1 b
      replace Z2 := keepZ Z2 b
      replace Z7 := keepZ Z7 b
      replace Z8 := keepZ Z8 b
      replace B := B.trans (b.mono B.size)
      clear b
      obtain ⟨c0, c1, c2, c3, c4, _⟩ := cd_cells K
      go_wp2_with fail
      clear c0 c1 c2 c3 c4
      refine (same_blk (blk_arg Z1 hf1.symm) (blk_arg Z2 hY.symm)).mono ?_
      rintro e w' ⟨rfl, rfl⟩
      have hor : (X = Y ∧ p1 + p2 = 0) ∨ (X ≠ Y ∧ 2 * t < p1 + p2) := by
        obtain ⟨h1, h2, h3⟩ := HA.out
        by_cases h : X = Y
        · refine Or.inl ⟨h, ?_⟩
          rw [HP1.out, HP2.out, h, h3 h, Nat.xor_self, Nat.xor_self, pop_zero, pop_zero]
        · refine Or.inr ⟨h, ?_⟩
          rcases h1 with h4 | h4
          · exact absurd (h2 h4) h
          · rw [HP1.out, HP2.out]; exact h4
      obtain ⟨c0, c1, c2, c3, c4, _⟩ := cd_cells K
      rcases hor with ⟨h1, h2⟩ | ⟨h1, h2⟩
      · rw [decide_eq_true h1]
        have t1 : ((p1 : Int) + (p2 : Int) == 0) = true := by rw [beq_iff_eq]; omega
        clear h1 HA C Z1 Z2 Z7 Z8
        go_wp2_with fail
        go_ret
        exact ⟨rfl, B⟩
      · rw [decide_eq_false h1]
        have t1 : ((p1 : Int) + (p2 : Int) == 0) = false := by rw [beq_eq_false_iff_ne]; omega
        have t2 : 2 * (t : Int) + 1 ≤ (p1 : Int) + (p2 : Int) := by omega
        clear h1 HA C Z1 Z2 Z7 Z8
        go_wp2_with fail
        go_ret
        exact ⟨rfl, B⟩
end
set_option maxRecDepth 100000 in
set_option maxHeartbeats 4000000 in
theorem long (z1 z2 z3 : Int) (a : Option Addr) (na ca : Nat) (a4 : Option Addr) (n4 k4 : Nat) (hn4 : 40 < n4) (w : World) (yc : Addr) (EC : ErrAt w 2 yc) :
    Calls Tryd.prog 5 #[.int .i64 z1, .int .i64 z2, .int .i64 z3, .slice a na ca, .slice a4 n4 k4] w fun e w' => e = .returned (.bool true) ∧ Below w.heap.size w w' := by
  have h40 : (40 : Int) < (n4 : Int) := by omega
  go_enter Tryd.func5, Tryd.ntmps5
  go_wp2_with fail
  refine (first_any w yc EC).mono ?_
  rintro e w1 ⟨rfl, b⟩
  have B := b
  replace EC := EC.below b
  clear b
  go_wp2_with fail
  refine (made_any z1 z2 z3 w1 yc EC).mono ?_
  rintro e w2 ⟨m, t, n, M, s, ga, gn, gc, hm6, hm10, ht6, hn24, hmay, rfl, C, G, b⟩
  replace B := B.trans (b.mono B.size)
  clear b EC C G
  go_wp2_with fail
  go_ret
  exact ⟨rfl, B.alloc B.size _⟩
theorem walk (a0 a1 a2 : Int) (a3 : Option Addr) (len3 cap3 : Nat) (z3 : List Int) (a4 : Option Addr) (len4 cap4 : Nat) (z4 : List Int) (W : World) (w0 : (Lit.int .i64 a0).wf = true) (w1 : (Lit.int .i64 a1).wf = true) (w2 : (Lit.int .i64 a2).wf = true) (w3 : IsRow .u8 W a3 len3 cap3 z3) (w4 : IsRow .i64 W a4 len4 cap4 z4) (h : LaidEncodeApart.Holds W) :
    Calls Tryd.prog 5 #[.int .i64 a0, .int .i64 a1, .int .i64 a2, .slice a3 len3 cap3, .slice a4 len4 cap4] W fun e w' => e = .returned (.bool true) ∧ Below W.heap.size W w' := by
  obtain ⟨f, ⟨E0, E1, E2, E3⟩, _⟩ := h
  obtain ⟨l, hl⟩ := row_pol w3
  by_cases hn : len4 ≤ 40
  · refine core a0 a1 a2 a3 len3 cap3 l a4 len4 cap4 hn W _ E3 hl fun i hi => ?_
    obtain ⟨_, _, h⟩ := w4.at
    obtain ⟨bb, off, z, e, d, hb, _⟩ := h i hi
    exact ⟨bb, off, z, e, d, hb⟩
  · exact long a0 a1 a2 a3 len3 cap3 a4 len4 cap4 (by omega) W _ E3
end Go.Proofs.YtnmallpimbpagaaDoor.walkEncodeApart
