/- The walk over EncodeLinear. By the verifier of shale. -/
import Derived.Test.YtnmallpimbpagaaDoorGreat1
import Derived.Test.YtnmallpimbpagaaDoorGreat2
import Derived.Test.YtnmallpimbpagaaDoorGreat3
import Derived.Test.YtnmallpimbpagaaDoorGreat4
import Derived.Test.YtnmallpimbpagaaDoorLaidEncodeLinear
namespace Go.Proofs.YtnmallpimbpagaaDoor.walkEncodeLinear
open Go Go.RowKit Bin Cos Enc
set_option linter.unusedVariables false
/-- the xor of the first k. -/
def xrL (X Y : List (BitVec 8)) (n k : Nat) : List (BitVec 8) := (List.range n).map fun j => if j < k then nth8 X j ^^^ nth8 Y j else 0
theorem xrL_length (X Y : List (BitVec 8)) (n k : Nat) : (xrL X Y n k).length = n := by simp [xrL]
theorem xrL_zero (X Y : List (BitVec 8)) (n : Nat) : xrL X Y n 0 = List.replicate n 0 := by
  apply List.ext_getElem
  · simp [xrL]
  · intro i h1 h2; simp [xrL]
theorem xrL_set (X Y : List (BitVec 8)) (n k : Nat) (h : k < n) : (xrL X Y n k).set k (nth8 X k ^^^ nth8 Y k) = xrL X Y n (k + 1) := by
  apply List.ext_getElem
  · simp [xrL]
  · intro i h1 h2
    rw [List.getElem_set]
    simp only [xrL, List.getElem_map, List.getElem_range]
    by_cases e : k = i
    · subst e; rw [if_pos rfl, if_pos (by omega)]
    · rw [if_neg e]
      by_cases e2 : i < k
      · rw [if_pos e2, if_pos (by omega)]
      · rw [if_neg e2, if_neg (by omega)]
theorem xrL_val (X Y : List (BitVec 8)) (n : Nat) (h1 : X.length = n) (h2 : Y.length = n) : val (xrL X Y n n) = val X ^^^ val Y := by
  rw [← val_addL]
  congr 1
  unfold xrL addL
  rw [h1, h2, Nat.max_self]
  apply List.map_congr_left
  intro i hi
  rw [if_pos (List.mem_range.1 hi)]
set_option maxRecDepth 100000 in
set_option maxHeartbeats 4000000 in
theorem core (z1 z2 z3 : Int) (a : Option Addr) (na ca : Nat) (l : List (BitVec 8)) (a' : Option Addr) (na' ca' : Nat) (l' : List (BitVec 8)) (w : World) (yc : Addr) (EC : ErrAt w 2 yc) (A1 : Pol w a na ca l) (A2 : Pol w a' na' ca' l') :
    Calls Tryd.prog 4 #[.int .i64 z1, .int .i64 z2, .int .i64 z3, .slice a na ca, .slice a' na' ca'] w fun e w' => e = .returned (.bool true) ∧ Below w.heap.size w w' := by
  go_enter Tryd.func4, Tryd.ntmps4
  go_wp2_with fail
  refine (first_any w yc EC).mono ?_
  rintro e w1 ⟨rfl, b⟩
  have B := b
  replace EC := EC.below b
  replace A1 := A1.below b
  replace A2 := A2.below b
  clear b
  go_wp2_with fail
  refine (made_any z1 z2 z3 w1 yc EC).mono ?_
  rintro e w2 ⟨m, t, n, M, s, ga, gn, gc, hm6, hm10, ht6, hn24, hmay, rfl, C, G, b⟩
  haveI := M
  replace EC := EC.below b
  replace A1 := A1.below b
  replace A2 := A2.below b
  replace B := B.trans (b.mono B.size)
  clear b
  have ht1 := hmay.t1
  have ht40 := hmay.t2
  have hn1 := hmay.n1
  have hn2 := hmay.n2
  have hroom := hmay.room
  have hDpos := deg_pos M.lo ht1
  have hD60 : deg m t ≤ 60 := by
    have h1 := deg_le M.lo t
    have h2 : m * t ≤ 10 * 6 := Nat.mul_le_mul hm10 ht6
    omega
  have HG := Lib.hid (gen_deg (m := m) t)
  obtain ⟨D, hD⟩ : ∃ D, D = deg m t := ⟨_, rfl⟩
  have HD := Lib.hid hD
  rw [← hD] at hDpos hD60 hroom HG
  rw [← hD]
  clear hD
  go_wp2_with fail
  generalize hw : w2.alloc (.cells #[.int .i64 (m : Int), .int .i64 (t : Int), .int .i64 (n : Int), .slice ga gn gc, .int .i64 (D : Int)] 26 (0, 0)) = w3
  obtain ⟨K, b⟩ := newCd w2 w3 _ _ _ _ _ hw
  clear hw
  replace EC := EC.below b
  replace A1 := A1.below b
  replace A2 := A2.below b
  replace C := C.below b
  replace G := G.below b
  replace B := B.trans (b.mono B.size)
  clear b
  obtain ⟨bq, hbq⟩ : ∃ bq, bq = w2.heap.size := ⟨_, rfl⟩
  rw [← hbq] at K ⊢
  clear hbq
  refine (fit_any a na ca l n (by omega) w3 A1).mono ?_
  rintro e w4 ⟨rfl, Z1, b⟩
  have hf1 := fitL_length l n
  generalize fitL l n = X at Z1 hf1
  obtain ⟨g1, hg1⟩ : ∃ g1, g1 = w3.heap.size := ⟨_, rfl⟩
  rw [← hg1] at Z1 ⊢
  clear hg1
  clear A1
  replace EC := EC.below b
  replace A2 := A2.below b
  replace C := C.below b
  replace G := G.below b
  replace K := keepB K b
  replace B := B.trans (b.mono B.size)
  clear b
  obtain ⟨c0, c1, c2, c3, c4, _⟩ := cd_cells K
  go_wp2_with fail
  clear c0 c1 c2 c3 c4
  have hmk := fun w => made8 w n (by omega)
  refine (fit_any a' na' ca' l' n (by omega) w4 A2).mono ?_
  rintro e w5 ⟨rfl, Z2, b⟩
  have hf2 := fitL_length l' n
  generalize fitL l' n = Y at Z2 hf2
  obtain ⟨g2, hg2⟩ : ∃ g2, g2 = w4.heap.size := ⟨_, rfl⟩
  rw [← hg2] at Z2 ⊢
  clear hg2
  clear A2
  replace EC := EC.below b
  replace C := C.below b
  replace G := G.below b
  replace K := keepB K b
  replace Z1 := keepZ Z1 b
  replace B := B.trans (b.mono B.size)
  clear b
  obtain ⟨c0, c1, c2, c3, c4, _⟩ := cd_cells K
  go_wp2_with fail
  clear c0 c1 c2 c3 c4
  clear hmk
  generalize hw : w5.alloc (obj8 (List.replicate n 0)) = w6
  obtain ⟨Z3, b6⟩ := lit8 w5 w6 _ hw.symm
  clear hw
  have Z1lt := Z1.lt
  have Z2lt := Z2.lt
  obtain ⟨g3, hg3⟩ : ∃ g3, g3 = w5.heap.size := ⟨_, rfl⟩
  have HG3 := Lib.hid hg3
  rw [← hg3] at Z3 b6 Z1lt Z2lt ⊢
  have HZ : Hid (Blk8 w6 g1 X ∧ Blk8 w6 g2 Y ∧ Blk8 w6 g3 (xrL X Y n 0)) := ⟨(b6.block g1 Z1lt).trans Z1, (b6.block g2 Z2lt).trans Z2, by rw [xrL_zero]; exact Z3⟩
  have HS : Hid (ErrAt w5 2 yc ∧ CodeAt m t n w5 s ∧ BarV w5 ga gn gc (gen m t) ∧ w5.heap[bq]? = some (cdO (.int .i64 (m : Int)) (.int .i64 (t : Int)) (.int .i64 (n : Int)) (.slice ga gn gc) (.int .i64 (D : Int))) ∧ Below w.heap.size w w5) := ⟨EC, C, G, K, B⟩
  clear Z1 Z2 Z3 EC C G K B hg3
  go_loopg [18] n (fun gh s18 wx => ∃ (k : Nat), gh = n - k ∧ k ≤ n ∧ s18 = .int .i64 (k : Int) ∧ Hid (Blk8 wx g1 X ∧ Blk8 wx g2 Y ∧ Blk8 wx g3 (xrL X Y n k)) ∧ Below g3 w5 wx)
  case atStart => exact ⟨0, rfl, Nat.zero_le _, rfl, HZ, b6⟩
  case round =>
    clear HZ b6
    obtain ⟨k, hg, hk, rfl, HZ, hO⟩ := hrel
    have HGk := Lib.hid hg
    clear hg
    obtain ⟨Z1, Z2, Z3⟩ := HZ.out
    by_cases hlt : k < n
    · have x1 : (k : Int) < (n : Int) := by omega
      have x0 : (0 : Int) ≤ (k : Int) := by omega
      have d1 := Z1.cell (i := k) (by omega)
      have d2 := Z2.cell (i := k) (by omega)
      have d3 := Z3.cell (i := k) (by rw [xrL_length]; exact hlt)
      have d4 := Z3.free k
      have hx := Bits32.bxor (nth8 X k) (nth8 Y k)
      have o4 := Only.setCell wr ⟨g3, k, none⟩ (.int .u8 (Bits32.b (nth8 X k ^^^ nth8 Y k)))
      have hs := Z3.set k (nth8 X k ^^^ nth8 Y k)
      rw [xrL_set X Y n k hlt] at hs
      have HN : Hid ((Blk8 (wr.setCell ⟨g3, k, none⟩ (.int .u8 (Bits32.b (nth8 X k ^^^ nth8 Y k)))).drew g1 X ∧ Blk8 (wr.setCell ⟨g3, k, none⟩ (.int .u8 (Bits32.b (nth8 X k ^^^ nth8 Y k)))).drew g2 Y ∧ Blk8 (wr.setCell ⟨g3, k, none⟩ (.int .u8 (Bits32.b (nth8 X k ^^^ nth8 Y k)))).drew g3 (xrL X Y n (k + 1))) ∧ Below g3 w5 (wr.setCell ⟨g3, k, none⟩ (.int .u8 (Bits32.b (nth8 X k ^^^ nth8 Y k)))).drew) :=
        ⟨⟨(o4.block g1 (by show g1 ≠ g3; omega)).trans Z1, (o4.block g2 (by show g2 ≠ g3; omega)).trans Z2, hs⟩, (hO.trans (o4.below (Nat.le_refl g3))).drew⟩
      generalize Bits32.b (nth8 X k ^^^ nth8 Y k) = nv at hx HN
      generalize Bits32.b (nth8 X k) = v1 at hx d1
      generalize Bits32.b (nth8 Y k) = v2 at hx d2
      clear Z1 Z2 Z3 HZ o4 hs hO
      go_wp2_with fail
      go_region
      go_wp2_with fail
      go_roundg (n - (k + 1))
      case measure => have := HGk.out; omega
      case rel => exact ⟨k + 1, rfl, by omega, by go_num, HN.out.1, HN.out.2⟩
    · obtain rfl : k = n := by omega
      obtain ⟨EC, C, G, K, B⟩ := HS.out
      rw [HG3.out] at hO
      replace EC := EC.below hO
      replace C := C.below hO
      replace G := G.below hO
      replace K := keepB K hO
      replace B := B.trans (hO.mono B.size)
      have hf3 := xrL_length X Y k k
      have hv3 := xrL_val X Y k hf1 hf2
      generalize xrL X Y k k = XY at Z3 hf3 hv3
      clear HZ hO HS
      obtain ⟨w6, rfl⟩ : ∃ w6, w6 = wr := ⟨_, rfl⟩
      obtain ⟨c0, c1, c2, c3, c4, _⟩ := cd_cells K
      go_wp2_with fail
      clear c0 c1 c2 c3 c4
      refine (fast_any (m := m) ht1 ht40 w6 s C _ k X (blk_pol Z1 hf1.symm (by omega)) hn2).mono ?_
      rintro e w7 ⟨g7, rfl, Z7, b, _⟩
      rw [← HD.out] at Z7 ⊢
      replace EC := EC.below b
      replace C := C.below b
      replace G := G.below b
      replace K := keepB K b
      replace Z1 := keepZ Z1 b
      replace Z2 := keepZ Z2 b
      replace Z3 := keepZ Z3 b
      replace B := B.trans (b.mono B.size)
      clear b
      obtain ⟨c0, c1, c2, c3, c4, _⟩ := cd_cells K
      go_wp2_with fail
      clear c0 c1 c2 c3 c4
      refine (serial_any (m := m) ht1 ht40 w7 s C _ k Y (blk_pol Z2 hf2.symm (by omega)) hn2).mono ?_
      rintro e w8 ⟨g8, rfl, Z8, b, _⟩
      rw [← HD.out] at Z8 ⊢
      replace EC := EC.below b
      replace C := C.below b
      replace G := G.below b
      replace K := keepB K b
      replace Z1 := keepZ Z1 b
      replace Z2 := keepZ Z2 b
      replace Z3 := keepZ Z3 b
      replace Z7 := keepZ Z7 b
      replace B := B.trans (b.mono B.size)
      clear b
      obtain ⟨c0, c1, c2, c3, c4, _⟩ := cd_cells K
      go_wp2_with fail
      clear c0 c1 c2 c3 c4
      refine (fast_any (m := m) ht1 ht40 w8 s C _ k XY (blk_pol Z3 hf3.symm (by omega)) hn2).mono ?_
      rintro e w9 ⟨g9, rfl, Z9, b, _⟩
      rw [← HD.out] at Z9 ⊢
      replace EC := EC.below b
      replace C := C.below b
      replace G := G.below b
      replace K := keepB K b
      replace Z1 := keepZ Z1 b
      replace Z2 := keepZ Z2 b
      replace Z3 := keepZ Z3 b
      replace Z7 := keepZ Z7 b
      replace Z8 := keepZ Z8 b
      replace B := B.trans (b.mono B.size)
      clear b
      obtain ⟨c0, c1, c2, c3, c4, _⟩ := cd_cells K
      go_wp2_with fail
      clear c0 c1 c2 c3 c4
      obtain ⟨P, hP⟩ : ∃ P, P = pb D := ⟨_, rfl⟩
      have HPB := Lib.hid hP
      have hP8 : P ≤ 8 := by rw [hP]; unfold pb; omega
      have hbx : ∀ i, i < P → nth8 (byN (prt (gen m t) D (val X)) P) i ^^^ nth8 (byN (prt (gen m t) D (val Y)) P) i = nth8 (byN (prt (gen m t) D (val XY)) P) i := by
        intro i hi
        rw [hv3, prt_xor HG.out]
        apply BitVec.eq_of_getLsbD_eq
        intro j hj
        rw [BitVec.getLsbD_xor, byN_bit _ _ _ _ hi hj, byN_bit _ _ _ _ hi hj, byN_bit _ _ _ _ hi hj, Nat.testBit_xor]
      have HBX := Lib.hid hbx
      have hl7 := byN_length (prt (gen m t) D (val X)) P
      have hl8 := byN_length (prt (gen m t) D (val Y)) P
      have hl9 := byN_length (prt (gen m t) D (val XY)) P
      rw [← hP] at Z7 Z8 Z9 ⊢
      have HF9 : Hid (byN (prt (gen m t) (deg m t) (val XY)) (pb (deg m t)) = byN (prt (gen m t) D (val XY)) P) := by show _ = _; rw [← HD.out, ← hP]
      generalize byN (prt (gen m t) D (val X)) P = L7 at Z7 HBX hl7
      generalize byN (prt (gen m t) D (val Y)) P = L8 at Z8 HBX hl8
      generalize byN (prt (gen m t) D (val XY)) P = L9 at Z9 HBX hl9 HF9
      clear hP hbx
      refine (rparity_any m t k ga gn gc D (by omega) w9).mono ?_
      rintro e w10 ⟨rfl, b⟩
      rw [← HPB.out]
      replace EC := EC.below b
      replace C := C.below b
      replace G := G.below b
      replace K := keepB K b
      replace Z1 := keepZ Z1 b
      replace Z2 := keepZ Z2 b
      replace Z3 := keepZ Z3 b
      replace Z7 := keepZ Z7 b
      replace Z8 := keepZ Z8 b
      replace Z9 := keepZ Z9 b
      replace B := B.trans (b.mono B.size)
      clear b
      obtain ⟨c0, c1, c2, c3, c4, _⟩ := cd_cells K
      go_wp2_with fail
      clear c0 c1 c2 c3 c4
      have HS : Hid (ErrAt w10 2 yc ∧ CodeAt m t k w10 s ∧ Blk8 w10 g3 XY ∧ Below w.heap.size w w10) := ⟨EC, C, Z3, B⟩
      have HZ : Hid (Blk8 w10 g7 L7 ∧ Blk8 w10 g8 L8 ∧ Blk8 w10 g9 L9) := ⟨Z7, Z8, Z9⟩
      clear EC C G K Z1 Z2 Z3 Z7 Z8 Z9 B
      go_loopg [25] P (fun gh s25 wx => ∃ (i : Nat), gh = P - i ∧ i ≤ P ∧ s25 = .int .i64 (i : Int) ∧ Drawn w10 wx)
      case atStart => exact ⟨0, rfl, Nat.zero_le _, rfl, Drawn.refl _⟩
      case round =>
        obtain ⟨i, hg, hi, rfl, hdr⟩ := hrel
        have HGi := Lib.hid hg
        clear hg
        obtain ⟨Z7, Z8, Z9⟩ := HZ.out
        have b := hdr.below w10.heap.size
        replace Z7 := keepZ Z7 b
        replace Z8 := keepZ Z8 b
        replace Z9 := keepZ Z9 b
        by_cases hlt : i < P
        · have x1 : (i : Int) < (P : Int) := by omega
          have x0 : (0 : Int) ≤ (i : Int) := by omega
          have d1 := Z7.cell (i := i) (by omega)
          have d2 := Z8.cell (i := i) (by omega)
          have d3 := Z9.cell (i := i) (by omega)
          have hx := Bits32.bxor (nth8 L7 i) (nth8 L8 i)
          rw [HBX.out i hlt] at hx
          generalize Bits32.b (nth8 L7 i) = v1 at hx d1
          generalize Bits32.b (nth8 L8 i) = v2 at hx d2
          generalize Bits32.b (nth8 L9 i) = v3 at hx d3
          clear Z7 Z8 Z9 b
          go_wp2_with fail
          go_quiet (fail)
          have hd2 := hdr.trans (Drawn.mk wr nq)
          generalize wr.drewN nq = w11 at hd2 ⊢
          clear d1 d2 d3 hdr
          go_wp2_with fail
          go_roundg (P - (i + 1))
          case measure => have := HGi.out; omega
          case rel => exact ⟨i + 1, rfl, by omega, by go_num, hd2⟩
        · obtain rfl : i = P := by omega
          obtain ⟨EC, C, Z3, B⟩ := HS.out
          replace C := C.below b
          replace Z3 := keepZ Z3 b
          replace B := B.trans (b.mono B.size)
          clear Z7 Z8 b HS HZ hdr
          go_wp2_with fail
          refine (right_any (m := m) ht1 ht40 wr s C _ k XY (blk_pol Z3 hf3.symm (by omega)) hn2 _ i i L9 (blk_pol Z9 hl9.symm (by omega))).mono ?_
          rintro e w12 ⟨rfl, b⟩
          rw [decide_eq_true (show _ = _ from HF9.out)]
          replace B := B.trans (b.mono B.size)
          clear b C Z3 Z9
          go_wp2_with fail
          go_ret
          exact ⟨rfl, B⟩
theorem walk (a0 a1 a2 : Int) (a3 : Option Addr) (len3 cap3 : Nat) (z3 : List Int) (a4 : Option Addr) (len4 cap4 : Nat) (z4 : List Int) (W : World) (w0 : (Lit.int .i64 a0).wf = true) (w1 : (Lit.int .i64 a1).wf = true) (w2 : (Lit.int .i64 a2).wf = true) (w3 : IsRow .u8 W a3 len3 cap3 z3) (w4 : IsRow .u8 W a4 len4 cap4 z4) (h : LaidEncodeLinear.Holds W) :
    Calls Tryd.prog 4 #[.int .i64 a0, .int .i64 a1, .int .i64 a2, .slice a3 len3 cap3, .slice a4 len4 cap4] W fun e w' => e = .returned (.bool true) ∧ Below W.heap.size W w' := by
  obtain ⟨f, ⟨E0, E1, E2, E3⟩, _⟩ := h
  obtain ⟨l, hl⟩ := row_pol w3
  obtain ⟨l', hl'⟩ := row_pol w4
  exact core a0 a1 a2 a3 len3 cap3 l a4 len4 cap4 l' W _ E3 hl hl'
end Go.Proofs.YtnmallpimbpagaaDoor.walkEncodeLinear
