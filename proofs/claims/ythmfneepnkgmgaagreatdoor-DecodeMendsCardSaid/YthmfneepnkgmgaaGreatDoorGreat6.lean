/- Texts of the verifier of shale, laid into one: DecTell, EncRFlip, RefClear, SynAdd, SynPlaces, SynTurn, DecRight, DecNear. -/
import Derived.Test.YthmfneepnkgmgaaGreatDoorGreat1
import Derived.Test.YthmfneepnkgmgaaGreatDoorGreat2
import Derived.Test.YthmfneepnkgmgaaGreatDoorGreat3
import Derived.Test.YthmfneepnkgmgaaGreatDoorGreat4
import Derived.Test.YthmfneepnkgmgaaGreatDoorGreat5
import Derived.Laws.CopyOwn
import Derived.Lib.QuietBelow
import Derived.Deep.Cut
import Derived.Maps.RangeWalk
/- Words that are turned in few places: for the walks of chapter 10. By the verifier of shale. -/
namespace Go.Proofs.YthmfneepnkgmgaaGreatDoor.Dec
open Go Go.RowKit Bin Pl Cos Enc Syn Loc Sea
set_option linter.unusedVariables false
theorem plc_two (p : Nat) : ∀ n, p + 1 < n → plc (2 ^ p ^^^ 2 ^ (p + 1)) n = [p, p + 1]
  | 0, h => by omega
  | n + 1, h => by
    rw [plc_succ]
    by_cases e : p + 1 = n
    · subst e
      have h1 : plc (2 ^ p ^^^ 2 ^ (p + 1)) (p + 1) = [p] := by
        rw [plc_succ]
        have h0 : plc (2 ^ p ^^^ 2 ^ (p + 1)) p = [] := by
          unfold plc
          refine List.filter_eq_nil_iff.2 fun i hi => ?_
          have := List.mem_range.1 hi
          rw [Nat.testBit_xor, Nat.testBit_two_pow, Nat.testBit_two_pow, decide_eq_false (by omega), decide_eq_false (by omega)]
          decide
        rw [h0, Nat.testBit_xor, Nat.testBit_two_pow, Nat.testBit_two_pow, decide_eq_true rfl, decide_eq_false (by omega)]
        rfl
      rw [h1, Nat.testBit_xor, Nat.testBit_two_pow, Nat.testBit_two_pow, decide_eq_true rfl, decide_eq_false (by omega)]
      rfl
    · rw [plc_two p n (by omega), Nat.testBit_xor, Nat.testBit_two_pow, Nat.testBit_two_pow, decide_eq_false (by omega), decide_eq_false (by omega)]
      rfl
theorem pow_lt2 {p N : Nat} (h : p < N) : 2 ^ p < 2 ^ N := Nat.pow_lt_pow_right (by decide) h
theorem pop_turn_lo {e k : Nat} : ∀ n, n ≤ k → pop (e ^^^ 2 ^ k) n = pop e n
  | 0, _ => rfl
  | n + 1, h => by
    rw [pop_succ, pop_succ, pop_turn_lo n (by omega), Nat.testBit_xor, Nat.testBit_two_pow, decide_eq_false (by omega), Bool.xor_false]
theorem pop_turn {e k : Nat} (hb : e.testBit k = false) : ∀ n, k < n → pop (e ^^^ 2 ^ k) n = pop e n + 1
  | 0, h => by omega
  | n + 1, h => by
    rw [pop_succ, pop_succ, Nat.testBit_xor, Nat.testBit_two_pow]
    by_cases hk : k = n
    · subst hk
      rw [pop_turn_lo k (Nat.le_refl _), hb, decide_eq_true rfl]
      rfl
    · rw [pop_turn hb n (by omega), decide_eq_false hk, Bool.xor_false]
      omega
theorem plc_rise (e : Nat) (N : Nat) : (plc e N).Pairwise (· < ·) := List.Pairwise.filter _ List.pairwise_lt_range
/-- the places of a word: below N, turned, rising. -/
theorem plc_facts (e N : Nat) : ∀ j, j < pop e N → (plc e N).getD j 0 < N ∧ e.testBit ((plc e N).getD j 0) = true ∧ ∀ i, i + 1 = j → (plc e N).getD i 0 < (plc e N).getD j 0 := by
  intro j hj
  have hj2 : j < (plc e N).length := hj
  have g : ∀ i (h : i < (plc e N).length), (plc e N).getD i 0 = (plc e N)[i] := fun i h => by rw [List.getD_eq_getElem?_getD, List.getElem?_eq_getElem h]; rfl
  rw [g j hj2]
  have hm := mem_plc.1 (List.getElem_mem hj2)
  refine ⟨hm.1, hm.2, fun i hi => ?_⟩
  rw [g i (by omega)]
  exact List.pairwise_iff_getElem.1 (plc_rise e N) i j (by omega) hj2 (by omega)
section
variable {m : Nat} [M : Pl.Mid m]
/-- a word turned at k. -/
theorem wd_turn {t X Y V e k : Nat} {X1 Y1 : Nat} (hY : Y < 2 ^ deg m t) (h : wrd (deg m t) X Y = wrd (deg m t) V (par m t V) ^^^ e) (h1 : X1 = X ^^^ ed (deg m t) k) (h2 : Y1 = Y ^^^ ep (deg m t) k) : Y1 < 2 ^ deg m t ∧ wrd (deg m t) X1 Y1 = wrd (deg m t) V (par m t V) ^^^ (e ^^^ 2 ^ k) := by
  refine ⟨by rw [h2]; exact Nat.xor_lt_two_pow hY (ep_lt _ k), ?_⟩
  rw [h1, h2, wrd_xor, e_word, h, Nat.xor_assoc]
theorem wd_of {t X Y : Nat} (hY : Y < 2 ^ deg m t) : wd m t X Y = wrd (deg m t) X Y := by
  unfold wd
  rw [Nat.mod_eq_of_lt hY]
end
end Go.Proofs.YthmfneepnkgmgaaGreatDoor.Dec
/- The walk over the reference's Flip. By the verifier of shale. -/
namespace Go.Proofs.YthmfneepnkgmgaaGreatDoor.Enc
open Go Go.RowKit Bin Cos
set_option linter.unusedVariables false
set_option maxRecDepth 100000 in
theorem neq_err (a : Addr) (w : World) : (binOp .neq 35 (errOf a) (errOf a)).run Tryz.prog w = .ok (.bool false) w := by
  obtain ⟨i, hi, hc⟩ := Option.map_eq_some_iff.1 compErr
  obtain ⟨j, hj, _⟩ := Option.map_eq_some_iff.1 sizeErr
  simp only [binOp]
  simp [Op.equal, Op.maxDepth, run_equalIn_iface_ptr_same w 9998 a Tryz.underlying35 Tryz.underlying206 hi hc hj]
section
attribute [local go_sem] Bits32.bxor Bits32.bxor_bit
end
end Go.Proofs.YthmfneepnkgmgaaGreatDoor.Enc
/- The walk over the reference's Clear. By the verifier of shale. -/
namespace Go.Proofs.YthmfneepnkgmgaaGreatDoor.Dec
open Go Go.RowKit Bin Cos Enc
set_option linter.unusedVariables false
theorem bclear (a c : BitVec 8) : bits .andNot .u8 (Bits32.b a) (Bits32.b c) = Bits32.b (a &&& ~~~c) := by
  show IntKind.u8.wrap (Bits32.b (BitVec.ofInt 8 (Bits32.b a) &&& ~~~BitVec.ofInt 8 (Bits32.b c))) = _
  rw [Bits32.ofInt8, Bits32.ofInt8, Bits32.wrap8]
theorem bclear_bit (c : BitVec 8) (k : Nat) : bits .andNot .u8 (Bits32.b c) ((2 : Int) ^ (k % 8) % 256) = Bits32.b (c &&& ~~~BitVec.twoPow 8 (k % 8)) := by rw [Bits32.bit8, bclear]
theorem clear_two : ∀ (c : BitVec 8) (k : Fin 8), c &&& ~~~BitVec.twoPow 8 k.val = if c.getLsbD k.val then c ^^^ BitVec.twoPow 8 k.val else c := by decide +kernel
/-- a bit cleared. -/
theorem val_clear (X : List (BitVec 8)) (i : Nat) (h : i / 8 < X.length) : ∀ j, (val (X.set (i / 8) (nth8 X (i / 8) &&& ~~~BitVec.twoPow 8 (i % 8)))).testBit j = ((val X).testBit j && decide (j ≠ i)) := by
  intro j
  have hc := clear_two (nth8 X (i / 8)) ⟨i % 8, by omega⟩
  have hb := val_bit X i
  simp only at hc
  rw [hc]
  by_cases ht : (nth8 X (i / 8)).getLsbD (i % 8) = true
  · rw [if_pos ht, val_turn X i h, Nat.testBit_xor, Nat.testBit_two_pow]
    by_cases e : i = j
    · subst e
      rw [hb, ht]
      simp
    · have e' : j ≠ i := fun h => e h.symm
      simp [e, e']
  · rw [if_neg ht]
    have e1 : X.set (i / 8) (nth8 X (i / 8)) = X := by
      unfold nth8
      rw [List.getD_eq_getElem?_getD, List.getElem?_eq_getElem h]
      exact List.set_getElem_self h
    rw [e1]
    by_cases e : j = i
    · subst e
      rw [hb]
      simp only [Bool.not_eq_true] at ht
      rw [ht]
      simp
    · simp [e]
theorem bor8 (a c : BitVec 8) : bits .or .u8 (Bits32.b a) (Bits32.b c) = Bits32.b (a ||| c) := by
  show IntKind.u8.wrap (Bits32.b (BitVec.ofInt 8 (Bits32.b a) ||| BitVec.ofInt 8 (Bits32.b c))) = _
  rw [Bits32.ofInt8, Bits32.ofInt8, Bits32.wrap8]
theorem bor_bit (c : BitVec 8) (k : Nat) : bits .or .u8 (Bits32.b c) ((2 : Int) ^ (k % 8) % 256) = Bits32.b (c ||| BitVec.twoPow 8 (k % 8)) := by rw [Bits32.bit8, bor8]
theorem or_two : ∀ (c : BitVec 8) (k : Fin 8), c ||| BitVec.twoPow 8 k.val = if c.getLsbD k.val then c else c ^^^ BitVec.twoPow 8 k.val := by decide +kernel
/-- a bit set: the others stay. -/
theorem val_set_bit (X : List (BitVec 8)) (i : Nat) (h : i / 8 < X.length) (j : Nat) (hj : j ≠ i) : (val (X.set (i / 8) (nth8 X (i / 8) ||| BitVec.twoPow 8 (i % 8)))).testBit j = (val X).testBit j := by
  have hc := or_two (nth8 X (i / 8)) ⟨i % 8, by omega⟩
  simp only at hc
  rw [hc]
  by_cases ht : (nth8 X (i / 8)).getLsbD (i % 8) = true
  · rw [if_pos ht]
    have e1 : X.set (i / 8) (nth8 X (i / 8)) = X := by
      unfold nth8
      rw [List.getD_eq_getElem?_getD, List.getElem?_eq_getElem h]
      exact List.set_getElem_self h
    rw [e1]
  · rw [if_neg ht, val_turn X i h, Nat.testBit_xor, Nat.testBit_two_pow]
    have e' : ¬ i = j := fun h => hj h.symm
    simp [e']
section
attribute [local go_sem] Bits32.bxor bclear bclear_bit
set_option maxRecDepth 100000 in
set_option maxHeartbeats 2000000 in
theorem rclear_any (m t n : Nat) (ga : Option Addr) (gn gc D P : Nat) (hD : D ≤ 1000) (hP : P = pb D) (a : Option Addr) (c : Nat) (Y : List (BitVec 8)) (w : World) (hY : Pol w a P c Y) :
    Calls Tryz.prog 13 #[cdV m t n ga gn gc D, .slice a P c] w fun e w' => ∃ g Y', e = .returned (.slice (some ⟨g, 0, none⟩) P P) ∧ Blk8 w' g Y' ∧ Y'.length = P ∧ val Y' = val Y % 2 ^ D ∧ w.heap.size ≤ g ∧ Below w.heap.size w w' := by
  have hP2 : P = (D + 7) / 8 := hP
  have hYl := Lib.hid hY.hlen
  have HY := Lib.hid hY
  have b0 : Below w.heap.size w (w.alloc (cdO (.int .i64 (m : Int)) (.int .i64 (t : Int)) (.int .i64 (n : Int)) (.slice ga gn gc) (.int .i64 (D : Int)))) := (Below.refl _ _).alloc (Nat.le_refl _) _
  have HPP := Lib.hid hP2
  clear hY hP
  have hP8 : P ≤ 200 := by omega
  have K0 := heap_alloc_new w (cdO (.int .i64 (m : Int)) (.int .i64 (t : Int)) (.int .i64 (n : Int)) (.slice ga gn gc) (.int .i64 (D : Int)))
  obtain ⟨bz, hbz⟩ : ∃ bz, bz = w.heap.size := ⟨_, rfl⟩
  have HBz := Lib.hid hbz
  rw [← hbz] at K0
  clear hP2
  have HA := Lib.hid (And.intro b0 K0)
  clear b0 K0
  go_enter Tryz.func13, Tryz.ntmps13
  go_wp2_with fail
  generalize hw : w.alloc (.cells #[.int .i64 (m : Int), .int .i64 (t : Int), .int .i64 (n : Int), .slice ga gn gc, .int .i64 (D : Int)] 26 (0, 0)) = w2
  obtain ⟨K, b⟩ := newCd w w2 _ _ _ _ _ hw
  clear hw
  rw [← hbz] at K ⊢
  clear hbz
  have HY2 := HY.out.below b
  refine (copy_all a P c Y w2 (fun e => by have h1 := HY2.hnil e; have h2 := HY2.hcap; omega) HY2.hrow HY2.hlen (by omega)).mono ?_
  rintro e w3 ⟨rfl, Z, b2⟩
  have hg : w.heap.size ≤ w2.heap.size := b.size
  have hbg : bz < w2.heap.size := lt_of_block K
  obtain ⟨g, hgg⟩ : ∃ g, g = w2.heap.size := ⟨_, rfl⟩
  rw [← hgg] at Z hg hbg ⊢
  replace K := keepB K b2
  have B := b.trans (b2.mono b.size)
  clear b b2 hgg HY2 HA
  have HI0 : Hid (Blk8 w3 g Y ∧ Y.length = P ∧ (∀ j, (val Y).testBit j = ((val Y).testBit j && (decide (j < D) || decide (D ≤ j)))) ∧ w3.heap[bz]? = some (cdO (.int .i64 (m : Int)) (.int .i64 (t : Int)) (.int .i64 (n : Int)) (.slice ga gn gc) (.int .i64 (D : Int))) ∧ Below w.heap.size w w3) :=
    ⟨Z, hYl.out.symm, fun j => by by_cases h : j < D <;> simp [h] <;> omega, K, B⟩
  obtain ⟨c0, c1, c2, c3, c4, _⟩ := cd_cells K
  clear Z K B
  go_wp2_with fail
  clear c0 c1 c2 c3 c4
  go_loopg [6] (8 * P - D) (fun gh s6 wx => ∃ (i : Nat) (Yi : List (BitVec 8)), gh = 8 * P - i ∧ D ≤ i ∧ i ≤ 8 * P ∧ s6 = .int .i64 (i : Int) ∧ Hid (Blk8 wx g Yi ∧ Yi.length = P ∧ (∀ j, (val Yi).testBit j = ((val Y).testBit j && (decide (j < D) || decide (i ≤ j)))) ∧ wx.heap[bz]? = some (cdO (.int .i64 (m : Int)) (.int .i64 (t : Int)) (.int .i64 (n : Int)) (.slice ga gn gc) (.int .i64 (D : Int))) ∧ Below w.heap.size w wx))
  case atStart => exact ⟨D, Y, rfl, Nat.le_refl _, by have := HPP.out; omega, rfl, HI0⟩
  case round =>
    clear HI0
    obtain ⟨i, Yi, hgh, hDi, hiP, rfl, HI⟩ := hrel
    have HG := Lib.hid hgh
    clear hgh
    by_cases hl : i < 8 * P
    · have x1 : (i : Int) < 8 * (P : Int) := by omega
      have x2 : decide ((i : Int) < 8 * (P : Int)) = true := decide_eq_true x1
      have x3 : i / 8 < P := by omega
      have x4 : (i : Int) / 8 < (P : Int) := by omega
      have x0 : (0 : Int) ≤ (i : Int) := by omega
      have k1 : i ≤ 1600 := by omega
      have HD := Lib.hid (And.intro hDi hl)
      obtain ⟨Z, hlen, hv, K, B⟩ := HI.out
      have d1 := Z.cell (i := i / 8) (by omega)
      have d2 := Z.free (i / 8)
      have hs := Z.set (i / 8) (nth8 Yi (i / 8) &&& ~~~BitVec.twoPow 8 (i % 8))
      have o4 := Only.setCell wr ⟨g, i / 8, none⟩ (.int .u8 (Bits32.b (nth8 Yi (i / 8) &&& ~~~BitVec.twoPow 8 (i % 8))))
      have hc := val_clear Yi i (by omega)
      have HI2 : Hid (Blk8 (wr.setCell ⟨g, i / 8, none⟩ (.int .u8 (Bits32.b (nth8 Yi (i / 8) &&& ~~~BitVec.twoPow 8 (i % 8))))) g (Yi.set (i / 8) (nth8 Yi (i / 8) &&& ~~~BitVec.twoPow 8 (i % 8))) ∧ (Yi.set (i / 8) (nth8 Yi (i / 8) &&& ~~~BitVec.twoPow 8 (i % 8))).length = P ∧ (∀ j, (val (Yi.set (i / 8) (nth8 Yi (i / 8) &&& ~~~BitVec.twoPow 8 (i % 8)))).testBit j = ((val Y).testBit j && (decide (j < D) || decide (i + 1 ≤ j)))) ∧ (wr.setCell ⟨g, i / 8, none⟩ (.int .u8 (Bits32.b (nth8 Yi (i / 8) &&& ~~~BitVec.twoPow 8 (i % 8))))).heap[bz]? = some (cdO (.int .i64 (m : Int)) (.int .i64 (t : Int)) (.int .i64 (n : Int)) (.slice ga gn gc) (.int .i64 (D : Int))) ∧ Below w.heap.size w (wr.setCell ⟨g, i / 8, none⟩ (.int .u8 (Bits32.b (nth8 Yi (i / 8) &&& ~~~BitVec.twoPow 8 (i % 8)))))) :=
        ⟨hs, by rw [List.length_set]; exact hlen, fun j => by
          rw [hc j, hv j, Bool.and_assoc]
          congr 1
          by_cases h1 : j < D
          · have : j ≠ i := by omega
            simp [h1, this]
          · by_cases h2 : i + 1 ≤ j
            · have h3 : i ≤ j := by omega
              have h4 : j ≠ i := by omega
              simp [h2, h3, h4]
            · by_cases h5 : j = i
              · subst h5; simp [h1]
              · have h6 : ¬ i ≤ j := by omega
                simp [h1, h2, h6], (o4.block bz (show bz ≠ g by omega)).trans K, B.trans (o4.below (B := w.heap.size) hg)⟩
      clear Z hlen hv K B hs o4 hc HI hl hDi x3
      go_wp2_with fail
      generalize wr.setCell ⟨g, i / 8, none⟩ (.int .u8 (Bits32.b (nth8 Yi (i / 8) &&& ~~~BitVec.twoPow 8 (i % 8)))) = w9 at HI2 ⊢
      go_roundg (8 * P - (i + 1))
      case measure => have := HG.out; have := HD.out; omega
      case rel => exact ⟨i + 1, _, rfl, Nat.le_succ_of_le HD.out.1, HD.out.2, by go_num, HI2⟩
    · obtain rfl : i = 8 * P := by omega
      have x1 : ¬ ((8 * P : Nat) : Int) < 8 * (P : Int) := by omega
      have x2 : decide (((8 * P : Nat) : Int) < 8 * (P : Int)) = false := decide_eq_false x1
      obtain ⟨Z, hlen, hv, K, B⟩ := HI.out
      have HE : Hid (val Yi = val Y % 2 ^ D) := by
        apply Nat.eq_of_testBit_eq
        intro j
        rw [hv j, Nat.testBit_mod_two_pow]
        by_cases h1 : j < D
        · simp [h1]
        · by_cases h2 : 8 * P ≤ j
          · have h3 : (val Y).testBit j = false := Nat.testBit_lt_two_pow (Nat.lt_of_lt_of_le (val_lt Y) (Nat.pow_le_pow_right (by decide) (by rw [← hYl.out]; exact h2)))
            simp [h1, h3]
          · simp [h1, h2]
      have HE2 := Lib.hid (And.intro Z (And.intro hlen B))
      clear Z hlen hv K B HI
      go_wp2_with fail
      go_ret
      exact ⟨g, rfl, Yi, HE2.out.1, HE2.out.2.1, HE.out, hg, HE2.out.2.2⟩
set_option maxRecDepth 100000 in
set_option maxHeartbeats 2000000 in
theorem rclear_nil (m t n : Nat) (ga : Option Addr) (gn gc D : Nat) (hD : D ≤ 1000) (w : World) :
    Calls Tryz.prog 13 #[cdV m t n ga gn gc D, .slice none 0 0] w fun e w' => ∃ a c, e = .returned (.slice a 0 c) ∧ Below w.heap.size w w' := by
  go_enter Tryz.func13, Tryz.ntmps13
  go_wp2_with fail
  generalize hw : w.alloc (.cells #[.int .i64 (m : Int), .int .i64 (t : Int), .int .i64 (n : Int), .slice ga gn gc, .int .i64 (D : Int)] 26 (0, 0)) = w2
  obtain ⟨K, b⟩ := newCd w w2 _ _ _ _ _ hw
  clear hw
  obtain ⟨bz, hbz⟩ : ∃ bz, bz = w.heap.size := ⟨_, rfl⟩
  rw [← hbz] at K ⊢
  clear hbz
  refine (copy_all none 0 0 [] w2 (fun _ => ⟨rfl, rfl⟩) (Or.inl rfl) rfl (by decide)).mono ?_
  rintro e w3 ⟨rfl, Z, b2⟩
  replace K := keepB K b2
  have B := b.trans (b2.mono b.size)
  clear b b2 Z
  obtain ⟨c0, c1, c2, c3, c4, _⟩ := cd_cells K
  have x1 : ¬ (D : Int) < 0 := by omega
  clear K
  go_wp2_with fail
  go_loopg [6] 0 (fun _ s6 wx => s6 = .int .i64 (D : Int) ∧ w3 = wx)
  case atStart => exact ⟨rfl, rfl⟩
  case round =>
    obtain ⟨rfl, rfl⟩ := hrel
    go_wp2_with fail
    go_ret
    exact ⟨_, _, rfl, B⟩
end
end Go.Proofs.YthmfneepnkgmgaaGreatDoor.Dec
/- The walk over package syndrome's Add. By the verifier of shale. -/
namespace Go.Proofs.YthmfneepnkgmgaaGreatDoor.Syn
open Go Go.RowKit Bin Cos Enc Bits16
set_option linter.unusedVariables false
theorem cells64_one (l : List Int) : ∀ u ∈ cells64 l, u.oneCell' = true := by
  intro u hu
  unfold cells64 at hu
  rw [List.mem_map] at hu
  obtain ⟨x, _, rfl⟩ := hu
  rfl
end Go.Proofs.YthmfneepnkgmgaaGreatDoor.Syn
/- places: the unlike places that a statement of chapter 7 makes of any numbers. By the verifier of shale. -/
namespace Go.Proofs.YthmfneepnkgmgaaGreatDoor.Syn
open Go Go.RowKit Bin Cos Enc Bits16
set_option linter.unusedVariables false
theorem isrow_z {w : World} {a : Option Addr} {len cap : Nat} {zs : List Int} (h : IsRow .i64 w a len cap zs) : RowZ w a len (fun i => zs.getD i 0) ∧ len ≤ maxLen := by
  rcases h with ⟨rfl, rfl, rfl, rfl⟩ | ⟨x, rfl, hl, hm, hz, hc, hw⟩
  · exact ⟨fun i hi => by omega, Nat.zero_le _⟩
  · refine ⟨fun i hi => ?_, by omega⟩
    obtain ⟨bb, off, spot⟩ := x
    have c0 := hc i (by omega)
    obtain rfl : spot = none := by simpa [Addr.add] using World.cell?_spot (hc 0 (by omega))
    rw [add_row] at c0
    exact ⟨bb, off, rfl, c0, World.block_lt_of_cell? w _ c0⟩
theorem rowZ_below {w w' : World} {a : Option Addr} {n : Nat} {z : Nat → Int} (h : RowZ w a n z) (b : Below w.heap.size w w') : RowZ w' a n z := fun i hi => by
  obtain ⟨bb, off, e, c, hb⟩ := h i hi
  exact ⟨bb, off, e, (b.cell (p := ⟨bb, off + i, none⟩) hb).trans c, Nat.lt_of_lt_of_le hb b.size⟩
end Go.Proofs.YthmfneepnkgmgaaGreatDoor.Syn
/- Words with some places turned: for the walk over SyndromeTells. By the verifier of shale. -/
namespace Go.Proofs.YthmfneepnkgmgaaGreatDoor.Syn
open Go Go.RowKit Bin Cos Enc Bits16
set_option linter.unusedVariables false
theorem bf_put {w : World} {g N : Nat} {p : Nat → Bool} (h : BF w g N p) (k : Nat) (b : Bool) : BF (w.setCell ⟨g, k, none⟩ (.bool b)) g N (fun i => if i = k then b else p i) := by
  unfold BF
  rw [heap_setCell_same w g k _ _ _ h]
  congr 2
  apply Array.ext
  · simp
  · intro i h1 h2
    simp at h1 h2
    by_cases e : i = k
    · subst e; simp
    · simp [e, Ne.symm e]
theorem flip_bit (v k q : Nat) : (if q = k then !v.testBit k else v.testBit q) = (v ^^^ 2 ^ k).testBit q := by
  rw [Nat.testBit_xor, Nat.testBit_two_pow]
  by_cases h : q = k
  · subst h; simp
  · have : decide (k = q) = false := decide_eq_false fun e => h e.symm
    rw [this, if_neg h, Bool.xor_false]
/-- a block apart from gb, and from the slice v's own. -/
def Apart7 (gb : Nat) (v : Value) (a : Option Addr) : Prop := ∀ q, a = some q → q.block ≠ gb ∧ v.ownBlock ≠ some q.block
theorem pol_keep {w w' : World} {a : Option Addr} {n c : Nat} {X : List (BitVec 8)} (h : Pol w a n c X) (hk : ∀ q, a = some q → q.block < w.heap.size → w'.heap[q.block]? = w.heap[q.block]?) (hs : w.heap.size ≤ w'.heap.size) : Pol w' a n c X :=
  ⟨h.hlen, h.hcap, h.hmost, h.hnil, by
    rcases h.hrow with h0 | ⟨bb, off, e, hr, hb⟩
    · exact Or.inl h0
    · exact Or.inr ⟨bb, off, e, fun i hi => (World.cell?_of_block (w := w) (a := ⟨bb, off + i, none⟩) (show _ from hk ⟨bb, off, none⟩ e hb)).trans (hr i hi), Nat.lt_of_lt_of_le hb hs⟩⟩
theorem newP_aside {w w' : World} {a : Option Addr} {n c gb : Nat} {X : List (BitVec 8)} {v : Value} (h : NewP w w' a n c X) (hg : gb < w.heap.size) (hv : ∀ g, v.ownBlock = some g → g < w.heap.size) : Apart7 gb v a := by
  intro q hq
  rcases h.own with ⟨h0, _⟩ | ⟨g, h1, h2, _⟩
  · rw [h0] at hq; cases hq
  · rw [h1] at hq
    simp only [Option.some.injEq] at hq
    subst hq
    refine ⟨by show g ≠ gb; omega, fun e => ?_⟩
    have : g < w.heap.size := hv _ e
    omega
section
variable {m : Nat} [M : Pl.Mid m]
end
end Go.Proofs.YthmfneepnkgmgaaGreatDoor.Syn
/- A word whose syndromes are 0 is right: the generator's degree is the count of its zeros. By the verifier of shale. -/
namespace Go.Proofs.YthmfneepnkgmgaaGreatDoor.Dec
open Go Go.RowKit Bin Pl Cos Enc Syn Loc Sea
set_option linter.unusedVariables false
theorem leads_form (m : Nat) : ∀ t f, f ∈ leads m 1 2 t → ∃ k, k < t ∧ f = (1 + 2 * k) % sz m
  | 0, f, h => by simp [leads] at h
  | t + 1, f, h => by
    simp only [leads] at h
    split at h
    · obtain ⟨k, h1, h2⟩ := leads_form m t f h
      exact ⟨k, by omega, h2⟩
    · rcases List.mem_append.1 h with h | h
      · obtain ⟨k, h1, h2⟩ := leads_form m t f h
        exact ⟨k, by omega, h2⟩
      · simp at h
        exact ⟨t, by omega, h⟩
theorem flat_len (m : Nat) : ∀ l, (l.flatMap (cos m)).length = dgs m l
  | [] => rfl
  | f :: t => by rw [List.flatMap_cons, List.length_append, flat_len m t]; rfl
theorem leads_apart {m : Nat} (hm : 3 ≤ m) : ∀ t, ((leads m 1 2 t).flatMap (cos m)).Nodup
  | 0 => List.nodup_nil
  | t + 1 => by
    have hp := sz_lo hm
    simp only [leads]
    split
    · exact leads_apart hm t
    · rename_i h
      have hx : (1 + 2 * t) % sz m < sz m := Nat.mod_lt _ (by omega)
      generalize (1 + 2 * t) % sz m = x at h hx
      rw [List.flatMap_append]
      have e1 : [x].flatMap (cos m) = cos m x := by simp
      rw [e1, List.nodup_append]
      refine ⟨leads_apart hm t, cos_nodup m x, fun a ha b hb e => ?_⟩
      subst e
      obtain ⟨f, hf, hc⟩ := List.mem_flatMap.1 ha
      have hfl := leads_lt hm 1 2 t f hf
      have c1 := cos_same hm hfl hc
      have c2 := cos_same hm hx hb
      apply h
      unfold cov
      refine List.any_eq_true.2 ⟨f, hf, ?_⟩
      rw [List.contains_iff_mem, ← c1, c2]
      exact cos_first hm hx
section
variable {m : Nat} [M : Pl.Mid m]
theorem vv_orb {v f : Nat} (h : vv (m := m) v (Cos.xe m f) = 0) : ∀ j, vv (m := m) v (Cos.xe m (f * 2 ^ j)) = 0
  | 0 => by rw [Nat.pow_zero, Nat.mul_one]; exact h
  | j + 1 => by
    have e : f * 2 ^ (j + 1) = 2 * (f * 2 ^ j) := by rw [Nat.pow_succ, ← Nat.mul_assoc, Nat.mul_comm]
    rw [e, Syn.vv_sq, vv_orb h j, Pl.zero_mul]
theorem vv_root {t v : Nat} (h : ∀ i, i < 2 * t → Sv m v i = 0) {k : Nat} (hk : k ∈ (leads m 1 2 t).flatMap (cos m)) : vv (m := m) v (Cos.xe m k) = 0 := by
  obtain ⟨f, hf, hc⟩ := List.mem_flatMap.1 hk
  obtain ⟨q, hq, rfl⟩ := leads_form m t f hf
  obtain ⟨_, j, _, rfl⟩ := (mem_cos k).1 hc
  unfold orb
  rw [Enc.xe_mod]
  refine vv_orb ?_ j
  rw [Enc.xe_mod]
  have := h (2 * q) (by omega)
  unfold Sv at this
  rw [show 2 * q + 1 = 1 + 2 * q by omega] at this
  exact this
theorem few_zero {t d : Nat} (hd : d < 2 ^ deg m t) (h : ∀ i, i < 2 * t → Sv m d i = 0) : d = 0 := by
  refine Classical.byContradiction fun h0 => ?_
  have hb : d.testBit d.log2 = true := Nat.testBit_log2 h0
  have h1 : d.log2 < deg m t := by
    refine Classical.byContradiction fun hc => ?_
    rw [Nat.testBit_lt_two_pow (Nat.lt_of_lt_of_le hd (Nat.pow_le_pow_right (by decide) (by omega)))] at hb
    cases hb
  have h2 : d < 2 ^ (d.log2 + 1) := Nat.lt_log2_self
  have hg : Dg (bs m d) d.log2 := ⟨by show (if d.testBit d.log2 then (1 : El m) else 0) ≠ 0; rw [hb]; exact Fl.one_ne, bs_bd h2⟩
  have hn : (((leads m 1 2 t).flatMap (cos m)).map (Cos.xe m)).Nodup := by
    have lt : ∀ a, a ∈ (leads m 1 2 t).flatMap (cos m) → a < sz m := fun a ha => by
      obtain ⟨f, _, hc⟩ := List.mem_flatMap.1 ha
      exact ((mem_cos a).1 hc).1
    exact List.pairwise_map.2 (List.Pairwise.imp_of_mem (fun {a b} ha hb hne e => hne (Enc.xe_inj (lt a ha) (lt b hb) e)) (leads_apart M.lo t))
  have := roots_le d.log2 (bs m d) _ hg hn fun a ha => by
    obtain ⟨k, hk, rfl⟩ := List.mem_map.1 ha
    rw [vv_eq h2]
    exact vv_root h hk
  rw [List.length_map, flat_len] at this
  exact absurd h1 (Nat.not_lt.2 this)
/-- a word whose syndromes are 0 is right. -/
theorem right_of {t X Y : Nat} (hY : Y < 2 ^ deg m t) (h : ∀ i, i < 2 * t → Sv m (wrd (deg m t) X Y) i = 0) : Y = par m t X := by
  have e : Y ^^^ par m t X = 0 := few_zero (Nat.xor_lt_two_pow hY (par_lt t X)) fun i hi => by
    have h1 : Y ^^^ par m t X = wrd (deg m t) X Y ^^^ wrd (deg m t) X (par m t X) := by
      rw [← wrd_xor, Nat.xor_self]
      unfold wrd
      rw [Nat.zero_shiftLeft, Nat.zero_xor]
    rw [h1, Sv_xor, h i hi, Sv_right t X i hi, Fl.add_zero]
  have := congrArg (· ^^^ par m t X) e
  try simp only at this
  rwa [Nat.xor_assoc, Nat.xor_self, Nat.xor_zero, Nat.zero_xor] at this
/-- what is mended: a word e away from it, e few. -/
theorem dec_right {t N X Y : Nat} (hN : N ≤ Fld.size m) (ht : t ≤ 40) (hY : Y < 2 ^ deg m t) {l : List Nat} (h : dec m t N (wrd (deg m t) X Y) = some l) :
    ∃ e V, e < 2 ^ N ∧ l = plc e N ∧ pop e N ≤ t ∧ wrd (deg m t) X Y = wrd (deg m t) V (par m t V) ^^^ e := by
  obtain ⟨e, he, hl, hp, hs⟩ := dec_some hN ht h
  have hm : Y ^^^ e % 2 ^ deg m t < 2 ^ deg m t := Nat.xor_lt_two_pow hY (Nat.mod_lt _ (Nat.two_pow_pos _))
  have hw : wrd (deg m t) X Y ^^^ e = wrd (deg m t) (X ^^^ e >>> deg m t) (Y ^^^ e % 2 ^ deg m t) := by
    rw [wrd_xor]
    congr 1
    apply Nat.eq_of_testBit_eq
    intro i
    rw [wrd_bit (Nat.mod_lt _ (Nat.two_pow_pos _))]
    split
    · rename_i hi; rw [Nat.testBit_mod_two_pow]; simp [hi]
    · rename_i hi; rw [Nat.testBit_shiftRight]; congr 1; omega
  have hr := right_of (X := X ^^^ e >>> deg m t) hm fun i hi => by rw [← hw, Sv_xor, hs i hi, Fl.add_self]
  refine ⟨e, X ^^^ e >>> deg m t, he, hl, hp, ?_⟩
  rw [← hr, ← hw, Nat.xor_assoc, Nat.xor_self, Nat.xor_zero]
end
end Go.Proofs.YthmfneepnkgmgaaGreatDoor.Dec
/- How far two words lie apart, in two parts: for the walks of chapter 10. By the verifier of shale. -/
namespace Go.Proofs.YthmfneepnkgmgaaGreatDoor.Dec
open Go Go.RowKit Bin Pl Cos Enc Syn Loc Sea
set_option linter.unusedVariables false
theorem xor_cancel (a b : Nat) : a ^^^ (b ^^^ a) = b := by rw [Nat.xor_comm b a, ← Nat.xor_assoc, Nat.xor_self, Nat.zero_xor]
/-- the word of what two words differ by. -/
theorem apart_word {D n : Nat} {A X B Y : Nat} (hA : A < 2 ^ (8 * n)) (hX : X < 2 ^ (8 * n)) (hB : B < 2 ^ D) (hY : Y < 2 ^ D) :
    wrd D (A ^^^ X) (B ^^^ Y) < 2 ^ (8 * n + D) ∧ pop (wrd D (A ^^^ X) (B ^^^ Y)) (8 * n + D) = pop (A ^^^ X) (8 * n) + pop (B ^^^ Y) (8 * pb D) ∧ wrd D A B = wrd D X Y ^^^ wrd D (A ^^^ X) (B ^^^ Y) := by
  have h1 := Nat.xor_lt_two_pow hA hX
  have h2 := Nat.xor_lt_two_pow hB hY
  refine ⟨wrd_lt h1 h2, ?_, ?_⟩
  · rw [pop_wrd h2, pop_more h2 (b := 8 * pb D) (by unfold pb; omega)]
  · rw [wrd_xor, xor_cancel]
section
variable {m : Nat} [M : Pl.Mid m]
/-- a word that is mended: what was turned, in two parts. -/
theorem dec_parts {t n X Y : Nat} (hN : 8 * n + deg m t ≤ Fld.size m) (ht : t ≤ 40) (hX : X < 2 ^ (8 * n)) (hY : Y < 2 ^ deg m t) {l : List Nat} (h : dec m t (8 * n + deg m t) (wrd (deg m t) X Y) = some l) :
    ∃ e V, e < 2 ^ (8 * n + deg m t) ∧ l = plc e (8 * n + deg m t) ∧ pop e (8 * n + deg m t) ≤ t ∧ wrd (deg m t) X Y = wrd (deg m t) V (par m t V) ^^^ e ∧ V < 2 ^ (8 * n) ∧ pop (X ^^^ V) (8 * n) + pop (Y ^^^ par m t V) (8 * pb (deg m t)) = pop e (8 * n + deg m t) := by
  obtain ⟨e, V, he, hl, hp, hw⟩ := dec_right hN ht hY h
  have hq := par_lt (m := m) t V
  have hV : V < 2 ^ (8 * n) := by
    have h1 : wrd (deg m t) V (par m t V) < 2 ^ (8 * n + deg m t) := by
      have : wrd (deg m t) V (par m t V) = wrd (deg m t) X Y ^^^ e := by rw [hw, Nat.xor_assoc, Nat.xor_self, Nat.xor_zero]
      rw [this]
      exact Nat.xor_lt_two_pow (wrd_lt hX hY) he
    have h2 := shr_wrd (X := V) hq
    rw [← h2, Nat.shiftRight_eq_div_pow]
    rw [Nat.pow_add] at h1
    exact Nat.div_lt_of_lt_mul (by rw [Nat.mul_comm]; exact h1)
  obtain ⟨a1, a2, a3⟩ := apart_word (n := n) hX hV hY hq
  have e2 : wrd (deg m t) (X ^^^ V) (Y ^^^ par m t V) = e := by
    have := a3.symm.trans hw
    have h3 := congrArg (wrd (deg m t) V (par m t V) ^^^ ·) this
    try simp only at h3
    rwa [← Nat.xor_assoc, Nat.xor_self, Nat.zero_xor, ← Nat.xor_assoc, Nat.xor_self, Nat.zero_xor] at h3
  exact ⟨e, V, he, hl, hp, hw, hV, by rw [← a2, e2]⟩
/-- the one right word that is near. -/
theorem near_one {t N A V X e e' : Nat} {l : List Nat} (hN : N ≤ Fld.size m) (ht : t ≤ 40) (he : e < 2 ^ N) (he' : e' < 2 ^ N) (hp : pop e N ≤ t) (h : A = wrd (deg m t) X (par m t X) ^^^ e) (h' : A = wrd (deg m t) V (par m t V) ^^^ e') (hd : dec m t N A = some l) (hl : l = plc e' N) : V = X ∧ e' = e := by
  have h1 := dec_near (m := m) (X := X) hN ht he hp
  rw [← h, hd, hl] at h1
  have h2 : plc e' N = plc e N := by injection h1
  have h3 : e' = e := by
    have := congrArg xs h2
    rwa [xs_plc, xs_plc, Nat.mod_eq_of_lt he, Nat.mod_eq_of_lt he'] at this
  refine ⟨?_, h3⟩
  rw [h3] at h'
  have h4 := congrArg (· ^^^ e) (h'.symm.trans h)
  try simp only at h4
  rw [Nat.xor_assoc, Nat.xor_assoc, Nat.xor_self, Nat.xor_zero, Nat.xor_zero] at h4
  have h5 := congrArg (· >>> deg m t) h4
  try simp only at h5
  rwa [shr_wrd (par_lt t V), shr_wrd (par_lt t X)] at h5
end
end Go.Proofs.YthmfneepnkgmgaaGreatDoor.Dec
