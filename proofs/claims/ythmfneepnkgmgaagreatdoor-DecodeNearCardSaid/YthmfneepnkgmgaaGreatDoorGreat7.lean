/- Texts of the verifier of shale, laid into one: RefClear, EncRFlip2, SynAdd, SynLaw, SynRef, SynRef2, SynRef3, SynRef4, RefDecode, SynBad, DecLong, DecRight, DecNear, DecDist, EncBad, SynPlaces. -/
import Derived.Test.YthmfneepnkgmgaaGreatDoorGreat1
import Derived.Test.YthmfneepnkgmgaaGreatDoorGreat2
import Derived.Test.YthmfneepnkgmgaaGreatDoorGreat3
import Derived.Test.YthmfneepnkgmgaaGreatDoorGreat4
import Derived.Test.YthmfneepnkgmgaaGreatDoorGreat5
import Derived.Test.YthmfneepnkgmgaaGreatDoorGreat6
import Derived.Laws.CopyOwn
import Derived.Deep.Cut
import Derived.Lib.QuietBelow
import Derived.StillTailTactics
import Derived.LoopN
/- The walk over the reference's Clear. By the verifier of shale. -/
namespace Go.Proofs.YthmfneepnkgmgaaGreatDoor.Dec
open Go Go.RowKit Bin Cos Enc
set_option linter.unusedVariables false
theorem bclear (a c : BitVec 8) : bits .andNot .u8 (Bits32.b a) (Bits32.b c) = Bits32.b (a &&& ~~~c) := by
  show IntKind.u8.wrap (Bits32.b (BitVec.ofInt 8 (Bits32.b a) &&& ~~~BitVec.ofInt 8 (Bits32.b c))) = _
  rw [Bits32.ofInt8, Bits32.ofInt8, Bits32.wrap8]
theorem bclear_bit (c : BitVec 8) (k : Nat) : bits .andNot .u8 (Bits32.b c) ((2 : Int) ^ (k % 8) % 256) = Bits32.b (c &&& ~~~BitVec.twoPow 8 (k % 8)) := by rw [Bits32.bit8, bclear]
theorem clear_two : ∀ (c : BitVec 8) (k : Fin 8), c &&& ~~~BitVec.twoPow 8 k.val = if c.getLsbD k.val then c ^^^ BitVec.twoPow 8 k.val else c := by decide +kernel
/-- a bit cleared. -/
theorem val_clear (X : List (BitVec 8)) (i : Nat) (h : i / 8 < X.length) : ∀ j, (val (X.set (i / 8) (nth8 X (i / 8) &&& ~~~BitVec.twoPow 8 (i % 8)))).testBit j = ((val X).testBit j && decide (j ≠ i)) := by
  intro j
  have hc := clear_two (nth8 X (i / 8)) ⟨i % 8, by omega⟩
  have hb := val_bit X i
  simp only at hc
  rw [hc]
  by_cases ht : (nth8 X (i / 8)).getLsbD (i % 8) = true
  · rw [if_pos ht, val_turn X i h, Nat.testBit_xor, Nat.testBit_two_pow]
    by_cases e : i = j
    · subst e
      rw [hb, ht]
      simp
    · have e' : j ≠ i := fun h => e h.symm
      simp [e, e']
  · rw [if_neg ht]
    have e1 : X.set (i / 8) (nth8 X (i / 8)) = X := by
      unfold nth8
      rw [List.getD_eq_getElem?_getD, List.getElem?_eq_getElem h]
      exact List.set_getElem_self h
    rw [e1]
    by_cases e : j = i
    · subst e
      rw [hb]
      simp only [Bool.not_eq_true] at ht
      rw [ht]
      simp
    · simp [e]
theorem bor8 (a c : BitVec 8) : bits .or .u8 (Bits32.b a) (Bits32.b c) = Bits32.b (a ||| c) := by
  show IntKind.u8.wrap (Bits32.b (BitVec.ofInt 8 (Bits32.b a) ||| BitVec.ofInt 8 (Bits32.b c))) = _
  rw [Bits32.ofInt8, Bits32.ofInt8, Bits32.wrap8]
theorem bor_bit (c : BitVec 8) (k : Nat) : bits .or .u8 (Bits32.b c) ((2 : Int) ^ (k % 8) % 256) = Bits32.b (c ||| BitVec.twoPow 8 (k % 8)) := by rw [Bits32.bit8, bor8]
theorem or_two : ∀ (c : BitVec 8) (k : Fin 8), c ||| BitVec.twoPow 8 k.val = if c.getLsbD k.val then c else c ^^^ BitVec.twoPow 8 k.val := by decide +kernel
section
attribute [local go_sem] Bits32.bxor bclear bclear_bit
set_option maxRecDepth 100000 in
set_option maxHeartbeats 2000000 in
theorem rclear_any (m t n : Nat) (ga : Option Addr) (gn gc D P : Nat) (hD : D ≤ 1000) (hP : P = pb D) (a : Option Addr) (c : Nat) (Y : List (BitVec 8)) (w : World) (hY : Pol w a P c Y) :
    Calls Tryz.prog 13 #[cdV m t n ga gn gc D, .slice a P c] w fun e w' => ∃ g Y', e = .returned (.slice (some ⟨g, 0, none⟩) P P) ∧ Blk8 w' g Y' ∧ Y'.length = P ∧ val Y' = val Y % 2 ^ D ∧ w.heap.size ≤ g ∧ Below w.heap.size w w' := by
  have hP2 : P = (D + 7) / 8 := hP
  have hYl := Lib.hid hY.hlen
  have HY := Lib.hid hY
  have b0 : Below w.heap.size w (w.alloc (cdO (.int .i64 (m : Int)) (.int .i64 (t : Int)) (.int .i64 (n : Int)) (.slice ga gn gc) (.int .i64 (D : Int)))) := (Below.refl _ _).alloc (Nat.le_refl _) _
  have HPP := Lib.hid hP2
  clear hY hP
  have hP8 : P ≤ 200 := by omega
  have K0 := heap_alloc_new w (cdO (.int .i64 (m : Int)) (.int .i64 (t : Int)) (.int .i64 (n : Int)) (.slice ga gn gc) (.int .i64 (D : Int)))
  obtain ⟨bz, hbz⟩ : ∃ bz, bz = w.heap.size := ⟨_, rfl⟩
  have HBz := Lib.hid hbz
  rw [← hbz] at K0
  clear hP2
  have HA := Lib.hid (And.intro b0 K0)
  clear b0 K0
  go_enter Tryz.func13, Tryz.ntmps13
  go_wp2_with fail
  generalize hw : w.alloc (.cells #[.int .i64 (m : Int), .int .i64 (t : Int), .int .i64 (n : Int), .slice ga gn gc, .int .i64 (D : Int)] 26 (0, 0)) = w2
  obtain ⟨K, b⟩ := newCd w w2 _ _ _ _ _ hw
  clear hw
  rw [← hbz] at K ⊢
  clear hbz
  have HY2 := HY.out.below b
  refine (copy_all a P c Y w2 (fun e => by have h1 := HY2.hnil e; have h2 := HY2.hcap; omega) HY2.hrow HY2.hlen (by omega)).mono ?_
  rintro e w3 ⟨rfl, Z, b2⟩
  have hg : w.heap.size ≤ w2.heap.size := b.size
  have hbg : bz < w2.heap.size := lt_of_block K
  obtain ⟨g, hgg⟩ : ∃ g, g = w2.heap.size := ⟨_, rfl⟩
  rw [← hgg] at Z hg hbg ⊢
  replace K := keepB K b2
  have B := b.trans (b2.mono b.size)
  clear b b2 hgg HY2 HA
  have HI0 : Hid (Blk8 w3 g Y ∧ Y.length = P ∧ (∀ j, (val Y).testBit j = ((val Y).testBit j && (decide (j < D) || decide (D ≤ j)))) ∧ w3.heap[bz]? = some (cdO (.int .i64 (m : Int)) (.int .i64 (t : Int)) (.int .i64 (n : Int)) (.slice ga gn gc) (.int .i64 (D : Int))) ∧ Below w.heap.size w w3) :=
    ⟨Z, hYl.out.symm, fun j => by by_cases h : j < D <;> simp [h] <;> omega, K, B⟩
  obtain ⟨c0, c1, c2, c3, c4, _⟩ := cd_cells K
  clear Z K B
  go_wp2_with fail
  clear c0 c1 c2 c3 c4
  go_loopg [6] (8 * P - D) (fun gh s6 wx => ∃ (i : Nat) (Yi : List (BitVec 8)), gh = 8 * P - i ∧ D ≤ i ∧ i ≤ 8 * P ∧ s6 = .int .i64 (i : Int) ∧ Hid (Blk8 wx g Yi ∧ Yi.length = P ∧ (∀ j, (val Yi).testBit j = ((val Y).testBit j && (decide (j < D) || decide (i ≤ j)))) ∧ wx.heap[bz]? = some (cdO (.int .i64 (m : Int)) (.int .i64 (t : Int)) (.int .i64 (n : Int)) (.slice ga gn gc) (.int .i64 (D : Int))) ∧ Below w.heap.size w wx))
  case atStart => exact ⟨D, Y, rfl, Nat.le_refl _, by have := HPP.out; omega, rfl, HI0⟩
  case round =>
    clear HI0
    obtain ⟨i, Yi, hgh, hDi, hiP, rfl, HI⟩ := hrel
    have HG := Lib.hid hgh
    clear hgh
    by_cases hl : i < 8 * P
    · have x1 : (i : Int) < 8 * (P : Int) := by omega
      have x2 : decide ((i : Int) < 8 * (P : Int)) = true := decide_eq_true x1
      have x3 : i / 8 < P := by omega
      have x4 : (i : Int) / 8 < (P : Int) := by omega
      have x0 : (0 : Int) ≤ (i : Int) := by omega
      have k1 : i ≤ 1600 := by omega
      have HD := Lib.hid (And.intro hDi hl)
      obtain ⟨Z, hlen, hv, K, B⟩ := HI.out
      have d1 := Z.cell (i := i / 8) (by omega)
      have d2 := Z.free (i / 8)
      have hs := Z.set (i / 8) (nth8 Yi (i / 8) &&& ~~~BitVec.twoPow 8 (i % 8))
      have o4 := Only.setCell wr ⟨g, i / 8, none⟩ (.int .u8 (Bits32.b (nth8 Yi (i / 8) &&& ~~~BitVec.twoPow 8 (i % 8))))
      have hc := val_clear Yi i (by omega)
      have HI2 : Hid (Blk8 (wr.setCell ⟨g, i / 8, none⟩ (.int .u8 (Bits32.b (nth8 Yi (i / 8) &&& ~~~BitVec.twoPow 8 (i % 8))))) g (Yi.set (i / 8) (nth8 Yi (i / 8) &&& ~~~BitVec.twoPow 8 (i % 8))) ∧ (Yi.set (i / 8) (nth8 Yi (i / 8) &&& ~~~BitVec.twoPow 8 (i % 8))).length = P ∧ (∀ j, (val (Yi.set (i / 8) (nth8 Yi (i / 8) &&& ~~~BitVec.twoPow 8 (i % 8)))).testBit j = ((val Y).testBit j && (decide (j < D) || decide (i + 1 ≤ j)))) ∧ (wr.setCell ⟨g, i / 8, none⟩ (.int .u8 (Bits32.b (nth8 Yi (i / 8) &&& ~~~BitVec.twoPow 8 (i % 8))))).heap[bz]? = some (cdO (.int .i64 (m : Int)) (.int .i64 (t : Int)) (.int .i64 (n : Int)) (.slice ga gn gc) (.int .i64 (D : Int))) ∧ Below w.heap.size w (wr.setCell ⟨g, i / 8, none⟩ (.int .u8 (Bits32.b (nth8 Yi (i / 8) &&& ~~~BitVec.twoPow 8 (i % 8)))))) :=
        ⟨hs, by rw [List.length_set]; exact hlen, fun j => by
          rw [hc j, hv j, Bool.and_assoc]
          congr 1
          by_cases h1 : j < D
          · have : j ≠ i := by omega
            simp [h1, this]
          · by_cases h2 : i + 1 ≤ j
            · have h3 : i ≤ j := by omega
              have h4 : j ≠ i := by omega
              simp [h2, h3, h4]
            · by_cases h5 : j = i
              · subst h5; simp [h1]
              · have h6 : ¬ i ≤ j := by omega
                simp [h1, h2, h6], (o4.block bz (show bz ≠ g by omega)).trans K, B.trans (o4.below (B := w.heap.size) hg)⟩
      clear Z hlen hv K B hs o4 hc HI hl hDi x3
      go_wp2_with fail
      generalize wr.setCell ⟨g, i / 8, none⟩ (.int .u8 (Bits32.b (nth8 Yi (i / 8) &&& ~~~BitVec.twoPow 8 (i % 8)))) = w9 at HI2 ⊢
      go_roundg (8 * P - (i + 1))
      case measure => have := HG.out; have := HD.out; omega
      case rel => exact ⟨i + 1, _, rfl, Nat.le_succ_of_le HD.out.1, HD.out.2, by go_num, HI2⟩
    · obtain rfl : i = 8 * P := by omega
      have x1 : ¬ ((8 * P : Nat) : Int) < 8 * (P : Int) := by omega
      have x2 : decide (((8 * P : Nat) : Int) < 8 * (P : Int)) = false := decide_eq_false x1
      obtain ⟨Z, hlen, hv, K, B⟩ := HI.out
      have HE : Hid (val Yi = val Y % 2 ^ D) := by
        apply Nat.eq_of_testBit_eq
        intro j
        rw [hv j, Nat.testBit_mod_two_pow]
        by_cases h1 : j < D
        · simp [h1]
        · by_cases h2 : 8 * P ≤ j
          · have h3 : (val Y).testBit j = false := Nat.testBit_lt_two_pow (Nat.lt_of_lt_of_le (val_lt Y) (Nat.pow_le_pow_right (by decide) (by rw [← hYl.out]; exact h2)))
            simp [h1, h3]
          · simp [h1, h2]
      have HE2 := Lib.hid (And.intro Z (And.intro hlen B))
      clear Z hlen hv K B HI
      go_wp2_with fail
      go_ret
      exact ⟨g, rfl, Yi, HE2.out.1, HE2.out.2.1, HE.out, hg, HE2.out.2.2⟩
end
end Go.Proofs.YthmfneepnkgmgaaGreatDoor.Dec
/- The reference's Flip, what it leaves alone besides. By the verifier of shale. -/
namespace Go.Proofs.YthmfneepnkgmgaaGreatDoor.Enc
open Go Go.RowKit Bin Cos
set_option linter.unusedVariables false
/-- as RFlipAt, and all other blocks stay. -/
def RFlipAp (n P D k gd gp base vx vy : Nat) (w : World) (e : Ending) (w' : World) : Prop := e = .returned (.tuple #[]) ∧ ∃ X' Y', X'.length = n ∧ Y'.length = P ∧ val X' = vx ^^^ ed D k ∧ val Y' = vy ^^^ ep D k ∧ Blk8 w' gd X' ∧ Blk8 w' gp Y' ∧ Below base w w' ∧ ∀ g, g ≠ gd → g ≠ gp → g < w.heap.size → w'.heap[g]? = w.heap[g]?
section
attribute [local go_sem] Bits32.bxor Bits32.bxor_bit
set_option maxRecDepth 100000 in
set_option maxHeartbeats 2000000 in
theorem rflip_apart (m t n : Nat) (ga : Option Addr) (gn gc D P : Nat) (hD : D ≤ 1000) (hP : P = pb D) (gd gp : Nat) (X Y : List (BitVec 8)) (k : Nat) (hk : k < 8 * n + D) (hn : n ≤ 2048) (w : World) (hX : Blk8 w gd X) (hY : Blk8 w gp Y) (hXl : X.length = n) (hYl : Y.length = P) (hne : gd ≠ gp) (base : Nat) (h1 : base ≤ gd) (h2 : base ≤ gp) :
    Calls Tryz.prog 43 #[cdV m t n ga gn gc D, .slice (some ⟨gd, 0, none⟩) n n, .slice (some ⟨gp, 0, none⟩) P P, .int .i64 (k : Int)] w (RFlipAp n P D k gd gp base (val X) (val Y) w) := by
  have hP2 : P = (D + 7) / 8 := hP
  have hPP := Lib.hid hP2
  have hl1 := hX.lt
  have hl2 := hY.lt
  clear hP hP2
  by_cases hkD : k < D
  · have tD : (k : Int) < (D : Int) := by omega
    have hi : k / 8 < P := by have := hPP.out; omega
    have x1 : (k : Int) / 8 < (P : Int) := by omega
    have x0 : (0 : Int) ≤ (k : Int) := by omega
    have k1 : k ≤ 1000 := by omega
    have d1 := hY.cell (i := k / 8) (by omega)
    have d2 := hY.free (k / 8)
    have hs := hY.set (k / 8) (nth8 Y (k / 8) ^^^ BitVec.twoPow 8 (k % 8))
    have o4 := Only.setCell w ⟨gp, k / 8, none⟩ (.int .u8 (Bits32.b (nth8 Y (k / 8) ^^^ BitVec.twoPow 8 (k % 8))))
    have hv := val_turn Y k (by omega)
    have ho : Blk8 (w.setCell ⟨gp, k / 8, none⟩ (.int .u8 (Bits32.b (nth8 Y (k / 8) ^^^ BitVec.twoPow 8 (k % 8))))) gd X := (o4.block gd hne).trans hX
    have bb : Below base w (w.setCell ⟨gp, k / 8, none⟩ (.int .u8 (Bits32.b (nth8 Y (k / 8) ^^^ BitVec.twoPow 8 (k % 8))))) := o4.below (B := base) h2
    have b4 : Below (World.heap (w.setCell ⟨gp, k / 8, none⟩ (.int .u8 (Bits32.b (nth8 Y (k / 8) ^^^ BitVec.twoPow 8 (k % 8)))))).size (w.setCell ⟨gp, k / 8, none⟩ (.int .u8 (Bits32.b (nth8 Y (k / 8) ^^^ BitVec.twoPow 8 (k % 8))))) (World.alloc (w.setCell ⟨gp, k / 8, none⟩ (.int .u8 (Bits32.b (nth8 Y (k / 8) ^^^ BitVec.twoPow 8 (k % 8))))) (.cells #[.int .i64 (m : Int), .int .i64 (t : Int), .int .i64 (n : Int), .slice ga gn gc, .int .i64 (D : Int)] 26 (0, 0))) := (Below.refl _ _).alloc (Nat.le_refl _) _
    have hq : ∀ g, g ≠ gd → g ≠ gp → g < w.heap.size → (World.heap (World.alloc (w.setCell ⟨gp, k / 8, none⟩ (.int .u8 (Bits32.b (nth8 Y (k / 8) ^^^ BitVec.twoPow 8 (k % 8))))) (.cells #[.int .i64 (m : Int), .int .i64 (t : Int), .int .i64 (n : Int), .slice ga gn gc, .int .i64 (D : Int)] 26 (0, 0))))[g]? = w.heap[g]? := fun g h1 h2 h3 => (b4.block g (by rw [o4.size]; exact h3)).trans (o4.block g h2)
    have HE := Lib.hid (And.intro (keepZ hs b4) (And.intro (keepZ ho b4) (And.intro (bb.trans (b4.mono (by rw [o4.size]; omega))) hq)))
    have HV := Lib.hid hv
    clear hX hY hs o4 hv ho bb b4 hq
    go_enter Tryz.func43, Tryz.ntmps43
    go_wp2_with fail
    go_end0
    exact ⟨rfl, X, Y.set (k / 8) (nth8 Y (k / 8) ^^^ BitVec.twoPow 8 (k % 8)), hXl, by rw [List.length_set]; exact hYl, by unfold ed; rw [if_pos hkD, Nat.xor_zero], by unfold ep; rw [if_pos hkD]; exact HV.out, HE.out.2.1, HE.out.1, HE.out.2.2⟩
  · have tD : ¬ (k : Int) < (D : Int) := by omega
    obtain ⟨j, hj⟩ : ∃ j, j = k - D := ⟨_, rfl⟩
    have ej : (k : Int) - (D : Int) = (j : Int) := by omega
    have hi : j / 8 < n := by omega
    have x1 : (j : Int) / 8 < (n : Int) := by omega
    have x0 : (0 : Int) ≤ (j : Int) := by omega
    have xj : j ≤ 20000 := by omega
    have HJ := Lib.hid hj
    clear hj
    have d1 := hX.cell (i := j / 8) (by omega)
    have d2 := hX.free (j / 8)
    have hs := hX.set (j / 8) (nth8 X (j / 8) ^^^ BitVec.twoPow 8 (j % 8))
    have o4 := Only.setCell w ⟨gd, j / 8, none⟩ (.int .u8 (Bits32.b (nth8 X (j / 8) ^^^ BitVec.twoPow 8 (j % 8))))
    have hv := val_turn X j (by omega)
    have ho : Blk8 (w.setCell ⟨gd, j / 8, none⟩ (.int .u8 (Bits32.b (nth8 X (j / 8) ^^^ BitVec.twoPow 8 (j % 8))))) gp Y := (o4.block gp (Ne.symm hne)).trans hY
    have bb : Below base w (w.setCell ⟨gd, j / 8, none⟩ (.int .u8 (Bits32.b (nth8 X (j / 8) ^^^ BitVec.twoPow 8 (j % 8))))) := o4.below (B := base) h1
    have b4 : Below (World.heap (w.setCell ⟨gd, j / 8, none⟩ (.int .u8 (Bits32.b (nth8 X (j / 8) ^^^ BitVec.twoPow 8 (j % 8)))))).size (w.setCell ⟨gd, j / 8, none⟩ (.int .u8 (Bits32.b (nth8 X (j / 8) ^^^ BitVec.twoPow 8 (j % 8))))) (World.alloc (w.setCell ⟨gd, j / 8, none⟩ (.int .u8 (Bits32.b (nth8 X (j / 8) ^^^ BitVec.twoPow 8 (j % 8))))) (.cells #[.int .i64 (m : Int), .int .i64 (t : Int), .int .i64 (n : Int), .slice ga gn gc, .int .i64 (D : Int)] 26 (0, 0))) := (Below.refl _ _).alloc (Nat.le_refl _) _
    have hq : ∀ g, g ≠ gd → g ≠ gp → g < w.heap.size → (World.heap (World.alloc (w.setCell ⟨gd, j / 8, none⟩ (.int .u8 (Bits32.b (nth8 X (j / 8) ^^^ BitVec.twoPow 8 (j % 8))))) (.cells #[.int .i64 (m : Int), .int .i64 (t : Int), .int .i64 (n : Int), .slice ga gn gc, .int .i64 (D : Int)] 26 (0, 0))))[g]? = w.heap[g]? := fun g h1 h2 h3 => (b4.block g (by rw [o4.size]; exact h3)).trans (o4.block g h1)
    have HE := Lib.hid (And.intro (keepZ hs b4) (And.intro (keepZ ho b4) (And.intro (bb.trans (b4.mono (by rw [o4.size]; omega))) hq)))
    have HV := Lib.hid hv
    clear hX hY hs o4 hv ho bb b4 hq
    go_enter Tryz.func43, Tryz.ntmps43
    go_wp2_with fail
    go_end0
    exact ⟨rfl, X.set (j / 8) (nth8 X (j / 8) ^^^ BitVec.twoPow 8 (j % 8)), Y, by rw [List.length_set]; exact hXl, hYl, by unfold ed; rw [if_neg hkD, ← HJ.out]; exact HV.out, by unfold ep; rw [if_neg hkD, Nat.xor_zero], HE.out.1, HE.out.2.1, HE.out.2.2⟩
end
end Go.Proofs.YthmfneepnkgmgaaGreatDoor.Enc
/- The walk over package syndrome's Add. By the verifier of shale. -/
namespace Go.Proofs.YthmfneepnkgmgaaGreatDoor.Syn
open Go Go.RowKit Bin Cos Enc Bits16
set_option linter.unusedVariables false
theorem cells64_one (l : List Int) : ∀ u ∈ cells64 l, u.oneCell' = true := by
  intro u hu
  unfold cells64 at hu
  rw [List.mem_map] at hu
  obtain ⟨x, _, rfl⟩ := hu
  rfl
end Go.Proofs.YthmfneepnkgmgaaGreatDoor.Syn
/- Small words for the walks of stage 7's statements. By the verifier of shale. -/
namespace Go.Proofs.YthmfneepnkgmgaaGreatDoor.Syn
open Go Go.RowKit Bin Cos Enc Bits16
set_option linter.unusedVariables false
theorem hxor64 (a c : BitVec 16) : bits .xor .i64 (h a) (h c) = h (a ^^^ c) := by
  show IntKind.i64.wrap ((BitVec.ofInt 64 (h a) ^^^ BitVec.ofInt 64 (h c)).toNat : Int) = _
  have ha := a.isLt
  have hc := c.isLt
  have hx : a.toNat ^^^ c.toNat < 2 ^ 16 := Nat.xor_lt_two_pow ha hc
  have e1 : (BitVec.ofInt 64 (h a)).toNat = a.toNat := by unfold h; rw [BitVec.toNat_ofInt]; omega
  have e2 : (BitVec.ofInt 64 (h c)).toNat = c.toNat := by unfold h; rw [BitVec.toNat_ofInt]; omega
  rw [BitVec.toNat_xor, e1, e2]
  have e3 : h (a ^^^ c) = ((a.toNat ^^^ c.toNat : Nat) : Int) := by unfold h; rw [BitVec.toNat_xor]
  rw [e3]
  exact IntWalk.i64_in _ (by omega)
section
variable {m : Nat} [M : Pl.Mid m]
end
end Go.Proofs.YthmfneepnkgmgaaGreatDoor.Syn
/- The reference's Clean, Fits, Of, Coefficient. By the verifier of shale. -/
namespace Go.Proofs.YthmfneepnkgmgaaGreatDoor.Syn
open Go Go.RowKit Bin Cos Enc Bits16
set_option linter.unusedVariables false
section
variable {m : Nat} [M : Pl.Mid m]
/-- Horner's step. -/
theorem sv_shift (v k j : Nat) : sv m (v >>> k) j = Fld.fmul m (sv m (v >>> (k + 1)) j) (Fld.pwZ m (j : Int)) ^^^ (if v.testBit k then 1 else 0) := by
  have e : v >>> k = pm (v >>> (k + 1)) 2 ^^^ (if v.testBit k then 1 else 0) := by
    rw [show pm (v >>> (k + 1)) 2 = (v >>> (k + 1)) <<< 1 from by rw [pm_step, show 2 / 2 = 1 by decide, pm_one, Nat.shiftLeft_eq]; simp; omega]
    apply Nat.eq_of_testBit_eq
    intro i
    rw [Nat.testBit_xor, Nat.testBit_shiftRight, Nat.testBit_shiftLeft, Nat.testBit_shiftRight]
    rcases i with _ | i
    · simp
      cases v.testBit k <;> rfl
    · have : (if v.testBit k then (1 : Nat) else 0).testBit (i + 1) = false := by
        split
        · exact Nat.testBit_lt_two_pow (by have := Nat.one_lt_two_pow (n := i + 1) (by omega); omega)
        · exact Nat.zero_testBit _
      rw [this]
      simp [show k + 1 + i = k + (i + 1) by omega]
  rw [e, sv_xor]
  congr 1
  · unfold sv
    rw [vv_pm]
    have h2 : vv (m := m) 2 (xe m j) = xe m j := by
      have := vv_plc (m := m) (v := 2) (n := 2) (by decide) j
      rw [this]
      show sumE (([1] : List Nat).map fun p => xe m (j * p)) = _
      show xe m (j * 1) + 0 = _
      rw [Pl.Fl.add_zero, Nat.mul_one]
    rw [h2]; rfl
  · split
    · have h := sv_pow (m := m) 0 j
      rw [Nat.zero_mul, Nat.pow_zero] at h
      rw [h]
      exact congrArg Subtype.val (Enc.xe_zero (m := m))
    · rfl
end
end Go.Proofs.YthmfneepnkgmgaaGreatDoor.Syn
/- The reference's Clean, Fits, Coefficient. By the verifier of shale. -/
namespace Go.Proofs.YthmfneepnkgmgaaGreatDoor.Syn
open Go Go.RowKit Bin Cos Enc Bits16
set_option linter.unusedVariables false
set_option maxRecDepth 100000 in
set_option maxHeartbeats 1000000 in
theorem rclean_any (a : Option Addr) (n c : Nat) (z : Nat → Int) (w : World) (hR : RowZ w a n z) (hn : n ≤ 100000) :
    Calls Tryz.prog 40 #[.slice a n c] w fun e w' => e = .returned (.bool (decide (∀ i, i < n → z i = 0))) ∧ w = w' := by
  have HR := Lib.hid hR
  obtain ⟨b, hb⟩ : ∃ b, b = decide (∀ i, i < n → z i = 0) := ⟨_, rfl⟩
  rw [← hb]
  have HBb := Lib.hid hb
  clear hR hb
  go_enter Tryz.func40, Tryz.ntmps40
  go_wp2_with fail
  go_loopg [3] n (fun gh s7 wx => ∃ (k : Nat), gh = n - k ∧ k ≤ n ∧ s7 = .int .i64 (k : Int) ∧ Hid (∀ i, i < k → z i = 0) ∧ w = wx)
  case atStart => exact ⟨0, rfl, Nat.zero_le _, rfl, (fun i hi => by omega), rfl⟩
  case round =>
    obtain ⟨k, hg, hk, rfl, HA, rfl⟩ := hrel
    have HG := Lib.hid hg
    clear hg
    by_cases hlt : k < n
    · have x1 : (k : Int) < (n : Int) := by omega
      have x0 : (0 : Int) ≤ (k : Int) := by omega
      obtain ⟨bb, off, rfl, d1, _⟩ := HR.out k hlt
      have HI : Hid (k + 1 ≤ n) := hlt
      by_cases h0 : z k = 0
      · have HA2 : Hid (∀ i, i < k + 1 → z i = 0) := fun i hi => by
          by_cases e : i = k
          · rw [e]; exact h0
          · exact HA.out i (by omega)
        have t1 : (z k == 0) = true := by rw [beq_iff_eq]; exact h0
        generalize z k = q at d1 t1
        clear h0 hlt HA
        go_wp2_with fail
        go_roundg (n - (k + 1))
        case measure => have := HG.out; have := HI.out; omega
        case rel => exact ⟨k + 1, rfl, HI.out, by go_num, HA2, rfl⟩
      · have HF : Hid (b = false) := by
          show _ = _
          rw [HBb.out]
          exact decide_eq_false fun h => h0 (h k hlt)
        have t1 : (z k == 0) = false := by rw [beq_eq_false_iff_ne]; exact h0
        generalize z k = q at d1 t1
        clear h0 hlt HA
        go_wp2_with fail
        go_ret
        exact ⟨ret_bool HF.out.symm, rfl⟩
    · obtain rfl : k = n := by omega
      have HF : Hid (b = true) := by
        show _ = _
        rw [HBb.out]
        exact decide_eq_true HA.out
      clear HA
      go_wp2_with fail
      go_ret
      exact ⟨ret_bool HF.out.symm, rfl⟩
section
variable {m : Nat} [M : Pl.Mid m]
set_option maxRecDepth 100000 in
set_option maxHeartbeats 1000000 in
theorem rcoef_any (m' t n : Nat) (ga : Option Addr) (gn gc D : Nat) (hD : D ≤ 1000) (a : Option Addr) (na ca U : Nat) (a' : Option Addr) (nb cb V k k' : Nat) (hV : V < 2 ^ (8 * k')) (w : World) (hU : PolV w k a na ca U) (hVp : PolV w k' a' nb cb V) (i : Nat) (hi : i ≤ 1000000) :
    Calls Tryz.prog 69 #[cdV m' t n ga gn gc D, .slice a na ca, .slice a' nb cb, .int .i64 (i : Int)] w fun e w' => e = .returned (.int .i64 (bz ((wrd D U (V % 2 ^ D)).testBit i))) ∧ Below w.heap.size w w' := by
  have b0 : Below w.heap.size w (w.alloc (cdO (.int .i64 (m' : Int)) (.int .i64 (t : Int)) (.int .i64 (n : Int)) (.slice ga gn gc) (.int .i64 (D : Int)))) := (Below.refl _ _).alloc (Nat.le_refl _) _
  have HW := Lib.hid (wrd_bit (D := D) (X := U) (Y := V % 2 ^ D) (Nat.mod_lt _ (Nat.two_pow_pos D)) i)
  by_cases hlt : i < D
  · have x1 : (i : Int) < (D : Int) := by omega
    have hbit : (wrd D U (V % 2 ^ D)).testBit i = V.testBit i := by rw [HW.out, if_pos hlt, Nat.testBit_mod_two_pow]; simp [hlt]
    rw [hbit]
    have HBt := Lib.hid (rBit (hVp.below b0) i hi)
    clear HW hbit hU hVp hlt
    go_enter Tryz.func69, Tryz.ntmps69
    go_wp2_with fail
    refine HBt.out.mono ?_
    rintro e w' ⟨rfl, rfl⟩
    go_wp2_with fail
    go_ret
    exact ⟨rfl, b0⟩
  · have x1 : decide ((i : Int) < (D : Int)) = false := decide_eq_false (by omega)
    obtain ⟨q, hq⟩ : ∃ q, q = i - D := ⟨_, rfl⟩
    have q1 : (i : Int) - (D : Int) = (q : Int) := by omega
    have hbit : (wrd D U (V % 2 ^ D)).testBit i = U.testBit q := by rw [HW.out, if_neg hlt, hq]
    rw [hbit]
    have HBt := Lib.hid (rBit (hU.below b0) q (by omega))
    clear HW hbit hU hVp hlt hq
    go_enter Tryz.func69, Tryz.ntmps69
    go_wp2_with fail
    refine HBt.out.mono ?_
    rintro e w' ⟨rfl, rfl⟩
    go_wp2_with fail
    go_ret
    exact ⟨rfl, b0⟩
end
end Go.Proofs.YthmfneepnkgmgaaGreatDoor.Syn
/- The reference's Of: the values of places. By the verifier of shale. -/
namespace Go.Proofs.YthmfneepnkgmgaaGreatDoor.Syn
open Go Go.RowKit Bin Cos Enc Bits16
set_option linter.unusedVariables false
theorem regrown_start (w : World) : ∃ p : Regrown, w.drew = Sort.grow (redrawn w p.d) p.os := regrown_of_below ((Drawn.mk w 1).below _)
section
variable {m : Nat} [M : Pl.Mid m]
end
end Go.Proofs.YthmfneepnkgmgaaGreatDoor.Syn
/- The reference's Syndromes: the values of a word, by Horner. By the verifier of shale. -/
namespace Go.Proofs.YthmfneepnkgmgaaGreatDoor.Syn
open Go Go.RowKit Bin Cos Enc Bits16
set_option linter.unusedVariables false
section
variable {m : Nat} [M : Pl.Mid m]
theorem bz_h (b : Bool) : bz b = h (if b then 1 else 0) := by cases b <;> rfl
set_option maxRecDepth 100000 in
set_option maxHeartbeats 2000000 in
theorem rsyn_any (t n : Nat) (ga : Option Addr) (gn gc D : Nat) (ht2 : t ≤ 40) (hn2 : n ≤ 2048) (hD1 : 0 < D) (hD : D ≤ 560) (a : Option Addr) (na ca U ku : Nat) (a' : Option Addr) (nb cb Vp kv : Nat) (w : World) (hU : PolV w ku a na ca U) (hUl : U < 2 ^ (8 * n)) (hV : PolV w kv a' nb cb Vp) :
    Calls Tryz.prog 39 #[cdV m t n ga gn gc D, .slice a na ca, .slice a' nb cb] w (ValAt m t (wrd D U (Vp % 2 ^ D)) w) := by
  obtain ⟨N, hN⟩ : ∃ N, N = 2 * t := ⟨_, rfl⟩
  have q0 : 2 * (t : Int) = (N : Int) := by omega
  have hN2 : N ≤ 80 := by omega
  have HN := Lib.hid hN
  obtain ⟨V, hVe⟩ : ∃ V, V = wrd D U (Vp % 2 ^ D) := ⟨_, rfl⟩
  obtain ⟨L, hL⟩ : ∃ L, L = 8 * n + D := ⟨_, rfl⟩
  have hVl : V < 2 ^ L := by rw [hVe, hL]; exact wrd_lt hUl (Nat.mod_lt _ (Nat.two_pow_pos D))
  have hL2 : L ≤ 100000 := by omega
  have hL1 : 0 < L := by omega
  rw [← hVe]
  have HV := Lib.hid hVe
  have HVl := Lib.hid hVl
  have HL := Lib.hid hL
  have HU := Lib.hid hU
  have HVp := Lib.hid hV
  have hmk := fun w => made64 w N (by omega)
  clear hU hV hN hVe hVl hL hUl
  go_enter Tryz.func39, Tryz.ntmps39
  go_upto_region 1 with (fail)
  generalize hw : w.alloc (.cells #[.int .i64 (m : Int), .int .i64 (t : Int), .int .i64 (n : Int), .slice ga gn gc, .int .i64 (D : Int)] 26 (0, 0)) = w1
  obtain ⟨K, B⟩ := newCd w w1 _ _ _ _ _ hw
  clear hw
  obtain ⟨bq, hbq⟩ : ∃ bq, bq = w.heap.size := ⟨_, rfl⟩
  rw [← hbq] at K ⊢
  clear hbq
  obtain ⟨c0, c1, c2, c3, c4, _⟩ := cd_cells K
  go_upto_region 2 with (fail)
  clear c0 c1 c2 c3 c4 hmk
  obtain ⟨gb, hgb⟩ : ∃ gb, gb = w1.heap.size := ⟨_, rfl⟩
  have HGb := Lib.hid hgb
  have hbg : bq < gb := by rw [hgb]; exact lt_of_block K
  have HS : Hid (w1.heap[bq]? = some (cdO (.int .i64 (m : Int)) (.int .i64 (t : Int)) (.int .i64 (n : Int)) (.slice ga gn gc) (.int .i64 (D : Int))) ∧ PolV w1 ku a na ca U ∧ PolV w1 kv a' nb cb Vp ∧ Below w.heap.size w w1) := ⟨K, HU.out.below B, HVp.out.below B, B⟩
  have k0 := Blk64.new w1 (List.replicate N 0)
  have b0 : Below w1.heap.size w1 (w1.alloc (obj64 (List.replicate N 0))) := (Below.refl _ _).alloc (Nat.le_refl _) _
  rw [synP_zero (m := m) V N] at k0 b0 ⊢
  rw [← hgb] at k0 b0 ⊢
  generalize w1.alloc (obj64 (synP m V 0 N)) = w2 at k0 b0 ⊢
  clear K B hgb HU HVp
  go_wp2_with fail
  go_loopg [8] N (fun gh s8 wx => ∃ (i : Nat), gh = N - i ∧ i ≤ N ∧ s8 = .int .i64 (i : Int) ∧ Blk64 wx gb (synP m V i N) ∧ Below gb w1 wx)
  case atStart => exact ⟨0, rfl, Nat.zero_le _, rfl, k0, b0⟩
  case round =>
    clear k0 b0
    obtain ⟨i, hg, hi, rfl, hK, hO⟩ := hrel
    have HG := Lib.hid hg
    clear hg
    by_cases hlt : i < N
    · have x1 : (i : Int) < (N : Int) := by omega
      have x0 : (0 : Int) ≤ (i : Int) := by omega
      have HI : Hid (i + 1 ≤ N) := hlt
      have K := (hO.block bq hbg).trans HS.out.1
      obtain ⟨c0, c1, c2, c3, c4, _⟩ := cd_cells K
      have hsz : gb < wr.heap.size := hK.lt
      have HK := Lib.hid hK
      have HO := Lib.hid hO
      by_cases hev : i % 2 = 1
      · have t1 : ((i : Int) % 2 == 1) = true := by rw [beq_iff_eq]; omega
        obtain ⟨r, hr⟩ : ∃ r, i = 2 * r + 1 := ⟨i / 2, by omega⟩
        have q3 : (i : Int) / 2 = (r : Int) := by omega
        have q4 : (i : Int).tdiv 2 = (r : Int) := by rw [Int.tdiv_eq_ediv_of_nonneg (by omega)]; exact q3
        have y0 : (0 : Int) ≤ (r : Int) := by omega
        have y1 : (r : Int) < (N : Int) := by omega
        have d1 := hK.cell (i := r) (by rw [synP_length]; omega)
        rw [synP_nth (by omega) (by omega)] at d1
        have hQ : sv m V (i + 1) = Fld.fmul m (sv m V (r + 1)) (sv m V (r + 1)) := by rw [← sv_sq, hr]; congr 1
        have hl := sv_lt (m := m) V (r + 1)
        have HM : Hid (∀ q os, Calls Tryz.prog 67 #[.int .i64 (m : Int), .int .i64 (h (sv m V (r + 1))), .int .i64 (h (sv m V (r + 1)))] (Sort.grow (redrawn wr q) os) fun e w'' => e = .returned (.int .i64 (h (sv m V (i + 1)))) ∧ ∃ p : Regrown, w'' = Sort.grow (redrawn wr p.d) p.os) := fun q os => Calls.regrown_of (by rw [hQ]; exact Fld.rmul_at m M.lo M.hi _ _ hl hl _)
        generalize h (sv m V (r + 1)) = hv at d1 HM
        replace c0 := cell_regrown c0
        replace d1 := cell_regrown d1
        clear hQ hl hK hO K hev hr
        go_wp2_with fail
        refine wp_region_quiet_tail (C := fun w' => ∃ p : Regrown, w' = Sort.grow (redrawn wr p.d) p.os) 16 (by kernel_rfl) (by kernel_rfl) (regrown_start wr) ?_
        simp only [List.take_succ_cons, List.take_zero, List.drop_succ_cons, List.drop_zero]
        repeat (go_big_quiet_step (first | (go_at_call 67; with_reducible exact HM.out _ _)))
        refine wpQuiet_nil ?_
        rintro _ ⟨⟨dq, osq⟩, hw'⟩
        subst hw'
        have b := below_regrown wr dq osq
        generalize Sort.grow (redrawn wr dq) osq = w5 at b ⊢
        have hK5 := keepI HK.out b
        have hO5 := HO.out.trans (b.mono (Nat.le_of_lt hsz))
        have c5 := hK5.cell (i := i) (by rw [synP_length]; exact hlt)
        generalize nth64 (synP m V i N) i = z5 at c5
        have cf := hK5.free i
        have hs := hK5.set i (h (sv m V (i + 1)))
        rw [synP_set] at hs
        have HS5 := Lib.hid hs
        have HO5 := Lib.hid (hO5.trans ((Only.setCell w5 ⟨gb, i, none⟩ (.int .i64 (h (sv m V (i + 1))))).below (Nat.le_refl _)))
        clear c0 c1 c2 c3 c4 d1 HM b hK5 hO5 hs
        go_wp2_with fail
        go_roundg (N - (i + 1))
        case measure => have := HG.out; have := HI.out; omega
        case rel => exact ⟨i + 1, rfl, HI.out, by go_num, HS5.out, HO5.out⟩
      · have t1 : ((i : Int) % 2 == 1) = false := by rw [beq_eq_false_iff_ne]; omega
        have q2 : ((i + 1 : Nat) : Int) = (i : Int) + 1 := by omega
        have hE := Fld.rexp_any m M.lo M.hi ((i + 1 : Nat) : Int) wr
        obtain ⟨A, hA⟩ : ∃ A, A = Fld.pwZ m ((i + 1 : Nat) : Int) := ⟨_, rfl⟩
        rw [← hA, q2] at hE
        have HE := Lib.hid hE
        have HA := Lib.hid hA
        have hAl : A.toNat < 2 ^ m := by rw [hA]; exact Fld.pwZ_lt m M.lo M.hi _
        clear hK hO hev hE hA q2
        go_wp2_with fail
        clear c0 c1 c2 c3 c4
        refine HE.out.mono ?_
        rintro e w5 ⟨rfl, b⟩
        have K5 := keepB K b
        have hK5 := keepI HK.out b
        have hO5 := HO.out.trans (b.mono (Nat.le_of_lt hsz))
        have hsz5 : gb < w5.heap.size := hK5.lt
        obtain ⟨c0, c1, c2, c3, c4, _⟩ := cd_cells K5
        clear b HE K
        go_wp2_with fail
        clear c0 c1 c2 c3 c4
        refine (rbits_any m t n ga gn gc D (by omega) hn2 w5).mono ?_
        rintro e w6 ⟨rfl, b⟩
        rw [← HL.out]
        have HK6 := Lib.hid (keepI hK5 b)
        have HO6 := Lib.hid (hO5.trans (b.mono (Nat.le_of_lt hsz5)))
        have e0 : h (sv m (V >>> L) (i + 1)) = 0 := by
          have : V >>> L = 0 := by rw [Nat.shiftRight_eq_div_pow]; exact Nat.div_eq_of_lt HVl.out
          rw [this]; rfl
        clear b K5 hK5 hO5
        go_wp2_with fail
        go_loopg [10, 11] L (fun gh s10 s11 wx => ∃ (kk : Nat), gh = kk ∧ kk ≤ L ∧ s11 = .int .i64 ((kk : Int) - 1) ∧ s10 = .int .i64 (h (sv m (V >>> kk) (i + 1))) ∧ Blk64 wx gb (synP m V i N) ∧ Below gb w1 wx)
        case atStart => exact ⟨L, rfl, Nat.le_refl _, rfl, by rw [e0], HK6.out, HO6.out⟩
        case round =>
          clear HK6 HO6 e0
          obtain ⟨kk, hg, hkk, rfl, rfl, hK, hO⟩ := hrel
          have HGk := Lib.hid hg
          have hszr : gb < wr.heap.size := hK.lt
          have HKr := Lib.hid hK
          have HOr := Lib.hid hO
          clear hg
          rcases kk with _ | k
          · have ck := hK.cell (i := i) (by rw [synP_length]; exact hlt)
            generalize nth64 (synP m V i N) i = z5 at ck
            have cf := hK.free i
            have ez : V >>> 0 = V := Nat.shiftRight_zero
            rw [ez]
            have hs := hK.set i (h (sv m V (i + 1)))
            rw [synP_set] at hs
            have HS5 := Lib.hid hs
            have HO5 := Lib.hid (hO.trans ((Only.setCell wr ⟨gb, i, none⟩ (.int .i64 (h (sv m V (i + 1))))).below (Nat.le_refl _)))
            clear hK hO hs ez
            go_wp2_with fail
            go_roundg (N - (i + 1))
            case measure => have := HG.out; have := HI.out; omega
            case rel => exact ⟨i + 1, rfl, HI.out, by go_num, HS5.out, HO5.out⟩
          · have ek : ((k + 1 : Nat) : Int) - 1 = (k : Int) := by omega
            rw [ek]
            have y0 : (0 : Int) ≤ (k : Int) := by omega
            have hkL : k + 1 ≤ L := hkk
            have hO2 := hO
            rw [HGb.out] at hO2
            have K := (hO.block bq hbg).trans HS.out.1
            obtain ⟨c0, c1, c2, c3, c4, _⟩ := cd_cells K
            have hUw := HS.out.2.1.below hO2
            have hVw := HS.out.2.2.1.below hO2
            have hvk : Vp < 2 ^ (8 * kv) := hVw.lt
            have hsh := sv_shift (m := m) V k (i + 1)
            rw [← HA.out] at hsh
            obtain ⟨X, hX⟩ : ∃ X, X = sv m (V >>> (k + 1)) (i + 1) := ⟨_, rfl⟩
            have hXl : X.toNat < 2 ^ m := by rw [hX]; exact sv_lt _ _
            rw [← hX] at hsh ⊢
            obtain ⟨Y, hY⟩ : ∃ Y, Y = sv m (V >>> k) (i + 1) := ⟨_, rfl⟩
            have HYe := Lib.hid hY
            rw [← hY] at hsh
            have HM : Hid (∀ q os, Calls Tryz.prog 67 #[.int .i64 (m : Int), .int .i64 (h X), .int .i64 (h A)] (Sort.grow (redrawn wr q) os) fun e w'' => e = .returned (.int .i64 (h (Fld.fmul m X A))) ∧ ∃ p : Regrown, w'' = Sort.grow (redrawn wr p.d) p.os) := fun q os => Calls.regrown_of (Fld.rmul_at m M.lo M.hi _ _ hXl hAl _)
            have HCo : Hid (∀ q os, Calls Tryz.prog 69 #[cdV m t n ga gn gc D, .slice a na ca, .slice a' nb cb, .int .i64 (k : Int)] (Sort.grow (redrawn wr q) os) fun e w'' => e = .returned (.int .i64 (bz (V.testBit k))) ∧ ∃ p : Regrown, w'' = Sort.grow (redrawn wr p.d) p.os) := fun q os => Calls.regrown_of (by
              rw [HV.out]
              exact rcoef_any m t n ga gn gc D (by omega) a na ca U a' nb cb Vp ku kv hvk _ (hUw.below (below_regrown wr q os)) (hVw.below (below_regrown wr q os)) k (by omega))
            have hxx := hxor64 (Fld.fmul m X A) (if V.testBit k then 1 else 0)
            rw [← hsh, ← bz_h] at hxx
            generalize h (Fld.fmul m X A) = v1 at hxx HM
            generalize bz (V.testBit k) = v2 at hxx HCo
            replace c0 := cell_regrown c0
            replace c1 := cell_regrown c1
            replace c2 := cell_regrown c2
            replace c3 := cell_regrown c3
            replace c4 := cell_regrown c4
            clear hK hO hO2 K hUw hVw hvk hX hY hsh ek
            go_wp2_with fail
            refine wp_region_quiet_below (by kernel_rfl) (by kernel_rfl) ?_
            repeat (go_big_quiet_step (first | (go_at_call 67; with_reducible exact HM.out _ _) | (go_at_call 69; with_reducible exact HCo.out _ _)))
            refine wpQuiet_nil ?_
            intro _ hw'
            obtain ⟨⟨dq, osq⟩, hw''⟩ := hw'
            subst hw''
            have b := below_regrown wr dq osq
            generalize Sort.grow (redrawn wr dq) osq = w7 at b ⊢
            have HK7 := Lib.hid (keepI HKr.out b)
            have HO7 := Lib.hid (HOr.out.trans (b.mono (Nat.le_of_lt hszr)))
            clear c0 c1 c2 c3 c4 HM HCo b
            go_wp2_with fail
            go_roundg k
            case measure => have := HGk.out; omega
            case rel => exact ⟨k, rfl, by omega, by go_num, by rw [← HYe.out], HK7.out, HO7.out⟩
    · obtain rfl : i = N := by omega
      have HX : Hid (Blk64 wr gb (Bin.ints (syn m V i))) := by rw [← synP_all]; exact hK
      have hz := HGb.out
      have HB2 := Lib.hid (HS.out.2.2.2.trans ((by rw [hz] at hO; exact hO : Below w1.heap.size w1 wr).mono HS.out.2.2.2.size))
      have hle := HS.out.2.2.2.size
      clear hK hO
      go_wp2_with fail
      go_ret
      obtain rfl := HN.out
      exact ⟨gb, rfl, HX.out, HB2.out, by omega⟩
end
end Go.Proofs.YthmfneepnkgmgaaGreatDoor.Syn
/- The walk over the reference's mending. By the verifier of shale. -/
namespace Go.Proofs.YthmfneepnkgmgaaGreatDoor.Dec
open Go Go.RowKit Bin Pl Cos Enc Syn Loc Sea
set_option linter.unusedVariables false
theorem list_of {w : World} {g : Nat} {l : List Int} (h : Blk64 w g l) : Bin.RowZ w (some ⟨g, 0, none⟩) l.length (fun i => l.getD i 0) := fun i hi =>
  ⟨g, 0, rfl, by rw [Nat.zero_add]; exact h.cell hi, lt_of_block h⟩
theorem u8_ne {w : World} {g b o : Nat} {X : List (BitVec 8)} {z : Int} (h : Blk8 w g X) (hc : w.cell? ⟨b, o, none⟩ = some (.int .i64 z)) : b ≠ g := by
  rintro rfl
  have e : w.heap[b]? = some (obj8 X) := h
  unfold World.cell? at hc
  simp only at hc
  rw [e] at hc
  unfold obj8 at hc
  simp only [List.getElem?_toArray, List.getElem?_map] at hc
  cases h2 : X[o]? with
  | none => rw [h2] at hc; cases hc
  | some c => rw [h2] at hc; cases hc
theorem hits_mem {f : Nat → Bool} {n p : Nat} (h : p ∈ hits f n) : p < n := List.mem_range.1 (List.mem_filter.1 h).1
section
variable {m : Nat} [M : Pl.Mid m]
/-- what the reference's mending answers. -/
def RDecPost (m t n : Nat) [M : Pl.Mid m] (vX vY : Nat) (r : Option (List Nat)) (w : World) (e : Ending) (w' : World) : Prop :=
  Below w.heap.size w w' ∧ match r with
  | none => e = .returned (.tuple #[.slice none 0 0, .slice none 0 0, .slice none 0 0, .int .i64 106])
  | some l => ∃ g1 X1 g2 Y1 a3 c3, e = .returned (.tuple #[.slice (some ⟨g1, 0, none⟩) n n, .slice (some ⟨g2, 0, none⟩) (pb (deg m t)) (pb (deg m t)), .slice a3 l.length c3, .int .i64 0]) ∧ Blk8 w' g1 X1 ∧ X1.length = n ∧ Blk8 w' g2 Y1 ∧ Y1.length = (pb (deg m t)) ∧ RowZ w' a3 l.length c3 (intsN l) ∧ val X1 = vX ^^^ xs l >>> deg m t ∧ val Y1 = (vY ^^^ xs l % 2 ^ deg m t) % 2 ^ deg m t
set_option maxRecDepth 100000 in
set_option maxHeartbeats 4000000 in
theorem rdecode_any (t n : Nat) (ga : Option Addr) (gn gc : Nat) (ht1 : 1 ≤ t) (ht40 : t ≤ 40) (hn1 : 1 ≤ n) (hn2 : n ≤ 2048) (hRm : 8 * n + deg m t ≤ Fld.size m) {w : World} {a a' : Option Addr} {ca ca' : Nat} {X Y : List (BitVec 8)} (hX : Pol w a n ca X) (hY : Pol w a' (pb (deg m t)) ca' Y) :
    Calls Tryz.prog 19 #[cdV m t n ga gn gc (deg m t), .slice a n ca, .slice a' (pb (deg m t)) ca'] w (RDecPost m t n (val X) (val Y) (dec m t (8 * n + deg m t) (wd m t (val X) (val Y))) w) := by
  have hD1 := deg_pos M.lo ht1
  have hD5 := deg_560 (m := m) ht40
  have hPd : (pb (deg m t)) = (deg m t + 7) / 8 := rfl
  have hP1 : 0 < (pb (deg m t)) := by omega
  have hP2 : (pb (deg m t)) ≤ 100 := by omega
  clear hPd
  have HX := Lib.hid hX
  have HY := Lib.hid hY
  have hXl := hX.hlen
  have hYl := hY.hlen
  have HL := Lib.hid (And.intro hXl hYl)
  clear hX hY hXl hYl
  go_enter Tryz.func19, Tryz.ntmps19
  go_wp2_with fail
  generalize hw : w.alloc (.cells #[.int .i64 (m : Int), .int .i64 (t : Int), .int .i64 (n : Int), .slice ga gn gc, .int .i64 (deg m t : Int)] 26 (0, 0)) = w2
  obtain ⟨K, b⟩ := newCd w w2 _ _ _ _ _ hw
  clear hw
  obtain ⟨bq, hbq⟩ : ∃ bq, bq = w.heap.size := ⟨_, rfl⟩
  have HBq := Lib.hid hbq
  rw [← hbq] at K ⊢
  have hX := HX.out.below b
  have hY := HY.out.below b
  have hVX : val X < 2 ^ (8 * n) := by have := val_lt X; rwa [← hX.hlen] at this
  have HR := rsyn_any (m := m) t n ga gn gc (deg m t) ht40 hn2 hD1 hD5 a n ca (val X) n a' (pb (deg m t)) ca' (val Y) (pb (deg m t)) w2 ⟨X, hX, rfl, Nat.le_refl _⟩ hVX ⟨Y, hY, rfl, Nat.le_refl _⟩
  obtain ⟨v, hv⟩ : ∃ v, v = wd m t (val X) (val Y) := ⟨_, rfl⟩
  have HV := Lib.hid hv
  rw [show wrd (deg m t) (val X) (val Y % 2 ^ deg m t) = v from hv.symm] at HR
  rw [← hv]
  clear hbq hv HX HY
  refine HR.mono ?_
  rintro e w3 ⟨gs, rfl, Q, b3, hgs⟩
  clear HR
  replace K := keepB K b3
  replace hX := hX.below b3
  replace hY := hY.below b3
  have B := b.trans (b3.mono b.size)
  have HB3w := Lib.hid B.size
  clear b b3 hgs
  have hql : (Bin.ints (syn m v (2 * t))).length = 2 * t := by unfold Bin.ints; rw [List.length_map, syn_length]
  obtain ⟨c0, c1, c2, c3, c4, _⟩ := cd_cells K
  go_wp2_with fail
  clear c0 c1 c2 c3 c4
  refine (copy_all a n ca X w3 (fun e => by have h1 := hX.hnil e; have h2 := hX.hcap; omega) hX.hrow hX.hlen (by omega)).mono ?_
  rintro e w4 ⟨rfl, ZX, b⟩
  obtain ⟨gx, hgx⟩ : ∃ gx, gx = w3.heap.size := ⟨_, rfl⟩
  have HGX : Hid (bq < gx ∧ gs < gx) := ⟨by rw [hgx]; exact lt_of_block K, by rw [hgx]; exact lt_of_block Q⟩
  have HB3 := Lib.hid b
  rw [← hgx] at ZX ⊢
  have HGXe := Lib.hid hgx
  clear hgx
  replace K := keepB K b
  replace Q := (b.block gs (lt_of_block Q)).trans Q
  replace hY := hY.below b
  replace B := B.trans (b.mono B.size)
  clear b hX
  obtain ⟨c0, c1, c2, c3, c4, _⟩ := cd_cells K
  go_wp2_with fail
  clear c0 c1 c2 c3 c4
  refine (rclear_any m t n ga gn gc (deg m t) (pb (deg m t)) (by omega) rfl _ _ Y w4 hY).mono ?_
  rintro e w5 ⟨gy, Yc, rfl, ZY, hYc, hYv, hgy, b⟩
  have hgxy : gx < gy := Nat.lt_of_lt_of_le ZX.lt hgy
  have HB4 := HB3.out.trans (b.mono HB3.out.size)
  have HB5 := Lib.hid HB4
  clear HB4 HB3
  replace K := keepB K b
  replace Q := (b.block gs (lt_of_block Q)).trans Q
  replace ZX := keepZ ZX b
  replace B := B.trans (b.mono B.size)
  clear b hY hgy
  have HC := rclean_any (some ⟨gs, 0, none⟩) _ (2 * t) _ w5 (list_of Q) (by omega)
  rw [hql] at HC
  have hrw : decide (∀ i, i < 2 * t → (Bin.ints (syn m v (2 * t))).getD i 0 = 0) = decide (∀ i, i < 2 * t → Sv m v i = 0) := by
    congr 1
    apply propext
    refine forall_congr' fun i => forall_congr' fun hi => ?_
    rw [← Sv_nil]
    have e : (Bin.ints (syn m v (2 * t))).getD i 0 = ((sv m v (i + 1)).toNat : Int) := by
      unfold Bin.ints syn
      rw [List.getD_eq_getElem?_getD]
      simp [hi]
    rw [e]
    constructor
    · intro h; apply BitVec.eq_of_toNat_eq; simpa using h
    · intro h; rw [h]; rfl
  rw [hrw] at HC
  replace HC := Lib.hid HC
  clear hrw
  have y0 : (0 : Int) ≤ (t : Int) := by omega
  go_wp2_with fail
  by_cases h0 : ∀ i, i < 2 * t → Sv m v i = 0
  · have hdec : dec m t (8 * n + deg m t) v = some [] := by unfold dec; rw [if_pos h0]
    have HD := Lib.hid hdec
    have hd := decide_eq_true h0
    rw [hd] at HC
    clear hdec hd h0
    refine HC.out.mono ?_
    rintro e w6 ⟨rfl, rfl⟩
    clear HC
    have HE : Hid (RDecPost m t n (val X) (val Y) (dec m t (8 * n + deg m t) v) w (.returned (.tuple #[.slice (some ⟨gx, 0, none⟩) n n, .slice (some ⟨gy, 0, none⟩) (pb (deg m t)) (pb (deg m t)), .slice none 0 0, .int .i64 0])) w5) := by
      rw [HD.out]
      refine ⟨B, gx, X, gy, Yc, none, 0, rfl, ZX, HL.out.1.symm, ZY, hYc, ⟨rfl, Nat.le_refl _, by decide, fun i hi => absurd hi (by simp)⟩, ?_, ?_⟩
      · show val X = val X ^^^ 0 >>> deg m t; simp
      · show val Yc = (val Y ^^^ 0 % 2 ^ deg m t) % 2 ^ deg m t; rw [hYv]; simp
    clear K Q ZX ZY B
    go_wp2_with fail
    exact bodyPost_ret (v := .tuple #[.slice (some ⟨gx, 0, none⟩) n n, .slice (some ⟨gy, 0, none⟩) (pb (deg m t)) (pb (deg m t)), .slice none 0 0, .int .i64 0]) (by simp [results, Tryz.results19, go_sem]) rfl (by rw [← HV.out]; exact HE.out)
  · have hd := decide_eq_false h0
    rw [hd] at HC
    refine HC.out.mono ?_
    rintro e w6 ⟨rfl, rfl⟩
    clear HC hd
    have HLo := rlocate_any (m := m) (some ⟨gs, 0, none⟩) _ _ _ w5 (Blk64.rowz Q (by rw [hql]; omega)) (2 * t) (by rw [hql]; omega)
    rw [show bm (sr m (Bin.ints (syn m v (2 * t)))) (2 * t) = bm (Sv m v) (2 * t) from (bm_ext fun i hi => syn_sr hi).symm, hql] at HLo
    obtain ⟨c, hcc⟩ : ∃ c, c = (bm (Sv m v) (2 * t)).c := ⟨_, rfl⟩
    obtain ⟨L, hLL⟩ : ∃ L, L = (bm (Sv m v) (2 * t)).L := ⟨_, rfl⟩
    have hLb : L ≤ 2 * t := by rw [hLL]; exact (bm_inv _ _).le
    have HDc : Hid (dec m t (8 * n + deg m t) v = if L ≤ t ∧ Pl.top c 100 = L + 1 ∧ (hits (zAt c 100) (8 * n + deg m t)).length = L then some (hits (zAt c 100) (8 * n + deg m t)) else none) := by
      unfold Hid
      unfold dec
      rw [if_neg h0, hcc, hLL]
    rw [← hcc, ← hLL] at HLo
    clear h0 hcc hLL
    obtain ⟨c0, c1, c2, c3, c4, _⟩ := cd_cells K
    go_wp2_with fail
    clear c0 c1 c2 c3 c4
    refine HLo.mono ?_
    rintro e w6 ⟨ap, np, cp, rfl, NP, b⟩
    clear HLo Q
    have hnp : np = Pl.top c 100 := by
      have hbd : Bd c 100 := NP.bd.mono NP.le
      rw [← top_same NP.bd hbd, NP.top]
    have hnp100 : np ≤ 100 := NP.le
    rw [← hnp] at HDc
    clear hnp
    replace K := keepB K b
    replace ZX := keepZ ZX b
    replace ZY := keepZ ZY b
    replace B := B.trans (b.mono B.size)
    have HB6 := Lib.hid (HB5.out.trans (b.mono HB5.out.size))
    clear b HB5
    obtain ⟨c0, c1, c2, c3, c4, _⟩ := cd_cells K
    have nobody : ∀ x : Option (List Nat), (¬ (L ≤ t ∧ np = L + 1)) → Hid (x = if L ≤ t ∧ np = L + 1 ∧ (hits (zAt c 100) (8 * n + deg m t)).length = L then some (hits (zAt c 100) (8 * n + deg m t)) else none) → x = none := fun x hne h => by
      have h := h.out
      rwa [if_neg (fun h => hne ⟨h.1, h.2.1⟩)] at h
    by_cases hg : L ≤ t ∧ np = L + 1
    · obtain ⟨h1, h2⟩ := hg
      have t1 : ¬ (t : Int) < (L : Int) := by omega
      have t2 : decide ((t : Int) < (L : Int)) = false := decide_eq_false t1
      have t3 : decide (t < L) = false := decide_eq_false (by omega)
      have t4 : (np : Int) - 1 = (L : Int) := by omega
      have t5 : IntKind.i64.wrap ((np : Int) - 1) = (L : Int) := by rw [IntWalk.i64_in _ (by omega)]; omega
      obtain ⟨N, hN⟩ : ∃ N, N = 8 * n + deg m t := ⟨_, rfl⟩
      obtain ⟨H, hH⟩ : ∃ H, H = hits (zAt c 100) N := ⟨_, rfl⟩
      obtain ⟨nh, hnh⟩ : ∃ nh, nh = H.length := ⟨_, rfl⟩
      have hHm : Hid (∀ p ∈ H, p < 8 * n + deg m t) := fun p hp => by rw [← hN]; rw [hH] at hp; exact hits_mem hp
      have hNs := Fld.size_hi m M.hi
      have hnh2 : nh ≤ N := by rw [hnh, hH]; exact hits_len _ _
      have HDd : Hid (dec m t (8 * n + deg m t) v = if nh = L then some H else none) := by
        have h := HDc.out
        rw [← hN, ← hH, ← hnh] at h
        show _ = _
        rw [← hN, h]
        by_cases hh : nh = L
        · rw [if_pos ⟨h1, h2, hh⟩, if_pos hh]
        · rw [if_neg (fun q => hh q.2.2), if_neg hh]
      have hlim : lim m (N : Int) = N := by unfold lim; omega
      have HN := Lib.hid hN
      have hlA := lt_of_block K
      have HS9 : Hid (∀ w', Below w6.heap.size w6 w' → (w'.cell? ⟨bq, 0, none⟩ = some (.int .i64 (m : Int)) ∧ w'.cell? ⟨bq, 1, none⟩ = some (.int .i64 (t : Int)) ∧ w'.cell? ⟨bq, 2, none⟩ = some (.int .i64 (n : Int)) ∧ w'.cell? ⟨bq, 3, none⟩ = some (.slice ga gn gc) ∧ w'.cell? ⟨bq, 4, none⟩ = some (.int .i64 (deg m t : Int)) ∧ Below w6.heap.size w6 w')) := fun w' b => by
        obtain ⟨c0, c1, c2, c3, c4, _⟩ := cd_cells ((b.block bq hlA).trans K)
        exact ⟨c0, c1, c2, c3, c4, b⟩
      have HBi : Hid (∀ w' (_ : (w'.cell? ⟨bq, 0, none⟩ = some (.int .i64 (m : Int)) ∧ w'.cell? ⟨bq, 1, none⟩ = some (.int .i64 (t : Int)) ∧ w'.cell? ⟨bq, 2, none⟩ = some (.int .i64 (n : Int)) ∧ w'.cell? ⟨bq, 3, none⟩ = some (.slice ga gn gc) ∧ w'.cell? ⟨bq, 4, none⟩ = some (.int .i64 (deg m t : Int)) ∧ Below w6.heap.size w6 w')), Calls Tryz.prog 25 #[cdV m t n ga gn gc (deg m t)] w' fun e w'' => e = .returned (.int .i64 (N : Int)) ∧ (w''.cell? ⟨bq, 0, none⟩ = some (.int .i64 (m : Int)) ∧ w''.cell? ⟨bq, 1, none⟩ = some (.int .i64 (t : Int)) ∧ w''.cell? ⟨bq, 2, none⟩ = some (.int .i64 (n : Int)) ∧ w''.cell? ⟨bq, 3, none⟩ = some (.slice ga gn gc) ∧ w''.cell? ⟨bq, 4, none⟩ = some (.int .i64 (deg m t : Int)) ∧ Below w6.heap.size w6 w'')) := fun w' hs => (rbits_any m t n ga gn gc (deg m t) (by omega) hn2 w').mono fun e w'' h => ⟨by rw [HN.out]; exact h.1, HS9.out w'' (hs.2.2.2.2.2.trans (h.2.mono hs.2.2.2.2.2.size))⟩
      have HSe : Hid (∀ w' (_ : (w'.cell? ⟨bq, 0, none⟩ = some (.int .i64 (m : Int)) ∧ w'.cell? ⟨bq, 1, none⟩ = some (.int .i64 (t : Int)) ∧ w'.cell? ⟨bq, 2, none⟩ = some (.int .i64 (n : Int)) ∧ w'.cell? ⟨bq, 3, none⟩ = some (.slice ga gn gc) ∧ w'.cell? ⟨bq, 4, none⟩ = some (.int .i64 (deg m t : Int)) ∧ Below w6.heap.size w6 w')), Calls Tryz.prog 42 #[.int .i64 (m : Int), .slice ap np cp, .int .i64 (N : Int)] w' fun e w'' => ∃ a' c', e = .returned (.slice a' nh c') ∧ RowZ w'' a' nh c' (intsN H) ∧ (w''.cell? ⟨bq, 0, none⟩ = some (.int .i64 (m : Int)) ∧ w''.cell? ⟨bq, 1, none⟩ = some (.int .i64 (t : Int)) ∧ w''.cell? ⟨bq, 2, none⟩ = some (.int .i64 (n : Int)) ∧ w''.cell? ⟨bq, 3, none⟩ = some (.slice ga gn gc) ∧ w''.cell? ⟨bq, 4, none⟩ = some (.int .i64 (deg m t : Int)) ∧ Below w6.heap.size w6 w'')) := fun w' hs => by
        have h := rsearch_any (m := m) (N : Int) w' (NP.below hs.2.2.2.2.2).pol (by decide)
        rw [hlim, ← hH, ← hnh] at h
        refine h.mono ?_
        rintro e w'' ⟨a', c', h1, h2, h3⟩
        exact ⟨a', c', h1, h2, HS9.out w'' (hs.2.2.2.2.2.trans (h3.mono hs.2.2.2.2.2.size))⟩
      have hS0 := HS9.out w6.drew ((Drawn.mk w6 1).below _)
      have HW := Lib.hid (And.intro K (And.intro ZX (And.intro ZY (And.intro B HB6.out))))
      have HHl := Lib.hid (And.intro hH (And.intro hnh h2))
      clear K ZX ZY B HB6 hlA hlim hH hnh hN HDc h2 nobody NP
      go_wp2_with fail
      clear t1 t2 t3 t5
      go_region_held3 (fun w' => (w'.cell? ⟨bq, 0, none⟩ = some (.int .i64 (m : Int)) ∧ w'.cell? ⟨bq, 1, none⟩ = some (.int .i64 (t : Int)) ∧ w'.cell? ⟨bq, 2, none⟩ = some (.int .i64 (n : Int)) ∧ w'.cell? ⟨bq, 3, none⟩ = some (.slice ga gn gc) ∧ w'.cell? ⟨bq, 4, none⟩ = some (.int .i64 (deg m t : Int)) ∧ Below w6.heap.size w6 w'))
        (first | assumption | exact ⟨by assumption, by assumption, by assumption, by assumption, by assumption, by assumption⟩)
        (first
          | (go_at_call 25; (with_reducible refine Calls.mono (HBi.out _ (by assumption)) ?_); rintro e w1 ⟨rfl, z1⟩)
          | (go_at_call 42; (with_reducible refine Calls.mono (HSe.out _ (by assumption)) ?_); rintro e w1 ⟨a3, k3, rfl, z2, z3⟩))
      have b := z3.2.2.2.2.2
      obtain ⟨K, ZX, ZY, B, HB6⟩ := HW.out
      obtain ⟨w7, rfl⟩ : ∃ w7, w7 = w1 := ⟨_, rfl⟩
      replace K := keepB K b
      replace ZX := keepZ ZX b
      replace ZY := keepZ ZY b
      replace B := B.trans (b.mono B.size)
      replace HB6 := HB6.trans (b.mono HB6.size)
      clear b z3 HW HS9 HBi HSe hS0 c0 c1 c2 c3 c4
      by_cases hh : nh = L
      · subst hh
        have HD : Hid (dec m t (8 * n + deg m t) v = some H) := by have h := HDd.out; rwa [if_pos rfl] at h
        have hHL := HHl.out.2.1
        have HI0 : Hid (∃ X1 Y1 : List (BitVec 8), X1.length = n ∧ Y1.length = (pb (deg m t)) ∧ val X1 = val X ^^^ xs (H.take 0) >>> deg m t ∧ val Y1 = val Yc ^^^ xs (H.take 0) % 2 ^ deg m t ∧ Blk8 w7 gx X1 ∧ Blk8 w7 gy Y1 ∧ Below gx w7 w7 ∧ ∀ g, g ≠ gx → g ≠ gy → g < w7.heap.size → (World.heap w7)[g]? = w7.heap[g]?) := ⟨X, Yc, HL.out.1.symm, hYc, by show _ = val X ^^^ 0 >>> deg m t; simp, by show _ = val Yc ^^^ 0 % 2 ^ deg m t; simp, ZX, ZY, Below.refl _ _, fun _ _ _ _ => rfl⟩
        have HRow : Hid (∀ i, i < nh → ∃ bb off, a3 = some ⟨bb, off, none⟩ ∧ bb ≠ gx ∧ bb ≠ gy ∧ bb < w7.heap.size ∧ w7.cell? ⟨bb, off + i, none⟩ = some (.int .i64 ((H.getD i 0 : Nat) : Int))) := fun i hi => by
          obtain ⟨bb, off, e, cc, hb⟩ := z2.row i hi
          have hvj := intsN_at H i (by rw [← hHL]; exact hi)
          unfold nth64 at hvj
          rw [hvj] at cc
          exact ⟨bb, off, e, u8_ne ZX cc, u8_ne ZY cc, hb, cc⟩
        have HKR := Lib.hid (And.intro K (And.intro z2 (And.intro HB6 B)))
        have HHL := Lib.hid hHL
        clear K ZX ZY B HB6 z2 HHl hHL
        go_wp2_with fail
        go_loopg [16] nh (fun gh s16 wx => ∃ (j : Nat), gh = nh - j ∧ j ≤ nh ∧ s16 = .int .i64 (j : Int) ∧ Hid (∃ X1 Y1 : List (BitVec 8), X1.length = n ∧ Y1.length = (pb (deg m t)) ∧ val X1 = val X ^^^ xs (H.take j) >>> deg m t ∧ val Y1 = val Yc ^^^ xs (H.take j) % 2 ^ deg m t ∧ Blk8 wx gx X1 ∧ Blk8 wx gy Y1 ∧ Below gx w7 wx ∧ ∀ g, g ≠ gx → g ≠ gy → g < w7.heap.size → (World.heap wx)[g]? = w7.heap[g]?))
        case atStart => exact ⟨0, rfl, Nat.zero_le _, rfl, by
          obtain ⟨X1, Y1, r1, r2, r3, r4, r5, r6, r7, _⟩ := HI0.out
          exact ⟨X1, Y1, r1, r2, r3, r4, r5, r6, r7, fun _ _ _ _ => rfl⟩⟩
        case round =>
          clear HI0
          obtain ⟨j, hgh, hj, rfl, HI⟩ := hrel
          have HGh := Lib.hid hgh
          clear hgh
          obtain ⟨w8, rfl⟩ : ∃ w8, w8 = wr := ⟨_, rfl⟩
          by_cases hlt : j < nh
          · have x1 : (j : Int) < (nh : Int) := by omega
            have x0 : (0 : Int) ≤ (j : Int) := by omega
            have x2 : decide ((j : Int) < (nh : Int)) = true := decide_eq_true x1
            have HJ : Hid (j + 1 ≤ nh) := hlt
            have hjl : j < H.length := by rw [← HHL.out]; exact hlt
            obtain ⟨bb, off, rfl, ne1, ne2, hbb, cc⟩ := HRow.out j hlt
            obtain ⟨X1, Y1, l1, l2, v1, v2, ZX, ZY, hO, hsame⟩ := HI.out
            have K := (hO.block bq HGX.out.1).trans HKR.out.1
            obtain ⟨p, hp⟩ : ∃ p, p = H.getD j 0 := ⟨_, rfl⟩
            have hpl : p < 8 * n + deg m t := hHm.out p (by
              rw [hp, List.getD_eq_getElem?_getD, List.getElem?_eq_getElem hjl]
              exact List.getElem_mem hjl)
            rw [← hp] at cc
            have d1 : w8.cell? ⟨bb, off + j, none⟩ = some (.int .i64 (p : Int)) := by
              rw [← cc]
              unfold World.cell?
              simp only
              rw [hsame bb ne1 ne2 hbb]
            have b0 : Below gx w8 w8.drew := (Drawn.mk w8 1).below _
            have e0 : w8.drew.heap = w8.heap := rfl
            obtain ⟨c0, c1, c2, c3, c4, _⟩ := cd_cells K
            have HF := Lib.hid (rflip_apart m t n ga gn gc (deg m t) (pb (deg m t)) (by omega) rfl gx gy X1 Y1 p hpl hn2 w8.drew (show Blk8 w8.drew gx X1 from ZX) (show Blk8 w8.drew gy Y1 from ZY) l1 l2 (by omega) gx (Nat.le_refl _) (by omega))
            have HM : Hid (val X ^^^ xs (H.take (j + 1)) >>> deg m t = val X1 ^^^ ed (deg m t) p ∧ val Yc ^^^ xs (H.take (j + 1)) % 2 ^ deg m t = val Y1 ^^^ ep (deg m t) p) := by
              refine ⟨?_, ?_⟩
              · rw [v1, xs_shr H j (deg m t) hjl, ← hp, Nat.xor_assoc]; rfl
              · rw [v2, xs_mod H j (deg m t) hjl, ← hp, Nat.xor_assoc]; rfl
            have HO := Lib.hid (And.intro hO hsame)
            have hc0 : w8.drew.cell? ⟨bq, 0, none⟩ = some (.int .i64 (m : Int)) := c0
            have hc1 : w8.drew.cell? ⟨bq, 1, none⟩ = some (.int .i64 (t : Int)) := c1
            have hc2 : w8.drew.cell? ⟨bq, 2, none⟩ = some (.int .i64 (n : Int)) := c2
            have hc3 : w8.drew.cell? ⟨bq, 3, none⟩ = some (.slice ga gn gc) := c3
            have hc4 : w8.drew.cell? ⟨bq, 4, none⟩ = some (.int .i64 (deg m t : Int)) := c4
            have hd1 : w8.drew.cell? ⟨bb, off + j, none⟩ = some (.int .i64 (p : Int)) := d1
            clear K ZX ZY hO hsame v1 v2 hp hpl hjl cc ne1 ne2 hbb b0 e0 l1 l2 HI hlt
            go_wp2_with fail
            refine wp_region_still_tail 7 (by kernel_rfl) (by kernel_rfl) ?_
            simp only [List.take_succ_cons, List.take_zero, List.drop_succ_cons, List.drop_zero]
            change wpStill _ _ w8.drew (fun a' => wpList _ _ _ _ a' w8.drew) _ _
            clear c0 c1 c2 c3 c4 d1
            generalize hw9 : w8.drew = w9 at HF hc0 hc1 hc2 hc3 hc4 hd1 ⊢
            have HW9 := Lib.hid hw9
            clear hw9
            repeat still_step
            refine wpStill_nil ?_
            go_wp2_with fail
            refine HF.out.mono ?_
            rintro e w10 ⟨rfl, X2, Y2, l1, l2, v1, v2, ZX, ZY, b9, hs9⟩
            have hw9 : w9 = w8.drew := HW9.out.symm
            have HIn : Hid (∃ X1 Y1 : List (BitVec 8), X1.length = n ∧ Y1.length = (pb (deg m t)) ∧ val X1 = val X ^^^ xs (H.take (j + 1)) >>> deg m t ∧ val Y1 = val Yc ^^^ xs (H.take (j + 1)) % 2 ^ deg m t ∧ Blk8 w10 gx X1 ∧ Blk8 w10 gy Y1 ∧ Below gx w7 w10 ∧ ∀ g, g ≠ gx → g ≠ gy → g < w7.heap.size → (World.heap w10)[g]? = w7.heap[g]?) := by
              refine ⟨X2, Y2, l1, l2, by rw [v1, HM.out.1], by rw [v2, HM.out.2], ZX, ZY, ?_, fun g g1 g2 g3 => ?_⟩
              · rw [hw9] at b9
                exact (HO.out.1.trans (((Drawn.mk w8 1).below gx).mono (Nat.le_refl _))).trans b9
              · have h9 : w9.heap = w8.heap := by rw [hw9]; rfl
                rw [hs9 g g1 g2 (by rw [h9]; exact Nat.lt_of_lt_of_le g3 HO.out.1.size), h9]
                exact HO.out.2 g g1 g2 g3
            clear HF HM HO v1 v2 ZX ZY b9 hs9 l1 l2 hw9 HW9 hc0 hc1 hc2 hc3 hc4 hd1
            go_wp2_with fail
            go_roundg (nh - (j + 1))
            case measure => have := HGh.out; have := HJ.out; omega
            case rel => exact ⟨j + 1, rfl, HJ.out, by go_num, HIn⟩
          · obtain rfl : j = nh := by omega
            have x1 : ¬ (j : Int) < (j : Int) := by omega
            have x2 : decide ((j : Int) < (j : Int)) = false := decide_eq_false x1
            have HE : Hid (RDecPost m t n (val X) (val Y) (dec m t (8 * n + deg m t) v) w (.returned (.tuple #[.slice (some ⟨gx, 0, none⟩) n n, .slice (some ⟨gy, 0, none⟩) (pb (deg m t)) (pb (deg m t)), .slice a3 j k3, .int .i64 0])) w8) := by
              rw [HD.out]
              obtain ⟨X1, Y1, l1, l2, v1, v2, ZX, ZY, hO, hsame⟩ := HI.out
              rw [show H.take j = H by rw [HHL.out]; exact List.take_length] at v1 v2
              have hR : RowZ w8 a3 j k3 (intsN H) := ⟨HKR.out.2.1.hlen, HKR.out.2.1.hcap, HKR.out.2.1.hmost, fun i hi => by
                obtain ⟨bb, off, e, cc, hb⟩ := HKR.out.2.1.row i hi
                obtain ⟨bb', off', e', ne1, ne2, hb', cc'⟩ := HRow.out i hi
                rw [e] at e'
                cases e'
                refine ⟨bb, off, e, ?_, Nat.lt_of_lt_of_le hb hO.size⟩
                rw [← cc]
                unfold World.cell?
                simp only
                rw [hsame bb ne1 ne2 hb]⟩
              have hB3 : w.heap.size ≤ gx := by rw [HGXe.out]; exact HB3w.out
              have hj2 : j = H.length := HHL.out
              rw [hj2] at hR ⊢
              refine ⟨HKR.out.2.2.2.trans (hO.mono hB3), gx, X1, gy, Y1, a3, k3, rfl, ZX, l1, ZY, l2, hR, v1, ?_⟩
              rw [v2, hYv, Nat.xor_mod_two_pow, Nat.mod_mod]
            clear HI
            go_wp2_with fail
            exact bodyPost_ret (v := .tuple #[.slice (some ⟨gx, 0, none⟩) n n, .slice (some ⟨gy, 0, none⟩) (pb (deg m t)) (pb (deg m t)), .slice a3 j k3, .int .i64 0]) (by simp [results, Tryz.results19, go_sem]) rfl (by rw [← HV.out]; exact HE.out)
      · have u1 : ((nh : Int) == (L : Int)) = false := by rw [beq_eq_false_iff_ne]; omega
        have HE : Hid (RDecPost m t n (val X) (val Y) (dec m t (8 * n + deg m t) v) w (.returned (.tuple #[.slice none 0 0, .slice none 0 0, .slice none 0 0, .int .i64 106])) w7) := by
          rw [HDd.out, if_neg hh]
          exact ⟨B, rfl⟩
        clear K ZX ZY B HB6 z2 HHl hh
        go_wp2_with fail
        exact bodyPost_ret (v := .tuple #[.slice none 0 0, .slice none 0 0, .slice none 0 0, .int .i64 106]) (by simp [results, Tryz.results19, go_sem]) rfl (by rw [← HV.out]; exact HE.out)
    · have HD := nobody _ hg HDc
      have HE : Hid (RDecPost m t n (val X) (val Y) (dec m t (8 * n + deg m t) v) w (.returned (.tuple #[.slice none 0 0, .slice none 0 0, .slice none 0 0, .int .i64 106])) w6) := by
        rw [HD]
        exact ⟨B, rfl⟩
      clear HD nobody K ZX ZY B HB6
      by_cases hLt : L ≤ t
      · have t1 : ¬ (t : Int) < (L : Int) := by omega
        have t2 : decide ((t : Int) < (L : Int)) = false := decide_eq_false t1
        have t3 : decide (t < L) = false := decide_eq_false (by omega)
        have t6 : ((np : Int) - 1 == (L : Int)) = false := by rw [beq_eq_false_iff_ne]; intro h; exact hg ⟨hLt, by omega⟩
        have t7 : (IntKind.i64.wrap ((np : Int) - 1) == (L : Int)) = false := by rw [IntWalk.i64_in _ (by omega)]; exact t6
        clear hg hLt
        go_wp2_with fail
        exact bodyPost_ret (v := .tuple #[.slice none 0 0, .slice none 0 0, .slice none 0 0, .int .i64 106]) (by simp [results, Tryz.results19, go_sem]) rfl (by rw [← HV.out]; exact HE.out)
      · have t1 : (t : Int) < (L : Int) := by omega
        have t2 : decide ((t : Int) < (L : Int)) = true := decide_eq_true t1
        have t3 : decide (t < L) = true := decide_eq_true (by omega)
        clear hg hLt
        go_wp2_with fail
        exact bodyPost_ret (v := .tuple #[.slice none 0 0, .slice none 0 0, .slice none 0 0, .int .i64 106]) (by simp [results, Tryz.results19, go_sem]) rfl (by rw [← HV.out]; exact HE.out)
end
end Go.Proofs.YthmfneepnkgmgaaGreatDoor.Dec
/- syndrome.Of where a length is wrong. By the verifier of shale. -/
namespace Go.Proofs.YthmfneepnkgmgaaGreatDoor.Syn
open Go Go.RowKit Bin Cos Enc Bits16
set_option linter.unusedVariables false
section
variable {m : Nat} [M : Pl.Mid m]
set_option maxRecDepth 100000 in
set_option maxHeartbeats 1000000 in
theorem of_bad {t n : Nat} (ht2 : t ≤ 40) (w : World) (s : Nat) (h : CodeAt m t n w s) (a : Option Addr) (na cap : Nat) (a' : Option Addr) (np cap' : Nat) (hbad : na ≠ n ∨ np ≠ pb (deg m t)) (y : Addr) (E : ErrAt w 0 y) :
    Calls Tryz.prog 60 #[.pointer (some ⟨s, 0, none⟩), .slice a na cap, .slice a' np cap'] w fun e w' => e = .returned (.tuple #[.slice none 0 0, errOf y]) ∧ Drawn w w' := by
  have HPB := Lib.hid (parityB_any w s h ht2)
  obtain ⟨P, hP⟩ : ∃ P, P = pb (deg m t) := ⟨_, rfl⟩
  rw [← hP] at HPB hbad
  by_cases hp : np = P
  · have hna : na ≠ n := by
      rcases hbad with h | h
      · exact h
      · exact absurd hp h
    have t1 : ((np : Int) == (P : Int)) = true := by rw [beq_iff_eq]; omega
    have HFb := Lib.hid (fast_bad w s h a na cap hna y E)
    clear hbad hp hP h E hna
    go_enter Tryz.func60, Tryz.ntmps60
    go_wp2_with fail
    refine HPB.out.mono ?_
    rintro e w' ⟨rfl, rfl⟩
    go_wp2_with fail
    refine HFb.out.mono ?_
    rintro e w' ⟨rfl, d⟩
    go_wp2_with fail
    go_ret2
    exact ⟨rfl, d⟩
  · have t1 : ((np : Int) == (P : Int)) = false := by rw [beq_eq_false_iff_ne]; omega
    have e1 := E.1
    unfold Sent at e1
    clear hbad hp hP h E
    go_enter Tryz.func60, Tryz.ntmps60
    go_wp2_with fail
    refine HPB.out.mono ?_
    rintro e w' ⟨rfl, rfl⟩
    go_wp2_with fail
    go_quiet (fail)
    have hd2 := Drawn.mk w nq
    go_wp2_with fail
    go_ret2
    exact ⟨rfl, hd2⟩
end
end Go.Proofs.YthmfneepnkgmgaaGreatDoor.Syn
/- Mending of words of a wrong length; in how many bits two lists differ. By the verifier of shale. -/
namespace Go.Proofs.YthmfneepnkgmgaaGreatDoor.Dec
open Go Go.RowKit Bin Pl Cos Enc Syn Loc Sea
set_option linter.unusedVariables false
section
variable {m : Nat} [M : Pl.Mid m]
set_option maxRecDepth 100000 in
set_option maxHeartbeats 1000000 in
theorem look_long {t n : Nat} {w : World} {db s wb : Nat} {y : Addr} (hD : decAt w db s) (C : CodeAt m t n w s) (ht40 : t ≤ 40) (E : ErrAt w 0 y) {a a' : Option Addr} {na nb ca ca' : Nat} {v3 v4 v5 : Value} (hW : wordAt w wb (.slice a na ca) (.slice a' nb ca') v3 v4 v5) (hbad : na ≠ n ∨ nb ≠ pb (deg m t)) :
    Calls Tryz.prog 34 #[.pointer (some ⟨db, 0, none⟩), .pointer (some ⟨wb, 0, none⟩)] w fun e w' => e = .returned (errOf y) ∧ Tn [wb] w w' [wb] := by
  have c0 := hD.cell
  obtain ⟨d0, d1, _⟩ := hW.cells
  have hdl := lt_of_block hD
  have hwl := lt_of_block hW
  have HS : Hid (∀ w', Below w.heap.size w w' → (w'.cell? ⟨db, 0, none⟩ = some (.pointer (some ⟨s, 0, none⟩)) ∧ w'.cell? ⟨wb, 0, none⟩ = some (.slice a na ca) ∧ w'.cell? ⟨wb, 1, none⟩ = some (.slice a' nb ca') ∧ Below w.heap.size w w')) := fun w' b =>
    ⟨(b.cell (p := ⟨db, 0, none⟩) hdl).trans c0, (b.cell (p := ⟨wb, 0, none⟩) hwl).trans d0, (b.cell (p := ⟨wb, 1, none⟩) hwl).trans d1, b⟩
  have HO : Hid (∀ w' (_ : w'.cell? ⟨db, 0, none⟩ = some (.pointer (some ⟨s, 0, none⟩)) ∧ w'.cell? ⟨wb, 0, none⟩ = some (.slice a na ca) ∧ w'.cell? ⟨wb, 1, none⟩ = some (.slice a' nb ca') ∧ Below w.heap.size w w'), Calls Tryz.prog 60 #[.pointer (some ⟨s, 0, none⟩), .slice a na ca, .slice a' nb ca'] w' fun e w'' => e = .returned (.tuple #[.slice none 0 0, errOf y]) ∧ (w''.cell? ⟨db, 0, none⟩ = some (.pointer (some ⟨s, 0, none⟩)) ∧ w''.cell? ⟨wb, 0, none⟩ = some (.slice a na ca) ∧ w''.cell? ⟨wb, 1, none⟩ = some (.slice a' nb ca') ∧ Below w.heap.size w w'')) := fun w' hs =>
    (of_bad (m := m) ht40 w' s (C.below hs.2.2.2) a na ca a' nb ca' hbad y (E.below hs.2.2.2)).mono fun e w'' h => ⟨h.1, HS.out w'' (hs.2.2.2.trans ((h.2.below w'.heap.size).mono hs.2.2.2.size))⟩
  have hS0 := HS.out w.drew ((Drawn.mk w 1).below _)
  have HW := Lib.hid hW
  clear hD C E hW hbad hdl hwl
  go_enter Tryz.func34, Tryz.ntmps34
  go_wp2_with fail
  go_region_held3 (fun w' => w'.cell? ⟨db, 0, none⟩ = some (.pointer (some ⟨s, 0, none⟩)) ∧ w'.cell? ⟨wb, 0, none⟩ = some (.slice a na ca) ∧ w'.cell? ⟨wb, 1, none⟩ = some (.slice a' nb ca') ∧ Below w.heap.size w w')
    (first | assumption | exact ⟨by assumption, by assumption, by assumption, by assumption⟩)
    (first
      | (go_at_call 60; refine Calls.mono (HO.out _ (by assumption)) ?_; rintro e w1 ⟨rfl, q1⟩))
  have b := q1.2.2.2
  have hW1 : wordAt w1 wb (.slice a na ca) (.slice a' nb ca') v3 v4 v5 := (b.block _ (lt_of_block HW.out)).trans HW.out
  have HT : Hid (Tn [wb] w (w1.setCell ⟨wb, 2, none⟩ (.slice none 0 0)) [wb]) := (Tn.below b).trans (Tn.setCell w1 _ _ (by simp))
  obtain ⟨_, _, k2, _, _, kf⟩ := hW1.cells
  have kf2 := kf 2
  clear hW1 b q1 kf hS0 c0 d0 d1 HS HO
  go_wp2_with fail
  go_ret
  exact ⟨rfl, HT.out⟩
set_option maxRecDepth 100000 in
set_option maxHeartbeats 2000000 in
theorem decode_long {t n : Nat} {w : World} {db s : Nat} {y : Addr} (hD : decAt w db s) (C : CodeAt m t n w s) (ht40 : t ≤ 40) (E : ErrAt w 0 y) {a a' : Option Addr} {na nb ca ca' : Nat} {X Y : List (BitVec 8)} (hX : Pol w a na ca X) (hY : Pol w a' nb ca' Y) (ha : na ≤ 100000) (hb : nb ≤ 100000) (hbad : na ≠ n ∨ nb ≠ pb (deg m t)) :
    Calls Tryz.prog 16 #[.pointer (some ⟨db, 0, none⟩), .slice a na ca, .slice a' nb ca'] w fun e w' => e = .returned (.tuple #[.slice none 0 0, .slice none 0 0, .slice none 0 0, errOf y]) ∧ Below w.heap.size w w' := by
  have HD := Lib.hid hD
  have HC := Lib.hid C
  have HE := Lib.hid E
  have HX := Lib.hid hX
  have HY := Lib.hid hY
  have HBd := Lib.hid hbad
  clear hD C E hX hY hbad
  go_enter Tryz.func16, Tryz.ntmps16
  go_wp2_with fail
  refine (clone_any _ _ _ _ _ HX.out ha).mono ?_
  rintro e w1 ⟨d1, k1, rfl, _, b1⟩
  have HB1 := Lib.hid b1
  clear b1
  go_wp2_with fail
  refine (clone_any _ _ _ _ _ (HY.out.below HB1.out) hb).mono ?_
  rintro e w2 ⟨d2, k2, rfl, _, b2⟩
  have HB2 := Lib.hid (HB1.out.trans (b2.mono HB1.out.size))
  clear b2 HB1
  go_wp2_with fail
  obtain ⟨w3, hw3⟩ : ∃ w3, w3 = ((w2.alloc (.cells #[.slice d1 na k1, .slice d2 nb k2, .slice none 0 0, .slice none 0 0, .slice none 0 0] 64 (0, 0))).alloc (.cells #[.func (.func 34) #[.pointer (some ⟨db, 0, none⟩)] #[], .func (.func 35) #[.pointer (some ⟨db, 0, none⟩)] #[], .func (.func 36) #[.pointer (some ⟨db, 0, none⟩)] #[], .func (.func 37) #[.pointer (some ⟨db, 0, none⟩)] #[], .func (.func 38) #[.pointer (some ⟨db, 0, none⟩)] #[]] 65 (0, 0))) := ⟨_, rfl⟩
  obtain ⟨wb, hwbE⟩ : ∃ wb, wb = w2.heap.size := ⟨_, rfl⟩
  have hb3 : Below w2.heap.size w2 w3 := by rw [hw3]; exact ((Below.refl _ _).alloc (Nat.le_refl _) _).alloc (by simp) _
  have hW3 : wordAt w3 wb (.slice d1 na k1) (.slice d2 nb k2) (.slice none 0 0) (.slice none 0 0) (.slice none 0 0) := by
    rw [hw3, hwbE]; exact (Below.heap_alloc _ _ _ (by simp)).trans (heap_alloc_new w2 _)
  have hS3 : stepsAt w3 (wb + 1) db := by
    rw [hw3, hwbE]
    have h := heap_alloc_new (w2.alloc (.cells #[.slice d1 na k1, .slice d2 nb k2, .slice none 0 0, .slice none 0 0, .slice none 0 0] 64 (0, 0))) (.cells #[.func (.func 34) #[.pointer (some ⟨db, 0, none⟩)] #[], .func (.func 35) #[.pointer (some ⟨db, 0, none⟩)] #[], .func (.func 36) #[.pointer (some ⟨db, 0, none⟩)] #[], .func (.func 37) #[.pointer (some ⟨db, 0, none⟩)] #[], .func (.func 38) #[.pointer (some ⟨db, 0, none⟩)] #[]] 65 (0, 0))
    rw [World.size_alloc] at h
    exact h
  have hB3 := HB2.out.trans (hb3.mono HB2.out.size)
  have hwb : w.heap.size ≤ wb := by rw [hwbE]; exact HB2.out.size
  rw [← hw3, ← hwbE]
  clear hw3 hwbE hb3 HB2
  have HL := Lib.hid (look_long (m := m) (keepB HD.out hB3) (HC.out.below hB3) ht40 (HE.out.below hB3) hW3 HBd.out)
  have HBB := Lib.hid (And.intro hB3 hwb)
  obtain ⟨s0, s1, s2, s3, s4⟩ := hS3.cells
  clear hW3 hS3 hB3 hwb
  refine wp_loop_rounds 6 ?_
  rw [rounds_succ]
  go_wp2_with fail
  refine HL.out.mono ?_
  rintro e w4 ⟨rfl, hT4⟩
  have HR : Hid (Below w.heap.size w w4) := tn_below HBB.out.1 hT4 HBB.out.2
  clear HL hT4 HBB s0 s1 s2 s3 s4
  go_wp2_with fail
  exact bodyPost_ret (v := .tuple #[.slice none 0 0, .slice none 0 0, .slice none 0 0, errOf y]) (by simp [results, Tryz.results16, go_sem]) rfl ⟨rfl, HR.out⟩
end
end Go.Proofs.YthmfneepnkgmgaaGreatDoor.Dec
/- A word whose syndromes are 0 is right: the generator's degree is the count of its zeros. By the verifier of shale. -/
namespace Go.Proofs.YthmfneepnkgmgaaGreatDoor.Dec
open Go Go.RowKit Bin Pl Cos Enc Syn Loc Sea
set_option linter.unusedVariables false
theorem leads_form (m : Nat) : ∀ t f, f ∈ leads m 1 2 t → ∃ k, k < t ∧ f = (1 + 2 * k) % sz m
  | 0, f, h => by simp [leads] at h
  | t + 1, f, h => by
    simp only [leads] at h
    split at h
    · obtain ⟨k, h1, h2⟩ := leads_form m t f h
      exact ⟨k, by omega, h2⟩
    · rcases List.mem_append.1 h with h | h
      · obtain ⟨k, h1, h2⟩ := leads_form m t f h
        exact ⟨k, by omega, h2⟩
      · simp at h
        exact ⟨t, by omega, h⟩
theorem flat_len (m : Nat) : ∀ l, (l.flatMap (cos m)).length = dgs m l
  | [] => rfl
  | f :: t => by rw [List.flatMap_cons, List.length_append, flat_len m t]; rfl
theorem leads_apart {m : Nat} (hm : 3 ≤ m) : ∀ t, ((leads m 1 2 t).flatMap (cos m)).Nodup
  | 0 => List.nodup_nil
  | t + 1 => by
    have hp := sz_lo hm
    simp only [leads]
    split
    · exact leads_apart hm t
    · rename_i h
      have hx : (1 + 2 * t) % sz m < sz m := Nat.mod_lt _ (by omega)
      generalize (1 + 2 * t) % sz m = x at h hx
      rw [List.flatMap_append]
      have e1 : [x].flatMap (cos m) = cos m x := by simp
      rw [e1, List.nodup_append]
      refine ⟨leads_apart hm t, cos_nodup m x, fun a ha b hb e => ?_⟩
      subst e
      obtain ⟨f, hf, hc⟩ := List.mem_flatMap.1 ha
      have hfl := leads_lt hm 1 2 t f hf
      have c1 := cos_same hm hfl hc
      have c2 := cos_same hm hx hb
      apply h
      unfold cov
      refine List.any_eq_true.2 ⟨f, hf, ?_⟩
      rw [List.contains_iff_mem, ← c1, c2]
      exact cos_first hm hx
section
variable {m : Nat} [M : Pl.Mid m]
theorem vv_orb {v f : Nat} (h : vv (m := m) v (Cos.xe m f) = 0) : ∀ j, vv (m := m) v (Cos.xe m (f * 2 ^ j)) = 0
  | 0 => by rw [Nat.pow_zero, Nat.mul_one]; exact h
  | j + 1 => by
    have e : f * 2 ^ (j + 1) = 2 * (f * 2 ^ j) := by rw [Nat.pow_succ, ← Nat.mul_assoc, Nat.mul_comm]
    rw [e, Syn.vv_sq, vv_orb h j, Pl.zero_mul]
theorem vv_root {t v : Nat} (h : ∀ i, i < 2 * t → Sv m v i = 0) {k : Nat} (hk : k ∈ (leads m 1 2 t).flatMap (cos m)) : vv (m := m) v (Cos.xe m k) = 0 := by
  obtain ⟨f, hf, hc⟩ := List.mem_flatMap.1 hk
  obtain ⟨q, hq, rfl⟩ := leads_form m t f hf
  obtain ⟨_, j, _, rfl⟩ := (mem_cos k).1 hc
  unfold orb
  rw [Enc.xe_mod]
  refine vv_orb ?_ j
  rw [Enc.xe_mod]
  have := h (2 * q) (by omega)
  unfold Sv at this
  rw [show 2 * q + 1 = 1 + 2 * q by omega] at this
  exact this
theorem few_zero {t d : Nat} (hd : d < 2 ^ deg m t) (h : ∀ i, i < 2 * t → Sv m d i = 0) : d = 0 := by
  refine Classical.byContradiction fun h0 => ?_
  have hb : d.testBit d.log2 = true := Nat.testBit_log2 h0
  have h1 : d.log2 < deg m t := by
    refine Classical.byContradiction fun hc => ?_
    rw [Nat.testBit_lt_two_pow (Nat.lt_of_lt_of_le hd (Nat.pow_le_pow_right (by decide) (by omega)))] at hb
    cases hb
  have h2 : d < 2 ^ (d.log2 + 1) := Nat.lt_log2_self
  have hg : Dg (bs m d) d.log2 := ⟨by show (if d.testBit d.log2 then (1 : El m) else 0) ≠ 0; rw [hb]; exact Fl.one_ne, bs_bd h2⟩
  have hn : (((leads m 1 2 t).flatMap (cos m)).map (Cos.xe m)).Nodup := by
    have lt : ∀ a, a ∈ (leads m 1 2 t).flatMap (cos m) → a < sz m := fun a ha => by
      obtain ⟨f, _, hc⟩ := List.mem_flatMap.1 ha
      exact ((mem_cos a).1 hc).1
    exact List.pairwise_map.2 (List.Pairwise.imp_of_mem (fun {a b} ha hb hne e => hne (Enc.xe_inj (lt a ha) (lt b hb) e)) (leads_apart M.lo t))
  have := roots_le d.log2 (bs m d) _ hg hn fun a ha => by
    obtain ⟨k, hk, rfl⟩ := List.mem_map.1 ha
    rw [vv_eq h2]
    exact vv_root h hk
  rw [List.length_map, flat_len] at this
  exact absurd h1 (Nat.not_lt.2 this)
/-- a word whose syndromes are 0 is right. -/
theorem right_of {t X Y : Nat} (hY : Y < 2 ^ deg m t) (h : ∀ i, i < 2 * t → Sv m (wrd (deg m t) X Y) i = 0) : Y = par m t X := by
  have e : Y ^^^ par m t X = 0 := few_zero (Nat.xor_lt_two_pow hY (par_lt t X)) fun i hi => by
    have h1 : Y ^^^ par m t X = wrd (deg m t) X Y ^^^ wrd (deg m t) X (par m t X) := by
      rw [← wrd_xor, Nat.xor_self]
      unfold wrd
      rw [Nat.zero_shiftLeft, Nat.zero_xor]
    rw [h1, Sv_xor, h i hi, Sv_right t X i hi, Fl.add_zero]
  have := congrArg (· ^^^ par m t X) e
  try simp only at this
  rwa [Nat.xor_assoc, Nat.xor_self, Nat.xor_zero, Nat.zero_xor] at this
/-- what is mended: a word e away from it, e few. -/
theorem dec_right {t N X Y : Nat} (hN : N ≤ Fld.size m) (ht : t ≤ 40) (hY : Y < 2 ^ deg m t) {l : List Nat} (h : dec m t N (wrd (deg m t) X Y) = some l) :
    ∃ e V, e < 2 ^ N ∧ l = plc e N ∧ pop e N ≤ t ∧ wrd (deg m t) X Y = wrd (deg m t) V (par m t V) ^^^ e := by
  obtain ⟨e, he, hl, hp, hs⟩ := dec_some hN ht h
  have hm : Y ^^^ e % 2 ^ deg m t < 2 ^ deg m t := Nat.xor_lt_two_pow hY (Nat.mod_lt _ (Nat.two_pow_pos _))
  have hw : wrd (deg m t) X Y ^^^ e = wrd (deg m t) (X ^^^ e >>> deg m t) (Y ^^^ e % 2 ^ deg m t) := by
    rw [wrd_xor]
    congr 1
    apply Nat.eq_of_testBit_eq
    intro i
    rw [wrd_bit (Nat.mod_lt _ (Nat.two_pow_pos _))]
    split
    · rename_i hi; rw [Nat.testBit_mod_two_pow]; simp [hi]
    · rename_i hi; rw [Nat.testBit_shiftRight]; congr 1; omega
  have hr := right_of (X := X ^^^ e >>> deg m t) hm fun i hi => by rw [← hw, Sv_xor, hs i hi, Fl.add_self]
  refine ⟨e, X ^^^ e >>> deg m t, he, hl, hp, ?_⟩
  rw [← hr, ← hw, Nat.xor_assoc, Nat.xor_self, Nat.xor_zero]
end
end Go.Proofs.YthmfneepnkgmgaaGreatDoor.Dec
/- How far two words lie apart, in two parts: for the walks of chapter 10. By the verifier of shale. -/
namespace Go.Proofs.YthmfneepnkgmgaaGreatDoor.Dec
open Go Go.RowKit Bin Pl Cos Enc Syn Loc Sea
set_option linter.unusedVariables false
theorem xor_cancel (a b : Nat) : a ^^^ (b ^^^ a) = b := by rw [Nat.xor_comm b a, ← Nat.xor_assoc, Nat.xor_self, Nat.zero_xor]
/-- the word of what two words differ by. -/
theorem apart_word {D n : Nat} {A X B Y : Nat} (hA : A < 2 ^ (8 * n)) (hX : X < 2 ^ (8 * n)) (hB : B < 2 ^ D) (hY : Y < 2 ^ D) :
    wrd D (A ^^^ X) (B ^^^ Y) < 2 ^ (8 * n + D) ∧ pop (wrd D (A ^^^ X) (B ^^^ Y)) (8 * n + D) = pop (A ^^^ X) (8 * n) + pop (B ^^^ Y) (8 * pb D) ∧ wrd D A B = wrd D X Y ^^^ wrd D (A ^^^ X) (B ^^^ Y) := by
  have h1 := Nat.xor_lt_two_pow hA hX
  have h2 := Nat.xor_lt_two_pow hB hY
  refine ⟨wrd_lt h1 h2, ?_, ?_⟩
  · rw [pop_wrd h2, pop_more h2 (b := 8 * pb D) (by unfold pb; omega)]
  · rw [wrd_xor, xor_cancel]
section
variable {m : Nat} [M : Pl.Mid m]
/-- a word that is mended: what was turned, in two parts. -/
theorem dec_parts {t n X Y : Nat} (hN : 8 * n + deg m t ≤ Fld.size m) (ht : t ≤ 40) (hX : X < 2 ^ (8 * n)) (hY : Y < 2 ^ deg m t) {l : List Nat} (h : dec m t (8 * n + deg m t) (wrd (deg m t) X Y) = some l) :
    ∃ e V, e < 2 ^ (8 * n + deg m t) ∧ l = plc e (8 * n + deg m t) ∧ pop e (8 * n + deg m t) ≤ t ∧ wrd (deg m t) X Y = wrd (deg m t) V (par m t V) ^^^ e ∧ V < 2 ^ (8 * n) ∧ pop (X ^^^ V) (8 * n) + pop (Y ^^^ par m t V) (8 * pb (deg m t)) = pop e (8 * n + deg m t) := by
  obtain ⟨e, V, he, hl, hp, hw⟩ := dec_right hN ht hY h
  have hq := par_lt (m := m) t V
  have hV : V < 2 ^ (8 * n) := by
    have h1 : wrd (deg m t) V (par m t V) < 2 ^ (8 * n + deg m t) := by
      have : wrd (deg m t) V (par m t V) = wrd (deg m t) X Y ^^^ e := by rw [hw, Nat.xor_assoc, Nat.xor_self, Nat.xor_zero]
      rw [this]
      exact Nat.xor_lt_two_pow (wrd_lt hX hY) he
    have h2 := shr_wrd (X := V) hq
    rw [← h2, Nat.shiftRight_eq_div_pow]
    rw [Nat.pow_add] at h1
    exact Nat.div_lt_of_lt_mul (by rw [Nat.mul_comm]; exact h1)
  obtain ⟨a1, a2, a3⟩ := apart_word (n := n) hX hV hY hq
  have e2 : wrd (deg m t) (X ^^^ V) (Y ^^^ par m t V) = e := by
    have := a3.symm.trans hw
    have h3 := congrArg (wrd (deg m t) V (par m t V) ^^^ ·) this
    try simp only at h3
    rwa [← Nat.xor_assoc, Nat.xor_self, Nat.zero_xor, ← Nat.xor_assoc, Nat.xor_self, Nat.zero_xor] at h3
  exact ⟨e, V, he, hl, hp, hw, hV, by rw [← a2, e2]⟩
/-- the one right word that is near. -/
theorem near_one {t N A V X e e' : Nat} {l : List Nat} (hN : N ≤ Fld.size m) (ht : t ≤ 40) (he : e < 2 ^ N) (he' : e' < 2 ^ N) (hp : pop e N ≤ t) (h : A = wrd (deg m t) X (par m t X) ^^^ e) (h' : A = wrd (deg m t) V (par m t V) ^^^ e') (hd : dec m t N A = some l) (hl : l = plc e' N) : V = X ∧ e' = e := by
  have h1 := dec_near (m := m) (X := X) hN ht he hp
  rw [← h, hd, hl] at h1
  have h2 : plc e' N = plc e N := by injection h1
  have h3 : e' = e := by
    have := congrArg xs h2
    rwa [xs_plc, xs_plc, Nat.mod_eq_of_lt he, Nat.mod_eq_of_lt he'] at this
  refine ⟨?_, h3⟩
  rw [h3] at h'
  have h4 := congrArg (· ^^^ e) (h'.symm.trans h)
  try simp only at h4
  rw [Nat.xor_assoc, Nat.xor_assoc, Nat.xor_self, Nat.xor_zero, Nat.xor_zero] at h4
  have h5 := congrArg (· >>> deg m t) h4
  try simp only at h5
  rwa [shr_wrd (par_lt t V), shr_wrd (par_lt t X)] at h5
end
end Go.Proofs.YthmfneepnkgmgaaGreatDoor.Dec
/- In how many bits two lists differ, whatever their lengths. By the verifier of shale. -/
namespace Go.Proofs.YthmfneepnkgmgaaGreatDoor.Dec
open Go Go.RowKit Bin Pl Cos Enc Syn Loc Sea
set_option linter.unusedVariables false
/-- in how many bits two lists differ; what one is longer by counts whole. -/
def ds (n1 n2 : Nat) (X Y : List (BitVec 8)) : Nat := 8 * (n1 - n2 + (n2 - n1)) + pop (val X ^^^ val Y) (8 * min n1 n2)
theorem ones_bits : ∀ c : BitVec 8, Lib.onesCount c.toNat = (if c.getLsbD 0 then 1 else 0) + (if c.getLsbD 1 then 1 else 0) + (if c.getLsbD 2 then 1 else 0) + (if c.getLsbD 3 then 1 else 0) + (if c.getLsbD 4 then 1 else 0) + (if c.getLsbD 5 then 1 else 0) + (if c.getLsbD 6 then 1 else 0) + (if c.getLsbD 7 then 1 else 0) := by decide +kernel
theorem ones_le : ∀ c : BitVec 8, Lib.onesCount c.toNat ≤ 8 := by decide +kernel
theorem pop_byte (X Y : List (BitVec 8)) (i : Nat) : pop (val X ^^^ val Y) (8 * (i + 1)) = pop (val X ^^^ val Y) (8 * i) + Lib.onesCount (nth8 X i ^^^ nth8 Y i).toNat := by
  have hb : ∀ j, j < 8 → (val X ^^^ val Y).testBit (8 * i + j) = (nth8 X i ^^^ nth8 Y i).getLsbD j := fun j hj => by
    rw [Nat.testBit_xor, val_bit, val_bit, show (8 * i + j) / 8 = i by omega, show (8 * i + j) % 8 = j by omega, BitVec.getLsbD_xor]
  rw [show 8 * (i + 1) = 8 * i + 7 + 1 by omega, pop_succ, show 8 * i + 7 = 8 * i + 6 + 1 by omega, pop_succ, show 8 * i + 6 = 8 * i + 5 + 1 by omega, pop_succ, show 8 * i + 5 = 8 * i + 4 + 1 by omega, pop_succ, show 8 * i + 4 = 8 * i + 3 + 1 by omega, pop_succ, show 8 * i + 3 = 8 * i + 2 + 1 by omega, pop_succ, show 8 * i + 2 = 8 * i + 1 + 1 by omega, pop_succ, show 8 * i + 1 = 8 * i + 0 + 1 by omega, pop_succ]
  rw [ones_bits, ← hb 0 (by decide), ← hb 1 (by decide), ← hb 2 (by decide), ← hb 3 (by decide), ← hb 4 (by decide), ← hb 5 (by decide), ← hb 6 (by decide), ← hb 7 (by decide)]
  simp only [Nat.add_assoc, Nat.add_zero]
theorem ds_swap (n1 n2 : Nat) (X Y : List (BitVec 8)) : ds n2 n1 Y X = ds n1 n2 X Y := by
  unfold ds
  rw [Nat.xor_comm (val Y), Nat.min_comm, Nat.add_comm (n2 - n1)]
theorem int_eq {a b : Int} (h : a = b) : Value.int .i64 a = Value.int .i64 b := by rw [h]
section
attribute [local go_sem] Bits32.bxor
theorem pol_cell {w : World} {a : Option Addr} {n c : Nat} {X : List (BitVec 8)} (h : Pol w a n c X) {i : Nat} (hi : i < n) : ∃ b o, a = some ⟨b, o, none⟩ ∧ w.cell? ⟨b, o + i, none⟩ = some (.int .u8 (Bits32.b (nth8 X i))) := by
  rcases h.hrow with h0 | ⟨b, o, e, hr, _⟩
  · omega
  · exact ⟨b, o, e, hr i (by have := h.hlen; omega)⟩
set_option maxRecDepth 100000 in
set_option maxHeartbeats 1000000 in
theorem dist_any (a a' : Option Addr) (n1 n2 c c' : Nat) (X Y : List (BitVec 8)) (h1 : n1 ≤ 10000) (h2 : n2 ≤ 10000) (w : World) (hX : Pol w a n1 c X) (hY : Pol w a' n2 c' Y) :
    Calls Tryz.prog 21 #[.slice a n1 c, .slice a' n2 c'] w fun e w' => e = .returned (.int .i64 (ds n1 n2 X Y : Int)) ∧ w = w' := by
  have HX := Lib.hid hX
  have HY := Lib.hid hY
  clear hX hY
  by_cases hlen : n1 < n2
  · have y1 : (n1 : Int) < (n2 : Int) := by omega
    have y2 : decide ((n1 : Int) < (n2 : Int)) = true := decide_eq_true y1
    have y3 : decide (n1 < n2) = true := decide_eq_true hlen
    have hln : n1 ≤ n2 := by omega
    have HE0 : Hid ((8 : Int) * ((n2 : Int) - (n1 : Int)) = ((8 * (n2 - n1) + pop (val Y ^^^ val X) (8 * 0) : Nat) : Int)) := by show _ = _; rw [show pop (val Y ^^^ val X) (8 * 0) = 0 from rfl]; omega
    obtain ⟨V, hV⟩ : ∃ V, V = val Y ^^^ val X := ⟨_, rfl⟩
    have HPB := Lib.hid (fun i => pop_byte Y X i)
    rw [← hV] at HE0
    have HV := Lib.hid hV
    have HPB2 : Hid (∀ i, pop V (8 * (i + 1)) = pop V (8 * i) + Lib.onesCount (nth8 Y i ^^^ nth8 X i).toNat) := fun i => by rw [hV]; exact HPB.out i
    have hDb : 8 * (n2 - n1) ≤ 80000 := by omega
    obtain ⟨dd, hdd⟩ : ∃ dd, dd = 8 * (n2 - n1) := ⟨_, rfl⟩
    rw [← hdd] at HE0 hDb
    have HDD := Lib.hid hdd
    clear hV HPB hdd
    go_enter Tryz.func21, Tryz.ntmps21
    go_wp2_with fail
    go_loopg [5, 23] n1 (fun gh s5 s23 wx => ∃ (i : Nat), gh = n1 - i ∧ i ≤ n1 ∧ s23 = .int .i64 (i : Int) ∧ s5 = .int .i64 ((dd + pop V (8 * i) : Nat) : Int) ∧ w = wx)
    case atStart => exact ⟨0, rfl, Nat.zero_le _, rfl, int_eq HE0.out, rfl⟩
    case round =>
      clear HE0
      obtain ⟨i, hg, hi, rfl, rfl, rfl⟩ := hrel
      have HG := Lib.hid hg
      clear hg
      have hp := pop_le V (8 * i)
      by_cases hlt : i < n1
      · have x1 : (i : Int) < (n1 : Int) := by omega
        have x2 : decide ((i : Int) < (n1 : Int)) = true := decide_eq_true x1
        have x0 : (0 : Int) ≤ (i : Int) := by omega
        have x3 : (i : Int) < (n2 : Int) := by omega
        have HJ : Hid (i + 1 ≤ n1) := hlt
        obtain ⟨b1, o1, rfl, d1⟩ := pol_cell HX.out hlt
        obtain ⟨b2, o2, rfl, d2⟩ := pol_cell HY.out (show i < n2 by omega)
        have hone := ones_le (nth8 Y i ^^^ nth8 X i)
        have HP := Lib.hid (HPB2.out i)
        have HO := Lib.hid (ones8_any (nth8 Y i ^^^ nth8 X i) w)
        generalize Lib.onesCount (nth8 Y i ^^^ nth8 X i).toNat = q at hone HP HO
        obtain ⟨p, hpp⟩ : ∃ p, p = pop V (8 * i) := ⟨_, rfl⟩
        rw [← hpp] at hp HP ⊢
        clear hpp hlt
        go_wp2_with fail
        refine HO.out.mono ?_
        rintro e w' ⟨rfl, rfl⟩
        go_wp2_with fail
        go_roundg (n1 - (i + 1))
        case measure => have := HG.out; have := HJ.out; omega
        case rel => exact ⟨i + 1, rfl, HJ.out, by go_num, int_eq (by rw [HP.out]; omega), rfl⟩
      · obtain rfl : i = n1 := by omega
        have x1 : ¬ (i : Int) < (i : Int) := by omega
        have HF : Hid (dd + pop V (8 * i) = ds i n2 X Y) := by
          show _ = _
          rw [HDD.out, HV.out]
          rw [← ds_swap]; unfold ds; rw [show min n2 i = i by omega, show n2 - i + (i - n2) = n2 - i by omega]
        clear hlt
        generalize dd + pop V (8 * i) = r at HF ⊢
        go_wp2_with fail
        go_ret
        rw [HF.out]
        exact ⟨rfl, rfl⟩
  · have y1 : ¬ (n1 : Int) < (n2 : Int) := by omega
    have y2 : decide ((n1 : Int) < (n2 : Int)) = false := decide_eq_false y1
    have y3 : decide (n1 < n2) = false := decide_eq_false hlen
    have hln : n2 ≤ n1 := by omega
    have HE0 : Hid ((8 : Int) * ((n1 : Int) - (n2 : Int)) = ((8 * (n1 - n2) + pop (val X ^^^ val Y) (8 * 0) : Nat) : Int)) := by show _ = _; rw [show pop (val X ^^^ val Y) (8 * 0) = 0 from rfl]; omega
    obtain ⟨V, hV⟩ : ∃ V, V = val X ^^^ val Y := ⟨_, rfl⟩
    have HPB := Lib.hid (fun i => pop_byte X Y i)
    rw [← hV] at HE0
    have HV := Lib.hid hV
    have HPB2 : Hid (∀ i, pop V (8 * (i + 1)) = pop V (8 * i) + Lib.onesCount (nth8 X i ^^^ nth8 Y i).toNat) := fun i => by rw [hV]; exact HPB.out i
    have hDb : 8 * (n1 - n2) ≤ 80000 := by omega
    obtain ⟨dd, hdd⟩ : ∃ dd, dd = 8 * (n1 - n2) := ⟨_, rfl⟩
    rw [← hdd] at HE0 hDb
    have HDD := Lib.hid hdd
    clear hV HPB hdd
    go_enter Tryz.func21, Tryz.ntmps21
    go_wp2_with fail
    go_loopg [5, 23] n2 (fun gh s5 s23 wx => ∃ (i : Nat), gh = n2 - i ∧ i ≤ n2 ∧ s23 = .int .i64 (i : Int) ∧ s5 = .int .i64 ((dd + pop V (8 * i) : Nat) : Int) ∧ w = wx)
    case atStart => exact ⟨0, rfl, Nat.zero_le _, rfl, int_eq HE0.out, rfl⟩
    case round =>
      clear HE0
      obtain ⟨i, hg, hi, rfl, rfl, rfl⟩ := hrel
      have HG := Lib.hid hg
      clear hg
      have hp := pop_le V (8 * i)
      by_cases hlt : i < n2
      · have x1 : (i : Int) < (n2 : Int) := by omega
        have x2 : decide ((i : Int) < (n2 : Int)) = true := decide_eq_true x1
        have x0 : (0 : Int) ≤ (i : Int) := by omega
        have x3 : (i : Int) < (n1 : Int) := by omega
        have HJ : Hid (i + 1 ≤ n2) := hlt
        obtain ⟨b1, o1, rfl, d1⟩ := pol_cell HY.out hlt
        obtain ⟨b2, o2, rfl, d2⟩ := pol_cell HX.out (show i < n1 by omega)
        have hone := ones_le (nth8 X i ^^^ nth8 Y i)
        have HP := Lib.hid (HPB2.out i)
        have HO := Lib.hid (ones8_any (nth8 X i ^^^ nth8 Y i) w)
        generalize Lib.onesCount (nth8 X i ^^^ nth8 Y i).toNat = q at hone HP HO
        obtain ⟨p, hpp⟩ : ∃ p, p = pop V (8 * i) := ⟨_, rfl⟩
        rw [← hpp] at hp HP ⊢
        clear hpp hlt
        go_wp2_with fail
        refine HO.out.mono ?_
        rintro e w' ⟨rfl, rfl⟩
        go_wp2_with fail
        go_roundg (n2 - (i + 1))
        case measure => have := HG.out; have := HJ.out; omega
        case rel => exact ⟨i + 1, rfl, HJ.out, by go_num, int_eq (by rw [HP.out]; omega), rfl⟩
      · obtain rfl : i = n2 := by omega
        have x1 : ¬ (i : Int) < (i : Int) := by omega
        have HF : Hid (dd + pop V (8 * i) = ds n1 i X Y) := by
          show _ = _
          rw [HDD.out, HV.out]
          unfold ds; rw [show min n1 i = i by omega, show n1 - i + (i - n1) = n1 - i by omega]
        clear hlt
        generalize dd + pop V (8 * i) = r at HF ⊢
        go_wp2_with fail
        go_ret
        rw [HF.out]
        exact ⟨rfl, rfl⟩
set_option maxRecDepth 100000 in
set_option maxHeartbeats 1000000 in
theorem rdist_any (a a' : Option Addr) (n1 n2 c c' : Nat) (X Y : List (BitVec 8)) (h1 : n1 ≤ 10000) (h2 : n2 ≤ 10000) (w : World) (hX : Pol w a n1 c X) (hY : Pol w a' n2 c' Y) :
    Calls Tryz.prog 22 #[.slice a n1 c, .slice a' n2 c'] w fun e w' => e = .returned (.int .i64 (ds n1 n2 X Y : Int)) ∧ w = w' := by
  have PX : PolV w n1 a n1 c (val X) := ⟨X, hX, rfl, Nat.le_refl _⟩
  have PY : PolV w n2 a' n2 c' (val Y) := ⟨Y, hY, rfl, Nat.le_refl _⟩
  have HD : Hid (ds n1 n2 X Y = 8 * (max n1 n2 - min n1 n2) + pop (val X ^^^ val Y) (8 * min n1 n2)) := by
    show _ = _
    unfold ds
    congr 2
    omega
  obtain ⟨U, hU⟩ : ∃ U, U = val X := ⟨_, rfl⟩
  obtain ⟨V, hV⟩ : ∃ V, V = val Y := ⟨_, rfl⟩
  rw [← hU] at PX
  rw [← hV] at PY
  rw [← hU, ← hV] at HD
  have HX := Lib.hid PX
  have HY := Lib.hid PY
  have p0 : pop (U ^^^ V) 0 = 0 := rfl
  have HP0 := Lib.hid p0
  obtain ⟨mn, hmn⟩ : ∃ mn, mn = min n1 n2 := ⟨_, rfl⟩
  obtain ⟨mx, hmx⟩ : ∃ mx, mx = max n1 n2 := ⟨_, rfl⟩
  rw [← hmn, ← hmx] at HD
  have e1 : min (n1 : Int) (n2 : Int) = (mn : Int) := by omega
  have e2 : max (n1 : Int) (n2 : Int) = (mx : Int) := by omega
  have e3 : (if (n2 : Int) < (n1 : Int) then (n2 : Int) else (n1 : Int)) = (mn : Int) := by split <;> omega
  have e4 : (if (n1 : Int) < (n2 : Int) then (n2 : Int) else (n1 : Int)) = (mx : Int) := by split <;> omega
  have e5 : (if n2 < n1 then (n2 : Int) else (n1 : Int)) = (mn : Int) := by split <;> omega
  have e6 : (if n1 < n2 then (n2 : Int) else (n1 : Int)) = (mx : Int) := by split <;> omega
  have m1 : mn ≤ n1 := by omega
  have m2 : mn ≤ n2 := by omega
  have m3 : mn ≤ mx := by omega
  have m4 : mx ≤ 10000 := by omega
  generalize hR : ds n1 n2 X Y = R at HD ⊢
  clear hU hV hX hY PX PY p0 hmn hmx hR
  go_enter Tryz.func22, Tryz.ntmps22
  go_wp2_with fail
  go_loopg [5, 6] (8 * mn) (fun gh s5 s6 wx => ∃ (k : Nat), gh = 8 * mn - k ∧ k ≤ 8 * mn ∧ s6 = .int .i64 (k : Int) ∧ s5 = .int .i64 (pop (U ^^^ V) k : Int) ∧ w = wx)
  case atStart => exact ⟨0, rfl, Nat.zero_le _, rfl, by rw [HP0.out]; rfl, rfl⟩
  case round =>
    clear HP0
    obtain ⟨k, hg, hk, rfl, rfl, rfl⟩ := hrel
    have HG := Lib.hid hg
    clear hg
    have hpk : pop (U ^^^ V) k ≤ k := pop_le _ _
    by_cases hlt : k < 8 * mn
    · have x1 : (k : Int) < 8 * (mn : Int) := by omega
      have x2 : decide ((k : Int) < 8 * (mn : Int)) = true := decide_eq_true x1
      have HB1 := Lib.hid (rBit HX.out k (by omega))
      have HB2 := Lib.hid (rBit HY.out k (by omega))
      have HPS := Lib.hid (pop_succ (U ^^^ V) k)
      rw [Nat.testBit_xor] at HPS
      have HI : Hid (k + 1 ≤ 8 * mn) := hlt
      have t1 : (bz (U.testBit k) == bz (V.testBit k)) = !(U.testBit k ^^ V.testBit k) := by cases U.testBit k <;> cases V.testBit k <;> rfl
      obtain ⟨p, hp⟩ : ∃ p, p = pop (U ^^^ V) k := ⟨_, rfl⟩
      rw [← hp] at hpk HPS ⊢
      clear hp hlt
      cases hx : (U.testBit k ^^ V.testBit k)
      · rw [hx] at HPS t1
        generalize bz (U.testBit k) = b1 at HB1 t1
        generalize bz (V.testBit k) = b2 at HB2 t1
        replace t1 : (b1 == b2) = true := t1
        clear hx
        go_wp2_with fail
        refine HB1.out.mono ?_
        rintro e w' ⟨rfl, rfl⟩
        go_wp2_with fail
        refine HB2.out.mono ?_
        rintro e w' ⟨rfl, rfl⟩
        go_wp2_with fail
        go_roundg (8 * mn - (k + 1))
        case measure => have := HG.out; have := HI.out; omega
        case rel => exact ⟨k + 1, rfl, HI.out, by go_num, by rw [HPS.out]; rfl, rfl⟩
      · rw [hx] at HPS t1
        generalize bz (U.testBit k) = b1 at HB1 t1
        generalize bz (V.testBit k) = b2 at HB2 t1
        replace t1 : (b1 == b2) = false := t1
        clear hx
        go_wp2_with fail
        refine HB1.out.mono ?_
        rintro e w' ⟨rfl, rfl⟩
        go_wp2_with fail
        refine HB2.out.mono ?_
        rintro e w' ⟨rfl, rfl⟩
        go_wp2_with fail
        go_roundg (8 * mn - (k + 1))
        case measure => have := HG.out; have := HI.out; omega
        case rel => exact ⟨k + 1, rfl, HI.out, by go_num, by rw [HPS.out]; rfl, rfl⟩
    · obtain rfl : k = 8 * mn := by omega
      have x1 : ¬ ((8 * mn : Nat) : Int) < 8 * (mn : Int) := by omega
      obtain ⟨p, hp⟩ : ∃ p, p = pop (U ^^^ V) (8 * mn) := ⟨_, rfl⟩
      rw [← hp] at hpk HD ⊢
      clear hp hlt
      have HR : Hid ((p : Int) + 8 * ((mx : Int) - (mn : Int)) = (R : Int)) := by show _ = _; rw [HD.out]; omega
      go_wp2_with fail
      go_ret
      rw [HR.out]
      exact ⟨rfl, rfl⟩
end
end Go.Proofs.YthmfneepnkgmgaaGreatDoor.Dec
/- What New refuses, by both sides, over all arguments. By the verifier of shale. -/
namespace Go.Proofs.YthmfneepnkgmgaaGreatDoor.Enc
open Go Go.RowKit Bin Cos
set_option linter.unusedVariables false
/-- an error and its number. -/
def SeeV (f : Nat → Addr) (v : Value) (c : Int) : Prop := (v = .nilIface ∧ c = 0) ∨ ∃ i, i < 19 ∧ v = errOf (f i) ∧ c = 101 + (i : Int)
theorem is_v {w : World} {f : Nat → Addr} (h : AllErrs w f) {v : Value} {c : Int} (s : SeeV f v c) : Calls Tryz.prog 20 #[v, .int .i64 c] w fun x w' => x = .returned (.bool true) ∧ Below w.heap.size w w' := by
  rcases s with ⟨rfl, rfl⟩ | ⟨i, hi, rfl, hc⟩
  · exact see_nil w
  · exact see_err w f h i hi c hc
section
variable {m : Nat} [M : Pl.Mid m]
end
end Go.Proofs.YthmfneepnkgmgaaGreatDoor.Enc
/- places: the unlike places that a statement of chapter 7 makes of any numbers. By the verifier of shale. -/
namespace Go.Proofs.YthmfneepnkgmgaaGreatDoor.Syn
open Go Go.RowKit Bin Cos Enc Bits16
set_option linter.unusedVariables false
theorem isrow_z {w : World} {a : Option Addr} {len cap : Nat} {zs : List Int} (h : IsRow .i64 w a len cap zs) : RowZ w a len (fun i => zs.getD i 0) ∧ len ≤ maxLen := by
  rcases h with ⟨rfl, rfl, rfl, rfl⟩ | ⟨x, rfl, hl, hm, hz, hc, hw⟩
  · exact ⟨fun i hi => by omega, Nat.zero_le _⟩
  · refine ⟨fun i hi => ?_, by omega⟩
    obtain ⟨bb, off, spot⟩ := x
    have c0 := hc i (by omega)
    obtain rfl : spot = none := by simpa [Addr.add] using World.cell?_spot (hc 0 (by omega))
    rw [add_row] at c0
    exact ⟨bb, off, rfl, c0, World.block_lt_of_cell? w _ c0⟩
theorem rowZ_below {w w' : World} {a : Option Addr} {n : Nat} {z : Nat → Int} (h : RowZ w a n z) (b : Below w.heap.size w w') : RowZ w' a n z := fun i hi => by
  obtain ⟨bb, off, e, c, hb⟩ := h i hi
  exact ⟨bb, off, e, (b.cell (p := ⟨bb, off + i, none⟩) hb).trans c, Nat.lt_of_lt_of_le hb b.size⟩
end Go.Proofs.YthmfneepnkgmgaaGreatDoor.Syn
