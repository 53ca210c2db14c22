/- Texts of the verifier of shale, laid into one: RefMul, RefDiv, RefGcd, RefXp, RefMin, RefMin2, MinFirst, RefGen, RefEnc, RefSer, EncFit, EncMade, EncMade2, SynMath, LocMath, LocRoots, RefPDiv, RefPDer, RefPRoots, RefPGcd, PolyFirst, LocOf, SeaMath, RangeOwn, RangeSep, FldOrd, FldTrace, SeaSteps, SeaRoots, SeaPlain, SeaRootsP, SeaOf, SeaOps, SeaFirst. -/
import Derived.Test.YthmfneepnkgmgaaGreatDoorGreat1
import Derived.Test.YthmfneepnkgmgaaGreatDoorGreat2
import Derived.Test.YthmfneepnkgmgaaGreatDoorGreat3
import Derived.StillTailTactics
import Derived.BigQuiet
import Derived.RangeFuncNested
import Derived.RangeFuncBound
import Derived.RangeFuncCalls
import Derived.RangeFuncLeaves
import Derived.Below
import Derived.Shelf.Abstract
import Derived.Shelf.RegionOpen
import Derived.WalkKit
import Derived.OwnWalkIn
import Derived.TacticsInMore
import Derived.LoopNIn
import Derived.LoopIn
import Derived.Deep.RegionHeld3
import Derived.Deep.LoopGhost
import Derived.Deep.Cut
import Derived.Maps.OwnIn
import Derived.Stop.RegionWithIn
/- shaleref2.BinMul. By the verifier of shale. -/
namespace Go.Proofs.YthmfneepnkgmgaaGreatDoor.Bin
open Go Go.RowKit
set_option linter.unusedVariables false
theorem degZ_cast {v : Nat} (h : v ≠ 0) : ∃ d : Nat, degZ v = (d : Int) ∧ Deg v d := ⟨v.log2, degZ_ne h, deg_of h⟩
/-- a bit of the second one added, i places up. -/
theorem mul_step (V v N i k : Nat) : (bitL (V ^^^ (v % 2 ^ k) <<< i) N).set (i + k) (bz ((V ^^^ (v % 2 ^ k) <<< i).testBit (i + k) ^^ v.testBit k)) = bitL (V ^^^ (v % 2 ^ (k + 1)) <<< i) N := by
  rw [bitL_set, mod_succ v k, shl_xor, Nat.xor_assoc]
  congr 3
  cases v.testBit k
  · simp
  · simp [Nat.shiftLeft_eq, ← Nat.pow_add, Nat.add_comm]
set_option maxRecDepth 100000 in
set_option maxHeartbeats 4000000 in
theorem rmulV {w : World} {k k' : Nat} {a a' : Option Addr} {n c n' c' u v : Nat} (K : Nat) (h1 : PolV w k a n c u) (h2 : PolV w k' a' n' c' v) (hk : k ≤ 200) (hk' : k' ≤ 200) (hK : k + k' ≤ K) :
    Calls Tryz.prog 92 #[.slice a n c, .slice a' n' c'] w fun e w' => ∃ a n c, e = .returned (.slice a n c) ∧ NewV w w' K a n c (pm u v) ∧ Below w.heap.size w w' := by
  have HK := Lib.hid (Nat.lt_of_lt_of_le (room_pm h1.lt h2.lt) (room_mono hK))
  obtain ⟨X, p1, rfl, n1⟩ := h1
  obtain ⟨Y, p2, rfl, n2⟩ := h2
  have HP1 := Lib.hid p1
  have HP2 := Lib.hid p2
  have hl1 := p1.hlen
  have hl2 := p2.hlen
  clear p1 p2
  by_cases z1 : val X = 0
  · have hd : degZ (val X) = -1 := by rw [z1]; rfl
    have HF : Hid (NewV w w K none 0 0 (pm (val X) (val Y))) := by
      show NewV _ _ _ _ _ _ _
      rw [z1, zero_pm]; exact newV_nil w K
    clear z1 hl1 hl2
    go_enter Tryz.func92, Tryz.ntmps92
    go_wp2_with fail
    refine (rdeg_any a n c X w HP1.out (by omega)).mono ?_
    rintro e w1 ⟨rfl, rfl⟩
    rw [hd]
    clear hd
    go_wp2_with fail
    refine (rdeg_any a' n' c' Y w HP2.out (by omega)).mono ?_
    rintro e w1 ⟨rfl, rfl⟩
    go_wp2_with fail
    go_ret
    exact ⟨none, 0, 0, rfl, HF.out, Below.refl _ _⟩
  · obtain ⟨d, hd, HD'⟩ := degZ_cast z1
    have HD := Lib.hid HD'
    have t1 : decide ((d : Int) < 0) = false := decide_eq_false (by omega)
    have bd : d ≤ 1600 := by have := deg_len z1; rw [HD'.log2] at this; omega
    clear HD'
    by_cases z2 : val Y = 0
    · have hd2 : degZ (val Y) = -1 := by rw [z2]; rfl
      have HF : Hid (NewV w w K none 0 0 (pm (val X) (val Y))) := by
        show NewV _ _ _ _ _ _ _
        rw [z2, pm_zero]; exact newV_nil w K
      clear z1 z2 hl1 hl2
      go_enter Tryz.func92, Tryz.ntmps92
      go_wp2_with fail
      refine (rdeg_any a n c X w HP1.out (by omega)).mono ?_
      rintro e w1 ⟨rfl, rfl⟩
      rw [hd]
      clear hd
      go_wp2_with fail
      refine (rdeg_any a' n' c' Y w HP2.out (by omega)).mono ?_
      rintro e w1 ⟨rfl, rfl⟩
      rw [hd2]
      clear hd2
      go_wp2_with fail
      go_ret
      exact ⟨none, 0, 0, rfl, HF.out, Below.refl _ _⟩
    · obtain ⟨d2, hd2, HD2'⟩ := degZ_cast z2
      have HD2 := Lib.hid HD2'
      have t2 : decide ((d2 : Int) < 0) = false := decide_eq_false (by omega)
      have bd2 : d2 ≤ 1600 := by have := deg_len z2; rw [HD2'.log2] at this; omega
      have HT : Hid (pm (val X) (val Y) < 2 ^ (d + d2 + 1)) := (deg_pm HD.out _ _ HD2').2
      obtain ⟨N, hN⟩ : ∃ N, N = d + d2 + 1 := ⟨_, rfl⟩
      have eN : (d : Int) + (d2 : Int) + 1 = (N : Int) := by omega
      rw [← hN] at HT
      have HN := Lib.hid hN
      have bN : N ≤ 4000 := by omega
      have hmk := made64 w N (by omega)
      rw [bitL_zero] at hmk
      have HB0 : Hid (Below w.heap.size w (w.alloc (obj64 (bitL 0 N)))) := (Below.refl _ _).alloc (Nat.le_refl _) _
      have HK0 : Hid (Blk64 (w.alloc (obj64 (bitL 0 N))) w.heap.size (bitL 0 N)) := Blk64.new w _
      clear z1 z2 hl1 hl2 HD2' hN
      go_enter Tryz.func92, Tryz.ntmps92
      go_wp2_with fail
      refine (rdeg_any a n c X w HP1.out (by omega)).mono ?_
      rintro e w1 ⟨rfl, rfl⟩
      rw [hd]
      clear hd
      go_wp2_with fail
      refine (rdeg_any a' n' c' Y w HP2.out (by omega)).mono ?_
      rintro e w1 ⟨rfl, rfl⟩
      rw [hd2]
      clear hd2
      go_wp2_with fail
      go_loopg [8, 9] (d + 1) (fun gh s8 s9 wx => ∃ (i : Nat), gh = d + 1 - i ∧ i ≤ d + 1 ∧ s8 = .int .i64 (i : Int) ∧ Blk64 wx w.heap.size (bitL (pm (val Y) (val X % 2 ^ i)) N) ∧ Below w.heap.size w wx)
      case atStart => exact ⟨0, rfl, by omega, rfl, by rw [Nat.pow_zero, Nat.mod_one, pm_zero]; exact HK0.out, HB0.out⟩
      case round =>
        clear hmk eN t1 t2
        obtain ⟨i, hg, hin, rfl, hk, hB⟩ := hrel
        have HG := Lib.hid hg
        clear hg
        by_cases hlt : i < d + 1
        · have x1 : decide ((i : Int) ≤ (d : Int)) = true := decide_eq_true (by omega)
          have x0 : (0 : Int) ≤ (i : Int) := by omega
          have HPX := Lib.hid (HP1.out.below hB)
          have HBX := Lib.hid (bitZ_bz X i)
          have HM := Lib.hid (mod_succ (val X) i)
          go_wp2_with fail
          refine (rbit_any a n c X (i : Int) wr HPX.out (by omega)).mono ?_
          rintro e w1 ⟨rfl, rfl⟩
          rw [HBX.out]
          rcases Bool.eq_false_or_eq_true ((val X).testBit i) with hb | hb
          · have HE : Hid (pm (val Y) (val X % 2 ^ (i + 1)) = pm (val Y) (val X % 2 ^ i) ^^^ (val Y % 2 ^ (d2 + 1)) <<< i) := by
              show _ = _
              rw [HM.out, hb, if_pos rfl, pm_xor_right, pm_pow, Nat.mod_eq_of_lt HD2.out.2]
            rw [hb]
            rw [show bz true = 1 from rfl]
            clear hb HM
            go_wp2_with fail
            obtain ⟨V, hV⟩ : ∃ V, V = pm (val Y) (val X % 2 ^ i) := ⟨_, rfl⟩
            rw [← hV] at hk HE
            have HVV := Lib.hid hV
            clear hV
            go_loopg [9] (d2 + 1) (fun gh s9 wx => ∃ (k : Nat), gh = d2 + 1 - k ∧ k ≤ d2 + 1 ∧ s9 = .int .i64 (k : Int) ∧ Blk64 wx w.heap.size (bitL (V ^^^ (val Y % 2 ^ k) <<< i) N) ∧ Below w.heap.size w wx)
            case atStart => exact ⟨0, rfl, by omega, rfl, by rw [Nat.pow_zero, Nat.mod_one, shl_zero, Nat.xor_zero]; exact hk, hB⟩
            case round =>
              clear hk hB HPX
              obtain ⟨k, hg, hkn, rfl, hk, hB⟩ := hrel
              have HG2 := Lib.hid hg
              clear hg
              by_cases hlt2 : k < d2 + 1
              · have y1 : decide ((k : Int) ≤ (d2 : Int)) = true := decide_eq_true (by omega)
                have y0 : (0 : Int) ≤ (k : Int) := by omega
                have hikN : i + k < N := by have := HN.out; omega
                have hk : Blk64 wr.drew w.heap.size (bitL (V ^^^ (val Y % 2 ^ k) <<< i) N) := hk
                have hB : Below w.heap.size w wr.drew := Below.drew hB
                go_wp2_with fail
                refine wp_region_still_tail 15 (by kernel_rfl) (by kernel_rfl) ?_
                simp only [List.take_succ_cons, List.take_zero, List.drop_succ_cons, List.drop_zero]
                change wpStill _ _ wr.drew (fun a' => wpList _ _ _ _ a' wr.drew) _ _
                generalize wr.drew = w2 at hk hB ⊢
                have c1 := hk.cell (i := i + k) (by rw [bitL_length]; exact hikN)
                rw [nth_bitL _ _ _ hikN] at c1
                have c2 := hk.free (i + k)
                have ex := bz_xor ((V ^^^ (val Y % 2 ^ k) <<< i).testBit (i + k)) ((val Y).testBit k)
                have HS := Lib.hid (Blk64.lay hk (mul_step V (val Y) N i k))
                have HSB : Hid (Below w.heap.size w (w2.setCell ⟨w.heap.size, i + k, none⟩ (.int .i64 (bz ((V ^^^ (val Y % 2 ^ k) <<< i).testBit (i + k) ^^ (val Y).testBit k))))) := hB.setCell (p := ⟨w.heap.size, i + k, none⟩) (Nat.le_refl _) _
                have HPY := Lib.hid (HP2.out.below hB)
                have HBY := Lib.hid (bitZ_bz Y k)
                have i4 : (i : Int) + (k : Int) < (N : Int) := by omega
                have i5 : (0 : Int) ≤ (i : Int) + (k : Int) := by omega
                have i2 : ((i : Int) + (k : Int)).toNat = i + k := by omega
                have i1 : IntKind.i64.wrap ((i : Int) + (k : Int)) = (i : Int) + (k : Int) := IntWalk.i64_in _ (by omega)
                generalize bz ((V ^^^ (val Y % 2 ^ k) <<< i).testBit (i + k) ^^ (val Y).testBit k) = b3 at ex HS HSB
                generalize bz ((V ^^^ (val Y % 2 ^ k) <<< i).testBit (i + k)) = b1 at c1 ex
                clear hk hB hlt hlt2
                repeat still_step
                still_call ((rbit_any a' n' c' Y (k : Int) w2 HPY.out (by omega)).mono fun _ _ h => ⟨h.1, h.2.symm⟩)
                rw [HBY.out]
                generalize bz ((val Y).testBit k) = b2 at ex ⊢
                repeat still_step
                refine wpStill_nil ?_
                go_wp2_with fail
                go_roundg (d2 + 1 - (k + 1))
                case measure => have := HG2.out; omega
                case rel => exact ⟨k + 1, rfl, by omega, by go_num, HS.out, HSB.out⟩
              · obtain rfl : k = d2 + 1 := by omega
                have y1 : decide (((d2 + 1 : Nat) : Int) ≤ (d2 : Int)) = false := decide_eq_false (by omega)
                rw [← HE.out] at hk
                go_wp2_with fail
                go_roundg (d + 1 - (i + 1))
                case measure => have := HG.out; omega
                case rel => exact ⟨i + 1, rfl, by omega, by go_num, hk, hB⟩
          · have HE : Hid (pm (val Y) (val X % 2 ^ (i + 1)) = pm (val Y) (val X % 2 ^ i)) := by
              show _ = _
              rw [HM.out, hb]; simp
            rw [hb]
            rw [show bz false = 0 from rfl]
            clear hb HM HPX
            go_wp2_with fail
            go_roundg (d + 1 - (i + 1))
            case measure => have := HG.out; omega
            case rel => exact ⟨i + 1, rfl, by omega, by go_num, by rw [HE.out]; exact hk, hB⟩
        · obtain rfl : i = d + 1 := by omega
          have x1 : decide (((d + 1 : Nat) : Int) ≤ (d : Int)) = false := decide_eq_false (by omega)
          have HE : Hid (pm (val Y) (val X % 2 ^ (d + 1)) = pm (val X) (val Y)) := by
            show _ = _
            rw [Nat.mod_eq_of_lt HD.out.2, pm_comm]
          rw [HE.out] at hk
          go_wp2_with fail
          refine (bits_any w.heap.size N N _ wr hk (by omega)).mono ?_
          rintro e w2 ⟨a3, n3, c3, Z, rfl, hZ, bZ, vZ, b2⟩
          have hF := newV (hZ.from hB.size) bZ (vZ.trans (by rw [Nat.mod_eq_of_lt HT.out])) K HK.out
          have hB2 := hB.trans (b2.mono hB.size)
          clear hZ bZ vZ b2 hB hk
          go_wp2_with fail
          go_ret
          exact ⟨a3, n3, c3, rfl, hF, hB2⟩
end Go.Proofs.YthmfneepnkgmgaaGreatDoor.Bin
/- shaleref2.BinDivMod. By the verifier of shale. -/
namespace Go.Proofs.YthmfneepnkgmgaaGreatDoor.Bin
open Go Go.RowKit
set_option linter.unusedVariables false
/-- where the division stands: what is left is below x^j. -/
structure Divs (u v e j Q L : Nat) : Prop where
  sum : u = pm Q v ^^^ L
  low : L < 2 ^ j
  free : ∀ t, t + e < j → Q.testBit t = false
theorem Divs.skip {u v e i Q L : Nat} (h : Divs u v e (i + 1) Q L) (hb : L.testBit i = false) : Divs u v e i Q L :=
  ⟨h.sum, lt_of_bit h.low hb, fun t ht => h.free t (by omega)⟩
theorem Divs.next {u v e s Q L : Nat} (h : Divs u v e (e + s + 1) Q L) (hv : Deg v e) (hb : L.testBit (e + s) = true) : Divs u v e (e + s) (Q ^^^ 2 ^ s) (L ^^^ (v % 2 ^ (e + 1)) <<< s) := by
  rw [Nat.mod_eq_of_lt hv.2]
  refine ⟨?_, clear_top h.low hb (shl_deg hv s), fun t ht => ?_⟩
  · rw [pm_xor_left, pow_pm, xx, ← h.sum]
    rw [Nat.xor_self, Nat.xor_zero]
  · rw [Nat.testBit_xor, h.free t (by omega), Nat.testBit_two_pow_of_ne (by omega)]; rfl
theorem divs_end {u v e j Q L : Nat} (h : Divs u v e j Q L) (hv : Deg v e) (hj : j ≤ e) : IsDiv u v Q L :=
  isDiv_of_lt hv h.sum (Nat.lt_of_lt_of_le h.low (Nat.pow_le_pow_right (by decide) hj))
theorem top_lt (v : Nat) : v < 2 ^ topE v := by
  unfold topE
  split
  · rename_i h; rw [h]; decide
  · exact Nat.lt_log2_self
theorem q_lt {u v q r N : Nat} (h0 : v ≠ 0) (h : IsDiv u v q r) (hu : u < 2 ^ N) : q < 2 ^ N := by
  by_cases hq : q = 0
  · rw [hq]; exact Nat.two_pow_pos _
  · have hd := deg_pm (deg_of hq) _ v (deg_of h0)
    have hp0 : pm q v ≠ 0 := pm_ne hq h0
    have hle : (pm q v).log2 ≤ u.log2 ∧ u ≠ 0 := by
      rcases h.2 with h1 | ⟨i, j, d1, d2, hij⟩
      · have := h.1
        rw [h1, Nat.xor_zero] at this
        rw [this]; exact ⟨Nat.le_refl _, hp0⟩
      · have hdv := deg_pm (deg_of hq) _ v d2
        have hr : r < 2 ^ (q.log2 + j) := lt_of_deg d1 (by omega)
        have := top_xor (q.log2 + j) r (pm q v) hr hdv.1 hdv.2
        rw [Nat.xor_comm, ← h.1] at this
        have hdu : Deg u (q.log2 + j) := this
        rw [hdu.log2, hdv.log2]
        exact ⟨Nat.le_refl _, by have := hdu.pos; omega⟩
    have h2 := (Nat.log2_lt hle.2).2 hu
    exact lt_of_deg (deg_of hq) (by rw [hd.log2] at hle; omega)
end Go.Proofs.YthmfneepnkgmgaaGreatDoor.Bin
/- shaleref2.BinGcd, Irreducible. By the verifier of shale. -/
namespace Go.Proofs.YthmfneepnkgmgaaGreatDoor.Bin
open Go Go.RowKit
set_option linter.unusedVariables false
theorem rdegV {w : World} {k : Nat} {a : Option Addr} {n c u : Nat} (h1 : PolV w k a n c u) (hk : k ≤ 1000) :
    Calls Tryz.prog 114 #[.slice a n c] w fun e w' => e = .returned (.int .i64 (degZ u)) ∧ w = w' := by
  obtain ⟨X, p1, rfl, n1⟩ := h1
  exact rdeg_any a n c X w p1 (by omega)
theorem NewV.fit {w0 w : World} {K k : Nat} {a : Option Addr} {n c v : Nat} (h : NewV w0 w K a n c v) (hv : v < room k) : NewV w0 w k a n c v := by
  obtain ⟨X, h1, h2, h3, h4⟩ := h
  exact newV h1 h2 h3 k hv
theorem NewV.since {w0 w w' : World} {K : Nat} {a : Option Addr} {n c v : Nat} (h : NewV w0 w K a n c v) (b : Below w.heap.size w w') : NewV w0 w' K a n c v := by
  obtain ⟨X, h1, h2, h3, h4⟩ := h
  exact ⟨X, h1.since b, h2, h3, h4⟩
theorem NewV.from {w0 w1 w : World} {K : Nat} {a : Option Addr} {n c v : Nat} (h : NewV w1 w K a n c v) (b : w0.heap.size ≤ w1.heap.size) : NewV w0 w K a n c v := by
  obtain ⟨X, h1, h2, h3, h4⟩ := h
  exact ⟨X, h1.from b, h2, h3, h4⟩
theorem pgcd_comm (a b : Nat) : pgcd a b = pgcd b a := pgcd_of (pgcd_is a b).comm
theorem degZ_one {g : Nat} (h : g ≠ 0) : degZ g = 0 ↔ g = 1 := by
  rw [degZ_ne h]
  constructor
  · intro h1
    have := (deg_of h).2
    rw [show g.log2 = 0 by omega] at this
    omega
  · intro h1; rw [h1]; rfl
theorem two_polV (w : World) : PolV (w.alloc (obj8 [2])) 1 (some ⟨w.heap.size, 0, none⟩) 1 1 2 ∧ Below w.heap.size w (w.alloc (obj8 [2])) :=
  ⟨⟨[2], ⟨rfl, Nat.le_refl _, by decide, (fun h => by cases h), Or.inr ⟨_, 0, rfl, (Blk8.new w [2]).row, by simp⟩⟩, rfl, Nat.le_refl _⟩, (Below.refl _ _).alloc (Nat.le_refl _) _⟩
end Go.Proofs.YthmfneepnkgmgaaGreatDoor.Bin
/- shaleref2.Of, Exponents. By the verifier of shale. -/
namespace Go.Proofs.YthmfneepnkgmgaaGreatDoor.Bin
open Go Go.RowKit
set_option linter.unusedVariables false
/-- the greatest one. -/
def mostL : List Nat → Nat
  | [] => 0
  | e :: l => max e (mostL l)
theorem mostL_snoc (l : List Nat) (e : Nat) : mostL (l ++ [e]) = max (mostL l) e := by
  induction l with
  | nil => simp [mostL]
  | cons a l ih => simp only [List.cons_append, mostL, ih]; omega
theorem mostL_le {l : List Nat} {M : Nat} (h : ∀ e ∈ l, e ≤ M) : mostL l ≤ M := by
  induction l with
  | nil => exact Nat.zero_le _
  | cons a l ih =>
    have h1 := h a (List.mem_cons_self ..)
    have h2 := ih fun e he => h e (List.mem_cons_of_mem _ he)
    simp only [mostL]; omega
theorem le_mostL {l : List Nat} {i : Nat} (h : i < l.length) : l.getD i 0 ≤ mostL l := by
  induction l generalizing i with
  | nil => simp at h
  | cons a l ih =>
    cases i with
    | zero => simp only [mostL, List.getD_cons_zero]; omega
    | succ i =>
      have := ih (i := i) (by simpa using h)
      simp only [mostL, List.getD_cons_succ]; omega
theorem xp_most (l : List Nat) : ∀ M, mostL l ≤ M → xp l < 2 ^ (M + 1) := by
  induction l with
  | nil => intro M _; exact Nat.two_pow_pos _
  | cons a l ih =>
    intro M h
    simp only [mostL] at h
    exact Nat.xor_lt_two_pow (Nat.pow_lt_pow_right (by decide) (by omega)) (ih M (by omega))
theorem room_pow {v d : Nat} (k : Nat) (h : v < 2 ^ d) (hk : d ≤ 8 * k) : v < room k := Nat.lt_of_lt_of_le h (Nat.pow_le_pow_right (by decide) hk)
theorem bz_flip (b : Bool) : bits .xor .i64 (bz b) 1 = bz (b ^^ true) := by cases b <;> rfl
set_option maxRecDepth 100000 in
set_option maxHeartbeats 2000000 in
theorem rofV (a : Option Addr) (n cap : Nat) (es : List Nat) (w : World) (h : RowN w a n es) (hn : n ≤ 100000) (hes : ∀ e ∈ es, e ≤ 2048) :
    Calls Tryz.prog 118 #[.slice a n cap] w fun e w' => ∃ a n c, e = .returned (.slice a n c) ∧ NewV w w' 300 a n c (xp es) ∧ Below w.heap.size w w' := by
  have HR := Lib.hid h
  have hlen := h.hlen
  have HLN := Lib.hid hlen
  obtain ⟨M, hM⟩ : ∃ M, M = mostL es := ⟨_, rfl⟩
  have hM2 : M ≤ 2048 := by rw [hM]; exact mostL_le hes
  have HM := Lib.hid hM
  have HX : Hid (xp es < 2 ^ (M + 1)) := by rw [hM]; exact xp_most es _ (Nat.le_refl _)
  have hmk := made64 w (M + 1) (by omega)
  rw [bitL_zero] at hmk
  have eM : ((M + 1 : Nat) : Int) = (M : Int) + 1 := by omega
  rw [eM] at hmk
  have HB0 : Hid (Below w.heap.size w (w.alloc (obj64 (bitL 0 (M + 1))))) := (Below.refl _ _).alloc (Nat.le_refl _) _
  have HK0 : Hid (Blk64 (w.alloc (obj64 (bitL 0 (M + 1)))) w.heap.size (bitL 0 (M + 1))) := Blk64.new w _
  clear h hlen hM hes eM
  go_enter Tryz.func118, Tryz.ntmps118
  go_wp2_with fail
  go_loopg [3, 4] n (fun gh s3 s4 wx => ∃ (i m : Nat), gh = n - i ∧ i ≤ n ∧ s4 = .int .i64 (i : Int) ∧ s3 = .int .i64 (m : Int) ∧ m ≤ M ∧ Hid (m = mostL (es.take i)) ∧ w = wx)
  case atStart => exact ⟨0, 0, rfl, by omega, rfl, rfl, by omega, rfl, rfl⟩
  case round =>
    obtain ⟨i, m, hg, hin, rfl, rfl, hmM, HS, rfl⟩ := hrel
    have HG := Lib.hid hg
    clear hg
    by_cases hlt : i < n
    · have x1 : (i : Int) < (n : Int) := by omega
      have x0 : (0 : Int) ≤ (i : Int) := by omega
      obtain ⟨bb, off, rfl, c1, hb⟩ := HR.out.row i hlt
      have hie : i < es.length := by have := HLN.out; omega
      have HS2 : Hid (max m (es.getD i 0) = mostL (es.take (i + 1))) := by
        show _ = _
        rw [take_getD es i hie, mostL_snoc, HS.out]
      have hq2 : es.getD i 0 ≤ M := by rw [HM.out]; exact le_mostL hie
      generalize es.getD i 0 = q at c1 HS2 hq2
      obtain ⟨m2, hm2⟩ : ∃ m2, m2 = max m q := ⟨_, rfl⟩
      have e2 : max (m : Int) (q : Int) = (m2 : Int) := by omega
      rw [← hm2] at HS2
      have hm2M : m2 ≤ M := by omega
      clear hb hie HS hm2 hmk
      go_wp2_with fail
      go_roundg (n - (i + 1))
      case measure => have := HG.out; omega
      case rel => exact ⟨i + 1, m2, rfl, by omega, by go_num, rfl, hm2M, HS2.out, rfl⟩
    · obtain rfl : i = n := by omega
      obtain rfl : m = M := by rw [HS.out, HM.out, List.take_of_length_le (by have := HLN.out; omega)]
      clear HS
      go_wp2_with fail
      clear hmk
      go_loopg [6] i (fun gh s6 wx => ∃ (k : Nat), gh = i - k ∧ k ≤ i ∧ s6 = .int .i64 (k : Int) ∧ Blk64 wx w.heap.size (bitL (xp (es.take k)) (m + 1)) ∧ Below w.heap.size w wx)
      case atStart => exact ⟨0, rfl, by omega, rfl, HK0.out, HB0.out⟩
      case round =>
        clear HK0 HB0
        obtain ⟨k, hg, hki, rfl, hk, hB⟩ := hrel
        have HG2 := Lib.hid hg
        clear hg
        by_cases hlt2 : k < i
        · have x1 : (k : Int) < (i : Int) := by omega
          have x0 : (0 : Int) ≤ (k : Int) := by omega
          have hk : Blk64 wr.drew w.heap.size (bitL (xp (es.take k)) (m + 1)) := hk
          have hB : Below w.heap.size w wr.drew := Below.drew hB
          go_wp2_with fail
          refine wp_region_still_tail 14 (by kernel_rfl) (by kernel_rfl) ?_
          simp only [List.take_succ_cons, List.take_zero, List.drop_succ_cons, List.drop_zero]
          change wpStill _ _ wr.drew (fun a' => wpList _ _ _ _ a' wr.drew) _ _
          generalize wr.drew = w2 at hk hB ⊢
          obtain ⟨bb, off, rfl, c1, hb⟩ := (HR.out.below hB).row k hlt2
          have hie : k < es.length := by have := HLN.out; omega
          have hq2 : es.getD k 0 ≤ m := by rw [HM.out]; exact le_mostL hie
          have HT : Hid (xp (es.take (k + 1)) = xp (es.take k) ^^^ 2 ^ es.getD k 0) := by
            show _ = _
            rw [take_getD es k hie, xp_append]; simp [xp]
          generalize es.getD k 0 = q at c1 hq2 HT
          have v1 := hk.cell (i := q) (by rw [bitL_length]; omega)
          rw [nth_bitL _ _ _ (by omega)] at v1
          have v2 := hk.free q
          have ex := bz_flip ((xp (es.take k)).testBit q)
          have HS := Lib.hid (Blk64.lay hk (bitL_set (xp (es.take k)) (m + 1) q true))
          have HSB : Hid (Below w.heap.size w (w2.setCell ⟨w.heap.size, q, none⟩ (.int .i64 (bz ((xp (es.take k)).testBit q ^^ true))))) := hB.setCell (p := ⟨w.heap.size, q, none⟩) (Nat.le_refl _) _
          have i1 : (q : Int) < (m : Int) + 1 := by omega
          generalize bz ((xp (es.take k)).testBit q ^^ true) = b3 at ex HS HSB
          generalize bz ((xp (es.take k)).testBit q) = b1 at v1 ex
          have HS2 : Hid (Blk64 (w2.setCell ⟨w.heap.size, q, none⟩ (.int .i64 b3)) w.heap.size (bitL (xp (es.take (k + 1))) (m + 1))) := by
            have := HS.out
            rw [if_pos rfl, ← HT.out] at this
            exact this
          clear hk hB hb hie HS
          repeat still_step
          refine wpStill_nil ?_
          go_wp2_with fail
          go_roundg (i - (k + 1))
          case measure => have := HG2.out; omega
          case rel => exact ⟨k + 1, rfl, by omega, by go_num, HS2.out, HSB.out⟩
        · obtain rfl : k = i := by omega
          rw [List.take_of_length_le (by have := HLN.out; omega)] at hk
          go_wp2_with fail
          refine (bits_any w.heap.size (m + 1) (m + 1) _ wr hk (by omega)).mono ?_
          rintro e w3 ⟨a3, n3, c3, Z, rfl, hZ, bZ, vZ, b2⟩
          have hv : val Z = xp es := vZ.trans (Nat.mod_eq_of_lt HX.out)
          have hroom : xp es < room 300 := room_pow 300 HX.out (by omega)
          have hF := newV (hZ.from hB.size) bZ hv 300 hroom
          have hB2 := hB.trans (b2.mono hB.size)
          clear hZ bZ vZ b2 hB hk hv hroom
          go_wp2_with fail
          go_ret
          exact ⟨a3, n3, c3, rfl, hF, hB2⟩
end Go.Proofs.YthmfneepnkgmgaaGreatDoor.Bin
/- The reference's FromRoots and Minimal. By the verifier of shale. -/
namespace Go.Proofs.YthmfneepnkgmgaaGreatDoor.Cos
open Go Go.RowKit Pl
set_option linter.unusedVariables false
section
variable {m : Nat} [M : Mid m]
theorem sr_lin2 (z : Int) : sr m [z, 1] = lin (elm m z) := by
  funext i
  show elm m (([z, 1] : List Int).getD i 0) = if i = 0 then elm m z else if i = 1 then 1 else 0
  rcases i with _ | _ | i
  · rfl
  · rw [if_neg (by omega), if_pos rfl]; exact elm_zn (1 : El m)
  · rw [if_neg (by omega), if_neg (by omega)]; exact elm_zero
set_option maxRecDepth 100000 in
set_option maxHeartbeats 1000000 in
theorem rfrom_any (a : Option Addr) (n cap : Nat) (l : List Int) (w : World) (h : RowZ w a n cap l) (hn : n ≤ 20) :
    Calls Tryz.prog 117 #[.int .i64 (m : Int), .slice a n cap] w
      fun e w' => ∃ a' n' c', e = .returned (.slice a' n' c') ∧ NV m w' (n + 1) a' n' c' (pls l n) ∧ Below w.heap.size w w' := by
  go_enter Tryz.func117, Tryz.ntmps117
  go_wp2_with fail
  generalize hw : w.alloc (.cells #[.int .i64 1] 3 (0, 0)) = w2
  obtain ⟨hr, B⟩ := lit_row w w2 [1] 1 rfl (by decide) hw.symm
  clear hw
  replace h := h.below B
  have e0 : nums (pls (m := m) l 0) 1 = [1] := by
    show [zn (pls (m := m) l 0 0)] = [1]
    have e : pls (m := m) l 0 0 = 1 := by show (if (0 : Nat) = 0 then (1 : El m) else 0) = 1; rw [if_pos rfl]
    rw [e]; rfl
  have P : NV m w2 1 (some ⟨w.heap.size, 0, none⟩) 1 1 (pls l 0) := ⟨by rw [e0]; exact hr, pls_bd _ 0, top_dg' (pls_bd _ 0) (pls_dg _ 0), Nat.le_refl _⟩
  clear hr e0
  generalize (some ⟨w.heap.size, 0, none⟩ : Option Addr) = ap at P ⊢
  have HS : Hid (RowZ w2 a n cap l ∧ Below w.heap.size w w2) := ⟨h, B⟩
  have HP := Lib.hid P
  clear h B P
  go_loopg [5, 6] n (fun gh s5 s6 wx => ∃ (k : Nat) (ax : Option Addr) (nx cx : Nat), gh = n - k ∧ k ≤ n ∧ s6 = .int .i64 (k : Int) ∧ s5 = .slice ax nx cx ∧ Hid (NV m wx (k + 1) ax nx cx (pls l k)) ∧ Hid (RowZ wx a n cap l ∧ Below w.heap.size w wx))
  case atStart => exact ⟨0, ap, 1, 1, rfl, Nat.zero_le _, rfl, rfl, HP, HS⟩
  case round =>
    clear HP HS
    obtain ⟨k, ax, nx, cx, hg, hk, rfl, rfl, HP, HS⟩ := hrel
    have HG := Lib.hid hg
    clear hg
    by_cases hlt : k < n
    · have x1 : (k : Int) < (n : Int) := by omega
      have x0 : (0 : Int) ≤ (k : Int) := by omega
      obtain ⟨bb, off, rfl, d1, _⟩ := HS.out.1.row k hlt
      obtain ⟨z, hz⟩ : ∃ z, z = l.getD k 0 := ⟨_, rfl⟩
      rw [← hz] at d1
      have HZ := Lib.hid hz
      clear hz
      go_wp2_with fail
      generalize hw : wr.alloc (.cells #[.int .i64 z, .int .i64 1] 3 (0, 0)) = w4
      obtain ⟨hr, b⟩ := lit_row wr w4 [z, 1] 2 rfl (by decide) hw.symm
      clear hw d1
      have hnx := HP.out.le
      refine (rtimes_any (m := m) ax nx cx _ _ 2 2 [z, 1] w4 (HP.out.row.below b) hr (by omega) (by omega)).mono ?_
      rintro e w5 ⟨a5, n5, c5, rfl, h5, b5⟩
      rw [sr_nums HP.out.bd, sr_lin2] at h5
      have e : pls l (k + 1) = cv (pls l k) (lin (elm m z)) := by show cv _ (lin (elm m (l.getD k 0))) = _; rw [← HZ.out]
      have HP5 : Hid (NV m w5 (k + 1 + 1) a5 n5 c5 (pls l (k + 1))) := by
        rw [e]
        exact routV h5 (e ▸ pls_bd l (k + 1))
      have b45 := b.trans (b5.mono b.size)
      have HS5 : Hid (RowZ w5 (some ⟨bb, off, none⟩) n cap l ∧ Below w.heap.size w w5) := ⟨HS.out.1.below b45, HS.out.2.trans (b45.mono HS.out.2.size)⟩
      clear h5 b b5 b45 hr HS HP e
      go_wp2_with fail
      go_roundg (n - (k + 1))
      case measure => have := HG.out; omega
      case rel => exact ⟨k + 1, a5, n5, c5, rfl, by omega, by go_num, rfl, HP5, HS5⟩
    · obtain rfl : k = n := by omega
      go_wp2_with fail
      go_ret
      exact ⟨ax, nx, cx, rfl, HP.out, HS.out.2⟩
theorem xp_nb (p : Nat → Bool) : ∀ n, Bin.xp ((List.range n).filter p) = nb p n
  | 0 => rfl
  | n + 1 => by
    rw [range_filter_snoc, Bin.xp_append, xp_nb p n]
    simp only [nb]
    by_cases h : p n = true
    · rw [if_pos h, if_pos h]
      have h1 := nb_lt p n
      show nb p n ^^^ (2 ^ n ^^^ 0) = nb p n + 2 ^ n
      rw [Nat.xor_zero]
      apply Nat.eq_of_testBit_eq
      intro i
      rw [Nat.testBit_xor, Nat.testBit_two_pow]
      have h2 : (nb p n + 2 ^ n).testBit i = (nb p (n + 1)).testBit i := by simp only [nb]; rw [if_pos h]
      rw [h2, nb_bit, nb_bit]
      by_cases e : n = i
      · subst e; simp [h]
      · by_cases h3 : i < n
        · simp [h3, e, show i < n + 1 by omega]
        · simp [h3, e, show ¬ i < n + 1 by omega]
    · rw [if_neg h, if_neg h]
      show nb p n ^^^ 0 = nb p n + 0
      rw [Nat.xor_zero, Nat.add_zero]
end
end Go.Proofs.YthmfneepnkgmgaaGreatDoor.Cos
/- The reference's Minimal. By the verifier of shale. -/
namespace Go.Proofs.YthmfneepnkgmgaaGreatDoor.Cos
open Go Go.RowKit Bits16
set_option linter.unusedVariables false
section
variable {m : Nat} [M : Pl.Mid m]
theorem exl_snoc (l : List Nat) (j : Nat) : exl m (l ++ [j]) = exl m l ++ [Pl.zn (xe m j)] := by unfold exl; rw [List.map_append]; rfl
set_option maxRecDepth 100000 in
set_option maxHeartbeats 1000000 in
theorem rminimal_any (i : Int) (w : World) :
    Calls Tryz.prog 93 #[.int .i64 (m : Int), .int .i64 i] w
      fun e w' => ∃ a n c, e = .returned (.slice a n c) ∧ Bin.NewV w w' 300 a n c (mpv m (rs m i)) ∧ Below w.heap.size w w' := by
  obtain ⟨i0, hi, hz0, hz1, hz2⟩ := info64
  have hf := rs_lt M.lo i
  obtain ⟨f, hfe⟩ : ∃ f, f = rs m i := ⟨_, rfl⟩
  rw [← hfe] at hf ⊢
  have HFE := Lib.hid hfe
  have HF := Lib.hid hf
  have hlen := cos_len_le M.lo hf
  have hm14 := M.hi
  clear hfe hf
  go_enter Tryz.func93, Tryz.ntmps93
  go_wp2_with fail
  refine (rcoset_any m M.lo M.hi i w).mono ?_
  rintro e w1 ⟨a1, n1, c1, rfl, hO, B⟩
  rw [← HFE.out] at hO
  have hl := hO.len
  rw [ints_length] at hl
  obtain rfl : n1 = (cos m f).length := hl.symm
  have Rc := (Pl.own_rowz hO).1
  clear hO hl
  obtain ⟨L, hL⟩ : ∃ L, L = (cos m f).length := ⟨_, rfl⟩
  rw [← hL] at Rc hlen ⊢
  have HL := Lib.hid hL
  clear hL
  go_wp2_with fail
  go_loopg [6, 7] L (fun gh s6 s7 wx => ∃ (k : Nat), gh = L - k ∧ k ≤ L ∧ s7 = .int .i64 (k : Int) ∧ Own64 wx w1.heap.size s6 k (exl m ((cos m f).take k)) ∧ Below w1.heap.size w1 wx)
  case atStart => exact ⟨0, rfl, Nat.zero_le _, rfl, Own64.nil _ _, Below.refl _ _⟩
  case round =>
    obtain ⟨k, hg, hk, rfl, hO, hB⟩ := hrel
    have HG := Lib.hid hg
    clear hg
    obtain ⟨av, cv, rfl⟩ := own_slice hO
    have hbs := hB.size
    by_cases hlt : k < L
    · have x1 : (k : Int) < (L : Int) := by omega
      have x0 : (0 : Int) ≤ (k : Int) := by omega
      have hkc : k < (cos m f).length := by rw [← HL.out]; exact hlt
      obtain ⟨bb, off, rfl, d1, _⟩ := (Rc.below hB).row k hlt
      obtain ⟨j, hj⟩ : ∃ j, j = (cos m f).getD k 0 := ⟨_, rfl⟩
      have ej : (ints (cos m f)).getD k 0 = (j : Int) := by
        rw [hj]
        unfold ints
        rw [List.getD_eq_getElem?_getD, List.getElem?_map, List.getD_eq_getElem?_getD, List.getElem?_eq_getElem hkc]; rfl
      rw [ej] at d1
      have HFx : Hid (exl m ((cos m f).take (k + 1)) = exl m ((cos m f).take k) ++ [Pl.zn (xe m j)]) := by
        show _ = _
        rw [take_snocN _ k hkc, exl_snoc, ← hj]
      have HO := Lib.hid hO
      have HB := Lib.hid hB
      clear hj ej hkc hO hB
      go_wp2_with fail
      refine (Fld.rexp_any m M.lo M.hi (j : Int) wr).mono ?_
      rintro e w5 ⟨rfl, b5⟩
      rw [show Bits16.h (Fld.pwZ m (j : Int)) = Pl.zn (xe m j) from rfl]
      have ho5 : Own64 w5 w1.heap.size (.slice av k cv) k (exl m ((cos m f).take k)) := HO.out.keep fun g hg => b5.block g (HO.out.block g hg).2
      have hB5 := HB.out.trans (b5.mono hbs)
      have hbs5 := hB5.size
      generalize Pl.zn (xe m j) = z at HFx ⊢
      clear b5 d1
      go_wp2_with (at_builtin; refine wpList_append_own _ rfl _ _ 33 rfl w1.heap.size 3 i0 (.int .i64 0) 1 8 Tryz.underlying33 hi hz0 hz1 hz2 rfl (by decide) _ k _ rfl (World.ownsRow.alloc ho5 _) ⟨w5.heap.size, 0, none⟩ 1 1 [.int .i64 z] rfl rfl (cell_one_new _ _ _) (ints_oneCell .i64 [_]) (by unfold maxLen; omega) (by omega) (by simp; omega) ?_; intro v7 w7 hown7 hgrow _)
      have ho7 : Own64 w7 w1.heap.size v7 (k + 1) (exl m ((cos m f).take (k + 1))) := by
        unfold Own64
        rw [HFx.out, ← cells64_append]
        exact hown7
      have b7 : Below w1.heap.size w1 w7 := (hB5.alloc hbs5 _).grown hgrow (by simp; omega) (fun g hg => (ho5.block g hg).1)
      clear hown7 hgrow ho5 hB5 HO HB
      go_wp2_with fail
      go_roundg (L - (k + 1))
      case measure => have := HG.out; omega
      case rel => exact ⟨k + 1, rfl, by omega, by go_num, ho7, b7⟩
    · obtain rfl : k = L := by omega
      rw [List.take_of_length_le (by rw [← HL.out]; exact Nat.le_refl _)] at hO
      have Rr := (Pl.own_rowz hO).1
      have B2 := B.trans (hB.mono B.size)
      clear hO hB B Rc hlt
      go_wp2_with fail
      refine (rfrom_any (m := m) av k cv _ wr Rr (by omega)).mono ?_
      rintro e w5 ⟨ap, np, cp, rfl, P, b5⟩
      have hPS : Pl.pls (exl m (cos m f)) k = mpS m f := by rw [HL.out]; rfl
      rw [hPS] at P
      have hnp : np = k + 1 := by
        rw [← P.top, HL.out, Pl.top_same P.bd (mpS_dg f).2]
        exact Pl.top_dg (mpS_dg f)
      subst hnp
      have RP := P.row
      replace B2 := B2.trans (b5.mono B2.size)
      clear P b5 Rr hPS
      obtain ⟨W5, rfl⟩ : ∃ W5, W5 = w5 := ⟨_, rfl⟩
      go_wp2_with fail
      go_loopg [9, 10] (k + 1) (fun gh s9 s10 wx => ∃ (j n2 : Nat), gh = k + 1 - j ∧ j ≤ k + 1 ∧ n2 ≤ j ∧ s10 = .int .i64 (j : Int) ∧ Own64 wx W5.heap.size s9 n2 (ints ((List.range j).filter (mpb m f))) ∧ Below W5.heap.size W5 wx)
      case atStart => exact ⟨0, 0, rfl, Nat.zero_le _, Nat.le_refl _, rfl, Own64.nil _ _, Below.refl _ _⟩
      case round =>
        obtain ⟨j, n2, hg, hj, hnj, rfl, hO, hB⟩ := hrel
        have HG2 := Lib.hid hg
        clear hg
        obtain ⟨av2, cv2, rfl⟩ := own_slice hO
        have hbs2 := hB.size
        by_cases hlt2 : j < k + 1
        · have y1 : (j : Int) < (k : Int) + 1 := by omega
          have y2 : (j : Int) < ((k + 1 : Nat) : Int) := by omega
          have y0 : (0 : Int) ≤ (j : Int) := by omega
          obtain ⟨bb, off, rfl, d1, _⟩ := (RP.below hB).row j hlt2
          rw [Pl.nums_at _ _ _ hlt2, mp_num HF.out] at d1
          have HR := Lib.hid (range_filter_snoc (mpb m f) j)
          by_cases hc : mpb m f j = true
          · rw [if_pos hc] at d1
            have HF2 : Hid (ints ((List.range (j + 1)).filter (mpb m f)) = ints ((List.range j).filter (mpb m f)) ++ [(j : Int)]) := by
              show _ = _
              rw [HR.out, if_pos hc, ints_snoc]
            clear HR hc
            go_wp2_with (at_builtin; refine wpList_append_own _ rfl _ _ 33 rfl W5.heap.size 3 i0 (.int .i64 0) 1 8 Tryz.underlying33 hi hz0 hz1 hz2 rfl (by decide) _ n2 _ rfl (World.ownsRow.alloc hO _) ⟨wr.heap.size, 0, none⟩ 1 1 [.int .i64 (j : Int)] rfl rfl (cell_one_new _ _ _) (ints_oneCell .i64 [_]) (by unfold maxLen; omega) (by omega) (by simp; omega) ?_; intro v7 w7 hown7 hgrow _)
            have ho7 : Own64 w7 W5.heap.size v7 (n2 + 1) (ints ((List.range (j + 1)).filter (mpb m f))) := by
              unfold Own64
              rw [HF2.out, ← cells64_append]
              exact hown7
            have b7 : Below W5.heap.size W5 w7 := (hB.alloc hbs2 _).grown hgrow (by simp; omega) (fun g hg => (hO.block g hg).1)
            clear hown7 hgrow hO hB
            go_wp2_with fail
            go_roundg (k + 1 - (j + 1))
            case measure => have := HG2.out; omega
            case rel => exact ⟨j + 1, n2 + 1, rfl, by omega, by omega, by go_num, ho7, b7⟩
          · rw [if_neg hc] at d1
            have HO2 : Hid (Own64 wr W5.heap.size (.slice av2 n2 cv2) n2 (ints ((List.range (j + 1)).filter (mpb m f)))) := by
              show Own64 _ _ _ _ _
              rw [HR.out, if_neg hc, List.append_nil]; exact hO
            clear HR hc hO
            go_wp2_with fail
            go_roundg (k + 1 - (j + 1))
            case measure => have := HG2.out; omega
            case rel => exact ⟨j + 1, n2, rfl, by omega, by omega, by go_num, HO2.out, hB⟩
        · obtain rfl : j = k + 1 := by omega
          obtain ⟨a9, c9, e9, hN⟩ := Bin.own_row (es := (List.range (k + 1)).filter (mpb m f)) hO
          simp only [Value.slice.injEq] at e9
          obtain ⟨rfl, _, rfl⟩ := e9
          have B3 := B2.trans (hB.mono B2.size)
          have HXP : Hid (Bin.xp ((List.range (k + 1)).filter (mpb m f)) = mpv m f) := by show _ = _; rw [xp_nb, HL.out]; rfl
          clear hO hB B2 RP hlt2
          go_wp2_with fail
          refine (Bin.rofV _ n2 _ _ wr hN (by omega) (fun e he => by have := List.mem_range.1 (List.mem_filter.1 he).1; omega)).mono ?_
          rintro e w8 ⟨a8, n8, c8, rfl, h8, b8⟩
          rw [HXP.out] at h8
          have HB8 := Lib.hid (B3.trans (b8.mono B3.size))
          have H8 : Hid (Bin.NewV w w8 300 a8 n8 c8 (mpv m f)) := by
            obtain ⟨X, h1, h2, h3, h4⟩ := h8
            exact ⟨X, h1.from B3.size, h2, h3, h4⟩
          clear h8 b8 B3 hN
          go_wp2_with fail
          go_ret
          exact ⟨a8, n8, c8, rfl, H8.out, HB8.out⟩
end
end Go.Proofs.YthmfneepnkgmgaaGreatDoor.Cos
/- The examples of chapter 5, as the statements ask them first of all; the field that a statement makes; Cosets. By the verifier of shale. -/
namespace Go.Proofs.YthmfneepnkgmgaaGreatDoor.Cos
open Go Go.RowKit Bin
set_option linter.unusedVariables false
theorem sameNV {w0 w1 w : World} {K K' : Nat} {a a' : Option Addr} {n c n' c' v v' : Nat} (h1 : NewV w0 w K a n c v) (h2 : NewV w1 w K' a' n' c' v') (e : v = v') :
    Calls Tryz.prog 17 #[.slice a n c, .slice a' n' c'] w fun e w' => e = .returned (.bool true) ∧ w = w' := by
  obtain ⟨X, p1, b1, e1, _⟩ := h1
  obtain ⟨Y, p2, b2, e2, _⟩ := h2
  have hXY : X = Y := bare_inj b1 b2 (by rw [e1, e2, e])
  refine (same_any X Y _ _ w (Str8.of p1.pol.arg.1) (Str8.of p2.pol.arg.1)).mono ?_
  rintro e w' ⟨rfl, rfl⟩
  exact ⟨by rw [decide_eq_true hXY], rfl⟩
theorem litB (w W : World) (Y : List (BitVec 8)) (k v : Nat) (hW : W = w.alloc (obj8 Y)) (hk : k = Y.length) (hm : k ≤ 1000) (hb : Bare Y) (hv : val Y = v) : NewV w W k (some ⟨w.heap.size, 0, none⟩) k k v ∧ Below w.heap.size w W := by
  subst hW
  exact ⟨⟨Y, ⟨hk, Nat.le_refl _, by unfold maxLen; omega, Or.inr ⟨_, rfl, Nat.le_refl _, buf_of_blk (Blk8.new w Y)⟩⟩, hb, hv, Nat.le_refl _⟩, (Below.refl _ _).alloc (Nat.le_refl _) _⟩
instance : Pl.Mid 4 := ⟨by decide, by decide⟩
theorem f1 : cos 4 (rs 4 5) = [5, 10] := by decide +kernel
theorem f2 : gpr 4 (leads 4 1 2 2) = 0x1d1 := by decide +kernel
theorem f3 : mpv 4 (rs 4 3) = 0x1f := by decide +kernel
theorem f4 : dgs 4 (leads 4 1 2 2) < sz 4 := by decide +kernel
theorem f5 : sz 4 ≤ dgs 4 (leads 4 1 2 8) := by decide +kernel
theorem bare1 : Bare [31#8] := fun _ => by decide
theorem bare2 : Bare [209#8, 1#8] := fun _ => by decide
/-- the m that a statement makes of any number. -/
def mk7 (z : Int) : Nat := (z % 7).toNat + 3
instance (z : Int) : Pl.Mid (mk7 z) := ⟨by unfold mk7; omega, by unfold mk7; omega⟩
theorem mk7_hi (z : Int) : mk7 z ≤ 9 := by unfold mk7; omega
theorem mk7_go (z : Int) : z.tmod 7 % 7 + 3 = (mk7 z : Int) := by
  unfold mk7
  have : z.tmod 7 % 7 = z % 7 := by rw [Int.tmod_eq_emod]; split <;> omega
  omega
def MadeAt (m : Nat) (w : World) (e : Ending) (w' : World) : Prop := ∃ s be ce bl, e = .returned (.tuple #[.pointer (some ⟨s, 0, none⟩), .int .i64 (m : Int)]) ∧ Fld.FldAt m w' s be ce bl ∧ Below w.heap.size w w'
def AllAt (m : Nat) (w : World) (e : Ending) (w' : World) : Prop := ∃ v n vs, e = .returned (.tuple #[v, .nilIface]) ∧ CRow w' w.heap.size m v n (leads m 0 1 (sz m)) vs ∧ Below w.heap.size w w'
end Go.Proofs.YthmfneepnkgmgaaGreatDoor.Cos
/- The reference's Generator. By the verifier of shale. -/
namespace Go.Proofs.YthmfneepnkgmgaaGreatDoor.Cos
open Go Go.RowKit Bin
set_option linter.unusedVariables false
set_option maxRecDepth 100000 in
set_option maxHeartbeats 400000 in
theorem rleast_m (a t : Int) (ha : a < 3 ∨ 14 < a) (w : World) :
    Calls Tryz.prog 58 #[.int .i64 a, .int .i64 t] w fun e w' => e = .returned (.tuple #[.int .i64 0, .slice none 0 0, .int .i64 101]) ∧ w = w' := by
  have t : decide (a < 3) = true ∨ (decide (a < 3) = false ∧ decide (14 < a) = true) := by
    by_cases h : a < 3
    · exact Or.inl (decide_eq_true h)
    · exact Or.inr ⟨decide_eq_false h, decide_eq_true (by omega)⟩
  clear ha
  rcases t with t1 | ⟨t1, t2⟩
  all_goals
    go_enter Tryz.func58, Tryz.ntmps58
    go_wp2_with fail
    go_ret3
    exact ⟨rfl, rfl⟩
set_option maxRecDepth 100000 in
set_option maxHeartbeats 400000 in
theorem rleast_t (a t : Int) (ha : 3 ≤ a ∧ a ≤ 14) (ht : t < 1 ∨ 40 < t) (w : World) :
    Calls Tryz.prog 58 #[.int .i64 a, .int .i64 t] w fun e w' => e = .returned (.tuple #[.int .i64 0, .slice none 0 0, .int .i64 102]) ∧ w = w' := by
  have b1 : decide (a < 3) = false := decide_eq_false (by omega)
  have b2 : decide (14 < a) = false := decide_eq_false (by omega)
  have t : decide (t < 1) = true ∨ (decide (t < 1) = false ∧ decide (40 < t) = true) := by
    by_cases h : t < 1
    · exact Or.inl (decide_eq_true h)
    · exact Or.inr ⟨decide_eq_false h, decide_eq_true (by omega)⟩
  clear ha ht
  rcases t with t1 | ⟨t1, t2⟩
  all_goals
    go_enter Tryz.func58, Tryz.ntmps58
    go_wp2_with fail
    go_ret3
    exact ⟨rfl, rfl⟩
section
variable {m : Nat} [M : Pl.Mid m]
theorem mpv_room {f : Nat} (hf : f < sz m) : mpv m f < room 2 := by
  have h1 := mpv_lt (m := m) f
  have h2 := cos_len_le M.lo hf
  have h3 := M.hi
  exact Nat.lt_of_lt_of_le h1 (Nat.pow_le_pow_right (by decide) (by omega))
def RGenAt (m : Nat) [M : Pl.Mid m] (t : Nat) (w : World) (e : Ending) (w' : World) : Prop :=
  (dgs m (leads m 1 2 t) < sz m ∧ ∃ a n c, e = .returned (.tuple #[.slice a n c, .int .i64 0]) ∧ NewV w w' 81 a n c (gpr m (leads m 1 2 t)) ∧ Below w.heap.size w w') ∨
  (sz m ≤ dgs m (leads m 1 2 t) ∧ e = .returned (.tuple #[.slice none 0 0, .int .i64 105]) ∧ Below w.heap.size w w')
set_option maxRecDepth 100000 in
set_option maxHeartbeats 1000000 in
theorem rgenerator_any (t : Nat) (ht1 : 1 ≤ t) (ht2 : t ≤ 40) (w : World) :
    Calls Tryz.prog 59 #[.int .i64 (m : Int), .int .i64 (t : Int)] w (RGenAt m t w) := by
  go_enter Tryz.func59, Tryz.ntmps59
  go_wp2_with fail
  refine (rleast_any m t M.lo M.hi ht1 ht2 w).mono ?_
  rintro e w1 (⟨hd, a1, n1, c1, rfl, R, B⟩ | ⟨hd, rfl, B⟩)
  rotate_left
  · have HD := Lib.hid hd
    clear hd
    go_wp2_with fail
    go_ret2
    exact Or.inr ⟨HD.out, rfl, B⟩
  · have hl : n1 = (leadsI m t).length := by have := R.hlen; rwa [ints_length] at this
    have hnm : n1 ≤ 40 := by rw [hl, leadsI_len]; have := leads_le m 1 2 t; omega
    have HL := Lib.hid hl
    have HD := Lib.hid hd
    clear hd hl
    go_wp2_with fail
    generalize hw : w1.alloc (.cells #[.int .u8 1] 5 (0, 0)) = w2
    obtain ⟨h1, b⟩ := litB w1 w2 [1#8] 1 1 hw.symm rfl (by decide) (fun _ => by decide) (by decide)
    clear hw
    have HG : Hid (NewV w w2 1 (some ⟨w1.heap.size, 0, none⟩) 1 1 (gpr m (((leadsI m t).map (· % sz m)).take 0))) := newV_from h1 B.size
    have HS : Hid (Pl.RowZ w2 a1 n1 c1 (ints (leadsI m t)) ∧ Below w.heap.size w w2) := ⟨R.below b, B.trans (b.mono B.size)⟩
    generalize (some ⟨w1.heap.size, 0, none⟩ : Option Addr) = ag at HG ⊢
    clear h1 b R B
    go_loopg [9, 10] n1 (fun gh s9 s10 wx => ∃ (k : Nat) (ax : Option Addr) (nx cx : Nat), gh = n1 - k ∧ k ≤ n1 ∧ s10 = .int .i64 (k : Int) ∧ s9 = .slice ax nx cx ∧ Hid (NewV w wx (1 + 2 * k) ax nx cx (gpr m (((leadsI m t).map (· % sz m)).take k))) ∧ Hid (Pl.RowZ wx a1 n1 c1 (ints (leadsI m t)) ∧ Below w.heap.size w wx))
    case atStart => exact ⟨0, ag, 1, 1, rfl, Nat.zero_le _, rfl, rfl, HG, HS⟩
    case round =>
      clear HG HS
      obtain ⟨k, ax, nx, cx, hg, hk, rfl, rfl, HP, HS⟩ := hrel
      have HGh := Lib.hid hg
      clear hg
      by_cases hlt : k < n1
      · have x1 : (k : Int) < (n1 : Int) := by omega
        have x0 : (0 : Int) ≤ (k : Int) := by omega
        have hkl : k < (leadsI m t).length := by rw [← HL.out]; exact hlt
        obtain ⟨bb, off, rfl, d1, _⟩ := HS.out.1.row k hlt
        obtain ⟨u, hu⟩ : ∃ u, u = (leadsI m t).getD k 0 := ⟨_, rfl⟩
        have eu : (ints (leadsI m t)).getD k 0 = (u : Int) := by
          rw [hu]
          unfold Cos.ints
          rw [List.getD_eq_getElem?_getD, List.getElem?_map, List.getD_eq_getElem?_getD, List.getElem?_eq_getElem hkl]; rfl
        rw [eu] at d1
        have hrs : rs m (u : Int) = u % sz m := by unfold rs; rw [← Int.natCast_emod]; exact Int.toNat_natCast _
        have hum : ((leadsI m t).map (· % sz m)).getD k 0 = u % sz m := by
          rw [hu, List.getD_eq_getElem?_getD, List.getElem?_map, List.getD_eq_getElem?_getD, List.getElem?_eq_getElem hkl]; rfl
        have HT : Hid (gpr m (((leadsI m t).map (· % sz m)).take (k + 1)) = pm (gpr m (((leadsI m t).map (· % sz m)).take k)) (mpv m (u % sz m))) := by
          show _ = _
          rw [take_snocN _ k (by rw [List.length_map]; exact hkl), gpr_snoc, hum]
        have hus : u % sz m < sz m := Nat.mod_lt _ (by have := sz_lo M.lo; omega)
        have HX := Lib.hid hrs
        have HRm := Lib.hid (mpv_room (m := m) hus)
        clear hu eu hrs hum hus hkl
        go_wp2_with fail
        refine (rminimal_any (m := m) (u : Int) wr).mono ?_
        rintro e w5 ⟨a5, n5, c5, rfl, h5, b5⟩
        rw [HX.out] at h5
        have P2 := (NewV.fit h5 HRm.out).pol
        have P1 := (newV_since HP.out b5).pol
        have HS5 : Hid (Pl.RowZ w5 (some ⟨bb, off, none⟩) n1 c1 (ints (leadsI m t)) ∧ Below w.heap.size w w5) := ⟨HS.out.1.below b5, HS.out.2.trans (b5.mono HS.out.2.size)⟩
        clear HP HS h5 b5 d1
        go_wp2_with fail
        refine (rmulV (1 + 2 * (k + 1)) P1 P2 (by omega) (by decide) (by omega)).mono ?_
        rintro e w6 ⟨a6, n6, c6, rfl, h6, b6⟩
        have HP6 : Hid (NewV w w6 (1 + 2 * (k + 1)) a6 n6 c6 (gpr m (((leadsI m t).map (· % sz m)).take (k + 1)))) := by
          show NewV _ _ _ _ _ _ _
          rw [HT.out]
          exact newV_from h6 HS5.out.2.size
        have HS6 : Hid (Pl.RowZ w6 (some ⟨bb, off, none⟩) n1 c1 (ints (leadsI m t)) ∧ Below w.heap.size w w6) := ⟨HS5.out.1.below b6, HS5.out.2.trans (b6.mono HS5.out.2.size)⟩
        clear HS5 h6 b6 P1 P2
        go_wp2_with fail
        go_roundg (n1 - (k + 1))
        case measure => have := HGh.out; omega
        case rel => exact ⟨k + 1, a6, n6, c6, rfl, by omega, by go_num, rfl, HP6, HS6⟩
      · obtain rfl : k = n1 := by omega
        have HF : Hid (NewV w wr 81 ax nx cx (gpr m (leads m 1 2 t))) := by
          have h := newV_more HP.out (by omega : 1 + 2 * k ≤ 81)
          rwa [List.take_of_length_le (by rw [List.length_map, HL.out]; exact Nat.le_refl _), leadsI_map] at h
        go_wp2_with fail
        go_ret2
        exact Or.inl ⟨HD.out, ax, nx, cx, rfl, HF.out, HS.out.2⟩
end
end Go.Proofs.YthmfneepnkgmgaaGreatDoor.Cos
/- The walks over the reference's codes: New, Parity, Bits. By the verifier of shale. -/
namespace Go.Proofs.YthmfneepnkgmgaaGreatDoor.Enc
open Go Go.RowKit Bin Cos
set_option linter.unusedVariables false
/-- the reference's code as plain data. -/
abbrev cdV (m t n : Nat) (ga : Option Addr) (gn gc D : Nat) : Value := .agg #[.int .i64 (m : Int), .int .i64 (t : Int), .int .i64 (n : Int), .slice ga gn gc, .int .i64 (D : Int)]
abbrev cdZ : Value := .agg #[.int .i64 0, .int .i64 0, .int .i64 0, .slice none 0 0, .int .i64 0]
def cdO (a b c d e : Value) : Obj := .cells #[a, b, c, d, e] 26 (0, 0)
theorem cd_cells {w : World} {s : Nat} {a b c d e : Value} (h : w.heap[s]? = some (cdO a b c d e)) :
    w.cell? ⟨s, 0, none⟩ = some a ∧ w.cell? ⟨s, 1, none⟩ = some b ∧ w.cell? ⟨s, 2, none⟩ = some c ∧ w.cell? ⟨s, 3, none⟩ = some d ∧ w.cell? ⟨s, 4, none⟩ = some e ∧ ∀ i, w.frozen? ⟨s, i, none⟩ = false := by
  refine ⟨?_, ?_, ?_, ?_, ?_, ?_⟩
  all_goals first | (unfold World.cell?; simp only; rw [h]; rfl) | (intro i; unfold World.frozen?; simp only; rw [h]; unfold cdO; simp)
theorem newV_only {w0 w w' : World} {K : Nat} {a : Option Addr} {n c v s : Nat} (h : NewV w0 w K a n c v) (o : Only s w w') (hs : s < w0.heap.size) : NewV w0 w' K a n c v := by
  obtain ⟨X, h1, h2, h3, h4⟩ := h
  refine ⟨X, ⟨h1.hlen, h1.hcap, h1.hmost, ?_⟩, h2, h3, h4⟩
  rcases h1.own with h | ⟨g, e, hg, hx⟩
  · exact Or.inl h
  · exact Or.inr ⟨g, e, hg, buf_only hx o (by omega)⟩
section
variable {m : Nat} [M : Pl.Mid m]
def RMadeAt (m t n : Nat) [M : Pl.Mid m] (w : World) (e : Ending) (w' : World) : Prop := ∃ ga gn gc, e = .returned (.tuple #[cdV m t n ga gn gc (deg m t), .int .i64 0]) ∧ NewV w w' 81 ga gn gc (gen m t) ∧ Below w.heap.size w w'
set_option maxRecDepth 100000 in
set_option maxHeartbeats 1000000 in
theorem rnew_any {t n : Nat} (H : May m t n) (w : World) :
    Calls Tryz.prog 32 #[.int .i64 (m : Int), .int .i64 (t : Int), .int .i64 (n : Int)] w (RMadeAt m t n w) := by
  have ho := Fld.shl_one m M.hi
  have hn7 := sz_lo M.lo
  have hn2 := sz_hi M.hi
  have hw : IntKind.i64.wrap ((Fld.els m : Int) - 1) = (sz m : Int) := by
    have : (Fld.els m : Int) - 1 = (sz m : Int) := by unfold Fld.els sz; have := Nat.two_pow_pos m; omega
    rw [this]; exact IntWalk.i64_in _ (by omega)
  have hm1 := M.lo
  have hm14 := M.hi
  have m0 : (0 : Int) ≤ (m : Int) := by omega
  have m64 : (m : Int) ≤ 14 := by omega
  have n1 : ¬ (n : Int) < 1 := by have := H.n1; omega
  have n2 : ¬ (2048 : Int) < (n : Int) := by have := H.n2; omega
  have n3 : n ≤ 2048 := H.n2
  have hD2 := deg_560 (m := m) H.t2
  obtain ⟨D, hD⟩ : ∃ D, D = deg m t := ⟨_, rfl⟩
  have HDE := Lib.hid hD
  rw [← hD] at hD2
  have hroom : ¬ (sz m : Int) < 8 * (n : Int) + (D : Int) := by have := H.room; omega
  obtain ⟨N, hN⟩ : ∃ N, N = sz m := ⟨_, rfl⟩
  have HNE := Lib.hid hN
  rw [← hN] at hw hn7 hn2 hroom
  have HH := Lib.hid H
  have b0 : Below w.heap.size w (w.alloc (cdO (.int .i64 0) (.int .i64 0) (.int .i64 0) (.slice none 0 0) (.int .i64 0))) := (Below.refl _ _).alloc (Nat.le_refl _) _
  have hz : w.heap.size < (w.alloc (cdO (.int .i64 0) (.int .i64 0) (.int .i64 0) (.slice none 0 0) (.int .i64 0))).heap.size := by simp
  have hblk : (w.alloc (cdO (.int .i64 0) (.int .i64 0) (.int .i64 0) (.slice none 0 0) (.int .i64 0))).heap[w.heap.size]? = some (cdO (.int .i64 0) (.int .i64 0) (.int .i64 0) (.slice none 0 0) (.int .i64 0)) := heap_alloc_new w _
  have HI := Lib.hid (And.intro b0 (And.intro hz hblk))
  clear hD hN H b0 hz hblk
  go_enter Tryz.func32, Tryz.ntmps32
  go_wp2_with fail
  obtain ⟨b0, hz, hblk⟩ := HI.out
  clear HI
  rw [show Obj.cells #[Value.int IntKind.i64 0, Value.int IntKind.i64 0, Value.int IntKind.i64 0, Value.slice none 0 0, Value.int IntKind.i64 0] 26 (0, 0) = cdO (.int .i64 0) (.int .i64 0) (.int .i64 0) (.slice none 0 0) (.int .i64 0) from rfl]
  generalize w.alloc (cdO (.int .i64 0) (.int .i64 0) (.int .i64 0) (.slice none 0 0) (.int .i64 0)) = w0 at b0 hz hblk ⊢
  refine (rleast_any m t M.lo M.hi HH.out.t1 HH.out.t2 w0).mono ?_
  rintro e w1 (⟨hd, a1, n1', c1, rfl, R, B⟩ | ⟨hd, rfl, B⟩)
  rotate_left
  · exact absurd hd (by have := HH.out.least; unfold deg at this; omega)
  rw [show dgs m (leads m 1 2 t) = D from HDE.out.symm]
  have B1 := b0.trans (B.mono b0.size)
  have hb1 := (B.block _ hz).trans hblk
  have hz1 := Nat.lt_of_lt_of_le hz B.size
  clear hd R B b0 hblk hz
  go_wp2_with fail
  refine (rgenerator_any (m := m) t HH.out.t1 HH.out.t2 w1).mono ?_
  rintro e w2 (⟨hd, ga, gn, gc, rfl, hG, b⟩ | ⟨hd, rfl, b⟩)
  rotate_left
  · exact absurd hd (by have := HH.out.least; unfold deg at this; omega)
  have hb2 := (b.block _ hz1).trans hb1
  obtain ⟨c0, c1, c2, c3, c4, cf⟩ := cd_cells hb2
  have HG := Lib.hid (And.intro hG (B1.trans (b.mono B1.size)))
  have hz2 := Nat.lt_of_lt_of_le hz1 b.size
  have hs1 := Nat.le_of_lt hz1
  clear hd hG b B1 hb1 hb2
  go_wp2_with fail
  obtain ⟨hG, B2⟩ := HG.out
  have e5 := HDE.out
  have o5 := ((((Only.setCell w2 ⟨w.heap.size, 0, none⟩ (.int .i64 (m : Int))).trans (Only.setCell _ ⟨w.heap.size, 1, none⟩ (.int .i64 (t : Int)))).trans (Only.setCell _ ⟨w.heap.size, 2, none⟩ (.int .i64 (n : Int)))).trans (Only.setCell _ ⟨w.heap.size, 3, none⟩ (.slice ga gn gc))).trans (Only.setCell _ ⟨w.heap.size, 4, none⟩ (.int .i64 (D : Int)))
  exact bodyPost_ret (v := .tuple #[cdV m t n ga gn gc D, .int .i64 0]) (by simp [results, Tryz.results32, go_sem, c0, c1, c2, c3, c4]) rfl ⟨ga, gn, gc, by rw [← e5], newV_from (newV_only hG o5 hz1) hs1, B2.trans (o5.below (Nat.le_refl _))⟩
end
end Go.Proofs.YthmfneepnkgmgaaGreatDoor.Enc
/- The walk over the reference's Serial. By the verifier of shale. -/
namespace Go.Proofs.YthmfneepnkgmgaaGreatDoor.Enc
open Go Go.RowKit Bin Cos
set_option linter.unusedVariables false
set_option maxRecDepth 100000 in
theorem rBit {w : World} {k : Nat} {a : Option Addr} {n c u : Nat} (h : PolV w k a n c u) (d : Nat) (hd : d ≤ 1000000) :
    Calls Tryz.prog 47 #[.slice a n c, .int .i64 (d : Int)] w fun e w' => e = .returned (.int .i64 (bz (u.testBit d))) ∧ w = w' := by
  obtain ⟨X, p1, rfl, n1⟩ := h
  have HP := Lib.hid p1
  have HB := Lib.hid (bitZ_bz X d)
  clear p1
  go_enter Tryz.func47, Tryz.ntmps47
  go_wp2_with fail
  refine (rbit_any a n c X (d : Int) w HP.out (by omega)).mono ?_
  rintro e w1 ⟨rfl, rfl⟩
  rw [HB.out]
  go_wp2_with fail
  go_ret
  exact ⟨rfl, rfl⟩
theorem bz_mul (a b : Bool) : bz a * bz b = bz (a && b) := by cases a <;> cases b <;> rfl
/-- what the reference's step makes of bit j. -/
def stp (R G : Nat) (tp : Bool) (j : Nat) : Bool := (decide (0 < j) && R.testBit (j - 1)) ^^ (tp && G.testBit j)
theorem ser_bit {G D R b : Nat} (hD : 1 ≤ D) (hl : R < 2 ^ D) (hb : b < 2) (j : Nat) (hj : j < D) :
    (((R <<< 1) % 2 ^ D) ^^^ (if (R >>> (D - 1)) ^^^ b = 0 then 0 else low G D)).testBit j = stp R G (R.testBit (D - 1) ^^ decide (b = 1)) j := by
  have h1 : R >>> (D - 1) = if R.testBit (D - 1) then 1 else 0 := by
    have hlt : R >>> (D - 1) < 2 := by
      rw [Nat.shiftRight_eq_div_pow]
      apply Nat.div_lt_of_lt_mul
      rw [← Nat.pow_succ, show (D - 1).succ = D by omega]; exact hl
    have ht : (R >>> (D - 1)).testBit 0 = R.testBit (D - 1) := by rw [Nat.testBit_shiftRight]; rfl
    rw [← ht, Nat.testBit_zero]
    generalize R >>> (D - 1) = q at hlt
    rcases (by omega : q = 0 ∨ q = 1) with e | e <;> rw [e] <;> rfl
  have hs : ((R <<< 1) % 2 ^ D).testBit j = (decide (0 < j) && R.testBit (j - 1)) := by
    rw [Nat.testBit_mod_two_pow, Nat.testBit_shiftLeft]
    simp [hj]
    rfl
  rw [Nat.testBit_xor, hs, h1]
  unfold stp
  congr 1
  have hlow : (low G D).testBit j = G.testBit j := by unfold low; rw [Nat.testBit_mod_two_pow]; simp [hj]
  cases R.testBit (D - 1) <;> rcases (by omega : b = 0 ∨ b = 1) with rfl | rfl <;> simp [hlow]
/-- bits as ints. -/
def bf (n : Nat) (f : Nat → Bool) : List Int := (List.range n).map fun i => bz (f i)
theorem bf_length (n : Nat) (f : Nat → Bool) : (bf n f).length = n := by simp [bf]
theorem bf_at (n : Nat) (f : Nat → Bool) (i : Nat) (h : i < n) : nth64 (bf n f) i = bz (f i) := by
  unfold nth64 bf
  rw [List.getD_eq_getElem?_getD, List.getElem?_map, List.getElem?_range h]; rfl
theorem bf_set (n : Nat) (f : Nat → Bool) (i : Nat) (v : Bool) : (bf n f).set i (bz v) = bf n (fun j => if j = i then v else f j) := by
  apply List.ext_getElem
  · simp [bf]
  · intro j h1 h2
    rw [List.getElem_set]
    simp only [bf, List.getElem_map, List.getElem_range]
    by_cases h : i = j
    · subst h; simp
    · rw [if_neg h, if_neg (Ne.symm h)]
theorem bf_ext {n : Nat} {f g : Nat → Bool} (h : ∀ j, j < n → f j = g j) : bf n f = bf n g := by
  apply List.ext_getElem
  · simp [bf]
  · intro j h1 h2
    simp only [bf, List.getElem_map, List.getElem_range]
    rw [h j (by simpa [bf] using h1)]
theorem bf_zero (n : Nat) : List.replicate n 0 = bf n fun _ => false := by
  apply List.ext_getElem
  · simp [bf]
  · intro i h1 h2; simp [bf, bz]
theorem nb_self {R D : Nat} (h : R < 2 ^ D) : nb (fun i => R.testBit i) D = R := by
  apply Nat.eq_of_testBit_eq
  intro i
  rw [nb_bit]
  by_cases hi : i < D
  · simp [hi]
  · rw [Nat.testBit_lt_two_pow (Nat.lt_of_lt_of_le h (Nat.pow_le_pow_right (by decide) (by omega)))]; simp [hi]
theorem shr_step (V i : Nat) : V >>> i = (V >>> (i + 1)) <<< 1 ^^^ (V >>> i) % 2 := by
  have h := split_at (V >>> i) 1
  rw [show V >>> (i + 1) = (V >>> i) >>> 1 from Nat.shiftRight_add V i 1, Nat.xor_comm]
  exact h
set_option maxRecDepth 100000 in
set_option maxHeartbeats 400000 in
theorem rparity_any (m t n : Nat) (ga : Option Addr) (gn gc D : Nat) (hD : D ≤ 1000) (w : World) :
    Calls Tryz.prog 14 #[cdV m t n ga gn gc D] w fun e w' => e = .returned (.int .i64 (pb D : Int)) ∧ Below w.heap.size w w' := by
  have b0 : Below w.heap.size w (w.alloc (cdO (.int .i64 (m : Int)) (.int .i64 (t : Int)) (.int .i64 (n : Int)) (.slice ga gn gc) (.int .i64 (D : Int)))) := (Below.refl _ _).alloc (Nat.le_refl _) _
  obtain ⟨P, hP⟩ : ∃ P, P = pb D := ⟨_, rfl⟩
  have hP2 : P = (D + 7) / 8 := hP
  rw [← hP]
  have q0 : ((D : Int) + 7).tdiv 8 = (P : Int) := by rw [Int.tdiv_eq_ediv_of_nonneg (by omega)]; omega
  have q00 : ((D : Int) + 7) / 8 = (P : Int) := by omega
  clear hP hP2
  go_enter Tryz.func14, Tryz.ntmps14
  go_wp2_with fail
  go_ret
  exact ⟨rfl, b0⟩
set_option maxRecDepth 100000 in
set_option maxHeartbeats 400000 in
theorem rbits_any (m t n : Nat) (ga : Option Addr) (gn gc D : Nat) (hD : D ≤ 1000) (hn : n ≤ 2048) (w : World) :
    Calls Tryz.prog 25 #[cdV m t n ga gn gc D] w fun e w' => e = .returned (.int .i64 ((8 * n + D : Nat) : Int)) ∧ Below w.heap.size w w' := by
  have b0 : Below w.heap.size w (w.alloc (cdO (.int .i64 (m : Int)) (.int .i64 (t : Int)) (.int .i64 (n : Int)) (.slice ga gn gc) (.int .i64 (D : Int)))) := (Below.refl _ _).alloc (Nat.le_refl _) _
  have e1 : 8 * (n : Int) + (D : Int) = ((8 * n + D : Nat) : Int) := by omega
  rw [← e1]
  clear e1
  go_enter Tryz.func25, Tryz.ntmps25
  go_wp2_with fail
  go_ret
  exact ⟨rfl, b0⟩
/-- what the reference's inner loop has made of the bits: those above i are moved. -/
def sti (R G : Nat) (tp : Bool) (i j : Nat) : Bool := if i < j then stp R G tp j else R.testBit j
end Go.Proofs.YthmfneepnkgmgaaGreatDoor.Enc
/- The walks over what the statements of chapter 6 make: fit, Distance, the reference's Flip. By the verifier of shale. -/
namespace Go.Proofs.YthmfneepnkgmgaaGreatDoor.Enc
open Go Go.RowKit Bin Cos
set_option linter.unusedVariables false
/-- data of a length, made of any. -/
def fitL (b : List (BitVec 8)) (n : Nat) : List (BitVec 8) := b.take n ++ List.replicate (n - b.length) 0
theorem fitL_length (b : List (BitVec 8)) (n : Nat) : (fitL b n).length = n := by
  unfold fitL
  rw [List.length_append, List.length_take, List.length_replicate]; omega
theorem splice_fit (b : List (BitVec 8)) (n : Nat) : splice (List.replicate n (Value.int .u8 0)) 0 (cells8 (b.take n)) = cells8 (fitL b n) := by
  unfold splice fitL
  rw [List.take_zero, List.nil_append, Nat.zero_add, cells8_length, List.length_take, List.drop_replicate]
  unfold cells8
  rw [List.map_append, List.map_replicate]
  congr 2
  omega
theorem len_inj {l k : List (BitVec 8)} (h : l.length = k.length) (hv : val l = val k) : l = k := nth8_ext h fun i _ => nth8_of_val hv i
theorem byN_inj {V U n : Nat} (h1 : V < 2 ^ (8 * n)) (h2 : U < 2 ^ (8 * n)) (h : byN V n = byN U n) : V = U := by rw [← val_byN h1, ← val_byN h2, h]
theorem byN_val (l : List (BitVec 8)) : byN (val l) l.length = l := len_inj (byN_length _ _) (by rw [val_byN (val_lt l)])
set_option maxRecDepth 100000 in
set_option maxHeartbeats 1000000 in
theorem distance_any (a a' : Option Addr) (n c c' : Nat) (X Y : List (BitVec 8)) (hn : n ≤ 10000) (w : World) (hX : Pol w a n c X) (hY : Pol w a' n c' Y) :
    Calls Tryz.prog 22 #[.slice a n c, .slice a' n c'] w fun e w' => e = .returned (.int .i64 (pop (val X ^^^ val Y) (8 * n) : Int)) ∧ w = w' := by
  have PX : PolV w n a n c (val X) := ⟨X, hX, rfl, Nat.le_refl _⟩
  have PY : PolV w n a' n c' (val Y) := ⟨Y, hY, rfl, Nat.le_refl _⟩
  obtain ⟨U, hU⟩ : ∃ U, U = val X := ⟨_, rfl⟩
  obtain ⟨V, hV⟩ : ∃ V, V = val Y := ⟨_, rfl⟩
  rw [← hU] at PX ⊢
  rw [← hV] at PY ⊢
  have HX := Lib.hid PX
  have HY := Lib.hid PY
  have p0 : pop (U ^^^ V) 0 = 0 := rfl
  have HP0 := Lib.hid p0
  clear hU hV hX hY PX PY p0
  go_enter Tryz.func22, Tryz.ntmps22
  go_wp2_with fail
  go_loopg [5, 6] (8 * n) (fun gh s5 s6 wx => ∃ (k : Nat), gh = 8 * n - k ∧ k ≤ 8 * n ∧ s6 = .int .i64 (k : Int) ∧ s5 = .int .i64 (pop (U ^^^ V) k : Int) ∧ w = wx)
  case atStart => exact ⟨0, rfl, Nat.zero_le _, rfl, by rw [HP0.out]; rfl, rfl⟩
  case round =>
    clear HP0
    obtain ⟨k, hg, hk, rfl, rfl, rfl⟩ := hrel
    have HG := Lib.hid hg
    clear hg
    have hpk : pop (U ^^^ V) k ≤ k := by
      unfold pop plc
      have := List.length_filter_le (fun i => (U ^^^ V).testBit i) (List.range k)
      rw [List.length_range] at this
      exact this
    by_cases hlt : k < 8 * n
    · have x1 : (k : Int) < 8 * (n : Int) := by omega
      have HB1 := Lib.hid (rBit HX.out k (by omega))
      have HB2 := Lib.hid (rBit HY.out k (by omega))
      have HPS := Lib.hid (pop_succ (U ^^^ V) k)
      rw [Nat.testBit_xor] at HPS
      have HI : Hid (k + 1 ≤ 8 * n) := hlt
      have t1 : (bz (U.testBit k) == bz (V.testBit k)) = !(U.testBit k ^^ V.testBit k) := by cases U.testBit k <;> cases V.testBit k <;> rfl
      obtain ⟨p, hp⟩ : ∃ p, p = pop (U ^^^ V) k := ⟨_, rfl⟩
      rw [← hp] at hpk HPS ⊢
      clear hp
      cases hx : (U.testBit k ^^ V.testBit k)
      · rw [hx] at HPS t1
        generalize bz (U.testBit k) = b1 at HB1 t1
        generalize bz (V.testBit k) = b2 at HB2 t1
        replace t1 : (b1 == b2) = true := t1
        clear hx
        go_wp2_with fail
        refine HB1.out.mono ?_
        rintro e w' ⟨rfl, rfl⟩
        go_wp2_with fail
        refine HB2.out.mono ?_
        rintro e w' ⟨rfl, rfl⟩
        go_wp2_with fail
        go_roundg (8 * n - (k + 1))
        case measure => have := HG.out; have := HI.out; omega
        case rel => exact ⟨k + 1, rfl, HI.out, by go_num, by rw [HPS.out]; rfl, rfl⟩
      · rw [hx] at HPS t1
        generalize bz (U.testBit k) = b1 at HB1 t1
        generalize bz (V.testBit k) = b2 at HB2 t1
        replace t1 : (b1 == b2) = false := t1
        clear hx
        go_wp2_with fail
        refine HB1.out.mono ?_
        rintro e w' ⟨rfl, rfl⟩
        go_wp2_with fail
        refine HB2.out.mono ?_
        rintro e w' ⟨rfl, rfl⟩
        go_wp2_with fail
        go_roundg (8 * n - (k + 1))
        case measure => have := HG.out; have := HI.out; omega
        case rel => exact ⟨k + 1, rfl, HI.out, by go_num, by rw [HPS.out]; rfl, rfl⟩
    · obtain rfl : k = 8 * n := by omega
      obtain ⟨p, hp⟩ : ∃ p, p = pop (U ^^^ V) (8 * n) := ⟨_, rfl⟩
      rw [← hp] at hpk ⊢
      have HPp := Lib.hid hp
      clear hp
      go_wp2_with fail
      go_ret
      rw [← HPp.out]
      exact ⟨rfl, rfl⟩
end Go.Proofs.YthmfneepnkgmgaaGreatDoor.Enc
/- The codes that the statements of chapter 6 make: what New refuses; made. By the verifier of shale. -/
namespace Go.Proofs.YthmfneepnkgmgaaGreatDoor.Enc
open Go Go.RowKit Bin Cos
set_option linter.unusedVariables false
section
variable {m : Nat} [M : Pl.Mid m]
/-- data of a length that may be, but there is no such code. -/
structure MayNot (m t n : Nat) : Prop where
  t1 : 1 ≤ t
  t2 : t ≤ 40
  n1 : 1 ≤ n
  n2 : n ≤ 2048
  no : sz m ≤ deg m t ∨ sz m < 8 * n + deg m t
theorem may_or (m t n : Nat) (t1 : 1 ≤ t) (t2 : t ≤ 40) (n1 : 1 ≤ n) (n2 : n ≤ 2048) : May m t n ∨ MayNot m t n := by
  by_cases h1 : sz m ≤ deg m t
  · exact Or.inr ⟨t1, t2, n1, n2, Or.inl h1⟩
  · by_cases h2 : sz m < 8 * n + deg m t
    · exact Or.inr ⟨t1, t2, n1, n2, Or.inr h2⟩
    · exact Or.inl ⟨t1, t2, n1, n2, by omega, by omega⟩
set_option maxRecDepth 100000 in
set_option maxHeartbeats 1000000 in
theorem new_no {t n : Nat} (H : MayNot m t n) (w : World) (y : Addr) (E : ErrAt w 3 y) :
    Calls Tryz.prog 28 #[.int .i64 (m : Int), .int .i64 (t : Int), .int .i64 (n : Int)] w fun e w' => e = .returned (.tuple #[.pointer none, errOf y]) ∧ Below w.heap.size w w' := by
  have ho := Fld.shl_one m M.hi
  have hn7 := sz_lo M.lo
  have hn2 := sz_hi M.hi
  have hw : IntKind.i64.wrap ((Fld.els m : Int) - 1) = (sz m : Int) := by
    have : (Fld.els m : Int) - 1 = (sz m : Int) := by unfold Fld.els sz; have := Nat.two_pow_pos m; omega
    rw [this]; exact IntWalk.i64_in _ (by omega)
  have hm1 := M.lo
  have hm14 := M.hi
  have m0 : (0 : Int) ≤ (m : Int) := by omega
  have m64 : (m : Int) ≤ 14 := by omega
  have n1 : ¬ (n : Int) < 1 := by have := H.n1; omega
  have n2 : ¬ (2048 : Int) < (n : Int) := by have := H.n2; omega
  have n3 : n ≤ 2048 := H.n2
  have hD2 := deg_560 (m := m) H.t2
  obtain ⟨D, hD⟩ : ∃ D, D = deg m t := ⟨_, rfl⟩
  have HDE := Lib.hid hD
  rw [← hD] at hD2
  obtain ⟨N, hN⟩ : ∃ N, N = sz m := ⟨_, rfl⟩
  have HNE := Lib.hid hN
  rw [← hN] at hw hn7 hn2
  have HH := Lib.hid H
  clear hD hN H
  go_enter Tryz.func28, Tryz.ntmps28
  go_wp2_with fail
  refine (least_any m t M.lo M.hi HH.out.t1 HH.out.t2 w y E).mono ?_
  rintro e w1 (⟨hd, rfl, B⟩ | ⟨hd, rfl, B⟩)
  · rw [show dgs m (leads m 1 2 t) = D from HDE.out.symm]
    have hroom : (N : Int) < 8 * (n : Int) + (D : Int) := by
      have h1 := HDE.out
      have h2 := HNE.out
      have h3 : deg m t < sz m := hd
      rcases HH.out.no with h | h <;> omega
    have e1 := (E.below B).1
    unfold Sent at e1
    clear hd E
    go_wp2_with fail
    go_quiet (fail)
    have hd2 := B.trans ((Drawn.mk w1 nq).below w.heap.size)
    generalize w1.drewN nq = w5 at hd2 ⊢
    clear e1
    go_wp2_with fail
    go_ret2
    exact ⟨rfl, hd2⟩
  · clear hd E
    go_wp2_with fail
    go_ret2
    exact ⟨rfl, B⟩
set_option maxRecDepth 100000 in
set_option maxHeartbeats 1000000 in
theorem rnew_no {t n : Nat} (H : MayNot m t n) (w : World) :
    Calls Tryz.prog 32 #[.int .i64 (m : Int), .int .i64 (t : Int), .int .i64 (n : Int)] w fun e w' => e = .returned (.tuple #[cdZ, .int .i64 105]) ∧ Below w.heap.size w w' := by
  have ho := Fld.shl_one m M.hi
  have hn7 := sz_lo M.lo
  have hn2 := sz_hi M.hi
  have hw : IntKind.i64.wrap ((Fld.els m : Int) - 1) = (sz m : Int) := by
    have : (Fld.els m : Int) - 1 = (sz m : Int) := by unfold Fld.els sz; have := Nat.two_pow_pos m; omega
    rw [this]; exact IntWalk.i64_in _ (by omega)
  have hm1 := M.lo
  have hm14 := M.hi
  have m0 : (0 : Int) ≤ (m : Int) := by omega
  have m64 : (m : Int) ≤ 14 := by omega
  have n1 : ¬ (n : Int) < 1 := by have := H.n1; omega
  have n2 : ¬ (2048 : Int) < (n : Int) := by have := H.n2; omega
  have n3 : n ≤ 2048 := H.n2
  have hD2 := deg_560 (m := m) H.t2
  obtain ⟨D, hD⟩ : ∃ D, D = deg m t := ⟨_, rfl⟩
  have HDE := Lib.hid hD
  rw [← hD] at hD2
  obtain ⟨N, hN⟩ : ∃ N, N = sz m := ⟨_, rfl⟩
  have HNE := Lib.hid hN
  rw [← hN] at hw hn7 hn2
  have HH := Lib.hid H
  have b0 : Below w.heap.size w (w.alloc (cdO (.int .i64 0) (.int .i64 0) (.int .i64 0) (.slice none 0 0) (.int .i64 0))) := (Below.refl _ _).alloc (Nat.le_refl _) _
  have hz : w.heap.size < (w.alloc (cdO (.int .i64 0) (.int .i64 0) (.int .i64 0) (.slice none 0 0) (.int .i64 0))).heap.size := by simp
  have hblk : (w.alloc (cdO (.int .i64 0) (.int .i64 0) (.int .i64 0) (.slice none 0 0) (.int .i64 0))).heap[w.heap.size]? = some (cdO (.int .i64 0) (.int .i64 0) (.int .i64 0) (.slice none 0 0) (.int .i64 0)) := heap_alloc_new w _
  have HI := Lib.hid (And.intro b0 (And.intro hz hblk))
  clear hD hN H b0 hz hblk
  go_enter Tryz.func32, Tryz.ntmps32
  go_wp2_with fail
  obtain ⟨b0, hz, hblk⟩ := HI.out
  clear HI
  rw [show Obj.cells #[Value.int IntKind.i64 0, Value.int IntKind.i64 0, Value.int IntKind.i64 0, Value.slice none 0 0, Value.int IntKind.i64 0] 26 (0, 0) = cdO (.int .i64 0) (.int .i64 0) (.int .i64 0) (.slice none 0 0) (.int .i64 0) from rfl]
  generalize w.alloc (cdO (.int .i64 0) (.int .i64 0) (.int .i64 0) (.slice none 0 0) (.int .i64 0)) = w0 at b0 hz hblk ⊢
  refine (rleast_any m t M.lo M.hi HH.out.t1 HH.out.t2 w0).mono ?_
  rintro e w1 (⟨hd, a1, n1', c1, rfl, R, B⟩ | ⟨hd, rfl, B⟩)
  · have hroom : (N : Int) < 8 * (n : Int) + (D : Int) := by
      have h1 := HDE.out
      have h2 := HNE.out
      have h3 : deg m t < sz m := hd
      rcases HH.out.no with h | h <;> omega
    rw [show dgs m (leads m 1 2 t) = D from HDE.out.symm]
    have B1 := b0.trans (B.mono b0.size)
    have hb1 := (B.block _ hz).trans hblk
    obtain ⟨c0, c1', c2, c3, c4, cf⟩ := cd_cells hb1
    clear hd R B b0 hblk hz hb1
    go_wp2_with fail
    exact bodyPost_ret (v := .tuple #[cdZ, .int .i64 105]) (by simp [results, Tryz.results32, go_sem, c0, c1', c2, c3, c4]) rfl ⟨rfl, ((((B1.setCell (p := ⟨w.heap.size, 0, none⟩) (Nat.le_refl _) _).setCell (p := ⟨w.heap.size, 1, none⟩) (Nat.le_refl _) _).setCell (p := ⟨w.heap.size, 2, none⟩) (Nat.le_refl _) _).setCell (p := ⟨w.heap.size, 3, none⟩) (Nat.le_refl _) _).setCell (p := ⟨w.heap.size, 4, none⟩) (Nat.le_refl _) _⟩
  · have B1 := b0.trans (B.mono b0.size)
    have hb1 := (B.block _ hz).trans hblk
    obtain ⟨c0, c1', c2, c3, c4, cf⟩ := cd_cells hb1
    clear hd B b0 hblk hz hb1
    go_wp2_with fail
    exact bodyPost_ret (v := .tuple #[cdZ, .int .i64 105]) (by simp [results, Tryz.results32, go_sem, c0, c1', c2, c3, c4]) rfl ⟨rfl, ((((B1.setCell (p := ⟨w.heap.size, 0, none⟩) (Nat.le_refl _) _).setCell (p := ⟨w.heap.size, 1, none⟩) (Nat.le_refl _) _).setCell (p := ⟨w.heap.size, 2, none⟩) (Nat.le_refl _) _).setCell (p := ⟨w.heap.size, 3, none⟩) (Nat.le_refl _) _).setCell (p := ⟨w.heap.size, 4, none⟩) (Nat.le_refl _) _⟩
end
end Go.Proofs.YthmfneepnkgmgaaGreatDoor.Enc
/- made: the code that a statement of chapter 6 makes of any numbers. By the verifier of shale. -/
namespace Go.Proofs.YthmfneepnkgmgaaGreatDoor.Enc
open Go Go.RowKit Bin Cos
set_option linter.unusedVariables false
/-- the numbers that a statement makes of any. -/
def mkM (z : Int) : Nat := (z % 5).toNat + 6
def mkT (z : Int) : Nat := (z % 6).toNat + 1
def mkN (z : Int) : Nat := (z % 24).toNat + 1
instance (z : Int) : Pl.Mid (mkM z) := ⟨by unfold mkM; omega, by unfold mkM; omega⟩
instance mid8 : Pl.Mid 8 := ⟨by decide, by decide⟩
theorem mkM_go (z : Int) : z.tmod 5 % 5 + 6 = (mkM z : Int) := by
  unfold mkM
  have : z.tmod 5 % 5 = z % 5 := by rw [Int.tmod_eq_emod]; split <;> omega
  omega
theorem mkT_go (z : Int) : z.tmod 6 % 6 + 1 = (mkT z : Int) := by
  unfold mkT
  have : z.tmod 6 % 6 = z % 6 := by rw [Int.tmod_eq_emod]; split <;> omega
  omega
theorem mkN_go (z : Int) : z.tmod 24 % 24 + 1 = (mkN z : Int) := by
  unfold mkN
  have : z.tmod 24 % 24 = z % 24 := by rw [Int.tmod_eq_emod]; split <;> omega
  omega
theorem tmod_bounds (z : Int) (k : Nat) (h : 0 < k) : -(k : Int) < z.tmod k ∧ z.tmod k < k := by
  have a1 := Int.tmod_lt_of_pos z (b := (k : Int)) (by omega)
  have a2 := Int.tmod_lt_of_pos (-z) (b := (k : Int)) (by omega)
  rw [Int.neg_tmod] at a2
  omega
theorem may8 : May 8 2 9 := ⟨by decide, by decide, by decide, by decide, by decide +kernel, by decide +kernel⟩
/-- both codes, and what they are. -/
def BothAt (w : World) (e : Ending) (w' : World) : Prop :=
  ∃ (m t n : Nat) (M : Pl.Mid m) (s : Nat) (ga : Option Addr) (gn gc : Nat), 6 ≤ m ∧ m ≤ 10 ∧ t ≤ 6 ∧ n ≤ 24 ∧ May m t n ∧ e = .returned (.tuple #[.pointer (some ⟨s, 0, none⟩), cdV m t n ga gn gc (deg m t), .bool true]) ∧
    CodeAt m t n w' s ∧ BarV w' ga gn gc (gen m t) ∧ Below w.heap.size w w'
theorem setCd {w : World} {s : Nat} {a b c d e : Value} (h : w.heap[s]? = some (cdO a b c d e)) (a' b' c' d' e' : Value) : (((((w.setCell ⟨s, 0, none⟩ a').setCell ⟨s, 1, none⟩ b').setCell ⟨s, 2, none⟩ c').setCell ⟨s, 3, none⟩ d').setCell ⟨s, 4, none⟩ e').heap[s]? = some (cdO a' b' c' d' e') := by
  have hlt := lt_of_block h
  have step : ∀ (w : World) (i : Nat) (v : Value) (cs : Array Value), w.heap[s]? = some (.cells cs 26 (0, 0)) → (w.setCell ⟨s, i, none⟩ v).heap[s]? = some (.cells (cs.setIfInBounds i v) 26 (0, 0)) := by
    intro w i v cs h
    have hlt := lt_of_block h
    have h' : w.heap[s] = .cells cs 26 (0, 0) := by simpa [Array.getElem?_eq_getElem hlt] using h
    show (w.heap.modify s _)[s]? = _
    rw [Array.getElem?_eq_getElem (by simpa using hlt), Array.getElem_modify_self, h']
    rfl
  have h1 := step _ 4 e' _ (step _ 3 d' _ (step _ 2 c' _ (step _ 1 b' _ (step _ 0 a' _ h))))
  exact h1
theorem onlyCd (w : World) (s : Nat) (a' b' c' d' e' : Value) : Only s w (((((w.setCell ⟨s, 0, none⟩ a').setCell ⟨s, 1, none⟩ b').setCell ⟨s, 2, none⟩ c').setCell ⟨s, 3, none⟩ d').setCell ⟨s, 4, none⟩ e') :=
  ((((Only.setCell w ⟨s, 0, none⟩ a').trans (Only.setCell _ ⟨s, 1, none⟩ b')).trans (Only.setCell _ ⟨s, 2, none⟩ c')).trans (Only.setCell _ ⟨s, 3, none⟩ d')).trans (Only.setCell _ ⟨s, 4, none⟩ e')
abbrev cd0 : Obj := cdO (.int .i64 0) (.int .i64 0) (.int .i64 0) (.slice none 0 0) (.int .i64 0)
theorem cd0_val {w : World} {s i : Nat} {v : Value} (hb : w.heap[s]? = some cd0) (h : w.cell? ⟨s, i, none⟩ = some v) : v = .int .i64 0 ∨ v = .slice none 0 0 := by
  unfold World.cell? at h
  simp only at h
  rw [hb] at h
  unfold cd0 cdO at h
  rcases (by omega : i = 0 ∨ i = 1 ∨ i = 2 ∨ i = 3 ∨ i = 4 ∨ 5 ≤ i) with rfl | rfl | rfl | rfl | rfl | h5
  · simp at h; exact Or.inl h.symm
  · simp at h; exact Or.inl h.symm
  · simp at h; exact Or.inl h.symm
  · simp at h; exact Or.inr h.symm
  · simp at h; exact Or.inl h.symm
  · obtain ⟨k, rfl⟩ : ∃ k, i = k + 5 := ⟨i - 5, by omega⟩
    simp at h
section
variable {m : Nat} [M : Pl.Mid m]
theorem FldAt_cd {w w' : World} {f be ce bl s : Nat} (h : Fld.FldAt m w f be ce bl) (o : Only s w w') (hb : w.heap[s]? = some cd0) : Fld.FldAt m w' f be ce bl := by
  have hsz : 1 < Fld.size m := by have := sz_lo M.lo; show 1 < sz m; omega
  have n1 : f ≠ s := by
    intro e
    have := h.1
    rw [e, hb] at this
    simp [cd0, cdO] at this
  have n2 : be ≠ s := by
    intro e
    have h1 := h.2.2.1 0 (by omega)
    rw [e] at h1
    rcases cd0_val hb h1 with h2 | h2
    · simp only [Value.int.injEq, true_and] at h2
      exact (Fld.pw_ne m M.lo M.hi 0).1 (Bits16.h_inj _ _ (h2.trans (by decide)))
    · cases h2
  have n3 : bl ≠ s := by
    intro e
    have h1 := h.2.2.2 (Fld.pw m 1) (Fld.pw_ne m M.lo M.hi 1).2
    rw [e, Fld.lg_pw m M.lo M.hi 1 hsz] at h1
    rcases cd0_val hb h1 with h2 | h2 <;> simp at h2
  exact ⟨(o.block f n1).trans h.1, h.2.1, fun i hi => (o.cell (p := ⟨be, i, none⟩) n2).trans (h.2.2.1 i hi), fun x hx => (o.cell (p := ⟨bl, _, none⟩) n3).trans (h.2.2.2 x hx)⟩
theorem pol_cd {w w' : World} {a : Option Addr} {n c s : Nat} {X : List (BitVec 8)} (h : Pol w a n c X) (o : Only s w w') (hb : w.heap[s]? = some cd0) : Pol w' a n c X := by
  refine ⟨h.hlen, h.hcap, h.hmost, h.hnil, ?_⟩
  by_cases h0 : n = 0
  · exact Or.inl h0
  · rcases h.hrow with h1 | ⟨bb, off, e, hr, hlt⟩
    · exact absurd h1 h0
    · have hne : bb ≠ s := by
        intro e2
        have h1 := hr 0 (by have := h.hlen; omega)
        rw [e2] at h1
        rcases cd0_val hb h1 with h2 | h2 <;> simp at h2
      exact Or.inr ⟨bb, off, e, hr.only o hne, by rw [o.size]; exact hlt⟩
theorem CodeAt.cd {t n : Nat} {w w' : World} {s b : Nat} (h : CodeAt m t n w s) (o : Only b w w') (hb : w.heap[b]? = some cd0) : CodeAt m t n w' s := by
  obtain ⟨f, be, ce, bl, ga, gn, gc, lb, tb, h1, h2, ⟨X, hX, h3⟩, h4, h5⟩ := h
  have n1 : s ≠ b := by
    intro e
    rw [e, hb] at h1
    simp [cd0, cdO, codeO] at h1
  have nU : ∀ g n R, Reg w g n R → g ≠ b := by
    intro g n R hR e
    have h : w.heap[g]? = some (objU (wl n R)) := hR
    rw [e, hb] at h
    simp [cd0, cdO, objU] at h
  refine ⟨f, be, ce, bl, ga, gn, gc, lb, tb, (o.block s n1).trans h1, FldAt_cd h2 o hb, ⟨X, pol_cd hX o hb, h3⟩, h4.only o (nU _ _ _ h4), fun x hx => ?_⟩
  obtain ⟨rb, c1, c2⟩ := h5 x hx
  have n2 : tb ≠ b := by
    intro e
    rw [e] at c1
    rcases cd0_val hb c1 with h2 | h2 <;> simp at h2
  exact ⟨rb, (o.cell (p := ⟨tb, x, none⟩) n2).trans c1, c2.only o (nU _ _ _ c2)⟩
end
end Go.Proofs.YthmfneepnkgmgaaGreatDoor.Enc
/- What is amiss, as numbers: the values of a word at the powers of a. By the verifier of shale. -/
namespace Go.Proofs.YthmfneepnkgmgaaGreatDoor.Syn
open Go Bin Pl Cos Enc
set_option linter.unusedVariables false
section
variable {m : Nat} [M : Mid m]
/-- the value of the word v at a^j. -/
def sv (m : Nat) [M : Mid m] (v j : Nat) : BitVec 16 := (vv (m := m) v (xe m j)).val
theorem sv_xor (a b j : Nat) : sv m (a ^^^ b) j = sv m a j ^^^ sv m b j := by unfold sv; rw [vv_xor]; rfl
theorem sv_zero (j : Nat) : sv m 0 j = 0 := rfl
theorem plc_pow (p : Nat) : ∀ n, plc (2 ^ p) n = if p < n then [p] else []
  | 0 => rfl
  | n + 1 => by
    rw [plc_succ, plc_pow p n, Nat.testBit_two_pow]
    by_cases h : p = n
    · subst h; simp
    · by_cases h2 : p < n
      · simp [h, h2, show p < n + 1 by omega]
      · simp [h, h2, show ¬ p < n + 1 by omega]
theorem sv_pow (p j : Nat) : sv m (2 ^ p) j = Fld.pwZ m ((p * j : Nat) : Int) := by
  unfold sv
  rw [vv_plc (n := p + 1) (Nat.pow_lt_pow_right (by decide) (by omega)), plc_pow, if_pos (by omega)]
  show (xe m (j * p) + 0).val = _
  rw [Fl.add_zero, Nat.mul_comm]; rfl
theorem sumE_sq (f : Nat → El m) : ∀ l : List Nat, sumE (l.map f) * sumE (l.map f) = sumE (l.map fun p => f p * f p)
  | [] => Pl.mul_zero 0
  | a :: t => by
    show (f a + sumE (t.map f)) * (f a + sumE (t.map f)) = f a * f a + sumE (t.map fun p => f p * f p)
    rw [sq_add, sumE_sq f t]
theorem vv_sq (v j : Nat) : vv (m := m) v (xe m (2 * j)) = vv v (xe m j) * vv v (xe m j) := by
  have h : v < 2 ^ v := Nat.lt_two_pow_self
  rw [vv_plc h, vv_plc h, sumE_sq]
  congr 1
  refine List.map_congr_left fun p _ => ?_
  rw [xe_mul]
  congr 1
  rw [Nat.mul_assoc, Nat.two_mul]
theorem sv_sq (v j : Nat) : sv m v (2 * j) = Fld.fmul m (sv m v j) (sv m v j) := by
  unfold sv; rw [vv_sq]; rfl
theorem sv_dvd {t v j : Nat} (h : Dvd (gen m t) v) (h1 : 1 ≤ j) (h2 : j ≤ 2 * t) : sv m v j = 0 := by
  unfold sv; rw [dvd_root h (gen_root h1 h2)]; rfl
/-- few places, whose values are all 0, are none. -/
theorem sv_few {t v n : Nat} (hv : v < 2 ^ n) (hn : n ≤ sz m) (h : ∀ j, 1 ≤ j → j ≤ 2 * t → sv m v j = 0) : v = 0 ∨ 2 * t < pop v n := by
  by_cases h0 : v = 0
  · exact Or.inl h0
  · refine Or.inr (places_many (m := m) (plc v n) (plc_nodup v n) (fun p hp => by have := (mem_plc.1 hp).1; omega) (fun j h1 h2 => ?_) ?_)
    · rw [← vv_plc hv]
      exact El.ext (h j h1 h2)
    · intro he
      exact h0 (pop_pos hv (by unfold pop; rw [he]; rfl))
/-- the word of these places, each turned as often as it stands there. -/
def xs (l : List Nat) : Nat := l.foldl (fun v p => v ^^^ 2 ^ p) 0
theorem xs_take (l : List Nat) (k : Nat) (h : k < l.length) : xs (l.take (k + 1)) = xs (l.take k) ^^^ 2 ^ l[k] := by
  unfold xs
  rw [List.take_succ_eq_append_getElem h, List.foldl_append]; rfl
theorem xs_lt {n : Nat} : ∀ (l : List Nat), (∀ p ∈ l, p < n) → xs l < 2 ^ n := by
  have H : ∀ (l : List Nat) (v : Nat), v < 2 ^ n → (∀ p ∈ l, p < n) → l.foldl (fun v p => v ^^^ 2 ^ p) v < 2 ^ n := by
    intro l
    induction l with
    | nil => intro v h _; exact h
    | cons a t ih =>
      intro v h hl
      exact ih _ (Nat.xor_lt_two_pow h (Nat.pow_lt_pow_right (by decide) (hl a (List.mem_cons_self ..)))) fun p hp => hl p (List.mem_cons_of_mem _ hp)
  intro l hl
  exact H l 0 (Nat.two_pow_pos n) hl
theorem xs_plc_take (v : Nat) : ∀ n, v < 2 ^ n → xs (plc v n) = v := by
  intro n hv
  have H : ∀ k, xs (plc v k) = v % 2 ^ k := by
    intro k
    induction k with
    | zero => rw [Nat.pow_zero, Nat.mod_one]; rfl
    | succ k ih =>
      rw [plc_succ]
      unfold xs at ih ⊢
      rw [List.foldl_append, ih]
      apply Nat.eq_of_testBit_eq
      intro i
      rw [Nat.testBit_mod_two_pow]
      cases hb : v.testBit k
      · show (v % 2 ^ k).testBit i = _
        rw [Nat.testBit_mod_two_pow]
        by_cases hi : i = k
        · subst hi; rw [hb]; simp
        · congr 1; simp; omega
      · show (v % 2 ^ k ^^^ 2 ^ k).testBit i = _
        rw [Nat.testBit_xor, Nat.testBit_mod_two_pow, Nat.testBit_two_pow]
        by_cases hi : i = k
        · subst hi; rw [hb]; simp
        · have e1 : decide (k = i) = false := decide_eq_false (fun h => hi h.symm)
          rw [e1, Bool.xor_false]
          congr 1; simp; omega
  rw [H, Nat.mod_eq_of_lt hv]
/-- the value of the places as a sum from the first on. -/
theorem sv_xs_take (l : List Nat) (k j : Nat) (h : k < l.length) : sv m (xs (l.take (k + 1))) j = sv m (xs (l.take k)) j ^^^ Fld.pwZ m ((l[k] * j : Nat) : Int) := by
  rw [xs_take l k h, sv_xor, sv_pow]
/-- the values that are asked for: 2t of them. -/
def syn (m : Nat) [M : Mid m] (v n : Nat) : List Nat := (List.range n).map fun i => (sv m v (i + 1)).toNat
theorem syn_length (v n : Nat) : (syn m v n).length = n := by unfold syn; rw [List.length_map, List.length_range]
/-- the values of a word with the parity handed in are those of what the parity differs by. -/
theorem sv_word {t X Y j : Nat} (hY : Y < 2 ^ deg m t) (h1 : 1 ≤ j) (h2 : j ≤ 2 * t) : sv m (wrd (deg m t) X Y) j = sv m (prt (gen m t) (deg m t) X ^^^ Y) j := by
  have hg := gen_deg (m := m) t
  have h := sv_dvd (m := m) (wrd_dvd hg X) h1 h2
  have e : wrd (deg m t) X Y = wrd (deg m t) X (prt (gen m t) (deg m t) X) ^^^ (prt (gen m t) (deg m t) X ^^^ Y) := by
    unfold wrd
    rw [Nat.xor_assoc]
    congr 1
    rw [← Nat.xor_assoc, Nat.xor_self, Nat.zero_xor]
  rw [e, sv_xor, h]
  exact BitVec.zero_xor
end
end Go.Proofs.YthmfneepnkgmgaaGreatDoor.Syn
/- Berlekamp's and Massey's way over a field of two's kind: what is found makes the values, and nothing shorter does. No program is named here. By the verifier of shale. -/
namespace Go.Proofs.YthmfneepnkgmgaaGreatDoor.Loc
open Pl
set_option linter.unusedVariables false
section
variable {K : Type} [Fl K]
/-- where one of the two is 0 each time, the product's coefficient is 0. -/
theorem cv_none (q : Ser K) : ∀ (n : Nat) (p : Ser K), (∀ i, i ≤ n → p i = 0 ∨ q (n - i) = 0) → cv p q n = 0 := by
  intro n
  induction n with
  | zero =>
    intro p h
    show p 0 * q 0 = 0
    rcases h 0 (Nat.le_refl _) with h | h
    · rw [h, zero_mul]
    · rw [show (0 : Nat) - 0 = 0 from rfl] at h; rw [h, mul_zero]
  | succ n ih =>
    intro p h
    show p 0 * q (n + 1) + cv (tl p) q n = 0
    rw [ih (tl p) fun i hi => by
      have := h (i + 1) (by omega)
      rwa [show n + 1 - (i + 1) = n - i by omega] at this, Fl.add_zero]
    rcases h 0 (by omega) with h | h
    · rw [h, zero_mul]
    · rw [show n + 1 - 0 = n + 1 from rfl] at h; rw [h, mul_zero]
/-- .. but the first. -/
theorem cv_first (p q : Ser K) (n : Nat) (h : ∀ i, 1 ≤ i → i ≤ n → p i = 0 ∨ q (n - i) = 0) : cv p q n = p 0 * q n := by
  cases n with
  | zero => rfl
  | succ n =>
    show p 0 * q (n + 1) + cv (tl p) q n = _
    rw [cv_none q n (tl p) fun i hi => by
      have := h (i + 1) (by omega) (by omega)
      rwa [show n + 1 - (i + 1) = n - i by omega] at this, Fl.add_zero]
/-- c, of length L, makes the first n values. -/
def Gn (c : Ser K) (L n : Nat) (S : Ser K) : Prop := ∀ i, L ≤ i → i < n → cv c S i = 0
theorem Gn.less {c S : Ser K} {L n k : Nat} (h : Gn c L n S) (hk : k ≤ n) : Gn c L k S := fun i h1 h2 => h i h1 (by omega)
/-- Massey's lemma: what makes one value more than c is no shorter than n + 1 - L. -/
theorem massey {c c' S : Ser K} {L L' n : Nat} (hc : Bd c (L + 1)) (h : Gn c L n S) (ha : cv c S n ≠ 0) (hc' : Bd c' (L' + 1)) (h0 : c' 0 ≠ 0) (h' : Gn c' L' (n + 1) S) : n + 1 ≤ L + L' := by
  refine Classical.byContradiction fun hn => ?_
  have e1 : cv c (cv c' S) n = 0 := cv_none _ n c fun i hi => by
    by_cases hL : L < i
    · exact .inl (hc i (by omega))
    · exact .inr (h' (n - i) (by omega) (by omega))
  have e2 : cv c' (cv c S) n = c' 0 * cv c S n := cv_first _ _ n fun i h1 hi => by
    by_cases hL : L' < i
    · exact .inl (hc' i (by omega))
    · exact .inr (h (n - i) (by omega) (by omega))
  rw [← cv_assoc, cv_comm c c', cv_assoc, e2] at e1
  exact mul_ne h0 ha e1
/-- the state of the way. -/
structure St (K : Type) where
  c : Ser K
  b : Ser K
  L : Nat
  k : Nat
  d : K
/-- b, k places further up. -/
def up (k : Nat) (b : Ser K) : Ser K := cv (mono k 1) b
theorem up_at (k : Nat) (b : Ser K) (i : Nat) : up k b i = if i < k then 0 else b (i - k) := by
  unfold up
  rw [cv_mono]
  split
  · rfl
  · rw [one_mul]
def fix (s : St K) (a : K) : Ser K := padd s.c (psm (a * s.d⁻¹) (up s.k s.b))
open Classical in
noncomputable def step (S : Ser K) (n : Nat) (s : St K) : St K :=
  if cv s.c S n = 0 then { s with k := s.k + 1 }
  else if n < 2 * s.L then { s with c := fix s (cv s.c S n), k := s.k + 1 }
  else ⟨fix s (cv s.c S n), s.c, n + 1 - s.L, 1, cv s.c S n⟩
def st0 : St K := ⟨pone, pone, 0, 1, 1⟩
noncomputable def bm (S : Ser K) : Nat → St K
  | 0 => st0
  | n + 1 => step S n (bm S n)
theorem step_zero {S : Ser K} {n : Nat} {s : St K} (h : cv s.c S n = 0) : step S n s = { s with k := s.k + 1 } := by unfold step; rw [if_pos h]
theorem step_same {S : Ser K} {n : Nat} {s : St K} (h : cv s.c S n ≠ 0) (h2 : n < 2 * s.L) : step S n s = { s with c := fix s (cv s.c S n), k := s.k + 1 } := by unfold step; rw [if_neg h, if_pos h2]
theorem step_grow {S : Ser K} {n : Nat} {s : St K} (h : cv s.c S n ≠ 0) (h2 : ¬ n < 2 * s.L) : step S n s = ⟨fix s (cv s.c S n), s.c, n + 1 - s.L, 1, cv s.c S n⟩ := by unfold step; rw [if_neg h, if_neg h2]
/-- what holds of the state behind n values. -/
structure Inv (S : Ser K) (n : Nat) (s : St K) : Prop where
  one : s.c 0 = 1
  bd : Bd s.c (s.L + 1)
  gn : Gn s.c s.L n S
  le : s.L ≤ n
  d0 : s.d ≠ 0
  kp : 1 ≤ s.k
  /-- the length of b. -/
  old : ∃ B, Bd s.b (B + 1) ∧ s.k + B + s.L = n + 1 ∧ (∀ i, B ≤ i → i + s.k < n → cv s.b S i = 0) ∧ ((s.L = 0 ∧ s.k = n + 1) ∨ (s.k ≤ n ∧ cv s.b S (n - s.k) = s.d))
  min : ∀ (c' : Ser K) (L' : Nat), Bd c' (L' + 1) → c' 0 ≠ 0 → Gn c' L' n S → s.L ≤ L'
theorem inv_zero (S : Ser K) : Inv S 0 st0 :=
  ⟨rfl, bd_one, fun i _ h => absurd h (Nat.not_lt_zero _), Nat.le_refl _, Fl.one_ne, Nat.le_refl _, ⟨0, bd_one, rfl, fun i _ h => absurd h (Nat.not_lt_zero _), .inl ⟨rfl, rfl⟩⟩, fun _ _ _ _ _ => Nat.zero_le _⟩
theorem cv_up (k : Nat) (b S : Ser K) (i : Nat) : cv (up k b) S i = if i < k then 0 else cv b S (i - k) := by
  unfold up
  rw [cv_assoc, cv_mono]
  split
  · rfl
  · rw [one_mul]
theorem fix_cv (s : St K) (a : K) (S : Ser K) (i : Nat) : cv (fix s a) S i = cv s.c S i + a * s.d⁻¹ * (if i < s.k then 0 else cv s.b S (i - s.k)) := by
  unfold fix
  rw [cv_add, cv_psm, ← cv_up]; rfl
theorem fix_one {S : Ser K} {n : Nat} {s : St K} (h : Inv S n s) (a : K) : fix s a 0 = 1 := by
  show s.c 0 + a * s.d⁻¹ * up s.k s.b 0 = 1
  rw [up_at, if_pos (by have := h.kp; omega), mul_zero, Fl.add_zero, h.one]
theorem inv_mul (a d : K) (h : d ≠ 0) : a * d⁻¹ * d = a := by rw [Fl.mul_assoc, Fl.mul_comm d⁻¹, Fl.mul_inv d h, Fl.mul_one]
/-- the mended polynomial makes one value more. -/
theorem fix_gn {S : Ser K} {n : Nat} {s : St K} (h : Inv S n s) (a : K) (ha : cv s.c S n = a) (L' : Nat) (h1 : s.L ≤ L') (h2 : n + 1 ≤ L' + s.L) (h3 : s.L = 0 → n + 1 ≤ L') : Gn (fix s a) L' (n + 1) S ∧ Bd (fix s a) (L' + 1) := by
  obtain ⟨B, hb, he, hz, hd⟩ := h.old
  constructor
  · intro i hi hn
    rw [fix_cv]
    by_cases hin : i = n
    · subst hin
      rcases hd with ⟨hL, hk⟩ | ⟨hk, hd⟩
      · have := h3 hL; omega
      · rw [if_neg (by omega), hd, ha, inv_mul a s.d h.d0, Fl.add_self]
    · rw [h.gn i (by omega) (by omega), if_neg (by omega), hz (i - s.k) (by omega) (by omega), mul_zero, Fl.add_zero]
  · intro i hi
    show s.c i + a * s.d⁻¹ * up s.k s.b i = 0
    rw [up_at, if_neg (by omega), h.bd i (by omega), hb (i - s.k) (by omega), mul_zero, Fl.add_zero]
theorem inv_step {S : Ser K} {n : Nat} {s : St K} (h : Inv S n s) : Inv S (n + 1) (step S n s) := by
  obtain ⟨B, hb, he, hz, hd⟩ := h.old
  have hk := h.kp
  have hle := h.le
  have hmin : ∀ (c' : Ser K) (L' : Nat), Bd c' (L' + 1) → c' 0 ≠ 0 → Gn c' L' (n + 1) S → s.L ≤ L' := fun c' L' h1 h2 h3 => h.min c' L' h1 h2 (h3.less (by omega))
  by_cases ha : cv s.c S n = 0
  · rw [step_zero ha]
    refine ⟨h.one, h.bd, fun i h1 h2 => ?_, by show s.L ≤ n + 1; omega, h.d0, by show 1 ≤ s.k + 1; omega, ⟨B, hb, by show s.k + 1 + B + s.L = n + 1 + 1; omega, fun i h1 h2 => hz i h1 (by have h2 : i + (s.k + 1) < n + 1 := h2; omega), ?_⟩, hmin⟩
    · by_cases hin : i = n
      · subst hin; exact ha
      · exact h.gn i h1 (by omega)
    · rcases hd with ⟨hL, hk⟩ | ⟨hk, hd⟩
      · exact .inl ⟨hL, by show s.k + 1 = n + 1 + 1; omega⟩
      · exact .inr ⟨by show s.k + 1 ≤ n + 1; omega, by show cv s.b S (n + 1 - (s.k + 1)) = s.d; rw [show n + 1 - (s.k + 1) = n - s.k by omega]; exact hd⟩
  · by_cases h2 : n < 2 * s.L
    · rw [step_same ha h2]
      obtain ⟨g1, g2⟩ := fix_gn h _ rfl s.L (Nat.le_refl _) (by omega) (by omega)
      refine ⟨fix_one h _, g2, g1, by show s.L ≤ n + 1; omega, h.d0, by show 1 ≤ s.k + 1; omega, ⟨B, hb, by show s.k + 1 + B + s.L = n + 1 + 1; omega, fun i h1 h2 => hz i h1 (by have h2 : i + (s.k + 1) < n + 1 := h2; omega), ?_⟩, hmin⟩
      rcases hd with ⟨hL, hk⟩ | ⟨hk, hd⟩
      · omega
      · exact .inr ⟨by show s.k + 1 ≤ n + 1; omega, by show cv s.b S (n + 1 - (s.k + 1)) = s.d; rw [show n + 1 - (s.k + 1) = n - s.k by omega]; exact hd⟩
    · rw [step_grow ha h2]
      obtain ⟨g1, g2⟩ := fix_gn h _ rfl (n + 1 - s.L) (by omega) (by omega) (by omega)
      refine ⟨fix_one h _, g2, g1, by show n + 1 - s.L ≤ n + 1; omega, ha, Nat.le_refl _, ⟨s.L, h.bd, by show 1 + s.L + (n + 1 - s.L) = n + 1 + 1; omega, fun i h1 h2 => h.gn i h1 (by have h2 : i + 1 < n + 1 := h2; omega), .inr ⟨by show 1 ≤ n + 1; omega, by show cv s.c S (n + 1 - 1) = cv s.c S n; rfl⟩⟩, fun c' L' h1 h2 h3 => ?_⟩
      have := massey h.bd h.gn ha h1 h2 h3
      show n + 1 - s.L ≤ L'
      omega
theorem bm_inv (S : Ser K) : ∀ n, Inv S n (bm S n)
  | 0 => inv_zero S
  | n + 1 => inv_step (bm_inv S n)
/-- the length of b, as a word. -/
theorem Inv.room {S : Ser K} {n : Nat} {s : St K} (h : Inv S n s) : s.k ≤ n + 1 ∧ Bd (up s.k s.b) (n + 2 - s.L) ∧ Bd s.b (n + 2) := by
  obtain ⟨B, hb, he, _⟩ := h.old
  refine ⟨by omega, fun i hi => ?_, hb.mono (by have := h.le; omega)⟩
  rw [up_at]
  split
  · rfl
  · exact hb _ (by omega)
open Classical in
/-- the length never falls, and grows as it must. -/
theorem step_len (S : Ser K) (n : Nat) (s : St K) : (step S n s).L = if cv s.c S n = 0 ∨ n < 2 * s.L then s.L else n + 1 - s.L := by
  by_cases ha : cv s.c S n = 0
  · rw [step_zero ha, if_pos (.inl ha)]
  · by_cases h2 : n < 2 * s.L
    · rw [step_same ha h2, if_pos (.inr h2)]
    · rw [step_grow ha h2, if_neg (by simp [ha, h2])]
open Classical in
theorem bm_len {S : Ser K} {n : Nat} (h : cv (bm S n).c S n ≠ 0) : (bm S (n + 1)).L = max (bm S n).L (n + 1 - (bm S n).L) := by
  show (step S n (bm S n)).L = _
  rw [step_len]
  by_cases h2 : n < 2 * (bm S n).L
  · rw [if_pos (.inr h2)]; omega
  · rw [if_neg (by simp [h, h2])]; omega
open Classical in
theorem bm_grows (S : Ser K) (n : Nat) : (bm S n).L ≤ (bm S (n + 1)).L := by
  show _ ≤ (step S n (bm S n)).L
  rw [step_len]
  have := (bm_inv S n).le
  split <;> omega
theorem bm_stays {S : Ser K} {n : Nat} (h : cv (bm S n).c S n = 0) : (bm S (n + 1)).c = (bm S n).c ∧ (bm S (n + 1)).L = (bm S n).L := by
  show (step S n (bm S n)).c = _ ∧ (step S n (bm S n)).L = _
  rw [step_zero h]
  exact ⟨rfl, rfl⟩
theorem cv_ext {p q r s : Ser K} : ∀ {n : Nat}, (∀ i, i ≤ n → p i = r i) → (∀ i, i ≤ n → q i = s i) → cv p q n = cv r s n := by
  intro n
  induction n generalizing p r with
  | zero =>
    intro h k
    show p 0 * q 0 = r 0 * s 0
    rw [h 0 (Nat.le_refl _), k 0 (Nat.le_refl _)]
  | succ n ih =>
    intro h k
    show p 0 * q (n + 1) + cv (tl p) q n = r 0 * s (n + 1) + cv (tl r) s n
    rw [h 0 (Nat.zero_le _), k (n + 1) (Nat.le_refl _), ih (p := tl p) (r := tl r) (fun i hi => h (i + 1) (by omega)) (fun i hi => k i (by omega))]
/-- only the first n values are looked at. -/
theorem bm_ext {S T : Ser K} : ∀ {n : Nat}, (∀ i, i < n → S i = T i) → bm S n = bm T n := by
  intro n
  induction n with
  | zero => intro _; rfl
  | succ n ih =>
    intro h
    have e := ih fun i hi => h i (by omega)
    show step S n (bm S n) = step T n (bm T n)
    rw [e]
    have hc : cv (bm T n).c S n = cv (bm T n).c T n := cv_ext (fun _ _ => rfl) (fun i hi => h i (by omega))
    unfold step
    rw [hc]
theorem gn_ext {c S T : Ser K} {L n : Nat} (h : ∀ i, i < n → S i = T i) (g : Gn c L n S) : Gn c L n T := fun i h1 h2 => by
  rw [← g i h1 h2]
  exact cv_ext (fun _ _ => rfl) (fun j hj => (h j (by omega)).symm)
/-- where there are twice as many values as the length, the polynomial is the only one. -/
theorem only {S c c' : Ser K} {L n : Nat} (hc : Bd c (L + 1)) (h1 : c 0 = 1) (hg : Gn c L n S) (hc' : Bd c' (L + 1)) (h1' : c' 0 = 1) (hg' : Gn c' L n S) (hmin : ∀ (x : Ser K) (L' : Nat), Bd x (L' + 1) → x 0 ≠ 0 → Gn x L' n S → L ≤ L') (hn : 2 * L ≤ n) : c' = c := by
  refine Classical.byContradiction fun hne => ?_
  have he : ∀ i, L ≤ i → i < n → cv (padd c' c) S i = 0 := fun i a b => by
    rw [cv_add_left, hg i a b, hg' i a b, Fl.add_zero]
  have hex : ∃ i, padd c' c i ≠ 0 := Classical.byContradiction fun hno => hne (padd_cancel (funext fun i => Classical.byContradiction fun hi => hno ⟨i, hi⟩))
  obtain ⟨i0, hi0, hfirst⟩ : ∃ i0, padd c' c i0 ≠ 0 ∧ ∀ i, i < i0 → padd c' c i = 0 := by
    obtain ⟨i, hi⟩ := hex
    induction i using Nat.strongRecOn with
    | ind i ih =>
      by_cases hs : ∃ j, j < i ∧ padd c' c j ≠ 0
      · obtain ⟨j, hj, hj2⟩ := hs; exact ih j hj hj2
      · exact ⟨i, hi, fun j hj => Classical.byContradiction fun h => hs ⟨j, hj, h⟩⟩
  have hp : 1 ≤ i0 := by
    rcases Nat.eq_zero_or_pos i0 with h | h
    · subst h
      exact absurd (show c' 0 + c 0 = 0 by rw [h1, h1', Fl.add_self]) hi0
    · exact h
  have hl : i0 ≤ L := Classical.byContradiction fun h => hi0 (by show c' i0 + c i0 = 0; rw [hc i0 (by omega), hc' i0 (by omega), Fl.add_zero])
  obtain ⟨e', he'⟩ : ∃ e' : Ser K, e' = fun i => padd c' c (i + i0) := ⟨_, rfl⟩
  have hu : padd c' c = up i0 e' := funext fun i => by
    rw [up_at, he']
    split
    · exact hfirst i (by assumption)
    · show _ = padd c' c (i - i0 + i0)
      rw [show i - i0 + i0 = i by omega]
  have hb' : Bd e' (L - i0 + 1) := fun i hi => by
    rw [he']
    show c' (i + i0) + c (i + i0) = 0
    rw [hc _ (by omega), hc' _ (by omega), Fl.add_zero]
  have h0' : e' 0 ≠ 0 := by rw [he']; show padd c' c (0 + i0) ≠ 0; rw [Nat.zero_add]; exact hi0
  have hg0 : Gn e' (L - i0) (n - i0) S := fun i a b => by
    have h := he (i + i0) (by omega) (by omega)
    rw [hu, cv_up, if_neg (by omega), show i + i0 - i0 = i by omega] at h
    exact h
  have hfail : ∃ x, n - i0 ≤ x ∧ x < n ∧ cv e' S x ≠ 0 := Classical.byContradiction fun hno => by
    have hall : Gn e' (L - i0) n S := fun i a b => by
      by_cases hx : i < n - i0
      · exact hg0 i a hx
      · exact Classical.byContradiction fun h => hno ⟨i, by omega, b, h⟩
    have := hmin e' (L - i0) hb' h0' hall
    omega
  obtain ⟨x, hx⟩ := hfail
  obtain ⟨y, hy1, hy2, hy3, hy4⟩ : ∃ y, n - i0 ≤ y ∧ y < n ∧ cv e' S y ≠ 0 ∧ Gn e' (L - i0) y S := by
    induction x using Nat.strongRecOn with
    | ind x ih =>
      by_cases hs : ∃ j, j < x ∧ n - i0 ≤ j ∧ cv e' S j ≠ 0
      · obtain ⟨j, hj, hj2, hj3⟩ := hs; exact ih j hj ⟨hj2, by omega, hj3⟩
      · refine ⟨x, hx.1, hx.2.1, hx.2.2, fun i a b => ?_⟩
        by_cases hz : i < n - i0
        · exact hg0 i a hz
        · exact Classical.byContradiction fun h => hs ⟨i, b, by omega, h⟩
  have := massey hb' hy4 hy3 hc (by rw [h1]; exact Fl.one_ne) (hg.less (by omega))
  omega
theorem bm_only {S c' : Ser K} {n : Nat} (hc' : Bd c' ((bm S n).L + 1)) (h1' : c' 0 = 1) (hg' : Gn c' (bm S n).L n S) (hn : 2 * (bm S n).L ≤ n) : c' = (bm S n).c :=
  only (bm_inv S n).bd (bm_inv S n).one (bm_inv S n).gn hc' h1' hg' (bm_inv S n).min hn
/-! ### the way without a division -/
open Classical in
noncomputable def stepF (S : Ser K) (n : Nat) (s : St K) : St K :=
  if cv s.c S n = 0 then { s with k := s.k + 1 }
  else if n < 2 * s.L then { s with c := padd (psm s.d s.c) (psm (cv s.c S n) (up s.k s.b)), k := s.k + 1 }
  else ⟨padd (psm s.d s.c) (psm (cv s.c S n) (up s.k s.b)), s.c, n + 1 - s.L, 1, cv s.c S n⟩
noncomputable def bmF (S : Ser K) : Nat → St K
  | 0 => st0
  | n + 1 => stepF S n (bmF S n)
theorem up_sm (k : Nat) (a : K) (b : Ser K) : up k (psm a b) = psm a (up k b) := by unfold up; rw [cv_comm, cv_psm, cv_comm]
theorem psm_padd (a : K) (p q : Ser K) : psm a (padd p q) = padd (psm a p) (psm a q) := funext fun i => Fl.mul_add _ _ _
/-- the same, but for factors. -/
def Like (s t : St K) : Prop := ∃ x y : K, x ≠ 0 ∧ y ≠ 0 ∧ t.c = psm x s.c ∧ t.b = psm y s.b ∧ t.L = s.L ∧ t.k = s.k ∧ t.d = y * s.d
theorem like_step {S : Ser K} {n : Nat} {s t : St K} (h : Like s t) (hd : s.d ≠ 0) : Like (step S n s) (stepF S n t) := by
  obtain ⟨x, y, hx, hy, h1, h2, h3, h4, h5⟩ := h
  have hc : cv t.c S n = x * cv s.c S n := by rw [h1, cv_sm_left]
  have hf : padd (psm t.d t.c) (psm (cv t.c S n) (up t.k t.b)) = psm (x * y * s.d) (fix s (cv s.c S n)) := by
    unfold fix
    rw [hc, h1, h2, h4, h5, up_sm, psm_padd, psm_psm, psm_psm, psm_psm]
    congr 2
    · ac_rfl
    · have e : s.d * (cv s.c S n * s.d⁻¹) = cv s.c S n := by rw [Fl.mul_comm, inv_mul _ _ hd]
      rw [show x * y * s.d * (cv s.c S n * s.d⁻¹) = x * y * (s.d * (cv s.c S n * s.d⁻¹)) from Fl.mul_assoc _ _ _, e]
      ac_rfl
  by_cases ha : cv s.c S n = 0
  · have ha' : cv t.c S n = 0 := by rw [hc, ha, mul_zero]
    rw [step_zero ha]
    unfold stepF
    rw [if_pos ha']
    exact ⟨x, y, hx, hy, h1, h2, h3, by show t.k + 1 = s.k + 1; rw [h4], h5⟩
  · have ha' : cv t.c S n ≠ 0 := by rw [hc]; exact mul_ne hx ha
    unfold stepF
    rw [if_neg ha', hf, h3]
    by_cases h6 : n < 2 * s.L
    · rw [step_same ha h6, if_pos h6]
      exact ⟨x * y * s.d, y, mul_ne (mul_ne hx hy) hd, hy, rfl, h2, rfl, by show t.k + 1 = s.k + 1; rw [h4], h5⟩
    · rw [step_grow ha h6, if_neg h6]
      exact ⟨x * y * s.d, x, mul_ne (mul_ne hx hy) hd, hx, rfl, h1, rfl, rfl, hc⟩
theorem like_bm (S : Ser K) : ∀ n, Like (bm S n) (bmF S n)
  | 0 => ⟨1, 1, Fl.one_ne, Fl.one_ne, (psm_one _).symm, (psm_one _).symm, rfl, rfl, by show (1 : K) = 1 * 1; rw [Fl.mul_one]⟩
  | n + 1 => like_step (like_bm S n) (bm_inv S n).d0
/-! ### scaled values -/
theorem gn_sm {c S : Ser K} {L n : Nat} (a : K) (h : Gn c L n S) : Gn c L n (psm a S) := fun i h1 h2 => by
  rw [cv_comm, cv_sm_left, cv_comm, h i h1 h2, mul_zero]
theorem psm_inv {a : K} (ha : a ≠ 0) (S : Ser K) : psm a⁻¹ (psm a S) = S := by rw [psm_psm, Fl.mul_comm, Fl.mul_inv a ha, psm_one]
theorem bm_sm_len {S : Ser K} {a : K} (ha : a ≠ 0) (n : Nat) : (bm (psm a S) n).L = (bm S n).L := by
  apply Nat.le_antisymm
  · exact (bm_inv _ n).min _ _ (bm_inv S n).bd (by rw [(bm_inv S n).one]; exact Fl.one_ne) (gn_sm a (bm_inv S n).gn)
  · refine (bm_inv _ n).min _ _ (bm_inv (psm a S) n).bd (by rw [(bm_inv (psm a S) n).one]; exact Fl.one_ne) ?_
    have := gn_sm a⁻¹ (bm_inv (psm a S) n).gn
    rwa [psm_inv ha] at this
theorem bm_sm {S : Ser K} {a : K} (ha : a ≠ 0) {n : Nat} (hn : 2 * (bm S n).L ≤ n) : (bm (psm a S) n).c = (bm S n).c := by
  refine bm_only ?_ (bm_inv (psm a S) n).one ?_ hn
  · rw [← bm_sm_len ha]; exact (bm_inv _ n).bd
  · have := gn_sm a⁻¹ (bm_inv (psm a S) n).gn
    rwa [psm_inv ha, bm_sm_len ha] at this
def pwK (b : K) : Nat → K
  | 0 => 1
  | k + 1 => b * pwK b k
theorem pwK_ne {b : K} (hb : b ≠ 0) : ∀ i, pwK b i ≠ 0
  | 0 => Fl.one_ne
  | i + 1 => mul_ne hb (pwK_ne hb i)
theorem pwK_inv {b : K} (hb : b ≠ 0) : ∀ i, pwK b i * pwK b⁻¹ i = 1
  | 0 => Fl.mul_one _
  | i + 1 => by
    show b * pwK b i * (b⁻¹ * pwK b⁻¹ i) = 1
    rw [show b * pwK b i * (b⁻¹ * pwK b⁻¹ i) = (b * b⁻¹) * (pwK b i * pwK b⁻¹ i) by ac_rfl, Fl.mul_inv b hb, pwK_inv hb i, Fl.mul_one]
/-- each coefficient times the power that its place says. -/
def tw (b : K) (p : Ser K) : Ser K := fun i => p i * pwK b i
theorem tw_inv {b : K} (hb : b ≠ 0) (p : Ser K) : tw b⁻¹ (tw b p) = p := funext fun i => by
  show p i * pwK b i * pwK b⁻¹ i = p i
  rw [Fl.mul_assoc, pwK_inv hb, Fl.mul_one]
theorem tw_inv' {b : K} (hb : b ≠ 0) (p : Ser K) : tw b (tw b⁻¹ p) = p := funext fun i => by
  show p i * pwK b⁻¹ i * pwK b i = p i
  rw [Fl.mul_assoc, Fl.mul_comm (pwK b⁻¹ i), pwK_inv hb, Fl.mul_one]
theorem tw_cv (b : K) (q : Ser K) : ∀ (n : Nat) (p : Ser K), cv (tw b p) (tw b q) n = cv p q n * pwK b n := by
  intro n
  induction n with
  | zero =>
    intro p
    show p 0 * 1 * (q 0 * 1) = p 0 * q 0 * 1
    rw [Fl.mul_one, Fl.mul_one, Fl.mul_one]
  | succ n ih =>
    intro p
    have e : tl (tw b p) = psm b (tw b (tl p)) := funext fun i => by
      show p (i + 1) * (b * pwK b i) = b * (p (i + 1) * pwK b i)
      ac_rfl
    show p 0 * 1 * (q (n + 1) * (b * pwK b n)) + cv (tl (tw b p)) (tw b q) n = (p 0 * q (n + 1) + cv (tl p) q n) * (b * pwK b n)
    rw [e, cv_sm_left, ih, add_mul, Fl.mul_one]
    congr 1
    · ac_rfl
    · ac_rfl
theorem tw_bd {b : K} {p : Ser K} {n : Nat} (h : Bd p n) : Bd (tw b p) n := fun i hi => by show p i * _ = 0; rw [h i hi, zero_mul]
theorem gn_tw {c S : Ser K} {L n : Nat} (b : K) (h : Gn c L n S) : Gn (tw b c) L n (tw b S) := fun i h1 h2 => by rw [tw_cv, h i h1 h2, zero_mul]
theorem tw_one {b : K} {p : Ser K} (h : p 0 = 1) : tw b p 0 = 1 := by show p 0 * 1 = 1; rw [h, Fl.mul_one]
theorem bm_tw_len {S : Ser K} {b : K} (hb : b ≠ 0) (n : Nat) : (bm (tw b S) n).L = (bm S n).L := by
  apply Nat.le_antisymm
  · exact (bm_inv _ n).min _ _ (tw_bd (b := b) (bm_inv S n).bd) (by rw [tw_one (bm_inv S n).one]; exact Fl.one_ne) (gn_tw b (bm_inv S n).gn)
  · refine (bm_inv _ n).min _ _ (tw_bd (b := b⁻¹) (bm_inv (tw b S) n).bd) (by rw [tw_one (bm_inv (tw b S) n).one]; exact Fl.one_ne) ?_
    have := gn_tw b⁻¹ (bm_inv (tw b S) n).gn
    rwa [tw_inv hb] at this
theorem bm_tw {S : Ser K} {b : K} (hb : b ≠ 0) {n : Nat} (hn : 2 * (bm S n).L ≤ n) : (bm (tw b S) n).c = tw b (bm S n).c := by
  have e : tw b⁻¹ (bm (tw b S) n).c = (bm S n).c := by
    refine bm_only ?_ (tw_one (bm_inv (tw b S) n).one) ?_ hn
    · rw [← bm_tw_len hb]; exact tw_bd (bm_inv _ n).bd
    · have := gn_tw b⁻¹ (bm_inv (tw b S) n).gn
      rwa [tw_inv hb, bm_tw_len hb] at this
  rw [← e, tw_inv' hb]
/-! ### where each second value is the square of the one at its half -/
def evp (p : Ser K) : Ser K := fun i => if i % 2 = 0 then p i else 0
theorem sq_even : ∀ (i : Nat) (p : Ser K), cv p p (2 * i) = p i * p i
  | 0, _ => rfl
  | i + 1, p => by
    show p 0 * p (2 * i + 1 + 1) + cv (tl p) p (2 * i + 1) = _
    rw [cv_right, sq_even i (tl p)]
    show p 0 * p (2 * i + 1 + 1) + (p (i + 1) * p (i + 1) + p (2 * i + 1 + 1) * p 0) = _
    rw [Fl.add_comm (p (i + 1) * p (i + 1)), ← Fl.add_assoc, Fl.mul_comm (p 0), Fl.add_self, zero_add]
theorem sq_odd : ∀ (i : Nat) (p : Ser K), cv p p (2 * i + 1) = 0
  | 0, p => by
    show p 0 * p 1 + p 1 * p 0 = 0
    rw [Fl.mul_comm, Fl.add_self]
  | i + 1, p => by
    show p 0 * p (2 * i + 1 + 1 + 1) + cv (tl p) p (2 * i + 1 + 1) = _
    rw [cv_right, sq_odd i (tl p)]
    show p 0 * p (2 * i + 1 + 1 + 1) + (0 + p (2 * i + 1 + 1 + 1) * p 0) = 0
    rw [zero_add, Fl.mul_comm (p 0), Fl.add_self]
/-- 1, and the values behind it. -/
def lead (X : Ser K) : Ser K := fun i => if i = 0 then 1 else X (i - 1)
theorem lead_sq {X : Ser K} (h : ∀ i, X (2 * i + 1) = X i * X i) : cv (lead X) (lead X) = evp (lead X) := funext fun i => by
  unfold evp
  rcases (by omega : i = 2 * (i / 2) ∨ i = 2 * (i / 2) + 1) with e | e
  · rw [if_pos (by omega), e, sq_even]
    generalize i / 2 = j
    unfold lead
    rcases j with _ | j
    · exact Fl.mul_one _
    · rw [if_neg (by omega), if_neg (by omega), show 2 * (j + 1) - 1 = 2 * j + 1 by omega, h, show j + 1 - 1 = j by omega]
  · rw [if_neg (by omega), e, sq_odd]
theorem lead_cv (c X : Ser K) (n : Nat) : cv c (lead X) (n + 1) = cv c X n + c (n + 1) := by
  have e : tl (lead X) = X := funext fun i => by show (if i + 1 = 0 then (1 : K) else X (i + 1 - 1)) = X i; rw [if_neg (by omega)]; rfl
  rw [cv_right, e]
  show _ + c (n + 1) * 1 = _
  rw [Fl.mul_one]
/-- Newton's identities as far as n. -/
def Nw (X c : Ser K) (n : Nat) : Prop := ∀ i, i ≤ n → cv c (lead X) i = evp c i
theorem evp_cv (p q : Ser K) (i : Nat) : cv (evp p) q (2 * i) = cv p (evp q) (2 * i) := by
  have e : ∀ (f : Ser K), f = padd (evp f) (fun j => if j % 2 = 0 then 0 else f j) := fun f => funext fun j => by
    show f j = (if j % 2 = 0 then f j else 0) + (if j % 2 = 0 then 0 else f j)
    split
    · rw [Fl.add_zero]
    · rw [zero_add]
  have h1 : cv (evp p) q (2 * i) = cv (evp p) (evp q) (2 * i) := by
    conv => lhs; rw [e q, cv_padd]
    show cv (evp p) (evp q) (2 * i) + _ = _
    rw [cv_none (fun j => if j % 2 = 0 then 0 else q j) (2 * i) (evp p) fun j hj => ?_, Fl.add_zero]
    by_cases hj2 : j % 2 = 0
    · exact .inr (if_pos (by omega))
    · exact .inl (if_neg hj2)
  have h2 : cv p (evp q) (2 * i) = cv (evp p) (evp q) (2 * i) := by
    conv => lhs; rw [e p, cv_add]
    show cv (evp p) (evp q) (2 * i) + _ = _
    rw [cv_none (evp q) (2 * i) (fun j => if j % 2 = 0 then 0 else p j) fun j hj => ?_, Fl.add_zero]
    by_cases hj2 : j % 2 = 0
    · exact .inl (if_pos hj2)
    · exact .inr (if_neg (by omega))
  rw [h1, h2]
/-- an even place's identity follows from those ahead of it. -/
theorem nw_even {X c : Ser K} {n : Nat} (hs : ∀ i, X (2 * i + 1) = X i * X i) (h : Nw X c n) (j : Nat) (hn : n + 1 = 2 * j) : cv c (lead X) (n + 1) = evp c (n + 1) := by
  obtain ⟨E, hE⟩ : ∃ E, E = padd (cv c (lead X)) (evp c) := ⟨_, rfl⟩
  have hz : ∀ i, i ≤ n → E i = 0 := fun i hi => by rw [hE]; show cv c (lead X) i + evp c i = 0; rw [h i hi, Fl.add_self]
  have h1 : cv (lead X) E (n + 1) = E (n + 1) := by
    rw [cv_first (lead X) E (n + 1) fun i a b => .inr (hz _ (by omega))]
    exact one_mul _
  have h2 : cv E (lead X) (n + 1) = 0 := by
    rw [hE, cv_add_left, cv_assoc, lead_sq hs, hn, evp_cv, Fl.add_self]
  rw [cv_comm, h1, hE] at h2
  exact add_cancel h2
theorem nw_zero (X : Ser K) (c : Ser K) (h : c 0 = 1) : Nw X c 0 := fun i hi => by
  obtain rfl : i = 0 := by omega
  show c 0 * 1 = c 0
  rw [Fl.mul_one]
/-- what holds behind an even number of values. -/
structure SqInv (X : Ser K) (n : Nat) (s : St K) : Prop where
  nw : Nw X s.c n
  old : (s.L = 0 ∧ s.k = n + 1 ∧ s.c = pone ∧ s.b = pone ∧ s.d = 1) ∨ (1 ≤ s.L ∧ s.k ≤ n ∧ s.k % 2 = 0 ∧ Nw X s.b (n - s.k))
theorem evp_up (k : Nat) (hk : k % 2 = 0) (b : Ser K) (i : Nat) : evp (up k b) i = if i < k then 0 else evp b (i - k) := by
  show (if i % 2 = 0 then up k b i else 0) = _
  rw [up_at]
  by_cases h : i < k
  · rw [if_pos h, if_pos h]; split <;> rfl
  · rw [if_neg h, if_neg h]
    show _ = if (i - k) % 2 = 0 then b (i - k) else 0
    by_cases h2 : i % 2 = 0
    · rw [if_pos h2, if_pos (by omega)]
    · rw [if_neg h2, if_neg (by omega)]
theorem evp_fix (s : St K) (a : K) (i : Nat) : evp (fix s a) i = evp s.c i + a * s.d⁻¹ * evp (up s.k s.b) i := by
  show (if i % 2 = 0 then s.c i + a * s.d⁻¹ * up s.k s.b i else 0) = (if i % 2 = 0 then s.c i else 0) + a * s.d⁻¹ * (if i % 2 = 0 then up s.k s.b i else 0)
  split
  · rfl
  · rw [mul_zero, Fl.add_zero]
theorem nw_odd {X : Ser K} {n : Nat} {s : St K} (h : Inv X n s) (q : SqInv X n s) (hn : n % 2 = 0) : Nw X (step X n s).c (n + 1) := by
  have hle := h.le
  by_cases ha : cv s.c X n = 0
  · rw [step_zero ha]
    intro i hi
    by_cases e : i = n + 1
    · subst e
      rw [lead_cv, ha, zero_add, h.bd _ (by omega)]
      exact (if_neg (by omega)).symm
    · exact q.nw i (by omega)
  · have e : (step X n s).c = fix s (cv s.c X n) := by
      by_cases h2 : n < 2 * s.L
      · rw [step_same ha h2]
      · rw [step_grow ha h2]
    rw [e]
    obtain ⟨a, haa⟩ : ∃ a, a = cv s.c X n := ⟨_, rfl⟩
    rw [← haa]
    intro i hi
    rw [evp_fix, fix_cv]
    rcases q.old with ⟨hL, hk, hc, hb, hd⟩ | ⟨hL, hk, hk2, hnb⟩
    · by_cases e : i = n + 1
      · subst e
        rw [lead_cv, if_neg (by omega), hd, hk, hb, Nat.sub_self, ← haa, h.bd _ (by omega), Fl.add_zero]
        rw [show cv (pone : Ser K) (lead X) 0 = 1 from Fl.mul_one _, inv_mul a 1 Fl.one_ne, Fl.add_self]
        unfold evp
        rw [if_neg (by omega), if_neg (by omega), mul_zero, Fl.add_zero]
      · rw [if_pos (by omega), mul_zero, Fl.add_zero, q.nw i (by omega)]
        unfold evp
        rw [up_at, if_pos (show i < s.k by omega)]
        split <;> rw [mul_zero, Fl.add_zero]
    · obtain ⟨B, hb, he, hz, hd⟩ := h.old
      have hd : cv s.b X (n - s.k) = s.d := by
        rcases hd with ⟨h0, _⟩ | ⟨_, h0⟩
        · omega
        · exact h0
      rw [evp_up _ hk2]
      by_cases e : i = n + 1
      · subst e
        rw [if_neg (by omega), if_neg (by omega), lead_cv, h.bd _ (by omega), Fl.add_zero, ← haa, show n + 1 - s.k = n - s.k + 1 by omega, lead_cv, hd, hb _ (by omega), Fl.add_zero, inv_mul a s.d h.d0, Fl.add_self]
        unfold evp
        rw [if_neg (by omega), if_neg (by omega), mul_zero, Fl.add_zero]
      · rw [q.nw i (by omega)]
        by_cases h3 : i < s.k
        · rw [if_pos h3, if_pos h3]
        · rw [if_neg h3, if_neg h3, hnb _ (by omega)]
theorem sq_gap {X c : Ser K} (hs : ∀ i, X (2 * i + 1) = X i * X i) {t : Nat} (h : Nw X c (2 * t + 1)) : cv c X (2 * t + 1) = 0 := by
  have e := nw_even hs h (t + 1) (by omega)
  rw [lead_cv] at e
  have e2 : evp c (2 * t + 1 + 1) = c (2 * t + 1 + 1) := if_pos (by omega)
  rw [e2] at e
  have e3 : cv c X (2 * t + 1) + c (2 * t + 1 + 1) + c (2 * t + 1 + 1) = 0 := by rw [e, Fl.add_self]
  rwa [Fl.add_assoc, Fl.add_self, Fl.add_zero] at e3
theorem sq_inv {X : Ser K} (hs : ∀ i, X (2 * i + 1) = X i * X i) : ∀ t, SqInv X (2 * t) (bm X (2 * t)) ∧ cv (bm X (2 * t + 1)).c X (2 * t + 1) = 0
  | 0 => by
    have q : SqInv X 0 st0 := ⟨nw_zero X _ rfl, .inl ⟨rfl, rfl, rfl, rfl, rfl⟩⟩
    exact ⟨q, sq_gap hs (nw_odd (inv_zero X) q rfl)⟩
  | t + 1 => by
    have ⟨q, hz⟩ := sq_inv hs t
    have h := bm_inv X (2 * t)
    have h1 := bm_inv X (2 * t + 1)
    have n1 : Nw X (bm X (2 * t + 1)).c (2 * t + 1) := nw_odd h q (by omega)
    have q2 : SqInv X (2 * (t + 1)) (bm X (2 * (t + 1))) := by
      have e2 : bm X (2 * (t + 1)) = { bm X (2 * t + 1) with k := (bm X (2 * t + 1)).k + 1 } := step_zero hz
      rw [e2]
      refine ⟨fun i hi => ?_, ?_⟩
      · by_cases e : i = 2 * t + 1 + 1
        · subst e; exact nw_even hs n1 (t + 1) (by omega)
        · exact n1 i (by omega)
      · show ((bm X (2 * t + 1)).L = 0 ∧ (bm X (2 * t + 1)).k + 1 = _ ∧ (bm X (2 * t + 1)).c = pone ∧ (bm X (2 * t + 1)).b = pone ∧ (bm X (2 * t + 1)).d = 1) ∨ (1 ≤ (bm X (2 * t + 1)).L ∧ (bm X (2 * t + 1)).k + 1 ≤ _ ∧ ((bm X (2 * t + 1)).k + 1) % 2 = 0 ∧ Nw X (bm X (2 * t + 1)).b _)
        have e1 : bm X (2 * t + 1) = step X (2 * t) (bm X (2 * t)) := rfl
        rw [e1]
        generalize bm X (2 * t) = s at h q ⊢
        have hle := h.le
        by_cases ha : cv s.c X (2 * t) = 0
        · rw [step_zero ha]
          rcases q.old with ⟨a1, a2, a3, a4, a5⟩ | ⟨a1, a2, a3, a4⟩
          · exact .inl ⟨a1, by show s.k + 1 + 1 = _; omega, a3, a4, a5⟩
          · exact .inr ⟨a1, by show s.k + 1 + 1 ≤ _; omega, by show (s.k + 1 + 1) % 2 = 0; omega, by show Nw X s.b (2 * (t + 1) - (s.k + 1 + 1)); rw [show 2 * (t + 1) - (s.k + 1 + 1) = 2 * t - s.k by omega]; exact a4⟩
        · by_cases h2 : 2 * t < 2 * s.L
          · rw [step_same ha h2]
            rcases q.old with ⟨a1, a2, a3, a4, a5⟩ | ⟨a1, a2, a3, a4⟩
            · omega
            · exact .inr ⟨a1, by show s.k + 1 + 1 ≤ _; omega, by show (s.k + 1 + 1) % 2 = 0; omega, by show Nw X s.b (2 * (t + 1) - (s.k + 1 + 1)); rw [show 2 * (t + 1) - (s.k + 1 + 1) = 2 * t - s.k by omega]; exact a4⟩
          · rw [step_grow ha h2]
            exact .inr ⟨by show 1 ≤ 2 * t + 1 - s.L; omega, by show 1 + 1 ≤ _; omega, by show (1 + 1) % 2 = 0; rfl, by show Nw X s.c (2 * (t + 1) - 2); rw [show 2 * (t + 1) - 2 = 2 * t by omega]; exact q.nw⟩
    exact ⟨q2, sq_gap hs (nw_odd (bm_inv X (2 * (t + 1))) q2 (by omega))⟩
end
end Go.Proofs.YthmfneepnkgmgaaGreatDoor.Loc
/- Values of unlike places: the polynomial of these places makes them, and nothing shorter does. No program is named here. By the verifier of shale. -/
namespace Go.Proofs.YthmfneepnkgmgaaGreatDoor.Loc
open Pl
set_option linter.unusedVariables false
theorem snocRec {A : Type} {P : List A → Prop} (h0 : P []) (h1 : ∀ l a, P l → P (l ++ [a])) (l : List A) : P l := by
  have : ∀ r : List A, P r.reverse := fun r => by
    induction r with
    | nil => exact h0
    | cons a r ih => rw [List.reverse_cons]; exact h1 _ _ ih
  have h := this l.reverse
  rwa [List.reverse_reverse] at h
section
variable {K : Type} [Fl K]
/-- 1 + a x. -/
def two (a : K) : Ser K := fun i => if i = 0 then 1 else if i = 1 then a else 0
theorem two_bd (a : K) : Bd (two a) 2 := fun i hi => by show (if i = 0 then 1 else if i = 1 then a else 0) = 0; rw [if_neg (by omega), if_neg (by omega)]
theorem two_dg {a : K} (h : a ≠ 0) : Dg (two a) 1 := ⟨h, two_bd a⟩
theorem two_cv (a : K) (q : Ser K) (n : Nat) : cv (two a) q (n + 1) = q (n + 1) + a * q n := by
  show (1 : K) * q (n + 1) + cv (tl (two a)) q n = _
  rw [one_mul]
  congr 1
  have e : tl (two a) = mono 0 a := funext fun i => by
    show (if i + 1 = 0 then 1 else if i + 1 = 1 then a else 0) = if i = 0 then a else 0
    rw [if_neg (by omega)]
    by_cases h : i = 0
    · rw [if_pos (by omega), if_pos h]
    · rw [if_neg (by omega), if_neg h]
  rw [e, cv_mono, if_neg (by omega)]; rfl
theorem two_ev (a x : K) : ev 2 (two a) x = 1 + x * a := by
  show 1 + x * (a + x * 0) = _
  rw [mul_zero, Fl.add_zero]
/-- the product of 1 + a x over the list. -/
def lam (l : List K) : Ser K := l.foldl (fun g a => cv g (two a)) pone
theorem lam_snoc (l : List K) (a : K) : lam (l ++ [a]) = cv (lam l) (two a) := by unfold lam; rw [List.foldl_append]; rfl
theorem lam_dg (l : List K) : (∀ a ∈ l, a ≠ 0) → Dg (lam l) l.length ∧ lam l 0 = 1 := by
  refine snocRec (P := fun l => (∀ a ∈ l, a ≠ 0) → Dg (lam l) l.length ∧ lam l 0 = 1) (fun _ => ⟨⟨Fl.one_ne, bd_one⟩, rfl⟩) (fun l a ih h => ?_) l
  obtain ⟨h1, h2⟩ := ih fun b hb => h b (List.mem_append_left _ hb)
  rw [lam_snoc, List.length_append]
  refine ⟨h1.mul (two_dg (h a (List.mem_append_right _ (List.mem_singleton.2 rfl)))), ?_⟩
  show lam l 0 * 1 = 1
  rw [h2, Fl.mul_one]
/-- the values: sums of powers. -/
def pows (l : List K) : Ser K := fun i => l.foldl (fun v a => v + pwK a (i + 1)) 0
theorem pows_snoc (l : List K) (a : K) : pows (l ++ [a]) = padd (pows l) (fun i => pwK a (i + 1)) := funext fun i => by unfold pows; rw [List.foldl_append]; rfl
theorem two_geo (a : K) : cv (two a) (fun i => pwK a (i + 1)) = mono 0 a := funext fun n => by
  cases n with
  | zero => show (1 : K) * (a * 1) = a; rw [one_mul, Fl.mul_one]
  | succ n =>
    rw [two_cv]
    show a * pwK a (n + 1) + a * pwK a (n + 1) = _
    rw [Fl.add_self]; rfl
/-- the product's values' product, as one step. -/
theorem om_snoc (l : List K) (a : K) : cv (lam (l ++ [a])) (pows (l ++ [a])) = padd (cv (two a) (cv (lam l) (pows l))) (psm a (lam l)) := by
  rw [lam_snoc, pows_snoc, cv_padd, cv_assoc, cv_assoc, two_geo]
  congr 1
  · rw [← cv_assoc, cv_comm (lam l), cv_assoc]
  · rw [cv_comm]
    funext n
    rw [cv_mono, if_neg (by omega)]; rfl
theorem om_bd (l : List K) : (∀ a ∈ l, a ≠ 0) → Bd (cv (lam l) (pows l)) l.length := by
  refine snocRec (P := fun l => (∀ a ∈ l, a ≠ 0) → Bd (cv (lam l) (pows l)) l.length) (fun _ => ?_) (fun l a ih h => ?_) l
  · intro i _
    have e : pows ([] : List K) = pz := rfl
    rw [e, zero_cv]; rfl
  · have h' : ∀ b ∈ l, b ≠ 0 := fun b hb => h b (List.mem_append_left _ hb)
    rw [om_snoc, List.length_append]
    have h2 := (lam_dg l h').1.2
    refine Bd.add ?_ (h2.sm a)
    have := bd_cv (two_bd a) (ih h')
    exact this.mono (by simp; omega)
theorem lam_gn (l : List K) (h : ∀ a ∈ l, a ≠ 0) (n : Nat) : Gn (lam l) l.length n (pows l) := fun i h1 _ => om_bd l h i h1
theorem lam_root {l : List K} (h : ∀ a ∈ l, a ≠ 0) {b : K} (hb : b ≠ 0) : ev (l.length + 1) (lam l) b⁻¹ = 0 ↔ b ∈ l := by
  revert h
  refine snocRec (P := fun l => (∀ a ∈ l, a ≠ 0) → (ev (l.length + 1) (lam l) b⁻¹ = 0 ↔ b ∈ l)) (fun _ => ?_) (fun l a ih h => ?_) l
  · refine ⟨fun e => ?_, fun e => by cases e⟩
    have e : (1 : K) + b⁻¹ * 0 = 0 := e
    rw [mul_zero, Fl.add_zero] at e
    exact absurd e Fl.one_ne
  · have h' : ∀ c ∈ l, c ≠ 0 := fun c hc => h c (List.mem_append_left _ hc)
    have ih := ih h'
    have hd := (lam_dg l h').1.2
    have hbd : Bd (cv (lam l) (two a)) (l.length + 1 + 1) := by
      have := bd_cv hd (two_bd a)
      exact this.mono (by omega)
    have e1 : ev ((l ++ [a]).length + 1) (lam (l ++ [a])) b⁻¹ = ev (l.length + 1) (lam l) b⁻¹ * (1 + b⁻¹ * a) := by
      rw [lam_snoc, ← two_ev, ← ev_cv b⁻¹ (l.length + 1) 2 (l.length + 1 + 2) _ _ hd (two_bd a) (Nat.le_refl _)]
      rw [List.length_append]
      exact (ev_more b⁻¹ _ _ _ hbd (by simp)).symm
    rw [e1, List.mem_append, List.mem_singleton]
    constructor
    · intro e
      rcases mul_eq_zero e with e | e
      · exact .inl (ih.1 e)
      · right
        have e2 := add_cancel e
        have e3 : b * (b⁻¹ * a) = b * 1 := by rw [← e2]
        rw [← Fl.mul_assoc, Fl.mul_inv b hb, one_mul, Fl.mul_one] at e3
        exact e3.symm
    · rintro (e | e)
      · rw [ih.2 e, zero_mul]
      · subst e
        rw [Fl.mul_comm b⁻¹, Fl.mul_inv b hb, Fl.add_self, mul_zero]
theorem om_ne {l : List K} (h : ∀ a ∈ l, a ≠ 0) (hn : l.Nodup) {b : K} (hb : b ∈ l) : ev l.length (cv (lam l) (pows l)) b⁻¹ ≠ 0 := by
  revert h hn hb
  refine snocRec (P := fun l => (∀ a ∈ l, a ≠ 0) → l.Nodup → b ∈ l → ev l.length (cv (lam l) (pows l)) b⁻¹ ≠ 0) (fun _ _ h => by cases h) (fun l a ih h hn hb => ?_) l
  have h' : ∀ c ∈ l, c ≠ 0 := fun c hc => h c (List.mem_append_left _ hc)
  have ha : a ≠ 0 := h a (List.mem_append_right _ (List.mem_singleton.2 rfl))
  have hb0 : b ≠ 0 := h b hb
  have hn' := List.nodup_append.1 hn
  have hal : a ∉ l := fun e => hn'.2.2 a e a (List.mem_singleton.2 rfl) rfl
  have hd := (lam_dg l h').1.2
  have ho := om_bd l h'
  have hsum : ev (l ++ [a]).length (cv (lam (l ++ [a])) (pows (l ++ [a]))) b⁻¹ = (1 + b⁻¹ * a) * ev l.length (cv (lam l) (pows l)) b⁻¹ + a * ev (l.length + 1) (lam l) b⁻¹ := by
    rw [om_snoc, ev_add, ev_sm, List.length_append]
    congr 1
    rw [← two_ev, ← ev_cv b⁻¹ 2 l.length (2 + l.length) _ _ (two_bd a) ho (Nat.le_refl _)]
    have hbd : Bd (cv (two a) (cv (lam l) (pows l))) (l.length + 1) := by
      have := bd_cv (two_bd a) ho
      exact this.mono (by omega)
    exact (ev_more b⁻¹ _ _ _ hbd (by omega)).symm
  rw [hsum]
  rcases List.mem_append.1 hb with hb | hb
  · rw [(lam_root h' hb0).2 hb, mul_zero, Fl.add_zero]
    refine mul_ne (fun e => ?_) (ih h' hn'.1 hb)
    have e2 := add_cancel e
    have e3 : b * (b⁻¹ * a) = b * 1 := by rw [← e2]
    rw [← Fl.mul_assoc, Fl.mul_inv b hb0, one_mul, Fl.mul_one] at e3
    exact hal (e3 ▸ hb)
  · obtain rfl := List.mem_singleton.1 hb
    rw [Fl.mul_comm b⁻¹, Fl.mul_inv b hb0, Fl.add_self, zero_mul, zero_add]
    exact mul_ne hb0 fun e => hal ((lam_root h' hb0).1 e)
/-- nothing shorter makes twice as many values. -/
theorem places_min {l : List K} (h : ∀ a ∈ l, a ≠ 0) (hn : l.Nodup) {N : Nat} (hN : 2 * l.length ≤ N) (c : Ser K) (L : Nat) (hc : Bd c (L + 1)) (h0 : c 0 ≠ 0) (hg : Gn c L N (pows l)) : l.length ≤ L := by
  refine Classical.byContradiction fun hlt => ?_
  have hd := (lam_dg l h).1.2
  have ho := om_bd l h
  obtain ⟨P, hP⟩ : ∃ P : Ser K, P = fun i => if i < L then cv c (pows l) i else 0 := ⟨_, rfl⟩
  have hPb : Bd P L := fun i hi => by rw [hP]; exact if_neg (by omega)
  have e : cv c (cv (lam l) (pows l)) = cv (lam l) P := funext fun i => by
    by_cases hi : i < N
    · rw [← cv_assoc, cv_comm c, cv_assoc]
      refine cv_ext (fun _ _ => rfl) fun j hj => ?_
      rw [hP]
      show _ = if j < L then _ else 0
      split
      · rfl
      · exact hg j (by omega) (by omega)
    · rw [bd_cv hc ho i (by omega), bd_cv hd hPb i (by omega)]
  have hroot : ∀ b, b ∈ l → ev (L + 1) c b⁻¹ = 0 := fun b hb => by
    have h1 := ev_cv b⁻¹ (L + 1) l.length (L + 1 + l.length) _ _ hc ho (Nat.le_refl _)
    have h2 := ev_cv b⁻¹ (l.length + 1) L (L + 1 + l.length) _ _ hd hPb (by omega)
    rw [e, h2, (lam_root h (h b hb)).2 hb, zero_mul] at h1
    exact (mul_eq_zero h1.symm).resolve_right (om_ne h hn hb)
  rcases dg_or hc with h1 | ⟨d, hdL, hdg⟩
  · exact h0 (by rw [h1]; rfl)
  · have hnd : (l.map fun b => b⁻¹).Nodup := by
      rw [List.Nodup, List.pairwise_map]
      refine List.Pairwise.imp_of_mem (fun {a b} ha hb hab e => hab ?_) hn
      have e2 : a * b⁻¹ = 1 := by rw [← e]; exact Fl.mul_inv a (h a ha)
      have e3 : a * b⁻¹ * b = 1 * b := by rw [e2]
      rw [inv_mul a b (h b hb), one_mul] at e3
      exact e3
    have := roots_le d c (l.map fun b => b⁻¹) hdg hnd fun x hx => by
      obtain ⟨b, hb, rfl⟩ := List.mem_map.1 hx
      rw [← hroot b hb]
      exact (ev_more _ _ _ _ hdg.2 (by omega)).symm
    rw [List.length_map] at this
    omega
/-- the way finds the places' polynomial. -/
theorem bm_places {l : List K} (h : ∀ a ∈ l, a ≠ 0) (hn : l.Nodup) {N : Nat} (hN : 2 * l.length ≤ N) : (bm (pows l) N).L = l.length ∧ (bm (pows l) N).c = lam l := by
  have hi := bm_inv (pows l) N
  have h1 := lam_dg l h
  have hL : (bm (pows l) N).L = l.length := Nat.le_antisymm (hi.min _ _ h1.1.2 (by rw [h1.2]; exact Fl.one_ne) (lam_gn l h N)) (places_min h hn hN _ _ hi.bd (by rw [hi.one]; exact Fl.one_ne) hi.gn)
  exact ⟨hL, (bm_only (by rw [hL]; exact h1.1.2) h1.2 (by rw [hL]; exact lam_gn l h N) (by omega)).symm⟩
end
end Go.Proofs.YthmfneepnkgmgaaGreatDoor.Loc
/- The statements' own polynomials (shaleref2): DivMod. By the verifier of shale. -/
namespace Go.Proofs.YthmfneepnkgmgaaGreatDoor.Pl
open Go Go.RowKit Fld Bits16
set_option linter.unusedVariables false
theorem Blk64.own {w : World} {g base n : Nat} {l : List Int} (h : Blk64 w g l) (hb : base ≤ g) (hn : n = l.length) (hm : n ≤ maxLen) : Own64 w base (.slice (some ⟨g, 0, none⟩) n n) n l := by
  refine ⟨by rw [cells64_length]; omega, Or.inr ⟨g, n, (cells64 l).toArray, rfl, hb, h, Nat.le_refl _, hm, by simp [cells64_length, hn], ?_⟩⟩
  rw [List.toList_toArray, List.take_of_length_le (by rw [cells64_length]; omega)]
theorem RowZ.news {w : World} {bb off n cap : Nat} {l : List Int} (h : RowZ w (some ⟨bb, off, none⟩) n cap l) : ∀ j u, (cells64 l)[j]? = some u → w.cell? ((⟨bb, off, none⟩ : Addr).add j) = some u := by
  intro j u hu
  have hj : j < l.length := by
    have := (List.getElem?_eq_some_iff.1 hu).1
    rwa [cells64_length] at this
  obtain ⟨b2, o2, e, hc, _⟩ := h.row j (by rw [h.hlen]; exact hj)
  simp only [Option.some.injEq, Addr.mk.injEq] at e
  obtain ⟨rfl, rfl, _⟩ := e
  rw [add_row, hc, ← hu]
  unfold cells64
  simp [hj]
theorem cells64_one (l : List Int) : ∀ u ∈ cells64 l, u.oneCell' = true := by
  intro u hu
  unfold cells64 at hu
  obtain ⟨z, _, rfl⟩ := List.mem_map.1 hu
  rfl
section
variable {m : Nat} [M : Mid m]
theorem rinv_zz (a : El m) (h0 : a ≠ 0) (w : World) : Calls Tryz.prog 71 #[.int .i64 (m : Int), .int .i64 (zn a)] w fun e w' => e = .returned (.int .i64 (zn a⁻¹)) ∧ Below w.heap.size w w' := by
  have hne : el m (zn a) ≠ 0 := fun e => h0 (by
    have := congrArg Subtype.val (elm_zn a)
    exact El.ext (this.symm.trans e))
  have := rinv_any m M.lo M.hi (zn a) hne w
  rwa [inv_zz _ h0] at this
theorem sr_shift (s : Nat) (l : List Int) : sr m (List.replicate s 0 ++ l) = cv (mono s 1) (sr m l) := by
  funext i
  rw [cv_mono]
  show elm m ((List.replicate s 0 ++ l).getD i 0) = _
  rw [List.getD_eq_getElem?_getD]
  by_cases h : i < s
  · rw [if_pos h, List.getElem?_append_left (by simpa using h)]
    simp [h]; exact elm_zero
  · rw [if_neg h, List.getElem?_append_right (by simp; omega), one_mul]
    simp only [List.length_replicate]
    rw [← List.getD_eq_getElem?_getD]; rfl
theorem sr_single (c : El m) : sr m [zn c] = mono 0 c := by
  funext i
  show elm m ([zn c].getD i 0) = if i = 0 then c else 0
  cases i with
  | zero => rw [if_pos rfl]; exact elm_zn c
  | succ i => rw [if_neg (by omega)]; exact elm_zero
theorem mono_mul (s : Nat) (c : El m) : cv (mono s 1) (mono 0 c) = mono s c := by
  funext i
  rw [cv_mono]
  show (if i < s then 0 else 1 * (if i - s = 0 then c else 0)) = if i = s then c else 0
  by_cases h : i < s
  · rw [if_pos h, if_neg (by omega)]
  · rw [if_neg h, one_mul]
    by_cases h2 : i = s
    · rw [if_pos (by omega), if_pos h2]
    · rw [if_neg (by omega), if_neg h2]
theorem row_single (w : World) (c : Int) : RowZ (w.alloc (.cells #[.int .i64 c] 3 (0, 0))) (some ⟨w.heap.size, 0, none⟩) 1 1 [c] :=
  ⟨rfl, Nat.le_refl _, by decide, fun i hi => ⟨w.heap.size, 0, rfl, by
    obtain rfl : i = 0 := by omega
    have := cell_one_new w (.int .i64 c) 3 0 (.int .i64 c) rfl
    rwa [add_row] at this, lt_of_block (heap_alloc_new w _)⟩⟩
/-- where the reference's division stands. -/
structure RDivs (P Q A L : Ser (El m)) (e k N : Nat) : Prop where
  sum : P = padd (cv A Q) L
  low : Bd L k
  bd : Bd A (N + 1)
  free : ∀ j, j + e < k → A j = 0
theorem RDivs.next {P Q A L : Ser (El m)} {e k N s : Nat} (h : RDivs P Q A L e (k + 1) N) (hQ : Dg Q e) (hs : k = s + e) (hk : k < N) {k' : Nat} (hk' : k' ≤ k) (hb : Bd (padd L (cv (mono s (L k * (Q e)⁻¹)) Q)) k') :
    RDivs P Q (padd A (mono s (L k * (Q e)⁻¹))) (padd L (cv (mono s (L k * (Q e)⁻¹)) Q)) e k' N := by
  refine ⟨?_, hb, h.bd.add ((mono_bd _ _).mono (by omega)), fun j hj => ?_⟩
  · rw [cv_add, padd_xx, padd_comm, h.sum]
    have : padd (cv (mono s (L k * (Q e)⁻¹)) Q) (cv (mono s (L k * (Q e)⁻¹)) Q) = pz := padd_self _
    rw [this, zero_padd]
  · show A j + mono s _ j = 0
    rw [h.free j (by omega), show mono s (L k * (Q e)⁻¹) j = 0 from if_neg (by omega), Fl.add_zero]
end
end Go.Proofs.YthmfneepnkgmgaaGreatDoor.Pl
/- The statements' own polynomials (shaleref2): Derive, Roots. By the verifier of shale. -/
namespace Go.Proofs.YthmfneepnkgmgaaGreatDoor.Pl
open Go Go.RowKit Fld Bits16
set_option linter.unusedVariables false
section
variable {m : Nat} [M : Mid m]
/-- the first n numbers of a function. -/
def fnN (f : Nat → Int) (n : Nat) : List Int := (List.range n).map f
omit M in
theorem fnN_succ (f : Nat → Int) (n : Nat) : fnN f (n + 1) = fnN f n ++ [f n] := by unfold fnN; rw [List.range_succ, List.map_append]; rfl
omit M in
theorem fnN_getD (f : Nat → Int) (n i : Nat) : (fnN f n).getD i 0 = if i < n then f i else 0 := by
  unfold fnN
  rw [List.getD_eq_getElem?_getD]
  by_cases h : i < n
  · rw [if_pos h]; simp [h]
  · rw [if_neg h, List.getElem?_eq_none (by simp; omega)]; rfl
/-- the numbers of a derivative, as they stand in a list. -/
def derN (l : List Int) (i : Nat) : Int := if (i + 1) % 2 = 1 then l.getD (i + 1) 0 else 0
theorem sr_der (l : List Int) (k : Nat) (h : l.length ≤ k + 1) : sr m (fnN (derN l) k) = der (sr m l) := by
  funext i
  show elm m ((fnN (derN l) k).getD i 0) = if i % 2 = 0 then elm m (l.getD (i + 1) 0) else 0
  rw [fnN_getD]
  unfold derN
  by_cases h2 : i % 2 = 0
  · rw [if_pos h2]
    by_cases hi : i < k
    · rw [if_pos hi, if_pos (by omega)]
    · rw [if_neg hi, List.getD_eq_getElem?_getD, List.getElem?_eq_none (by omega)]; rfl
  · rw [if_neg h2]
    by_cases hi : i < k
    · rw [if_pos hi, if_neg (by omega), elm_zero]
    · rw [if_neg hi, elm_zero]
end
end Go.Proofs.YthmfneepnkgmgaaGreatDoor.Pl
/- The statements' own polynomials (shaleref2): Roots. By the verifier of shale. -/
namespace Go.Proofs.YthmfneepnkgmgaaGreatDoor.Pl
open Go Go.RowKit Fld Bits16
set_option linter.unusedVariables false
section
variable {m : Nat} [M : Mid m]
open Classical in
/-- the roots of a list of numbers, rising; none of 0. -/
noncomputable def rootsL (m : Nat) [M : Mid m] (l : List Int) : List Int := if top (sr m l) l.length = 0 then [] else intsN (rts (top (sr m l) l.length) (sr m l) (2 ^ m))
theorem rts_mono (n : Nat) (P : Ser (El m)) (j : Nat) : (rts n P j).length ≤ j := by
  induction j with
  | zero => exact Nat.le_refl _
  | succ j ih => rw [rts, List.length_append]; split <;> simp <;> omega
end
end Go.Proofs.YthmfneepnkgmgaaGreatDoor.Pl
/- The reference's greatest common divisor over a field. By the verifier of shale. -/
namespace Go.Proofs.YthmfneepnkgmgaaGreatDoor.Pl
open Go Go.RowKit Fld Bits16
set_option linter.unusedVariables false
section
variable {m : Nat} [M : Mid m]
theorem rout_le {w0 w : World} {a : Option Addr} {n c e : Nat} {p : Ser (El m)} (h : ROut m w0 w a n c p) (hb : Bd p e) : n ≤ e := by
  rw [← h.top, top_same h.bd hb]; exact top_le p e
theorem rnil (w0 w : World) : ROut m w0 w none 0 0 (pz : Ser (El m)) := ⟨⟨rfl, Nat.le_refl _, by decide, fun i hi => by omega⟩, bd_pz 0, rfl, fun bb off e => by cases e⟩
section
variable {w : World}
theorem rtrimV {k : Nat} {a : Option Addr} {n c : Nat} {p : Ser (El m)} (h1 : PV m w k a n c p) (hK2 : k ≤ 2048) :
    Calls Tryz.prog 74 #[.int .i64 (m : Int), .slice a n c] w fun e w' => ∃ a n c, e = .returned (.slice a n c) ∧ NV m w' k a n c p ∧ Below w.heap.size w w' := by
  have hb := h1.bd
  obtain ⟨l1, r1, rfl, n1⟩ := h1
  refine (rtrim_any (m := m) a n c l1 w r1 (by omega)).mono ?_
  rintro e w1 ⟨a3, n3, c3, rfl, hO, b⟩
  exact ⟨a3, n3, c3, rfl, routV hO hb, b⟩
theorem raddV {k k' : Nat} {a a' : Option Addr} {n c n' c' : Nat} {p q : Ser (El m)} (K : Nat) (h1 : PV m w k a n c p) (h2 : PV m w k' a' n' c' q) (hK : k ≤ K) (hK' : k' ≤ K) (hK2 : K ≤ 2048) :
    Calls Tryz.prog 73 #[.int .i64 (m : Int), .slice a n c, .slice a' n' c'] w fun e w' => ∃ a n c, e = .returned (.slice a n c) ∧ NV m w' K a n c (padd p q) ∧ Below w.heap.size w w' := by
  have hb : Bd (padd p q) K := (h1.bd.mono hK).add (h2.bd.mono hK')
  obtain ⟨l1, r1, rfl, n1⟩ := h1
  obtain ⟨l2, r2, rfl, n2⟩ := h2
  refine (radd_any (m := m) a n c l1 a' n' c' l2 w r1 r2 (by omega) (by omega)).mono ?_
  rintro e w1 ⟨a3, n3, c3, rfl, hO, b⟩
  exact ⟨a3, n3, c3, rfl, routV hO hb, b⟩
theorem rtimesV {k k' : Nat} {a a' : Option Addr} {n c n' c' : Nat} {p q : Ser (El m)} (K : Nat) (h1 : PV m w k a n c p) (h2 : PV m w k' a' n' c' q) (hK : k + k' ≤ K) (hK2 : K ≤ 2048) :
    Calls Tryz.prog 72 #[.int .i64 (m : Int), .slice a n c, .slice a' n' c'] w fun e w' => ∃ a n c, e = .returned (.slice a n c) ∧ NV m w' K a n c (cv p q) ∧ Below w.heap.size w w' := by
  have hb := cvK h1.bd h2.bd hK
  obtain ⟨l1, r1, rfl, n1⟩ := h1
  obtain ⟨l2, r2, rfl, n2⟩ := h2
  refine (rtimes_any (m := m) a n c l1 a' n' c' l2 w r1 r2 (by omega) (by omega)).mono ?_
  rintro e w1 ⟨a3, n3, c3, rfl, hO, b⟩
  exact ⟨a3, n3, c3, rfl, routV hO hb, b⟩
theorem revalV {k : Nat} {a : Option Addr} {n c : Nat} {p : Ser (El m)} (x : Int) (h1 : PV m w k a n c p) :
    Calls Tryz.prog 75 #[.int .i64 (m : Int), .slice a n c, .int .i64 x] w fun e w' => e = .returned (.int .i64 (zn (ev k p (elm m x)))) ∧ Below w.heap.size w w' := by
  have hn := h1.bdn
  obtain ⟨l1, r1, rfl, n1⟩ := h1
  have := reval_any (m := m) a n c l1 x w r1
  rwa [← ev_more (elm m x) n k _ hn n1] at this
end
end
end Go.Proofs.YthmfneepnkgmgaaGreatDoor.Pl
/- The ring that a statement makes, and the examples of chapter 4. By the verifier of shale. -/
namespace Go.Proofs.YthmfneepnkgmgaaGreatDoor.Pl
open Go Go.RowKit Fld Bits16
set_option linter.unusedVariables false
/-- the m that a statement makes of any number. -/
def rm (z : Int) : Nat := (z % 6).toNat + 3
instance (z : Int) : Mid (rm z) := ⟨by unfold rm; omega, by unfold rm; omega⟩
theorem rm_hi (z : Int) : rm z ≤ 8 := by unfold rm; omega
/-- the ring's answer. -/
def RingMade (m : Nat) (w : World) (e : Ending) (w' : World) : Prop := ∃ g s be ce bl, e = .returned (.tuple #[.pointer (some ⟨g, 0, none⟩), .int .i64 (m : Int)]) ∧ RingAt m w' g s be ce bl ∧ Below w.heap.size w w'
theorem lit_new (w W : World) (l : List Int) (n : Nat) (hn : n = l.length) (hm : n ≤ 1000) (hW : W = w.alloc (obj64 l)) : RowZ W (some ⟨w.heap.size, 0, none⟩) n n l ∧ Below w.heap.size w W ∧ W.heap.size = w.heap.size + 1 := by
  subst hW
  refine ⟨?_, (Below.refl _ _).alloc (Nat.le_refl _) _, Array.size_push _⟩
  subst hn
  exact Blk64.rowz (Blk64.new w l) (by omega)
section
variable {m : Nat} [M : Mid m]
theorem RowZ.pv {w : World} {a : Option Addr} {n c : Nat} {l : List Int} (h : RowZ w a n c l) (p : Ser (El m)) (e : sr m l = p) (K : Nat) (hK : n ≤ K) : PV m w K a n c p := ⟨l, h, e, hK⟩
theorem RowZ.nv {w : World} {a : Option Addr} {n c : Nat} {l : List Int} (h : RowZ w a n c l) (e : nums (sr m l) l.length = l) (ht : Pl.top (sr m l) l.length = l.length) : NV m w n a n c (sr m l) := by
  have hl := h.hlen
  subst hl
  exact ⟨by rw [e]; exact h, sr_bd l, ht, Nat.le_refl _⟩
theorem ser_ext {p q : Ser (El m)} {n : Nat} (hp : Bd p n) (hq : Bd q n) (h : ∀ i, i < n → p i = q i) : p = q := by
  funext i
  by_cases hi : i < n
  · exact h i hi
  · rw [hp i (by omega), hq i (by omega)]
end
instance : Mid 4 := ⟨by decide, by decide⟩
abbrev s4 (l : List Int) : Ser (El 4) := sr 4 l
theorem s4_bd (l : List Int) (n : Nat) (h : l.length ≤ n) : Bd (s4 l) n := (sr_bd l).mono h
theorem y1 : cv (s4 [1, 1]) (s4 [1, 1]) = s4 [1, 0, 1] :=
  ser_ext (n := 4) (cvK (s4_bd _ 2 (by decide)) (s4_bd _ 2 (by decide)) (by decide)) (s4_bd _ 4 (by decide)) (by decide +kernel)
theorem y2 : Dv2 (s4 [0, 0, 1]) (s4 [1, 1]) (s4 [1, 1]) (s4 [1]) 1 := by
  refine ⟨?_, ⟨2, s4_bd _ 2 (by decide)⟩, s4_bd _ 1 (by decide)⟩
  exact ser_ext (n := 4) (s4_bd _ 4 (by decide)) ((cvK (s4_bd _ 2 (by decide)) (s4_bd _ 2 (by decide)) (by decide)).add (s4_bd _ 4 (by decide))) (by decide +kernel)
theorem dg11 : Dg (s4 [1, 1]) 1 := ⟨by decide +kernel, s4_bd _ 2 (by decide)⟩
theorem y3 : pls (m := 4) [2, 3] 2 = s4 [6, 1, 1] :=
  ser_ext (n := 4) ((pls_bd _ 2).mono (by decide)) (s4_bd _ 4 (by decide)) (by decide +kernel)
theorem y4 : pls (m := 4) [3, 5] 2 = s4 [15, 6, 1] :=
  ser_ext (n := 4) ((pls_bd _ 2).mono (by decide)) (s4_bd _ 4 (by decide)) (by decide +kernel)
theorem y5 : IsG (s4 [6, 1, 1]) (s4 [15, 6, 1]) (s4 [3, 1]) := by
  have b2 := s4_bd [2, 1] 2 (by decide)
  have b3 := s4_bd [3, 1] 2 (by decide)
  have b5 := s4_bd [5, 1] 2 (by decide)
  have e1 : s4 [6, 1, 1] = cv (s4 [2, 1]) (s4 [3, 1]) := ser_ext (n := 4) (s4_bd _ 4 (by decide)) (cvK b2 b3 (by decide)) (by decide +kernel)
  have e2 : s4 [15, 6, 1] = cv (s4 [5, 1]) (s4 [3, 1]) := ser_ext (n := 4) (s4_bd _ 4 (by decide)) (cvK b5 b3 (by decide)) (by decide +kernel)
  have e3 : psm (elm 4 7)⁻¹ (padd (s4 [6, 1, 1]) (s4 [15, 6, 1])) = s4 [3, 1] := ser_ext (n := 4) (((s4_bd _ 4 (by decide)).add (s4_bd _ 4 (by decide))).sm _) (s4_bd _ 4 (by decide)) (by decide +kernel)
  refine ⟨⟨⟨_, 2, b2, e1⟩, ⟨_, 2, b5, e2⟩, fun c h k => ?_⟩, Or.inr ⟨1, ⟨by decide +kernel, b3⟩, by decide +kernel⟩⟩
  have := (h.add k).sm (elm 4 7)⁻¹
  rwa [e3] at this
theorem y6 : der (s4 [1, 2, 3, 4]) = s4 [2, 0, 4] :=
  ser_ext (n := 4) (der_bdK (s4_bd _ 4 (by decide))) (s4_bd _ 4 (by decide)) (by decide +kernel)
theorem y7 : zn (ev 3 (s4 [1, 1, 1]) (elm 4 2)) = 7 := by decide +kernel
theorem rm1 : rm 1 = 4 := by decide
end Go.Proofs.YthmfneepnkgmgaaGreatDoor.Pl
/- The contract of package locate's Of. By the verifier of shale. -/
namespace Go.Proofs.YthmfneepnkgmgaaGreatDoor.Loc
open Go Go.RowKit Pl Fld Bits16
set_option linter.unusedVariables false
section
variable {m : Nat} [M : Mid m]
theorem row_one (w : World) : RowZ (w.alloc (.cells #[.int .i64 1] 3 (0, 0))) (some ⟨w.heap.size, 0, none⟩) 1 1 [1] := by
  refine ⟨rfl, Nat.le_refl _, by decide, fun i hi => ?_⟩
  obtain rfl : i = 0 := by omega
  refine ⟨_, _, rfl, ?_, ?_⟩
  · unfold World.cell?
    simp only
    rw [heap_alloc_new]; rfl
  · show _ < (w.heap.push _).size
    rw [Array.size_push]; omega
theorem sr_one : sr m [1] = pone := funext fun i => by
  show elm m ([1].getD i 0) = (if i = 0 then 1 else 0)
  rcases i with _ | i
  · rw [if_pos rfl]; exact elm_zn (1 : El m)
  · rw [if_neg (by omega)]; exact elm_zero
/-- an element by its exponent. -/
def exK (m : Nat) [M : Mid m] (z : Int) : El m := ⟨pwZ m z, pwZ_lt m M.lo M.hi z⟩
theorem exK_ne (z : Int) : exK m z ≠ 0 := fun e => pwZ_ne m M.lo M.hi z (congrArg Subtype.val e)
theorem sr_two (e : El m) : sr m [1, zn e] = two e := funext fun i => by
  show elm m ([1, zn e].getD i 0) = (if i = 0 then 1 else if i = 1 then e else 0)
  rcases i with _ | _ | i
  · rw [if_pos rfl]; exact elm_zn (1 : El m)
  · rw [if_neg (by omega), if_pos rfl]; exact elm_zn e
  · rw [if_neg (by omega), if_neg (by omega)]; exact elm_zero
theorem NV.tight {w : World} {K K' : Nat} {a : Option Addr} {n c : Nat} {p : Ser (El m)} (h : NV m w K a n c p) (hb : Bd p K') : NV m w K' a n c p :=
  ⟨h.row, h.bd, h.top, by rw [← h.top, top_same h.bd hb]; exact top_le p K'⟩
/-- the polynomial of places. -/
def lamZ (m : Nat) [M : Mid m] (l : List Int) : Ser (El m) := lam (l.map (exK m))
theorem lamZ_bd (l : List Int) : Bd (lamZ m l) (l.length + 1) := by
  have := (lam_dg (l.map (exK m)) (fun a ha => by obtain ⟨z, _, rfl⟩ := List.mem_map.1 ha; exact exK_ne z)).1.2
  rwa [List.length_map] at this
theorem lamZ_snoc (l : List Int) (z : Int) : lamZ m (l ++ [z]) = cv (lamZ m l) (two (exK m z)) := by
  unfold lamZ; rw [List.map_append]; exact lam_snoc _ _
theorem take_snoc (l : List Int) (j : Nat) (hj : j < l.length) : l.take (j + 1) = l.take j ++ [l.getD j 0] := by
  rw [List.take_add_one, List.getElem?_eq_getElem hj, List.getD_eq_getElem?_getD, List.getElem?_eq_getElem hj]; rfl
theorem nv_one {w : World} {a : Option Addr} (h : RowZ w a 1 1 [1]) : NV m w 1 a 1 1 pone := by
  have e := sr_one (m := m)
  have := RowZ.nv (m := m) h (by rw [e]; rfl) (by rw [e]; exact top_some (p := (pone : Ser (El m))) (n := 0) Fl.one_ne)
  rwa [e] at this
end
end Go.Proofs.YthmfneepnkgmgaaGreatDoor.Loc
/- Where a polynomial is 0: places, their number, values as sums of terms. No program is named here. By the verifier of shale. -/
namespace Go.Proofs.YthmfneepnkgmgaaGreatDoor.Sea
open Go Go.RowKit Pl Fld Bits16 Loc
set_option linter.unusedVariables false
section
variable {m : Nat} [M : Mid m]
/-- the point of place i. -/
def pt (m : Nat) [M : Mid m] (i : Nat) : El m := exK m (-(i : Int))
theorem pt_ne (i : Nat) : pt m i ≠ 0 := exK_ne _
theorem exK_mul (x y : Int) : exK m x * exK m y = exK m (x + y) := El.ext (pwZ_mul m M.lo M.hi x y)
theorem exK_zero : exK m 0 = 1 := El.ext (by
  show pwZ m 0 = 1
  have := pwZ_nat m M.lo M.hi 0
  rw [show ((0 : Nat) : Int) = 0 from rfl] at this
  rw [this]; rfl)
theorem pt_pow (i j : Nat) : pwK (pt m i) j = exK m (-((i : Int) * (j : Int))) := by
  induction j with
  | zero =>
    show (1 : El m) = _
    rw [show (-((i : Int) * ((0 : Nat) : Int))) = 0 by simp, exK_zero]
  | succ j ih =>
    show pt m i * pwK (pt m i) j = _
    rw [ih]
    unfold pt
    rw [exK_mul]
    congr 1
    rw [Int.natCast_succ, Int.mul_add]; omega
theorem exK_inj {i j : Nat} (hi : i < size m) (hj : j < size m) (e : pt m i = pt m j) : i = j := by
  have h1 : exK m (i : Int) * pt m i = 1 := by unfold pt; rw [exK_mul, show (i : Int) + -(i : Int) = 0 by omega, exK_zero]
  have h2 : exK m (j : Int) * pt m j = 1 := by unfold pt; rw [exK_mul, show (j : Int) + -(j : Int) = 0 by omega, exK_zero]
  have h3 : exK m (i : Int) = exK m (j : Int) := by
    rw [e] at h1
    have : exK m (i : Int) * pt m j * exK m (j : Int) = exK m (j : Int) := by rw [h1, one_mul]
    rw [Fl.mul_assoc, Fl.mul_comm (pt m j), h2, Fl.mul_one] at this
    exact this
  have h4 : pw m i = pw m j := by
    have := congrArg Subtype.val h3
    show pw m i = pw m j
    rw [← pwZ_nat m M.lo M.hi i, ← pwZ_nat m M.lo M.hi j]; exact this
  exact pw_inj m M.lo M.hi i j hi hj h4
/-- the first n at which f says so. -/
def hits (f : Nat → Bool) (n : Nat) : List Nat := (List.range n).filter f
theorem hits_succ (f : Nat → Bool) (n : Nat) : hits f (n + 1) = hits f n ++ if f n then [n] else [] := by
  unfold hits
  rw [List.range_succ, List.filter_append]
  congr 1
  cases h : f n <;> simp [h]
theorem hits_mem {f : Nat → Bool} {n i : Nat} : i ∈ hits f n ↔ i < n ∧ f i = true := by unfold hits; simp
theorem hits_nodup (f : Nat → Bool) (n : Nat) : (hits f n).Nodup := List.nodup_range.filter _
theorem hits_len (f : Nat → Bool) (n : Nat) : (hits f n).length ≤ n := by
  have := List.length_filter_le f (List.range n)
  rw [List.length_range] at this
  exact this
/-- is it 0 at place i? -/
def zAt (p : Ser (El m)) (K : Nat) (i : Nat) : Bool := zn (ev K p (pt m i)) == 0
theorem zAt_iff (p : Ser (El m)) (K i : Nat) : zAt p K i = true ↔ ev K p (pt m i) = 0 := by
  unfold zAt
  rw [zn_eq0]
  simp
theorem hits_few {p : Ser (El m)} {d : Nat} (hp : Dg p d) {n : Nat} (hn : n ≤ size m) : (hits (zAt p (d + 1)) n).length ≤ d := by
  have h := roots_le d p ((hits (zAt p (d + 1)) n).map (pt m)) hp (by
    have hnd := hits_nodup (zAt p (d + 1)) n
    have hlt : ∀ i ∈ hits (zAt p (d + 1)) n, i < size m := fun i hi => by have := (hits_mem.1 hi).1; omega
    generalize hits (zAt p (d + 1)) n = l at hnd hlt
    induction l with
    | nil => exact List.nodup_nil
    | cons x l ih =>
      rw [List.nodup_cons] at hnd
      show (pt m x :: l.map (pt m)).Nodup
      rw [List.nodup_cons]
      refine ⟨fun hx => hnd.1 ?_, ih hnd.2 fun i hi => hlt i (List.mem_cons_of_mem _ hi)⟩
      obtain ⟨y, hy, e⟩ := List.mem_map.1 hx
      have := exK_inj (hlt y (List.mem_cons_of_mem _ hy)) (hlt x (List.mem_cons_self ..)) e
      rwa [← this]) fun a ha => by
    obtain ⟨i, hi, rfl⟩ := List.mem_map.1 ha
    exact (zAt_iff _ _ _).1 (hits_mem.1 hi).2
  rwa [List.length_map] at h
/-- behind the last root nothing more is found. -/
theorem hits_stop {f : Nat → Bool} {d k n : Nat} (hk : k ≤ n) (h1 : (hits f k).length = d) (h2 : (hits f n).length ≤ d) : hits f n = hits f k := by
  obtain ⟨j, rfl⟩ : ∃ j, n = k + j := ⟨n - k, by omega⟩
  clear hk
  induction j with
  | zero => rfl
  | succ j ih =>
    have h3 : (hits f (k + j)).length ≤ d := by
      rw [show k + (j + 1) = (k + j) + 1 from rfl, hits_succ, List.length_append] at h2; omega
    have e := ih h3
    rw [show k + (j + 1) = (k + j) + 1 from rfl, hits_succ] at h2 ⊢
    rw [e] at h2 ⊢
    rw [List.length_append, h1] at h2
    have : (if f (k + j) = true then [k + j] else []).length = 0 := by omega
    rw [List.eq_nil_of_length_eq_zero this, List.append_nil]
/-! ### a value as a sum of terms -/
def evs (p : Ser (El m)) (x : El m) : Nat → El m
  | 0 => 0
  | n + 1 => evs p x n + p n * pwK x n
theorem evs_tl (p : Ser (El m)) (x : El m) : ∀ n, evs p x (n + 1) = p 0 + x * evs (tl p) x n
  | 0 => by
    show (0 : El m) + p 0 * 1 = p 0 + x * 0
    rw [zero_add, Fl.mul_one, Pl.mul_zero, Fl.add_zero]
  | n + 1 => by
    show evs p x (n + 1) + p (n + 1) * pwK x (n + 1) = p 0 + x * (evs (tl p) x n + p (n + 1) * pwK x n)
    rw [evs_tl p x n, Fl.mul_add, Fl.add_assoc]
    congr 2
    show p (n + 1) * (x * pwK x n) = x * (p (n + 1) * pwK x n)
    ac_rfl
theorem ev_evs (x : El m) : ∀ (n : Nat) (p : Ser (El m)), ev n p x = evs p x n
  | 0, _ => rfl
  | n + 1, p => by rw [evs_tl, ← ev_evs x n (tl p)]; rfl
/-- the places of coefficients that are not 0. -/
def nz (p : Ser (El m)) (n : Nat) : List Nat := hits (fun j => !decide (p j = 0)) n
/-- the sum of the terms at these. -/
def tsum (p : Ser (El m)) (x : El m) (l : List Nat) : El m := l.foldl (fun v j => v + p j * pwK x j) 0
theorem tsum_snoc (p : Ser (El m)) (x : El m) (l : List Nat) (j : Nat) : tsum p x (l ++ [j]) = tsum p x l + p j * pwK x j := by unfold tsum; rw [List.foldl_append]; rfl
theorem tsum_nz (p : Ser (El m)) (x : El m) : ∀ n, tsum p x (nz p n) = ev n p x := by
  intro n
  rw [ev_evs]
  induction n with
  | zero => rfl
  | succ n ih =>
    unfold nz at ih ⊢
    rw [hits_succ]
    by_cases h : p n = 0
    · rw [show (!decide (p n = 0)) = false by simp [h]]
      show tsum p x (_ ++ []) = evs p x n + p n * pwK x n
      rw [List.append_nil, ih, h, zero_mul, Fl.add_zero]
    · rw [show (!decide (p n = 0)) = true by simp [h]]
      show tsum p x (_ ++ [n]) = _
      rw [tsum_snoc, ih]; rfl
/-- the logarithm of a term. -/
def lgt (p : Ser (El m)) (i j : Nat) : Int := (lg m (p j).val : Int) - (i : Int) * (j : Int)
theorem lgt_exp {p : Ser (El m)} {j : Nat} (h0 : p j ≠ 0) (i : Nat) : exK m (lgt p i j) = p j * pwK (pt m i) j := by
  have e1 : p j = exK m (lg m (p j).val : Int) := El.ext (by
    show (p j).val = pwZ m _
    rw [pwZ_nat m M.lo M.hi]
    exact (lg_spec m M.lo M.hi _ (p j).2 (fun e => h0 (El.ext e))).2.symm)
  rw [pt_pow]
  conv => rhs; rw [e1]
  rw [exK_mul]; rfl
omit M in
theorem lgt_succ (p : Ser (El m)) (i j : Nat) : lgt p (i + 1) j = lgt p i j - (j : Int) := by
  unfold lgt
  rw [show ((i + 1 : Nat) : Int) = (i : Int) + 1 from rfl, Int.add_mul]; omega
/-- the logarithms: the first q of them of the next place already. -/
def lgs (p : Ser (El m)) (l : List Nat) (i q : Nat) : List Int := (List.range l.length).map fun k => lgt p (if k < q then i + 1 else i) (l.getD k 0)
omit M in
theorem lgs_length (p : Ser (El m)) (l : List Nat) (i q : Nat) : (lgs p l i q).length = l.length := by simp [lgs]
omit M in
theorem lgs_at (p : Ser (El m)) (l : List Nat) (i q k : Nat) (hk : k < l.length) (hq : q ≤ k) : (lgs p l i q).getD k 0 = lgt p i (l.getD k 0) := by
  simp only [lgs, List.getD_eq_getElem?_getD, List.getElem?_map, List.getElem?_range hk, Option.map_some, Option.getD_some]
  rw [if_neg (by omega)]
omit M in
theorem lgs_all (p : Ser (El m)) (l : List Nat) (i : Nat) : lgs p l i l.length = lgs p l (i + 1) 0 := by
  unfold lgs
  refine List.map_congr_left fun k hk => ?_
  rw [if_pos (List.mem_range.1 hk), if_neg (by omega)]
omit M in
theorem lgs_set (p : Ser (El m)) (l : List Nat) (i q : Nat) : (lgs p l i q).set q (lgt p i (l.getD q 0) - ((l.getD q 0 : Nat) : Int)) = lgs p l i (q + 1) := by
  apply List.ext_getElem
  · simp [lgs]
  · intro k h1 h2
    rw [List.getElem_set]
    simp only [lgs, List.getElem_map, List.getElem_range]
    by_cases e : q = k
    · subst e; rw [if_pos rfl, if_pos (by omega), lgt_succ]
    · rw [if_neg e]
      by_cases h : k < q
      · rw [if_pos h, if_pos (by omega)]
      · rw [if_neg h, if_neg (by omega)]
omit M in
theorem lgs_zero (p : Ser (El m)) (l : List Nat) : lgs p l 0 0 = l.map fun j => (lg m (p j).val : Int) := by
  apply List.ext_getElem
  · simp [lgs]
  · intro k h1 h2
    have hk : k < l.length := by simpa [lgs] using h1
    simp only [lgs, List.getElem_map, List.getElem_range]
    rw [if_neg (by omega)]
    have e : l.getD k 0 = l[k] := by rw [List.getD_eq_getElem?_getD, List.getElem?_eq_getElem hk]; rfl
    rw [e]
    unfold lgt
    simp
end
end Go.Proofs.YthmfneepnkgmgaaGreatDoor.Sea
/- A range over a function whose iterator keeps state in cells of its own: one invariant for what the iterator and the body hold together, all of it below the blocks that the loop itself lays. By the verifier of shale. -/
namespace Go.Proofs.YthmfneepnkgmgaaGreatDoor
open Go Go.RowKit
set_option linter.unusedVariables false
/-- what lies at or above B and was there lies as it lay. -/
structure Hi (B : Nat) (W W' : World) : Prop where
  size : W.heap.size ≤ W'.heap.size
  same : ∀ k, B ≤ k → k < W.heap.size → W'.heap[k]? = W.heap[k]?
theorem Hi.refl (B : Nat) (W : World) : Hi B W W := ⟨Nat.le_refl _, fun _ _ _ => rfl⟩
theorem Hi.trans {B : Nat} {X Y Z : World} (h : Hi B X Y) (k : Hi B Y Z) : Hi B X Z :=
  ⟨Nat.le_trans h.size k.size, fun i hB hi => (k.same i hB (Nat.lt_of_lt_of_le hi h.size)).trans (h.same i hB hi)⟩
theorem Hi.below {B : Nat} {W W' : World} (h : Below W.heap.size W W') : Hi B W W' := ⟨h.size, fun k _ hk => h.block k hk⟩
theorem Hi.setCell {B : Nat} (W : World) (p : Addr) (u : Value) (hp : p.block < B) : Hi B W (W.setCell p u) :=
  ⟨by simp [World.setCell], fun k hB _ => Below.heap_setCell _ _ _ _ (by omega)⟩
def Stays (B : Nat) (K : World → Prop) : Prop := ∀ W W', K W → Hi B W W' → K W'
/-- a predicate of what lies below B. -/
def Low (B : Nat) (I : World → Prop) : Prop := ∀ W W', I W → Below B W W' → I W'
/-- how the body of a round may be left; Kp: what a round that goes on keeps for the iterator. -/
def leftBy {α : Type} (B : Nat) (Kp : World → World → Prop) (I : List α → World → Prop) (Ix : Code → List α → World → Prop) (xs : List α) (W : World) : Exit → Act → World → Prop
  | .normal, _, W' => Hi B W W' ∧ Kp W W' ∧ I xs W'
  | .ret, _, W' => Hi B W W' ∧ Ix .ret xs W'
  | .exit id, _, W' => Hi B W W' ∧ Ix (.exit id) xs W'
  | .goto t, _, W' => Hi B W W' ∧ Ix (.goto t) xs W'
  | .panic _, _, _ => False
  | .outgrown, _, _ => False
/-- the iterator's side: it calls yield at each, carries I on, and leaves alone what lies at or above B. -/
def Iterates {α : Type} (n : Nat) (P : Program) (gf : Nat) (lb : Array Value) (encs : α → Array Value) (B N : Nat) (Kp : World → World → Prop) (I : List α → World → Prop) (Ix : Code → List α → World → Prop) (S Sp : List α → Prop) (w : World) : Prop :=
  ∀ (l : Nat) (K : World → Prop) (Kx : Code → World → Prop) (W : World), Below B w W → Stays B K → (∀ c, Stays B (Kx c)) →
    (∀ pre x W1, I pre W1 → K W1 → pre.length < N → YieldAt Fence.wide n P l (encs x) W1 fun e W' =>
      (e = .returned (.bool true) ∧ I (pre ++ [x]) W' ∧ Kp W1 W' ∧ K W') ∨ (e = .returned (.bool false) ∧ ∃ c, Ix c (pre ++ [x]) W' ∧ Kx c W')) →
    I [] W → K W →
    CallsIn Fence.wide n P gf (#[.func (.yield l) #[] #[]] ++ lb) W fun e W' => (∃ v, e = .returned v) ∧
      ((∃ xs, S xs ∧ I xs W' ∧ K W') ∨ (∃ pre c, Sp pre ∧ Ix c pre W' ∧ Kx c W'))
/-- whatever lies below B, block s aside, lies as it lay. -/
structure Others (B s : Nat) (W W' : World) : Prop where
  size : W.heap.size ≤ W'.heap.size
  same : ∀ k, k < B → k ≠ s → W'.heap[k]? = W.heap[k]?
theorem Others.trans {B s : Nat} {X Y Z : World} (h : Others B s X Y) (k : Others B s Y Z) : Others B s X Z :=
  ⟨Nat.le_trans h.size k.size, fun i hi hs => (k.same i hi hs).trans (h.same i hi hs)⟩
theorem Others.below {B s : Nat} {X Y : World} (h : Below B X Y) : Others B s X Y := ⟨h.size, fun k hk _ => h.block k hk⟩
theorem Others.setCell {B s : Nat} (W : World) (p : Addr) (u : Value) (hp : p.block = s) : Others B s W (W.setCell p u) :=
  ⟨by simp [World.setCell], fun k _ hs => Below.heap_setCell _ _ _ _ (by omega)⟩
theorem roundIn_wide {n m : Nat} {P : Program} {l : Nat} {f : FuncId} {tmps : Array Value} {assign body : Code} {w : World} {R : Ending → World → Prop}
    (h : RoundIn Fence.wide n P l f tmps assign body w R) : RoundIn Fence.wide m P l f tmps assign body w R := ⟨h.1, fun c cs _ => h.2 c cs (room_wide _)⟩
/-- **THE STATEMENT.** -/
theorem range_own {α : Type} {n : Nat} {P : Program} {g : Operand} {ps : Array Tmp} {assign body : Code} {Q : Exit → Act → World → Prop} {a : Act} {w : World}
    {gf : Nat} {lb : Array Value} (hg : a.eval g = .func (.func gf) #[] lb) (eg : ∀ args w, (callFunc gf args).run P w = .ok (.enter gf args) w)
    {encs : α → Array Value} (hps : ∀ x, (encs x).size = ps.size) {N : Nat} {S Sp : List α → Prop}
    (Kp : World → World → Prop) (hKt : ∀ {X Y Z : World}, Kp X Y → Kp Y Z → Kp X Z) (hKb : ∀ {X Y : World}, Below w.heap.size X Y → Kp X Y)
    (I : List α → World → Prop) (Ix : Code → List α → World → Prop) (hI : ∀ pre, Low w.heap.size (I pre)) (hIx : ∀ c pre, Low w.heap.size (Ix c pre)) (h0 : I [] w)
    (hit : Iterates (n - 1) P gf lb encs w.heap.size N Kp I Ix S Sp w) (a₁ : α → Act)
    (hassign : ∀ (l : Nat) (x : α) (W : World) (K : Act → World → Prop), K (a₁ x) W →
      assign.wpIn (Fence.wide.inRound l) (n - 1) P (Exit.then K (fun _ _ _ => False)) { tmps := (ps.zip (encs x)).foldl (fun t (p, v) => t.setIfInBounds p v) a.tmps, defers := [] } W)
    (hbody : ∀ (l : Nat) (pre : List α) (x : α) (W : World), I pre W → pre.length < N → body.wpIn (Fence.wide.inRound l) (n - 1) P (leftBy w.heap.size Kp I Ix (pre ++ [x]) W) (a₁ x) W)
    (hdone : ∀ (D : Nat) (xs : List α) (W : World), w.heap.size ≤ D → D < W.heap.size → S xs → I xs W → W.heap[D]? = some (.deferred (some [])) → Q .normal { a with defers := { target := .collected D, args := #[] } :: a.defers } W)
    (hstop : ∀ (D : Nat) (c : Code) (pre : List α) (W : World), w.heap.size ≤ D → D < W.heap.size → Sp pre → Ix c pre W → W.heap[D]? = some (.deferred (some [])) → c.wpIn Fence.wide n P Q { a with defers := { target := .collected D, args := #[] } :: a.defers } W) :
    (Code.rangeFunc g ps assign body).wpIn Fence.wide n P Q a w := by
  refine wpIn_rangeFunc ?_
  intro fn hfn
  let B := w.heap.size
  let rec' : LoopState → Option Code → Loop := fun st pe => { state := st, pending := pe, fn, tmps := a.tmps, params := ps, assign, body, defers := B }
  obtain ⟨W1, hW1⟩ : ∃ W1, (w.alloc (.deferred (some []))).alloc (.loop (rec' .ready none)) = W1 := ⟨_, rfl⟩
  have hbel : Below B w W1 := by rw [← hW1]; exact ((Below.refl _ _).alloc (Nat.le_refl _) _).alloc (by simp) _
  have hD1 : W1.heap[B]? = some (.deferred (some [])) := by
    rw [← hW1]; exact (Below.heap_alloc _ _ _ (by simp [B])).trans (World.alloc_heap_new w _)
  have hL1 : W1.heap[B + 1]? = some (.loop (rec' .ready none)) := by
    rw [← hW1]
    have := World.alloc_heap_new (w.alloc (.deferred (some []))) (.loop (rec' .ready none))
    rwa [World.size_alloc] at this
  -- the two blocks of the loop's own, in whatever state
  let At : LoopState → Option Code → World → Prop := fun st pe W => W.heap[B + 1]? = some (.loop (rec' st pe)) ∧ W.heap[B]? = some (.deferred (some []))
  have hAt : ∀ st pe, Stays B (At st pe) := by
    intro st pe X Y h k
    exact ⟨(k.same _ (by omega) (Array.getElem?_eq_some_iff.1 h.1).1).trans h.1, (k.same _ (Nat.le_refl _) (Array.getElem?_eq_some_iff.1 h.2).1).trans h.2⟩
  -- a turn of the record
  have turn : ∀ (W : World) (st st' : LoopState) (pe pe' : Option Code), At st pe W → At st' pe' (W.putObj (B + 1) (.loop (rec' st' pe'))) ∧ Below B W (W.putObj (B + 1) (.loop (rec' st' pe'))) := by
    intro W st st' pe pe' h
    have hlt := (Array.getElem?_eq_some_iff.1 h.1).1
    refine ⟨⟨World.putObj_heap_same hlt, (World.putObj_heap_other (by omega)).trans h.2⟩, ⟨rfl, rfl, rfl, by simp, fun k hk => World.putObj_heap_other (by omega)⟩⟩
  refine ⟨B + 1, [{ target := .collected B, args := #[] }], W1, { target := .fn (.func gf) lb, args := #[.func (.yield (B + 1)) #[] #[]] }, W1, gf, #[.func (.yield (B + 1)) #[] #[]] ++ lb, W1, ?_, ?_, ?_, ?_, fun h => by simp [Fence.wide] at h, ?_⟩
  · rw [← hW1]; exact run_enterLoop_outer _ _ _ _ _
  · simp only [resolve, hg]
    simp [go_sem]
  · intro f' _; trivial
  · simp [invoke, go_sem, eg]
  refine (hit (B + 1) (At .ready none) (fun c => At .done (some c)) W1 hbel (hAt _ _) (fun c => hAt _ _) ?_ (hI _ _ _ h0 hbel) ⟨hL1, hD1⟩).mono ?_
  · -- one round
    intro pre x W hi hK hlen
    refine ⟨fn, _, assign, body, run_yield hK.1 (hps x), roundIn_wide (n := n - 1) (roundIn_of_wpIn trivial (hassign _ x W _ ⟨_, run_beginRound hK.1 rfl, ?_⟩))⟩
    obtain ⟨k2, b2⟩ := turn W .ready .busy none none hK
    refine wpIn_mono (hbody _ pre x _ (hI _ _ _ hi b2) hlen) ?_
    have fin : ∀ (jump : Option Code) (W3 : World), Hi B (W.putObj (B + 1) (.loop (rec' .busy none))) W3 → At .busy none W3 ∧
        (Instr.endRound (B + 1) jump).run P W3 = .ok (.bool jump.isNone) (W3.putObj (B + 1) (.loop (rec' (if jump.isNone then .ready else .done) jump))) := by
      intro jump W3 h3
      have k3 := hAt _ _ _ _ k2 h3
      exact ⟨k3, run_endRound jump k3.1⟩
    rintro e a3 W3 hp
    cases e with
    | normal =>
      obtain ⟨h3, p3, i3⟩ := hp
      obtain ⟨k3, r3⟩ := fin none W3 h3
      obtain ⟨k4, b4⟩ := turn W3 .busy .ready none none k3
      exact ⟨_, _, r3, .inl ⟨rfl, hI _ _ _ i3 b4, hKt (hKt (hKb b2) p3) (hKb b4), k4⟩⟩
    | ret =>
      obtain ⟨h3, i3⟩ := hp
      obtain ⟨k3, r3⟩ := fin (some .ret) W3 h3
      obtain ⟨k4, b4⟩ := turn W3 .busy .done none (some .ret) k3
      exact ⟨_, _, r3, .inr ⟨rfl, _, hIx _ _ _ _ i3 b4, k4⟩⟩
    | exit id =>
      obtain ⟨h3, i3⟩ := hp
      obtain ⟨k3, r3⟩ := fin (some (.exit id)) W3 h3
      obtain ⟨k4, b4⟩ := turn W3 .busy .done none (some (.exit id)) k3
      exact ⟨_, _, r3, .inr ⟨rfl, _, hIx _ _ _ _ i3 b4, k4⟩⟩
    | goto t =>
      obtain ⟨h3, i3⟩ := hp
      obtain ⟨k3, r3⟩ := fin (some (.goto t)) W3 h3
      obtain ⟨k4, b4⟩ := turn W3 .busy .done none (some (.goto t)) k3
      exact ⟨_, _, r3, .inr ⟨rfl, _, hIx _ _ _ _ i3 b4, k4⟩⟩
    | panic ch => exact hp.elim
    | outgrown => exact hp.elim
  · -- behind the iterator
    rintro e W2 ⟨⟨v, rfl⟩, (⟨xs, hS, hi, hK⟩ | ⟨pre, c, hSp, hi, hK⟩)⟩
    · obtain ⟨k3, b3⟩ := turn W2 .ready .exhausted none none hK
      exact ⟨none, _, run_endLoop hK.1 (by simp [rec']), hdone _ xs _ (Nat.le_refl _) (Array.getElem?_eq_some_iff.1 k3.2).1 hS (hI _ _ _ hi b3) k3.2⟩
    · obtain ⟨k3, b3⟩ := turn W2 .done .exhausted (some c) (some c) hK
      exact ⟨some c, _, run_endLoop hK.1 (by simp [rec']), hstop _ c pre _ (Nat.le_refl _) (Array.getElem?_eq_some_iff.1 k3.2).1 hSp (hIx _ _ _ _ hi b3) k3.2⟩
end Go.Proofs.YthmfneepnkgmgaaGreatDoor
/- A range over a function whose iterator and whose body each own blocks of their own (captured cells, lists that grow in place): what either does leaves alone what the other owns. By the verifier of shale. -/
namespace Go.Proofs.YthmfneepnkgmgaaGreatDoor
open Go Go.RowKit
set_option linter.unusedVariables false
/-- below B (cl aside) and in bl all lies as it lay. -/
structure Fr (B : Nat) (cl bl : List Nat) (X Y : World) : Prop where
  os : Y.os = X.os
  tape : Y.tape = X.tape
  output : Y.output = X.output
  size : X.heap.size ≤ Y.heap.size
  same : ∀ k, (k < B ∧ k ∉ cl) ∨ k ∈ bl → k < X.heap.size → Y.heap[k]? = X.heap[k]?
theorem Fr.refl (B : Nat) (cl bl : List Nat) (X : World) : Fr B cl bl X X := ⟨rfl, rfl, rfl, Nat.le_refl _, fun _ _ _ => rfl⟩
theorem Fr.trans {B : Nat} {cl bl : List Nat} {X Y Z : World} (h : Fr B cl bl X Y) (k : Fr B cl bl Y Z) : Fr B cl bl X Z :=
  ⟨k.os.trans h.os, k.tape.trans h.tape, k.output.trans h.output, Nat.le_trans h.size k.size, fun i hi hs => (k.same i hi (Nat.lt_of_lt_of_le hs h.size)).trans (h.same i hi hs)⟩
theorem Fr.below {B : Nat} {cl bl : List Nat} {X Y : World} (h : Below X.heap.size X Y) : Fr B cl bl X Y := ⟨h.os, h.tape, h.output, h.size, fun k _ hk => h.block k hk⟩
theorem Fr.sub {B B' : Nat} {cl bl bl' : List Nat} {X Y : World} (h : Fr B cl bl X Y) (hB : B' ≤ B) (hs : ∀ k ∈ bl', k ∈ bl ∨ (k < B ∧ k ∉ cl)) : Fr B' cl bl' X Y :=
  ⟨h.os, h.tape, h.output, h.size, fun k hk hl => h.same k (by
    rcases hk with ⟨h1, h2⟩ | h1
    · exact .inl ⟨by omega, h2⟩
    · rcases hs k h1 with h2 | h2
      · exact .inr h2
      · exact .inl h2) hl⟩
/-- a store into a block that is none of these. -/
theorem Fr.setCell {B : Nat} {cl bl : List Nat} (X : World) (p : Addr) (u : Value) (h1 : p.block < B → p.block ∈ cl) (h2 : p.block ∉ bl) : Fr B cl bl X (X.setCell p u) :=
  ⟨rfl, rfl, rfl, by simp [World.setCell], fun k hk _ => Below.heap_setCell _ _ _ _ (by
    rintro rfl
    rcases hk with ⟨h, h'⟩ | h
    · exact h' (h1 h)
    · exact h2 h)⟩
/-- what the owner of bl may do: it turns these, and makes new ones. -/
structure Tn (bl : List Nat) (X Y : World) (bl' : List Nat) : Prop where
  os : Y.os = X.os
  tape : Y.tape = X.tape
  output : Y.output = X.output
  size : X.heap.size ≤ Y.heap.size
  same : ∀ k, k < X.heap.size → k ∉ bl → Y.heap[k]? = X.heap[k]?
  new : ∀ k ∈ bl', k ∈ bl ∨ X.heap.size ≤ k
theorem Tn.refl (bl : List Nat) (X : World) : Tn bl X X bl := ⟨rfl, rfl, rfl, Nat.le_refl _, fun _ _ _ => rfl, fun _ h => .inl h⟩
theorem Tn.trans {b1 b2 b3 : List Nat} {X Y Z : World} (h : Tn b1 X Y b2) (k : Tn b2 Y Z b3) : Tn b1 X Z b3 := by
  refine ⟨k.os.trans h.os, k.tape.trans h.tape, k.output.trans h.output, Nat.le_trans h.size k.size, fun i hi hs => ?_, fun i hi => ?_⟩
  · refine (k.same i (Nat.lt_of_lt_of_le hi h.size) fun hb => ?_).trans (h.same i hi hs)
    rcases h.new i hb with h1 | h1
    · exact hs h1
    · omega
  · rcases k.new i hi with h1 | h1
    · exact h.new i h1
    · exact .inr (Nat.le_trans h.size h1)
theorem Tn.below {bl : List Nat} {X Y : World} (h : Below X.heap.size X Y) : Tn bl X Y bl := ⟨h.os, h.tape, h.output, h.size, fun k hk _ => h.block k hk, fun _ h => .inl h⟩
theorem Tn.setCell {bl : List Nat} (X : World) (p : Addr) (u : Value) (h : p.block ∈ bl) : Tn bl X (X.setCell p u) bl :=
  ⟨rfl, rfl, rfl, by simp [World.setCell], fun k _ hk => Below.heap_setCell _ _ _ _ (by rintro rfl; exact hk h), fun _ h => .inl h⟩
/-- how the body of a round may be left. -/
def leftSep {α : Type} (I : List α → List Nat → World → Prop) (Ix : Code → List α → List Nat → World → Prop) (xs : List α) (bl : List Nat) (W : World) : Exit → Act → World → Prop
  | .normal, _, W' => ∃ bl', Tn bl W W' bl' ∧ I xs bl' W'
  | .ret, _, W' => ∃ bl', Tn bl W W' bl' ∧ Ix .ret xs bl' W'
  | .exit id, _, W' => ∃ bl', Tn bl W W' bl' ∧ Ix (.exit id) xs bl' W'
  | .goto t, _, W' => ∃ bl', Tn bl W W' bl' ∧ Ix (.goto t) xs bl' W'
  | .panic _, _, _ => False
  | .outgrown, _, _ => False
/-- the iterator's side: O is what is carried on for the body and the loop; ol the blocks that they own; C what the iterator finds. -/
def IterSep {α : Type} (n : Nat) (P : Program) (gf : Nat) (lb : Array Value) (encs : α → Array Value) (B : Nat) (cl : List Nat) (V : List α → α → Prop) (S Sp : List α → Prop) (C : List Nat → World → Prop) : Prop :=
  ∀ (l : Nat) (O : List α → List Nat → World → Prop) (Ox : Code → List α → List Nat → World → Prop) (ol : List Nat) (W : World),
    (∀ pre ol X Y, O pre ol X → Fr B cl ol X Y → O pre ol Y) → (∀ c pre ol X Y, Ox c pre ol X → Fr B cl ol X Y → Ox c pre ol Y) →
    (∀ pre ol X, O pre ol X → ∀ k ∈ ol, k < X.heap.size) →
    (∀ pre x ol X, O pre ol X → V pre x → YieldAt Fence.wide n P l (encs x) X fun e Y => ∃ ol', Tn ol X Y ol' ∧
      ((e = .returned (.bool true) ∧ O (pre ++ [x]) ol' Y) ∨ (e = .returned (.bool false) ∧ ∃ c, Ox c (pre ++ [x]) ol' Y))) →
    B ≤ W.heap.size → O [] ol W → C ol W →
    CallsIn Fence.wide n P gf (#[.func (.yield l) #[] #[]] ++ lb) W fun e W' => (∃ v, e = .returned v) ∧
      ((∃ xs ol', S xs ∧ O xs ol' W') ∨ (∃ pre c ol', Sp pre ∧ Ox c pre ol' W'))
/-- **THE STATEMENT.** -/
theorem range_sep {α : Type} {n : Nat} {P : Program} {g : Operand} {ps : Array Tmp} {assign body : Code} {Q : Exit → Act → World → Prop} {a : Act} {w : World}
    {gf : Nat} {lb : Array Value} (hg : a.eval g = .func (.func gf) #[] lb) (eg : ∀ args w, (callFunc gf args).run P w = .ok (.enter gf args) w)
    {encs : α → Array Value} (hps : ∀ x, (encs x).size = ps.size) {V : List α → α → Prop} {S Sp : List α → Prop} (cl : List Nat) {C : List Nat → World → Prop}
    (I : List α → List Nat → World → Prop) (Ix : Code → List α → List Nat → World → Prop)
    (hI : ∀ pre bl X Y, I pre bl X → Fr w.heap.size cl bl X Y → I pre bl Y) (hIx : ∀ c pre bl X Y, Ix c pre bl X → Fr w.heap.size cl bl X Y → Ix c pre bl Y)
    (hIl : ∀ pre bl X, I pre bl X → ∀ k ∈ bl, k < X.heap.size) {bl0 : List Nat} (h0 : I [] bl0 w)
    (hC : ∀ W, Below w.heap.size w W → C (w.heap.size :: (w.heap.size + 1) :: bl0) W)
    (hit : IterSep (n - 1) P gf lb encs w.heap.size cl V S Sp C) (a₁ : α → Act)
    (hassign : ∀ (l : Nat) (x : α) (W : World) (K : Act → World → Prop), K (a₁ x) W →
      assign.wpIn (Fence.wide.inRound l) (n - 1) P (Exit.then K (fun _ _ _ => False)) { tmps := (ps.zip (encs x)).foldl (fun t (p, v) => t.setIfInBounds p v) a.tmps, defers := [] } W)
    (hbody : ∀ (l : Nat) (pre : List α) (bl : List Nat) (x : α) (W : World), I pre bl W → V pre x → body.wpIn (Fence.wide.inRound l) (n - 1) P (leftSep I Ix (pre ++ [x]) bl W) (a₁ x) W)
    (hdone : ∀ (D : Nat) (xs : List α) (bl : List Nat) (W : World), w.heap.size ≤ D → D < W.heap.size → D ∉ bl → S xs → I xs bl W → W.heap[D]? = some (.deferred (some [])) → Q .normal { a with defers := { target := .collected D, args := #[] } :: a.defers } W)
    (hstop : ∀ (D : Nat) (c : Code) (pre : List α) (bl : List Nat) (W : World), w.heap.size ≤ D → D < W.heap.size → D ∉ bl → Sp pre → Ix c pre bl W → W.heap[D]? = some (.deferred (some [])) → c.wpIn Fence.wide n P Q { a with defers := { target := .collected D, args := #[] } :: a.defers } W) :
    (Code.rangeFunc g ps assign body).wpIn Fence.wide n P Q a w := by
  refine wpIn_rangeFunc ?_
  intro fn hfn
  obtain ⟨B, hB⟩ : ∃ B, B = w.heap.size := ⟨_, rfl⟩
  let rec' : LoopState → Option Code → Loop := fun st pe => { state := st, pending := pe, fn, tmps := a.tmps, params := ps, assign, body, defers := B }
  obtain ⟨W1, hW1⟩ : ∃ W1, (w.alloc (.deferred (some []))).alloc (.loop (rec' .ready none)) = W1 := ⟨_, rfl⟩
  have hbel : Below B w W1 := by rw [← hW1, hB]; exact ((Below.refl _ _).alloc (Nat.le_refl _) _).alloc (by simp) _
  have hD1 : W1.heap[B]? = some (.deferred (some [])) := by
    rw [← hW1, hB]; exact (Below.heap_alloc _ _ _ (by simp)).trans (World.alloc_heap_new w _)
  have hL1 : W1.heap[B + 1]? = some (.loop (rec' .ready none)) := by
    rw [← hW1]
    have := World.alloc_heap_new (w.alloc (.deferred (some []))) (.loop (rec' .ready none))
    rw [World.size_alloc] at this
    rw [hB]; exact this
  -- the two blocks of the loop's own, in whatever state
  let At : LoopState → Option Code → World → Prop := fun st pe W => W.heap[B + 1]? = some (.loop (rec' st pe)) ∧ W.heap[B]? = some (.deferred (some []))
  have hlt : ∀ {st pe W}, At st pe W → B + 1 < W.heap.size := fun h => (Array.getElem?_eq_some_iff.1 h.1).1
  have hAtF : ∀ {st pe cl ol X Y}, At st pe X → B ∈ ol → B + 1 ∈ ol → Fr B cl ol X Y → At st pe Y := by
    intro st pe cl ol X Y h m1 m2 f
    have := hlt h
    exact ⟨(f.same _ (.inr m2) (hlt h)).trans h.1, (f.same _ (.inr m1) (by omega)).trans h.2⟩
  have hAtT : ∀ {st pe bl bl' X Y}, At st pe X → B ∉ bl → B + 1 ∉ bl → Tn bl X Y bl' → At st pe Y ∧ B ∉ bl' ∧ B + 1 ∉ bl' := by
    intro st pe bl bl' X Y h m1 m2 t
    have := hlt h
    refine ⟨⟨(t.same _ (hlt h) m2).trans h.1, (t.same _ (by omega) m1).trans h.2⟩, fun hb => ?_, fun hb => ?_⟩
    · rcases t.new _ hb with h1 | h1
      · exact m1 h1
      · omega
    · rcases t.new _ hb with h1 | h1
      · exact m2 h1
      · omega
  -- a turn of the record
  have turn : ∀ (W : World) (st st' : LoopState) (pe pe' : Option Code), At st pe W → At st' pe' (W.putObj (B + 1) (.loop (rec' st' pe'))) ∧ Tn [B + 1] W (W.putObj (B + 1) (.loop (rec' st' pe'))) [B + 1] := by
    intro W st st' pe pe' h
    refine ⟨⟨World.putObj_heap_same (hlt h), (World.putObj_heap_other (by omega)).trans h.2⟩, ⟨rfl, rfl, rfl, by simp, fun k _ hk => World.putObj_heap_other (by simpa using hk), fun _ h => .inl h⟩⟩
  -- such a turn frames what the body owns
  have fr : ∀ {bl X Y}, B + 1 ∉ bl → Tn [B + 1] X Y [B + 1] → Fr B cl bl X Y := by
    intro bl X Y m t
    refine ⟨t.os, t.tape, t.output, t.size, fun k hk hl => t.same k hl fun hm => ?_⟩
    rw [List.mem_singleton.1 hm] at hk
    rcases hk with ⟨h1, _⟩ | h1
    · omega
    · exact m h1
  rw [← hB] at hI hIx hC hit
  refine ⟨B + 1, [{ target := .collected B, args := #[] }], W1, { target := .fn (.func gf) lb, args := #[.func (.yield (B + 1)) #[] #[]] }, W1, gf, #[.func (.yield (B + 1)) #[] #[]] ++ lb, W1, ?_, ?_, ?_, ?_, fun h => by simp [Fence.wide] at h, ?_⟩
  · rw [← hW1]
    subst hB
    exact run_enterLoop_outer _ _ _ _ _
  · simp only [resolve, hg]
    simp [go_sem]
  · intro f' _; trivial
  · simp [invoke, go_sem, eg]
  have m0 : B ∉ bl0 ∧ B + 1 ∉ bl0 := ⟨fun h => by have := hIl _ _ _ h0 _ h; omega, fun h => by have := hIl _ _ _ h0 _ h; omega⟩
  have hBW1 : B ≤ W1.heap.size := by have := hbel.size; omega
  refine (hit (B + 1) (fun pre ol W => ∃ bl, ol = B :: (B + 1) :: bl ∧ B ∉ bl ∧ B + 1 ∉ bl ∧ I pre bl W ∧ At .ready none W) (fun c pre ol W => ∃ bl, ol = B :: (B + 1) :: bl ∧ B ∉ bl ∧ B + 1 ∉ bl ∧ Ix c pre bl W ∧ At .done (some c) W)
    (B :: (B + 1) :: bl0) W1 ?_ ?_ ?_ ?_ hBW1 ⟨bl0, rfl, m0.1, m0.2, hI _ _ _ _ h0 (.below (by rw [← hB]; exact hbel)), hL1, hD1⟩ (hC _ hbel)).mono ?_
  · rintro pre ol X Y ⟨bl, rfl, m1, m2, hi, hK⟩ f
    exact ⟨bl, rfl, m1, m2, hI _ _ _ _ hi (f.sub (Nat.le_refl _) fun k hk => .inl (by simp [hk])), hAtF hK (by simp) (by simp) f⟩
  · rintro c pre ol X Y ⟨bl, rfl, m1, m2, hi, hK⟩ f
    exact ⟨bl, rfl, m1, m2, hIx _ _ _ _ _ hi (f.sub (Nat.le_refl _) fun k hk => .inl (by simp [hk])), hAtF hK (by simp) (by simp) f⟩
  · rintro pre ol X ⟨bl, rfl, m1, m2, hi, hK⟩ k hk
    have := hlt hK
    rcases List.mem_cons.1 hk with rfl | hk
    · omega
    · rcases List.mem_cons.1 hk with rfl | hk
      · exact this
      · exact hIl _ _ _ hi k hk
  · -- one round
    rintro pre x ol W ⟨bl, rfl, m1, m2, hi, hK⟩ hlen
    refine ⟨fn, _, assign, body, run_yield hK.1 (hps x), roundIn_wide (n := n - 1) (roundIn_of_wpIn trivial (hassign _ x W _ ⟨_, run_beginRound hK.1 rfl, ?_⟩))⟩
    obtain ⟨k2, b2⟩ := turn W .ready .busy none none hK
    refine wpIn_mono (hbody _ pre bl x _ (hI _ _ _ _ hi (fr m2 b2)) hlen) ?_
    have lift : ∀ {bl2 X Y}, Tn [B + 1] X Y [B + 1] → Tn (B :: (B + 1) :: bl2) X Y (B :: (B + 1) :: bl2) := by
      intro bl2 X Y t
      exact ⟨t.os, t.tape, t.output, t.size, fun k hk hb => t.same k hk (by simp only [List.mem_singleton]; rintro rfl; exact hb (by simp)), fun _ h => .inl h⟩
    have lift2 : ∀ {bl2 bl3 X Y}, Tn bl2 X Y bl3 → Tn (B :: (B + 1) :: bl2) X Y (B :: (B + 1) :: bl3) := by
      intro bl2 bl3 X Y t
      refine ⟨t.os, t.tape, t.output, t.size, fun k hk hb => t.same k hk fun h => hb (by simp [h]), fun k hk => ?_⟩
      rcases List.mem_cons.1 hk with rfl | hk
      · exact .inl (by simp)
      · rcases List.mem_cons.1 hk with rfl | hk
        · exact .inl (by simp)
        · rcases t.new k hk with h | h
          · exact .inl (by simp [h])
          · exact .inr h
    have fin : ∀ (jump : Option Code) (bl' : List Nat) (W3 : World), Tn bl (W.putObj (B + 1) (.loop (rec' .busy none))) W3 bl' → At .busy none W3 ∧ B ∉ bl' ∧ B + 1 ∉ bl' ∧
        (Instr.endRound (B + 1) jump).run P W3 = .ok (.bool jump.isNone) (W3.putObj (B + 1) (.loop (rec' (if jump.isNone then .ready else .done) jump))) := by
      intro jump bl' W3 h3
      obtain ⟨k3, n1, n2⟩ := hAtT k2 m1 m2 h3
      exact ⟨k3, n1, n2, run_endRound jump k3.1⟩
    rintro e a3 W3 hp
    cases e with
    | normal =>
      obtain ⟨bl', t3, i3⟩ := hp
      obtain ⟨k3, n1, n2, r3⟩ := fin none bl' W3 t3
      obtain ⟨k4, b4⟩ := turn W3 .busy .ready none none k3
      exact ⟨_, _, r3, _, ((lift b2).trans (lift2 t3)).trans (lift b4), .inl ⟨rfl, bl', rfl, n1, n2, hI _ _ _ _ i3 (fr n2 b4), k4⟩⟩
    | ret =>
      obtain ⟨bl', t3, i3⟩ := hp
      obtain ⟨k3, n1, n2, r3⟩ := fin (some .ret) bl' W3 t3
      obtain ⟨k4, b4⟩ := turn W3 .busy .done none (some .ret) k3
      exact ⟨_, _, r3, _, ((lift b2).trans (lift2 t3)).trans (lift b4), .inr ⟨rfl, _, bl', rfl, n1, n2, hIx _ _ _ _ _ i3 (fr n2 b4), k4⟩⟩
    | exit id =>
      obtain ⟨bl', t3, i3⟩ := hp
      obtain ⟨k3, n1, n2, r3⟩ := fin (some (.exit id)) bl' W3 t3
      obtain ⟨k4, b4⟩ := turn W3 .busy .done none (some (.exit id)) k3
      exact ⟨_, _, r3, _, ((lift b2).trans (lift2 t3)).trans (lift b4), .inr ⟨rfl, _, bl', rfl, n1, n2, hIx _ _ _ _ _ i3 (fr n2 b4), k4⟩⟩
    | goto t =>
      obtain ⟨bl', t3, i3⟩ := hp
      obtain ⟨k3, n1, n2, r3⟩ := fin (some (.goto t)) bl' W3 t3
      obtain ⟨k4, b4⟩ := turn W3 .busy .done none (some (.goto t)) k3
      exact ⟨_, _, r3, _, ((lift b2).trans (lift2 t3)).trans (lift b4), .inr ⟨rfl, _, bl', rfl, n1, n2, hIx _ _ _ _ _ i3 (fr n2 b4), k4⟩⟩
    | panic ch => exact hp.elim
    | outgrown => exact hp.elim
  · -- behind the iterator
    rintro e W2 ⟨⟨v, rfl⟩, (⟨xs, ol', hS, bl, rfl, m1, m2, hi, hK⟩ | ⟨pre, c, ol', hSp, bl, rfl, m1, m2, hi, hK⟩)⟩
    · obtain ⟨k3, b3⟩ := turn W2 .ready .exhausted none none hK
      exact ⟨none, _, run_endLoop hK.1 (by simp [rec']), hdone _ xs bl _ (by omega) (Array.getElem?_eq_some_iff.1 k3.2).1 m1 hS (hI _ _ _ _ hi (fr m2 b3)) k3.2⟩
    · obtain ⟨k3, b3⟩ := turn W2 .done .exhausted (some c) (some c) hK
      exact ⟨some c, _, run_endLoop hK.1 (by simp [rec']), hstop _ c pre bl _ (by omega) (Array.getElem?_eq_some_iff.1 k3.2).1 m1 hSp (hIx _ _ _ _ _ hi (fr m2 b3)) k3.2⟩
end Go.Proofs.YthmfneepnkgmgaaGreatDoor
/- The last methods of a field: orders, what is an element; the maker's error. By the verifier of shale. -/
namespace Go.Proofs.YthmfneepnkgmgaaGreatDoor.Fld
open Go Go.RowKit Bits16
set_option linter.unusedVariables false
/-- is that a field's element? -/
def isB (m : Nat) (a : Int) : Bool := decide (0 ≤ a ∧ a < (els m : Int))
theorem ret2_i64 {a b : Int} {v : Value} (e : a = b) : Ending.returned (.tuple #[.int .i64 a, v]) = Ending.returned (.tuple #[.int .i64 b, v]) := by rw [e]
section
variable {m s be ce bl : Nat}
variable (h1 : 3 ≤ m) (h2 : m ≤ 14)
include h1 h2
end
set_option maxHeartbeats 400000 in
theorem new_out (m : Int) (hm : m < 3 ∨ 14 < m) (w : World) (p : Addr) (hs : Sent w 4 p) (hg : 4 < w.heap.size) :
    Calls Tryz.prog 53 #[.int .i64 m] w fun e w' => e = .returned (.tuple #[.pointer none, errOf p]) ∧ Below w.heap.size w w' := by
  have hp := fun w => poly_out m hm w
  have HP := Lib.hid hp
  have hs' : w.cell? ⟨4, 0, none⟩ = some (errOf p) := hs
  clear hp hs hm
  go_enter Tryz.func53, Tryz.ntmps53
  go_wp2_with fail
  refine (HP.out w).mono ?_
  rintro e w1 ⟨rfl, b1⟩
  have hs1 := (b1.cell (p := ⟨4, 0, none⟩) hg).trans hs'
  go_wp2_with fail
  go_quiet (fail)
  go_wp2_with fail
  go_ret2
  exact ⟨rfl, b1.trans ((Drawn.mk _ _).below _)⟩
end Go.Proofs.YthmfneepnkgmgaaGreatDoor.Fld
/- Traces: a range over the squares of an element. By the verifier of shale. -/
namespace Go.Proofs.YthmfneepnkgmgaaGreatDoor.Fld
open Go Go.RowKit Bits16 Go.Shelf
set_option linter.unusedVariables false
attribute [local go_sem] Oper.semAt_some
/-- a block of one cell. -/
def Box (W : World) (b : Nat) (v : Value) (t : TypeId) : Prop := W.heap[b]? = some (.cells #[v] t (0, 0))
theorem Box.cell {W : World} {b : Nat} {v : Value} {t : TypeId} (e : Box W b v t) : W.cell? ⟨b, 0, none⟩ = some v := cell_of_one e
theorem Box.free {W : World} {b : Nat} {v : Value} {t : TypeId} (e : Box W b v t) : W.frozen? ⟨b, 0, none⟩ = false := free_of_one e
theorem Box.drawn {W W' : World} {b : Nat} {v : Value} {t : TypeId} (e : Box W b v t) (d : Drawn W W') : Box W' b v t := by obtain ⟨n, rfl⟩ := d; exact e
theorem Box.put {W : World} {b : Nat} {v : Value} {t : TypeId} (e : Box W b v t) (u : Value) : Box (W.setCell ⟨b, 0, none⟩ u) b u t := one_setCell e
theorem Box.other {W : World} {b : Nat} {v : Value} {t : TypeId} (e : Box W b v t) (p : Addr) (u : Value) (hp : b ≠ p.block) : Box (W.setCell p u) b v t := (Below.heap_setCell _ _ _ _ hp).trans e
theorem hi_drawn {B : Nat} {W W' : World} (d : Drawn W W') : Hi B W W' := .below (d.below _)
/-- the sum of these. -/
def xsum (l : List (BitVec 16)) : BitVec 16 := l.foldl (· ^^^ ·) 0
theorem xsum_snoc (l : List (BitVec 16)) (x : BitVec 16) : xsum (l ++ [x]) = xsum l ^^^ x := by simp [xsum]
/-- the first k squares. -/
def sqL (m : Nat) (E : BitVec 16) (k : Nat) : List (BitVec 16) := (List.range k).map fun i => sqs m i E
theorem sqL_succ (m : Nat) (E : BitVec 16) (k : Nat) : sqL m E (k + 1) = sqL m E k ++ [sqs m k E] := by simp [sqL, List.range_succ]
theorem sqL_length (m : Nat) (E : BitVec 16) (k : Nat) : (sqL m E k).length = k := by simp [sqL]
theorem xsum_sqL (m : Nat) (E : BitVec 16) : ∀ k, xsum (sqL m E k) = trTo m E k
  | 0 => rfl
  | k + 1 => by rw [sqL_succ, xsum_snoc, xsum_sqL m E k]; rfl
/-- what the loop's body holds: the sum so far, in a box of its own. -/
def TrI (sb : Nat) (w0 : World) (pre : List (BitVec 16)) (W : World) : Prop := Box W sb (.int .i64 (h (xsum pre))) 3 ∧ Below sb w0 W
theorem TrI.drawn {sb : Nat} {w0 W W' : World} {pre : List (BitVec 16)} (e : TrI sb w0 pre W) (d : Drawn W W') : TrI sb w0 pre W' := ⟨e.1.drawn d, e.2.trans (d.below _)⟩
theorem TrI.put {sb : Nat} {w0 W : World} {pre : List (BitVec 16)} (e : TrI sb w0 pre W) (p : Addr) (u : Value) (hp : sb < p.block) : TrI sb w0 pre (W.setCell p u) := ⟨e.1.other p u (by omega), e.2.setCell (by omega) _⟩
section
variable {m s be ce bl : Nat} (h1 : 3 ≤ m) (h2 : m ≤ 14)
include h1 h2
theorem mul_at (x y : BitVec 16) (hx : x.toNat < 2 ^ m) (hy : y.toNat < 2 ^ m) (w : World) (f : FldAt m w s be ce bl) :
    Calls Tryz.prog 121 #[.pointer (some ⟨s, 0, none⟩), .int .i64 (h x), .int .i64 (h y)] w fun e w' => e = .returned (.int .i64 (h (fmul m x y))) ∧ Drawn w w' := by
  have := mul_any h1 h2 (h x) (h y) w f
  rwa [el_of m h2 x hx, el_of m h2 y hy] at this
end
section
attribute [local go_sem] rxor
variable {m s be ce bl : Nat} (h1 : 3 ≤ m) (h2 : m ≤ 14)
include h1 h2
end
end Go.Proofs.YthmfneepnkgmgaaGreatDoor.Fld
/- The walk over package search's steps. By the verifier of shale. -/
namespace Go.Proofs.YthmfneepnkgmgaaGreatDoor.Sea
open Go Go.RowKit Pl Fld Bits16 Loc
set_option linter.unusedVariables false
theorem own_free {w : World} {base n k g c : Nat} {l : List Int} (h : Own64 w base (.slice (some ⟨g, 0, none⟩) n c) k l) (i : Nat) : w.frozen? ⟨g, i, none⟩ = false := by
  rcases h.2 with ⟨h0, _⟩ | ⟨g', cap', cur, hv, hbg, hh, _⟩
  · cases h0
  · simp only [Value.slice.injEq, Option.some.injEq, Addr.mk.injEq] at hv
    obtain ⟨⟨rfl, _⟩, _⟩ := hv
    unfold World.frozen?
    simp only
    rw [hh]; rfl
theorem own_store {w : World} {base n g c : Nat} {l : List Int} (h : Own64 w base (.slice (some ⟨g, 0, none⟩) n c) n l) (i : Nat) (hi : i < n) (z : Int) : Own64 (w.setCell ⟨g, i, none⟩ (.int .i64 z)) base (.slice (some ⟨g, 0, none⟩) n c) n (l.set i z) := by
  have hl := h.len
  refine ⟨by rw [cells64_length, List.length_set]; omega, ?_⟩
  rcases h.2 with ⟨h0, _⟩ | ⟨g', cap', cur, hv, hbg, hh, hnc, hm, hs, ht⟩
  · cases h0
  · simp only [Value.slice.injEq, Option.some.injEq, Addr.mk.injEq] at hv
    obtain ⟨⟨rfl, _⟩, _, rfl⟩ := hv
    refine Or.inr ⟨g, c, cur.setIfInBounds i (.int .i64 z), rfl, hbg, heap_setCell_same w g i cur _ _ hh, hnc, hm, by simpa using hs, ?_⟩
    rw [Array.toList_setIfInBounds, List.take_set, ht]
    unfold cells64
    rw [List.map_set]
/-- a search in block cb. -/
def chB (w : World) (cb g s : Nat) (a : Option Addr) (n c : Nat) (nn : Int) : Prop := w.heap[cb]? = some (.cells #[.pointer (some ⟨g, 0, none⟩), .pointer (some ⟨s, 0, none⟩), .slice a n c, .int .i64 nn] 138 (0, 0))
theorem chB.cells {w : World} {cb g s : Nat} {a : Option Addr} {n c : Nat} {nn : Int} (h : chB w cb g s a n c nn) :
    w.cell? ⟨cb, 0, none⟩ = some (.pointer (some ⟨g, 0, none⟩)) ∧ w.cell? ⟨cb, 1, none⟩ = some (.pointer (some ⟨s, 0, none⟩)) ∧ w.cell? ⟨cb, 2, none⟩ = some (.slice a n c) ∧ w.cell? ⟨cb, 3, none⟩ = some (.int .i64 nn) := by
  have e : w.heap[cb]? = _ := h
  refine ⟨?_, ?_, ?_, ?_⟩ <;> (unfold World.cell?; simp only; rw [e]; rfl)
abbrev chV (g s : Nat) (a : Option Addr) (n c : Nat) (nn : Int) : Value := .agg #[.pointer (some ⟨g, 0, none⟩), .pointer (some ⟨s, 0, none⟩), .slice a n c, .int .i64 nn]
set_option maxHeartbeats 400000 in
theorem steps_any (g s : Nat) (a : Option Addr) (n c : Nat) (nn : Int) (w : World) :
    Calls Tryz.prog 100 #[chV g s a n c nn] w fun e w' => e = .returned (.func (.func 128) #[] #[.pointer (some ⟨w.heap.size, 0, none⟩)]) ∧ chB w' w.heap.size g s a n c nn ∧ Below w.heap.size w w' := by
  have h1 : Hid (chB (w.alloc (.cells #[.pointer (some ⟨g, 0, none⟩), .pointer (some ⟨s, 0, none⟩), .slice a n c, .int .i64 nn] 138 (0, 0))) w.heap.size g s a n c nn ∧ Below w.heap.size w (w.alloc (.cells #[.pointer (some ⟨g, 0, none⟩), .pointer (some ⟨s, 0, none⟩), .slice a n c, .int .i64 nn] 138 (0, 0)))) :=
    ⟨heap_alloc_new w _, (Below.refl _ _).alloc (Nat.le_refl _) _⟩
  go_enter Tryz.func100, Tryz.ntmps100
  go_wp2_with fail
  go_ret
  exact ⟨rfl, h1.out.1, h1.out.2⟩
theorem intsN_at (l : List Nat) (j : Nat) (hj : j < l.length) : nth64 (intsN l) j = ((l.getD j 0 : Nat) : Int) := by
  unfold nth64 intsN
  simp [hj]
section
variable {m : Nat} [M : Mid m]
/-- what the iterator finds. -/
def Finds (w0 : World) (cb g s : Nat) (a : Option Addr) (n c : Nat) (nn : Int) (ol : List Nat) (W : World) : Prop :=
  Below w0.heap.size w0 W ∧ chB W cb g s a n c nn ∧ w0.heap.size ≤ cb ∧ ∀ k ∈ ol, w0.heap.size ≤ k ∧ k ≠ cb
abbrev encP (p : Ser (El m)) (n : Nat) (i : Nat) : Array Value := #[.int .i64 (i : Int), .int .i64 (zn (ev n p (pt m i)))]
set_option maxRecDepth 100000 in
set_option maxHeartbeats 2000000 in
theorem steps_iter (nf B : Nat) {K : Nat} {w0 : World} {s be ce bl cb g : Nat} {a : Option Addr} {n c : Nat} {p : Ser (El m)} {nn : Int} {y : Addr} (F : FldAt m w0 s be ce bl) (P : NV m w0 K a n c p) (hn : n ≤ 2048) (hnn : nn ≤ 16383) (E : ErrAt w0 5 y) :
    IterSep nf Tryz.prog 128 #[.pointer (some ⟨cb, 0, none⟩)] (encP p n) B [] (fun pre x => pre = List.range x ∧ x < nn.toNat) (fun xs => xs = List.range nn.toNat) (fun pre => ∃ k, k ≤ nn.toNat ∧ pre = List.range k) (Finds w0 cb g s a n c nn) := by
  obtain ⟨i0, hi, hz0, hz1, hz2⟩ := info64
  intro l O Ox ol W hO hOx hOl hY hBW h0 hC
  refine callsIn_wide.2 ?_
  obtain ⟨hB0, hch, hcb, hol⟩ := hC
  obtain ⟨c0, c1, c2, c3⟩ := hch.cells
  have HYY := Lib.hid hY
  have HOO := Lib.hid (And.intro hO (And.intro hOx hOl))
  have H0 := Lib.hid h0
  have HF := Lib.hid (And.intro F (And.intro P (And.intro E hB0)))
  have HC := Lib.hid (And.intro hch (And.intro hcb hol))
  clear hO hOx hOl hY h0 F P E hB0 hch hol
  go_enter Tryz.func128, Tryz.ntmps128
  go_wp2_with fail
  have hsW : cb < W.heap.size := lt_of_block HC.out.1
  have HW : Hid (∀ wx, Below W.heap.size W wx → chB wx cb g s a n c nn ∧ Below w0.heap.size w0 wx) := fun wx b => ⟨(b.block _ hsW).trans HC.out.1, HF.out.2.2.2.trans (b.mono HF.out.2.2.2.size)⟩
  clear c0 c1 c2 c3
  go_loopg [3, 4, 16] n (fun gh s3 s4 s16 wx => ∃ (k q : Nat), gh = n - k ∧ k ≤ n ∧ s16 = .int .i64 (k : Int) ∧ Hid (q = (nz p k).length) ∧ q ≤ k ∧ Hid (Own64 wx W.heap.size s3 q ((nz p k).map fun j => (lg m (p j).val : Int)) ∧ Own64 wx W.heap.size s4 q (intsN (nz p k)) ∧ ∀ x, s3.ownBlock = some x → s4.ownBlock ≠ some x) ∧ Below W.heap.size W wx)
  case atStart => exact ⟨0, 0, rfl, Nat.zero_le _, rfl, rfl, Nat.le_refl _, ⟨Own64.nil W _, Own64.nil W _, fun x hx => by cases hx⟩, Below.refl _ _⟩
  case round =>
    obtain ⟨k, q, hg, hk, rfl, HQ, hq, HO, hB⟩ := hrel
    have HG := Lib.hid hg
    clear hg
    obtain ⟨hch, hB0⟩ := HW.out wr hB
    obtain ⟨c0, c1, c2, c3⟩ := hch.cells
    obtain ⟨x3, y3, e3⟩ := own_slice HO.out.1
    obtain ⟨x4, y4, e4⟩ := own_slice HO.out.2.1
    subst e3 e4
    by_cases hlt : k < n
    · have u1 : (k : Int) < (n : Int) := by omega
      have u2 : (0 : Int) ≤ (k : Int) := by omega
      obtain ⟨bb, off, rfl, cc, _⟩ := (HF.out.2.1.row.below hB0).row k hlt
      rw [nums_at _ _ _ hlt] at cc
      have hf := HF.out.1.below M.lo hB0
      have hzz : el m (zn (p k)) = (p k).val := congrArg Subtype.val (elm_zn (p k))
      have HI1 : Hid (k + 1 ≤ n) := hlt
      have HBk := Lib.hid hB
      by_cases h0 : p k = 0
      · have hnz : nz p (k + 1) = nz p k := by
          unfold nz
          rw [hits_succ, show (!decide (p k = 0)) = false by simp [h0]]
          exact List.append_nil _
        have HNZ := Lib.hid hnz
        have hl := log_zero M.lo M.hi (zn (p k)) wr hf (by rw [hzz, h0]; rfl) y (HF.out.2.2.1.below hB0).1
        generalize zn (p k) = z at cc hl
        clear hnz h0 hzz hf hlt hB hB0 hch
        go_wp2_with fail
        refine hl.mono ?_
        rintro e w5 ⟨rfl, d⟩
        have HN : Hid (Own64 w5 W.heap.size (.slice x3 q y3) q ((nz p k).map fun j => (lg m (p j).val : Int)) ∧ Own64 w5 W.heap.size (.slice x4 q y4) q (intsN (nz p k)) ∧ ∀ x, (Value.slice x3 q y3).ownBlock = some x → (Value.slice x4 q y4).ownBlock ≠ some x) := by
          obtain ⟨nd, rfl⟩ := d
          exact HO.out
        have hB5 := HBk.out.trans (d.below _)
        clear d hl cc c0 c1 c2 c3
        go_wp2_with fail
        go_roundg (n - (k + 1))
        case measure => have := HG.out; have := HI1.out; omega
        case rel => exact ⟨k + 1, q, rfl, HI1.out, by go_num, by rw [HNZ.out]; exact HQ, by omega, by rw [HNZ.out]; exact HN, hB5⟩
      · have hnz : nz p (k + 1) = nz p k ++ [k] := by
          unfold nz
          rw [hits_succ, show (!decide (p k = 0)) = true by simp [h0]]
          rfl
        have HNZ := Lib.hid hnz
        have hl := log_any M.lo M.hi (zn (p k)) wr hf (by rw [hzz]; exact fun e => h0 (El.ext e))
        rw [hzz] at hl
        have hm1 : ((nz p (k + 1)).map fun j => (lg m (p j).val : Int)) = ((nz p k).map fun j => (lg m (p j).val : Int)) ++ [(lg m (p k).val : Int)] := by rw [hnz, List.map_append]; rfl
        have hm2 : intsN (nz p (k + 1)) = intsN (nz p k) ++ [(k : Int)] := by rw [hnz]; simp [intsN]
        have HM := Lib.hid (And.intro hm1 hm2)
        obtain ⟨L1, hL1⟩ : ∃ L1, L1 = ((nz p k).map fun j => (lg m (p j).val : Int)) := ⟨_, rfl⟩
        obtain ⟨L2, hL2⟩ : ∃ L2, L2 = intsN (nz p k) := ⟨_, rfl⟩
        rw [← hL1, ← hL2] at HO HM
        generalize zn (p k) = z at cc hl
        generalize (lg m (p k).val : Int) = lz at hl HM
        have hbs := HBk.out.size
        have ho3 := HO.out.1
        have ho4 := HO.out.2.1
        have hap := HO.out.2.2
        have hb4 : ∀ x, (Value.slice x4 q y4).ownBlock = some x → x < wr.heap.size := fun x hx => (ho4.block x hx).2
        clear hnz h0 hzz hf hlt hB hB0 hch hm1 hm2 hL1 hL2 HO
        go_wp2_with fail
        refine hl.mono ?_
        rintro e w5 ⟨rfl, rfl⟩
        clear hl
        have hH := Lib.hid (And.intro hap hb4)
        clear hap hb4
        go_wp2_with (first
          | (at_builtin; refine wpList_append_lies _ rfl _ _ 33 rfl W.heap.size 3 i0 (.int .i64 0) 1 8 Tryz.underlying33 hi hz0 hz1 hz2 rfl (by decide) (.slice x3 q y3) q (cells64 L1) rfl (World.ownsRow.alloc ho3 _) ⟨wr.heap.size, 0, none⟩ 1 1 [.int .i64 lz] rfl rfl (cell_one_new _ _ _) (ints_oneCell .i64 [_]) (by decide) (by unfold maxLen; omega) (by omega) (by simp; omega) _ rfl ?_; intro g3 cap3 w5 hown3 hgrow3 hat3 hlt3; have ho4' : Own64 w5 W.heap.size (.slice x4 q y4) q L2 := (ho4.keep fun x hx => (hgrow3.block x (by have := hH.out.2 x hx; simp; omega) (fun e => hH.out.1 x e.symm hx)).trans (Below.heap_alloc wr _ x (hH.out.2 x hx))); have hs5 : W.heap.size ≤ w5.heap.size := Nat.le_trans hbs (Nat.le_trans (by simp) hgrow3.size))
          | (at_builtin; refine wpList_append_lies _ rfl _ _ 33 rfl W.heap.size 3 i0 (.int .i64 0) 1 8 Tryz.underlying33 hi hz0 hz1 hz2 rfl (by decide) (.slice x4 q y4) q (cells64 L2) rfl (World.ownsRow.alloc ho4' _) ⟨w5.heap.size, 0, none⟩ 1 1 [.int .i64 (k : Int)] rfl rfl (cell_one_new _ _ _) (ints_oneCell .i64 [_]) (by decide) (by unfold maxLen; omega) (by omega) (by simp; omega) _ rfl ?_; intro g4 cap4 w6 hown4 hgrow4 hat4 hlt4))
        have hne : (Value.slice x4 q y4).ownBlock ≠ some g3 := by
          rcases hat3 with h | h
          · exact hH.out.1 _ h
          · intro hx
            have := hH.out.2 _ hx
            rw [h] at this
            simp at this
            omega
        have hne4 : g3 ≠ g4 := by
          rintro rfl
          rcases hat4 with h | h
          · exact hne h
          · rw [h, World.size_alloc] at hlt3; omega
        have b5 : Below W.heap.size wr w5 := ((Below.refl W.heap.size wr).alloc hbs _).grown hgrow3 (Nat.le_trans hbs (by simp)) (fun x hx => (ho3.block x hx).1)
        have b6 : Below W.heap.size w5 w6 := ((Below.refl W.heap.size w5).alloc hs5 _).grown hgrow4 (Nat.le_trans hs5 (by simp)) (fun x hx => (ho4'.block x hx).1)
        have HN : Hid ((Own64 w6 W.heap.size (.slice (some ⟨g3, 0, none⟩) (q + 1) cap3) (q + 1) ((nz p (k + 1)).map fun j => (lg m (p j).val : Int)) ∧ Own64 w6 W.heap.size (.slice (some ⟨g4, 0, none⟩) (q + 1) cap4) (q + 1) (intsN (nz p (k + 1))) ∧ ∀ x, (Value.slice (some ⟨g3, 0, none⟩) (q + 1) cap3).ownBlock = some x → (Value.slice (some ⟨g4, 0, none⟩) (q + 1) cap4).ownBlock ≠ some x) ∧ Below W.heap.size W w6) := by
          refine ⟨⟨?_, ?_, ?_⟩, HBk.out.trans (b5.trans b6)⟩
          · rw [HM.out.1]
            have h3 : Own64 w5 W.heap.size (.slice (some ⟨g3, 0, none⟩) (q + 1) cap3) (q + 1) (L1 ++ [lz]) := by unfold Own64; rw [← cells64_append]; exact hown3
            refine h3.keep fun x hx => ?_
            simp only [Value.ownBlock, Option.some.injEq] at hx
            subst hx
            exact (hgrow4.block _ (by simp; omega) (fun e => hne e.symm)).trans (Below.heap_alloc w5 _ _ hlt3)
          · rw [HM.out.2]
            unfold Own64; rw [← cells64_append]; exact hown4
          · intro x h1 h2
            simp only [Value.ownBlock, Option.some.injEq] at h1 h2
            omega
        have HQ2 : Hid (q + 1 = (nz p (k + 1)).length) := by show _ = _; rw [HNZ.out, List.length_append, ← HQ.out]; rfl
        clear hne hne4 b5 b6 hown3 hown4 hgrow3 hgrow4 hat3 hat4 hlt3 hlt4 ho3 ho4 ho4' hH HM
        go_wp2_with fail
        go_roundg (n - (k + 1))
        case measure => have := HG.out; have := HI1.out; omega
        case rel => exact ⟨k + 1, q + 1, rfl, HI1.out, by go_num, HQ2, by omega, HN.out.1, HN.out.2⟩
    · obtain rfl : k = n := by omega
      obtain ⟨L, hL⟩ : ∃ L, L = nz p k := ⟨_, rfl⟩
      have HL := Lib.hid hL
      have hlg : ((nz p k).map fun j => (lg m (p j).val : Int)) = lgs p L 0 0 := by rw [hL, lgs_zero]
      rw [hlg, ← hL] at HO
      rw [← hL] at HQ
      have hfr : Fr B [] ol W wr := ⟨hB.os, hB.tape, hB.output, hB.size, fun x _ hx => hB.block x hx⟩
      have hO0 := HOO.out.1 _ _ _ _ H0.out hfr
      have hlt3 : ∀ x, (Value.slice x3 q y3).ownBlock = some x → W.heap.size ≤ x ∧ x < wr.heap.size := HO.out.1.block
      have hlt4 : ∀ x, (Value.slice x4 q y4).ownBlock = some x → W.heap.size ≤ x ∧ x < wr.heap.size := HO.out.2.1.block
      have hol := HOO.out.2.2 _ _ _ H0.out
      have H1 : Hid (∃ ol', O (List.range 0) ol' wr ∧ (∀ x ∈ ol', w0.heap.size ≤ x ∧ x ≠ cb) ∧ (∀ x, (Value.slice x3 q y3).ownBlock = some x → x ∉ ol') ∧ (∀ x, (Value.slice x4 q y4).ownBlock = some x → x ∉ ol') ∧ chB wr cb g s a k c nn ∧ Below w0.heap.size w0 wr ∧ Own64 wr W.heap.size (.slice x3 q y3) q (lgs p L 0 0) ∧ Own64 wr W.heap.size (.slice x4 q y4) q (intsN L)) := by
        refine ⟨ol, hO0, HC.out.2.2, fun x hx h => ?_, fun x hx h => ?_, hch, hB0, HO.out.1, HO.out.2.1⟩
        · have := (hlt3 x hx).1; have := hol x h; omega
        · have := (hlt4 x hx).1; have := hol x h; omega
      have HAP := Lib.hid HO.out.2.2
      obtain ⟨NN, hNN⟩ : ∃ NN, NN = nn.toNat := ⟨_, rfl⟩
      have HNN := Lib.hid hNN
      have hNN2 : NN ≤ 16383 := by omega
      have hqn : q ≤ 2048 := by omega
      have HHB := Lib.hid hB
      have hnnz : (nn ≤ 0 ∧ NN = 0) ∨ nn = (NN : Int) := by omega
      clear hL hlg hfr hO0 hlt3 hlt4 hol HO hB hch hB0 HG hlt hk hNN
      go_wp2_with fail
      clear c0 c1 c2 c3
      go_loopg [41] NN (fun gh s41 wx => ∃ i : Nat, gh = NN - i ∧ i ≤ NN ∧ s41 = .int .i64 (i : Int) ∧ Hid (∃ ol', O (List.range i) ol' wx ∧ (∀ x ∈ ol', w0.heap.size ≤ x ∧ x ≠ cb) ∧ (∀ x, (Value.slice x3 q y3).ownBlock = some x → x ∉ ol') ∧ (∀ x, (Value.slice x4 q y4).ownBlock = some x → x ∉ ol') ∧ chB wx cb g s a k c nn ∧ Below w0.heap.size w0 wx ∧ Own64 wx W.heap.size (.slice x3 q y3) q (lgs p L i 0) ∧ Own64 wx W.heap.size (.slice x4 q y4) q (intsN L)))
      case atStart => exact ⟨0, rfl, Nat.zero_le _, rfl, H1⟩
      case round =>
        clear H1
        obtain ⟨i, hg, hi2, rfl, HI⟩ := hrel
        have HG2 := Lib.hid hg
        clear hg
        obtain ⟨W5, hW5⟩ : ∃ W5, W5 = wr := ⟨_, rfl⟩
        rw [← hW5] at HI ⊢
        clear hW5
        by_cases hlt : i < NN
        · have v1 : (i : Int) < nn := by omega
          have hii : i + 1 ≤ NN := hlt
          clear hlt
          obtain ⟨ol', hOi, hol', hn3, hn4, hch, hB0, ho3, ho4⟩ := HI.out
          have c3 := hch.cells.2.2.2
          have HI0 : Hid (O (List.range i) ol' W5 ∧ chB W5 cb g s a k c nn ∧ Below w0.heap.size w0 W5 ∧ Own64 W5 W.heap.size (.slice x3 q y3) q (lgs p L i 0) ∧ Own64 W5 W.heap.size (.slice x4 q y4) q (intsN L)) := ⟨hOi, hch, hB0, ho3, ho4⟩
          have HN3 := Lib.hid (And.intro hol' (And.intro hn3 hn4))
          clear hOi hol' hn3 hn4 hch hB0 ho3 ho4 HI
          go_wp2_with fail
          clear c3
          go_loopg [10, 46] q (fun gh s10 s46 wx => ∃ j : Nat, gh = q - j ∧ j ≤ q ∧ s46 = .int .i64 (j : Int) ∧ s10 = .int .i64 (zn (tsum p (pt m i) (L.take j))) ∧ Hid (O (List.range i) ol' wx ∧ chB wx cb g s a k c nn ∧ Below w0.heap.size w0 wx ∧ Own64 wx W.heap.size (.slice x3 q y3) q (lgs p L i j) ∧ Own64 wx W.heap.size (.slice x4 q y4) q (intsN L)))
          case atStart => exact ⟨0, rfl, Nat.zero_le _, rfl, rfl, HI0⟩
          case round =>
            clear HI0
            obtain ⟨j, hg, hj, rfl, rfl, HJ⟩ := hrel
            have HG3 := Lib.hid hg
            clear hg
            by_cases hlt : j < q
            · have z1 : (j : Int) < (q : Int) := by omega
              have z2 : (0 : Int) ≤ (j : Int) := by omega
              obtain ⟨hOi, hch, hB0, ho3, ho4⟩ := HJ.out
              have hjl : j < L.length := by rw [← HQ.out]; exact hlt
              obtain ⟨g3, cap3, e3, hb3, hl3, hc3, hcell3⟩ := ho3.cells (by omega)
              simp only [Value.slice.injEq] at e3
              obtain ⟨rfl, _, rfl⟩ := e3
              obtain ⟨g4, cap4, e4, hb4, hl4, hc4, hcell4⟩ := ho4.cells (by omega)
              simp only [Value.slice.injEq] at e4
              obtain ⟨rfl, _, rfl⟩ := e4
              have cc3 := hcell3 j hlt
              have ff3 := own_free ho3 j
              have cc4 := hcell4 j hlt
              rw [intsN_at L j hjl] at cc4
              have elg : nth64 (lgs p L i j) j = lgt p i (L.getD j 0) := lgs_at p L i j j hjl (Nat.le_refl _)
              rw [elg] at cc3
              obtain ⟨d1, d1e⟩ : ∃ d1, d1 = hch.cells.2.1 := ⟨_, rfl⟩
              have k1 := hch.cells.2.1
              have hmem : L.getD j 0 ∈ nz p k := by
                rw [← HL.out, List.getD_eq_getElem?_getD, List.getElem?_eq_getElem hjl]
                exact List.getElem_mem hjl
              have hjk := (hits_mem.1 hmem).1
              have hpj : p (L.getD j 0) ≠ 0 := by
                have := (hits_mem.1 hmem).2
                simpa using this
              have hex := fexp_any M.lo M.hi (lgt p i (L.getD j 0)) wr (HF.out.1.below M.lo hB0)
              have hez : h (pwZ m (lgt p i (L.getD j 0))) = zn (p (L.getD j 0) * pwK (pt m i) (L.getD j 0)) := by
                rw [← lgt_exp hpj i]; rfl
              rw [hez] at hex
              have hx := zn_add (tsum p (pt m i) (L.take j)) (p (L.getD j 0) * pwK (pt m i) (L.getD j 0))
              have htk : L.take (j + 1) = L.take j ++ [L.getD j 0] := by
                rw [List.take_add_one, List.getElem?_eq_getElem hjl, List.getD_eq_getElem?_getD, List.getElem?_eq_getElem hjl]; rfl
              rw [← tsum_snoc, ← htk] at hx
              have hset := lgs_set p L i j
              obtain ⟨lv, hlv⟩ : ∃ lv, lv = lgt p i (L.getD j 0) := ⟨_, rfl⟩
              obtain ⟨jj, hjj⟩ : ∃ jj, jj = L.getD j 0 := ⟨_, rfl⟩
              have hij : i * jj ≤ 16383 * 2048 := Nat.mul_le_mul (by omega) (by rw [hjj]; omega)
              have hlgm : lg m (p jj).val < size m := (lg_spec m M.lo M.hi _ (p jj).2 (fun e => hpj (by rw [← hjj]; exact El.ext e))).1
              have hsz := size_hi m M.hi
              have hlv2 : lv = (lg m (p jj).val : Int) - ((i * jj : Nat) : Int) := by rw [hlv, ← hjj]; unfold lgt; rw [Int.natCast_mul]
              have b1 : -40000000 ≤ lv := by omega
              have b2 : lv ≤ 16383 := by omega
              have b3 : (jj : Int) ≤ 2048 := by rw [hjj]; omega
              have b4 : (0 : Int) ≤ (jj : Int) := by omega
              have HSt : Hid (O (List.range i) ol' (wr.setCell ⟨g3, j, none⟩ (.int .i64 (lv - (jj : Int)))) ∧ chB (wr.setCell ⟨g3, j, none⟩ (.int .i64 (lv - (jj : Int)))) cb g s a k c nn ∧ Below w0.heap.size w0 (wr.setCell ⟨g3, j, none⟩ (.int .i64 (lv - (jj : Int)))) ∧ Own64 (wr.setCell ⟨g3, j, none⟩ (.int .i64 (lv - (jj : Int)))) W.heap.size (.slice (some ⟨g3, 0, none⟩) q y3) q (lgs p L i (j + 1)) ∧ Own64 (wr.setCell ⟨g3, j, none⟩ (.int .i64 (lv - (jj : Int)))) W.heap.size (.slice (some ⟨g4, 0, none⟩) q y4) q (intsN L)) := by
                have hwW := HF.out.2.2.2.size
                refine ⟨HOO.out.1 _ _ _ _ hOi (Fr.setCell _ _ _ (fun h => absurd h (by show ¬ g3 < B; omega)) (HN3.out.2.1 g3 rfl)), (Below.heap_setCell _ _ _ _ (by show cb ≠ g3; omega)).trans hch, hB0.setCell (by show _ ≤ g3; omega) _, ?_, ?_⟩
                · rw [← hset, ← hlv, ← hjj]
                  exact own_store ho3 j hlt _
                · refine ho4.keep fun x hx' => Below.heap_setCell _ _ _ _ ?_
                  simp only [Value.ownBlock, Option.some.injEq] at hx'
                  subst hx'
                  intro h
                  exact HAP.out g3 rfl (by rw [show (Value.slice (some ⟨g4, 0, none⟩) q y4).ownBlock = some g4 from rfl, h])
              have HJ1 : Hid (j + 1 ≤ q) := hlt
              rw [← hlv] at cc3 hex
              rw [← hjj] at cc4
              have HT2 : Hid (zn (tsum p (pt m i) (L.take (j + 1))) = zn (tsum p (pt m i) (L.take (j + 1)))) := rfl
              generalize zn (p (L.getD j 0) * pwK (pt m i) (L.getD j 0)) = q1 at hex hx
              generalize zn (tsum p (pt m i) (L.take j)) = q2 at hx ⊢
              generalize hq3 : zn (tsum p (pt m i) (L.take (j + 1))) = q3 at hx
              have HQ3 := Lib.hid hq3
              clear d1e d1 hOi hch hB0 ho3 ho4 hcell3 hcell4 elg hmem hpj hez htk hset hlv hjj hij hlgm hsz hlv2 hq3 HT2 HJ hb3 hb4 hl3 hl4 hc3 hc4 hlt hjk hjl
              go_wp2_with fail
              refine hex.mono ?_
              rintro e w6 ⟨rfl, rfl⟩
              clear hex
              go_wp2_with fail
              go_roundg (q - (j + 1))
              case measure => have := HG3.out; have := HJ1.out; omega
              case rel => exact ⟨j + 1, rfl, HJ1.out, by go_num, by rw [HQ3.out], HSt⟩
            · obtain rfl : j = q := by omega
              obtain ⟨hOi, hch, hB0, ho3, ho4⟩ := HJ.out
              have hHQ := HQ.out
              have etk : L.take j = L := by rw [hHQ]; exact List.take_length
              have ev1 : tsum p (pt m i) (L.take j) = ev k p (pt m i) := by rw [etk, HL.out]; exact tsum_nz _ _ _
              rw [ev1]
              have elg : lgs p L i j = lgs p L (i + 1) 0 := by rw [hHQ]; exact lgs_all p L i
              rw [elg] at ho3
              obtain ⟨fn, tmps, assign, body, hy, hR⟩ := HYY.out (List.range i) i ol' wr hOi ⟨rfl, by omega⟩
              have HR := Lib.hid hR
              have HK := Lib.hid (And.intro hOi (And.intro hch (And.intro hB0 (And.intro ho3 ho4))))
              clear hOi hch hB0 ho3 ho4 hR ev1 etk elg hHQ HJ hlt
              go_upto_region 18 with (fail)
              refine (wpIn_wide (n := nf)).1 ?_
              gi_wp2
              refine ⟨fun e => by simp [Fence.wide] at e, (roundIn_wide HR.out).mono ?_⟩
              rintro e W6 ⟨ol2, ht, (⟨rfl, hO6⟩ | ⟨rfl, cx, hO6⟩)⟩
              · obtain ⟨hOi, hch, hB0, ho3, ho4⟩ := HK.out
                obtain ⟨hol, hn3, hn4⟩ := HN3.out
                have hsz := HF.out.2.2.2.size
                have hck : cb < wr.heap.size := lt_of_block hch
                have hw0 : w0.heap.size ≤ wr.heap.size := hB0.size
                have HZ : Hid (∃ ol', O (List.range (i + 1)) ol' W6 ∧ (∀ x ∈ ol', w0.heap.size ≤ x ∧ x ≠ cb) ∧ (∀ x, (Value.slice x3 j y3).ownBlock = some x → x ∉ ol') ∧ (∀ x, (Value.slice x4 j y4).ownBlock = some x → x ∉ ol') ∧ chB W6 cb g s a k c nn ∧ Below w0.heap.size w0 W6 ∧ Own64 W6 W.heap.size (.slice x3 j y3) j (lgs p L (i + 1) 0) ∧ Own64 W6 W.heap.size (.slice x4 j y4) j (intsN L)) := by
                  have hnew : ∀ x, x < wr.heap.size → x ∉ ol' → x ∉ ol2 := fun x hx hm hm2 => by
                    rcases ht.new x hm2 with h | h
                    · exact hm h
                    · omega
                  refine ⟨ol2, by rw [List.range_succ]; exact hO6, fun x hx => ?_, fun x hx => hnew x (ho3.block x hx).2 (hn3 x hx), fun x hx => hnew x (ho4.block x hx).2 (hn4 x hx), (ht.same cb hck (fun hm => (hol _ hm).2 rfl)).trans hch, ?_, ho3.keep fun x hx => ht.same x (ho3.block x hx).2 (hn3 x hx), ho4.keep fun x hx => ht.same x (ho4.block x hx).2 (hn4 x hx)⟩
                  · rcases ht.new x hx with h | h
                    · exact hol x h
                    · omega
                  · exact hB0.trans { os := ht.os, tape := ht.tape, output := ht.output, size := ht.size, block := fun x hx => ht.same x (by omega) fun hm => by have := (hol x hm).1; omega }
                clear hOi hch hB0 ho3 ho4 hol hn3 hn4 ht hO6 hsz hck hw0 hy HR HK
                gi_wp2
                go_wp2_with fail
                go_roundg (NN - (i + 1))
                case measure => have := HG2.out; omega
                case rel => exact ⟨i + 1, rfl, hii, by go_num, HZ⟩
              · have HX := Lib.hid hO6
                clear hy HR HK hO6
                gi_wp2
                go_wp2_with fail
                refine bodyPost_ret (results_none rfl _ _ _) rfl ?_
                exact ⟨⟨_, rfl⟩, .inr ⟨List.range (i + 1), cx, ol2, ⟨i + 1, by rw [← HNN.out]; exact hii, rfl⟩, by rw [List.range_succ]; exact HX.out⟩⟩
        · obtain rfl : i = NN := by omega
          have v1 : ¬ (i : Int) < nn := by omega
          obtain ⟨ol', hOi, hol', hn3, hn4, hch, hB0, ho3, ho4⟩ := HI.out
          have c3 := hch.cells.2.2.2
          have HX := Lib.hid hOi
          clear hOi hol' hn3 hn4 hch hB0 ho3 ho4 hlt
          go_wp2_with fail
          go_end0
          exact ⟨⟨_, rfl⟩, .inl ⟨ol', by rw [← HNN.out]; exact HX.out⟩⟩
end
end Go.Proofs.YthmfneepnkgmgaaGreatDoor.Sea
/- The places at which package search's ways find 0. By the verifier of shale. -/
namespace Go.Proofs.YthmfneepnkgmgaaGreatDoor.Sea
open Go Go.RowKit Pl Fld Bits16 Loc Go.Shelf
set_option linter.unusedVariables false
attribute [local go_sem] Oper.semAt_some
section
variable {m : Nat} [M : Mid m]
/-- what the loop's body holds: the places so far, in a box of its own. -/
def RtI (w0 : World) (p : Ser (El m)) (n lb B : Nat) (pre : List Nat) (bl : List Nat) (W : World) : Prop :=
  ∃ (x : Option Addr) (k y : Nat), bl = lb :: (Value.slice x k y).ownBlock.toList ∧ Box W lb (.slice x k y) 33 ∧ k = (pre.filter (zAt p n)).length ∧ Own64 W B (.slice x k y) k (intsN (pre.filter (zAt p n))) ∧ Below w0.heap.size w0 W ∧ w0.heap.size ≤ lb ∧ lb < B ∧ B ≤ W.heap.size
theorem RtI.fr {w0 : World} {p : Ser (El m)} {n lb B : Nat} {pre bl : List Nat} {X Y : World} (h : RtI w0 p n lb B pre bl X) (hB : w0.heap.size ≤ B) (f : Fr B [] bl X Y) : RtI w0 p n lb B pre bl Y := by
  obtain ⟨x, k, y, rfl, b, hk, o, hw, h1, h2, h3⟩ := h
  refine ⟨x, k, y, rfl, (f.same lb (.inr (List.mem_cons_self ..)) (lt_of_block b)).trans b, hk, o.keep fun z hz => f.same z (.inr (by simp [hz])) (o.block z hz).2, hw.trans { os := f.os, tape := f.tape, output := f.output, size := f.size, block := fun z hz => f.same z (.inl ⟨by omega, by simp⟩) (by have := hw.size; omega) }, h1, h2, Nat.le_trans h3 f.size⟩
theorem RtI.lt {w0 : World} {p : Ser (El m)} {n lb B : Nat} {pre bl : List Nat} {X : World} (h : RtI w0 p n lb B pre bl X) : ∀ k ∈ bl, k < X.heap.size := by
  obtain ⟨x, k, y, rfl, b, hk, o, hw, h1, h2, h3⟩ := h
  intro z hz
  rcases List.mem_cons.1 hz with rfl | hz
  · exact lt_of_block b
  · exact (o.block z (by simpa using hz)).2
theorem rt_skip {w0 : World} {p : Ser (El m)} {n lb B x : Nat} {pre bl : List Nat} {X : World} (h : RtI w0 p n lb B pre bl X) (hx : zAt p n x = false) : RtI w0 p n lb B (pre ++ [x]) bl X := by
  obtain ⟨a, k, y, rfl, b, hk, o, hw, h1, h2, h3⟩ := h
  have e : (pre ++ [x]).filter (zAt p n) = pre.filter (zAt p n) := by simp [hx]
  refine ⟨a, k, y, rfl, b, by rw [e]; exact hk, by rw [e]; exact o, hw, h1, h2, h3⟩
theorem filter_snoc {p : Ser (El m)} {n x : Nat} {pre : List Nat} (hx : zAt p n x = true) : (pre ++ [x]).filter (zAt p n) = pre.filter (zAt p n) ++ [x] := by simp [hx]
theorem rt_add {w0 : World} {p : Ser (El m)} {n lb B x k y : Nat} {a : Option Addr} {pre : List Nat} {W W5 : World} {v : Value} {ob : Obj} (hx : zAt p n x = true) (hb : Box W lb (.slice a k y) 33) (hk : k = (pre.filter (zAt p n)).length) (ho : Own64 W B (.slice a k y) k (intsN (pre.filter (zAt p n)))) (hw : Below w0.heap.size w0 W) (h1 : w0.heap.size ≤ lb) (h2 : lb < B) (hB : B ≤ W.heap.size)
    (hown : W5.ownsRow B 3 1 v (k + 1) (cells64 (intsN (pre.filter (zAt p n))) ++ [.int .i64 (x : Int)])) (hgrow : (W.alloc ob).grownBy W5 (Value.slice a k y).ownBlock) (hat : v.ownBlock = (Value.slice a k y).ownBlock ∨ v.ownBlock = some (W.alloc ob).heap.size) :
    Tn (lb :: (Value.slice a k y).ownBlock.toList) W (W5.setCell ⟨lb, 0, none⟩ v) (lb :: v.ownBlock.toList) ∧ RtI w0 p n lb B (pre ++ [x]) (lb :: v.ownBlock.toList) (W5.setCell ⟨lb, 0, none⟩ v) := by
  have hlW := lt_of_block hb
  have hbel : Below B W W5 := ((Below.refl B W).alloc hB _).grown hgrow (by rw [World.size_alloc]; omega) (fun x hx => (ho.block x hx).1)
  have hsame : ∀ z, z < W.heap.size → z ∉ (Value.slice a k y).ownBlock.toList → W5.heap[z]? = W.heap[z]? := fun z hz hn => (hgrow.block z (by rw [World.size_alloc]; omega) (fun e => hn (by simp [← e]))).trans (Below.heap_alloc W _ z hz)
  have hlb5 : Box W5 lb (.slice a k y) 33 := (hbel.block lb h2).trans hb
  have ho5 : Own64 W5 B v (k + 1) (intsN ((pre ++ [x]).filter (zAt p n))) := by
    rw [filter_snoc hx, show intsN (pre.filter (zAt p n) ++ [x]) = intsN (pre.filter (zAt p n)) ++ [(x : Int)] by simp [intsN]]
    unfold Own64; rw [← cells64_append]; exact hown
  obtain ⟨av, cv, rfl⟩ := own_slice ho5
  refine ⟨⟨hbel.os, hbel.tape, hbel.output, by show W.heap.size ≤ (World.setCell _ _ _).heap.size; simp [World.setCell]; exact hbel.size, fun z hz hn => ?_, fun z hz => ?_⟩, av, k + 1, cv, rfl, hlb5.put _, by rw [filter_snoc hx, List.length_append, ← hk]; rfl, ?_, (hw.trans (hbel.mono (by omega))).setCell h1 _, h1, h2, by simp [World.setCell]; have := hbel.size; omega⟩
  · rw [List.mem_cons, not_or] at hn
    exact (Below.heap_setCell _ _ _ _ hn.1).trans (hsame z hz hn.2)
  · rcases List.mem_cons.1 hz with rfl | hz
    · exact .inl (List.mem_cons_self ..)
    · rcases hat with h | h
      · exact .inl (List.mem_cons_of_mem _ (by rw [← h]; exact hz))
      · rw [h] at hz
        simp only [Option.toList_some, List.mem_singleton] at hz
        rw [World.size_alloc] at hz
        exact .inr (by omega)
  · exact ho5.keep fun z hz => Below.heap_setCell _ _ _ _ (by have := (ho5.block z hz).1; show z ≠ lb; omega)
theorem zAt_eq {p : Ser (El m)} {n x : Nat} {z : Int} (hz : z = zn (ev n p (pt m x))) : zAt p n x = (z == 0) := by rw [hz]; rfl
set_option maxRecDepth 100000 in
set_option maxHeartbeats 2000000 in
theorem roots_steps {K : Nat} {w : World} {s be ce bl g : Nat} {a : Option Addr} {n c : Nat} {p : Ser (El m)} {nn : Int} {y : Addr} (F : FldAt m w s be ce bl) (R : RingAt m w g s be ce bl) (P : NV m w K a n c p) (hn : n ≤ 2048) (hnn : nn ≤ 16383) (E : ErrAt w 5 y) :
    Calls Tryz.prog 99 #[chV g s a n c nn, .func (.func 100) #[] #[]] w fun e w' => ∃ v k pre, e = .returned v ∧ Own64 w' w.heap.size v k (intsN (pre.filter (zAt p n))) ∧ Below w.heap.size w w' ∧ (pre = List.range nn.toNat ∨ ∃ j, j ≤ nn.toNat ∧ pre = List.range j ∧ 0 < n ∧ (pre.filter (zAt p n)).length = n - 1) := by
  obtain ⟨i0, hi, hz0, hz1, hz2⟩ := info64
  refine (callsIn_wide (n := 3)).1 ?_
  refine callsIn_of_wp_marks Tryz.func99 rfl trivial ?_ rfl
  simp only [Tryz.ntmps99, List.size_toArray, List.length_cons, List.length_nil, Nat.reduceAdd, Nat.reduceSub, Array.replicate_succ, Array.replicate_zero, List.push_toArray, List.append_toArray, List.nil_append, List.cons_append]
  refine wpIn_wide.2 ?_
  go_wp2_with fail
  obtain ⟨w1, hw1⟩ : ∃ w1, w1 = ((w.alloc (.cells #[.pointer (some ⟨g, 0, none⟩), .pointer (some ⟨s, 0, none⟩), .slice a n c, .int .i64 nn] 138 (0, 0))).alloc (.cells #[.slice none 0 0] 33)) := ⟨_, rfl⟩
  rw [← hw1]
  have hs1 : w1.heap.size = w.heap.size + 2 := by rw [hw1]; simp
  have hb1 : Below w.heap.size w w1 := by rw [hw1]; exact ((Below.refl _ _).alloc (Nat.le_refl _) _).alloc (by simp) _
  have hc1 : chB w1 w.heap.size g s a n c nn := by rw [hw1]; exact (Below.heap_alloc _ _ _ (by simp)).trans (heap_alloc_new w _)
  have hl1 : Box w1 (w.heap.size + 1) (.slice none 0 0) 33 := by
    rw [hw1]
    have := heap_alloc_new (w.alloc (.cells #[.pointer (some ⟨g, 0, none⟩), .pointer (some ⟨s, 0, none⟩), .slice a n c, .int .i64 nn] 138 (0, 0))) (.cells #[.slice none 0 0] 33)
    rwa [World.size_alloc] at this
  clear hw1
  refine (steps_any g s a n c nn w1).mono ?_
  rintro e w2 ⟨rfl, hcb, hb2⟩
  have hl2 : Box w2 (w.heap.size + 1) (.slice none 0 0) 33 := (hb2.block _ (by omega)).trans hl1
  have hc2 : chB w2 w.heap.size g s a n c nn := (hb2.block _ (by omega)).trans hc1
  have hb := hb1.trans (hb2.mono hb1.size)
  have hlt2 : w1.heap.size < w2.heap.size := lt_of_block hcb
  have HF := Lib.hid (And.intro F (And.intro P (And.intro E R)))
  have H2 := Lib.hid (And.intro hl2 (And.intro hc2 (And.intro hb (And.intro hcb (And.intro hlt2 hs1)))))
  obtain ⟨cb, hcbe⟩ : ∃ cb, cb = w1.heap.size := ⟨_, rfl⟩
  have HCB := Lib.hid hcbe
  rw [← hcbe]
  clear hl1 hc1 hb1 hb2 hl2 hc2 hb hcb hlt2 hs1 F P E R hcbe
  go_wp2_with fail
  refine wpIn_wide.1 (range_sep (n := 3) (gf := 128) (lb := #[.pointer (some ⟨cb, 0, none⟩)]) rfl (enters_of Tryz.func128 (by kernel_rfl) rfl)
    (encs := encP p n) (fun _ => rfl) (V := (fun pre x => pre = List.range x ∧ x < nn.toNat)) [] (C := Finds w cb g s a n c nn)
    (fun pre bl W => RtI w p n (w.heap.size + 1) w2.heap.size pre bl W ∧ chB W w.heap.size g s a n c nn)
    (fun cde pre bl W => cde = .exit 0 ∧ (RtI w p n (w.heap.size + 1) w2.heap.size pre bl W ∧ chB W w.heap.size g s a n c nn) ∧ 0 < n ∧ (pre.filter (zAt p n)).length = n - 1)
    ?_ ?_ ?_ (bl0 := [w.heap.size + 1]) ?_ ?_
    (steps_iter 2 w2.heap.size HF.out.1 HF.out.2.1 hn hnn HF.out.2.2.1)
    (fun x => { tmps := #[chV g s a n c nn, .func (.func 100) #[] #[], .pointer (some ⟨w.heap.size, 0, none⟩), undef, .slice none 0 0, .pointer (some ⟨w.heap.size + 1, 0, none⟩), .int .i64 (x : Int), .int .i64 (zn (ev n p (pt m x))), .func (.func 100) #[] #[], chV g s a n c nn, .func (.func 128) #[] #[.pointer (some ⟨cb, 0, none⟩)], .int .i64 (x : Int), .int .i64 (zn (ev n p (pt m x))), undef, undef, undef, undef, undef, undef, undef, undef, undef, undef, undef, undef, undef, undef, undef, undef, undef, undef, undef, undef], defers := [] }) ?_ ?_ ?_ ?_)
  · rintro pre bl X Y ⟨h1, h2⟩ f
    have := H2.out.2.2.2.2
    exact ⟨h1.fr (by omega) f, (f.same _ (.inl ⟨by omega, by simp⟩) (lt_of_block h2)).trans h2⟩
  · rintro cde pre bl X Y ⟨h0, ⟨h1, h2⟩, h3⟩ f
    have := H2.out.2.2.2.2
    exact ⟨h0, ⟨h1.fr (by omega) f, (f.same _ (.inl ⟨by omega, by simp⟩) (lt_of_block h2)).trans h2⟩, h3⟩
  · rintro pre bl X ⟨h1, _⟩
    exact h1.lt
  · have := H2.out.2.2.2.2
    exact ⟨⟨none, 0, 0, rfl, H2.out.1, rfl, Own64.nil _ _, H2.out.2.2.1, by omega, by omega, Nat.le_refl _⟩, H2.out.2.1⟩
  · intro W hW
    have h2 := H2.out
    have hcbe := HCB.out
    refine ⟨h2.2.2.1.trans (hW.mono h2.2.2.1.size), (hW.block _ (by rw [hcbe]; exact h2.2.2.2.2.1)).trans (by rw [hcbe]; exact h2.2.2.2.1), by omega, fun k hk => ?_⟩
    simp only [List.mem_cons, List.not_mem_nil, or_false] at hk
    omega
  · intro l x W K hK
    gi_wp2
    exact hK
  · rintro l pre bl x W ⟨hi', hc⟩ hV
    have hlen : pre.length < nn.toNat := by rw [hV.1, List.length_range]; exact hV.2
    clear hV
    have hii := hi'
    obtain ⟨xa, k, y', rfl, hb, hk, ho, hw, h1, h2, hwB⟩ := hii
    have g1 := hb.cell
    have g2 := hb.free
    have g3 := hc.cells.2.2.1
    obtain ⟨z, hz⟩ : ∃ z, z = zn (ev n p (pt m x)) := ⟨_, rfl⟩
    have HZ := Lib.hid (zAt_eq hz)
    show Code.wpIn _ _ _ _ _ ({ tmps := #[chV g s a n c nn, .func (.func 100) #[] #[], .pointer (some ⟨w.heap.size, 0, none⟩), undef, .slice none 0 0, .pointer (some ⟨w.heap.size + 1, 0, none⟩), .int .i64 (x : Int), .int .i64 (zn (ev n p (pt m x))), .func (.func 100) #[] #[], chV g s a n c nn, .func (.func 128) #[] #[.pointer (some ⟨cb, 0, none⟩)], .int .i64 (x : Int), .int .i64 (zn (ev n p (pt m x))), undef, undef, undef, undef, undef, undef, undef, undef, undef, undef, undef, undef, undef, undef, undef, undef, undef, undef, undef, undef], defers := [] }) _
    rw [← hz]
    clear hz
    have hkl : k ≤ pre.length := by rw [hk]; exact List.length_filter_le _ _
    have hk16 : k ≤ 16383 := by omega
    have HI := Lib.hid (And.intro hi' (And.intro hc (And.intro hw (And.intro h1 (And.intro h2 (And.intro hb hk))))))
    have HL := Lib.hid hlen
    clear hi' hc hw h1 h2 hb hlen
    by_cases hzz : z = 0
    · have hzb : (z == 0) = true := by simp [hzz]
      have hx : Hid (zAt p n x = true) := by show _ = _; rw [HZ.out]; exact hzb
      have HK := Lib.hid hk
      clear hk
      by_cases hn0 : 0 < n
      · by_cases hs : (k : Int) + 1 = (n : Int) - 1
        · have hs2 : ((k : Int) + 1 == (n : Int) - 1) = true := by simp [hs]
          have HS := Lib.hid hs
          clear hs
          gi_wp2_with (first
            | (gi_at_builtin; refine wpListIn_append_own_at _ rfl _ _ 33 rfl w2.heap.size 3 i0 (.int .i64 0) 1 8 Tryz.underlying33 hi hz0 hz1 hz2 rfl (by decide) (.slice xa k y') k (cells64 (intsN (pre.filter (zAt p n)))) rfl (World.ownsRow.alloc ho _) ⟨W.heap.size, 0, none⟩ 1 1 [.int .i64 (x : Int)] rfl rfl (cell_one_new _ _ _) (ints_oneCell .i64 [_]) (by unfold maxLen; omega) (by omega) (by rw [World.size_alloc]; omega) ?_; intro v' w5 hown hgrow hnil hat; have hadd := rt_add hx.out HI.out.2.2.2.2.2.1 HI.out.2.2.2.2.2.2 ho HI.out.2.2.1 HI.out.2.2.2.1 HI.out.2.2.2.2.1 hwB hown hgrow hat; obtain ⟨av, cv, rfl⟩ := own_slice (show Own64 w5 w2.heap.size v' (k + 1) (intsN (pre.filter (zAt p n)) ++ [(x : Int)]) by unfold Own64; rw [← cells64_append]; exact hown); have HB5 : Hid (Below w2.heap.size W w5) := (((Below.refl w2.heap.size W).alloc hwB _).grown hgrow (by rw [World.size_alloc]; omega) (fun x hx => (ho.block x hx).1)); have b5 : Box w5 (w.heap.size + 1) (.slice xa k y') 33 := (HB5.out.block _ HI.out.2.2.2.2.1).trans HI.out.2.2.2.2.2.1; have g4 := b5.free; have g8 := b5.cell; have c6 : chB (w5.setCell ⟨w.heap.size + 1, 0, none⟩ (.slice av (k + 1) cv)) w.heap.size g s a n c nn := (Below.heap_setCell _ _ _ _ (by show w.heap.size ≠ w.heap.size + 1; omega)).trans ((HB5.out.block _ (by have := HI.out.2.2.2.2.1; omega)).trans HI.out.2.1); have g5 := (b5.put (.slice av (k + 1) cv)).cell; have g6 := c6.cells.2.2.1; have g7 := (chB.cells ((HB5.out.block _ (by have := HI.out.2.2.2.2.1; omega)).trans HI.out.2.1 : chB w5 w.heap.size g s a n c nn)).2.2.1; have HA := Lib.hid (And.intro hadd c6); clear g1 g2 g3 hadd c6 b5 hown hgrow hnil hat ho)
            | fail)
          exact ⟨_, HA.out.1.1, rfl, ⟨HA.out.1.2, HA.out.2⟩, hn0, by rw [filter_snoc hx.out, List.length_append, ← HK.out]; have := HS.out; show k + 1 = n - 1; omega⟩
        · have hs2 : ((k : Int) + 1 == (n : Int) - 1) = false := by simp [hs]
          have HS := Lib.hid hs
          clear hs
          gi_wp2_with (first
            | (gi_at_builtin; refine wpListIn_append_own_at _ rfl _ _ 33 rfl w2.heap.size 3 i0 (.int .i64 0) 1 8 Tryz.underlying33 hi hz0 hz1 hz2 rfl (by decide) (.slice xa k y') k (cells64 (intsN (pre.filter (zAt p n)))) rfl (World.ownsRow.alloc ho _) ⟨W.heap.size, 0, none⟩ 1 1 [.int .i64 (x : Int)] rfl rfl (cell_one_new _ _ _) (ints_oneCell .i64 [_]) (by unfold maxLen; omega) (by omega) (by rw [World.size_alloc]; omega) ?_; intro v' w5 hown hgrow hnil hat; have hadd := rt_add hx.out HI.out.2.2.2.2.2.1 HI.out.2.2.2.2.2.2 ho HI.out.2.2.1 HI.out.2.2.2.1 HI.out.2.2.2.2.1 hwB hown hgrow hat; obtain ⟨av, cv, rfl⟩ := own_slice (show Own64 w5 w2.heap.size v' (k + 1) (intsN (pre.filter (zAt p n)) ++ [(x : Int)]) by unfold Own64; rw [← cells64_append]; exact hown); have HB5 : Hid (Below w2.heap.size W w5) := (((Below.refl w2.heap.size W).alloc hwB _).grown hgrow (by rw [World.size_alloc]; omega) (fun x hx => (ho.block x hx).1)); have b5 : Box w5 (w.heap.size + 1) (.slice xa k y') 33 := (HB5.out.block _ HI.out.2.2.2.2.1).trans HI.out.2.2.2.2.2.1; have g4 := b5.free; have g8 := b5.cell; have c6 : chB (w5.setCell ⟨w.heap.size + 1, 0, none⟩ (.slice av (k + 1) cv)) w.heap.size g s a n c nn := (Below.heap_setCell _ _ _ _ (by show w.heap.size ≠ w.heap.size + 1; omega)).trans ((HB5.out.block _ (by have := HI.out.2.2.2.2.1; omega)).trans HI.out.2.1); have g5 := (b5.put (.slice av (k + 1) cv)).cell; have g6 := c6.cells.2.2.1; have g7 := (chB.cells ((HB5.out.block _ (by have := HI.out.2.2.2.2.1; omega)).trans HI.out.2.1 : chB w5 w.heap.size g s a n c nn)).2.2.1; have HA := Lib.hid (And.intro hadd c6); clear g1 g2 g3 hadd c6 b5 hown hgrow hnil hat ho)
            | fail)
          exact ⟨_, HA.out.1.1, HA.out.1.2, HA.out.2⟩
      · gi_wp2_with (first
          | (gi_at_builtin; refine wpListIn_append_own_at _ rfl _ _ 33 rfl w2.heap.size 3 i0 (.int .i64 0) 1 8 Tryz.underlying33 hi hz0 hz1 hz2 rfl (by decide) (.slice xa k y') k (cells64 (intsN (pre.filter (zAt p n)))) rfl (World.ownsRow.alloc ho _) ⟨W.heap.size, 0, none⟩ 1 1 [.int .i64 (x : Int)] rfl rfl (cell_one_new _ _ _) (ints_oneCell .i64 [_]) (by unfold maxLen; omega) (by omega) (by rw [World.size_alloc]; omega) ?_; intro v' w5 hown hgrow hnil hat; have hadd := rt_add hx.out HI.out.2.2.2.2.2.1 HI.out.2.2.2.2.2.2 ho HI.out.2.2.1 HI.out.2.2.2.1 HI.out.2.2.2.2.1 hwB hown hgrow hat; obtain ⟨av, cv, rfl⟩ := own_slice (show Own64 w5 w2.heap.size v' (k + 1) (intsN (pre.filter (zAt p n)) ++ [(x : Int)]) by unfold Own64; rw [← cells64_append]; exact hown); have HB5 : Hid (Below w2.heap.size W w5) := (((Below.refl w2.heap.size W).alloc hwB _).grown hgrow (by rw [World.size_alloc]; omega) (fun x hx => (ho.block x hx).1)); have b5 : Box w5 (w.heap.size + 1) (.slice xa k y') 33 := (HB5.out.block _ HI.out.2.2.2.2.1).trans HI.out.2.2.2.2.2.1; have g4 := b5.free; have g8 := b5.cell; have c6 : chB (w5.setCell ⟨w.heap.size + 1, 0, none⟩ (.slice av (k + 1) cv)) w.heap.size g s a n c nn := (Below.heap_setCell _ _ _ _ (by show w.heap.size ≠ w.heap.size + 1; omega)).trans ((HB5.out.block _ (by have := HI.out.2.2.2.2.1; omega)).trans HI.out.2.1); have g5 := (b5.put (.slice av (k + 1) cv)).cell; have g6 := c6.cells.2.2.1; have g7 := (chB.cells ((HB5.out.block _ (by have := HI.out.2.2.2.2.1; omega)).trans HI.out.2.1 : chB w5 w.heap.size g s a n c nn)).2.2.1; have HA := Lib.hid (And.intro hadd c6); clear g1 g2 g3 hadd c6 b5 hown hgrow hnil hat ho)
          | fail)
        exact ⟨_, HA.out.1.1, HA.out.1.2, HA.out.2⟩
    · have hzb : (z == 0) = false := by simp [hzz]
      have hx : Hid (zAt p n x = false) := by show _ = _; rw [HZ.out]; exact hzb
      have HK := Lib.hid hk
      clear hk
      by_cases hn0 : 0 < n
      · by_cases hs : (k : Int) = (n : Int) - 1
        · have hs2 : ((k : Int) == (n : Int) - 1) = true := by simp [hs]
          have HS := Lib.hid hs
          clear hs
          gi_wp2
          exact ⟨_, Tn.refl _ _, rfl, ⟨rt_skip HI.out.1 hx.out, HI.out.2.1⟩, hn0, by rw [show (pre ++ [x]).filter (zAt p n) = pre.filter (zAt p n) by simp [hx.out], ← HK.out]; have := HS.out; omega⟩
        · have hs2 : ((k : Int) == (n : Int) - 1) = false := by simp [hs]
          have HS := Lib.hid hs
          clear hs
          gi_wp2
          exact ⟨_, Tn.refl _ _, rt_skip HI.out.1 hx.out, HI.out.2.1⟩
      · gi_wp2
        exact ⟨_, Tn.refl _ _, rt_skip HI.out.1 hx.out, HI.out.2.1⟩
  · intro D xs bl W hD hDl hDb hS hi' hdef
    obtain ⟨⟨xa, k, y', rfl, hb, hk, ho, hw, h1, h2, hwB⟩, hc⟩ := hi'
    have g1 := hb.cell
    have HX := Lib.hid (And.intro hk (And.intro ho (And.intro hw (And.intro hc (And.intro hS (And.intro hD hDb))))))
    clear hk ho hw hc hS hD hDb
    go_wp2
    obtain ⟨hk, ho, hw, hc, hS, hD, hDb⟩ := HX.out
    refine ⟨by simp, .inl ⟨_, _, rfl, run_takeDeferred hdef, ?_⟩⟩
    exact ⟨_, results_tmp rfl _ _ _, _, k, xs, rfl, own_from ((ho.keep fun z hz => World.putObj_heap_other (fun e => hDb (by rw [← e]; simp [hz])))) (by omega), hw.trans ⟨rfl, rfl, rfl, by simp, fun z hz => World.putObj_heap_other (by have := hw.size; omega)⟩, .inl hS⟩
  · intro D cde pre bl W hD hDl hDb hS hix hdef
    obtain ⟨rfl, ⟨⟨xa, k, y', rfl, hb, hk, ho, hw, h1, h2, hwB⟩, hc⟩, hn0, hlen⟩ := hix
    have g1 := hb.cell
    have HX := Lib.hid (And.intro hk (And.intro ho (And.intro hw (And.intro hc (And.intro hS (And.intro hD hDb))))))
    clear hk ho hw hc hS hD hDb
    gi_wp2
    go_wp2_with fail
    obtain ⟨hk, ho, hw, hc, hS, hD, hDb⟩ := HX.out
    refine ⟨by simp, .inl ⟨_, _, rfl, run_takeDeferred hdef, ?_⟩⟩
    exact ⟨_, results_tmp rfl _ _ _, _, k, pre, rfl, own_from ((ho.keep fun z hz => World.putObj_heap_other (fun e => hDb (by rw [← e]; simp [hz])))) (by omega), hw.trans ⟨rfl, rfl, rfl, by simp, fun z hz => World.putObj_heap_other (by have := hw.size; omega)⟩, .inr ⟨_, hS.choose_spec.1, hS.choose_spec.2, hn0, hlen⟩⟩
end
end Go.Proofs.YthmfneepnkgmgaaGreatDoor.Sea
/- The walk over package search's places, each by an evaluation. By the verifier of shale. -/
namespace Go.Proofs.YthmfneepnkgmgaaGreatDoor.Sea
open Go Go.RowKit Pl Fld Bits16 Loc
set_option linter.unusedVariables false
section
variable {m : Nat} [M : Mid m]
end
end Go.Proofs.YthmfneepnkgmgaaGreatDoor.Sea
/- The places at which package search's Plain finds 0. By the verifier of shale. -/
namespace Go.Proofs.YthmfneepnkgmgaaGreatDoor.Sea
open Go Go.RowKit Pl Fld Bits16 Loc Go.Shelf
set_option linter.unusedVariables false
attribute [local go_sem] Oper.semAt_some
section
variable {m : Nat} [M : Mid m]
end
end Go.Proofs.YthmfneepnkgmgaaGreatDoor.Sea
/- The contracts of package search: of, Search, Plain, Steps. By the verifier of shale. -/
namespace Go.Proofs.YthmfneepnkgmgaaGreatDoor.Sea
open Go Go.RowKit Pl Fld Bits16 Loc
set_option linter.unusedVariables false
section
variable {m : Nat} [M : Mid m]
theorem trimB {g s be ce bl : Nat} {w : World} {k : Nat} {a : Option Addr} {n c : Nat} {p : Ser (El m)} (R : RingAt m w g s be ce bl) (h1 : PV m w k a n c p) (hK2 : k ≤ 2048) :
    Calls Tryz.prog 124 #[.pointer (some ⟨g, 0, none⟩), .slice a n c] w fun e w' => ∃ t, e = .returned (.slice (some ⟨w.heap.size, 0, none⟩) t t) ∧ Blk64 w' w.heap.size (nums p t) ∧ (∀ X, Blk64 X w.heap.size (nums p t) → NV m X k (some ⟨w.heap.size, 0, none⟩) t t p) ∧ Below w.heap.size w w' := by
  have hb := h1.bd
  have hn := h1.bdn
  have ht := top_of h1
  have hle := top_le p k
  obtain ⟨l1, r1, rfl, n1⟩ := h1
  refine (trim_any a n c l1 w R r1 (by omega)).mono ?_
  rintro e w1 ⟨rfl, hB, b⟩
  refine ⟨_, rfl, hB, fun X hX => ⟨?_, top_bd hn, top_full hn rfl, by rw [ht]; exact hle⟩, b⟩
  have hr := Blk64.row hX _ (by rw [nums_length]; exact Nat.le_refl _) (by rw [nums_length]; omega)
  rw [nums_take _ (Nat.le_refl _), nums_length] at hr
  exact hr
set_option maxRecDepth 100000 in
set_option maxHeartbeats 1000000 in
theorem seaOf_any {s be ce bl : Nat} {K : Nat} {a : Option Addr} {n c : Nat} {p : Ser (El m)} (nn : Int) (w : World) (F : FldAt m w s be ce bl) (P : PV m w K a n c p) (hK : K ≤ 2048) :
    Calls Tryz.prog 98 #[.pointer (some ⟨s, 0, none⟩), .slice a n c, .int .i64 nn] w fun e w' => ∃ g a' n' c', e = .returned (chV g s a' n' c' (min nn (size m : Int))) ∧ RingAt m w' g s be ce bl ∧ NV m w' K a' n' c' p ∧ Below w.heap.size w w' := by
  have hn : n ≤ K := by obtain ⟨_, _, _, h3⟩ := P; exact h3
  have x3 : n ≤ c := by obtain ⟨_, r, _⟩ := P; exact r.hcap
  have hz := size_hi m M.hi
  have he := els_eq m
  have x1 : ¬ 2048 < n := by omega
  have x2 : (els m : Int) - 1 = (size m : Int) := by omega
  have HM : Hid (min nn (size m : Int) = if (size m : Int) < nn then (size m : Int) else nn) := by show _ = _; split <;> omega
  have HF := Lib.hid (And.intro F P)
  clear F P he
  go_enter Tryz.func98, Tryz.ntmps98
  go_wp2_with fail
  obtain ⟨w1, hw1⟩ : ∃ w1, w1 = w.alloc (.cells #[.pointer none, .pointer none, .slice none 0 0, .int .i64 0] 138 (0, 0)) := ⟨_, rfl⟩
  have b1 : Below w.heap.size w w1 := by rw [hw1]; exact (Below.refl _ _).alloc (Nat.le_refl _) _
  have h1 : w1.heap[w.heap.size]? = some (.cells #[.pointer none, .pointer none, .slice none 0 0, .int .i64 0] 138 (0, 0)) := by rw [hw1]; exact heap_alloc_new w _
  rw [← hw1]
  clear hw1
  refine (pnew_any w1 (HF.out.1.below M.lo b1)).mono ?_
  rintro e w2 ⟨g, rfl, R, b2⟩
  have h2 : w2.heap[w.heap.size]? = some (.cells #[.pointer none, .pointer none, .slice none 0 0, .int .i64 0] 138 (0, 0)) := (b2.block _ (lt_of_block h1)).trans h1
  have B2 := b1.trans (b2.mono b1.size)
  have HR := Lib.hid (And.intro R (And.intro B2 h2))
  clear R b1 b2 B2 h1 h2
  go_wp2_with fail
  refine (trimB HR.out.1 (HF.out.2.below HR.out.2.1) hK).mono ?_
  rintro e w3 ⟨t3, rfl, K3, N3, b3⟩
  have B3 := HR.out.2.1.trans (b3.mono HR.out.2.1.size)
  have h3 := (b3.block _ (lt_of_block HR.out.2.2)).trans HR.out.2.2
  have R3 := HR.out.1.below b3
  obtain ⟨kk, hkk⟩ : ∃ kk, kk = w2.heap.size := ⟨_, rfl⟩
  have hne : w.heap.size ≠ kk := by have := lt_of_block HR.out.2.2; omega
  rw [← hkk] at K3 N3 ⊢
  have H3 := Lib.hid (And.intro N3 (And.intro R3 (And.intro B3 (And.intro K3 hne))))
  have H4 := Lib.hid h3
  clear N3 R3 b3 B3 h3 K3 hkk hne
  have hmin := HM.out.symm
  go_wp2_with fail
  refine (size_any w3 H3.out.2.1.2).mono ?_
  rintro e w4 ⟨rfl, rfl⟩
  have h4 := H4.out
  have hc0 : w3.cell? ⟨w.heap.size, 0, none⟩ = some (.pointer none) := by unfold World.cell?; simp only; rw [h4]; rfl
  have hc1 : w3.cell? ⟨w.heap.size, 1, none⟩ = some (.pointer none) := by unfold World.cell?; simp only; rw [h4]; rfl
  have hc2 : w3.cell? ⟨w.heap.size, 2, none⟩ = some (.slice none 0 0) := by unfold World.cell?; simp only; rw [h4]; rfl
  have hc3 : w3.cell? ⟨w.heap.size, 3, none⟩ = some (.int .i64 0) := by unfold World.cell?; simp only; rw [h4]; rfl
  have hf0 : ∀ i, w3.frozen? ⟨w.heap.size, i, none⟩ = false := fun i => by unfold World.frozen?; simp only; rw [h4]; rfl
  have f0 := hf0 0
  have f1 := hf0 1
  have f2 := hf0 2
  have f3 := hf0 3
  clear h4 hf0
  go_wp2_with fail
  obtain ⟨w5, hw5⟩ : ∃ w5, w5 = ((((w3.setCell ⟨w.heap.size, 0, none⟩ (.pointer (some ⟨g, 0, none⟩))).setCell ⟨w.heap.size, 1, none⟩ (.pointer (some ⟨s, 0, none⟩))).setCell ⟨w.heap.size, 2, none⟩ (.slice (some ⟨kk, 0, none⟩) t3 t3)).setCell ⟨w.heap.size, 3, none⟩ (.int .i64 (min nn (size m : Int)))) := ⟨_, rfl⟩
  rw [← hw5]
  have h5 : chB w5 w.heap.size g s (some ⟨kk, 0, none⟩) t3 t3 (min nn (size m : Int)) := by
    rw [hw5]
    exact heap_setCell_same _ _ 3 _ _ _ (heap_setCell_same _ _ 2 _ _ _ (heap_setCell_same _ _ 1 _ _ _ (heap_setCell_same _ _ 0 _ _ _ H4.out)))
  have o5 : ∀ z, z ≠ w.heap.size → w5.heap[z]? = w3.heap[z]? := fun z hz => by
    rw [hw5]
    exact (((Below.heap_setCell _ _ _ _ hz).trans (Below.heap_setCell _ _ _ _ hz)).trans (Below.heap_setCell _ _ _ _ hz)).trans (Below.heap_setCell _ _ _ _ hz)
  have B5 : Below w.heap.size w w5 := by
    rw [hw5]
    exact (((H3.out.2.2.1.setCell (Nat.le_refl _) _).setCell (Nat.le_refl _) _).setCell (Nat.le_refl _) _).setCell (Nat.le_refl _) _
  obtain ⟨k0, k1, k2, k3⟩ := h5.cells
  have hg : g ≠ w.heap.size := fun e => by
    have h := H3.out.2.1.1
    rw [e, H4.out] at h
    cases h
  have R5 : RingAt m w5 g s be ce bl := ⟨(o5 g hg).trans H3.out.2.1.1, HF.out.1.below M.lo B5⟩
  have N5 := H3.out.1 w5 ((o5 kk H3.out.2.2.2.2.symm).trans H3.out.2.2.2.1)
  exact bodyPost_ret (v := chV g s (some ⟨kk, 0, none⟩) t3 t3 (min nn (size m : Int))) (by simp [results, Tryz.results98, go_sem, k0, k1, k2, k3]) rfl ⟨g, _, _, _, rfl, R5, N5, B5⟩
end
end Go.Proofs.YthmfneepnkgmgaaGreatDoor.Sea
/- The contracts of package search's Search, Plain, Steps. By the verifier of shale. -/
namespace Go.Proofs.YthmfneepnkgmgaaGreatDoor.Sea
open Go Go.RowKit Pl Fld Bits16 Loc
set_option linter.unusedVariables false
section
variable {m : Nat} [M : Mid m]
/-- how many places are gone through. -/
def lim (m : Nat) (nn : Int) : Nat := (min nn (size m : Int)).toNat
theorem lim_le (m : Nat) (nn : Int) : lim m nn ≤ size m := by unfold lim; omega
theorem zAt_more {p : Ser (El m)} {n k : Nat} (h : Bd p n) (hk : n ≤ k) : zAt p k = zAt p n := funext fun i => by
  unfold zAt; rw [ev_more _ n k p h hk]
/-- what a way finds is all that there is. -/
theorem found {w : World} {K : Nat} {a : Option Addr} {n c : Nat} {p : Ser (El m)} (P : NV m w K a n c p) {nn : Int} {pre : List Nat} (h : pre = List.range (min nn (size m : Int)).toNat ∨ ∃ j, j ≤ (min nn (size m : Int)).toNat ∧ pre = List.range j ∧ 0 < n ∧ (pre.filter (zAt p n)).length = n - 1) : pre.filter (zAt p n) = hits (zAt p K) (lim m nn) := by
  rw [zAt_more P.bd P.le]
  rcases h with rfl | ⟨j, hj, rfl, h0, hl⟩
  · rfl
  · obtain ⟨N, rfl⟩ : ∃ N, n = N + 1 := ⟨n - 1, by omega⟩
    have hd : Dg p N := dg_top P.bd (by rw [P.top])
    exact (hits_stop (f := zAt p (N + 1)) (d := N) (k := j) (n := lim m nn) hj hl (hits_few hd (lim_le m nn))).symm
set_option maxRecDepth 100000 in
set_option maxHeartbeats 1000000 in
theorem search_any {s be ce bl : Nat} {K : Nat} {a : Option Addr} {n c : Nat} {p : Ser (El m)} {y : Addr} (nn : Int) (w : World) (F : FldAt m w s be ce bl) (P : PV m w K a n c p) (hK : K ≤ 2048) (E : ErrAt w 5 y) :
    Calls Tryz.prog 65 #[.pointer (some ⟨s, 0, none⟩), .slice a n c, .int .i64 nn] w fun e w' => ∃ v k, e = .returned v ∧ Own64 w' w.heap.size v k (intsN (hits (zAt p K) (lim m nn))) ∧ Below w.heap.size w w' := by
  have hz := size_hi m M.hi
  have HF := Lib.hid (And.intro F (And.intro P E))
  clear F P E
  go_enter Tryz.func65, Tryz.ntmps65
  go_wp2_with fail
  refine (seaOf_any nn w HF.out.1 HF.out.2.1 hK).mono ?_
  rintro e w1 ⟨g, a', n', c', rfl, R, N, b1⟩
  have hn := N.le
  have HR := Lib.hid (And.intro R (And.intro N b1))
  clear R N b1
  go_wp2_with fail
  refine (roots_steps (HF.out.1.below M.lo HR.out.2.2) HR.out.1 HR.out.2.1 (by omega) (by omega) (HF.out.2.2.below HR.out.2.2)).mono ?_
  rintro e w2 ⟨v, k, pre, rfl, o, b2, hp⟩
  have HO : Hid (Own64 w2 w.heap.size v k (intsN (hits (zAt p K) (lim m nn))) ∧ Below w.heap.size w w2) := by
    refine ⟨?_, HR.out.2.2.trans (b2.mono HR.out.2.2.size)⟩
    rw [found HR.out.2.1 hp] at o
    exact own_from o HR.out.2.2.size
  clear o b2 hp
  go_wp2_with fail
  go_ret
  exact ⟨v, k, rfl, HO.out.1, HO.out.2⟩
end
end Go.Proofs.YthmfneepnkgmgaaGreatDoor.Sea
/- The field of a statement of chapter 9, its examples. By the verifier of shale. -/
namespace Go.Proofs.YthmfneepnkgmgaaGreatDoor.Sea
open Go Go.RowKit Pl Fld Bits16 Loc
set_option linter.unusedVariables false
/-- the m that a statement makes of any number. -/
def mk9 (z : Int) : Nat := (z % 6).toNat + 3
instance (z : Int) : Mid (mk9 z) := ⟨by unfold mk9; omega, by unfold mk9; omega⟩
theorem mk9_hi (z : Int) : mk9 z ≤ 8 := by unfold mk9; omega
theorem mk9_go (z : Int) : z.tmod 6 % 6 + 3 = (mk9 z : Int) := by
  unfold mk9
  have : z.tmod 6 % 6 = z % 6 := by rw [Int.tmod_eq_emod]; split <;> omega
  omega
def MadeAt (m : Nat) (w : World) (e : Ending) (w' : World) : Prop := ∃ s be ce bl, e = .returned (.tuple #[.pointer (some ⟨s, 0, none⟩), .int .i64 (m : Int)]) ∧ FldAt m w' s be ce bl ∧ Below w.heap.size w w'
section
variable {m : Nat} [M : Mid m]
/-- Search, its answer a list handed on. -/
theorem searchZ {s be ce bl : Nat} {K : Nat} {a : Option Addr} {n c : Nat} {p : Ser (El m)} {y : Addr} (nn : Int) (w : World) (F : FldAt m w s be ce bl) (P : PV m w K a n c p) (hK : K ≤ 2048) (E : ErrAt w 5 y) :
    Calls Tryz.prog 65 #[.pointer (some ⟨s, 0, none⟩), .slice a n c, .int .i64 nn] w fun e w' => ∃ a' c', e = .returned (.slice a' (hits (zAt p K) (lim m nn)).length c') ∧ RowZ w' a' (hits (zAt p K) (lim m nn)).length c' (intsN (hits (zAt p K) (lim m nn))) ∧ Below w.heap.size w w' := by
  refine (search_any nn w F P hK E).mono ?_
  rintro e w1 ⟨v, k, rfl, o, b⟩
  obtain ⟨av, cv, rfl⟩ := own_slice o
  obtain rfl : k = (hits (zAt p K) (lim m nn)).length := by have := o.len; rw [← this]; simp [intsN]
  exact ⟨av, cv, rfl, (own_rowz o).1, b⟩
theorem sameOk {a1 : Option Addr} {n1 c1 : Nat} {l : List Int} {a2 : Option Addr} {n2 c2 : Nat} {k : List Int} {w : World} (h1 : RowZ w a1 n1 c1 l) (h2 : RowZ w a2 n2 c2 k) (e : l = k) :
    Calls Tryz.prog 18 #[.slice a1 n1 c1, .slice a2 n2 c2] w fun e w' => e = .returned (.bool true) ∧ Drawn w w' := by
  have := sameZ_any a1 n1 c1 l a2 n2 c2 k w h1 h2
  rwa [show decide (l = k) = true by simp [e]] at this
end
theorem ex_a : hits (zAt (sr 4 [1, 3, 2]) 3) (lim 4 15) = [0, 1] := by decide +kernel
theorem ex_b : hits (zAt (sr 4 [1, 1]) 2) (lim 4 15) = [0] := by decide +kernel
theorem ex_c : hits (zAt (sr 4 [1]) 1) (lim 4 15) = [] := by decide +kernel
theorem ex_d : hits (zAt (sr 4 [1, 3, 2]) 3) (lim 4 1) = [0] := by decide +kernel
end Go.Proofs.YthmfneepnkgmgaaGreatDoor.Sea
