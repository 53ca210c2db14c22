/- Texts of the verifier of shale, laid into one: RefBits, RefAdd, RefShift, RefMul, RefDiv, RefGcd, RefXp, RefMin, RefMin2, MinFirst, RefGen, RefEnc, RefSer, EncFit, SynMath, DecMath, SynSum, SynOps, SynOf, EncMade2, SynMade, EncFirst, EncLaw, EncTurn, SynFirst, DecSteps, DecSteps2, DecSteps3, EncFlip2, DecTurn, DecTidy, Decode, DecNewD, PgWithin, PgNew, DecLaw, DecRight, DecTell, DecNear, RefClear, PgMath. -/
import Derived.Test.YtdhcigiaidlmbaaGreatDoorGreat1
import Derived.Test.YtdhcigiaidlmbaaGreatDoorGreat2
import Derived.Test.YtdhcigiaidlmbaaGreatDoorGreat3
import Derived.Test.YtdhcigiaidlmbaaGreatDoorGreat4
import Derived.Test.YtdhcigiaidlmbaaGreatDoorGreat5
import Derived.Test.YtdhcigiaidlmbaaGreatDoorGreat6
import Derived.RangeFuncBox
import Derived.StillTailTactics
import Derived.Lib.QuietBelow
import Derived.Laws.CopyOwn
import Derived.Deep.RegionWith
import Derived.Deep.Cut
import Derived.Deep.RegionLaw
import Derived.LoopN
/- shaleref2.bits: a polynomial of a list of noughts and ones. By the verifier of shale. -/
namespace Go.Proofs.YtdhcigiaidlmbaaGreatDoor.Bin
open Go Go.RowKit
set_option linter.unusedVariables false
theorem Own8.slice {w : World} {base m : Nat} {v : Value} {l : List (BitVec 8)} (h : Own8 w base v (m + 1) l) : ∃ g cap, v = .slice (some ⟨g, 0, none⟩) (m + 1) cap := ownsRow_succ h
theorem Own8.cellA {w : World} {base g n cap : Nat} {l : List (BitVec 8)} (h : Own8 w base (.slice (some ⟨g, 0, none⟩) n cap) n l) (j : Nat) (hj : j < n) : w.cell? ⟨g, j, none⟩ = some (.int .u8 (Bits32.b (nth8 l j))) := by
  have hl := h.len
  have := World.ownsRow.cellAt h j (by omega)
  rw [this]
  unfold cells8 nth8
  simp [show j < l.length by omega]
theorem Own8.freeA {w : World} {base g n cap : Nat} {l : List (BitVec 8)} (h : Own8 w base (.slice (some ⟨g, 0, none⟩) n cap) n l) (j : Nat) : w.frozen? ⟨g, j, none⟩ = false := World.ownsRow.frozenAt h j
theorem own_len {X : List (BitVec 8)} {i V : Nat} (hb : Bare X) (hv : val X = V % 2 ^ i) : X.length ≤ (i + 7) / 8 :=
  bare_len hb (by rw [hv]; exact Nat.lt_of_lt_of_le (Nat.mod_lt _ (Nat.two_pow_pos i)) (Nat.pow_le_pow_right (by decide) (by omega)))
set_option maxRecDepth 100000 in
set_option maxHeartbeats 4000000 in
theorem bits_own (g n cap V : Nat) (w : World) (h : Blk64 w g (bitL V n)) (hn : n ≤ 100000) :
    Calls Tryz.prog 136 #[.slice (some ⟨g, 0, none⟩) n cap] w fun e w' => ∃ v m X, e = .returned v ∧ Own8 w' w.heap.size v m X ∧ Bare X ∧ val X = V % 2 ^ n ∧ Below w.heap.size w w' := by
  obtain ⟨i0, hi, hz0, hz1, hz2⟩ := info8
  have HK := Lib.hid h
  have hgl := h.lt
  have HO0 : Hid (Own8 w w.heap.size (.slice none 0 0) 0 []) := Own8.nil w w.heap.size
  clear h
  go_enter Tryz.func136, Tryz.ntmps136
  go_wp2_with fail
  go_loopg [3, 4] n (fun gh s3 s4 wx => ∃ (i m : Nat) (X : List (BitVec 8)), gh = n - i ∧ i ≤ n ∧ s4 = .int .i64 (i : Int) ∧ Own8 wx w.heap.size s3 m X ∧ Hid (Bare X ∧ val X = V % 2 ^ i) ∧ Below w.heap.size w wx)
  case atStart => exact ⟨0, 0, [], rfl, by omega, rfl, HO0.out, ⟨bare_nil, by rw [Nat.pow_zero, Nat.mod_one]; rfl⟩, Below.refl _ _⟩
  case round =>
    clear HO0
    obtain ⟨i, m, X, hg, hin, rfl, hown, HX, hB⟩ := hrel
    have HG := Lib.hid hg
    clear hg
    have hbs := hB.size
    by_cases hlt : i < n
    · have x1 : (i : Int) < (n : Int) := by omega
      have x0 : (0 : Int) ≤ (i : Int) := by omega
      have c1 := (hB.cell (p := ⟨g, i, none⟩) hgl).trans (HK.out.cell (i := i) (by rw [bitL_length]; exact hlt))
      rw [nth_bitL V n i hlt] at c1
      have hmod := mod_succ V i
      rcases Bool.eq_false_or_eq_true (V.testBit i) with hb | hb
      · rw [hb] at c1 hmod
        have c1 : wr.cell? ⟨g, i, none⟩ = some (.int .i64 1) := c1
        have HM : Hid (V % 2 ^ (i + 1) = V % 2 ^ i ^^^ 2 ^ i) := hmod
        have hm0 : m ≤ i / 8 + 1 := by have := own_len HX.out.1 HX.out.2; have := hown.len; omega
        have HV : Hid (val X = V % 2 ^ i) := HX.out.2
        clear hmod hb HX
        go_wp2_with fail
        go_loopg [3] (i / 8 + 1 - m) (fun gh s3 wx => ∃ (m' : Nat) (X' : List (BitVec 8)), gh = i / 8 + 1 - m' ∧ m' ≤ i / 8 + 1 ∧ Own8 wx w.heap.size s3 m' X' ∧ Hid (val X' = V % 2 ^ i) ∧ Below w.heap.size w wx)
        case atStart => exact ⟨m, X, rfl, hm0, hown, HV.out, hB⟩
        case round =>
          clear hown HV hB c1 hm0 hbs
          obtain ⟨m', X', hg', hm', hown, HV, hB⟩ := hrel
          have HG' := Lib.hid hg'
          clear hg'
          have hbs := hB.size
          by_cases hle : m' ≤ i / 8
          · have t : decide ((m' : Int) ≤ (i : Int) / 8) = true := decide_eq_true (by omega)
            obtain ⟨a', cap', hs', hN'⟩ := own_newP (w := w) hown
            subst hs'
            have HV2 : Hid (val (X' ++ [0]) = V % 2 ^ i) := by show _ = _; rw [val_zero_end]; exact HV.out
            clear HV hN'
            go_wp2_with (at_builtin; refine wpList_append_own _ rfl _ _ 25 rfl w.heap.size 5 i0 (.int .u8 0) 1 1 Tryz.underlying25 hi hz0 hz1 hz2 rfl (by decide) _ m' _ rfl (World.ownsRow.alloc hown _) ⟨_, 0, none⟩ 1 1 [.int .u8 (Bits32.b 0)] rfl rfl (cell_one_new _ _ _) (ints_oneCell .u8 [_]) (by unfold maxLen; omega) (by omega) (by simp; omega) ?_; intro v8 w8 hown8 hgrow _)
            have ho8 : Own8 w8 w.heap.size v8 (m' + 1) (X' ++ [0]) := by
              unfold Own8
              have e : cells8 (X' ++ [0]) = cells8 X' ++ [.int .u8 (Bits32.b 0)] := by simp [cells8]
              rw [e]
              exact hown8
            have b8 : Below w.heap.size w w8 := (hB.alloc hbs _).grown hgrow (by simp; omega) (fun g hg => (hown.block g hg).1)
            clear hown8 hgrow hown hB hbs t
            go_wp2_with fail
            go_roundg (i / 8 + 1 - (m' + 1))
            case measure => have := HG'.out; omega
            case rel => exact ⟨m' + 1, X' ++ [0], rfl, by omega, ho8, HV2.out, b8⟩
          · have t : decide ((m' : Int) ≤ (i : Int) / 8) = false := decide_eq_false (by omega)
            obtain ⟨j, hj⟩ : ∃ j, m' = j + 1 := ⟨i / 8, by omega⟩
            have hji : j = i / 8 := by omega
            subst hj
            obtain ⟨g8, cap8, rfl⟩ := Own8.slice hown
            have hl := hown.len
            have d1 := Own8.cellA hown (i / 8) (by omega)
            have d2 := Own8.freeA hown (i / 8)
            have hlow : (val X').testBit i = false := by rw [HV.out]; exact Nat.testBit_lt_two_pow (Nat.mod_lt _ (Nat.two_pow_pos i))
            rw [val_bit] at hlow
            have e1 := bor_bit (nth8 X' (i / 8)) (i % 8) (by omega) hlow
            have hst := Own8.stored hown (i / 8) (nth8 X' (i / 8) ^^^ BitVec.twoPow 8 (i % 8))
            have HS := Lib.hid hst.1
            have HGR : Hid (Below w.heap.size w (wr.setCell ⟨g8, i / 8, none⟩ (.int .u8 (Bits32.b (nth8 X' (i / 8) ^^^ BitVec.twoPow 8 (i % 8)))))) := hB.setCell (p := ⟨g8, i / 8, none⟩) (hown.block g8 rfl).1 _
            have HF : Hid (Bare (X'.set (i / 8) (nth8 X' (i / 8) ^^^ BitVec.twoPow 8 (i % 8))) ∧ val (X'.set (i / 8) (nth8 X' (i / 8) ^^^ BitVec.twoPow 8 (i % 8))) = V % 2 ^ (i + 1)) := by
              refine ⟨bare_set X' (i / 8) (i % 8) (by omega) (by omega) hlow, ?_⟩
              rw [val_turn X' i (by omega), HM.out, HV.out]
            have x2 : (i : Int) / 8 < (j : Int) + 1 := by omega
            have HH := Lib.hid hown
            clear hst hlow hl HV hB hbs hji hm' hle t HG' hown
            go_wp2_with fail
            go_roundg (n - (i + 1))
            case measure => have := HG.out; omega
            case rel => exact ⟨i + 1, j + 1, _, rfl, by omega, by go_num, HS.out, HF.out, HGR.out⟩
      · rw [hb] at c1 hmod
        have c1 : wr.cell? ⟨g, i, none⟩ = some (.int .i64 0) := c1
        have HF : Hid (Bare X ∧ val X = V % 2 ^ (i + 1)) := ⟨HX.out.1, by rw [HX.out.2, hmod]; simp⟩
        clear hmod hb HX
        go_wp2_with fail
        go_roundg (n - (i + 1))
        case measure => have := HG.out; omega
        case rel => exact ⟨i + 1, m, X, rfl, by omega, by go_num, hown, HF.out, hB⟩
    · obtain rfl : i = n := by omega
      go_wp2_with fail
      go_ret
      exact ⟨_, m, X, rfl, hown, HX.out.1, HX.out.2, hB⟩
end Go.Proofs.YtdhcigiaidlmbaaGreatDoor.Bin
/- shaleref2.BinAdd, BinShift. By the verifier of shale. -/
namespace Go.Proofs.YtdhcigiaidlmbaaGreatDoor.Bin
open Go Go.RowKit
set_option linter.unusedVariables false
theorem bits_any (g n cap V : Nat) (w : World) (h : Blk64 w g (bitL V n)) (hn : n ≤ 100000) :
    Calls Tryz.prog 136 #[.slice (some ⟨g, 0, none⟩) n cap] w (GivesP (V % 2 ^ n) w) := by
  refine (bits_own g n cap V w h hn).mono ?_
  rintro e w1 ⟨v, m, X, rfl, ho, hb, hv, b⟩
  obtain ⟨a, c, rfl, hN⟩ := own_newP ho
  exact ⟨a, m, c, X, rfl, hN, hb, hv, b⟩
theorem Blk64.since {w w' : World} {g : Nat} {l : List Int} (h : Blk64 w g l) (b : Below w.heap.size w w') : Blk64 w' g l := (b.block _ h.lt).trans h
theorem Blk64.lay {w : World} {g : Nat} {l m : List Int} {i : Nat} {z : Int} (h : Blk64 w g l) (e : l.set i z = m) : Blk64 (w.setCell ⟨g, i, none⟩ (.int .i64 z)) g m := e ▸ h.set i z
end Go.Proofs.YtdhcigiaidlmbaaGreatDoor.Bin
/- shaleref2.BinShift. By the verifier of shale. -/
namespace Go.Proofs.YtdhcigiaidlmbaaGreatDoor.Bin
open Go Go.RowKit
set_option linter.unusedVariables false
theorem newV_nil (w : World) (K : Nat) : NewV w w K none 0 0 0 := ⟨[], ⟨rfl, Nat.le_refl _, by decide, Or.inl ⟨rfl, rfl, rfl⟩⟩, bare_nil, rfl, Nat.zero_le _⟩
end Go.Proofs.YtdhcigiaidlmbaaGreatDoor.Bin
/- shaleref2.BinMul. By the verifier of shale. -/
namespace Go.Proofs.YtdhcigiaidlmbaaGreatDoor.Bin
open Go Go.RowKit
set_option linter.unusedVariables false
theorem degZ_cast {v : Nat} (h : v ≠ 0) : ∃ d : Nat, degZ v = (d : Int) ∧ Deg v d := ⟨v.log2, degZ_ne h, deg_of h⟩
/-- a bit of the second one added, i places up. -/
theorem mul_step (V v N i k : Nat) : (bitL (V ^^^ (v % 2 ^ k) <<< i) N).set (i + k) (bz ((V ^^^ (v % 2 ^ k) <<< i).testBit (i + k) ^^ v.testBit k)) = bitL (V ^^^ (v % 2 ^ (k + 1)) <<< i) N := by
  rw [bitL_set, mod_succ v k, shl_xor, Nat.xor_assoc]
  congr 3
  cases v.testBit k
  · simp
  · simp [Nat.shiftLeft_eq, ← Nat.pow_add, Nat.add_comm]
set_option maxRecDepth 100000 in
set_option maxHeartbeats 4000000 in
theorem rmulV {w : World} {k k' : Nat} {a a' : Option Addr} {n c n' c' u v : Nat} (K : Nat) (h1 : PolV w k a n c u) (h2 : PolV w k' a' n' c' v) (hk : k ≤ 200) (hk' : k' ≤ 200) (hK : k + k' ≤ K) :
    Calls Tryz.prog 92 #[.slice a n c, .slice a' n' c'] w fun e w' => ∃ a n c, e = .returned (.slice a n c) ∧ NewV w w' K a n c (pm u v) ∧ Below w.heap.size w w' := by
  have HK := Lib.hid (Nat.lt_of_lt_of_le (room_pm h1.lt h2.lt) (room_mono hK))
  obtain ⟨X, p1, rfl, n1⟩ := h1
  obtain ⟨Y, p2, rfl, n2⟩ := h2
  have HP1 := Lib.hid p1
  have HP2 := Lib.hid p2
  have hl1 := p1.hlen
  have hl2 := p2.hlen
  clear p1 p2
  by_cases z1 : val X = 0
  · have hd : degZ (val X) = -1 := by rw [z1]; rfl
    have HF : Hid (NewV w w K none 0 0 (pm (val X) (val Y))) := by
      show NewV _ _ _ _ _ _ _
      rw [z1, zero_pm]; exact newV_nil w K
    clear z1 hl1 hl2
    go_enter Tryz.func92, Tryz.ntmps92
    go_wp2_with fail
    refine (rdeg_any a n c X w HP1.out (by omega)).mono ?_
    rintro e w1 ⟨rfl, rfl⟩
    rw [hd]
    clear hd
    go_wp2_with fail
    refine (rdeg_any a' n' c' Y w HP2.out (by omega)).mono ?_
    rintro e w1 ⟨rfl, rfl⟩
    go_wp2_with fail
    go_ret
    exact ⟨none, 0, 0, rfl, HF.out, Below.refl _ _⟩
  · obtain ⟨d, hd, HD'⟩ := degZ_cast z1
    have HD := Lib.hid HD'
    have t1 : decide ((d : Int) < 0) = false := decide_eq_false (by omega)
    have bd : d ≤ 1600 := by have := deg_len z1; rw [HD'.log2] at this; omega
    clear HD'
    by_cases z2 : val Y = 0
    · have hd2 : degZ (val Y) = -1 := by rw [z2]; rfl
      have HF : Hid (NewV w w K none 0 0 (pm (val X) (val Y))) := by
        show NewV _ _ _ _ _ _ _
        rw [z2, pm_zero]; exact newV_nil w K
      clear z1 z2 hl1 hl2
      go_enter Tryz.func92, Tryz.ntmps92
      go_wp2_with fail
      refine (rdeg_any a n c X w HP1.out (by omega)).mono ?_
      rintro e w1 ⟨rfl, rfl⟩
      rw [hd]
      clear hd
      go_wp2_with fail
      refine (rdeg_any a' n' c' Y w HP2.out (by omega)).mono ?_
      rintro e w1 ⟨rfl, rfl⟩
      rw [hd2]
      clear hd2
      go_wp2_with fail
      go_ret
      exact ⟨none, 0, 0, rfl, HF.out, Below.refl _ _⟩
    · obtain ⟨d2, hd2, HD2'⟩ := degZ_cast z2
      have HD2 := Lib.hid HD2'
      have t2 : decide ((d2 : Int) < 0) = false := decide_eq_false (by omega)
      have bd2 : d2 ≤ 1600 := by have := deg_len z2; rw [HD2'.log2] at this; omega
      have HT : Hid (pm (val X) (val Y) < 2 ^ (d + d2 + 1)) := (deg_pm HD.out _ _ HD2').2
      obtain ⟨N, hN⟩ : ∃ N, N = d + d2 + 1 := ⟨_, rfl⟩
      have eN : (d : Int) + (d2 : Int) + 1 = (N : Int) := by omega
      rw [← hN] at HT
      have HN := Lib.hid hN
      have bN : N ≤ 4000 := by omega
      have hmk := made64 w N (by omega)
      rw [bitL_zero] at hmk
      have HB0 : Hid (Below w.heap.size w (w.alloc (obj64 (bitL 0 N)))) := (Below.refl _ _).alloc (Nat.le_refl _) _
      have HK0 : Hid (Blk64 (w.alloc (obj64 (bitL 0 N))) w.heap.size (bitL 0 N)) := Blk64.new w _
      clear z1 z2 hl1 hl2 HD2' hN
      go_enter Tryz.func92, Tryz.ntmps92
      go_wp2_with fail
      refine (rdeg_any a n c X w HP1.out (by omega)).mono ?_
      rintro e w1 ⟨rfl, rfl⟩
      rw [hd]
      clear hd
      go_wp2_with fail
      refine (rdeg_any a' n' c' Y w HP2.out (by omega)).mono ?_
      rintro e w1 ⟨rfl, rfl⟩
      rw [hd2]
      clear hd2
      go_wp2_with fail
      go_loopg [8, 9] (d + 1) (fun gh s8 s9 wx => ∃ (i : Nat), gh = d + 1 - i ∧ i ≤ d + 1 ∧ s8 = .int .i64 (i : Int) ∧ Blk64 wx w.heap.size (bitL (pm (val Y) (val X % 2 ^ i)) N) ∧ Below w.heap.size w wx)
      case atStart => exact ⟨0, rfl, by omega, rfl, by rw [Nat.pow_zero, Nat.mod_one, pm_zero]; exact HK0.out, HB0.out⟩
      case round =>
        clear hmk eN t1 t2
        obtain ⟨i, hg, hin, rfl, hk, hB⟩ := hrel
        have HG := Lib.hid hg
        clear hg
        by_cases hlt : i < d + 1
        · have x1 : decide ((i : Int) ≤ (d : Int)) = true := decide_eq_true (by omega)
          have x0 : (0 : Int) ≤ (i : Int) := by omega
          have HPX := Lib.hid (HP1.out.below hB)
          have HBX := Lib.hid (bitZ_bz X i)
          have HM := Lib.hid (mod_succ (val X) i)
          go_wp2_with fail
          refine (rbit_any a n c X (i : Int) wr HPX.out (by omega)).mono ?_
          rintro e w1 ⟨rfl, rfl⟩
          rw [HBX.out]
          rcases Bool.eq_false_or_eq_true ((val X).testBit i) with hb | hb
          · have HE : Hid (pm (val Y) (val X % 2 ^ (i + 1)) = pm (val Y) (val X % 2 ^ i) ^^^ (val Y % 2 ^ (d2 + 1)) <<< i) := by
              show _ = _
              rw [HM.out, hb, if_pos rfl, pm_xor_right, pm_pow, Nat.mod_eq_of_lt HD2.out.2]
            rw [hb]
            rw [show bz true = 1 from rfl]
            clear hb HM
            go_wp2_with fail
            obtain ⟨V, hV⟩ : ∃ V, V = pm (val Y) (val X % 2 ^ i) := ⟨_, rfl⟩
            rw [← hV] at hk HE
            have HVV := Lib.hid hV
            clear hV
            go_loopg [9] (d2 + 1) (fun gh s9 wx => ∃ (k : Nat), gh = d2 + 1 - k ∧ k ≤ d2 + 1 ∧ s9 = .int .i64 (k : Int) ∧ Blk64 wx w.heap.size (bitL (V ^^^ (val Y % 2 ^ k) <<< i) N) ∧ Below w.heap.size w wx)
            case atStart => exact ⟨0, rfl, by omega, rfl, by rw [Nat.pow_zero, Nat.mod_one, shl_zero, Nat.xor_zero]; exact hk, hB⟩
            case round =>
              clear hk hB HPX
              obtain ⟨k, hg, hkn, rfl, hk, hB⟩ := hrel
              have HG2 := Lib.hid hg
              clear hg
              by_cases hlt2 : k < d2 + 1
              · have y1 : decide ((k : Int) ≤ (d2 : Int)) = true := decide_eq_true (by omega)
                have y0 : (0 : Int) ≤ (k : Int) := by omega
                have hikN : i + k < N := by have := HN.out; omega
                have hk : Blk64 wr.drew w.heap.size (bitL (V ^^^ (val Y % 2 ^ k) <<< i) N) := hk
                have hB : Below w.heap.size w wr.drew := Below.drew hB
                go_wp2_with fail
                refine wp_region_still_tail 15 (by kernel_rfl) (by kernel_rfl) ?_
                simp only [List.take_succ_cons, List.take_zero, List.drop_succ_cons, List.drop_zero]
                change wpStill _ _ wr.drew (fun a' => wpList _ _ _ _ a' wr.drew) _ _
                generalize wr.drew = w2 at hk hB ⊢
                have c1 := hk.cell (i := i + k) (by rw [bitL_length]; exact hikN)
                rw [nth_bitL _ _ _ hikN] at c1
                have c2 := hk.free (i + k)
                have ex := bz_xor ((V ^^^ (val Y % 2 ^ k) <<< i).testBit (i + k)) ((val Y).testBit k)
                have HS := Lib.hid (Blk64.lay hk (mul_step V (val Y) N i k))
                have HSB : Hid (Below w.heap.size w (w2.setCell ⟨w.heap.size, i + k, none⟩ (.int .i64 (bz ((V ^^^ (val Y % 2 ^ k) <<< i).testBit (i + k) ^^ (val Y).testBit k))))) := hB.setCell (p := ⟨w.heap.size, i + k, none⟩) (Nat.le_refl _) _
                have HPY := Lib.hid (HP2.out.below hB)
                have HBY := Lib.hid (bitZ_bz Y k)
                have i4 : (i : Int) + (k : Int) < (N : Int) := by omega
                have i5 : (0 : Int) ≤ (i : Int) + (k : Int) := by omega
                have i2 : ((i : Int) + (k : Int)).toNat = i + k := by omega
                have i1 : IntKind.i64.wrap ((i : Int) + (k : Int)) = (i : Int) + (k : Int) := IntWalk.i64_in _ (by omega)
                generalize bz ((V ^^^ (val Y % 2 ^ k) <<< i).testBit (i + k) ^^ (val Y).testBit k) = b3 at ex HS HSB
                generalize bz ((V ^^^ (val Y % 2 ^ k) <<< i).testBit (i + k)) = b1 at c1 ex
                clear hk hB hlt hlt2
                repeat still_step
                still_call ((rbit_any a' n' c' Y (k : Int) w2 HPY.out (by omega)).mono fun _ _ h => ⟨h.1, h.2.symm⟩)
                rw [HBY.out]
                generalize bz ((val Y).testBit k) = b2 at ex ⊢
                repeat still_step
                refine wpStill_nil ?_
                go_wp2_with fail
                go_roundg (d2 + 1 - (k + 1))
                case measure => have := HG2.out; omega
                case rel => exact ⟨k + 1, rfl, by omega, by go_num, HS.out, HSB.out⟩
              · obtain rfl : k = d2 + 1 := by omega
                have y1 : decide (((d2 + 1 : Nat) : Int) ≤ (d2 : Int)) = false := decide_eq_false (by omega)
                rw [← HE.out] at hk
                go_wp2_with fail
                go_roundg (d + 1 - (i + 1))
                case measure => have := HG.out; omega
                case rel => exact ⟨i + 1, rfl, by omega, by go_num, hk, hB⟩
          · have HE : Hid (pm (val Y) (val X % 2 ^ (i + 1)) = pm (val Y) (val X % 2 ^ i)) := by
              show _ = _
              rw [HM.out, hb]; simp
            rw [hb]
            rw [show bz false = 0 from rfl]
            clear hb HM HPX
            go_wp2_with fail
            go_roundg (d + 1 - (i + 1))
            case measure => have := HG.out; omega
            case rel => exact ⟨i + 1, rfl, by omega, by go_num, by rw [HE.out]; exact hk, hB⟩
        · obtain rfl : i = d + 1 := by omega
          have x1 : decide (((d + 1 : Nat) : Int) ≤ (d : Int)) = false := decide_eq_false (by omega)
          have HE : Hid (pm (val Y) (val X % 2 ^ (d + 1)) = pm (val X) (val Y)) := by
            show _ = _
            rw [Nat.mod_eq_of_lt HD.out.2, pm_comm]
          rw [HE.out] at hk
          go_wp2_with fail
          refine (bits_any w.heap.size N N _ wr hk (by omega)).mono ?_
          rintro e w2 ⟨a3, n3, c3, Z, rfl, hZ, bZ, vZ, b2⟩
          have hF := newV (hZ.from hB.size) bZ (vZ.trans (by rw [Nat.mod_eq_of_lt HT.out])) K HK.out
          have hB2 := hB.trans (b2.mono hB.size)
          clear hZ bZ vZ b2 hB hk
          go_wp2_with fail
          go_ret
          exact ⟨a3, n3, c3, rfl, hF, hB2⟩
end Go.Proofs.YtdhcigiaidlmbaaGreatDoor.Bin
/- shaleref2.BinDivMod. By the verifier of shale. -/
namespace Go.Proofs.YtdhcigiaidlmbaaGreatDoor.Bin
open Go Go.RowKit
set_option linter.unusedVariables false
/-- where the division stands: what is left is below x^j. -/
structure Divs (u v e j Q L : Nat) : Prop where
  sum : u = pm Q v ^^^ L
  low : L < 2 ^ j
  free : ∀ t, t + e < j → Q.testBit t = false
theorem Divs.skip {u v e i Q L : Nat} (h : Divs u v e (i + 1) Q L) (hb : L.testBit i = false) : Divs u v e i Q L :=
  ⟨h.sum, lt_of_bit h.low hb, fun t ht => h.free t (by omega)⟩
theorem Divs.next {u v e s Q L : Nat} (h : Divs u v e (e + s + 1) Q L) (hv : Deg v e) (hb : L.testBit (e + s) = true) : Divs u v e (e + s) (Q ^^^ 2 ^ s) (L ^^^ (v % 2 ^ (e + 1)) <<< s) := by
  rw [Nat.mod_eq_of_lt hv.2]
  refine ⟨?_, clear_top h.low hb (shl_deg hv s), fun t ht => ?_⟩
  · rw [pm_xor_left, pow_pm, xx, ← h.sum]
    rw [Nat.xor_self, Nat.xor_zero]
  · rw [Nat.testBit_xor, h.free t (by omega), Nat.testBit_two_pow_of_ne (by omega)]; rfl
end Go.Proofs.YtdhcigiaidlmbaaGreatDoor.Bin
/- shaleref2.BinGcd, Irreducible. By the verifier of shale. -/
namespace Go.Proofs.YtdhcigiaidlmbaaGreatDoor.Bin
open Go Go.RowKit
set_option linter.unusedVariables false
theorem NewV.fit {w0 w : World} {K k : Nat} {a : Option Addr} {n c v : Nat} (h : NewV w0 w K a n c v) (hv : v < room k) : NewV w0 w k a n c v := by
  obtain ⟨X, h1, h2, h3, h4⟩ := h
  exact newV h1 h2 h3 k hv
theorem NewV.since {w0 w w' : World} {K : Nat} {a : Option Addr} {n c v : Nat} (h : NewV w0 w K a n c v) (b : Below w.heap.size w w') : NewV w0 w' K a n c v := by
  obtain ⟨X, h1, h2, h3, h4⟩ := h
  exact ⟨X, h1.since b, h2, h3, h4⟩
theorem NewV.from {w0 w1 w : World} {K : Nat} {a : Option Addr} {n c v : Nat} (h : NewV w1 w K a n c v) (b : w0.heap.size ≤ w1.heap.size) : NewV w0 w K a n c v := by
  obtain ⟨X, h1, h2, h3, h4⟩ := h
  exact ⟨X, h1.from b, h2, h3, h4⟩
end Go.Proofs.YtdhcigiaidlmbaaGreatDoor.Bin
/- shaleref2.Of, Exponents. By the verifier of shale. -/
namespace Go.Proofs.YtdhcigiaidlmbaaGreatDoor.Bin
open Go Go.RowKit
set_option linter.unusedVariables false
/-- the greatest one. -/
def mostL : List Nat → Nat
  | [] => 0
  | e :: l => max e (mostL l)
theorem mostL_snoc (l : List Nat) (e : Nat) : mostL (l ++ [e]) = max (mostL l) e := by
  induction l with
  | nil => simp [mostL]
  | cons a l ih => simp only [List.cons_append, mostL, ih]; omega
theorem mostL_le {l : List Nat} {M : Nat} (h : ∀ e ∈ l, e ≤ M) : mostL l ≤ M := by
  induction l with
  | nil => exact Nat.zero_le _
  | cons a l ih =>
    have h1 := h a (List.mem_cons_self ..)
    have h2 := ih fun e he => h e (List.mem_cons_of_mem _ he)
    simp only [mostL]; omega
theorem le_mostL {l : List Nat} {i : Nat} (h : i < l.length) : l.getD i 0 ≤ mostL l := by
  induction l generalizing i with
  | nil => simp at h
  | cons a l ih =>
    cases i with
    | zero => simp only [mostL, List.getD_cons_zero]; omega
    | succ i =>
      have := ih (i := i) (by simpa using h)
      simp only [mostL, List.getD_cons_succ]; omega
theorem xp_most (l : List Nat) : ∀ M, mostL l ≤ M → xp l < 2 ^ (M + 1) := by
  induction l with
  | nil => intro M _; exact Nat.two_pow_pos _
  | cons a l ih =>
    intro M h
    simp only [mostL] at h
    exact Nat.xor_lt_two_pow (Nat.pow_lt_pow_right (by decide) (by omega)) (ih M (by omega))
theorem room_pow {v d : Nat} (k : Nat) (h : v < 2 ^ d) (hk : d ≤ 8 * k) : v < room k := Nat.lt_of_lt_of_le h (Nat.pow_le_pow_right (by decide) hk)
theorem bz_flip (b : Bool) : bits .xor .i64 (bz b) 1 = bz (b ^^ true) := by cases b <;> rfl
set_option maxRecDepth 100000 in
set_option maxHeartbeats 2000000 in
theorem rofV (a : Option Addr) (n cap : Nat) (es : List Nat) (w : World) (h : RowN w a n es) (hn : n ≤ 100000) (hes : ∀ e ∈ es, e ≤ 2048) :
    Calls Tryz.prog 139 #[.slice a n cap] w fun e w' => ∃ a n c, e = .returned (.slice a n c) ∧ NewV w w' 300 a n c (xp es) ∧ Below w.heap.size w w' := by
  have HR := Lib.hid h
  have hlen := h.hlen
  have HLN := Lib.hid hlen
  obtain ⟨M, hM⟩ : ∃ M, M = mostL es := ⟨_, rfl⟩
  have hM2 : M ≤ 2048 := by rw [hM]; exact mostL_le hes
  have HM := Lib.hid hM
  have HX : Hid (xp es < 2 ^ (M + 1)) := by rw [hM]; exact xp_most es _ (Nat.le_refl _)
  have hmk := made64 w (M + 1) (by omega)
  rw [bitL_zero] at hmk
  have eM : ((M + 1 : Nat) : Int) = (M : Int) + 1 := by omega
  rw [eM] at hmk
  have HB0 : Hid (Below w.heap.size w (w.alloc (obj64 (bitL 0 (M + 1))))) := (Below.refl _ _).alloc (Nat.le_refl _) _
  have HK0 : Hid (Blk64 (w.alloc (obj64 (bitL 0 (M + 1)))) w.heap.size (bitL 0 (M + 1))) := Blk64.new w _
  clear h hlen hM hes eM
  go_enter Tryz.func139, Tryz.ntmps139
  go_wp2_with fail
  go_loopg [3, 4] n (fun gh s3 s4 wx => ∃ (i m : Nat), gh = n - i ∧ i ≤ n ∧ s4 = .int .i64 (i : Int) ∧ s3 = .int .i64 (m : Int) ∧ m ≤ M ∧ Hid (m = mostL (es.take i)) ∧ w = wx)
  case atStart => exact ⟨0, 0, rfl, by omega, rfl, rfl, by omega, rfl, rfl⟩
  case round =>
    obtain ⟨i, m, hg, hin, rfl, rfl, hmM, HS, rfl⟩ := hrel
    have HG := Lib.hid hg
    clear hg
    by_cases hlt : i < n
    · have x1 : (i : Int) < (n : Int) := by omega
      have x0 : (0 : Int) ≤ (i : Int) := by omega
      obtain ⟨bb, off, rfl, c1, hb⟩ := HR.out.row i hlt
      have hie : i < es.length := by have := HLN.out; omega
      have HS2 : Hid (max m (es.getD i 0) = mostL (es.take (i + 1))) := by
        show _ = _
        rw [take_getD es i hie, mostL_snoc, HS.out]
      have hq2 : es.getD i 0 ≤ M := by rw [HM.out]; exact le_mostL hie
      generalize es.getD i 0 = q at c1 HS2 hq2
      obtain ⟨m2, hm2⟩ : ∃ m2, m2 = max m q := ⟨_, rfl⟩
      have e2 : max (m : Int) (q : Int) = (m2 : Int) := by omega
      rw [← hm2] at HS2
      have hm2M : m2 ≤ M := by omega
      clear hb hie HS hm2 hmk
      go_wp2_with fail
      go_roundg (n - (i + 1))
      case measure => have := HG.out; omega
      case rel => exact ⟨i + 1, m2, rfl, by omega, by go_num, rfl, hm2M, HS2.out, rfl⟩
    · obtain rfl : i = n := by omega
      obtain rfl : m = M := by rw [HS.out, HM.out, List.take_of_length_le (by have := HLN.out; omega)]
      clear HS
      go_wp2_with fail
      clear hmk
      go_loopg [6] i (fun gh s6 wx => ∃ (k : Nat), gh = i - k ∧ k ≤ i ∧ s6 = .int .i64 (k : Int) ∧ Blk64 wx w.heap.size (bitL (xp (es.take k)) (m + 1)) ∧ Below w.heap.size w wx)
      case atStart => exact ⟨0, rfl, by omega, rfl, HK0.out, HB0.out⟩
      case round =>
        clear HK0 HB0
        obtain ⟨k, hg, hki, rfl, hk, hB⟩ := hrel
        have HG2 := Lib.hid hg
        clear hg
        by_cases hlt2 : k < i
        · have x1 : (k : Int) < (i : Int) := by omega
          have x0 : (0 : Int) ≤ (k : Int) := by omega
          have hk : Blk64 wr.drew w.heap.size (bitL (xp (es.take k)) (m + 1)) := hk
          have hB : Below w.heap.size w wr.drew := Below.drew hB
          go_wp2_with fail
          refine wp_region_still_tail 14 (by kernel_rfl) (by kernel_rfl) ?_
          simp only [List.take_succ_cons, List.take_zero, List.drop_succ_cons, List.drop_zero]
          change wpStill _ _ wr.drew (fun a' => wpList _ _ _ _ a' wr.drew) _ _
          generalize wr.drew = w2 at hk hB ⊢
          obtain ⟨bb, off, rfl, c1, hb⟩ := (HR.out.below hB).row k hlt2
          have hie : k < es.length := by have := HLN.out; omega
          have hq2 : es.getD k 0 ≤ m := by rw [HM.out]; exact le_mostL hie
          have HT : Hid (xp (es.take (k + 1)) = xp (es.take k) ^^^ 2 ^ es.getD k 0) := by
            show _ = _
            rw [take_getD es k hie, xp_append]; simp [xp]
          generalize es.getD k 0 = q at c1 hq2 HT
          have v1 := hk.cell (i := q) (by rw [bitL_length]; omega)
          rw [nth_bitL _ _ _ (by omega)] at v1
          have v2 := hk.free q
          have ex := bz_flip ((xp (es.take k)).testBit q)
          have HS := Lib.hid (Blk64.lay hk (bitL_set (xp (es.take k)) (m + 1) q true))
          have HSB : Hid (Below w.heap.size w (w2.setCell ⟨w.heap.size, q, none⟩ (.int .i64 (bz ((xp (es.take k)).testBit q ^^ true))))) := hB.setCell (p := ⟨w.heap.size, q, none⟩) (Nat.le_refl _) _
          have i1 : (q : Int) < (m : Int) + 1 := by omega
          generalize bz ((xp (es.take k)).testBit q ^^ true) = b3 at ex HS HSB
          generalize bz ((xp (es.take k)).testBit q) = b1 at v1 ex
          have HS2 : Hid (Blk64 (w2.setCell ⟨w.heap.size, q, none⟩ (.int .i64 b3)) w.heap.size (bitL (xp (es.take (k + 1))) (m + 1))) := by
            have := HS.out
            rw [if_pos rfl, ← HT.out] at this
            exact this
          clear hk hB hb hie HS
          repeat still_step
          refine wpStill_nil ?_
          go_wp2_with fail
          go_roundg (i - (k + 1))
          case measure => have := HG2.out; omega
          case rel => exact ⟨k + 1, rfl, by omega, by go_num, HS2.out, HSB.out⟩
        · obtain rfl : k = i := by omega
          rw [List.take_of_length_le (by have := HLN.out; omega)] at hk
          go_wp2_with fail
          refine (bits_any w.heap.size (m + 1) (m + 1) _ wr hk (by omega)).mono ?_
          rintro e w3 ⟨a3, n3, c3, Z, rfl, hZ, bZ, vZ, b2⟩
          have hv : val Z = xp es := vZ.trans (Nat.mod_eq_of_lt HX.out)
          have hroom : xp es < room 300 := room_pow 300 HX.out (by omega)
          have hF := newV (hZ.from hB.size) bZ hv 300 hroom
          have hB2 := hB.trans (b2.mono hB.size)
          clear hZ bZ vZ b2 hB hk hv hroom
          go_wp2_with fail
          go_ret
          exact ⟨a3, n3, c3, rfl, hF, hB2⟩
end Go.Proofs.YtdhcigiaidlmbaaGreatDoor.Bin
/- The reference's FromRoots and Minimal. By the verifier of shale. -/
namespace Go.Proofs.YtdhcigiaidlmbaaGreatDoor.Cos
open Go Go.RowKit Pl
set_option linter.unusedVariables false
section
variable {m : Nat} [M : Mid m]
theorem sr_lin2 (z : Int) : sr m [z, 1] = lin (elm m z) := by
  funext i
  show elm m (([z, 1] : List Int).getD i 0) = if i = 0 then elm m z else if i = 1 then 1 else 0
  rcases i with _ | _ | i
  · rfl
  · rw [if_neg (by omega), if_pos rfl]; exact elm_zn (1 : El m)
  · rw [if_neg (by omega), if_neg (by omega)]; exact elm_zero
set_option maxRecDepth 100000 in
set_option maxHeartbeats 1000000 in
theorem rfrom_any (a : Option Addr) (n cap : Nat) (l : List Int) (w : World) (h : RowZ w a n cap l) (hn : n ≤ 20) :
    Calls Tryz.prog 138 #[.int .i64 (m : Int), .slice a n cap] w
      fun e w' => ∃ a' n' c', e = .returned (.slice a' n' c') ∧ NV m w' (n + 1) a' n' c' (pls l n) ∧ Below w.heap.size w w' := by
  go_enter Tryz.func138, Tryz.ntmps138
  go_wp2_with fail
  generalize hw : w.alloc (.cells #[.int .i64 1] 3 (0, 0)) = w2
  obtain ⟨hr, B⟩ := lit_row w w2 [1] 1 rfl (by decide) hw.symm
  clear hw
  replace h := h.below B
  have e0 : nums (pls (m := m) l 0) 1 = [1] := by
    show [zn (pls (m := m) l 0 0)] = [1]
    have e : pls (m := m) l 0 0 = 1 := by show (if (0 : Nat) = 0 then (1 : El m) else 0) = 1; rw [if_pos rfl]
    rw [e]; rfl
  have P : NV m w2 1 (some ⟨w.heap.size, 0, none⟩) 1 1 (pls l 0) := ⟨by rw [e0]; exact hr, pls_bd _ 0, top_dg' (pls_bd _ 0) (pls_dg _ 0), Nat.le_refl _⟩
  clear hr e0
  generalize (some ⟨w.heap.size, 0, none⟩ : Option Addr) = ap at P ⊢
  have HS : Hid (RowZ w2 a n cap l ∧ Below w.heap.size w w2) := ⟨h, B⟩
  have HP := Lib.hid P
  clear h B P
  go_loopg [5, 6] n (fun gh s5 s6 wx => ∃ (k : Nat) (ax : Option Addr) (nx cx : Nat), gh = n - k ∧ k ≤ n ∧ s6 = .int .i64 (k : Int) ∧ s5 = .slice ax nx cx ∧ Hid (NV m wx (k + 1) ax nx cx (pls l k)) ∧ Hid (RowZ wx a n cap l ∧ Below w.heap.size w wx))
  case atStart => exact ⟨0, ap, 1, 1, rfl, Nat.zero_le _, rfl, rfl, HP, HS⟩
  case round =>
    clear HP HS
    obtain ⟨k, ax, nx, cx, hg, hk, rfl, rfl, HP, HS⟩ := hrel
    have HG := Lib.hid hg
    clear hg
    by_cases hlt : k < n
    · have x1 : (k : Int) < (n : Int) := by omega
      have x0 : (0 : Int) ≤ (k : Int) := by omega
      obtain ⟨bb, off, rfl, d1, _⟩ := HS.out.1.row k hlt
      obtain ⟨z, hz⟩ : ∃ z, z = l.getD k 0 := ⟨_, rfl⟩
      rw [← hz] at d1
      have HZ := Lib.hid hz
      clear hz
      go_wp2_with fail
      generalize hw : wr.alloc (.cells #[.int .i64 z, .int .i64 1] 3 (0, 0)) = w4
      obtain ⟨hr, b⟩ := lit_row wr w4 [z, 1] 2 rfl (by decide) hw.symm
      clear hw d1
      have hnx := HP.out.le
      refine (rtimes_any (m := m) ax nx cx _ _ 2 2 [z, 1] w4 (HP.out.row.below b) hr (by omega) (by omega)).mono ?_
      rintro e w5 ⟨a5, n5, c5, rfl, h5, b5⟩
      rw [sr_nums HP.out.bd, sr_lin2] at h5
      have e : pls l (k + 1) = cv (pls l k) (lin (elm m z)) := by show cv _ (lin (elm m (l.getD k 0))) = _; rw [← HZ.out]
      have HP5 : Hid (NV m w5 (k + 1 + 1) a5 n5 c5 (pls l (k + 1))) := by
        rw [e]
        exact routV h5 (e ▸ pls_bd l (k + 1))
      have b45 := b.trans (b5.mono b.size)
      have HS5 : Hid (RowZ w5 (some ⟨bb, off, none⟩) n cap l ∧ Below w.heap.size w w5) := ⟨HS.out.1.below b45, HS.out.2.trans (b45.mono HS.out.2.size)⟩
      clear h5 b b5 b45 hr HS HP e
      go_wp2_with fail
      go_roundg (n - (k + 1))
      case measure => have := HG.out; omega
      case rel => exact ⟨k + 1, a5, n5, c5, rfl, by omega, by go_num, rfl, HP5, HS5⟩
    · obtain rfl : k = n := by omega
      go_wp2_with fail
      go_ret
      exact ⟨ax, nx, cx, rfl, HP.out, HS.out.2⟩
theorem xp_nb (p : Nat → Bool) : ∀ n, Bin.xp ((List.range n).filter p) = nb p n
  | 0 => rfl
  | n + 1 => by
    rw [range_filter_snoc, Bin.xp_append, xp_nb p n]
    simp only [nb]
    by_cases h : p n = true
    · rw [if_pos h, if_pos h]
      have h1 := nb_lt p n
      show nb p n ^^^ (2 ^ n ^^^ 0) = nb p n + 2 ^ n
      rw [Nat.xor_zero]
      apply Nat.eq_of_testBit_eq
      intro i
      rw [Nat.testBit_xor, Nat.testBit_two_pow]
      have h2 : (nb p n + 2 ^ n).testBit i = (nb p (n + 1)).testBit i := by simp only [nb]; rw [if_pos h]
      rw [h2, nb_bit, nb_bit]
      by_cases e : n = i
      · subst e; simp [h]
      · by_cases h3 : i < n
        · simp [h3, e, show i < n + 1 by omega]
        · simp [h3, e, show ¬ i < n + 1 by omega]
    · rw [if_neg h, if_neg h]
      show nb p n ^^^ 0 = nb p n + 0
      rw [Nat.xor_zero, Nat.add_zero]
end
end Go.Proofs.YtdhcigiaidlmbaaGreatDoor.Cos
/- The reference's Minimal. By the verifier of shale. -/
namespace Go.Proofs.YtdhcigiaidlmbaaGreatDoor.Cos
open Go Go.RowKit Bits16
set_option linter.unusedVariables false
section
variable {m : Nat} [M : Pl.Mid m]
theorem exl_snoc (l : List Nat) (j : Nat) : exl m (l ++ [j]) = exl m l ++ [Pl.zn (xe m j)] := by unfold exl; rw [List.map_append]; rfl
set_option maxRecDepth 100000 in
set_option maxHeartbeats 1000000 in
theorem rminimal_any (i : Int) (w : World) :
    Calls Tryz.prog 93 #[.int .i64 (m : Int), .int .i64 i] w
      fun e w' => ∃ a n c, e = .returned (.slice a n c) ∧ Bin.NewV w w' 300 a n c (mpv m (rs m i)) ∧ Below w.heap.size w w' := by
  obtain ⟨i0, hi, hz0, hz1, hz2⟩ := info64
  have hf := rs_lt M.lo i
  obtain ⟨f, hfe⟩ : ∃ f, f = rs m i := ⟨_, rfl⟩
  rw [← hfe] at hf ⊢
  have HFE := Lib.hid hfe
  have HF := Lib.hid hf
  have hlen := cos_len_le M.lo hf
  have hm14 := M.hi
  clear hfe hf
  go_enter Tryz.func93, Tryz.ntmps93
  go_wp2_with fail
  refine (rcoset_any m M.lo M.hi i w).mono ?_
  rintro e w1 ⟨a1, n1, c1, rfl, hO, B⟩
  rw [← HFE.out] at hO
  have hl := hO.len
  rw [ints_length] at hl
  obtain rfl : n1 = (cos m f).length := hl.symm
  have Rc := (Pl.own_rowz hO).1
  clear hO hl
  obtain ⟨L, hL⟩ : ∃ L, L = (cos m f).length := ⟨_, rfl⟩
  rw [← hL] at Rc hlen ⊢
  have HL := Lib.hid hL
  clear hL
  go_wp2_with fail
  go_loopg [6, 7] L (fun gh s6 s7 wx => ∃ (k : Nat), gh = L - k ∧ k ≤ L ∧ s7 = .int .i64 (k : Int) ∧ Own64 wx w1.heap.size s6 k (exl m ((cos m f).take k)) ∧ Below w1.heap.size w1 wx)
  case atStart => exact ⟨0, rfl, Nat.zero_le _, rfl, Own64.nil _ _, Below.refl _ _⟩
  case round =>
    obtain ⟨k, hg, hk, rfl, hO, hB⟩ := hrel
    have HG := Lib.hid hg
    clear hg
    obtain ⟨av, cv, rfl⟩ := own_slice hO
    have hbs := hB.size
    by_cases hlt : k < L
    · have x1 : (k : Int) < (L : Int) := by omega
      have x0 : (0 : Int) ≤ (k : Int) := by omega
      have hkc : k < (cos m f).length := by rw [← HL.out]; exact hlt
      obtain ⟨bb, off, rfl, d1, _⟩ := (Rc.below hB).row k hlt
      obtain ⟨j, hj⟩ : ∃ j, j = (cos m f).getD k 0 := ⟨_, rfl⟩
      have ej : (ints (cos m f)).getD k 0 = (j : Int) := by
        rw [hj]
        unfold ints
        rw [List.getD_eq_getElem?_getD, List.getElem?_map, List.getD_eq_getElem?_getD, List.getElem?_eq_getElem hkc]; rfl
      rw [ej] at d1
      have HFx : Hid (exl m ((cos m f).take (k + 1)) = exl m ((cos m f).take k) ++ [Pl.zn (xe m j)]) := by
        show _ = _
        rw [take_snocN _ k hkc, exl_snoc, ← hj]
      have HO := Lib.hid hO
      have HB := Lib.hid hB
      clear hj ej hkc hO hB
      go_wp2_with fail
      refine (Fld.rexp_any m M.lo M.hi (j : Int) wr).mono ?_
      rintro e w5 ⟨rfl, b5⟩
      rw [show Bits16.h (Fld.pwZ m (j : Int)) = Pl.zn (xe m j) from rfl]
      have ho5 : Own64 w5 w1.heap.size (.slice av k cv) k (exl m ((cos m f).take k)) := HO.out.keep fun g hg => b5.block g (HO.out.block g hg).2
      have hB5 := HB.out.trans (b5.mono hbs)
      have hbs5 := hB5.size
      generalize Pl.zn (xe m j) = z at HFx ⊢
      clear b5 d1
      go_wp2_with (at_builtin; refine wpList_append_own _ rfl _ _ 65 rfl w1.heap.size 3 i0 (.int .i64 0) 1 8 Tryz.underlying65 hi hz0 hz1 hz2 rfl (by decide) _ k _ rfl (World.ownsRow.alloc ho5 _) ⟨w5.heap.size, 0, none⟩ 1 1 [.int .i64 z] rfl rfl (cell_one_new _ _ _) (ints_oneCell .i64 [_]) (by unfold maxLen; omega) (by omega) (by simp; omega) ?_; intro v7 w7 hown7 hgrow _)
      have ho7 : Own64 w7 w1.heap.size v7 (k + 1) (exl m ((cos m f).take (k + 1))) := by
        unfold Own64
        rw [HFx.out, ← cells64_append]
        exact hown7
      have b7 : Below w1.heap.size w1 w7 := (hB5.alloc hbs5 _).grown hgrow (by simp; omega) (fun g hg => (ho5.block g hg).1)
      clear hown7 hgrow ho5 hB5 HO HB
      go_wp2_with fail
      go_roundg (L - (k + 1))
      case measure => have := HG.out; omega
      case rel => exact ⟨k + 1, rfl, by omega, by go_num, ho7, b7⟩
    · obtain rfl : k = L := by omega
      rw [List.take_of_length_le (by rw [← HL.out]; exact Nat.le_refl _)] at hO
      have Rr := (Pl.own_rowz hO).1
      have B2 := B.trans (hB.mono B.size)
      clear hO hB B Rc hlt
      go_wp2_with fail
      refine (rfrom_any (m := m) av k cv _ wr Rr (by omega)).mono ?_
      rintro e w5 ⟨ap, np, cp, rfl, P, b5⟩
      have hPS : Pl.pls (exl m (cos m f)) k = mpS m f := by rw [HL.out]; rfl
      rw [hPS] at P
      have hnp : np = k + 1 := by
        rw [← P.top, HL.out, Pl.top_same P.bd (mpS_dg f).2]
        exact Pl.top_dg (mpS_dg f)
      subst hnp
      have RP := P.row
      replace B2 := B2.trans (b5.mono B2.size)
      clear P b5 Rr hPS
      obtain ⟨W5, rfl⟩ : ∃ W5, W5 = w5 := ⟨_, rfl⟩
      go_wp2_with fail
      go_loopg [9, 10] (k + 1) (fun gh s9 s10 wx => ∃ (j n2 : Nat), gh = k + 1 - j ∧ j ≤ k + 1 ∧ n2 ≤ j ∧ s10 = .int .i64 (j : Int) ∧ Own64 wx W5.heap.size s9 n2 (ints ((List.range j).filter (mpb m f))) ∧ Below W5.heap.size W5 wx)
      case atStart => exact ⟨0, 0, rfl, Nat.zero_le _, Nat.le_refl _, rfl, Own64.nil _ _, Below.refl _ _⟩
      case round =>
        obtain ⟨j, n2, hg, hj, hnj, rfl, hO, hB⟩ := hrel
        have HG2 := Lib.hid hg
        clear hg
        obtain ⟨av2, cv2, rfl⟩ := own_slice hO
        have hbs2 := hB.size
        by_cases hlt2 : j < k + 1
        · have y1 : (j : Int) < (k : Int) + 1 := by omega
          have y2 : (j : Int) < ((k + 1 : Nat) : Int) := by omega
          have y0 : (0 : Int) ≤ (j : Int) := by omega
          obtain ⟨bb, off, rfl, d1, _⟩ := (RP.below hB).row j hlt2
          rw [Pl.nums_at _ _ _ hlt2, mp_num HF.out] at d1
          have HR := Lib.hid (range_filter_snoc (mpb m f) j)
          by_cases hc : mpb m f j = true
          · rw [if_pos hc] at d1
            have HF2 : Hid (ints ((List.range (j + 1)).filter (mpb m f)) = ints ((List.range j).filter (mpb m f)) ++ [(j : Int)]) := by
              show _ = _
              rw [HR.out, if_pos hc, ints_snoc]
            clear HR hc
            go_wp2_with (at_builtin; refine wpList_append_own _ rfl _ _ 65 rfl W5.heap.size 3 i0 (.int .i64 0) 1 8 Tryz.underlying65 hi hz0 hz1 hz2 rfl (by decide) _ n2 _ rfl (World.ownsRow.alloc hO _) ⟨wr.heap.size, 0, none⟩ 1 1 [.int .i64 (j : Int)] rfl rfl (cell_one_new _ _ _) (ints_oneCell .i64 [_]) (by unfold maxLen; omega) (by omega) (by simp; omega) ?_; intro v7 w7 hown7 hgrow _)
            have ho7 : Own64 w7 W5.heap.size v7 (n2 + 1) (ints ((List.range (j + 1)).filter (mpb m f))) := by
              unfold Own64
              rw [HF2.out, ← cells64_append]
              exact hown7
            have b7 : Below W5.heap.size W5 w7 := (hB.alloc hbs2 _).grown hgrow (by simp; omega) (fun g hg => (hO.block g hg).1)
            clear hown7 hgrow hO hB
            go_wp2_with fail
            go_roundg (k + 1 - (j + 1))
            case measure => have := HG2.out; omega
            case rel => exact ⟨j + 1, n2 + 1, rfl, by omega, by omega, by go_num, ho7, b7⟩
          · rw [if_neg hc] at d1
            have HO2 : Hid (Own64 wr W5.heap.size (.slice av2 n2 cv2) n2 (ints ((List.range (j + 1)).filter (mpb m f)))) := by
              show Own64 _ _ _ _ _
              rw [HR.out, if_neg hc, List.append_nil]; exact hO
            clear HR hc hO
            go_wp2_with fail
            go_roundg (k + 1 - (j + 1))
            case measure => have := HG2.out; omega
            case rel => exact ⟨j + 1, n2, rfl, by omega, by omega, by go_num, HO2.out, hB⟩
        · obtain rfl : j = k + 1 := by omega
          obtain ⟨a9, c9, e9, hN⟩ := Bin.own_row (es := (List.range (k + 1)).filter (mpb m f)) hO
          simp only [Value.slice.injEq] at e9
          obtain ⟨rfl, _, rfl⟩ := e9
          have B3 := B2.trans (hB.mono B2.size)
          have HXP : Hid (Bin.xp ((List.range (k + 1)).filter (mpb m f)) = mpv m f) := by show _ = _; rw [xp_nb, HL.out]; rfl
          clear hO hB B2 RP hlt2
          go_wp2_with fail
          refine (Bin.rofV _ n2 _ _ wr hN (by omega) (fun e he => by have := List.mem_range.1 (List.mem_filter.1 he).1; omega)).mono ?_
          rintro e w8 ⟨a8, n8, c8, rfl, h8, b8⟩
          rw [HXP.out] at h8
          have HB8 := Lib.hid (B3.trans (b8.mono B3.size))
          have H8 : Hid (Bin.NewV w w8 300 a8 n8 c8 (mpv m f)) := by
            obtain ⟨X, h1, h2, h3, h4⟩ := h8
            exact ⟨X, h1.from B3.size, h2, h3, h4⟩
          clear h8 b8 B3 hN
          go_wp2_with fail
          go_ret
          exact ⟨a8, n8, c8, rfl, H8.out, HB8.out⟩
end
end Go.Proofs.YtdhcigiaidlmbaaGreatDoor.Cos
/- The examples of chapter 5, as the statements ask them first of all; the field that a statement makes; Cosets. By the verifier of shale. -/
namespace Go.Proofs.YtdhcigiaidlmbaaGreatDoor.Cos
open Go Go.RowKit Bin
set_option linter.unusedVariables false
theorem litB (w W : World) (Y : List (BitVec 8)) (k v : Nat) (hW : W = w.alloc (obj8 Y)) (hk : k = Y.length) (hm : k ≤ 1000) (hb : Bare Y) (hv : val Y = v) : NewV w W k (some ⟨w.heap.size, 0, none⟩) k k v ∧ Below w.heap.size w W := by
  subst hW
  exact ⟨⟨Y, ⟨hk, Nat.le_refl _, by unfold maxLen; omega, Or.inr ⟨_, rfl, Nat.le_refl _, buf_of_blk (Blk8.new w Y)⟩⟩, hb, hv, Nat.le_refl _⟩, (Below.refl _ _).alloc (Nat.le_refl _) _⟩
instance : Pl.Mid 4 := ⟨by decide, by decide⟩
theorem f1 : cos 4 (rs 4 5) = [5, 10] := by decide +kernel
theorem f2 : gpr 4 (leads 4 1 2 2) = 0x1d1 := by decide +kernel
theorem f3 : mpv 4 (rs 4 3) = 0x1f := by decide +kernel
theorem f4 : dgs 4 (leads 4 1 2 2) < sz 4 := by decide +kernel
theorem f5 : sz 4 ≤ dgs 4 (leads 4 1 2 8) := by decide +kernel
/-- the m that a statement makes of any number. -/
def mk7 (z : Int) : Nat := (z % 7).toNat + 3
instance (z : Int) : Pl.Mid (mk7 z) := ⟨by unfold mk7; omega, by unfold mk7; omega⟩
def MadeAt (m : Nat) (w : World) (e : Ending) (w' : World) : Prop := ∃ s be ce bl, e = .returned (.tuple #[.pointer (some ⟨s, 0, none⟩), .int .i64 (m : Int)]) ∧ Fld.FldAt m w' s be ce bl ∧ Below w.heap.size w w'
end Go.Proofs.YtdhcigiaidlmbaaGreatDoor.Cos
/- The reference's Generator. By the verifier of shale. -/
namespace Go.Proofs.YtdhcigiaidlmbaaGreatDoor.Cos
open Go Go.RowKit Bin
set_option linter.unusedVariables false
section
variable {m : Nat} [M : Pl.Mid m]
theorem mpv_room {f : Nat} (hf : f < sz m) : mpv m f < room 2 := by
  have h1 := mpv_lt (m := m) f
  have h2 := cos_len_le M.lo hf
  have h3 := M.hi
  exact Nat.lt_of_lt_of_le h1 (Nat.pow_le_pow_right (by decide) (by omega))
def RGenAt (m : Nat) [M : Pl.Mid m] (t : Nat) (w : World) (e : Ending) (w' : World) : Prop :=
  (dgs m (leads m 1 2 t) < sz m ∧ ∃ a n c, e = .returned (.tuple #[.slice a n c, .int .i64 0]) ∧ NewV w w' 81 a n c (gpr m (leads m 1 2 t)) ∧ Below w.heap.size w w') ∨
  (sz m ≤ dgs m (leads m 1 2 t) ∧ e = .returned (.tuple #[.slice none 0 0, .int .i64 105]) ∧ Below w.heap.size w w')
set_option maxRecDepth 100000 in
set_option maxHeartbeats 1000000 in
theorem rgenerator_any (t : Nat) (ht1 : 1 ≤ t) (ht2 : t ≤ 40) (w : World) :
    Calls Tryz.prog 62 #[.int .i64 (m : Int), .int .i64 (t : Int)] w (RGenAt m t w) := by
  go_enter Tryz.func62, Tryz.ntmps62
  go_wp2_with fail
  refine (rleast_any m t M.lo M.hi ht1 ht2 w).mono ?_
  rintro e w1 (⟨hd, a1, n1, c1, rfl, R, B⟩ | ⟨hd, rfl, B⟩)
  rotate_left
  · have HD := Lib.hid hd
    clear hd
    go_wp2_with fail
    go_ret2
    exact Or.inr ⟨HD.out, rfl, B⟩
  · have hl : n1 = (leadsI m t).length := by have := R.hlen; rwa [ints_length] at this
    have hnm : n1 ≤ 40 := by rw [hl, leadsI_len]; have := leads_le m 1 2 t; omega
    have HL := Lib.hid hl
    have HD := Lib.hid hd
    clear hd hl
    go_wp2_with fail
    generalize hw : w1.alloc (.cells #[.int .u8 1] 5 (0, 0)) = w2
    obtain ⟨h1, b⟩ := litB w1 w2 [1#8] 1 1 hw.symm rfl (by decide) (fun _ => by decide) (by decide)
    clear hw
    have HG : Hid (NewV w w2 1 (some ⟨w1.heap.size, 0, none⟩) 1 1 (gpr m (((leadsI m t).map (· % sz m)).take 0))) := newV_from h1 B.size
    have HS : Hid (Pl.RowZ w2 a1 n1 c1 (ints (leadsI m t)) ∧ Below w.heap.size w w2) := ⟨R.below b, B.trans (b.mono B.size)⟩
    generalize (some ⟨w1.heap.size, 0, none⟩ : Option Addr) = ag at HG ⊢
    clear h1 b R B
    go_loopg [9, 10] n1 (fun gh s9 s10 wx => ∃ (k : Nat) (ax : Option Addr) (nx cx : Nat), gh = n1 - k ∧ k ≤ n1 ∧ s10 = .int .i64 (k : Int) ∧ s9 = .slice ax nx cx ∧ Hid (NewV w wx (1 + 2 * k) ax nx cx (gpr m (((leadsI m t).map (· % sz m)).take k))) ∧ Hid (Pl.RowZ wx a1 n1 c1 (ints (leadsI m t)) ∧ Below w.heap.size w wx))
    case atStart => exact ⟨0, ag, 1, 1, rfl, Nat.zero_le _, rfl, rfl, HG, HS⟩
    case round =>
      clear HG HS
      obtain ⟨k, ax, nx, cx, hg, hk, rfl, rfl, HP, HS⟩ := hrel
      have HGh := Lib.hid hg
      clear hg
      by_cases hlt : k < n1
      · have x1 : (k : Int) < (n1 : Int) := by omega
        have x0 : (0 : Int) ≤ (k : Int) := by omega
        have hkl : k < (leadsI m t).length := by rw [← HL.out]; exact hlt
        obtain ⟨bb, off, rfl, d1, _⟩ := HS.out.1.row k hlt
        obtain ⟨u, hu⟩ : ∃ u, u = (leadsI m t).getD k 0 := ⟨_, rfl⟩
        have eu : (ints (leadsI m t)).getD k 0 = (u : Int) := by
          rw [hu]
          unfold Cos.ints
          rw [List.getD_eq_getElem?_getD, List.getElem?_map, List.getD_eq_getElem?_getD, List.getElem?_eq_getElem hkl]; rfl
        rw [eu] at d1
        have hrs : rs m (u : Int) = u % sz m := by unfold rs; rw [← Int.natCast_emod]; exact Int.toNat_natCast _
        have hum : ((leadsI m t).map (· % sz m)).getD k 0 = u % sz m := by
          rw [hu, List.getD_eq_getElem?_getD, List.getElem?_map, List.getD_eq_getElem?_getD, List.getElem?_eq_getElem hkl]; rfl
        have HT : Hid (gpr m (((leadsI m t).map (· % sz m)).take (k + 1)) = pm (gpr m (((leadsI m t).map (· % sz m)).take k)) (mpv m (u % sz m))) := by
          show _ = _
          rw [take_snocN _ k (by rw [List.length_map]; exact hkl), gpr_snoc, hum]
        have hus : u % sz m < sz m := Nat.mod_lt _ (by have := sz_lo M.lo; omega)
        have HX := Lib.hid hrs
        have HRm := Lib.hid (mpv_room (m := m) hus)
        clear hu eu hrs hum hus hkl
        go_wp2_with fail
        refine (rminimal_any (m := m) (u : Int) wr).mono ?_
        rintro e w5 ⟨a5, n5, c5, rfl, h5, b5⟩
        rw [HX.out] at h5
        have P2 := (NewV.fit h5 HRm.out).pol
        have P1 := (newV_since HP.out b5).pol
        have HS5 : Hid (Pl.RowZ w5 (some ⟨bb, off, none⟩) n1 c1 (ints (leadsI m t)) ∧ Below w.heap.size w w5) := ⟨HS.out.1.below b5, HS.out.2.trans (b5.mono HS.out.2.size)⟩
        clear HP HS h5 b5 d1
        go_wp2_with fail
        refine (rmulV (1 + 2 * (k + 1)) P1 P2 (by omega) (by decide) (by omega)).mono ?_
        rintro e w6 ⟨a6, n6, c6, rfl, h6, b6⟩
        have HP6 : Hid (NewV w w6 (1 + 2 * (k + 1)) a6 n6 c6 (gpr m (((leadsI m t).map (· % sz m)).take (k + 1)))) := by
          show NewV _ _ _ _ _ _ _
          rw [HT.out]
          exact newV_from h6 HS5.out.2.size
        have HS6 : Hid (Pl.RowZ w6 (some ⟨bb, off, none⟩) n1 c1 (ints (leadsI m t)) ∧ Below w.heap.size w w6) := ⟨HS5.out.1.below b6, HS5.out.2.trans (b6.mono HS5.out.2.size)⟩
        clear HS5 h6 b6 P1 P2
        go_wp2_with fail
        go_roundg (n1 - (k + 1))
        case measure => have := HGh.out; omega
        case rel => exact ⟨k + 1, a6, n6, c6, rfl, by omega, by go_num, rfl, HP6, HS6⟩
      · obtain rfl : k = n1 := by omega
        have HF : Hid (NewV w wr 81 ax nx cx (gpr m (leads m 1 2 t))) := by
          have h := newV_more HP.out (by omega : 1 + 2 * k ≤ 81)
          rwa [List.take_of_length_le (by rw [List.length_map, HL.out]; exact Nat.le_refl _), leadsI_map] at h
        go_wp2_with fail
        go_ret2
        exact Or.inl ⟨HD.out, ax, nx, cx, rfl, HF.out, HS.out.2⟩
end
end Go.Proofs.YtdhcigiaidlmbaaGreatDoor.Cos
/- The walks over the reference's codes: New, Parity, Bits. By the verifier of shale. -/
namespace Go.Proofs.YtdhcigiaidlmbaaGreatDoor.Enc
open Go Go.RowKit Bin Cos
set_option linter.unusedVariables false
/-- the reference's code as plain data. -/
abbrev cdV (m t n : Nat) (ga : Option Addr) (gn gc D : Nat) : Value := .agg #[.int .i64 (m : Int), .int .i64 (t : Int), .int .i64 (n : Int), .slice ga gn gc, .int .i64 (D : Int)]
def cdO (a b c d e : Value) : Obj := .cells #[a, b, c, d, e] 27 (0, 0)
theorem cd_cells {w : World} {s : Nat} {a b c d e : Value} (h : w.heap[s]? = some (cdO a b c d e)) :
    w.cell? ⟨s, 0, none⟩ = some a ∧ w.cell? ⟨s, 1, none⟩ = some b ∧ w.cell? ⟨s, 2, none⟩ = some c ∧ w.cell? ⟨s, 3, none⟩ = some d ∧ w.cell? ⟨s, 4, none⟩ = some e ∧ ∀ i, w.frozen? ⟨s, i, none⟩ = false := by
  refine ⟨?_, ?_, ?_, ?_, ?_, ?_⟩
  all_goals first | (unfold World.cell?; simp only; rw [h]; rfl) | (intro i; unfold World.frozen?; simp only; rw [h]; unfold cdO; simp)
theorem newV_only {w0 w w' : World} {K : Nat} {a : Option Addr} {n c v s : Nat} (h : NewV w0 w K a n c v) (o : Only s w w') (hs : s < w0.heap.size) : NewV w0 w' K a n c v := by
  obtain ⟨X, h1, h2, h3, h4⟩ := h
  refine ⟨X, ⟨h1.hlen, h1.hcap, h1.hmost, ?_⟩, h2, h3, h4⟩
  rcases h1.own with h | ⟨g, e, hg, hx⟩
  · exact Or.inl h
  · exact Or.inr ⟨g, e, hg, buf_only hx o (by omega)⟩
section
variable {m : Nat} [M : Pl.Mid m]
def RMadeAt (m t n : Nat) [M : Pl.Mid m] (w : World) (e : Ending) (w' : World) : Prop := ∃ ga gn gc, e = .returned (.tuple #[cdV m t n ga gn gc (deg m t), .int .i64 0]) ∧ NewV w w' 81 ga gn gc (gen m t) ∧ Below w.heap.size w w'
set_option maxRecDepth 100000 in
set_option maxHeartbeats 1000000 in
theorem rnew_any {t n : Nat} (H : May m t n) (w : World) :
    Calls Tryz.prog 34 #[.int .i64 (m : Int), .int .i64 (t : Int), .int .i64 (n : Int)] w (RMadeAt m t n w) := by
  have ho := Fld.shl_one m M.hi
  have hn7 := sz_lo M.lo
  have hn2 := sz_hi M.hi
  have hw : IntKind.i64.wrap ((Fld.els m : Int) - 1) = (sz m : Int) := by
    have : (Fld.els m : Int) - 1 = (sz m : Int) := by unfold Fld.els sz; have := Nat.two_pow_pos m; omega
    rw [this]; exact IntWalk.i64_in _ (by omega)
  have hm1 := M.lo
  have hm14 := M.hi
  have m0 : (0 : Int) ≤ (m : Int) := by omega
  have m64 : (m : Int) ≤ 14 := by omega
  have n1 : ¬ (n : Int) < 1 := by have := H.n1; omega
  have n2 : ¬ (2048 : Int) < (n : Int) := by have := H.n2; omega
  have n3 : n ≤ 2048 := H.n2
  have hD2 := deg_560 (m := m) H.t2
  obtain ⟨D, hD⟩ : ∃ D, D = deg m t := ⟨_, rfl⟩
  have HDE := Lib.hid hD
  rw [← hD] at hD2
  have hroom : ¬ (sz m : Int) < 8 * (n : Int) + (D : Int) := by have := H.room; omega
  obtain ⟨N, hN⟩ : ∃ N, N = sz m := ⟨_, rfl⟩
  have HNE := Lib.hid hN
  rw [← hN] at hw hn7 hn2 hroom
  have HH := Lib.hid H
  have b0 : Below w.heap.size w (w.alloc (cdO (.int .i64 0) (.int .i64 0) (.int .i64 0) (.slice none 0 0) (.int .i64 0))) := (Below.refl _ _).alloc (Nat.le_refl _) _
  have hz : w.heap.size < (w.alloc (cdO (.int .i64 0) (.int .i64 0) (.int .i64 0) (.slice none 0 0) (.int .i64 0))).heap.size := by simp
  have hblk : (w.alloc (cdO (.int .i64 0) (.int .i64 0) (.int .i64 0) (.slice none 0 0) (.int .i64 0))).heap[w.heap.size]? = some (cdO (.int .i64 0) (.int .i64 0) (.int .i64 0) (.slice none 0 0) (.int .i64 0)) := heap_alloc_new w _
  have HI := Lib.hid (And.intro b0 (And.intro hz hblk))
  clear hD hN H b0 hz hblk
  go_enter Tryz.func34, Tryz.ntmps34
  go_wp2_with fail
  obtain ⟨b0, hz, hblk⟩ := HI.out
  clear HI
  rw [show Obj.cells #[Value.int IntKind.i64 0, Value.int IntKind.i64 0, Value.int IntKind.i64 0, Value.slice none 0 0, Value.int IntKind.i64 0] 27 (0, 0) = cdO (.int .i64 0) (.int .i64 0) (.int .i64 0) (.slice none 0 0) (.int .i64 0) from rfl]
  generalize w.alloc (cdO (.int .i64 0) (.int .i64 0) (.int .i64 0) (.slice none 0 0) (.int .i64 0)) = w0 at b0 hz hblk ⊢
  refine (rleast_any m t M.lo M.hi HH.out.t1 HH.out.t2 w0).mono ?_
  rintro e w1 (⟨hd, a1, n1', c1, rfl, R, B⟩ | ⟨hd, rfl, B⟩)
  rotate_left
  · exact absurd hd (by have := HH.out.least; unfold deg at this; omega)
  rw [show dgs m (leads m 1 2 t) = D from HDE.out.symm]
  have B1 := b0.trans (B.mono b0.size)
  have hb1 := (B.block _ hz).trans hblk
  have hz1 := Nat.lt_of_lt_of_le hz B.size
  clear hd R B b0 hblk hz
  go_wp2_with fail
  refine (rgenerator_any (m := m) t HH.out.t1 HH.out.t2 w1).mono ?_
  rintro e w2 (⟨hd, ga, gn, gc, rfl, hG, b⟩ | ⟨hd, rfl, b⟩)
  rotate_left
  · exact absurd hd (by have := HH.out.least; unfold deg at this; omega)
  have hb2 := (b.block _ hz1).trans hb1
  obtain ⟨c0, c1, c2, c3, c4, cf⟩ := cd_cells hb2
  have HG := Lib.hid (And.intro hG (B1.trans (b.mono B1.size)))
  have hz2 := Nat.lt_of_lt_of_le hz1 b.size
  have hs1 := Nat.le_of_lt hz1
  clear hd hG b B1 hb1 hb2
  go_wp2_with fail
  obtain ⟨hG, B2⟩ := HG.out
  have e5 := HDE.out
  have o5 := ((((Only.setCell w2 ⟨w.heap.size, 0, none⟩ (.int .i64 (m : Int))).trans (Only.setCell _ ⟨w.heap.size, 1, none⟩ (.int .i64 (t : Int)))).trans (Only.setCell _ ⟨w.heap.size, 2, none⟩ (.int .i64 (n : Int)))).trans (Only.setCell _ ⟨w.heap.size, 3, none⟩ (.slice ga gn gc))).trans (Only.setCell _ ⟨w.heap.size, 4, none⟩ (.int .i64 (D : Int)))
  exact bodyPost_ret (v := .tuple #[cdV m t n ga gn gc D, .int .i64 0]) (by simp [results, Tryz.results34, go_sem, c0, c1, c2, c3, c4]) rfl ⟨ga, gn, gc, by rw [← e5], newV_from (newV_only hG o5 hz1) hs1, B2.trans (o5.below (Nat.le_refl _))⟩
end
end Go.Proofs.YtdhcigiaidlmbaaGreatDoor.Enc
/- The walk over the reference's Serial. By the verifier of shale. -/
namespace Go.Proofs.YtdhcigiaidlmbaaGreatDoor.Enc
open Go Go.RowKit Bin Cos
set_option linter.unusedVariables false
set_option maxRecDepth 100000 in
theorem rBit {w : World} {k : Nat} {a : Option Addr} {n c u : Nat} (h : PolV w k a n c u) (d : Nat) (hd : d ≤ 1000000) :
    Calls Tryz.prog 60 #[.slice a n c, .int .i64 (d : Int)] w fun e w' => e = .returned (.int .i64 (bz (u.testBit d))) ∧ w = w' := by
  obtain ⟨X, p1, rfl, n1⟩ := h
  have HP := Lib.hid p1
  have HB := Lib.hid (bitZ_bz X d)
  clear p1
  go_enter Tryz.func60, Tryz.ntmps60
  go_wp2_with fail
  refine (rbit_any a n c X (d : Int) w HP.out (by omega)).mono ?_
  rintro e w1 ⟨rfl, rfl⟩
  rw [HB.out]
  go_wp2_with fail
  go_ret
  exact ⟨rfl, rfl⟩
set_option maxRecDepth 100000 in
set_option maxHeartbeats 400000 in
theorem rparity_any (m t n : Nat) (ga : Option Addr) (gn gc D : Nat) (hD : D ≤ 1000) (w : World) :
    Calls Tryz.prog 42 #[cdV m t n ga gn gc D] w fun e w' => e = .returned (.int .i64 (pb D : Int)) ∧ Below w.heap.size w w' := by
  have b0 : Below w.heap.size w (w.alloc (cdO (.int .i64 (m : Int)) (.int .i64 (t : Int)) (.int .i64 (n : Int)) (.slice ga gn gc) (.int .i64 (D : Int)))) := (Below.refl _ _).alloc (Nat.le_refl _) _
  obtain ⟨P, hP⟩ : ∃ P, P = pb D := ⟨_, rfl⟩
  have hP2 : P = (D + 7) / 8 := hP
  rw [← hP]
  have q0 : ((D : Int) + 7).tdiv 8 = (P : Int) := by rw [Int.tdiv_eq_ediv_of_nonneg (by omega)]; omega
  have q00 : ((D : Int) + 7) / 8 = (P : Int) := by omega
  clear hP hP2
  go_enter Tryz.func42, Tryz.ntmps42
  go_wp2_with fail
  go_ret
  exact ⟨rfl, b0⟩
end Go.Proofs.YtdhcigiaidlmbaaGreatDoor.Enc
/- The walks over what the statements of chapter 6 make: fit, Distance, the reference's Flip. By the verifier of shale. -/
namespace Go.Proofs.YtdhcigiaidlmbaaGreatDoor.Enc
open Go Go.RowKit Bin Cos
set_option linter.unusedVariables false
/-- data of a length, made of any. -/
def fitL (b : List (BitVec 8)) (n : Nat) : List (BitVec 8) := b.take n ++ List.replicate (n - b.length) 0
theorem fitL_length (b : List (BitVec 8)) (n : Nat) : (fitL b n).length = n := by
  unfold fitL
  rw [List.length_append, List.length_take, List.length_replicate]; omega
theorem splice_fit (b : List (BitVec 8)) (n : Nat) : splice (List.replicate n (Value.int .u8 0)) 0 (cells8 (b.take n)) = cells8 (fitL b n) := by
  unfold splice fitL
  rw [List.take_zero, List.nil_append, Nat.zero_add, cells8_length, List.length_take, List.drop_replicate]
  unfold cells8
  rw [List.map_append, List.map_replicate]
  congr 2
  omega
theorem len_inj {l k : List (BitVec 8)} (h : l.length = k.length) (hv : val l = val k) : l = k := nth8_ext h fun i _ => nth8_of_val hv i
set_option maxRecDepth 100000 in
set_option maxHeartbeats 1000000 in
theorem distance_any (a a' : Option Addr) (n c c' : Nat) (X Y : List (BitVec 8)) (hn : n ≤ 10000) (w : World) (hX : Pol w a n c X) (hY : Pol w a' n c' Y) :
    Calls Tryz.prog 31 #[.slice a n c, .slice a' n c'] w fun e w' => e = .returned (.int .i64 (pop (val X ^^^ val Y) (8 * n) : Int)) ∧ w = w' := by
  have PX : PolV w n a n c (val X) := ⟨X, hX, rfl, Nat.le_refl _⟩
  have PY : PolV w n a' n c' (val Y) := ⟨Y, hY, rfl, Nat.le_refl _⟩
  obtain ⟨U, hU⟩ : ∃ U, U = val X := ⟨_, rfl⟩
  obtain ⟨V, hV⟩ : ∃ V, V = val Y := ⟨_, rfl⟩
  rw [← hU] at PX ⊢
  rw [← hV] at PY ⊢
  have HX := Lib.hid PX
  have HY := Lib.hid PY
  have p0 : pop (U ^^^ V) 0 = 0 := rfl
  have HP0 := Lib.hid p0
  clear hU hV hX hY PX PY p0
  go_enter Tryz.func31, Tryz.ntmps31
  go_wp2_with fail
  go_loopg [5, 6] (8 * n) (fun gh s5 s6 wx => ∃ (k : Nat), gh = 8 * n - k ∧ k ≤ 8 * n ∧ s6 = .int .i64 (k : Int) ∧ s5 = .int .i64 (pop (U ^^^ V) k : Int) ∧ w = wx)
  case atStart => exact ⟨0, rfl, Nat.zero_le _, rfl, by rw [HP0.out]; rfl, rfl⟩
  case round =>
    clear HP0
    obtain ⟨k, hg, hk, rfl, rfl, rfl⟩ := hrel
    have HG := Lib.hid hg
    clear hg
    have hpk : pop (U ^^^ V) k ≤ k := by
      unfold pop plc
      have := List.length_filter_le (fun i => (U ^^^ V).testBit i) (List.range k)
      rw [List.length_range] at this
      exact this
    by_cases hlt : k < 8 * n
    · have x1 : (k : Int) < 8 * (n : Int) := by omega
      have HB1 := Lib.hid (rBit HX.out k (by omega))
      have HB2 := Lib.hid (rBit HY.out k (by omega))
      have HPS := Lib.hid (pop_succ (U ^^^ V) k)
      rw [Nat.testBit_xor] at HPS
      have HI : Hid (k + 1 ≤ 8 * n) := hlt
      have t1 : (bz (U.testBit k) == bz (V.testBit k)) = !(U.testBit k ^^ V.testBit k) := by cases U.testBit k <;> cases V.testBit k <;> rfl
      obtain ⟨p, hp⟩ : ∃ p, p = pop (U ^^^ V) k := ⟨_, rfl⟩
      rw [← hp] at hpk HPS ⊢
      clear hp
      cases hx : (U.testBit k ^^ V.testBit k)
      · rw [hx] at HPS t1
        generalize bz (U.testBit k) = b1 at HB1 t1
        generalize bz (V.testBit k) = b2 at HB2 t1
        replace t1 : (b1 == b2) = true := t1
        clear hx
        go_wp2_with fail
        refine HB1.out.mono ?_
        rintro e w' ⟨rfl, rfl⟩
        go_wp2_with fail
        refine HB2.out.mono ?_
        rintro e w' ⟨rfl, rfl⟩
        go_wp2_with fail
        go_roundg (8 * n - (k + 1))
        case measure => have := HG.out; have := HI.out; omega
        case rel => exact ⟨k + 1, rfl, HI.out, by go_num, by rw [HPS.out]; rfl, rfl⟩
      · rw [hx] at HPS t1
        generalize bz (U.testBit k) = b1 at HB1 t1
        generalize bz (V.testBit k) = b2 at HB2 t1
        replace t1 : (b1 == b2) = false := t1
        clear hx
        go_wp2_with fail
        refine HB1.out.mono ?_
        rintro e w' ⟨rfl, rfl⟩
        go_wp2_with fail
        refine HB2.out.mono ?_
        rintro e w' ⟨rfl, rfl⟩
        go_wp2_with fail
        go_roundg (8 * n - (k + 1))
        case measure => have := HG.out; have := HI.out; omega
        case rel => exact ⟨k + 1, rfl, HI.out, by go_num, by rw [HPS.out]; rfl, rfl⟩
    · obtain rfl : k = 8 * n := by omega
      obtain ⟨p, hp⟩ : ∃ p, p = pop (U ^^^ V) (8 * n) := ⟨_, rfl⟩
      rw [← hp] at hpk ⊢
      have HPp := Lib.hid hp
      clear hp
      go_wp2_with fail
      go_ret
      rw [← HPp.out]
      exact ⟨rfl, rfl⟩
end Go.Proofs.YtdhcigiaidlmbaaGreatDoor.Enc
/- What is amiss, as numbers: the values of a word at the powers of a. By the verifier of shale. -/
namespace Go.Proofs.YtdhcigiaidlmbaaGreatDoor.Syn
open Go Bin Pl Cos Enc
set_option linter.unusedVariables false
section
variable {m : Nat} [M : Mid m]
/-- the value of the word v at a^j. -/
def sv (m : Nat) [M : Mid m] (v j : Nat) : BitVec 16 := (vv (m := m) v (xe m j)).val
theorem sv_xor (a b j : Nat) : sv m (a ^^^ b) j = sv m a j ^^^ sv m b j := by unfold sv; rw [vv_xor]; rfl
theorem plc_pow (p : Nat) : ∀ n, plc (2 ^ p) n = if p < n then [p] else []
  | 0 => rfl
  | n + 1 => by
    rw [plc_succ, plc_pow p n, Nat.testBit_two_pow]
    by_cases h : p = n
    · subst h; simp
    · by_cases h2 : p < n
      · simp [h, h2, show p < n + 1 by omega]
      · simp [h, h2, show ¬ p < n + 1 by omega]
theorem sv_pow (p j : Nat) : sv m (2 ^ p) j = Fld.pwZ m ((p * j : Nat) : Int) := by
  unfold sv
  rw [vv_plc (n := p + 1) (Nat.pow_lt_pow_right (by decide) (by omega)), plc_pow, if_pos (by omega)]
  show (xe m (j * p) + 0).val = _
  rw [Fl.add_zero, Nat.mul_comm]; rfl
theorem sumE_sq (f : Nat → El m) : ∀ l : List Nat, sumE (l.map f) * sumE (l.map f) = sumE (l.map fun p => f p * f p)
  | [] => Pl.mul_zero 0
  | a :: t => by
    show (f a + sumE (t.map f)) * (f a + sumE (t.map f)) = f a * f a + sumE (t.map fun p => f p * f p)
    rw [sq_add, sumE_sq f t]
theorem vv_sq (v j : Nat) : vv (m := m) v (xe m (2 * j)) = vv v (xe m j) * vv v (xe m j) := by
  have h : v < 2 ^ v := Nat.lt_two_pow_self
  rw [vv_plc h, vv_plc h, sumE_sq]
  congr 1
  refine List.map_congr_left fun p _ => ?_
  rw [xe_mul]
  congr 1
  rw [Nat.mul_assoc, Nat.two_mul]
theorem sv_sq (v j : Nat) : sv m v (2 * j) = Fld.fmul m (sv m v j) (sv m v j) := by
  unfold sv; rw [vv_sq]; rfl
theorem sv_dvd {t v j : Nat} (h : Dvd (gen m t) v) (h1 : 1 ≤ j) (h2 : j ≤ 2 * t) : sv m v j = 0 := by
  unfold sv; rw [dvd_root h (gen_root h1 h2)]; rfl
/-- the word of these places, each turned as often as it stands there. -/
def xs (l : List Nat) : Nat := l.foldl (fun v p => v ^^^ 2 ^ p) 0
theorem xs_take (l : List Nat) (k : Nat) (h : k < l.length) : xs (l.take (k + 1)) = xs (l.take k) ^^^ 2 ^ l[k] := by
  unfold xs
  rw [List.take_succ_eq_append_getElem h, List.foldl_append]; rfl
/-- the value of the places as a sum from the first on. -/
theorem sv_xs_take (l : List Nat) (k j : Nat) (h : k < l.length) : sv m (xs (l.take (k + 1))) j = sv m (xs (l.take k)) j ^^^ Fld.pwZ m ((l[k] * j : Nat) : Int) := by
  rw [xs_take l k h, sv_xor, sv_pow]
/-- the values that are asked for: 2t of them. -/
def syn (m : Nat) [M : Mid m] (v n : Nat) : List Nat := (List.range n).map fun i => (sv m v (i + 1)).toNat
theorem syn_length (v n : Nat) : (syn m v n).length = n := by unfold syn; rw [List.length_map, List.length_range]
/-- the values of a word with the parity handed in are those of what the parity differs by. -/
theorem sv_word {t X Y j : Nat} (hY : Y < 2 ^ deg m t) (h1 : 1 ≤ j) (h2 : j ≤ 2 * t) : sv m (wrd (deg m t) X Y) j = sv m (prt (gen m t) (deg m t) X ^^^ Y) j := by
  have hg := gen_deg (m := m) t
  have h := sv_dvd (m := m) (wrd_dvd hg X) h1 h2
  have e : wrd (deg m t) X Y = wrd (deg m t) X (prt (gen m t) (deg m t) X) ^^^ (prt (gen m t) (deg m t) X ^^^ Y) := by
    unfold wrd
    rw [Nat.xor_assoc]
    congr 1
    rw [← Nat.xor_assoc, Nat.xor_self, Nat.zero_xor]
  rw [e, sv_xor, h]
  exact BitVec.zero_xor
end
end Go.Proofs.YtdhcigiaidlmbaaGreatDoor.Syn
/- Which places are mended: the mathematics of chapter 10. By the verifier of shale. -/
namespace Go.Proofs.YtdhcigiaidlmbaaGreatDoor.Dec
open Go Bin Pl Cos Enc Syn Loc Sea
set_option linter.unusedVariables false
section
variable {m : Nat} [M : Mid m]
/-- the values of a word, as a series. -/
def Sv (m : Nat) [M : Mid m] (v : Nat) : Ser (El m) := fun i => vv v (xe m (i + 1))
theorem Sv_sq (v i : Nat) : Sv m v (2 * i + 1) = Sv m v i * Sv m v i := vv_sq v (i + 1)
theorem Sv_xor (a b i : Nat) : Sv m (a ^^^ b) i = Sv m a i + Sv m b i := vv_xor a b _
theorem pows_sum (l : List (El m)) (i : Nat) : pows l i = sumE (l.map fun a => pwK a (i + 1)) := by
  have H : ∀ (l : List (El m)) (v : El m), l.foldl (fun v a => v + pwK a (i + 1)) v = v + sumE (l.map fun a => pwK a (i + 1)) := by
    intro l
    induction l with
    | nil => intro v; exact (Fl.add_zero v).symm
    | cons a l ih =>
      intro v
      show l.foldl _ (v + pwK a (i + 1)) = v + (pwK a (i + 1) + sumE _)
      rw [ih, Fl.add_assoc]
  show l.foldl _ 0 = _
  rw [H, zero_add]
theorem Sv_pows {v n : Nat} (h : v < 2 ^ n) : Sv m v = pows ((plc v n).map (xe m)) := funext fun i => by
  rw [pows_sum, List.map_map]
  show vv v (xe m (i + 1)) = _
  rw [vv_plc h]
  congr 1
  refine List.map_congr_left fun p _ => ?_
  show xe m ((i + 1) * p) = pwK (exK m (p : Int)) (i + 1)
  rw [exK_pow]
  show exK m (((i + 1) * p : Nat) : Int) = _
  congr 1
  rw [Int.natCast_mul, Int.mul_comm]
theorem xe_ne (p : Nat) : xe m p ≠ 0 := exK_ne (p : Int)
theorem plc_ne (e N : Nat) : ∀ a ∈ (plc e N).map (xe m), a ≠ 0 := fun a ha => by
  obtain ⟨p, _, rfl⟩ := List.mem_map.1 ha
  exact xe_ne p
theorem plc_dist {e N : Nat} (hN : N ≤ Fld.size m) : ((plc e N).map (xe m)).Nodup := by
  have h1 := plc_nodup e N
  have h2 : ∀ p ∈ plc e N, p < Fld.size m := fun p hp => by have := (mem_plc.1 hp).1; omega
  generalize plc e N = l at h1 h2
  induction l with
  | nil => exact List.nodup_nil
  | cons x l ih =>
    rw [List.nodup_cons] at h1
    show (xe m x :: l.map (xe m)).Nodup
    rw [List.nodup_cons]
    refine ⟨fun hx => h1.1 ?_, ih h1.2 fun p hp => h2 p (List.mem_cons_of_mem _ hp)⟩
    obtain ⟨p, hp, e⟩ := List.mem_map.1 hx
    have := exK_nat (h2 p (List.mem_cons_of_mem _ hp)) (h2 x (List.mem_cons_self ..)) e
    rwa [← this]
/-- few bits amiss are found. -/
theorem bm_find {v e N t : Nat} (he : e < 2 ^ N) (hN : N ≤ Fld.size m) (hp : pop e N ≤ t) (hs : ∀ i, i < 2 * t → Sv m v i = Sv m e i) : (bm (Sv m v) (2 * t)).L = pop e N ∧ (bm (Sv m v) (2 * t)).c = lam ((plc e N).map (xe m)) := by
  rw [bm_ext hs, Sv_pows he]
  have := bm_places (plc_ne e N) (plc_dist (m := m) (e := e) hN) (N := 2 * t) (by rw [List.length_map]; show 2 * pop e N ≤ _; omega)
  rwa [List.length_map] at this
theorem lam_plc (e N : Nat) : lam ((plc e N).map (xe m)) = lamZ m (intsN (plc e N)) := by
  unfold lamZ intsN
  rw [List.map_map]; rfl
theorem lam_hits {e N K : Nat} (hN : N ≤ Fld.size m) (hK : pop e N + 1 ≤ K) : hits (zAt (lam ((plc e N).map (xe m))) K) N = plc e N := by
  rw [lam_plc]
  refine hits_same fun i hi => ?_
  rw [lam_at (fun p hp => by have := (mem_plc.1 hp).1; omega) hK (by omega)]
  rw [Bool.eq_iff_iff, decide_eq_true_iff, mem_plc]
  exact ⟨fun h => h.2, fun h => ⟨hi, h⟩⟩
theorem num_of (f : Nat → Bool) : ∀ n, ∃ e, e < 2 ^ n ∧ ∀ i, i < n → e.testBit i = f i
  | 0 => ⟨0, by simp, fun i hi => by omega⟩
  | n + 1 => by
    obtain ⟨e, h1, h2⟩ := num_of f n
    have hlt : e < 2 ^ (n + 1) := Nat.lt_of_lt_of_le h1 (Nat.pow_le_pow_right (by decide) (by omega))
    cases hf : f n
    · refine ⟨e, hlt, fun i hi => ?_⟩
      rcases Nat.lt_or_ge i n with h | h
      · exact h2 i h
      · obtain rfl : i = n := by omega
        rw [hf]; exact Nat.testBit_lt_two_pow h1
    · refine ⟨e ^^^ 2 ^ n, Nat.xor_lt_two_pow hlt (Nat.pow_lt_pow_right (by decide) (by omega)), fun i hi => ?_⟩
      rw [Nat.testBit_xor, Nat.testBit_two_pow]
      rcases Nat.lt_or_ge i n with h | h
      · rw [h2 i h, decide_eq_false (by omega), Bool.xor_false]
      · obtain rfl : i = n := by omega
        rw [hf, Nat.testBit_lt_two_pow h1]; simp
theorem cv_same {c A B : Ser (El m)} {n : Nat} (h0 : c 0 = 1) (h : ∀ i, i ≤ n → cv c A i = cv c B i) : ∀ i, i ≤ n → A i = B i := by
  have H : ∀ k i, i ≤ k → i ≤ n → padd A B i = 0 := by
    intro k
    induction k with
    | zero =>
      intro i hk hi
      obtain rfl : i = 0 := by omega
      have e := cv_first c (padd A B) 0 fun j h1 h2 => by omega
      rw [cv_padd, h0, one_mul] at e
      rw [← e]
      show cv c A 0 + cv c B 0 = 0
      rw [h 0 hi, Fl.add_self]
    | succ k ih =>
      intro i hk hi
      have e := cv_first c (padd A B) i fun j h1 h2 => .inr (ih (i - j) (by omega) (by omega))
      rw [cv_padd, h0, one_mul] at e
      rw [← e]
      show cv c A i + cv c B i = 0
      rw [h i hi, Fl.add_self]
  intro i hi
  exact add_cancel (H i i (Nat.le_refl _) hi)
theorem ev_zero (n : Nat) (p : Ser (El m)) : ev (n + 1) p 0 = p 0 := by
  show p 0 + 0 * ev n (tl p) 0 = p 0
  rw [zero_mul, Fl.add_zero]
/-- what has so many roots as its degree says is the polynomial of these. -/
theorem roots_lam {c : Ser (El m)} {d e N : Nat} (hN : N ≤ Fld.size m) (h0 : c 0 = 1) (hd : Dg c d) (hp : pop e N = d) (hr : ∀ p ∈ plc e N, ev (d + 1) c (pt m p) = 0) : c = lam ((plc e N).map (xe m)) := by
  have hl := lam_dg _ (plc_ne (m := m) e N)
  rw [List.length_map, show (plc e N).length = d from hp] at hl
  have hb : Bd (padd c (lam ((plc e N).map (xe m)))) (d + 1) := hd.2.add hl.1.2
  rcases dg_or hb with h | ⟨k, hk, hdk⟩
  · funext i
    exact add_cancel (congrFun h i)
  · exfalso
    have hroots := roots_le k _ (0 :: (plc e N).map (pt m)) hdk (by
      rw [List.nodup_cons]
      refine ⟨fun hm => ?_, ?_⟩
      · obtain ⟨p, _, hp0⟩ := List.mem_map.1 hm
        exact pt_ne p hp0
      · have h1 := plc_nodup e N
        have h2 : ∀ p ∈ plc e N, p < Fld.size m := fun p hp => by have := (mem_plc.1 hp).1; omega
        generalize plc e N = l at h1 h2
        induction l with
        | nil => exact List.nodup_nil
        | cons x l ih =>
          rw [List.nodup_cons] at h1
          show (pt m x :: l.map (pt m)).Nodup
          rw [List.nodup_cons]
          refine ⟨fun hx => h1.1 ?_, ih h1.2 fun p hp => h2 p (List.mem_cons_of_mem _ hp)⟩
          obtain ⟨p, hp, e⟩ := List.mem_map.1 hx
          have := exK_inj (h2 p (List.mem_cons_of_mem _ hp)) (h2 x (List.mem_cons_self ..)) e
          rwa [← this]) fun a ha => by
      rw [← ev_more a (k + 1) (d + 1) _ hdk.2 (by omega), ev_add]
      rcases List.mem_cons.1 ha with rfl | ha
      · rw [ev_zero, ev_zero, h0, hl.2, Fl.add_self]
      · obtain ⟨p, hpm, rfl⟩ := List.mem_map.1 ha
        rw [hr p hpm]
        have hz : p ∈ hits (zAt (lam ((plc e N).map (xe m))) (d + 1)) N := by
          rw [lam_hits hN (by omega)]; exact hpm
        rw [(zAt_iff _ _ _).1 (hits_mem.1 hz).2, Fl.add_zero]
    rw [List.length_cons, List.length_map, show (plc e N).length = d from hp] at hroots
    omega
/-- what is found is amiss. -/
theorem bm_sound {v N t d : Nat} (hN : N ≤ Fld.size m) (hd : Dg (bm (Sv m v) (2 * t)).c d) (hl : (hits (zAt (bm (Sv m v) (2 * t)).c (d + 1)) N).length = d) : ∃ e, e < 2 ^ N ∧ plc e N = hits (zAt (bm (Sv m v) (2 * t)).c (d + 1)) N ∧ ∀ i, i < 2 * t → Sv m v i = Sv m e i := by
  obtain ⟨c, hc⟩ : ∃ c, c = (bm (Sv m v) (2 * t)).c := ⟨_, rfl⟩
  have h0 : c 0 = 1 := by rw [hc]; exact (bm_inv _ _).one
  have hnw : Nw (Sv m v) c (2 * t) := by rw [hc]; exact (sq_inv (Sv_sq v) t).1.nw
  rw [← hc] at hd hl ⊢
  obtain ⟨e, he, hb⟩ := num_of (zAt c (d + 1)) N
  have hpl : plc e N = hits (zAt c (d + 1)) N := hits_same (f := fun i => e.testBit i) fun i hi => hb i hi
  have hpop : pop e N = d := by unfold pop; rw [hpl]; exact hl
  have hcl := roots_lam (m := m) (e := e) hN h0 hd hpop fun p hp => by
    rw [hpl] at hp
    exact (zAt_iff _ _ _).1 (hits_mem.1 hp).2
  refine ⟨e, he, hpl, ?_⟩
  have h2 : Nw (Sv m e) c (2 * t) := fun i hi => by
    have h := (sq_inv (Sv_sq (m := m) e) (t + d)).1.nw i (by omega)
    have hp := (bm_find (m := m) (v := e) (t := t + d) he hN (by omega) fun _ _ => rfl).2
    rw [hp, ← hcl] at h
    exact h
  have hs := cv_same h0 (fun i hi => (hnw i hi).trans (h2 i hi).symm)
  intro i hi
  exact hs (i + 1) (by omega)
/-- what is made of a word: the places, if they are few. -/
noncomputable def dec (m : Nat) [M : Mid m] (t N v : Nat) : Option (List Nat) :=
  open Classical in
  if ∀ i, i < 2 * t → Sv m v i = 0 then some []
  else if (bm (Sv m v) (2 * t)).L ≤ t ∧ top (bm (Sv m v) (2 * t)).c 100 = (bm (Sv m v) (2 * t)).L + 1 ∧ (hits (zAt (bm (Sv m v) (2 * t)).c 100) N).length = (bm (Sv m v) (2 * t)).L then some (hits (zAt (bm (Sv m v) (2 * t)).c 100) N)
  else none
theorem plc_zero (N : Nat) : plc 0 N = [] := by
  unfold plc
  exact List.filter_eq_nil_iff.2 fun i _ => by simp
theorem Sv_zero (i : Nat) : Sv m 0 i = 0 := vv_zero _
theorem dec_some {t N v : Nat} (hN : N ≤ Fld.size m) (ht : t ≤ 40) {l : List Nat} (h : dec m t N v = some l) : ∃ e, e < 2 ^ N ∧ l = plc e N ∧ pop e N ≤ t ∧ ∀ i, i < 2 * t → Sv m v i = Sv m e i := by
  unfold dec at h
  by_cases h1 : ∀ i, i < 2 * t → Sv m v i = 0
  · rw [if_pos h1] at h
    cases h
    exact ⟨0, Nat.two_pow_pos N, (plc_zero N).symm, by unfold pop; rw [plc_zero]; exact Nat.zero_le _, fun i hi => by rw [h1 i hi, Sv_zero]⟩
  · rw [if_neg h1] at h
    by_cases h2 : (bm (Sv m v) (2 * t)).L ≤ t ∧ top (bm (Sv m v) (2 * t)).c 100 = (bm (Sv m v) (2 * t)).L + 1 ∧ (hits (zAt (bm (Sv m v) (2 * t)).c 100) N).length = (bm (Sv m v) (2 * t)).L
    · rw [if_pos h2] at h
      cases h
      obtain ⟨a, b, c⟩ := h2
      have hbd : Bd (bm (Sv m v) (2 * t)).c 100 := (bm_inv (Sv m v) (2 * t)).bd.mono (by omega)
      have hd : Dg (bm (Sv m v) (2 * t)).c (bm (Sv m v) (2 * t)).L := dg_top hbd b.symm
      have hz : zAt (bm (Sv m v) (2 * t)).c 100 = zAt (bm (Sv m v) (2 * t)).c ((bm (Sv m v) (2 * t)).L + 1) := zAt_more hd.2 (by omega)
      rw [hz] at c ⊢
      obtain ⟨e, h1, h2, h3⟩ := bm_sound hN hd c
      exact ⟨e, h1, h2.symm, by unfold pop; rw [h2, c]; exact a, h3⟩
    · rw [if_neg h2] at h
      cases h
theorem dec_find {t N v e : Nat} (hN : N ≤ Fld.size m) (ht : t ≤ 40) (he : e < 2 ^ N) (hp : pop e N ≤ t) (hs : ∀ i, i < 2 * t → Sv m v i = Sv m e i) : dec m t N v = some (plc e N) := by
  obtain ⟨hL, hc⟩ := bm_find (m := m) he hN hp hs
  have hl := lam_dg _ (plc_ne (m := m) e N)
  rw [List.length_map, show (plc e N).length = pop e N from rfl] at hl
  unfold dec
  by_cases h1 : ∀ i, i < 2 * t → Sv m v i = 0
  · rw [if_pos h1]
    have h0 := bm_find (m := m) (v := v) (e := 0) (t := t) (Nat.two_pow_pos N) hN (by unfold pop; rw [plc_zero]; exact Nat.zero_le _) (fun i hi => by rw [h1 i hi, Sv_zero])
    have : pop e N = 0 := by rw [← hL, h0.1]; unfold pop; rw [plc_zero]; rfl
    rw [List.eq_nil_of_length_eq_zero (show (plc e N).length = 0 from this)]
  · rw [if_neg h1, hL, hc, lam_hits hN (by omega), if_pos ⟨hp, top_dg' (hl.1.2.mono (by omega)) hl.1, rfl⟩]
end
end Go.Proofs.YtdhcigiaidlmbaaGreatDoor.Dec
/- The walks over package syndrome's sum and values. By the verifier of shale. -/
namespace Go.Proofs.YtdhcigiaidlmbaaGreatDoor.Syn
open Go Go.RowKit Bin Cos Enc Bits16
set_option linter.unusedVariables false
theorem getD_nat (l : List Nat) (k : Nat) (h : k < l.length) : l.getD k 0 = l[k] := by
  rw [List.getD_eq_getElem?_getD, List.getElem?_eq_getElem h]; rfl
section
variable {m : Nat} [M : Pl.Mid m]
theorem sv_lt (v j : Nat) : (sv m v j).toNat < 2 ^ m := (vv (m := m) v (Cos.xe m j)).2
set_option maxRecDepth 100000 in
set_option maxHeartbeats 1000000 in
theorem sum_any {s be ce bl : Nat} (w : World) (F : Fld.FldAt m w s be ce bl) (a : Option Addr) (n c : Nat) (l : List Nat) (hR : RowN w a n l) (hn : n ≤ 100000) (hb : ∀ p ∈ l, p ≤ 100000) (j : Nat) (hj : j ≤ 100) :
    Calls Tryz.prog 188 #[.pointer (some ⟨s, 0, none⟩), .slice a n c, .int .i64 (j : Int), .func (.func 189) #[.pointer (some ⟨s, 0, none⟩)] #[]] w fun e w' => e = .returned (.int .i64 (h (sv m (xs l) j))) ∧ w = w' := by
  have HF := Lib.hid F
  have HR := Lib.hid hR
  have HB := Lib.hid hb
  have h0 : h (sv m (xs (l.take 0)) j) = 0 := rfl
  clear F hR hb
  go_enter Tryz.func188, Tryz.ntmps188
  go_wp2_with fail
  go_loopg [9, 14] n (fun gh s9 s14 wx => ∃ (k : Nat), gh = n - k ∧ k ≤ n ∧ s14 = .int .i64 (k : Int) ∧ s9 = .int .i64 (h (sv m (xs (l.take k)) j)) ∧ w = wx)
  case atStart => exact ⟨0, rfl, Nat.zero_le _, rfl, by rw [h0], rfl⟩
  case round =>
    clear h0
    obtain ⟨k, hg, hk, rfl, rfl, rfl⟩ := hrel
    have HG := Lib.hid hg
    clear hg
    by_cases hlt : k < n
    · have x1 : (k : Int) < (n : Int) := by omega
      have x0 : (0 : Int) ≤ (k : Int) := by omega
      obtain ⟨bb, off, rfl, d1, _⟩ := HR.out.row k hlt
      have hkl : k < l.length := by rw [← HR.out.hlen]; exact hlt
      have hp : l.getD k 0 ≤ 100000 := by rw [getD_nat l k hkl]; exact HB.out _ (List.getElem_mem hkl)
      have HS := Lib.hid (sv_xs_take (m := m) l k j hkl)
      rw [← getD_nat l k hkl, Int.natCast_mul] at HS
      have hm : IntKind.i64.wrap (((l.getD k 0 : Nat) : Int) * (j : Int)) = ((l.getD k 0 : Nat) : Int) * (j : Int) := by
        have : l.getD k 0 * j ≤ 100000 * 100 := Nat.mul_le_mul hp hj
        rw [← Int.natCast_mul]
        exact IntWalk.i64_in _ (by omega)
      have HI : Hid (k + 1 ≤ n) := hlt
      have HL := Lib.hid (sv_lt (m := m) (xs (l.take k)) j)
      generalize l.getD k 0 = p at d1 hp HS hm
      generalize sv m (xs (l.take k)) j = A at HS HL ⊢
      clear hlt hkl
      go_wp2_with fail
      refine (Fld.fexp_any M.lo M.hi _ w HF.out).mono ?_
      rintro e w' ⟨rfl, rfl⟩
      go_wp2_with fail
      refine (Fld.add_any M.lo M.hi _ _ w HF.out).mono ?_
      rintro e w' ⟨rfl, rfl⟩
      rw [Fld.el_of m M.hi _ HL.out, Fld.el_of m M.hi _ (Fld.pwZ_lt m M.lo M.hi _), ← HS.out]
      go_wp2_with fail
      go_roundg (n - (k + 1))
      case measure => have := HG.out; have := HI.out; omega
      case rel => exact ⟨k + 1, rfl, HI.out, by go_num, rfl, rfl⟩
    · obtain rfl : k = n := by omega
      have HE : Hid (l.take k = l) := List.take_of_length_le (by rw [← HR.out.hlen]; exact Nat.le_refl _)
      rw [HE.out]
      go_wp2_with fail
      go_ret
      exact ⟨rfl, rfl⟩
/-- the values asked for, of which the first k are there. -/
def synP (m : Nat) [M : Pl.Mid m] (v k n : Nat) : List Int := (List.range n).map fun i => if i < k then h (sv m v (i + 1)) else 0
theorem synP_length (v k n : Nat) : (synP m v k n).length = n := by unfold synP; rw [List.length_map, List.length_range]
theorem synP_zero (v n : Nat) : List.replicate n 0 = synP m v 0 n := by
  unfold synP
  apply List.ext_getElem
  · simp
  · intro i h1 h2; simp
theorem synP_set (v k n : Nat) : (synP m v k n).set k (h (sv m v (k + 1))) = synP m v (k + 1) n := by
  unfold synP
  apply List.ext_getElem
  · simp
  · intro i h1 h2
    rw [List.getElem_set]
    by_cases e : k = i
    · subst e; simp
    · rw [if_neg e]
      simp only [List.getElem_map, List.getElem_range]
      by_cases h3 : i < k
      · rw [if_pos h3, if_pos (by omega)]
      · rw [if_neg h3, if_neg (by omega)]
theorem synP_nth {v k n i : Nat} (hi : i < k) (hk : k ≤ n) : nth64 (synP m v k n) i = h (sv m v (i + 1)) := by
  unfold nth64 synP
  rw [List.getD_eq_getElem?_getD, List.getElem?_map, List.getElem?_range (by omega)]
  simp [hi]
theorem synP_all (v n : Nat) : synP m v n n = Bin.ints (syn m v n) := by
  unfold synP syn Bin.ints
  rw [List.map_map]
  refine List.map_congr_left fun i hi => ?_
  rw [List.mem_range] at hi
  rw [if_pos hi]; rfl
/-- the values that a call answers, in new memory. -/
def ValAt (m t v : Nat) [M : Pl.Mid m] (w : World) (e : Ending) (w' : World) : Prop :=
  ∃ g, e = .returned (.slice (some ⟨g, 0, none⟩) (2 * t) (2 * t)) ∧ Blk64 w' g (Bin.ints (syn m v (2 * t))) ∧ Below w.heap.size w w' ∧ w.heap.size ≤ g
set_option maxRecDepth 100000 in
set_option maxHeartbeats 1000000 in
theorem values_any {t n : Nat} (w : World) (s : Nat) (hC : CodeAt m t n w s) (ht2 : t ≤ 40) (a : Option Addr) (nl c : Nat) (l : List Nat) (hR : RowN w a nl l) (hn : nl ≤ 100000) (hb : ∀ p ∈ l, p ≤ 100000) :
    Calls Tryz.prog 174 #[.pointer (some ⟨s, 0, none⟩), .slice a nl c] w (ValAt m t (xs l) w) := by
  have HC := Lib.hid hC
  have HR := Lib.hid hR
  have HB := Lib.hid hb
  have hfc := field_code w s hC
  have htc := t_code w s hC
  obtain ⟨N, hN⟩ : ∃ N, N = 2 * t := ⟨_, rfl⟩
  have q0 : 2 * (t : Int) = (N : Int) := by omega
  have hN2 : N ≤ 80 := by omega
  have HN := Lib.hid hN
  have hmk := made64 w N (by omega)
  obtain ⟨V, hV⟩ : ∃ V, V = xs l := ⟨_, rfl⟩
  rw [← hV]
  have HV := Lib.hid hV
  have b0 : Below w.heap.size w (w.alloc (obj64 (List.replicate N 0))) := (Below.refl _ _).alloc (Nat.le_refl _) _
  have k0 := Blk64.new w (List.replicate N 0)
  rw [synP_zero (m := m) V N] at hmk b0 k0
  have HC1 := Lib.hid (hC.below b0)
  have B0 := Lib.hid b0
  have K0 := Lib.hid k0
  clear hC hR hb hN hV b0 k0
  go_enter Tryz.func174, Tryz.ntmps174
  go_wp2_with fail
  refine hfc.mono ?_
  rintro e w' ⟨⟨f, be, ce, bl, rfl, F⟩, rfl⟩
  have HF := Lib.hid F
  clear F hfc
  go_wp2_with fail
  refine htc.mono ?_
  rintro e w' ⟨rfl, rfl⟩
  clear htc
  go_wp2_with fail
  generalize w.alloc (obj64 (synP m V 0 N)) = w1 at B0 K0 HC1 ⊢
  go_loopg [17] N (fun gh s17 wx => ∃ (k : Nat), gh = N - k ∧ k ≤ N ∧ s17 = .int .i64 (k : Int) ∧ Blk64 wx w.heap.size (synP m V k N) ∧ Below w.heap.size w wx)
  case atStart => exact ⟨0, rfl, Nat.zero_le _, rfl, K0.out, B0.out⟩
  case round =>
    clear K0 B0 HC1
    obtain ⟨k, hg, hk, rfl, hK, hB⟩ := hrel
    have HG := Lib.hid hg
    clear hg
    have HBl := Lib.hid hB
    have cf := fun i => hK.free i
    by_cases hlt : k < N
    · have x1 : (k : Int) < (N : Int) := by omega
      have x0 : (0 : Int) ≤ (k : Int) := by omega
      have HI : Hid (k + 1 ≤ N) := hlt
      have HK := Lib.hid hK
      have HF2 := Lib.hid (HF.out.below M.lo hB)
      have HR2 := Lib.hid (HR.out.below hB)
      have ck := hK.cell (i := k) (by rw [synP_length]; exact hlt)
      generalize nth64 (synP m V k N) k = z0 at ck
      by_cases hev : k % 2 = 0
      · have t1 : ((k : Int) % 2 == 0) = true := by rw [beq_iff_eq]; omega
        have HS := Lib.hid (sum_any wr HF2.out a nl c l HR2.out hn HB.out (k + 1) (by omega))
        rw [← HV.out] at HS
        have q2 : ((k + 1 : Nat) : Int) = (k : Int) + 1 := by omega
        rw [q2] at HS
        clear hev q2 hB hK
        go_wp2_with fail
        refine HS.out.mono ?_
        rintro e w' ⟨rfl, rfl⟩
        go_wp2_with fail
        go_roundg (N - (k + 1))
        case measure => have := HG.out; have := HI.out; omega
        case rel =>
          have hs := Blk64.set HK.out k (h (sv m V (k + 1)))
          rw [synP_set] at hs
          exact ⟨k + 1, rfl, HI.out, by go_num, hs, HBl.out.trans ((Only.setCell _ _ _).below (Nat.le_refl _))⟩
      · have t1 : ((k : Int) % 2 == 0) = false := by rw [beq_eq_false_iff_ne]; omega
        obtain ⟨i, hi⟩ : ∃ i, k = 2 * i + 1 := ⟨k / 2, by omega⟩
        have q3 : (k : Int) / 2 = (i : Int) := by omega
        have q4 : (k : Int).tdiv 2 = (i : Int) := by rw [Int.tdiv_eq_ediv_of_nonneg (by omega)]; exact q3
        have y0 : (0 : Int) ≤ (i : Int) := by omega
        have y1 : (i : Int) < (N : Int) := by omega
        have d1 := hK.cell (i := i) (by rw [synP_length]; omega)
        rw [synP_nth (by omega) (by omega)] at d1
        have HQ : Hid (sv m V (k + 1) = Fld.fmul m (sv m V (i + 1)) (sv m V (i + 1))) := by
          show _ = _
          rw [← sv_sq, hi]; congr 1
        have HL := Lib.hid (sv_lt (m := m) V (i + 1))
        generalize sv m V (i + 1) = A at d1 HQ HL
        have HM := Lib.hid (Fld.mul_any M.lo M.hi (h A) (h A) wr HF2.out)
        rw [Fld.el_of m M.hi _ HL.out, ← HQ.out] at HM
        clear hev hB hK hi
        go_wp2_with fail
        refine HM.out.mono ?_
        rintro e w4 ⟨rfl, hd⟩
        have HK4 : Hid (Blk64 w4 w.heap.size (synP m V k N)) := Bin.Blk64.since HK.out (hd.below _)
        have HB4 := Lib.hid (HBl.out.trans (hd.below _))
        have cf4 := fun i => HK4.out.free i
        have ck4 := HK4.out.cell (i := k) (by rw [synP_length]; exact HI.out)
        generalize nth64 (synP m V k N) k = z4 at ck4
        clear hd cf ck d1
        go_wp2_with fail
        go_roundg (N - (k + 1))
        case measure => have := HG.out; have := HI.out; omega
        case rel =>
          have hs := Blk64.set HK4.out k (h (sv m V (k + 1)))
          rw [synP_set] at hs
          exact ⟨k + 1, rfl, HI.out, by go_num, hs, HB4.out.trans ((Only.setCell _ _ _).below (Nat.le_refl _))⟩
    · obtain rfl : k = N := by omega
      have HX : Hid (Blk64 wr w.heap.size (Bin.ints (syn m V k))) := by rw [← synP_all]; exact hK
      clear hK hB
      go_wp2_with fail
      go_ret
      obtain rfl := HN.out
      exact ⟨w.heap.size, rfl, HX.out, HBl.out, Nat.le_refl _⟩
end
end Go.Proofs.YtdhcigiaidlmbaaGreatDoor.Syn
/- The walks over package syndrome's Bits, Clean, Fits. By the verifier of shale. -/
namespace Go.Proofs.YtdhcigiaidlmbaaGreatDoor.Syn
open Go Go.RowKit Bin Cos Enc Bits16
set_option linter.unusedVariables false
/-- the values that a call answers with no error, in new memory. -/
def ValE (m t v : Nat) [M : Pl.Mid m] (w : World) (e : Ending) (w' : World) : Prop :=
  ∃ g, e = .returned (.tuple #[.slice (some ⟨g, 0, none⟩) (2 * t) (2 * t), .nilIface]) ∧ Blk64 w' g (Bin.ints (syn m v (2 * t))) ∧ Below w.heap.size w w' ∧ w.heap.size ≤ g
section
variable {m : Nat} [M : Pl.Mid m]
end
set_option maxRecDepth 100000 in
set_option maxHeartbeats 1000000 in
theorem clean_any (a : Option Addr) (n c : Nat) (z : Nat → Int) (w : World) (hR : RowZ w a n z) (hn : n ≤ 100000) :
    Calls Tryz.prog 154 #[.slice a n c] w fun e w' => e = .returned (.bool (decide (∀ i, i < n → z i = 0))) ∧ w = w' := by
  have HR := Lib.hid hR
  obtain ⟨b, hb⟩ : ∃ b, b = decide (∀ i, i < n → z i = 0) := ⟨_, rfl⟩
  rw [← hb]
  have HBb := Lib.hid hb
  clear hR hb
  go_enter Tryz.func154, Tryz.ntmps154
  go_wp2_with fail
  go_loopg [7] n (fun gh s7 wx => ∃ (k : Nat), gh = n - k ∧ k ≤ n ∧ s7 = .int .i64 (k : Int) ∧ Hid (∀ i, i < k → z i = 0) ∧ w = wx)
  case atStart => exact ⟨0, rfl, Nat.zero_le _, rfl, (fun i hi => by omega), rfl⟩
  case round =>
    obtain ⟨k, hg, hk, rfl, HA, rfl⟩ := hrel
    have HG := Lib.hid hg
    clear hg
    by_cases hlt : k < n
    · have x1 : (k : Int) < (n : Int) := by omega
      have x0 : (0 : Int) ≤ (k : Int) := by omega
      obtain ⟨bb, off, rfl, d1, _⟩ := HR.out k hlt
      have HI : Hid (k + 1 ≤ n) := hlt
      by_cases h0 : z k = 0
      · have HA2 : Hid (∀ i, i < k + 1 → z i = 0) := fun i hi => by
          by_cases e : i = k
          · rw [e]; exact h0
          · exact HA.out i (by omega)
        have t1 : (z k == 0) = true := by rw [beq_iff_eq]; exact h0
        generalize z k = q at d1 t1
        clear h0 hlt HA
        go_wp2_with fail
        go_roundg (n - (k + 1))
        case measure => have := HG.out; have := HI.out; omega
        case rel => exact ⟨k + 1, rfl, HI.out, by go_num, HA2, rfl⟩
      · have HF : Hid (b = false) := by
          show _ = _
          rw [HBb.out]
          exact decide_eq_false fun h => h0 (h k hlt)
        have t1 : (z k == 0) = false := by rw [beq_eq_false_iff_ne]; exact h0
        generalize z k = q at d1 t1
        clear h0 hlt HA
        go_wp2_with fail
        go_ret
        exact ⟨ret_bool HF.out.symm, rfl⟩
    · obtain rfl : k = n := by omega
      have HF : Hid (b = true) := by
        show _ = _
        rw [HBb.out]
        exact decide_eq_true HA.out
      clear HA
      go_wp2_with fail
      go_ret
      exact ⟨ret_bool HF.out.symm, rfl⟩
end Go.Proofs.YtdhcigiaidlmbaaGreatDoor.Syn
/- The walk over package syndrome's Of. By the verifier of shale. -/
namespace Go.Proofs.YtdhcigiaidlmbaaGreatDoor.Syn
open Go Go.RowKit Bin Cos Enc Bits16
set_option linter.unusedVariables false
theorem xs_plc (v : Nat) : ∀ k, xs (plc v k) = v % 2 ^ k
  | 0 => by rw [Nat.pow_zero, Nat.mod_one]; rfl
  | k + 1 => by
    have ih := xs_plc v k
    rw [plc_succ]
    unfold xs at ih ⊢
    rw [List.foldl_append, ih]
    apply Nat.eq_of_testBit_eq
    intro i
    rw [Nat.testBit_mod_two_pow]
    cases hb : v.testBit k
    · show (v % 2 ^ k).testBit i = _
      rw [Nat.testBit_mod_two_pow]
      by_cases hi : i = k
      · subst hi; rw [hb]; simp
      · congr 1; simp; omega
    · show (v % 2 ^ k ^^^ 2 ^ k).testBit i = _
      rw [Nat.testBit_xor, Nat.testBit_mod_two_pow, Nat.testBit_two_pow]
      by_cases hi : i = k
      · subst hi; rw [hb]; simp
      · have e1 : decide (k = i) = false := decide_eq_false (fun h => hi h.symm)
        rw [e1, Bool.xor_false]
        congr 1; simp; omega
/-- an own slice of places is a row. -/
theorem own_rowN {w : World} {base n : Nat} {a : Option Addr} {c : Nat} {l : List Nat} (h : Own64 w base (.slice a n c) n (Bin.ints l)) : RowN w a n l := by
  have hl : l.length = n := by have := h.len; unfold Bin.ints at this; rwa [List.length_map] at this
  refine ⟨hl.symm, fun i hi => ?_⟩
  rcases h.2 with ⟨h0, h1⟩ | ⟨g, cap, cur, hv, hb, hh, r⟩
  · simp only [Value.slice.injEq] at h0; omega
  · have hc := World.ownsRow.cellAt (show w.ownsRow base 3 1 (.slice (some ⟨g, 0, none⟩) n cap) n (cells64 (Bin.ints l)) from hv ▸ h) i (by omega)
    simp only [Value.slice.injEq] at hv
    obtain ⟨rfl, _, _⟩ := hv
    refine ⟨g, 0, rfl, ?_, lt_of_block hh⟩
    rw [Nat.zero_add]
    refine hc.trans ?_
    simp [cells64, Bin.ints, List.getD_eq_getElem?_getD, hl, hi]
theorem own_slice {w : World} {base n : Nat} {v : Value} {l : List Int} (h : Own64 w base v n l) : ∃ av cv, v = .slice av n cv := by
  rcases h.2 with ⟨h0, h1⟩ | ⟨g, cap, cur, hv, _⟩
  · exact ⟨none, 0, by rw [h0, h1]⟩
  · exact ⟨_, _, hv⟩
section
variable {m : Nat} [M : Pl.Mid m]
/-- what the parity differs by. -/
def ev (m t X Y : Nat) [M : Pl.Mid m] : Nat := prt (gen m t) (deg m t) X ^^^ Y
set_option maxRecDepth 100000 in
set_option maxHeartbeats 1000000 in
theorem of_any {t n : Nat} (ht : 1 ≤ t) (ht2 : t ≤ 40) (w : World) (s : Nat) (h : CodeAt m t n w s) (a : Option Addr) (cap : Nat) (X : List (BitVec 8)) (hl : Pol w a n cap X) (hn : n ≤ 2048) (a' : Option Addr) (cap' : Nat) (Y : List (BitVec 8)) (hY : Pol w a' (pb (deg m t)) cap' Y) :
    Calls Tryz.prog 153 #[.pointer (some ⟨s, 0, none⟩), .slice a n cap, .slice a' (pb (deg m t)) cap'] w (ValE m t (ev m t (val X) (val Y) % 2 ^ deg m t) w) := by
  obtain ⟨i0, hi, hz0, hz1, hz2⟩ := info64
  have HC := Lib.hid h
  have HPB := Lib.hid (parityB_any w s h ht2)
  have HFa := Lib.hid (fast_any ht ht2 w s h a cap X hl hn)
  have HY := Lib.hid hY
  have hd := deg_560 (m := m) ht2
  have HX := xs_plc (ev m t (val X) (val Y)) (deg m t)
  have HBd : Hid (∀ p ∈ plc (ev m t (val X) (val Y)) (deg m t), p ≤ 100000) := fun p hp => by have := (mem_plc.1 hp).1; omega
  have hE : ev m t (val X) (val Y) = prt (gen m t) (deg m t) (val X) ^^^ val Y := rfl
  have hRl := prt_lt (gen_deg (m := m) t) (val X)
  unfold ParAt at HFa
  rw [← HX]
  generalize ev m t (val X) (val Y) = E at hE HX HBd ⊢
  generalize prt (gen m t) (deg m t) (val X) = R at hE hRl HFa
  have hPd : pb (deg m t) = (deg m t + 7) / 8 := rfl
  obtain ⟨P, hP⟩ : ∃ P, P = pb (deg m t) := ⟨_, rfl⟩
  obtain ⟨D, hD⟩ : ∃ D, D = deg m t := ⟨_, rfl⟩
  have hdc := Lib.hid (fun (w : World) (h : CodeAt m t n w s) => degree_code w s h)
  rw [← hP] at hPd HPB HFa HY ⊢
  rw [← hD] at hd hPd hRl hdc HBd ⊢
  have HE := Lib.hid hE
  have HRl := Lib.hid hRl
  have HP := Lib.hid hPd
  have y9 : P ≤ 100000 := by omega
  clear h hl hY HX hE hRl hP hD hPd
  go_enter Tryz.func153, Tryz.ntmps153
  go_wp2_with fail
  refine HPB.out.mono ?_
  rintro e w' ⟨rfl, rfl⟩
  clear HPB
  go_wp2_with fail
  refine HFa.out.mono ?_
  rintro e w1 ⟨g, rfl, hB8, b1, hg1⟩
  have HB8 := Lib.hid hB8
  have HB1 := Lib.hid b1
  have HC1 := Lib.hid (HC.out.below b1)
  have HY1 := Lib.hid (HY.out.below b1)
  clear HFa hB8 b1
  go_wp2_with fail
  refine (hdc.out w1 HC1.out).mono ?_
  rintro e w' ⟨rfl, rfl⟩
  have HO0 := Lib.hid (show Own64 w1 w1.heap.size (.slice none 0 0) 0 (Bin.ints (plc E 0)) from Own64.nil w1 w1.heap.size)
  go_wp2_with fail
  go_loopg [10, 29] D (fun gh s10 s29 wx => ∃ (k j : Nat), gh = D - k ∧ k ≤ D ∧ s29 = .int .i64 (k : Int) ∧ Own64 wx w1.heap.size s10 j (Bin.ints (plc E k)) ∧ j ≤ k ∧ Below w1.heap.size w1 wx)
  case atStart => exact ⟨0, 0, rfl, Nat.zero_le _, rfl, HO0.out, Nat.le_refl _, Below.refl _ _⟩
  case round =>
    clear HO0
    obtain ⟨k, j, hg, hk, rfl, hown, hj, hB⟩ := hrel
    have HG := Lib.hid hg
    have hbs := hB.size
    clear hg
    by_cases hlt : k < D
    · have x1 : (k : Int) < (D : Int) := by omega
      have x0 : (0 : Int) ≤ (k : Int) := by omega
      have HI : Hid (k + 1 ≤ D) := hlt
      obtain ⟨Q, hQ⟩ : ∃ Q, Q = k / 8 := ⟨_, rfl⟩
      obtain ⟨r, hr⟩ : ∃ r, r = k % 8 := ⟨_, rfl⟩
      have q1 : (k : Int) / 8 = (Q : Int) := by omega
      have q2 : (k : Int).tdiv 8 = (Q : Int) := by rw [Int.tdiv_eq_ediv_of_nonneg (by omega)]; exact q1
      have q3 : (k : Int) % 8 = (r : Int) := by omega
      have q4 : (k : Int).tmod 8 = (r : Int) := by rw [Int.tmod_eq_emod_of_nonneg (by omega)]; exact q3
      have hQP : Q < P := by have := HP.out; omega
      have y0 : (0 : Int) ≤ (Q : Int) := by omega
      have y1 : (Q : Int) < (P : Int) := by omega
      have r0 : (0 : Int) ≤ (r : Int) := by omega
      have r1 : (r : Int) < 8 := by omega
      have HB8w : Hid (Blk8 wr g (byN R P)) := (hB.block g HB8.out.lt).trans HB8.out
      have d1 := HB8w.out.cell (i := Q) (by rw [byN_length]; exact hQP)
      obtain ⟨bb, off, rfl, d2⟩ : ∃ bb off, a' = some ⟨bb, off, none⟩ ∧ wr.cell? ⟨bb, off + Q, none⟩ = some (.int .u8 (Bits32.b (nth8 Y Q))) := by
        rcases (HY1.out.below hB).hrow with h | ⟨bb, off, e, hr, _⟩
        · omega
        · exact ⟨bb, off, e, hr Q (by rw [← HY1.out.hlen]; exact hQP)⟩
      have hx := Bits32.bxor (nth8 (byN R P) Q) (nth8 Y Q)
      have hbit : E.testBit k = (nth8 (byN R P) Q ^^^ nth8 Y Q).getLsbD r := by
        rw [HE.out, Nat.testBit_xor, BitVec.getLsbD_xor, byN_bit R P Q r hQP (by omega), val_bit Y k, ← hQ, ← hr, show 8 * Q + r = k by omega]
      have hone := bit_one8 (nth8 (byN R P) Q ^^^ nth8 Y Q) r (by omega)
      rw [← hbit] at hone
      have HPS := Lib.hid (plc_succ E k)
      generalize nth8 (byN R P) Q ^^^ nth8 Y Q = Z at hx hone
      generalize Bits32.b (nth8 (byN R P) Q) = v1 at d1 hx
      generalize Bits32.b (nth8 Y Q) = v2 at d2 hx
      clear hQ hr hlt hbit hQP
      rcases Bool.eq_false_or_eq_true (E.testBit k) with hb1 | hb1
      · rw [hb1] at hone HPS
        replace hone : bits .and .u8 (Bits32.b Z / 2 ^ r) 1 = 1 := hone
        have HF : Hid (plc E (k + 1) = plc E k ++ [k]) := HPS.out
        clear hb1 HPS
        go_wp2_with fail
        go_quiet (fail)
        have hd2 := Drawn.mk wr nq
        generalize wr.drewN nq = w5 at hd2 ⊢
        replace hB := hB.trans ((hd2.below wr.heap.size).mono hbs)
        have hown5 := hown.keep (w' := w5) fun g hg => (hd2.below wr.heap.size).block g (hown.block g hg).2
        have hbs5 := hB.size
        clear hown hd2 d1 d2 hx hone hbs
        go_wp2_with (at_builtin; refine wpList_append_own _ rfl _ _ 65 rfl w1.heap.size 3 i0 (.int .i64 0) 1 8 Tryz.underlying65 hi hz0 hz1 hz2 rfl (by decide) _ j _ rfl (World.ownsRow.alloc hown5 _) ⟨w5.heap.size, 0, none⟩ 1 1 [.int .i64 (k : Int)] rfl rfl (cell_one_new _ _ _) (ints_oneCell .i64 [_]) (by unfold maxLen; omega) (by omega) (by simp; omega) ?_; intro v7 w7 hown7 hgrow _)
        have ho7 : Own64 w7 w1.heap.size v7 (j + 1) (Bin.ints (plc E (k + 1))) := by
          unfold Own64
          rw [HF.out]
          have e : Bin.ints (plc E k ++ [k]) = Bin.ints (plc E k) ++ [(k : Int)] := by simp [Bin.ints]
          rw [e, ← cells64_append]
          exact hown7
        have b7 : Below w1.heap.size w1 w7 := (hB.alloc hbs5 _).grown hgrow (by simp; omega) (fun g hg => (hown5.block g hg).1)
        clear hown7 hgrow hown5 hB
        go_wp2_with fail
        go_roundg (D - (k + 1))
        case measure => have := HG.out; have := HI.out; omega
        case rel => exact ⟨k + 1, j + 1, rfl, HI.out, by go_num, ho7, by omega, b7⟩
      · rw [hb1] at hone HPS
        replace hone : bits .and .u8 (Bits32.b Z / 2 ^ r) 1 = 0 := hone
        have HF : Hid (plc E (k + 1) = plc E k) := by
          show _ = _
          rw [HPS.out]
          exact List.append_nil _
        clear hb1 HPS
        go_wp2_with fail
        go_quiet (fail)
        have hd2 := Drawn.mk wr nq
        generalize wr.drewN nq = w5 at hd2 ⊢
        replace hB := hB.trans ((hd2.below wr.heap.size).mono hbs)
        have hown5 := hown.keep (w' := w5) fun g hg => (hd2.below wr.heap.size).block g (hown.block g hg).2
        rw [← HF.out] at hown5
        clear hown hd2 d1 d2 hx hone hbs
        go_wp2_with fail
        go_roundg (D - (k + 1))
        case measure => have := HG.out; have := HI.out; omega
        case rel => exact ⟨k + 1, j, rfl, HI.out, by go_num, hown5, by omega, hB⟩
    · obtain rfl : k = D := by omega
      obtain ⟨av, cv, rfl⟩ := own_slice hown
      have HRw := Lib.hid (own_rowN hown)
      have HV := Lib.hid (values_any wr s (HC1.out.below hB) ht2 av j cv _ HRw.out (by omega) HBd.out)
      have HB2 := Lib.hid (HB1.out.trans (hB.mono HB1.out.size))
      have HS2 := Lib.hid (Nat.le_trans HB1.out.size hbs)
      clear hown hB
      go_wp2_with fail
      refine HV.out.mono ?_
      rintro e w4 ⟨g', rfl, h1, h2, h3⟩
      have H1 := Lib.hid h1
      have H2 := Lib.hid (HB2.out.trans (h2.mono HB2.out.size))
      have H3 := Lib.hid (Nat.le_trans HS2.out h3)
      clear h1 h2 h3 HV
      go_wp2_with fail
      go_ret2
      exact ⟨g', rfl, H1.out, H2.out, H3.out⟩
end
end Go.Proofs.YtdhcigiaidlmbaaGreatDoor.Syn
/- made: the code that a statement of chapter 6 makes of any numbers. By the verifier of shale. -/
namespace Go.Proofs.YtdhcigiaidlmbaaGreatDoor.Enc
open Go Go.RowKit Bin Cos
set_option linter.unusedVariables false
/-- the numbers that a statement makes of any. -/
def mkM (z : Int) : Nat := (z % 5).toNat + 6
def mkT (z : Int) : Nat := (z % 6).toNat + 1
instance (z : Int) : Pl.Mid (mkM z) := ⟨by unfold mkM; omega, by unfold mkM; omega⟩
instance mid8 : Pl.Mid 8 := ⟨by decide, by decide⟩
theorem mkT_go (z : Int) : z.tmod 6 % 6 + 1 = (mkT z : Int) := by
  unfold mkT
  have : z.tmod 6 % 6 = z % 6 := by rw [Int.tmod_eq_emod]; split <;> omega
  omega
theorem onlyCd (w : World) (s : Nat) (a' b' c' d' e' : Value) : Only s w (((((w.setCell ⟨s, 0, none⟩ a').setCell ⟨s, 1, none⟩ b').setCell ⟨s, 2, none⟩ c').setCell ⟨s, 3, none⟩ d').setCell ⟨s, 4, none⟩ e') :=
  ((((Only.setCell w ⟨s, 0, none⟩ a').trans (Only.setCell _ ⟨s, 1, none⟩ b')).trans (Only.setCell _ ⟨s, 2, none⟩ c')).trans (Only.setCell _ ⟨s, 3, none⟩ d')).trans (Only.setCell _ ⟨s, 4, none⟩ e')
abbrev cd0 : Obj := cdO (.int .i64 0) (.int .i64 0) (.int .i64 0) (.slice none 0 0) (.int .i64 0)
section
variable {m : Nat} [M : Pl.Mid m]
end
end Go.Proofs.YtdhcigiaidlmbaaGreatDoor.Enc
/- made: the code that a statement of chapter 7 makes of any numbers. By the verifier of shale. -/
namespace Go.Proofs.YtdhcigiaidlmbaaGreatDoor.Enc
open Go Go.RowKit Bin Cos
set_option linter.unusedVariables false
/-- the numbers that a statement makes of any. -/
def mkM7 (z : Int) : Nat := (z % 4).toNat + 6
instance (z : Int) : Pl.Mid (mkM7 z) := ⟨by unfold mkM7; omega, by unfold mkM7; omega⟩
instance mid7 : Pl.Mid 7 := ⟨by decide, by decide⟩
end Go.Proofs.YtdhcigiaidlmbaaGreatDoor.Enc
/- The examples of chapter 6, as the statements ask them first of all. By the verifier of shale. -/
namespace Go.Proofs.YtdhcigiaidlmbaaGreatDoor.Enc
open Go Go.RowKit Bin Cos
set_option linter.unusedVariables false
instance mid5 : Pl.Mid 5 := ⟨by decide, by decide⟩
instance mid4 : Pl.Mid 4 := ⟨by decide, by decide⟩
theorem d5 : deg 5 2 = 10 := by decide +kernel
theorem same_blk {w : World} {X Y : List (BitVec 8)} {v u : Value} (h1 : IsBytes w v X) (h2 : IsBytes w u Y) :
    Calls Tryz.prog 23 #[v, u] w fun e w' => e = .returned (.bool (decide (X = Y))) ∧ w = w' := by
  refine (same_any X Y _ _ w (Str8.of h1) (Str8.of h2)).mono ?_
  rintro e w' ⟨rfl, rfl⟩
  exact ⟨rfl, rfl⟩
end Go.Proofs.YtdhcigiaidlmbaaGreatDoor.Enc
/- Small words for the walks of stage 6's statements. By the verifier of shale. -/
namespace Go.Proofs.YtdhcigiaidlmbaaGreatDoor.Enc
open Go Go.RowKit Bin Cos
set_option linter.unusedVariables false
theorem keepB {w w' : World} {g : Nat} {o : Obj} (h : w.heap[g]? = some o) (b : Below w.heap.size w w') : w'.heap[g]? = some o := (b.block g (lt_of_block h)).trans h
theorem keepZ {w w' : World} {g : Nat} {l : List (BitVec 8)} (h : Blk8 w g l) (b : Below w.heap.size w w') : Blk8 w' g l := (b.block g h.lt).trans h
theorem newCd (w W : World) (a b c d e : Value) (h : w.alloc (.cells #[a, b, c, d, e] 27 (0, 0)) = W) : W.heap[w.heap.size]? = some (cdO a b c d e) ∧ Below w.heap.size w W := by
  subst h
  exact ⟨heap_alloc_new w _, (Below.refl _ _).alloc (Nat.le_refl _) _⟩
theorem pb_room {D R : Nat} (h : R < 2 ^ D) : R < 2 ^ (8 * pb D) := Nat.lt_of_lt_of_le h (Nat.pow_le_pow_right (by decide) (by unfold pb; omega))
end Go.Proofs.YtdhcigiaidlmbaaGreatDoor.Enc
/- A turned coefficient, in data and parity. By the verifier of shale. -/
namespace Go.Proofs.YtdhcigiaidlmbaaGreatDoor.Enc
open Go Go.RowKit Bin Cos
set_option linter.unusedVariables false
theorem wrd_xor (D a b c d : Nat) : wrd D (a ^^^ b) (c ^^^ d) = wrd D a c ^^^ wrd D b d := by
  unfold wrd
  rw [shl_xor, xx]
section
variable {m : Nat} [M : Pl.Mid m]
end
theorem NewP.keep {w0 w w' : World} {a : Option Addr} {n c : Nat} {X : List (BitVec 8)} (h : NewP w0 w a n c X) (b : Below w.heap.size w w') : NewP w0 w' a n c X := by
  refine ⟨h.hlen, h.hcap, h.hmost, ?_⟩
  rcases h.own with h | ⟨g, e, hg, hx⟩
  · exact Or.inl h
  · exact Or.inr ⟨g, e, hg, hx.below b hx.lt⟩
/-- a number brought into 0 .. N - 1 as the statements do, N no literal. -/
theorem norm_var (z : Int) (N : Nat) (h0 : 0 < N) (hN : N ≤ 1000000) : -(N : Int) < z.tmod (N : Int) ∧ z.tmod (N : Int) < (N : Int) ∧ ∃ k : Nat, k < N ∧ (z.tmod (N : Int) + (N : Int)).tmod (N : Int) = (k : Int) := by
  have h1 : z.tmod (N : Int) < (N : Int) := Int.tmod_lt_of_pos z (by omega)
  have h2 : -(N : Int) < z.tmod (N : Int) := by
    have := Int.tmod_lt_of_pos (-z) (b := (N : Int)) (by omega)
    rw [Int.neg_tmod] at this
    omega
  have h3 := Int.tmod_lt_of_pos (z.tmod (N : Int) + (N : Int)) (b := (N : Int)) (by omega)
  have h4 := Int.tmod_nonneg (N : Int) (a := z.tmod (N : Int) + (N : Int)) (by omega)
  exact ⟨h2, h1, ((z.tmod (N : Int) + (N : Int)).tmod (N : Int)).toNat, by omega, by omega⟩
end Go.Proofs.YtdhcigiaidlmbaaGreatDoor.Enc
/- The examples of chapter 7, as the statements ask them first of all; small words. By the verifier of shale. -/
namespace Go.Proofs.YtdhcigiaidlmbaaGreatDoor.Syn
open Go Go.RowKit Bin Cos Enc Bits16
set_option linter.unusedVariables false
theorem nth_ints (l : List Nat) (i : Nat) : nth64 (Bin.ints l) i = ((l.getD i 0 : Nat) : Int) := by
  unfold nth64 Bin.ints
  rw [List.getD_eq_getElem?_getD, List.getD_eq_getElem?_getD, List.getElem?_map]
  cases l[i]? <;> rfl
theorem ints_len (l : List Nat) : (Bin.ints l).length = l.length := by unfold Bin.ints; rw [List.length_map]
theorem blkN {w : World} {g n : Nat} {l : List Nat} (h : Blk64 w g (Bin.ints l)) (hn : n = l.length) : RowN w (some ⟨g, 0, none⟩) n l := by
  refine ⟨hn, fun i hi => ⟨g, 0, rfl, ?_, h.lt⟩⟩
  rw [Nat.zero_add, h.cell (by rw [ints_len]; omega), nth_ints]
theorem blkZ {w : World} {g n : Nat} {l : List Nat} (h : Blk64 w g (Bin.ints l)) (hn : n = l.length) : RowZ w (some ⟨g, 0, none⟩) n (fun i => ((l.getD i 0 : Nat) : Int)) := fun i hi => (blkN h hn).row i hi
theorem clean_of {m v n g : Nat} [M : Pl.Mid m] {w : World} (h : Blk64 w g (Bin.ints (syn m v n))) (hn : n ≤ 100000) :
    Calls Tryz.prog 154 #[.slice (some ⟨g, 0, none⟩) n n] w fun e w' => e = .returned (.bool (decide (∀ j, j < n → sv m v (j + 1) = 0))) ∧ w = w' := by
  refine (clean_any _ n n _ w (blkZ h (syn_length v n).symm) hn).mono ?_
  rintro e w' ⟨rfl, rfl⟩
  refine ⟨ret_bool ?_, rfl⟩
  apply decide_eq_decide.2
  have e : ∀ j, j < n → (((syn m v n).getD j 0 : Nat) : Int) = Bits16.h (sv m v (j + 1)) := fun j hj => by
    unfold syn
    rw [List.getD_eq_getElem?_getD, List.getElem?_map, List.getElem?_range hj]; rfl
  constructor
  · intro hh j hj
    have := hh j hj
    rw [e j hj] at this
    exact h_inj _ 0 this
  · intro hh j hj
    rw [e j hj, hh j hj]; rfl
end Go.Proofs.YtdhcigiaidlmbaaGreatDoor.Syn
/- The first steps of mending: a word's values, the polynomial of its places. By the verifier of shale. -/
namespace Go.Proofs.YtdhcigiaidlmbaaGreatDoor.Dec
open Go Go.RowKit Bin Pl Cos Enc Syn Loc Sea
set_option linter.unusedVariables false
/-- a word on its way in block b. -/
def wordAt (w : World) (b : Nat) (d p s l q : Value) : Prop := w.heap[b]? = some (.cells #[d, p, s, l, q] 176 (0, 0))
theorem wordAt.cells {w : World} {b : Nat} {d p s l q : Value} (h : wordAt w b d p s l q) :
    w.cell? ⟨b, 0, none⟩ = some d ∧ w.cell? ⟨b, 1, none⟩ = some p ∧ w.cell? ⟨b, 2, none⟩ = some s ∧ w.cell? ⟨b, 3, none⟩ = some l ∧ w.cell? ⟨b, 4, none⟩ = some q ∧ ∀ i, w.frozen? ⟨b, i, none⟩ = false := by
  have e : w.heap[b]? = _ := h
  refine ⟨?_, ?_, ?_, ?_, ?_, fun i => ?_⟩
  · unfold World.cell?; simp only; rw [e]; rfl
  · unfold World.cell?; simp only; rw [e]; rfl
  · unfold World.cell?; simp only; rw [e]; rfl
  · unfold World.cell?; simp only; rw [e]; rfl
  · unfold World.cell?; simp only; rw [e]; rfl
  · unfold World.frozen?; simp only; rw [e]; rfl
/-- a decoder of the code at s. -/
def decAt (w : World) (db s : Nat) : Prop := w.heap[db]? = some (.cells #[.pointer (some ⟨s, 0, none⟩)] 110 (0, 0))
theorem decAt.cell {w : World} {db s : Nat} (h : decAt w db s) : w.cell? ⟨db, 0, none⟩ = some (.pointer (some ⟨s, 0, none⟩)) := cell_of_one h
section
variable {m : Nat} [M : Pl.Mid m]
/-- what mending stands on. -/
structure Base (m t n : Nat) [M : Pl.Mid m] (w : World) (db s : Nat) (ym yz : Addr) : Prop where
  dec : decAt w db s
  code : CodeAt m t n w s
  many : ErrAt w 6 ym
  zero : ErrAt w 9 yz
  t1 : 1 ≤ t
  t40 : t ≤ 40
  n1 : 1 ≤ n
  n2048 : n ≤ 2048
  room : 8 * n + deg m t ≤ Fld.size m
theorem Base.below {t n : Nat} {w w' : World} {db s : Nat} {ym yz : Addr} (h : Base m t n w db s ym yz) (b : Below w.heap.size w w') : Base m t n w' db s ym yz :=
  ⟨(b.block _ (lt_of_block h.dec)).trans h.dec, h.code.below b, h.many.below b, h.zero.below b, h.t1, h.t40, h.n1, h.n2048, h.room⟩
/-- a word's number. -/
def wd (m t X Y : Nat) [M : Pl.Mid m] : Nat := wrd (deg m t) X (Y % 2 ^ deg m t)
theorem syn_wd (t X Y : Nat) : syn m (Syn.ev m t X Y % 2 ^ deg m t) (2 * t) = syn m (wd m t X Y) (2 * t) := by
  unfold syn
  refine List.map_congr_left fun i hi => ?_
  have hi := List.mem_range.1 hi
  have hY : Y % 2 ^ deg m t < 2 ^ deg m t := Nat.mod_lt _ (Nat.two_pow_pos _)
  have hR := prt_lt (gen_deg (m := m) t) X
  unfold wd
  rw [sv_word hY (by omega) (by omega)]
  congr 2
  unfold Syn.ev
  rw [Nat.xor_mod_two_pow, Nat.mod_eq_of_lt hR]
set_option maxRecDepth 100000 in
set_option maxHeartbeats 1000000 in
theorem look_any {t n : Nat} {w0 w : World} {db s wb : Nat} {ym yz : Addr} (K : Base m t n w0 db s ym yz) (b : Below w0.heap.size w0 w) (hwb : w0.heap.size ≤ wb) {a a' : Option Addr} {ca ca' : Nat} {X Y : List (BitVec 8)} {v3 v4 v5 : Value} (hW : wordAt w wb (.slice a n ca) (.slice a' (pb (deg m t)) ca') v3 v4 v5) (hX : Pol w a n ca X) (hY : Pol w a' (pb (deg m t)) ca' Y) :
    Calls Tryz.prog 120 #[.pointer (some ⟨db, 0, none⟩), .pointer (some ⟨wb, 0, none⟩)] w fun e w' => e = .returned .nilIface ∧ ∃ g, wordAt w' wb (.slice a n ca) (.slice a' (pb (deg m t)) ca') (.slice (some ⟨g, 0, none⟩) (2 * t) (2 * t)) v4 v5 ∧ Blk64 w' g (Bin.ints (syn m (wd m t (val X) (val Y)) (2 * t))) ∧ g ≠ wb ∧ Tn [wb] w w' [wb] := by
  have K1 := K.below b
  have c0 := K1.dec.cell
  obtain ⟨d0, d1, _⟩ := hW.cells
  have HO : Hid (∀ W, Below w.heap.size w W → Calls Tryz.prog 153 #[.pointer (some ⟨s, 0, none⟩), .slice a n ca, .slice a' (pb (deg m t)) ca'] W fun e w' => ∃ g, e = .returned (.tuple #[.slice (some ⟨g, 0, none⟩) (2 * t) (2 * t), .nilIface]) ∧ (w'.cell? ⟨db, 0, none⟩ = some (.pointer (some ⟨s, 0, none⟩)) ∧ w'.cell? ⟨wb, 0, none⟩ = some (.slice a n ca) ∧ w'.cell? ⟨wb, 1, none⟩ = some (.slice a' (pb (deg m t)) ca') ∧ Below w.heap.size w w') ∧ Blk64 w' g (Bin.ints (syn m (wd m t (val X) (val Y)) (2 * t))) ∧ w.heap.size ≤ g ∧ Below W.heap.size W w') := fun W d => by
    refine (of_any K.t1 K.t40 W s (K1.code.below d) a ca X (hX.below d) K.n2048 a' ca' Y (hY.below d)).mono ?_
    rintro e w' ⟨g, rfl, q1, q2, q3⟩
    rw [syn_wd] at q1
    have hb := d.trans (q2.mono d.size)
    exact ⟨g, rfl, ⟨(hb.cell (p := ⟨db, 0, none⟩) (lt_of_block K1.dec)).trans c0, (hb.cell (p := ⟨wb, 0, none⟩) (lt_of_block hW)).trans d0, (hb.cell (p := ⟨wb, 1, none⟩) (lt_of_block hW)).trans d1, hb⟩, q1, Nat.le_trans d.size q3, q2⟩
  have HW := Lib.hid hW
  have hlt := lt_of_block hW
  have HL := Lib.hid hlt
  clear K K1 b hX hY hW hlt hwb
  generalize hP : pb (deg m t) = P at *
  go_enter Tryz.func120, Tryz.ntmps120
  go_wp2_with fail
  have hS0 : w.drew.cell? ⟨db, 0, none⟩ = some (.pointer (some ⟨s, 0, none⟩)) ∧ w.drew.cell? ⟨wb, 0, none⟩ = some (.slice a n ca) ∧ w.drew.cell? ⟨wb, 1, none⟩ = some (.slice a' P ca') ∧ Below w.heap.size w w.drew := ⟨c0, d0, d1, (Drawn.mk w 1).below _⟩
  go_region_held3 (fun w' => w'.cell? ⟨db, 0, none⟩ = some (.pointer (some ⟨s, 0, none⟩)) ∧ w'.cell? ⟨wb, 0, none⟩ = some (.slice a n ca) ∧ w'.cell? ⟨wb, 1, none⟩ = some (.slice a' P ca') ∧ Below w.heap.size w w')
    (first | assumption | exact ⟨by assumption, by assumption, by assumption, by assumption⟩)
    (first
      | (go_at_call 153; refine Calls.mono (HO.out _ (And.right (And.right (And.right (by assumption))))) ?_; rintro e w1 ⟨g, rfl, q1, q2, q3, q4⟩))
  have hW1 : wordAt w1 wb (.slice a n ca) (.slice a' P ca') v3 v4 v5 := (q1.2.2.2.block _ HL.out).trans HW.out
  have hT1 : Tn [wb] w (w1.setCell ⟨wb, 2, none⟩ (.slice (some ⟨g, 0, none⟩) (2 * t) (2 * t))) [wb] := (Tn.below q1.2.2.2).trans (Tn.setCell w1 _ _ (by simp))
  have hgw : g ≠ wb := by have := HL.out; omega
  have HE : Hid (wordAt (w1.setCell ⟨wb, 2, none⟩ (.slice (some ⟨g, 0, none⟩) (2 * t) (2 * t))) wb (.slice a n ca) (.slice a' P ca') (.slice (some ⟨g, 0, none⟩) (2 * t) (2 * t)) v4 v5 ∧ Blk64 (w1.setCell ⟨wb, 2, none⟩ (.slice (some ⟨g, 0, none⟩) (2 * t) (2 * t))) g (Bin.ints (syn m (wd m t (val X) (val Y)) (2 * t))) ∧ g ≠ wb ∧ Tn [wb] w (w1.setCell ⟨wb, 2, none⟩ (.slice (some ⟨g, 0, none⟩) (2 * t) (2 * t))) [wb]) :=
    ⟨heap_setCell_same _ _ 2 _ _ _ hW1, (Below.heap_setCell _ _ _ _ hgw).trans q2, hgw, hT1⟩
  obtain ⟨_, _, k2, _, _, kf⟩ := hW1.cells
  have kf2 := kf 2
  clear hW1 hT1 hgw q1 q2 q3 q4 kf hS0 c0 d0 d1
  go_wp2_with fail
  go_ret
  exact ⟨rfl, g, HE.out⟩
/-- what is laid in a word leaves rows of numbers alone. -/
theorem row_apart {w : World} {wb : Nat} {d p s l q : Value} (h : wordAt w wb d p s l q) (hv : ∀ x ∈ [d, p, s, l, q], ∀ z, x ≠ .int .i64 z) {b off i : Nat} {z : Int} (hc : w.cell? ⟨b, off + i, none⟩ = some (.int .i64 z)) : b ≠ wb := by
  rintro rfl
  unfold World.cell? at hc
  simp only at hc
  rw [show w.heap[b]? = _ from h] at hc
  simp only at hc
  have hm : (Value.int .i64 z) ∈ [d, p, s, l, q] := by
    generalize off + i = k at hc
    simp only [List.getElem?_toArray] at hc
    exact List.mem_of_getElem? hc
  exact hv _ hm z rfl
theorem nv_store {w : World} {wb i : Nat} {d p s l q u : Value} {K : Nat} {a : Option Addr} {n c : Nat} {P : Ser (El m)} (h : wordAt w wb d p s l q) (hv : ∀ x ∈ [d, p, s, l, q], ∀ z, x ≠ .int .i64 z) (N : NV m w K a n c P) : NV m (w.setCell ⟨wb, i, none⟩ u) K a n c P := by
  refine ⟨⟨N.row.hlen, N.row.hcap, N.row.hmost, fun k hk => ?_⟩, N.bd, N.top, N.le⟩
  obtain ⟨b, off, e, hc, hb⟩ := N.row.row k hk
  refine ⟨b, off, e, ?_, by simpa [World.setCell] using hb⟩
  have hne := row_apart h hv hc
  unfold World.cell? at hc ⊢
  simp only at hc ⊢
  rw [Below.heap_setCell _ _ _ _ hne]
  exact hc
theorem Sv_val (v i : Nat) : (Sv m v i).val = sv m v (i + 1) := rfl
theorem Sv_nil (v i : Nat) : sv m v (i + 1) = 0 ↔ Sv m v i = 0 := ⟨fun h => El.ext h, fun h => by rw [← Sv_val, h]; rfl⟩
theorem syn_sr {v N i : Nat} (hi : i < N) : Sv m v i = sr m (Bin.ints (syn m v N)) i := by
  show _ = elm m ((Bin.ints (syn m v N)).getD i 0)
  have e : (Bin.ints (syn m v N)).getD i 0 = ((sv m v (i + 1)).toNat : Int) := by
    unfold Bin.ints syn
    rw [List.getD_eq_getElem?_getD]
    simp [hi]
  rw [e]
  exact (elm_zn (Sv m v i)).symm
end
end Go.Proofs.YtdhcigiaidlmbaaGreatDoor.Dec
/- The step of mending that makes the polynomial of the places. By the verifier of shale. -/
namespace Go.Proofs.YtdhcigiaidlmbaaGreatDoor.Dec
open Go Go.RowKit Bin Pl Cos Enc Syn Loc Sea
set_option linter.unusedVariables false
section
variable {m : Nat} [M : Pl.Mid m]
set_option maxRecDepth 100000 in
set_option maxHeartbeats 1000000 in
theorem locate_zero {t n : Nat} {w0 w : World} {db s wb : Nat} {ym yz : Addr} (K : Base m t n w0 db s ym yz) (b : Below w0.heap.size w0 w) {d p l q : Value} {g v : Nat} (hW : wordAt w wb d p (.slice (some ⟨g, 0, none⟩) (2 * t) (2 * t)) l q) (hB : Blk64 w g (Bin.ints (syn m v (2 * t)))) (h0 : ∀ i, i < 2 * t → Sv m v i = 0) :
    Calls Tryz.prog 121 #[.pointer (some ⟨db, 0, none⟩), .pointer (some ⟨wb, 0, none⟩)] w fun e w' => e = .returned .nilIface ∧ w = w' := by
  have ht := K.t40
  have hc := clean_of hB (by omega)
  rw [show decide (∀ j, j < 2 * t → sv m v (j + 1) = 0) = true from decide_eq_true fun j hj => (Sv_nil v j).2 (h0 j hj)] at hc
  obtain ⟨_, _, d2, _⟩ := hW.cells
  clear hW hB K b h0
  go_enter Tryz.func121, Tryz.ntmps121
  go_wp2_with fail
  refine hc.mono ?_
  rintro e w1 ⟨rfl, rfl⟩
  clear hc
  go_wp2_with fail
  go_ret
  exact ⟨rfl, rfl⟩
/-- what Locate answers of a word's values. -/
theorem locate_of {t v g f be ce bl : Nat} {w : World} (F : Fld.FldAt m w f be ce bl) (hB : Blk64 w g (Bin.ints (syn m v (2 * t)))) (ht : t ≤ 40) :
    Calls Tryz.prog 155 #[.pointer (some ⟨f, 0, none⟩), .slice (some ⟨g, 0, none⟩) (2 * t) (2 * t)] w fun e w' => ∃ a c, e = .returned (.tuple #[.slice a (Pl.top (bm (Sv m v) (2 * t)).c 100) c, .int .i64 ((bm (Sv m v) (2 * t)).L : Int)]) ∧ NV m w' 100 a (Pl.top (bm (Sv m v) (2 * t)).c 100) c (bm (Sv m v) (2 * t)).c ∧ Below w.heap.size w w' := by
  have hlen : (Bin.ints (syn m v (2 * t))).length = 2 * t := by unfold Bin.ints; rw [List.length_map, syn_length]
  have r := Blk64.rowz hB (by rw [hlen]; omega)
  rw [hlen] at r
  refine (locate_any _ _ _ _ w F r (Sv m v) (2 * t) (by omega) fun i hi => syn_sr hi).mono ?_
  rintro e w' ⟨a, n, c, rfl, N, b⟩
  have hn : n = Pl.top (bm (Sv m v) (2 * t)).c 100 := by
    have hbd : Bd (bm (Sv m v) (2 * t)).c 100 := N.bd.mono N.le
    rw [← top_same N.bd hbd, N.top]
  subst hn
  exact ⟨a, c, rfl, N, b⟩
set_option maxRecDepth 100000 in
set_option maxHeartbeats 2000000 in
theorem locate_more {t n : Nat} {w0 w : World} {db s wb : Nat} {ym yz : Addr} (K : Base m t n w0 db s ym yz) (b : Below w0.heap.size w0 w) {d p l q : Value} {g v : Nat} (hW : wordAt w wb d p (.slice (some ⟨g, 0, none⟩) (2 * t) (2 * t)) l q) (hv : ∀ x ∈ [d, p, .slice (some ⟨g, 0, none⟩) (2 * t) (2 * t), l, q], ∀ z, x ≠ .int .i64 z) (hB : Blk64 w g (Bin.ints (syn m v (2 * t)))) (h0 : ¬ ∀ i, i < 2 * t → Sv m v i = 0) (good : Bool) (hg : good = decide ((bm (Sv m v) (2 * t)).L ≤ t ∧ Pl.top (bm (Sv m v) (2 * t)).c 100 = (bm (Sv m v) (2 * t)).L + 1)) :
    Calls Tryz.prog 121 #[.pointer (some ⟨db, 0, none⟩), .pointer (some ⟨wb, 0, none⟩)] w fun e w' =>
      (good = true ∧ e = .returned .nilIface ∧ ∃ a c, wordAt w' wb d p (.slice (some ⟨g, 0, none⟩) (2 * t) (2 * t)) (.slice a (Pl.top (bm (Sv m v) (2 * t)).c 100) c) q ∧ NV m w' 100 a (Pl.top (bm (Sv m v) (2 * t)).c 100) c (bm (Sv m v) (2 * t)).c ∧ Tn [wb] w w' [wb]) ∨
      (good = false ∧ e = .returned (errOf ym) ∧ Tn [wb] w w' [wb]) := by
  have ht := K.t40
  have hc := clean_of hB (by omega)
  rw [show decide (∀ j, j < 2 * t → sv m v (j + 1) = 0) = false from decide_eq_false fun h => h0 fun j hj => (Sv_nil v j).1 (h j hj)] at hc
  obtain ⟨_, _, d2, _⟩ := hW.cells
  have K1 := K.below b
  have c0 := K1.dec.cell
  obtain ⟨c, hcc⟩ : ∃ c, c = (bm (Sv m v) (2 * t)).c := ⟨_, rfl⟩
  obtain ⟨L, hLL⟩ : ∃ L, L = (bm (Sv m v) (2 * t)).L := ⟨_, rfl⟩
  have HF : Hid (∀ W, Below w.heap.size w W → Calls Tryz.prog 156 #[.pointer (some ⟨s, 0, none⟩)] W fun e w' => (∃ f be ce bl, e = .returned (.pointer (some ⟨f, 0, none⟩)) ∧ Fld.FldAt m W f be ce bl) ∧ W = w') := fun W bb => field_code W s (K1.code.below bb)
  have HS : Hid (∀ W, Below w.heap.size w W → W.cell? ⟨db, 0, none⟩ = some (.pointer (some ⟨s, 0, none⟩)) ∧ W.cell? ⟨wb, 2, none⟩ = some (.slice (some ⟨g, 0, none⟩) (2 * t) (2 * t)) ∧ Below w.heap.size w W) := fun W bb =>
    ⟨(bb.cell (p := ⟨db, 0, none⟩) (lt_of_block K1.dec)).trans c0, (bb.cell (p := ⟨wb, 2, none⟩) (lt_of_block hW)).trans d2, bb⟩
  have HL : Hid (∀ W f be ce bl, Below w.heap.size w W → Fld.FldAt m W f be ce bl → Calls Tryz.prog 155 #[.pointer (some ⟨f, 0, none⟩), .slice (some ⟨g, 0, none⟩) (2 * t) (2 * t)] W fun e w' => ∃ a' c', e = .returned (.tuple #[.slice a' (Pl.top c 100) c', .int .i64 (L : Int)]) ∧ NV m w' 100 a' (Pl.top c 100) c' c ∧ (w'.cell? ⟨db, 0, none⟩ = some (.pointer (some ⟨s, 0, none⟩)) ∧ w'.cell? ⟨wb, 2, none⟩ = some (.slice (some ⟨g, 0, none⟩) (2 * t) (2 * t)) ∧ Below w.heap.size w w')) := fun W f be ce bl bb F => by
    refine (locate_of F ((bb.block g hB.lt).trans hB) ht).mono ?_
    rintro e w' ⟨a', c', rfl, N, b'⟩
    rw [← hcc] at N ⊢
    rw [← hLL]
    exact ⟨a', c', rfl, N, HS.out _ (bb.trans (b'.mono bb.size))⟩
  rw [← hcc, ← hLL] at hg
  rw [← hcc]
  have htop : Pl.top c 100 ≤ 100 := top_le c 100
  have hLb : L ≤ 2 * t := by rw [hLL]; exact (bm_inv _ _).le
  obtain ⟨T, hT⟩ : ∃ T, T = Pl.top c 100 := ⟨_, rfl⟩
  rw [← hT] at hg htop HL ⊢
  have HW := Lib.hid (And.intro hW hv)
  have HK := Lib.hid K1
  have HT := Lib.hid (fun W (bb : Below w.heap.size w W) => t_code W s (K1.code.below bb))
  have hS0 := HS.out _ ((Drawn.mk w 1).below w.heap.size)
  replace hS0 : w.drew.cell? ⟨db, 0, none⟩ = some (.pointer (some ⟨s, 0, none⟩)) ∧ w.drew.cell? ⟨wb, 2, none⟩ = some (.slice (some ⟨g, 0, none⟩) (2 * t) (2 * t)) ∧ Below w.heap.size w w.drew := hS0
  have HB := Lib.hid hB
  clear hB hW hv K K1 b h0 hcc hLL hT
  go_enter Tryz.func121, Tryz.ntmps121
  go_wp2_with fail
  refine hc.mono ?_
  rintro e w1 ⟨rfl, rfl⟩
  clear hc
  go_wp2_with fail
  clear c0 d2
  go_region_held3 (fun w' => w'.cell? ⟨db, 0, none⟩ = some (.pointer (some ⟨s, 0, none⟩)) ∧ w'.cell? ⟨wb, 2, none⟩ = some (.slice (some ⟨g, 0, none⟩) (2 * t) (2 * t)) ∧ Below w.heap.size w w')
    (first | assumption | exact ⟨by assumption, by assumption, by assumption⟩)
    (first
      | (go_at_call 156; refine Calls.mono (HF.out _ (And.right (And.right (by assumption)))) ?_; rintro e w13 ⟨⟨fb, be, ce, bl, rfl, ff⟩, rfl⟩)
      | (go_at_call 155; refine Calls.mono (HL.out _ _ _ _ _ (And.right (And.right (by assumption))) (by assumption)) ?_; rintro e w1 ⟨a', c', rfl, q1, q2⟩))
  obtain ⟨e0, e2, b1⟩ := q2
  have hW1 : wordAt w1 wb d p (.slice (some ⟨g, 0, none⟩) (2 * t) (2 * t)) l q := (b1.block _ (lt_of_block HW.out.1)).trans HW.out.1
  have HQ := Lib.hid (And.intro q1 (And.intro hW1 b1))
  have hT1 := HT.out w1 b1
  have em := (HK.out.many.below b1).1
  unfold Sent at em
  obtain ⟨_, _, _, k3, _, kf⟩ := hW1.cells
  have kf3 := kf 3
  clear q1 hW1 b1 ff hS0 HF HL kf e2
  by_cases hgd : L ≤ t ∧ T = L + 1
  · obtain ⟨h1, rfl⟩ := hgd
    have hg1 : good = true := by rw [hg]; exact decide_eq_true ⟨h1, rfl⟩
    have y1 : decide ((t : Int) < (L : Int)) = false := decide_eq_false (by omega)
    have y2 : decide (t < L) = false := decide_eq_false (by omega)
    have HG := Lib.hid hg1
    have HE : Hid (wordAt (w1.setCell ⟨wb, 3, none⟩ (.slice a' (L + 1) c')) wb d p (.slice (some ⟨g, 0, none⟩) (2 * t) (2 * t)) (.slice a' (L + 1) c') q ∧ NV m (w1.setCell ⟨wb, 3, none⟩ (.slice a' (L + 1) c')) 100 a' (L + 1) c' c ∧ Tn [wb] w (w1.setCell ⟨wb, 3, none⟩ (.slice a' (L + 1) c')) [wb]) :=
      ⟨heap_setCell_same _ _ 3 _ _ _ HQ.out.2.1, nv_store HQ.out.2.1 HW.out.2 HQ.out.1, (Tn.below HQ.out.2.2).trans (Tn.setCell w1 _ _ (by simp))⟩
    clear hg hg1 h1
    go_wp2_with fail
    refine hT1.mono ?_
    rintro e w2 ⟨rfl, rfl⟩
    clear hT1
    go_wp2_with fail
    go_ret
    exact .inl ⟨HG.out, rfl, a', c', HE.out⟩
  · have hg1 : good = false := by rw [hg]; exact decide_eq_false hgd
    have y : (decide ((t : Int) < (L : Int)) = true ∧ decide (t < L) = true) ∨ ((decide ((t : Int) < (L : Int)) = false ∧ decide (t < L) = false) ∧ ((T : Int) - 1 == (L : Int)) = false ∧ ¬ ((T : Int) - 1 = (L : Int))) := by
      by_cases h : t < L
      · exact .inl ⟨decide_eq_true (by omega), decide_eq_true h⟩
      · have : ¬ ((T : Int) - 1 = (L : Int)) := by omega
        exact .inr ⟨⟨decide_eq_false (by omega), decide_eq_false h⟩, by simpa using this, this⟩
    have HG := Lib.hid hg1
    have HE := Lib.hid (Tn.below (bl := [wb]) HQ.out.2.2)
    clear hg hg1 hgd
    rcases y with ⟨y1, y2⟩ | ⟨⟨y1, y2⟩, y3, y4⟩
    all_goals
      go_wp2_with fail
      refine hT1.mono ?_
      rintro e w2 ⟨rfl, rfl⟩
      clear hT1
      go_wp2_with fail
      go_ret
      exact .inr ⟨HG.out, rfl, HE.out⟩
end
end Go.Proofs.YtdhcigiaidlmbaaGreatDoor.Dec
/- The step of mending that finds the places. By the verifier of shale. -/
namespace Go.Proofs.YtdhcigiaidlmbaaGreatDoor.Dec
open Go Go.RowKit Bin Pl Cos Enc Syn Loc Sea
set_option linter.unusedVariables false
section
variable {m : Nat} [M : Pl.Mid m]
set_option maxRecDepth 100000 in
set_option maxHeartbeats 1000000 in
theorem search_none {w : World} {db wb : Nat} {d p sv q : Value} (hW : wordAt w wb d p sv (.slice none 0 0) q) :
    Calls Tryz.prog 122 #[.pointer (some ⟨db, 0, none⟩), .pointer (some ⟨wb, 0, none⟩)] w fun e w' => e = .returned .nilIface ∧ w = w' := by
  obtain ⟨_, _, _, d3, _⟩ := hW.cells
  clear hW
  go_enter Tryz.func122, Tryz.ntmps122
  go_wp2_with fail
  go_ret
  exact ⟨rfl, rfl⟩
theorem rowz_store {w : World} {wb i : Nat} {d p s l q u : Value} {a : Option Addr} {n c : Nat} {z : List Int} (h : wordAt w wb d p s l q) (hv : ∀ x ∈ [d, p, s, l, q], ∀ z, x ≠ .int .i64 z) (N : RowZ w a n c z) : RowZ (w.setCell ⟨wb, i, none⟩ u) a n c z := by
  refine ⟨N.hlen, N.hcap, N.hmost, fun k hk => ?_⟩
  obtain ⟨b, off, e, hc, hb⟩ := N.row k hk
  refine ⟨b, off, e, ?_, by simpa [World.setCell] using hb⟩
  have hne := row_apart h hv hc
  unfold World.cell? at hc ⊢
  simp only at hc ⊢
  rw [Below.heap_setCell _ _ _ _ hne]
  exact hc
set_option maxRecDepth 100000 in
set_option maxHeartbeats 2000000 in
theorem search_more {t n : Nat} {w0 w : World} {db s wb : Nat} {ym yz : Addr} (K : Base m t n w0 db s ym yz) (b : Below w0.heap.size w0 w) {d p sv q : Value} {a1 : Option Addr} {L c1 : Nat} {c : Ser (El m)} (hW : wordAt w wb d p sv (.slice a1 (L + 1) c1) q) (hv : ∀ x ∈ [d, p, sv, .slice a1 (L + 1) c1, q], ∀ z, x ≠ .int .i64 z) (hwb : w0.heap.size ≤ wb) (N : NV m w 100 a1 (L + 1) c1 c) (good : Bool) (hg : good = decide ((hits (zAt c 100) (8 * n + deg m t)).length = L)) :
    Calls Tryz.prog 122 #[.pointer (some ⟨db, 0, none⟩), .pointer (some ⟨wb, 0, none⟩)] w fun e w' =>
      (good = true ∧ e = .returned .nilIface ∧ ∃ a2 c2, wordAt w' wb d p sv (.slice a1 (L + 1) c1) (.slice a2 (hits (zAt c 100) (8 * n + deg m t)).length c2) ∧ RowZ w' a2 (hits (zAt c 100) (8 * n + deg m t)).length c2 (intsN (hits (zAt c 100) (8 * n + deg m t))) ∧ Tn [wb] w w' [wb]) ∨
      (good = false ∧ e = .returned (errOf ym) ∧ Tn [wb] w w' [wb]) := by
  have K1 := K.below b
  have HNE : Hid (6 ≠ wb) := by show _ ≠ _; have := K.many.2.1; omega
  have c0 := K1.dec.cell
  obtain ⟨_, _, _, d3, d4, _⟩ := hW.cells
  have hL100 : L + 1 ≤ 100 := N.le
  have hroom := K.room
  have hn2 := K.n2048
  have ht2 := K.t40
  obtain ⟨B, hB⟩ : ∃ B, B = 8 * n + deg m t := ⟨_, rfl⟩
  have HF : Hid (∀ W, Below w.heap.size w W → Calls Tryz.prog 156 #[.pointer (some ⟨s, 0, none⟩)] W fun e w' => (∃ f be ce bl, e = .returned (.pointer (some ⟨f, 0, none⟩)) ∧ Fld.FldAt m W f be ce bl) ∧ W = w') := fun W bb => field_code W s (K1.code.below bb)
  have HBt : Hid (∀ W, Below w.heap.size w W → Calls Tryz.prog 158 #[.pointer (some ⟨s, 0, none⟩)] W fun e w' => e = .returned (.int .i64 (B : Int)) ∧ Below w.heap.size w w' ∧ Below W.heap.size W w') := fun W bb => by
    rw [hB]
    refine (bits_code W s (K1.code.below bb) hn2 ht2).mono ?_
    rintro e w' ⟨rfl, dd⟩
    exact ⟨rfl, bb.trans ((dd.below W.heap.size).mono bb.size), dd.below _⟩
  have HS : Hid (∀ W, Below w.heap.size w W → W.cell? ⟨db, 0, none⟩ = some (.pointer (some ⟨s, 0, none⟩)) ∧ W.cell? ⟨wb, 3, none⟩ = some (.slice a1 (L + 1) c1) ∧ W.cell? ⟨wb, 4, none⟩ = some q ∧ W.frozen? ⟨wb, 4, none⟩ = false) := fun W bb =>
    ⟨(bb.cell (p := ⟨db, 0, none⟩) (lt_of_block K1.dec)).trans c0, (bb.cell (p := ⟨wb, 3, none⟩) (lt_of_block hW)).trans d3, (bb.cell (p := ⟨wb, 4, none⟩) (lt_of_block hW)).trans d4, (wordAt.cells ((bb.block _ (lt_of_block hW)).trans hW)).2.2.2.2.2 4⟩
  rw [← hB] at hg ⊢
  obtain ⟨H, hH⟩ : ∃ H, H = hits (zAt c 100) B := ⟨_, rfl⟩
  have hlim : lim m (B : Int) = B := by unfold lim; omega
  have HQ : Hid (∀ W f be ce bl, Below w.heap.size w W → Fld.FldAt m W f be ce bl → Calls Tryz.prog 157 #[.pointer (some ⟨f, 0, none⟩), .slice a1 (L + 1) c1, .int .i64 (B : Int)] W fun e w' => ∃ a' c', e = .returned (.slice a' H.length c') ∧ RowZ w' a' H.length c' (intsN H) ∧ Below w.heap.size w w') := fun W f be ce bl bb F => by
    have h := searchZ (B : Int) W F (N.below bb).pol (by decide) (K1.zero.below bb)
    rw [hlim, ← hH] at h
    refine h.mono ?_
    rintro e w' ⟨a', c', rfl, r, b'⟩
    exact ⟨a', c', rfl, r, bb.trans (b'.mono bb.size)⟩
  rw [← hH] at hg ⊢
  have hHl : H.length ≤ 16383 := by
    rw [hH]
    have := hits_len (zAt c 100) B
    have := Fld.size_hi m M.hi
    omega
  obtain ⟨hl, hhl⟩ : ∃ hl, hl = H.length := ⟨_, rfl⟩
  rw [← hhl] at hg hHl HQ ⊢
  have HW := Lib.hid (And.intro hW hv)
  have HK := Lib.hid K1
  have b0 : Below w.heap.size w w.drew := (Drawn.mk w 1).below _
  have z0 := HS.out _ b0
  obtain ⟨z1, z2, _⟩ := z0
  clear hW hv K K1 b N hH hhl hroom hB hlim
  go_enter Tryz.func122, Tryz.ntmps122
  go_wp2_with fail
  clear c0 d3 d4
  go_region_law (first
    | (go_simp; go_at_call 156; refine Calls.mono (HF.out _ (by assumption)) ?_; rintro e w13 ⟨⟨fb, be, ce, bl, rfl, ff⟩, rfl⟩)
    | (go_simp; go_at_call 158; refine Calls.mono (HBt.out _ (by assumption)) ?_; rintro e w14 ⟨rfl, b14, b14'⟩; obtain ⟨y1, y2, _⟩ := HS.out _ b14)
    | (go_simp; go_at_call 157; refine Calls.mono (HQ.out _ _ _ _ _ (by assumption) (by first | assumption | exact ff.below M.lo (by assumption))) ?_; rintro e w1 ⟨a', c', rfl, q1, b15⟩; obtain ⟨_, _, y3, y4⟩ := HS.out _ b15))
  all_goals
    have hW1 : wordAt w1 wb d p sv (.slice a1 (L + 1) c1) q := (b15.block _ (lt_of_block HW.out.1)).trans HW.out.1
    have HE : Hid (wordAt (w1.setCell ⟨wb, 4, none⟩ (.slice a' hl c')) wb d p sv (.slice a1 (L + 1) c1) (.slice a' hl c') ∧ RowZ (w1.setCell ⟨wb, 4, none⟩ (.slice a' hl c')) a' hl c' (intsN H) ∧ Tn [wb] w (w1.setCell ⟨wb, 4, none⟩ (.slice a' hl c')) [wb]) :=
      ⟨heap_setCell_same _ _ 4 _ _ _ hW1, rowz_store hW1 HW.out.2 q1, (Tn.below b15).trans (Tn.setCell w1 _ _ (by simp))⟩
    have em : (w1.setCell ⟨wb, 4, none⟩ (.slice a' hl c')).cell? ⟨6, 0, none⟩ = some (errOf ym) := by
      have h1 := (HK.out.many.below b15).1
      unfold Sent at h1
      unfold World.cell? at h1 ⊢
      simp only at h1 ⊢
      rw [Below.heap_setCell _ _ _ _ HNE.out]
      exact h1
    clear b15 y3 y4 q1 hW1
    generalize w1.setCell ⟨wb, 4, none⟩ (.slice a' hl c') = W2 at HE em ⊢
    obtain ⟨_, _, _, k3, k4, _⟩ := HE.out.1.cells
    go_wp2_with fail
    go_quiet (fail)
    have HE2 : Hid (wordAt (W2.drewN nq) wb d p sv (.slice a1 (L + 1) c1) (.slice a' hl c') ∧ RowZ (W2.drewN nq) a' hl c' (intsN H) ∧ Tn [wb] w (W2.drewN nq) [wb]) :=
      ⟨HE.out.1, HE.out.2.1.below ((Drawn.mk W2 nq).below _), HE.out.2.2.trans (Tn.below ((Drawn.mk W2 nq).below _))⟩
    replace em : (W2.drewN nq).cell? ⟨6, 0, none⟩ = some (errOf ym) := em
    clear k3 k4 HE
    generalize W2.drewN nq = W3 at HE2 em ⊢
    by_cases hgd : hl = L
    · have hg1 : good = true := by rw [hg]; exact decide_eq_true hgd
      have HG := Lib.hid hg1
      clear hg hg1
      subst hgd
      go_wp2_with fail
      go_ret
      exact .inl ⟨HG.out, rfl, a', c', HE2.out⟩
    · have hg1 : good = false := by rw [hg]; exact decide_eq_false hgd
      have y5 : ((hl : Int) == (L : Int)) = false := by simp; omega
      have y6 : (hl == L) = false := by simp [hgd]
      have y7 : ¬ ((hl : Int) = (L : Int)) := by omega
      have HG := Lib.hid (And.intro hg1 HE2.out.2.2)
      clear hg hg1 hgd
      go_wp2_with fail
      go_ret
      exact .inr ⟨HG.out.1, rfl, HG.out.2⟩
end
end Go.Proofs.YtdhcigiaidlmbaaGreatDoor.Dec
/- Flip's answers lie apart. By the verifier of shale. -/
namespace Go.Proofs.YtdhcigiaidlmbaaGreatDoor.Enc
open Go Go.RowKit Bin Cos
set_option linter.unusedVariables false
/-- a turned word, data and parity apart. -/
def FlipAp (D n P k vl vq : Nat) (w : World) (e : Ending) (w' : World) : Prop :=
  FlipAt D n P k vl vq w e w' ∧ ∀ a1 c1 a2 c2, e = .returned (.tuple #[.slice a1 n c1, .slice a2 P c2, .nilIface]) → ∀ x y, a1 = some x → a2 = some y → x.block ≠ y.block
theorem flip_ap {D n P k vl vq : Nat} {w w' : World} {a1 a2 : Option Addr} {c1 c2 : Nat} (h : FlipAt D n P k vl vq w (.returned (.tuple #[.slice a1 n c1, .slice a2 P c2, .nilIface])) w') (h2 : ∀ x y, a1 = some x → a2 = some y → x.block ≠ y.block) : FlipAp D n P k vl vq w (.returned (.tuple #[.slice a1 n c1, .slice a2 P c2, .nilIface])) w' := by
  refine ⟨h, fun b1 k1 b2 k2 e x y hx hy => ?_⟩
  simp only [Ending.returned.injEq, Value.tuple.injEq, Array.mk.injEq, List.cons.injEq, Value.slice.injEq] at e
  obtain ⟨⟨rfl, _⟩, ⟨rfl, _⟩, _⟩ := e
  exact h2 x y hx hy
section
variable {m : Nat} [M : Pl.Mid m]
attribute [local go_sem] Bits32.bxor Bits32.bxor_bit
set_option maxRecDepth 100000 in
set_option maxHeartbeats 2000000 in
theorem flip_apart {t n : Nat} (ht : 1 ≤ t) (ht2 : t ≤ 40) (w : World) (s : Nat) (h : CodeAt m t n w s) (a : Option Addr) (cap : Nat) (l : List (BitVec 8)) (hl : Pol w a n cap l) (hn : n ≤ 2048) (a' : Option Addr) (cap' : Nat) (q : List (BitVec 8)) (hq : Pol w a' (pb (deg m t)) cap' q) (k : Nat) (hk : k < 8 * n + deg m t) :
    Calls Tryz.prog 159 #[.pointer (some ⟨s, 0, none⟩), .slice a n cap, .slice a' (pb (deg m t)) cap', .int .i64 (k : Int)] w (FlipAp (deg m t) n (pb (deg m t)) k (val l) (val q) w) := by
  have hd := deg_560 (m := m) ht2
  have hd1 := deg_pos M.lo ht
  have HPB := Lib.hid (parityB_any w s h ht2)
  have HBT := Lib.hid (bits_code w s h hn ht2)
  have hsl := h.lt
  obtain ⟨f, be, ce, bl, ga, gn, gc, lb, tb, h1, _⟩ := h
  obtain ⟨c0, c1, c2, c3, c4, c5, c6, cf⟩ := code_cells h1
  have HC := Lib.hid h1
  obtain ⟨D, hD⟩ : ∃ D, D = deg m t := ⟨_, rfl⟩
  obtain ⟨P, hP⟩ : ∃ P, P = pb D := ⟨_, rfl⟩
  have hP2 : P = (D + 7) / 8 := hP
  rw [← hD] at hd hd1 HPB HBT c3 HC hq hk ⊢
  rw [← hP] at HPB hq ⊢
  have HPP := Lib.hid hP2
  have tk : ¬ (k : Int) < 0 := by omega
  have tb' : ¬ ((8 * n + D : Nat) : Int) ≤ (k : Int) := by omega
  obtain ⟨B, hB⟩ : ∃ B, B = 8 * n + D := ⟨_, rfl⟩
  rw [← hB] at tb' HBT hk
  have HBB := Lib.hid hB
  have HL := Lib.hid hl
  have HQ := Lib.hid hq
  have q1 : (D : Int) ≤ 560 := by omega
  have k1 : k ≤ 20000 := by omega
  clear h1 c0 c1 c4 c5 c6 cf hD hP hP2 hB hl hq
  go_enter Tryz.func159, Tryz.ntmps159
  go_wp2_with fail
  refine HPB.out.mono ?_
  rintro e w' ⟨rfl, rfl⟩
  go_wp2_with fail
  refine HBT.out.mono ?_
  rintro e w1 ⟨rfl, hd1'⟩
  have b1 := hd1'.below w.heap.size
  replace HC := Lib.hid ((b1.block s hsl).trans HC.out)
  replace HL := Lib.hid (HL.out.below b1)
  replace HQ := Lib.hid (HQ.out.below b1)
  have hs1 := b1.size
  clear hd1' HPB HBT c2 c3
  go_wp2_with fail
  refine (clone_any a n cap l w1 HL.out (by omega)).mono ?_
  rintro e w2 ⟨ax, cx, rfl, hN1, b2⟩
  go_wp2_with fail
  refine (clone_any a' P cap' q w2 (HQ.out.below b2) (by have := HPP.out; omega)).mono ?_
  rintro e w3 ⟨ay, cy, rfl, hN2, b3⟩
  have b23 := b2.trans (b3.mono b2.size)
  obtain ⟨c0, c1, c2, c3, c4, c5, c6, cf⟩ := code_cells ((b23.block s (by omega)).trans HC.out)
  clear c0 c1 c2 c4 c5 c6 cf
  have hs2 := b2.size
  have hB3 := b1.trans (b23.mono hs1)
  by_cases hkD : k < D
  · have tD : (k : Int) < (D : Int) := by omega
    obtain ⟨g, rfl, hgl, hBf⟩ := newP_block hN2 (by have := HPP.out; omega)
    have hlq := hN2.hlen
    have hi : k / 8 < P := by have := HPP.out; omega
    have x1 : (k : Int) / 8 < (P : Int) := by omega
    have x0 : (0 : Int) ≤ (k : Int) := by omega
    have d1 := hBf.cell (k / 8) (by omega)
    have d2 := hBf.free (k / 8)
    have hset := hBf.set (k / 8) (by omega) (nth8 q (k / 8) ^^^ BitVec.twoPow 8 (k % 8))
    have hv := val_turn q k (by omega)
    have o4 := Only.setCell w3 ⟨g, k / 8, none⟩ (.int .u8 (Bits32.b (nth8 q (k / 8) ^^^ BitVec.twoPow 8 (k % 8))))
    have HE : Hid (FlipAt D n P k (val l) (val q) w (.returned (.tuple #[.slice ax n cx, .slice (some ⟨g, 0, none⟩) P cy, .nilIface])) (w3.setCell ⟨g, k / 8, none⟩ (.int .u8 (Bits32.b (nth8 q (k / 8) ^^^ BitVec.twoPow 8 (k % 8))))).drew) := by
      refine ⟨ax, cx, l, _, cy, q.set (k / 8) (nth8 q (k / 8) ^^^ BitVec.twoPow 8 (k % 8)), rfl, ⟨hN1.hlen, hN1.hcap, hN1.hmost, ?_⟩, ⟨by rw [List.length_set]; exact hN2.hlen, hN2.hcap, hN2.hmost, Or.inr ⟨g, rfl, by omega, buf_drew hset⟩⟩, by rw [if_pos hkD, Nat.xor_zero], by rw [if_pos hkD]; exact hv, (hB3.trans (o4.below (by show _ ≤ g; omega))).drew⟩
      rcases hN1.own with h | ⟨gx, e, hgx, hx⟩
      · exact Or.inl h
      · refine Or.inr ⟨gx, e, by omega, buf_drew (buf_only (hx.below b3 hx.lt) o4 (by show gx ≠ g; have := hx.lt; omega))⟩
    have HAP : Hid (∀ x y, ax = some x → (some ⟨g, 0, none⟩ : Option Addr) = some y → x.block ≠ y.block) := by
      intro x y hx hy
      cases hy
      rcases hN1.own with ⟨h, _⟩ | ⟨gx, e, _, hb⟩
      · rw [h] at hx; cases hx
      · rw [e] at hx
        cases hx
        have := hb.lt
        show gx ≠ g
        omega
    clear hN1 hN2 hBf hset hv o4 b2 b3 b23 hB3 HL HQ HC hlq
    go_wp2_with fail
    go_region
    go_wp2_with fail
    go_ret3
    exact flip_ap HE.out HAP.out
  · have tD : ¬ (k : Int) < (D : Int) := by omega
    obtain ⟨j, hj⟩ : ∃ j, j = k - D := ⟨_, rfl⟩
    have ej : (k : Int) - (D : Int) = (j : Int) := by omega
    obtain ⟨g, rfl, hgl, hBf0⟩ := newP_block hN1 (by have := HBB.out; omega)
    have hBf := hBf0.below b3 hBf0.lt
    have hlq := hN1.hlen
    have hi : j / 8 < n := by have := HBB.out; omega
    have x1 : (j : Int) / 8 < (n : Int) := by omega
    have x0 : (0 : Int) ≤ (j : Int) := by omega
    have xj : (j : Int) ≤ 100000 := by omega
    have d1 := hBf.cell (j / 8) (by omega)
    have d2 := hBf.free (j / 8)
    have hset := hBf.set (j / 8) (by omega) (nth8 l (j / 8) ^^^ BitVec.twoPow 8 (j % 8))
    have hv := val_turn l j (by omega)
    have o4 := Only.setCell w3 ⟨g, j / 8, none⟩ (.int .u8 (Bits32.b (nth8 l (j / 8) ^^^ BitVec.twoPow 8 (j % 8))))
    have hglt := hBf0.lt
    have HE : Hid (FlipAt D n P k (val l) (val q) w (.returned (.tuple #[.slice (some ⟨g, 0, none⟩) n cx, .slice ay P cy, .nilIface])) (w3.setCell ⟨g, j / 8, none⟩ (.int .u8 (Bits32.b (nth8 l (j / 8) ^^^ BitVec.twoPow 8 (j % 8))))).drew) := by
      refine ⟨_, cx, l.set (j / 8) (nth8 l (j / 8) ^^^ BitVec.twoPow 8 (j % 8)), ay, cy, q, rfl, ⟨by rw [List.length_set]; exact hN1.hlen, hN1.hcap, hN1.hmost, Or.inr ⟨g, rfl, by omega, buf_drew hset⟩⟩, ⟨hN2.hlen, hN2.hcap, hN2.hmost, ?_⟩, by rw [if_neg hkD, ← hj]; exact hv, by rw [if_neg hkD, Nat.xor_zero], (hB3.trans (o4.below (by show _ ≤ g; omega))).drew⟩
      rcases hN2.own with h | ⟨gx, e, hgx, hx⟩
      · exact Or.inl h
      · refine Or.inr ⟨gx, e, by omega, buf_drew (buf_only hx o4 (by show gx ≠ g; omega))⟩
    have HAP : Hid (∀ x y, (some ⟨g, 0, none⟩ : Option Addr) = some x → ay = some y → x.block ≠ y.block) := by
      intro x y hx hy
      cases hx
      rcases hN2.own with ⟨h, _⟩ | ⟨gx, e, hgx, _⟩
      · rw [h] at hy; cases hy
      · rw [e] at hy
        cases hy
        show g ≠ gx
        omega
    clear hN1 hN2 hBf hBf0 hset hv o4 b2 b3 b23 hB3 HL HQ HC hlq hj
    go_wp2_with fail
    go_region
    go_wp2_with fail
    go_ret3
    exact flip_ap HE.out HAP.out
end
end Go.Proofs.YtdhcigiaidlmbaaGreatDoor.Enc
/- The step of mending that turns the bits. By the verifier of shale. -/
namespace Go.Proofs.YtdhcigiaidlmbaaGreatDoor.Dec
open Go Go.RowKit Bin Pl Cos Enc Syn Loc Sea
set_option linter.unusedVariables false
/-- bytes in a block of their own, at base or above. -/
structure Fresh (B : Nat) (w : World) (a : Option Addr) (n c : Nat) (X : List (BitVec 8)) : Prop where
  hlen : n = X.length
  hcap : n ≤ c
  hmost : c ≤ maxLen
  own : ∃ g, a = some ⟨g, 0, none⟩ ∧ B ≤ g ∧ Buf8 w g X
theorem Fresh.pol {B : Nat} {w : World} {a : Option Addr} {n c : Nat} {X : List (BitVec 8)} (h : Fresh B w a n c X) : Pol w a n c X := by
  obtain ⟨g, rfl, hg, hb⟩ := h.own
  exact ⟨h.hlen, h.hcap, h.hmost, (fun e => by cases e), Or.inr ⟨g, 0, rfl, hb.row, hb.lt⟩⟩
theorem fresh_new {w w' : World} {a : Option Addr} {n c : Nat} {X : List (BitVec 8)} (h : NewP w w' a n c X) (hn : 0 < n) {B : Nat} (hB : B ≤ w.heap.size) : Fresh B w' a n c X := by
  obtain ⟨g, rfl, hg, hb⟩ := newP_block h hn
  exact ⟨h.hlen, h.hcap, h.hmost, g, rfl, Nat.le_trans hB hg, hb⟩
theorem Fresh.newP {w w' : World} {a : Option Addr} {n c : Nat} {X : List (BitVec 8)} (h : Fresh w.heap.size w' a n c X) : NewP w w' a n c X := by
  obtain ⟨g, e, hg, hb⟩ := h.own
  exact ⟨h.hlen, h.hcap, h.hmost, .inr ⟨g, e, hg, hb⟩⟩
theorem Fresh.same {B : Nat} {w w' : World} {a : Option Addr} {n c : Nat} {X : List (BitVec 8)} (h : Fresh B w a n c X) (k : ∀ g, a = some ⟨g, 0, none⟩ → g < w.heap.size → w'.heap[g]? = w.heap[g]?) : Fresh B w' a n c X := by
  obtain ⟨g, e, hg, hb⟩ := h.own
  have hl := hb.lt
  obtain ⟨cur, t, h1, h2⟩ := hb
  exact ⟨h.hlen, h.hcap, h.hmost, g, e, hg, cur, t, (k g e hl).trans h1, h2⟩
theorem Fresh.below {B : Nat} {w w' : World} {a : Option Addr} {n c : Nat} {X : List (BitVec 8)} (h : Fresh B w a n c X) (b : Below w.heap.size w w') : Fresh B w' a n c X := h.same fun g _ hl => b.block g hl
/-- a word holds no bytes. -/
theorem fresh_ne {B : Nat} {w : World} {a : Option Addr} {n c wb : Nat} {X : List (BitVec 8)} {d p s l q : Value} (h : Fresh B w a n c X) (hn : 0 < n) (hW : wordAt w wb d p s l q) (hd : ∀ k z, d ≠ .int k z) : ∀ g, a = some ⟨g, 0, none⟩ → g ≠ wb := by
  obtain ⟨g, rfl, hg, hb⟩ := h.own
  rintro g' e rfl
  cases e
  have h1 := hb.cell 0 (by rw [← h.hlen]; exact hn)
  rw [hW.cells.1] at h1
  exact hd _ _ (Option.some.inj h1)
theorem Fresh.store {B : Nat} {w : World} {a : Option Addr} {n c wb i : Nat} {X : List (BitVec 8)} {d p s l q u : Value} (h : Fresh B w a n c X) (hn : 0 < n) (hW : wordAt w wb d p s l q) (hd : ∀ k z, d ≠ .int k z) : Fresh B (w.setCell ⟨wb, i, none⟩ u) a n c X :=
  h.same fun g e _ => Below.heap_setCell _ _ _ _ (fresh_ne h hn hW hd g e)
theorem tn_below {w0 w w' : World} {wb : Nat} (b : Below w0.heap.size w0 w) (t : Tn [wb] w w' [wb]) (h : w0.heap.size ≤ wb) : Below w0.heap.size w0 w' :=
  b.trans { os := t.os, tape := t.tape, output := t.output, size := t.size, block := fun k hk => t.same k (by have := b.size; omega) (by simp; omega) }
/-- two lists in blocks of their own. -/
def Ap (a1 a2 : Option Addr) : Prop := ∀ x y, a1 = some x → a2 = some y → x.block ≠ y.block
theorem shr_pow (D k : Nat) : (2 ^ k) >>> D = if k < D then 0 else 2 ^ (k - D) := by
  apply Nat.eq_of_testBit_eq
  intro i
  rw [Nat.testBit_shiftRight, Nat.testBit_two_pow]
  split
  · rw [Nat.zero_testBit]; exact decide_eq_false (by omega)
  · rw [Nat.testBit_two_pow, Bool.eq_iff_iff]; simp; omega
theorem mod_pow (D k : Nat) : 2 ^ k % 2 ^ D = if k < D then 2 ^ k else 0 := by
  split
  · rename_i h
    exact Nat.mod_eq_of_lt (Nat.pow_lt_pow_right (by decide) h)
  · rename_i h
    exact Nat.mod_eq_zero_of_dvd (Nat.pow_dvd_pow 2 (by omega))
theorem xs_shr (l : List Nat) (j D : Nat) (hj : j < l.length) : xs (l.take (j + 1)) >>> D = xs (l.take j) >>> D ^^^ (if l.getD j 0 < D then 0 else 2 ^ (l.getD j 0 - D)) := by
  rw [xs_take l j hj, Nat.shiftRight_xor_distrib, shr_pow, List.getD_eq_getElem?_getD, List.getElem?_eq_getElem hj]; rfl
theorem xs_mod (l : List Nat) (j D : Nat) (hj : j < l.length) : xs (l.take (j + 1)) % 2 ^ D = xs (l.take j) % 2 ^ D ^^^ (if l.getD j 0 < D then 2 ^ l.getD j 0 else 0) := by
  rw [xs_take l j hj, Nat.xor_mod_two_pow, mod_pow, List.getD_eq_getElem?_getD, List.getElem?_eq_getElem hj]; rfl
section
variable {m : Nat} [M : Pl.Mid m]
set_option maxRecDepth 100000 in
set_option maxHeartbeats 2000000 in
theorem turnS_any {t n : Nat} {w0 w : World} {db s wb BB : Nat} {ym yz : Addr} (K : Base m t n w0 db s ym yz) (b : Below w0.heap.size w0 w) (hwb : w0.heap.size ≤ wb) (hBB : BB ≤ w.heap.size) {a a' a2 : Option Addr} {ca ca' c2 : Nat} {X Y : List (BitVec 8)} {sv lv : Value} {l : List Nat} (hW : wordAt w wb (.slice a n ca) (.slice a' (pb (deg m t)) ca') sv lv (.slice a2 l.length c2)) (hsv : ∀ x ∈ [sv, lv], ∀ z, x ≠ .int .i64 z) (hX : Fresh BB w a n ca X) (hY : Fresh BB w a' (pb (deg m t)) ca' Y) (hR : RowZ w a2 l.length c2 (intsN l)) (hl : ∀ p ∈ l, p < 8 * n + deg m t) (hAp : Ap a a') :
    Calls Tryz.prog 123 #[.pointer (some ⟨db, 0, none⟩), .pointer (some ⟨wb, 0, none⟩)] w fun e w' => e = .returned .nilIface ∧ ∃ b1 k1 X1 b2 k2 Y1, wordAt w' wb (.slice b1 n k1) (.slice b2 (pb (deg m t)) k2) sv lv (.slice a2 l.length c2) ∧ Fresh BB w' b1 n k1 X1 ∧ Fresh BB w' b2 (pb (deg m t)) k2 Y1 ∧ RowZ w' a2 l.length c2 (intsN l) ∧ val X1 = val X ^^^ xs l >>> deg m t ∧ val Y1 = val Y ^^^ xs l % 2 ^ deg m t ∧ Tn [wb] w w' [wb] ∧ Ap b1 b2 ∧ (l = [] ∨ Ap a2 b2) := by
  have hP1 : 0 < pb (deg m t) := by
    have := deg_pos M.lo K.t1
    unfold pb; omega
  have hlm : l.length ≤ maxLen := Nat.le_trans hR.hcap hR.hmost
  unfold maxLen at hlm
  have hrm := K.room
  have hszm := Fld.size_hi m M.hi
  obtain ⟨nl, hnl⟩ : ∃ nl, nl = l.length := ⟨_, rfl⟩
  obtain ⟨P, hP⟩ : ∃ P, P = pb (deg m t) := ⟨_, rfl⟩
  obtain ⟨D, hD⟩ : ∃ D, D = deg m t := ⟨_, rfl⟩
  have HFl : Hid (∀ W (bb : Below w0.heap.size w0 W) (a : Option Addr) (cap : Nat) (u : List (BitVec 8)) (a' : Option Addr) (cap' : Nat) (q : List (BitVec 8)) (k : Nat), Pol W a n cap u → Pol W a' P cap' q → k < 8 * n + D → Calls Tryz.prog 159 #[.pointer (some ⟨s, 0, none⟩), .slice a n cap, .slice a' P cap', .int .i64 (k : Int)] W (FlipAp D n P k (val u) (val q) W)) := fun W bb a cap u a' cap' q k h1 h2 h3 => by
    rw [hP] at h2 ⊢
    rw [hD] at h3 ⊢
    exact flip_apart K.t1 K.t40 W s (K.code.below bb) a cap u h1 K.n2048 a' cap' q h2 k h3
  rw [← hP] at hP1 hW hY ⊢
  rw [← hnl] at hW hR hlm ⊢
  rw [← hD] at hl hrm ⊢
  have HD := Lib.hid (K.dec)
  have HN1 := Lib.hid (And.intro K.n1 hP1)
  have HNL := Lib.hid (And.intro hnl hl)
  have HV := Lib.hid hsv
  have H0 : Hid (wordAt w wb (.slice a n ca) (.slice a' P ca') sv lv (.slice a2 nl c2) ∧ Fresh BB w a n ca X ∧ Fresh BB w a' P ca' Y ∧ RowZ w a2 nl c2 (intsN l) ∧ val X = val X ^^^ xs (l.take 0) >>> D ∧ val Y = val Y ^^^ xs (l.take 0) % 2 ^ D ∧ Tn [wb] w w [wb] ∧ Ap a a') :=
    ⟨hW, hX, hY, hR, by show val X = val X ^^^ 0 >>> D; simp, by show val Y = val Y ^^^ 0 % 2 ^ D; simp, Tn.refl _ _, hAp⟩
  obtain ⟨_, _, _, _, d4, _⟩ := hW.cells
  have HB := Lib.hid (And.intro b hwb)
  obtain ⟨V, hV⟩ : ∃ V, V = val X := ⟨_, rfl⟩
  obtain ⟨U, hU⟩ : ∃ U, U = val Y := ⟨_, rfl⟩
  have HVU := Lib.hid (And.intro hV hU)
  clear hW hX hY hR hl K b hP1 hnl hP hD hsv hV hU hwb hAp
  go_enter Tryz.func123, Tryz.ntmps123
  go_wp2_with fail
  clear d4
  go_loopg [15] nl (fun gh s15 wx => ∃ (j : Nat), gh = nl - j ∧ j ≤ nl ∧ s15 = .int .i64 (j : Int) ∧ Hid (∃ b1 k1 X1 b2 k2 Y1, wordAt wx wb (.slice b1 n k1) (.slice b2 P k2) sv lv (.slice a2 nl c2) ∧ Fresh BB wx b1 n k1 X1 ∧ Fresh BB wx b2 P k2 Y1 ∧ RowZ wx a2 nl c2 (intsN l) ∧ val X1 = V ^^^ xs (l.take j) >>> D ∧ val Y1 = U ^^^ xs (l.take j) % 2 ^ D ∧ Tn [wb] w wx [wb] ∧ Ap b1 b2 ∧ (j = 0 ∨ Ap a2 b2)))
  case atStart => exact ⟨0, rfl, Nat.zero_le _, rfl, a, ca, X, a', ca', Y, by
    obtain ⟨h1, h2, h3, h4, h5, h6, h7, h8⟩ := H0.out
    rw [HVU.out.1, HVU.out.2]
    exact ⟨h1, h2, h3, h4, h5, h6, h7, h8, .inl rfl⟩⟩
  case round =>
    clear H0
    obtain ⟨j, hg, hj, rfl, HI⟩ := hrel
    have HG := Lib.hid hg
    clear hg
    obtain ⟨W5, hW5⟩ : ∃ W5, W5 = wr := ⟨_, rfl⟩
    rw [← hW5] at HI ⊢
    clear hW5
    by_cases hlt : j < nl
    · have y0 : (j : Int) < (nl : Int) := by omega
      have y1 : (0 : Int) ≤ (j : Int) := by omega
      obtain ⟨b1, k1, X1, b2, k2, Y1, hW, hX, hY, hR, hv1, hv2, hT, _⟩ := HI.out
      obtain ⟨bb, off, rfl, cc, hbb⟩ := hR.row j hlt
      have hjl : j < l.length := by rw [← HNL.out.1]; exact hlt
      have hvj := intsN_at l j hjl
      unfold nth64 at hvj
      rw [hvj] at cc
      obtain ⟨p, hp⟩ : ∃ p, p = l.getD j 0 := ⟨_, rfl⟩
      have hpl : p < 8 * n + D := HNL.out.2 p (by
        rw [hp, List.getD_eq_getElem?_getD, List.getElem?_eq_getElem hjl]
        exact List.getElem_mem hjl)
      rw [← hp] at cc
      have hB5 := tn_below HB.out.1 hT HB.out.2
      have hdb : decAt W5 db s := (hB5.block _ (lt_of_block HD.out)).trans HD.out
      have c0 := hdb.cell
      obtain ⟨d0, d1, _⟩ := hW.cells
      have HF : Hid (∀ W, Below W5.heap.size W5 W → Calls Tryz.prog 159 #[.pointer (some ⟨s, 0, none⟩), .slice b1 n k1, .slice b2 P k2, .int .i64 (p : Int)] W fun e w' => ∃ a1 c1 X2 a3 c3 Y2, e = .returned (.tuple #[.slice a1 n c1, .slice a3 P c3, .nilIface]) ∧ (w'.cell? ⟨db, 0, none⟩ = some (.pointer (some ⟨s, 0, none⟩)) ∧ w'.cell? ⟨wb, 0, none⟩ = some (.slice b1 n k1) ∧ w'.cell? ⟨wb, 1, none⟩ = some (.slice b2 P k2) ∧ Below W5.heap.size W5 w') ∧ NewP W w' a1 n c1 X2 ∧ NewP W w' a3 P c3 Y2 ∧ val X2 = val X1 ^^^ (if p < D then 0 else 2 ^ (p - D)) ∧ val Y2 = val Y1 ^^^ (if p < D then 2 ^ p else 0) ∧ W5.heap.size ≤ W.heap.size ∧ Ap a1 a3) := fun W bW => by
        refine (HFl.out W (hB5.trans (bW.mono hB5.size)) b1 k1 X1 b2 k2 Y1 p (hX.pol.below bW) (hY.pol.below bW) hpl).mono ?_
        rintro e w' ⟨⟨a1, c1, X2, a3, c3, Y2, rfl, n1, n2, v1, v2, b6⟩, hap⟩
        have bb6 := bW.trans (b6.mono bW.size)
        exact ⟨a1, c1, X2, a3, c3, Y2, rfl, ⟨(bb6.cell (p := ⟨db, 0, none⟩) (lt_of_block hdb)).trans c0, (bb6.cell (p := ⟨wb, 0, none⟩) (lt_of_block hW)).trans d0, (bb6.cell (p := ⟨wb, 1, none⟩) (lt_of_block hW)).trans d1, bb6⟩, n1, n2, v1, v2, bW.size, hap _ _ _ _ rfl⟩
      have HBB5 := Lib.hid hbb
      have HQ := Lib.hid (And.intro hW (And.intro hX (And.intro hY (And.intro hR (And.intro hv1 (And.intro hv2 hT))))))
      have HJ := Lib.hid (And.intro hjl (And.intro hp hlt))
      have hS0 : W5.drew.cell? ⟨db, 0, none⟩ = some (.pointer (some ⟨s, 0, none⟩)) ∧ W5.drew.cell? ⟨wb, 0, none⟩ = some (.slice b1 n k1) ∧ W5.drew.cell? ⟨wb, 1, none⟩ = some (.slice b2 P k2) ∧ Below W5.heap.size W5 W5.drew := ⟨c0, d0, d1, (Drawn.mk W5 1).below _⟩
      clear hW hX hY hR hv1 hv2 hT hjl hp hlt hvj hB5 hdb hpl hbb HI
      go_wp2_with fail
      go_region_held3 (fun w' => w'.cell? ⟨db, 0, none⟩ = some (.pointer (some ⟨s, 0, none⟩)) ∧ w'.cell? ⟨wb, 0, none⟩ = some (.slice b1 n k1) ∧ w'.cell? ⟨wb, 1, none⟩ = some (.slice b2 P k2) ∧ Below W5.heap.size W5 w')
        (first | assumption | exact ⟨by assumption, by assumption, by assumption, by assumption⟩)
        (first
          | (go_at_call 159; refine Calls.mono (HF.out _ (And.right (And.right (And.right (by assumption))))) ?_; rintro e w6 ⟨a1, c1, X2, a3, c3, Y2, rfl, q0, q1, q2, q3, q4, q5, q6⟩))
      obtain ⟨hW, hX, hY, hR, hv1, hv2, hT⟩ := HQ.out
      have b6 := q0.2.2.2
      have hW6 : wordAt w6 wb (.slice b1 n k1) (.slice b2 P k2) sv lv (.slice (some ⟨bb, off, none⟩) nl c2) := (b6.block _ (lt_of_block hW)).trans hW
      have hW7 : wordAt (w6.setCell ⟨wb, 0, none⟩ (.slice a1 n c1)) wb (.slice a1 n c1) (.slice b2 P k2) sv lv (.slice (some ⟨bb, off, none⟩) nl c2) := heap_setCell_same _ _ 0 _ _ _ hW6
      have hW8 : wordAt ((w6.setCell ⟨wb, 0, none⟩ (.slice a1 n c1)).setCell ⟨wb, 1, none⟩ (.slice a3 P c3)) wb (.slice a1 n c1) (.slice a3 P c3) sv lv (.slice (some ⟨bb, off, none⟩) nl c2) := heap_setCell_same _ _ 1 _ _ _ hW7
      have hvs : ∀ (d p : Value), (∀ z, d ≠ .int .i64 z) → (∀ z, p ≠ .int .i64 z) → ∀ x ∈ [d, p, sv, lv, .slice (some ⟨bb, off, none⟩) nl c2], ∀ z, x ≠ .int .i64 z := by
        intro d p hd hp x hx z
        simp only [List.mem_cons, List.not_mem_nil, or_false] at hx
        rcases hx with rfl | rfl | rfl | rfl | rfl
        · exact hd z
        · exact hp z
        · exact HV.out _ (by simp) z
        · exact HV.out _ (by simp) z
        · simp
      have hBB2 : BB ≤ W5.heap.size := Nat.le_trans hBB hT.size
      have hX7 := ((fresh_new q1 HN1.out.1 (Nat.le_trans hBB2 q5)).store (i := 0) (u := .slice a1 n c1) HN1.out.1 hW6 (by simp)).store (i := 1) (u := .slice a3 P c3) HN1.out.1 hW7 (by simp)
      have hY7 := ((fresh_new q2 HN1.out.2 (Nat.le_trans hBB2 q5)).store (i := 0) (u := .slice a1 n c1) HN1.out.2 hW6 (by simp)).store (i := 1) (u := .slice a3 P c3) HN1.out.2 hW7 (by simp)
      have hR7 := rowz_store (i := 1) (u := .slice a3 P c3) hW7 (hvs _ _ (by simp) (by simp)) (rowz_store (i := 0) (u := .slice a1 n c1) hW6 (hvs _ _ (by simp) (by simp)) (hR.below b6))
      have hT7 : Tn [wb] w ((w6.setCell ⟨wb, 0, none⟩ (.slice a1 n c1)).setCell ⟨wb, 1, none⟩ (.slice a3 P c3)) [wb] := ((hT.trans (Tn.below b6)).trans (Tn.setCell w6 _ _ (by simp))).trans (Tn.setCell _ _ _ (by simp))
      have HN : Hid (∃ b1 k1 X1 b2 k2 Y1, wordAt ((w6.setCell ⟨wb, 0, none⟩ (.slice a1 n c1)).setCell ⟨wb, 1, none⟩ (.slice a3 P c3)) wb (.slice b1 n k1) (.slice b2 P k2) sv lv (.slice (some ⟨bb, off, none⟩) nl c2) ∧ Fresh BB ((w6.setCell ⟨wb, 0, none⟩ (.slice a1 n c1)).setCell ⟨wb, 1, none⟩ (.slice a3 P c3)) b1 n k1 X1 ∧ Fresh BB ((w6.setCell ⟨wb, 0, none⟩ (.slice a1 n c1)).setCell ⟨wb, 1, none⟩ (.slice a3 P c3)) b2 P k2 Y1 ∧ RowZ ((w6.setCell ⟨wb, 0, none⟩ (.slice a1 n c1)).setCell ⟨wb, 1, none⟩ (.slice a3 P c3)) (some ⟨bb, off, none⟩) nl c2 (intsN l) ∧ val X1 = V ^^^ xs (l.take (j + 1)) >>> D ∧ val Y1 = U ^^^ xs (l.take (j + 1)) % 2 ^ D ∧ Tn [wb] w ((w6.setCell ⟨wb, 0, none⟩ (.slice a1 n c1)).setCell ⟨wb, 1, none⟩ (.slice a3 P c3)) [wb] ∧ Ap b1 b2 ∧ (j + 1 = 0 ∨ Ap (some ⟨bb, off, none⟩) b2)) := by
        refine ⟨a1, c1, X2, a3, c3, Y2, hW8, hX7, hY7, hR7, ?_, ?_, hT7, q6, .inr fun x y hx hy => by
          cases hx
          obtain ⟨g2, e2, hg2, _⟩ := newP_block q2 HN1.out.2
          rw [e2] at hy
          cases hy
          have h5 := HBB5.out
          show bb ≠ g2
          omega⟩
        · rw [q3, hv1, xs_shr l j D HJ.out.1, ← HJ.out.2.1, Nat.xor_assoc]
        · rw [q4, hv2, xs_mod l j D HJ.out.1, ← HJ.out.2.1, Nat.xor_assoc]
      obtain ⟨f0, f1, _, _, _, ff⟩ := hW6.cells
      obtain ⟨g0, g1, _, _, _, gf⟩ := hW7.cells
      have ff0 := ff 0
      have gf1 := gf 1
      have HJ2 : Hid (j + 1 ≤ nl) := HJ.out.2.2
      clear hW hX hY hR hv1 hv2 hT b6 hW6 hW7 hW8 hvs hX7 hY7 hR7 hT7 ff gf q0 q1 q2 q3 q4 q5 q6 cc c0 d0 d1 hS0 HF
      go_wp2_with fail
      go_roundg (nl - (j + 1))
      case measure => have := HG.out; have := HJ2.out; omega
      case rel => exact ⟨j + 1, rfl, HJ2.out, by have := HJ2.out; go_num, HN.out⟩
    · obtain rfl : j = nl := by omega
      have HE : Hid (∃ b1 k1 X1 b2 k2 Y1, wordAt W5 wb (.slice b1 n k1) (.slice b2 P k2) sv lv (.slice a2 j c2) ∧ Fresh BB W5 b1 n k1 X1 ∧ Fresh BB W5 b2 P k2 Y1 ∧ RowZ W5 a2 j c2 (intsN l) ∧ val X1 = V ^^^ xs l >>> D ∧ val Y1 = U ^^^ xs l % 2 ^ D ∧ Tn [wb] w W5 [wb] ∧ Ap b1 b2 ∧ (l = [] ∨ Ap a2 b2)) := by
        obtain ⟨b1, k1, X1, b2, k2, Y1, h1, h2, h3, h4, h5, h6, h7, h8, h9⟩ := HI.out
        rw [show l.take j = l by rw [HNL.out.1]; exact List.take_length] at h5 h6
        exact ⟨b1, k1, X1, b2, k2, Y1, h1, h2, h3, h4, h5, h6, h7, h8, h9.imp_left fun h => List.eq_nil_of_length_eq_zero (by rw [← HNL.out.1]; exact h)⟩
      clear HI hlt hj
      go_wp2_with fail
      go_ret
      obtain ⟨b1, k1, X1, b2, k2, Y1, h1, h2, h3, h4, h5, h6, h7⟩ := HE.out
      exact ⟨rfl, b1, k1, X1, b2, k2, Y1, h1, h2, h3, h4, by rw [h5, HVU.out.1], by rw [h6, HVU.out.2], h7⟩
end
end Go.Proofs.YtdhcigiaidlmbaaGreatDoor.Dec
/- The step of mending that clears what no coefficient has. By the verifier of shale. -/
namespace Go.Proofs.YtdhcigiaidlmbaaGreatDoor.Dec
open Go Go.RowKit Bin Pl Cos Enc Syn Loc Sea
set_option linter.unusedVariables false
/-- the last byte without its highest bits. -/
theorem val_mask {Y : List (BitVec 8)} {D ov : Nat} (hl : Y.length = (D + 7) / 8) (ho : D % 8 = ov) (h0 : 0 < ov) : val (Y.set ((D + 7) / 8 - 1) (nth8 Y ((D + 7) / 8 - 1) &&& BitVec.ofNat 8 (2 ^ ov - 1))) = val Y % 2 ^ D := by
  apply Nat.eq_of_testBit_eq
  intro i
  rw [val_bit, Nat.testBit_mod_two_pow, val_bit]
  have hov : ov < 8 := by omega
  unfold nth8
  rw [List.getD_eq_getElem?_getD, List.getElem?_set]
  by_cases h1 : (D + 7) / 8 - 1 = i / 8
  · rw [if_pos h1, if_pos (by omega)]
    simp only [Option.getD_some]
    rw [← h1, BitVec.getLsbD_and]
    have e : (BitVec.ofNat 8 (2 ^ ov - 1)).getLsbD (i % 8) = decide (i < D) := by
      rw [BitVec.getLsbD_ofNat, Nat.testBit_two_pow_sub_one, Bool.eq_iff_iff]
      simp
      omega
    rw [e, Bool.and_comm]
  · rw [if_neg h1]
    by_cases h2 : i < D
    · rw [decide_eq_true h2, Bool.true_and, List.getD_eq_getElem?_getD]
    · rw [decide_eq_false h2, Bool.false_and, List.getElem?_eq_none (by omega)]
      simp
theorem val_whole {Y : List (BitVec 8)} {D : Nat} (hl : Y.length = (D + 7) / 8) (ho : D % 8 = 0) : val Y = val Y % 2 ^ D := by
  refine (Nat.mod_eq_of_lt ?_).symm
  have := val_lt Y
  rwa [hl, show 8 * ((D + 7) / 8) = D by omega] at this
theorem and_byte (x k : BitVec 8) : bits .and .u8 (Bits32.b x) (Bits32.b k) = Bits32.b (x &&& k) := by
  show IntKind.u8.wrap (Bits32.b (BitVec.ofInt 8 (Bits32.b x) &&& BitVec.ofInt 8 (Bits32.b k))) = _
  rw [Bits32.ofInt8, Bits32.ofInt8, Bits32.wrap8]
theorem Fresh.set {B : Nat} {w : World} {a : Option Addr} {n c g : Nat} {X : List (BitVec 8)} (h : Fresh B w a n c X) (e : a = some ⟨g, 0, none⟩) (i : Nat) (hi : i < n) (y : BitVec 8) : Fresh B (w.setCell ⟨g, i, none⟩ (.int .u8 (Bits32.b y))) a n c (X.set i y) := by
  obtain ⟨g', e', hg, hb⟩ := h.own
  rw [e] at e'
  cases e'
  exact ⟨by rw [List.length_set]; exact h.hlen, h.hcap, h.hmost, g, e, hg, hb.set i (by rw [← h.hlen]; exact hi) y⟩
section
variable {m : Nat} [M : Pl.Mid m]
set_option maxRecDepth 100000 in
set_option maxHeartbeats 2000000 in
theorem tidy_any {t n : Nat} {w0 w : World} {db s wb BB : Nat} {ym yz : Addr} (K : Base m t n w0 db s ym yz) (b : Below w0.heap.size w0 w) {a a' : Option Addr} {ca ca' : Nat} {Y : List (BitVec 8)} {sv lv qv : Value} (hW : wordAt w wb (.slice a n ca) (.slice a' (pb (deg m t)) ca') sv lv qv) (hY : Fresh BB w a' (pb (deg m t)) ca' Y) :
    Calls Tryz.prog 124 #[.pointer (some ⟨db, 0, none⟩), .pointer (some ⟨wb, 0, none⟩)] w fun e w' => e = .returned .nilIface ∧ ∃ Y1 g, a' = some ⟨g, 0, none⟩ ∧ Fresh BB w' a' (pb (deg m t)) ca' Y1 ∧ val Y1 = val Y % 2 ^ deg m t ∧ Tn [g] w w' [g] := by
  have K1 := K.below b
  have c0 := K1.dec.cell
  obtain ⟨_, d1, _, _, _, wf⟩ := hW.cells
  obtain ⟨g, rfl, hgB, hbuf⟩ := hY.own
  have hlen := hY.hlen
  have hD1 := deg_pos M.lo K.t1
  have hD5 := deg_560 (m := m) K.t40
  have hdg := Lib.hid (degree_code w s K1.code)
  obtain ⟨D, hD⟩ : ∃ D, D = deg m t := ⟨_, rfl⟩
  obtain ⟨P, hP⟩ : ∃ P, P = pb (deg m t) := ⟨_, rfl⟩
  have hPD : P = (D + 7) / 8 := by rw [hP, hD]; rfl
  rw [← hP] at hY hlen d1 ⊢
  rw [← hD] at hdg hD1 hD5 ⊢
  obtain ⟨ov, hov⟩ : ∃ ov, ov = D % 8 := ⟨_, rfl⟩
  have e1 : (D : Int) % 8 = (ov : Int) := by omega
  have hov8 : ov < 8 := by omega
  have HY := Lib.hid hY
  have HE := Lib.hid (And.intro hlen (And.intro hPD hov))
  have hP1 : 1 ≤ P := by omega
  have hP100 : P ≤ 100 := by omega
  clear hY hW K K1 b hP hD hgB
  by_cases h0 : ov = 0
  · subst h0
    clear hbuf hov hlen hPD
    go_enter Tryz.func124, Tryz.ntmps124
    go_wp2_with fail
    refine hdg.out.mono ?_
    rintro e w1 ⟨rfl, rfl⟩
    clear hdg
    go_wp2_with fail
    go_ret
    exact ⟨rfl, Y, g, rfl, HY.out, val_whole (by rw [← HE.out.1, HE.out.2.1]) HE.out.2.2.symm, Tn.refl _ _⟩
  · obtain ⟨Q, hQ⟩ : ∃ Q, Q = P - 1 := ⟨_, rfl⟩
    have eQ : (P : Int) - 1 = (Q : Int) := by omega
    have hQl : Q < Y.length := by omega
    have y0 : (0 : Int) ≤ (Q : Int) := by omega
    have y1 : (Q : Int) < (P : Int) := by omega
    have cb := hbuf.cell Q hQl
    have fb := hbuf.free Q
    have hne : (ov == 0) = false := by simp [h0]
    have hcases : ov = 1 ∨ ov = 2 ∨ ov = 3 ∨ ov = 4 ∨ ov = 5 ∨ ov = 6 ∨ ov = 7 := by omega
    have HZ : Hid (∀ k : BitVec 8, k = BitVec.ofNat 8 (2 ^ ov - 1) → ∀ nq, Fresh BB ((w.drewN nq).setCell ⟨g, Q, none⟩ (.int .u8 (Bits32.b (nth8 Y Q &&& k)))) (some ⟨g, 0, none⟩) P ca' (Y.set Q (nth8 Y Q &&& k)) ∧ val (Y.set Q (nth8 Y Q &&& k)) = val Y % 2 ^ D ∧ Tn [g] w ((w.drewN nq).setCell ⟨g, Q, none⟩ (.int .u8 (Bits32.b (nth8 Y Q &&& k)))) [g]) := by
      intro k hk nq
      refine ⟨(HY.out.below ((Drawn.mk w nq).below _)).set rfl Q (by omega) _, ?_, (Tn.below ((Drawn.mk w nq).below _)).trans (Tn.setCell _ _ _ (by simp))⟩
      rw [hk, show Q = (D + 7) / 8 - 1 by omega]
      exact val_mask (by rw [← hlen, hPD]) hov.symm (by omega)
    clear hbuf HE hPD hQ hov8
    generalize nth8 Y Q = x at cb HZ
    rcases hcases with rfl | rfl | rfl | rfl | rfl | rfl | rfl
    · have HZ2 := Lib.hid (HZ.out 1#8 (by decide))
      have ea : bits .and .u8 (Bits32.b x) 1 = Bits32.b (x &&& 1#8) := and_byte x 1#8
      clear HZ hov h0 hne hlen hQl
      generalize Bits32.b (x &&& 1#8) = zv at ea HZ2
      generalize Bits32.b x = xv at cb ea
      go_enter Tryz.func124, Tryz.ntmps124
      go_wp2_with fail
      refine hdg.out.mono ?_
      rintro e w1 ⟨rfl, rfl⟩
      clear hdg
      go_wp2_with fail
      refine wp_region_quiet_tail (C := fun w' => ∃ nn, w' = w.drewN nn) 16 (by kernel_rfl) (by kernel_rfl) ⟨1, rfl⟩ ?_
      simp only [List.take_succ_cons, List.take_zero, List.drop_succ_cons, List.drop_zero]
      repeat (go_big_quiet_step (fail))
      refine wpQuiet_nil ?_
      rintro _ ⟨nq, rfl⟩
      have HZ3 := Lib.hid (HZ2.out nq)
      have hv2 : (w.drewN nq).cell? ⟨g, Q, none⟩ = some (.int .u8 xv) := cb
      have fr2 : (w.drewN nq).frozen? ⟨g, Q, none⟩ = false := fb
      clear cb fb HZ2 d1 c0 wf HY
      generalize hww : w.drewN nq = w6 at HZ3 hv2 fr2 ⊢
      clear hww
      go_wp2_with fail
      go_ret
      exact ⟨rfl, _, g, rfl, HZ3.out⟩
    · have HZ2 := Lib.hid (HZ.out 3#8 (by decide))
      have ea : bits .and .u8 (Bits32.b x) 3 = Bits32.b (x &&& 3#8) := and_byte x 3#8
      clear HZ hov h0 hne hlen hQl
      generalize Bits32.b (x &&& 3#8) = zv at ea HZ2
      generalize Bits32.b x = xv at cb ea
      go_enter Tryz.func124, Tryz.ntmps124
      go_wp2_with fail
      refine hdg.out.mono ?_
      rintro e w1 ⟨rfl, rfl⟩
      clear hdg
      go_wp2_with fail
      refine wp_region_quiet_tail (C := fun w' => ∃ nn, w' = w.drewN nn) 16 (by kernel_rfl) (by kernel_rfl) ⟨1, rfl⟩ ?_
      simp only [List.take_succ_cons, List.take_zero, List.drop_succ_cons, List.drop_zero]
      repeat (go_big_quiet_step (fail))
      refine wpQuiet_nil ?_
      rintro _ ⟨nq, rfl⟩
      have HZ3 := Lib.hid (HZ2.out nq)
      have hv2 : (w.drewN nq).cell? ⟨g, Q, none⟩ = some (.int .u8 xv) := cb
      have fr2 : (w.drewN nq).frozen? ⟨g, Q, none⟩ = false := fb
      clear cb fb HZ2 d1 c0 wf HY
      generalize hww : w.drewN nq = w6 at HZ3 hv2 fr2 ⊢
      clear hww
      go_wp2_with fail
      go_ret
      exact ⟨rfl, _, g, rfl, HZ3.out⟩
    · have HZ2 := Lib.hid (HZ.out 7#8 (by decide))
      have ea : bits .and .u8 (Bits32.b x) 7 = Bits32.b (x &&& 7#8) := and_byte x 7#8
      clear HZ hov h0 hne hlen hQl
      generalize Bits32.b (x &&& 7#8) = zv at ea HZ2
      generalize Bits32.b x = xv at cb ea
      go_enter Tryz.func124, Tryz.ntmps124
      go_wp2_with fail
      refine hdg.out.mono ?_
      rintro e w1 ⟨rfl, rfl⟩
      clear hdg
      go_wp2_with fail
      refine wp_region_quiet_tail (C := fun w' => ∃ nn, w' = w.drewN nn) 16 (by kernel_rfl) (by kernel_rfl) ⟨1, rfl⟩ ?_
      simp only [List.take_succ_cons, List.take_zero, List.drop_succ_cons, List.drop_zero]
      repeat (go_big_quiet_step (fail))
      refine wpQuiet_nil ?_
      rintro _ ⟨nq, rfl⟩
      have HZ3 := Lib.hid (HZ2.out nq)
      have hv2 : (w.drewN nq).cell? ⟨g, Q, none⟩ = some (.int .u8 xv) := cb
      have fr2 : (w.drewN nq).frozen? ⟨g, Q, none⟩ = false := fb
      clear cb fb HZ2 d1 c0 wf HY
      generalize hww : w.drewN nq = w6 at HZ3 hv2 fr2 ⊢
      clear hww
      go_wp2_with fail
      go_ret
      exact ⟨rfl, _, g, rfl, HZ3.out⟩
    · have HZ2 := Lib.hid (HZ.out 15#8 (by decide))
      have ea : bits .and .u8 (Bits32.b x) 15 = Bits32.b (x &&& 15#8) := and_byte x 15#8
      clear HZ hov h0 hne hlen hQl
      generalize Bits32.b (x &&& 15#8) = zv at ea HZ2
      generalize Bits32.b x = xv at cb ea
      go_enter Tryz.func124, Tryz.ntmps124
      go_wp2_with fail
      refine hdg.out.mono ?_
      rintro e w1 ⟨rfl, rfl⟩
      clear hdg
      go_wp2_with fail
      refine wp_region_quiet_tail (C := fun w' => ∃ nn, w' = w.drewN nn) 16 (by kernel_rfl) (by kernel_rfl) ⟨1, rfl⟩ ?_
      simp only [List.take_succ_cons, List.take_zero, List.drop_succ_cons, List.drop_zero]
      repeat (go_big_quiet_step (fail))
      refine wpQuiet_nil ?_
      rintro _ ⟨nq, rfl⟩
      have HZ3 := Lib.hid (HZ2.out nq)
      have hv2 : (w.drewN nq).cell? ⟨g, Q, none⟩ = some (.int .u8 xv) := cb
      have fr2 : (w.drewN nq).frozen? ⟨g, Q, none⟩ = false := fb
      clear cb fb HZ2 d1 c0 wf HY
      generalize hww : w.drewN nq = w6 at HZ3 hv2 fr2 ⊢
      clear hww
      go_wp2_with fail
      go_ret
      exact ⟨rfl, _, g, rfl, HZ3.out⟩
    · have HZ2 := Lib.hid (HZ.out 31#8 (by decide))
      have ea : bits .and .u8 (Bits32.b x) 31 = Bits32.b (x &&& 31#8) := and_byte x 31#8
      clear HZ hov h0 hne hlen hQl
      generalize Bits32.b (x &&& 31#8) = zv at ea HZ2
      generalize Bits32.b x = xv at cb ea
      go_enter Tryz.func124, Tryz.ntmps124
      go_wp2_with fail
      refine hdg.out.mono ?_
      rintro e w1 ⟨rfl, rfl⟩
      clear hdg
      go_wp2_with fail
      refine wp_region_quiet_tail (C := fun w' => ∃ nn, w' = w.drewN nn) 16 (by kernel_rfl) (by kernel_rfl) ⟨1, rfl⟩ ?_
      simp only [List.take_succ_cons, List.take_zero, List.drop_succ_cons, List.drop_zero]
      repeat (go_big_quiet_step (fail))
      refine wpQuiet_nil ?_
      rintro _ ⟨nq, rfl⟩
      have HZ3 := Lib.hid (HZ2.out nq)
      have hv2 : (w.drewN nq).cell? ⟨g, Q, none⟩ = some (.int .u8 xv) := cb
      have fr2 : (w.drewN nq).frozen? ⟨g, Q, none⟩ = false := fb
      clear cb fb HZ2 d1 c0 wf HY
      generalize hww : w.drewN nq = w6 at HZ3 hv2 fr2 ⊢
      clear hww
      go_wp2_with fail
      go_ret
      exact ⟨rfl, _, g, rfl, HZ3.out⟩
    · have HZ2 := Lib.hid (HZ.out 63#8 (by decide))
      have ea : bits .and .u8 (Bits32.b x) 63 = Bits32.b (x &&& 63#8) := and_byte x 63#8
      clear HZ hov h0 hne hlen hQl
      generalize Bits32.b (x &&& 63#8) = zv at ea HZ2
      generalize Bits32.b x = xv at cb ea
      go_enter Tryz.func124, Tryz.ntmps124
      go_wp2_with fail
      refine hdg.out.mono ?_
      rintro e w1 ⟨rfl, rfl⟩
      clear hdg
      go_wp2_with fail
      refine wp_region_quiet_tail (C := fun w' => ∃ nn, w' = w.drewN nn) 16 (by kernel_rfl) (by kernel_rfl) ⟨1, rfl⟩ ?_
      simp only [List.take_succ_cons, List.take_zero, List.drop_succ_cons, List.drop_zero]
      repeat (go_big_quiet_step (fail))
      refine wpQuiet_nil ?_
      rintro _ ⟨nq, rfl⟩
      have HZ3 := Lib.hid (HZ2.out nq)
      have hv2 : (w.drewN nq).cell? ⟨g, Q, none⟩ = some (.int .u8 xv) := cb
      have fr2 : (w.drewN nq).frozen? ⟨g, Q, none⟩ = false := fb
      clear cb fb HZ2 d1 c0 wf HY
      generalize hww : w.drewN nq = w6 at HZ3 hv2 fr2 ⊢
      clear hww
      go_wp2_with fail
      go_ret
      exact ⟨rfl, _, g, rfl, HZ3.out⟩
    · have HZ2 := Lib.hid (HZ.out 127#8 (by decide))
      have ea : bits .and .u8 (Bits32.b x) 127 = Bits32.b (x &&& 127#8) := and_byte x 127#8
      clear HZ hov h0 hne hlen hQl
      generalize Bits32.b (x &&& 127#8) = zv at ea HZ2
      generalize Bits32.b x = xv at cb ea
      go_enter Tryz.func124, Tryz.ntmps124
      go_wp2_with fail
      refine hdg.out.mono ?_
      rintro e w1 ⟨rfl, rfl⟩
      clear hdg
      go_wp2_with fail
      refine wp_region_quiet_tail (C := fun w' => ∃ nn, w' = w.drewN nn) 16 (by kernel_rfl) (by kernel_rfl) ⟨1, rfl⟩ ?_
      simp only [List.take_succ_cons, List.take_zero, List.drop_succ_cons, List.drop_zero]
      repeat (go_big_quiet_step (fail))
      refine wpQuiet_nil ?_
      rintro _ ⟨nq, rfl⟩
      have HZ3 := Lib.hid (HZ2.out nq)
      have hv2 : (w.drewN nq).cell? ⟨g, Q, none⟩ = some (.int .u8 xv) := cb
      have fr2 : (w.drewN nq).frozen? ⟨g, Q, none⟩ = false := fb
      clear cb fb HZ2 d1 c0 wf HY
      generalize hww : w.drewN nq = w6 at HZ3 hv2 fr2 ⊢
      clear hww
      go_wp2_with fail
      go_ret
      exact ⟨rfl, _, g, rfl, HZ3.out⟩
end
end Go.Proofs.YtdhcigiaidlmbaaGreatDoor.Dec
/- Mending. By the verifier of shale. -/
namespace Go.Proofs.YtdhcigiaidlmbaaGreatDoor.Dec
open Go Go.RowKit Bin Pl Cos Enc Syn Loc Sea
set_option linter.unusedVariables false
theorem fresh_tn {B : Nat} {w w' : World} {a : Option Addr} {n c wb : Nat} {X : List (BitVec 8)} {d p s l q : Value} (h : Fresh B w a n c X) (hn : 0 < n) (hW : wordAt w wb d p s l q) (hd : ∀ k z, d ≠ .int k z) (t : Tn [wb] w w' [wb]) : Fresh B w' a n c X :=
  h.same fun g e hl => t.same g hl (by simpa using fresh_ne h hn hW hd g e)
/-- the list of the steps, in block b. -/
def stepsAt (w : World) (b db : Nat) : Prop := w.heap[b]? = some (.cells #[.func (.func 120) #[.pointer (some ⟨db, 0, none⟩)] #[], .func (.func 121) #[.pointer (some ⟨db, 0, none⟩)] #[], .func (.func 122) #[.pointer (some ⟨db, 0, none⟩)] #[], .func (.func 123) #[.pointer (some ⟨db, 0, none⟩)] #[], .func (.func 124) #[.pointer (some ⟨db, 0, none⟩)] #[]] 177 (0, 0))
theorem stepsAt.cells {w : World} {b db : Nat} (h : stepsAt w b db) :
    w.cell? ⟨b, 0, none⟩ = some (.func (.func 120) #[.pointer (some ⟨db, 0, none⟩)] #[]) ∧ w.cell? ⟨b, 1, none⟩ = some (.func (.func 121) #[.pointer (some ⟨db, 0, none⟩)] #[]) ∧ w.cell? ⟨b, 2, none⟩ = some (.func (.func 122) #[.pointer (some ⟨db, 0, none⟩)] #[]) ∧ w.cell? ⟨b, 3, none⟩ = some (.func (.func 123) #[.pointer (some ⟨db, 0, none⟩)] #[]) ∧ w.cell? ⟨b, 4, none⟩ = some (.func (.func 124) #[.pointer (some ⟨db, 0, none⟩)] #[]) := by
  have e : w.heap[b]? = _ := h
  refine ⟨?_, ?_, ?_, ?_, ?_⟩ <;> (unfold World.cell?; simp only; rw [e]; rfl)
/-- where a word stands on its way. -/
structure St (w W : World) (wb db n P : Nat) (d1 : Option Addr) (k1 : Nat) (X : List (BitVec 8)) (d2 : Option Addr) (k2 : Nat) (Y : List (BitVec 8)) (sv lv qv : Value) : Prop where
  word : wordAt W wb (.slice d1 n k1) (.slice d2 P k2) sv lv qv
  fX : Fresh w.heap.size W d1 n k1 X
  fY : Fresh w.heap.size W d2 P k2 Y
  bel : Below w.heap.size w W
  steps : stepsAt W (wb + 1) db
theorem St.next {w W W' : World} {wb db n P : Nat} {d1 : Option Addr} {k1 : Nat} {X : List (BitVec 8)} {d2 : Option Addr} {k2 : Nat} {Y : List (BitVec 8)} {sv lv qv sv' lv' qv' : Value} (h : St w W wb db n P d1 k1 X d2 k2 Y sv lv qv) (hw : wordAt W' wb (.slice d1 n k1) (.slice d2 P k2) sv' lv' qv') (t : Tn [wb] W W' [wb]) (hn : 0 < n) (hP : 0 < P) (hwb : w.heap.size ≤ wb) : St w W' wb db n P d1 k1 X d2 k2 Y sv' lv' qv' :=
  ⟨hw, fresh_tn h.fX hn h.word (by simp) t, fresh_tn h.fY hP h.word (by simp) t, tn_below h.bel t hwb, (t.same _ (lt_of_block h.steps) (by simp)).trans h.steps⟩
section
variable {m : Nat} [M : Pl.Mid m]
/-- what mending answers. -/
def DecPost (m t n : Nat) [M : Pl.Mid m] (ym : Addr) (vX vY : Nat) (r : Option (List Nat)) (w : World) (e : Ending) (w' : World) : Prop :=
  Below w.heap.size w w' ∧ match r with
  | none => e = .returned (.tuple #[.slice none 0 0, .slice none 0 0, .slice none 0 0, errOf ym])
  | some l => ∃ a1 c1 X1 a2 c2 Y1 a3 c3, e = .returned (.tuple #[.slice a1 n c1, .slice a2 (pb (deg m t)) c2, .slice a3 l.length c3, .nilIface]) ∧ NewP w w' a1 n c1 X1 ∧ NewP w w' a2 (pb (deg m t)) c2 Y1 ∧ RowZ w' a3 l.length c3 (intsN l) ∧ val X1 = vX ^^^ xs l >>> deg m t ∧ val Y1 = (vY ^^^ xs l % 2 ^ deg m t) % 2 ^ deg m t
set_option maxRecDepth 100000 in
set_option maxHeartbeats 4000000 in
theorem decode_any {t n : Nat} {w : World} {db s : Nat} {ym yz : Addr} (K : Base m t n w db s ym yz) {a a' : Option Addr} {ca ca' : Nat} {X Y : List (BitVec 8)} (hX : Pol w a n ca X) (hY : Pol w a' (pb (deg m t)) ca' Y) :
    Calls Tryz.prog 82 #[.pointer (some ⟨db, 0, none⟩), .slice a n ca, .slice a' (pb (deg m t)) ca'] w (DecPost m t n ym (val X) (val Y) (dec m t (8 * n + deg m t) (wd m t (val X) (val Y))) w) := by
  have hD1 := deg_pos M.lo K.t1
  have hD5 := deg_560 (m := m) K.t40
  have hn1 := K.n1
  have hn2 := K.n2048
  have hPd : pb (deg m t) = (deg m t + 7) / 8 := rfl
  have hP1 : 0 < pb (deg m t) := by omega
  have hP2 : pb (deg m t) ≤ 100 := by omega
  have HK := Lib.hid K
  have HX := Lib.hid hX
  have HY := Lib.hid hY
  clear K hX hY hPd
  go_enter Tryz.func82, Tryz.ntmps82
  go_wp2_with fail
  refine (clone_any _ _ _ _ _ HX.out (by omega)).mono ?_
  rintro e w1 ⟨d1, k1, rfl, N1, b1⟩
  have HF1 := Lib.hid (fresh_new N1 (by omega) (Nat.le_refl _))
  have HB1 := Lib.hid b1
  clear N1 b1
  go_wp2_with fail
  refine (clone_any _ _ _ _ _ (HY.out.below HB1.out) (by omega)).mono ?_
  rintro e w2 ⟨d2, k2, rfl, N2, b2⟩
  have HF2 := Lib.hid (fresh_new N2 hP1 HB1.out.size)
  have HF1O : Hid ((∃ g1, d1 = some ⟨g1, 0, none⟩ ∧ w.heap.size ≤ g1 ∧ g1 < w1.heap.size) ∧ (∃ g2, d2 = some ⟨g2, 0, none⟩ ∧ w1.heap.size ≤ g2 ∧ Buf8 w2 g2 Y)) := by
    obtain ⟨g1, h1, h2, h3⟩ := HF1.out.own
    exact ⟨⟨g1, h1, h2, h3.lt⟩, newP_block N2 hP1⟩
  have HF1' := Lib.hid (HF1.out.below b2)
  have HB2 := Lib.hid (HB1.out.trans (b2.mono HB1.out.size))
  clear N2 b2 HF1 HB1
  go_wp2_with fail
  obtain ⟨w3, hw3⟩ : ∃ w3, w3 = ((w2.alloc (.cells #[.slice d1 n k1, .slice d2 (pb (deg m t)) k2, .slice none 0 0, .slice none 0 0, .slice none 0 0] 176 (0, 0))).alloc (.cells #[.func (.func 120) #[.pointer (some ⟨db, 0, none⟩)] #[], .func (.func 121) #[.pointer (some ⟨db, 0, none⟩)] #[], .func (.func 122) #[.pointer (some ⟨db, 0, none⟩)] #[], .func (.func 123) #[.pointer (some ⟨db, 0, none⟩)] #[], .func (.func 124) #[.pointer (some ⟨db, 0, none⟩)] #[]] 177 (0, 0))) := ⟨_, rfl⟩
  obtain ⟨wb, hwbE⟩ : ∃ wb, wb = w2.heap.size := ⟨_, rfl⟩
  have hb3 : Below w2.heap.size w2 w3 := by rw [hw3]; exact ((Below.refl _ _).alloc (Nat.le_refl _) _).alloc (by simp) _
  have hW3 : wordAt w3 wb (.slice d1 n k1) (.slice d2 (pb (deg m t)) k2) (.slice none 0 0) (.slice none 0 0) (.slice none 0 0) := by
    rw [hw3, hwbE]; exact (Below.heap_alloc _ _ _ (by simp)).trans (heap_alloc_new w2 _)
  have hS3 : stepsAt w3 (wb + 1) db := by
    rw [hw3, hwbE]
    have h := heap_alloc_new (w2.alloc (.cells #[.slice d1 n k1, .slice d2 (pb (deg m t)) k2, .slice none 0 0, .slice none 0 0, .slice none 0 0] 176 (0, 0))) (.cells #[.func (.func 120) #[.pointer (some ⟨db, 0, none⟩)] #[], .func (.func 121) #[.pointer (some ⟨db, 0, none⟩)] #[], .func (.func 122) #[.pointer (some ⟨db, 0, none⟩)] #[], .func (.func 123) #[.pointer (some ⟨db, 0, none⟩)] #[], .func (.func 124) #[.pointer (some ⟨db, 0, none⟩)] #[]] 177 (0, 0))
    rw [World.size_alloc] at h
    exact h
  have hX3 := HF1'.out.below hb3
  have hY3 := HF2.out.below hb3
  have hB3 := HB2.out.trans (hb3.mono HB2.out.size)
  have hwb : w.heap.size ≤ wb := by rw [hwbE]; exact HB2.out.size
  rw [← hw3, ← hwbE]
  have HWB := Lib.hid hwb
  clear hw3 hwbE hb3 HF1' HF2 HB2 hwb
  have HP1 := Lib.hid hP1
  have HN1 := Lib.hid hn1
  have HAP : Hid (Ap d1 d2) := by
    intro x y hx hy
    obtain ⟨g1, e1, _, hb1⟩ := HF1O.out.1
    obtain ⟨g2, e2, hg2, _⟩ := HF1O.out.2
    rw [e1] at hx
    rw [e2] at hy
    cases hx
    cases hy
    show g1 ≠ g2
    omega
  have HQ3 := Lib.hid (show St w w3 wb db n (pb (deg m t)) d1 k1 X d2 k2 Y (.slice none 0 0) (.slice none 0 0) (.slice none 0 0) from ⟨hW3, hX3, hY3, hB3, hS3⟩)
  have HLook := Lib.hid (look_any HK.out hB3 HWB.out hW3 hX3.pol hY3.pol)
  have HP1 := Lib.hid hP1
  have HN1 := Lib.hid hn1
  have HAP : Hid (Ap d1 d2) := by
    intro x y hx hy
    obtain ⟨g1, e1, _, hb1⟩ := HF1O.out.1
    obtain ⟨g2, e2, hg2, _⟩ := HF1O.out.2
    rw [e1] at hx
    rw [e2] at hy
    cases hx
    cases hy
    show g1 ≠ g2
    omega
  have HQ3 := Lib.hid (show St w w3 wb db n (pb (deg m t)) d1 k1 X d2 k2 Y (.slice none 0 0) (.slice none 0 0) (.slice none 0 0) from ⟨hW3, hX3, hY3, hB3, hS3⟩)
  have HLook := Lib.hid (look_any HK.out hB3 HWB.out hW3 hX3.pol hY3.pol)
  have HP1 := Lib.hid hP1
  have HN1 := Lib.hid hn1
  have HAP : Hid (Ap d1 d2) := by
    intro x y hx hy
    obtain ⟨g1, e1, _, hb1⟩ := HF1O.out.1
    obtain ⟨g2, e2, hg2, _⟩ := HF1O.out.2
    rw [e1] at hx
    rw [e2] at hy
    cases hx
    cases hy
    show g1 ≠ g2
    omega
  have HQ3 := Lib.hid (show St w w3 wb db n (pb (deg m t)) d1 k1 X d2 k2 Y (.slice none 0 0) (.slice none 0 0) (.slice none 0 0) from ⟨hW3, hX3, hY3, hB3, hS3⟩)
  have HLook := Lib.hid (look_any HK.out hB3 HWB.out hW3 hX3.pol hY3.pol)
  obtain ⟨s0, s1, s2, s3, s4⟩ := hS3.cells
  clear hS3 hW3 hX3 hY3 hB3
  refine wp_loop_rounds 6 ?_
  rw [rounds_succ]
  go_wp2_with fail
  refine HLook.out.mono ?_
  rintro e w4 ⟨rfl, g, hW4, hB4, hg, hT4⟩
  have HQ4 := Lib.hid (HQ3.out.next hW4 hT4 HN1.out HP1.out HWB.out)
  have HB4 := Lib.hid hB4
  clear HLook hW4 hB4 hg hT4 s0 s1 s2 s3 s4
  obtain ⟨s0, s1, s2, s3, s4⟩ := HQ4.out.steps.cells
  go_wp2_with fail
  rw [rounds_succ]
  by_cases h0 : ∀ i, i < 2 * t → Sv m (wd m t (val X) (val Y)) i = 0
  · have HLo := Lib.hid (locate_zero HK.out HQ4.out.bel HQ4.out.word HB4.out h0)
    have hdec : dec m t (8 * n + deg m t) (wd m t (val X) (val Y)) = some [] := by unfold dec; rw [if_pos h0]
    have HD := Lib.hid hdec
    have HSe := Lib.hid (search_none (db := db) HQ4.out.word)
    clear h0 hdec
    go_wp2_with fail
    refine HLo.out.mono ?_
    rintro e w5 ⟨rfl, rfl⟩
    clear HLo
    go_wp2_with fail
    rw [rounds_succ]
    go_wp2_with fail
    refine HSe.out.mono ?_
    rintro e w5 ⟨rfl, rfl⟩
    clear HSe
    go_wp2_with fail
    clear s0 s1 s2 s3 s4
    obtain ⟨s0, s1, s2, s3, s4⟩ := HQ4.out.steps.cells
    have HTu := Lib.hid (turnS_any (l := ([] : List Nat)) (a2 := (none : Option Addr)) (c2 := 0) HK.out HQ4.out.bel HWB.out HQ4.out.bel.size HQ4.out.word (by simp) HQ4.out.fX HQ4.out.fY ⟨rfl, Nat.le_refl _, by decide, fun i hi => absurd hi (by simp)⟩ (fun p hp => by cases hp) HAP.out)
    rw [rounds_succ]
    go_wp2_with fail
    refine HTu.out.mono ?_
    rintro e w7 ⟨rfl, e1, j1, X1, e2, j2, Y1, hW7, hX7, hY7, hR7, v1, v2, T7, ap7, ap8⟩
    have b7 := tn_below HQ4.out.bel T7 HWB.out
    have hS7 : stepsAt w7 (wb + 1) db := (T7.same _ (lt_of_block HQ4.out.steps) (by simp)).trans HQ4.out.steps
    have HTi := Lib.hid (tidy_any HK.out b7 hW7 hY7)
    have H7 := Lib.hid (And.intro hW7 (And.intro hX7 (And.intro hY7 (And.intro hR7 (And.intro v1 (And.intro v2 (And.intro ap7 (And.intro ap8 b7))))))))
    clear HTu s0 s1 s2 s3 s4
    obtain ⟨s0, s1, s2, s3, s4⟩ := hS7.cells
    clear hW7 hX7 hY7 hR7 v1 v2 T7 ap7 ap8 b7 hS7
    go_wp2_with fail
    rw [rounds_succ]
    go_wp2_with fail
    refine HTi.out.mono ?_
    rintro e w8 ⟨rfl, Y2, g2, hg2, hY8, v3, T8⟩
    obtain ⟨hW7, hX7, hY7, hR7, v1, v2, ap7, ap8, b7⟩ := H7.out
    have hgw : wb ≠ g2 := fun e => fresh_ne hY7 HP1.out hW7 (by simp) g2 hg2 e.symm
    have hW8 : wordAt w8 wb (.slice e1 n j1) (.slice e2 (pb (deg m t)) j2) (.slice (some ⟨g, 0, none⟩) (2 * t) (2 * t)) (.slice none 0 0) (.slice (none : Option Addr) (([] : List Nat)).length 0) := (T8.same wb (lt_of_block hW7) (by simpa using hgw)).trans hW7
    have hX8 : Fresh w.heap.size w8 e1 n j1 X1 := hX7.same fun gx ex hl => T8.same gx hl (by simpa using ap7 _ _ ex hg2)
    have hR8 : RowZ w8 (none : Option Addr) (([] : List Nat)).length 0 (intsN (([] : List Nat))) := by
      refine ⟨hR7.hlen, hR7.hcap, hR7.hmost, fun i hi => ?_⟩
      obtain ⟨bb, off, ea, hc, hl⟩ := hR7.row i hi
      have hne : bb ≠ g2 := by
        exact absurd hi (by simp)
      refine ⟨bb, off, ea, ?_, Nat.lt_of_lt_of_le hl T8.size⟩
      unfold World.cell? at hc ⊢
      simp only at hc ⊢
      rw [T8.same bb hl (by simpa using hne)]
      exact hc
    have hb8 : Below w.heap.size w w8 := b7.trans { os := T8.os, tape := T8.tape, output := T8.output, size := T8.size, block := fun k hk => T8.same k (by have := b7.size; omega) (by
      obtain ⟨g', e', hg', _⟩ := hY7.own
      rw [hg2] at e'
      cases e'
      simp
      omega) }
    have HE : Hid (∀ W, Drawn w8 W → DecPost m t n ym (val X) (val Y) (dec m t (8 * n + deg m t) (wd m t (val X) (val Y))) w (.returned (.tuple #[.slice e1 n j1, .slice e2 (pb (deg m t)) j2, .slice (none : Option Addr) (([] : List Nat)).length 0, .nilIface])) W) := fun W dW => by
      have dB := dW.below w8.heap.size
      rw [HD.out]
      exact ⟨hb8.trans (dB.mono hb8.size), e1, j1, X1, e2, j2, Y2, (none : Option Addr), 0, rfl, (hX8.below dB).newP, (hY8.below dB).newP, hR8.below dB, v1, by rw [v3, v2]⟩
    obtain ⟨q0, q1, _, _, q4, _⟩ := hW8.cells
    clear HTi hW7 hX7 hY7 hR7 v1 v2 ap7 ap8 b7 hgw hW8 hX8 hR8 hb8 hY8 v3 T8 s0 s1 s2 s3 s4 hg2 H7
    go_wp2_with fail
    rw [rounds_succ]
    go_wp2_with fail
    go_quiet (fail)
    have HE2 := Lib.hid (HE.out _ (Drawn.mk w8 nq))
    clear HE q0 q1 q4
    go_wp2_with fail
    exact bodyPost_ret (v := .tuple #[.slice e1 n j1, .slice e2 (pb (deg m t)) j2, .slice (none : Option Addr) (([] : List Nat)).length 0, .nilIface]) (by simp [results, Tryz.results82, go_sem]) rfl HE2.out
  · have HLo := Lib.hid (locate_more HK.out HQ4.out.bel HQ4.out.word (by simp) HB4.out h0 _ rfl)
    have H0 := Lib.hid h0
    clear h0
    go_wp2_with fail
    refine HLo.out.mono ?_
    rintro e w5 (⟨hgd, rfl, a1, c1, hW5, N5, T5⟩ | ⟨hgd, rfl, T5⟩)
    · have hgd := of_decide_eq_true hgd
      obtain ⟨L, hL⟩ : ∃ L, L = (bm (Sv m (wd m t (val X) (val Y))) (2 * t)).L := ⟨_, rfl⟩
      rw [hgd.2, ← hL] at hW5 N5
      have HQ5 := Lib.hid (HQ4.out.next hW5 T5 HN1.out HP1.out HWB.out)
      have HSe := Lib.hid (search_more HK.out HQ5.out.bel HQ5.out.word (by simp) HWB.out N5 _ rfl)
      have HGd := Lib.hid (And.intro hgd hL)
      clear HLo hgd hL hW5 N5 T5 s0 s1 s2 s3 s4
      obtain ⟨s0, s1, s2, s3, s4⟩ := HQ5.out.steps.cells
      go_wp2_with fail
      rw [rounds_succ]
      go_wp2_with fail
      refine HSe.out.mono ?_
      rintro e w6 (⟨hgd2, rfl, a2, c2, hW6, R6, T6⟩ | ⟨hgd2, rfl, T6⟩)
      · have hgd2 := of_decide_eq_true hgd2
        have hdec : dec m t (8 * n + deg m t) (wd m t (val X) (val Y)) = some (hits (zAt (bm (Sv m (wd m t (val X) (val Y))) (2 * t)).c 100) (8 * n + deg m t)) := by
          unfold dec
          rw [if_neg H0.out, if_pos ⟨HGd.out.1.1, HGd.out.1.2, by rw [hgd2, HGd.out.2]⟩]
        have HQ6 := Lib.hid (HQ5.out.next hW6 T6 HN1.out HP1.out HWB.out)
        obtain ⟨H, hH⟩ : ∃ H, H = hits (zAt (bm (Sv m (wd m t (val X) (val Y))) (2 * t)).c 100) (8 * n + deg m t) := ⟨_, rfl⟩
        have hHl : ∀ p ∈ H, p < 8 * n + deg m t := fun p hp => by rw [hH] at hp; exact (hits_mem.1 hp).1
        rw [← hH] at hdec HQ6 R6
        have HD := Lib.hid hdec
        have HR6 := Lib.hid (And.intro R6 hHl)
        clear hdec hH hHl HSe hgd2 hW6 R6 T6 s0 s1 s2 s3 s4
        go_wp2_with fail
        obtain ⟨s0, s1, s2, s3, s4⟩ := HQ6.out.steps.cells
        have HTu := Lib.hid (turnS_any (l := H) (a2 := a2) (c2 := c2) HK.out HQ6.out.bel HWB.out HQ6.out.bel.size HQ6.out.word (by simp) HQ6.out.fX HQ6.out.fY HR6.out.1 HR6.out.2 HAP.out)
        rw [rounds_succ]
        go_wp2_with fail
        refine HTu.out.mono ?_
        rintro e w7 ⟨rfl, e1, j1, X1, e2, j2, Y1, hW7, hX7, hY7, hR7, v1, v2, T7, ap7, ap8⟩
        have b7 := tn_below HQ6.out.bel T7 HWB.out
        have hS7 : stepsAt w7 (wb + 1) db := (T7.same _ (lt_of_block HQ6.out.steps) (by simp)).trans HQ6.out.steps
        have HTi := Lib.hid (tidy_any HK.out b7 hW7 hY7)
        have H7 := Lib.hid (And.intro hW7 (And.intro hX7 (And.intro hY7 (And.intro hR7 (And.intro v1 (And.intro v2 (And.intro ap7 (And.intro ap8 b7))))))))
        clear HTu s0 s1 s2 s3 s4
        obtain ⟨s0, s1, s2, s3, s4⟩ := hS7.cells
        clear hW7 hX7 hY7 hR7 v1 v2 T7 ap7 ap8 b7 hS7
        go_wp2_with fail
        rw [rounds_succ]
        go_wp2_with fail
        refine HTi.out.mono ?_
        rintro e w8 ⟨rfl, Y2, g2, hg2, hY8, v3, T8⟩
        obtain ⟨hW7, hX7, hY7, hR7, v1, v2, ap7, ap8, b7⟩ := H7.out
        have hgw : wb ≠ g2 := fun e => fresh_ne hY7 HP1.out hW7 (by simp) g2 hg2 e.symm
        have hW8 : wordAt w8 wb (.slice e1 n j1) (.slice e2 (pb (deg m t)) j2) (.slice (some ⟨g, 0, none⟩) (2 * t) (2 * t)) (.slice a1 (L + 1) c1) (.slice a2 (H).length c2) := (T8.same wb (lt_of_block hW7) (by simpa using hgw)).trans hW7
        have hX8 : Fresh w.heap.size w8 e1 n j1 X1 := hX7.same fun gx ex hl => T8.same gx hl (by simpa using ap7 _ _ ex hg2)
        have hR8 : RowZ w8 a2 (H).length c2 (intsN (H)) := by
          refine ⟨hR7.hlen, hR7.hcap, hR7.hmost, fun i hi => ?_⟩
          obtain ⟨bb, off, ea, hc, hl⟩ := hR7.row i hi
          have hne : bb ≠ g2 := by
            exact ap8.elim (fun h => by rw [h] at hi; exact absurd hi (by simp)) (fun h => h _ _ ea hg2)
          refine ⟨bb, off, ea, ?_, Nat.lt_of_lt_of_le hl T8.size⟩
          unfold World.cell? at hc ⊢
          simp only at hc ⊢
          rw [T8.same bb hl (by simpa using hne)]
          exact hc
        have hb8 : Below w.heap.size w w8 := b7.trans { os := T8.os, tape := T8.tape, output := T8.output, size := T8.size, block := fun k hk => T8.same k (by have := b7.size; omega) (by
          obtain ⟨g', e', hg', _⟩ := hY7.own
          rw [hg2] at e'
          cases e'
          simp
          omega) }
        have HE : Hid (∀ W, Drawn w8 W → DecPost m t n ym (val X) (val Y) (dec m t (8 * n + deg m t) (wd m t (val X) (val Y))) w (.returned (.tuple #[.slice e1 n j1, .slice e2 (pb (deg m t)) j2, .slice a2 (H).length c2, .nilIface])) W) := fun W dW => by
          have dB := dW.below w8.heap.size
          rw [HD.out]
          exact ⟨hb8.trans (dB.mono hb8.size), e1, j1, X1, e2, j2, Y2, a2, c2, rfl, (hX8.below dB).newP, (hY8.below dB).newP, hR8.below dB, v1, by rw [v3, v2]⟩
        obtain ⟨q0, q1, _, _, q4, _⟩ := hW8.cells
        clear HTi hW7 hX7 hY7 hR7 v1 v2 ap7 ap8 b7 hgw hW8 hX8 hR8 hb8 hY8 v3 T8 s0 s1 s2 s3 s4 hg2 H7
        go_wp2_with fail
        rw [rounds_succ]
        go_wp2_with fail
        go_quiet (fail)
        have HE2 := Lib.hid (HE.out _ (Drawn.mk w8 nq))
        clear HE q0 q1 q4
        go_wp2_with fail
        exact bodyPost_ret (v := .tuple #[.slice e1 n j1, .slice e2 (pb (deg m t)) j2, .slice a2 (H).length c2, .nilIface]) (by simp [results, Tryz.results82, go_sem]) rfl HE2.out
      · have hgd2 := of_decide_eq_false hgd2
        have hb6 := tn_below HQ5.out.bel T6 HWB.out
        have HE : Hid (DecPost m t n ym (val X) (val Y) (dec m t (8 * n + deg m t) (wd m t (val X) (val Y))) w (.returned (.tuple #[.slice none 0 0, .slice none 0 0, .slice none 0 0, errOf ym])) w6) := by
          show DecPost _ _ _ _ _ _ _ _ _ _
          have hdec : dec m t (8 * n + deg m t) (wd m t (val X) (val Y)) = none := by
            unfold dec
            rw [if_neg H0.out, if_neg (fun h => hgd2 (by rw [h.2.2, HGd.out.2]))]
          rw [hdec]
          exact ⟨hb6, rfl⟩
        clear HSe hgd2 T6 hb6 s0 s1 s2 s3 s4
        go_wp2_with fail
        exact bodyPost_ret (v := .tuple #[.slice none 0 0, .slice none 0 0, .slice none 0 0, errOf ym]) (by simp [results, Tryz.results82, go_sem]) rfl HE.out
    · have hgd := of_decide_eq_false hgd
      have hb5 := tn_below HQ4.out.bel T5 HWB.out
      have HE : Hid (DecPost m t n ym (val X) (val Y) (dec m t (8 * n + deg m t) (wd m t (val X) (val Y))) w (.returned (.tuple #[.slice none 0 0, .slice none 0 0, .slice none 0 0, errOf ym])) w5) := by
        show DecPost _ _ _ _ _ _ _ _ _ _
        have hdec : dec m t (8 * n + deg m t) (wd m t (val X) (val Y)) = none := by
          unfold dec
          rw [if_neg H0.out, if_neg (fun h => hgd ⟨h.1, h.2.1⟩)]
        rw [hdec]
        exact ⟨hb5, rfl⟩
      clear HLo hgd T5 hb5 s0 s1 s2 s3 s4
      go_wp2_with fail
      exact bodyPost_ret (v := .tuple #[.slice none 0 0, .slice none 0 0, .slice none 0 0, errOf ym]) (by simp [results, Tryz.results82, go_sem]) rfl HE.out
end
end Go.Proofs.YtdhcigiaidlmbaaGreatDoor.Dec
/- A new decoder, and its code. By the verifier of shale. -/
namespace Go.Proofs.YtdhcigiaidlmbaaGreatDoor.Enc
open Go Go.RowKit Bin Cos Dec
set_option linter.unusedVariables false
set_option maxRecDepth 100000 in
theorem newD_any (s : Nat) (w : World) : Calls Tryz.prog 36 #[.pointer (some ⟨s, 0, none⟩)] w fun e w' => ∃ db, e = .returned (.pointer (some ⟨db, 0, none⟩)) ∧ decAt w' db s ∧ Below w.heap.size w w' ∧ w.heap.size ≤ db := by
  have h1 : Hid (decAt (w.alloc (.cells #[.pointer (some ⟨s, 0, none⟩)] 110 (0, 0))) w.heap.size s ∧ Below w.heap.size w (w.alloc (.cells #[.pointer (some ⟨s, 0, none⟩)] 110 (0, 0)))) := ⟨heap_alloc_new w _, (Below.refl _ _).alloc (Nat.le_refl _) _⟩
  go_enter Tryz.func36, Tryz.ntmps36
  go_wp2_with fail
  go_ret
  exact ⟨_, rfl, h1.out.1, h1.out.2, Nat.le_refl _⟩
end Go.Proofs.YtdhcigiaidlmbaaGreatDoor.Enc
/- Geometries: which may be, how many sectors they have. By the verifier of shale. -/
namespace Go.Proofs.YtdhcigiaidlmbaaGreatDoor.Pg
open Go Go.RowKit Bin Pl Cos Enc Syn Loc Sea Dec
set_option linter.unusedVariables false
/-- is a number within bounds? -/
def inB (n a b : Int) : Bool := decide (a ≤ n) && decide (n ≤ b)
theorem inB_iff {n a b : Int} : inB n a b = true ↔ a ≤ n ∧ n ≤ b := by unfold inB; simp
theorem inB_no {n a b : Int} (h : ¬ (a ≤ n ∧ n ≤ b)) : inB n a b = false := by
  cases hb : inB n a b
  · rfl
  · exact absurd (inB_iff.1 hb) h
/-- are all numbers of a geometry within their bounds? -/
def inAll (g0 g1 g2 g3 g4 g5 g6 g7 g8 : Int) : Prop := (8 ≤ g0 ∧ g0 ≤ 64) ∧ (3 ≤ g1 ∧ g1 ≤ 64) ∧ (16 ≤ g2 ∧ g2 ≤ 1024) ∧ (3 ≤ g3 ∧ g3 ≤ 14) ∧ (1 ≤ g4 ∧ g4 ≤ 16) ∧ (1 ≤ g5 ∧ g5 ≤ 8) ∧ (0 ≤ g6 ∧ g6 ≤ (g0 - 8)) ∧ (2 ≤ g7 ∧ g7 ≤ 1000) ∧ (1 ≤ g8 ∧ g8 ≤ (min (2 * (g1 - 1) - 1) 64))
instance (g0 g1 g2 g3 g4 g5 g6 g7 g8 : Int) : Decidable (inAll g0 g1 g2 g3 g4 g5 g6 g7 g8) := by unfold inAll; infer_instance
/-- how many sectors a disk has. -/
def secs (g0 g1 g2 g3 g4 g5 g6 g7 g8 : Int) : Int := if inAll g0 g1 g2 g3 g4 g5 g6 g7 g8 then max 0 ((g1 - 1) * (g0 - g6 - 6) - g0 - g1 - 1) else 0
set_option maxHeartbeats 400000 in
theorem in_any (n a b : Int) (w : World) : Calls Tryz.prog 66 #[.int .i64 n, .int .i64 a, .int .i64 b] w fun e w' => e = .returned (.bool (inB n a b)) ∧ w = w' := by
  by_cases h1 : a ≤ n
  · have t1 : decide (a ≤ n) = true := decide_eq_true h1
    by_cases h2 : n ≤ b
    · have t2 : decide (n ≤ b) = true := decide_eq_true h2
      have HE : Hid (inB n a b = true) := inB_iff.2 ⟨h1, h2⟩
      go_enter Tryz.func66, Tryz.ntmps66
      go_wp2_with fail
      go_ret
      rw [HE.out]
      exact ⟨rfl, rfl⟩
    · have t2 : decide (n ≤ b) = false := decide_eq_false h2
      have HE : Hid (inB n a b = false) := inB_no fun h => h2 h.2
      go_enter Tryz.func66, Tryz.ntmps66
      go_wp2_with fail
      go_ret
      rw [HE.out]
      exact ⟨rfl, rfl⟩
  · have t1 : decide (a ≤ n) = false := decide_eq_false h1
    have HE : Hid (inB n a b = false) := inB_no fun h => h1 h.1
    go_enter Tryz.func66, Tryz.ntmps66
    go_wp2_with fail
    go_ret
    rw [HE.out]
    exact ⟨rfl, rfl⟩
set_option maxRecDepth 100000 in
set_option maxHeartbeats 1000000 in
theorem within_0 (g0 g1 g2 g3 g4 g5 g6 g7 g8 : Int)  (c : ¬ (8 ≤ g0 ∧ g0 ≤ 64)) (w : World) (h1 : g1 ≤ 9223372036854775807) (h1l : -9223372036854775808 ≤ g1) : Calls Tryz.prog 39 #[.agg #[.int .i64 g0, .int .i64 g1, .int .i64 g2, .int .i64 g3, .int .i64 g4, .int .i64 g5, .int .i64 g6, .int .i64 g7, .int .i64 g8]] w fun e w' => e = .returned (.bool false) ∧ Below w.heap.size w w' := by
  have b0 : inB g0 8 64 = false := inB_no c
  clear c
  go_enter Tryz.func39, Tryz.ntmps39
  go_wp2_with (go_at_call 66; (with_reducible refine (in_any _ _ _ _).mono ?_); rintro e w' ⟨rfl, rfl⟩)
  go_ret
  exact ⟨rfl, (Below.refl _ _).alloc (Nat.le_refl _) _⟩
set_option maxRecDepth 100000 in
set_option maxHeartbeats 1000000 in
theorem within_1 (g0 g1 g2 g3 g4 g5 g6 g7 g8 : Int) (l0 : 8 ≤ g0) (u0 : g0 ≤ 64) (c : ¬ (3 ≤ g1 ∧ g1 ≤ 64)) (w : World) (h1 : g1 ≤ 9223372036854775807) (h1l : -9223372036854775808 ≤ g1) : Calls Tryz.prog 39 #[.agg #[.int .i64 g0, .int .i64 g1, .int .i64 g2, .int .i64 g3, .int .i64 g4, .int .i64 g5, .int .i64 g6, .int .i64 g7, .int .i64 g8]] w fun e w' => e = .returned (.bool false) ∧ Below w.heap.size w w' := by
  have b0 : inB g0 8 64 = true := inB_iff.2 ⟨l0, u0⟩
  have b1 : inB g1 3 64 = false := inB_no c
  clear c
  go_enter Tryz.func39, Tryz.ntmps39
  go_wp2_with (go_at_call 66; (with_reducible refine (in_any _ _ _ _).mono ?_); rintro e w' ⟨rfl, rfl⟩)
  go_ret
  exact ⟨rfl, (Below.refl _ _).alloc (Nat.le_refl _) _⟩
set_option maxRecDepth 100000 in
set_option maxHeartbeats 1000000 in
theorem within_2 (g0 g1 g2 g3 g4 g5 g6 g7 g8 : Int) (l0 : 8 ≤ g0) (u0 : g0 ≤ 64) (l1 : 3 ≤ g1) (u1 : g1 ≤ 64) (c : ¬ (16 ≤ g2 ∧ g2 ≤ 1024)) (w : World) (h1 : g1 ≤ 9223372036854775807) (h1l : -9223372036854775808 ≤ g1) : Calls Tryz.prog 39 #[.agg #[.int .i64 g0, .int .i64 g1, .int .i64 g2, .int .i64 g3, .int .i64 g4, .int .i64 g5, .int .i64 g6, .int .i64 g7, .int .i64 g8]] w fun e w' => e = .returned (.bool false) ∧ Below w.heap.size w w' := by
  have b0 : inB g0 8 64 = true := inB_iff.2 ⟨l0, u0⟩
  have b1 : inB g1 3 64 = true := inB_iff.2 ⟨l1, u1⟩
  have b2 : inB g2 16 1024 = false := inB_no c
  clear c
  go_enter Tryz.func39, Tryz.ntmps39
  go_wp2_with (go_at_call 66; (with_reducible refine (in_any _ _ _ _).mono ?_); rintro e w' ⟨rfl, rfl⟩)
  go_ret
  exact ⟨rfl, (Below.refl _ _).alloc (Nat.le_refl _) _⟩
set_option maxRecDepth 100000 in
set_option maxHeartbeats 1000000 in
theorem within_3 (g0 g1 g2 g3 g4 g5 g6 g7 g8 : Int) (l0 : 8 ≤ g0) (u0 : g0 ≤ 64) (l1 : 3 ≤ g1) (u1 : g1 ≤ 64) (l2 : 16 ≤ g2) (u2 : g2 ≤ 1024) (c : ¬ (3 ≤ g3 ∧ g3 ≤ 14)) (w : World) (h1 : g1 ≤ 9223372036854775807) (h1l : -9223372036854775808 ≤ g1) : Calls Tryz.prog 39 #[.agg #[.int .i64 g0, .int .i64 g1, .int .i64 g2, .int .i64 g3, .int .i64 g4, .int .i64 g5, .int .i64 g6, .int .i64 g7, .int .i64 g8]] w fun e w' => e = .returned (.bool false) ∧ Below w.heap.size w w' := by
  have b0 : inB g0 8 64 = true := inB_iff.2 ⟨l0, u0⟩
  have b1 : inB g1 3 64 = true := inB_iff.2 ⟨l1, u1⟩
  have b2 : inB g2 16 1024 = true := inB_iff.2 ⟨l2, u2⟩
  have b3 : inB g3 3 14 = false := inB_no c
  clear c
  go_enter Tryz.func39, Tryz.ntmps39
  go_wp2_with (go_at_call 66; (with_reducible refine (in_any _ _ _ _).mono ?_); rintro e w' ⟨rfl, rfl⟩)
  go_ret
  exact ⟨rfl, (Below.refl _ _).alloc (Nat.le_refl _) _⟩
set_option maxRecDepth 100000 in
set_option maxHeartbeats 1000000 in
theorem within_4 (g0 g1 g2 g3 g4 g5 g6 g7 g8 : Int) (l0 : 8 ≤ g0) (u0 : g0 ≤ 64) (l1 : 3 ≤ g1) (u1 : g1 ≤ 64) (l2 : 16 ≤ g2) (u2 : g2 ≤ 1024) (l3 : 3 ≤ g3) (u3 : g3 ≤ 14) (c : ¬ (1 ≤ g4 ∧ g4 ≤ 16)) (w : World) (h1 : g1 ≤ 9223372036854775807) (h1l : -9223372036854775808 ≤ g1) : Calls Tryz.prog 39 #[.agg #[.int .i64 g0, .int .i64 g1, .int .i64 g2, .int .i64 g3, .int .i64 g4, .int .i64 g5, .int .i64 g6, .int .i64 g7, .int .i64 g8]] w fun e w' => e = .returned (.bool false) ∧ Below w.heap.size w w' := by
  have b0 : inB g0 8 64 = true := inB_iff.2 ⟨l0, u0⟩
  have b1 : inB g1 3 64 = true := inB_iff.2 ⟨l1, u1⟩
  have b2 : inB g2 16 1024 = true := inB_iff.2 ⟨l2, u2⟩
  have b3 : inB g3 3 14 = true := inB_iff.2 ⟨l3, u3⟩
  have b4 : inB g4 1 16 = false := inB_no c
  clear c
  go_enter Tryz.func39, Tryz.ntmps39
  go_wp2_with (go_at_call 66; (with_reducible refine (in_any _ _ _ _).mono ?_); rintro e w' ⟨rfl, rfl⟩)
  go_ret
  exact ⟨rfl, (Below.refl _ _).alloc (Nat.le_refl _) _⟩
set_option maxRecDepth 100000 in
set_option maxHeartbeats 1000000 in
theorem within_5 (g0 g1 g2 g3 g4 g5 g6 g7 g8 : Int) (l0 : 8 ≤ g0) (u0 : g0 ≤ 64) (l1 : 3 ≤ g1) (u1 : g1 ≤ 64) (l2 : 16 ≤ g2) (u2 : g2 ≤ 1024) (l3 : 3 ≤ g3) (u3 : g3 ≤ 14) (l4 : 1 ≤ g4) (u4 : g4 ≤ 16) (c : ¬ (1 ≤ g5 ∧ g5 ≤ 8)) (w : World) (h1 : g1 ≤ 9223372036854775807) (h1l : -9223372036854775808 ≤ g1) : Calls Tryz.prog 39 #[.agg #[.int .i64 g0, .int .i64 g1, .int .i64 g2, .int .i64 g3, .int .i64 g4, .int .i64 g5, .int .i64 g6, .int .i64 g7, .int .i64 g8]] w fun e w' => e = .returned (.bool false) ∧ Below w.heap.size w w' := by
  have b0 : inB g0 8 64 = true := inB_iff.2 ⟨l0, u0⟩
  have b1 : inB g1 3 64 = true := inB_iff.2 ⟨l1, u1⟩
  have b2 : inB g2 16 1024 = true := inB_iff.2 ⟨l2, u2⟩
  have b3 : inB g3 3 14 = true := inB_iff.2 ⟨l3, u3⟩
  have b4 : inB g4 1 16 = true := inB_iff.2 ⟨l4, u4⟩
  have b5 : inB g5 1 8 = false := inB_no c
  clear c
  go_enter Tryz.func39, Tryz.ntmps39
  go_wp2_with (go_at_call 66; (with_reducible refine (in_any _ _ _ _).mono ?_); rintro e w' ⟨rfl, rfl⟩)
  go_ret
  exact ⟨rfl, (Below.refl _ _).alloc (Nat.le_refl _) _⟩
set_option maxRecDepth 100000 in
set_option maxHeartbeats 1000000 in
theorem within_6 (g0 g1 g2 g3 g4 g5 g6 g7 g8 : Int) (l0 : 8 ≤ g0) (u0 : g0 ≤ 64) (l1 : 3 ≤ g1) (u1 : g1 ≤ 64) (l2 : 16 ≤ g2) (u2 : g2 ≤ 1024) (l3 : 3 ≤ g3) (u3 : g3 ≤ 14) (l4 : 1 ≤ g4) (u4 : g4 ≤ 16) (l5 : 1 ≤ g5) (u5 : g5 ≤ 8) (c : ¬ (0 ≤ g6 ∧ g6 ≤ (g0 - 8))) (w : World) (h1 : g1 ≤ 9223372036854775807) (h1l : -9223372036854775808 ≤ g1) : Calls Tryz.prog 39 #[.agg #[.int .i64 g0, .int .i64 g1, .int .i64 g2, .int .i64 g3, .int .i64 g4, .int .i64 g5, .int .i64 g6, .int .i64 g7, .int .i64 g8]] w fun e w' => e = .returned (.bool false) ∧ Below w.heap.size w w' := by
  have b0 : inB g0 8 64 = true := inB_iff.2 ⟨l0, u0⟩
  have b1 : inB g1 3 64 = true := inB_iff.2 ⟨l1, u1⟩
  have b2 : inB g2 16 1024 = true := inB_iff.2 ⟨l2, u2⟩
  have b3 : inB g3 3 14 = true := inB_iff.2 ⟨l3, u3⟩
  have b4 : inB g4 1 16 = true := inB_iff.2 ⟨l4, u4⟩
  have b5 : inB g5 1 8 = true := inB_iff.2 ⟨l5, u5⟩
  have b6 : inB g6 0 (g0 - 8) = false := inB_no c
  clear c
  go_enter Tryz.func39, Tryz.ntmps39
  go_wp2_with (go_at_call 66; (with_reducible refine (in_any _ _ _ _).mono ?_); rintro e w' ⟨rfl, rfl⟩)
  go_ret
  exact ⟨rfl, (Below.refl _ _).alloc (Nat.le_refl _) _⟩
set_option maxRecDepth 100000 in
set_option maxHeartbeats 1000000 in
theorem within_7 (g0 g1 g2 g3 g4 g5 g6 g7 g8 : Int) (l0 : 8 ≤ g0) (u0 : g0 ≤ 64) (l1 : 3 ≤ g1) (u1 : g1 ≤ 64) (l2 : 16 ≤ g2) (u2 : g2 ≤ 1024) (l3 : 3 ≤ g3) (u3 : g3 ≤ 14) (l4 : 1 ≤ g4) (u4 : g4 ≤ 16) (l5 : 1 ≤ g5) (u5 : g5 ≤ 8) (l6 : 0 ≤ g6) (u6 : g6 ≤ (g0 - 8)) (c : ¬ (2 ≤ g7 ∧ g7 ≤ 1000)) (w : World) (h1 : g1 ≤ 9223372036854775807) (h1l : -9223372036854775808 ≤ g1) : Calls Tryz.prog 39 #[.agg #[.int .i64 g0, .int .i64 g1, .int .i64 g2, .int .i64 g3, .int .i64 g4, .int .i64 g5, .int .i64 g6, .int .i64 g7, .int .i64 g8]] w fun e w' => e = .returned (.bool false) ∧ Below w.heap.size w w' := by
  have b0 : inB g0 8 64 = true := inB_iff.2 ⟨l0, u0⟩
  have b1 : inB g1 3 64 = true := inB_iff.2 ⟨l1, u1⟩
  have b2 : inB g2 16 1024 = true := inB_iff.2 ⟨l2, u2⟩
  have b3 : inB g3 3 14 = true := inB_iff.2 ⟨l3, u3⟩
  have b4 : inB g4 1 16 = true := inB_iff.2 ⟨l4, u4⟩
  have b5 : inB g5 1 8 = true := inB_iff.2 ⟨l5, u5⟩
  have b6 : inB g6 0 (g0 - 8) = true := inB_iff.2 ⟨l6, u6⟩
  have b7 : inB g7 2 1000 = false := inB_no c
  clear c
  go_enter Tryz.func39, Tryz.ntmps39
  go_wp2_with (go_at_call 66; (with_reducible refine (in_any _ _ _ _).mono ?_); rintro e w' ⟨rfl, rfl⟩)
  go_ret
  exact ⟨rfl, (Below.refl _ _).alloc (Nat.le_refl _) _⟩
set_option maxRecDepth 100000 in
set_option maxHeartbeats 1000000 in
theorem within_8 (g0 g1 g2 g3 g4 g5 g6 g7 g8 : Int) (mb : Int) (hmb : mb = min (2 * (g1 - 1) - 1) 64) (l0 : 8 ≤ g0) (u0 : g0 ≤ 64) (l1 : 3 ≤ g1) (u1 : g1 ≤ 64) (l2 : 16 ≤ g2) (u2 : g2 ≤ 1024) (l3 : 3 ≤ g3) (u3 : g3 ≤ 14) (l4 : 1 ≤ g4) (u4 : g4 ≤ 16) (l5 : 1 ≤ g5) (u5 : g5 ≤ 8) (l6 : 0 ≤ g6) (u6 : g6 ≤ (g0 - 8)) (l7 : 2 ≤ g7) (u7 : g7 ≤ 1000) (c : ¬ (1 ≤ g8 ∧ g8 ≤ mb)) (w : World) (h1 : g1 ≤ 9223372036854775807) (h1l : -9223372036854775808 ≤ g1) : Calls Tryz.prog 39 #[.agg #[.int .i64 g0, .int .i64 g1, .int .i64 g2, .int .i64 g3, .int .i64 g4, .int .i64 g5, .int .i64 g6, .int .i64 g7, .int .i64 g8]] w fun e w' => e = .returned (.bool false) ∧ Below w.heap.size w w' := by
  have b0 : inB g0 8 64 = true := inB_iff.2 ⟨l0, u0⟩
  have b1 : inB g1 3 64 = true := inB_iff.2 ⟨l1, u1⟩
  have b2 : inB g2 16 1024 = true := inB_iff.2 ⟨l2, u2⟩
  have b3 : inB g3 3 14 = true := inB_iff.2 ⟨l3, u3⟩
  have b4 : inB g4 1 16 = true := inB_iff.2 ⟨l4, u4⟩
  have b5 : inB g5 1 8 = true := inB_iff.2 ⟨l5, u5⟩
  have b6 : inB g6 0 (g0 - 8) = true := inB_iff.2 ⟨l6, u6⟩
  have b7 : inB g7 2 1000 = true := inB_iff.2 ⟨l7, u7⟩
  have b8 : inB g8 1 mb = false := inB_no c
  clear c
  have m1 : min (2 * (g1 - 1) - 1) 64 = mb := hmb.symm
  have m2 : (if (64 : Int) < 2 * (g1 - 1) - 1 then (64 : Int) else 2 * (g1 - 1) - 1) = mb := by rw [hmb]; split <;> omega
  clear hmb
  go_enter Tryz.func39, Tryz.ntmps39
  go_wp2_with (go_at_call 66; (with_reducible refine (in_any _ _ _ _).mono ?_); rintro e w' ⟨rfl, rfl⟩)
  go_ret
  exact ⟨rfl, (Below.refl _ _).alloc (Nat.le_refl _) _⟩
set_option maxRecDepth 100000 in
set_option maxHeartbeats 1000000 in
theorem within_yes (g0 g1 g2 g3 g4 g5 g6 g7 g8 : Int) (mb : Int) (hmb : mb = min (2 * (g1 - 1) - 1) 64) (l0 : 8 ≤ g0) (u0 : g0 ≤ 64) (l1 : 3 ≤ g1) (u1 : g1 ≤ 64) (l2 : 16 ≤ g2) (u2 : g2 ≤ 1024) (l3 : 3 ≤ g3) (u3 : g3 ≤ 14) (l4 : 1 ≤ g4) (u4 : g4 ≤ 16) (l5 : 1 ≤ g5) (u5 : g5 ≤ 8) (l6 : 0 ≤ g6) (u6 : g6 ≤ (g0 - 8)) (l7 : 2 ≤ g7) (u7 : g7 ≤ 1000) (l8 : 1 ≤ g8) (u8 : g8 ≤ mb) (w : World) (h1 : g1 ≤ 9223372036854775807) (h1l : -9223372036854775808 ≤ g1) : Calls Tryz.prog 39 #[.agg #[.int .i64 g0, .int .i64 g1, .int .i64 g2, .int .i64 g3, .int .i64 g4, .int .i64 g5, .int .i64 g6, .int .i64 g7, .int .i64 g8]] w fun e w' => e = .returned (.bool true) ∧ Below w.heap.size w w' := by
  have b0 : inB g0 8 64 = true := inB_iff.2 ⟨l0, u0⟩
  have b1 : inB g1 3 64 = true := inB_iff.2 ⟨l1, u1⟩
  have b2 : inB g2 16 1024 = true := inB_iff.2 ⟨l2, u2⟩
  have b3 : inB g3 3 14 = true := inB_iff.2 ⟨l3, u3⟩
  have b4 : inB g4 1 16 = true := inB_iff.2 ⟨l4, u4⟩
  have b5 : inB g5 1 8 = true := inB_iff.2 ⟨l5, u5⟩
  have b6 : inB g6 0 (g0 - 8) = true := inB_iff.2 ⟨l6, u6⟩
  have b7 : inB g7 2 1000 = true := inB_iff.2 ⟨l7, u7⟩
  have b8 : inB g8 1 mb = true := inB_iff.2 ⟨l8, u8⟩
  have m1 : min (2 * (g1 - 1) - 1) 64 = mb := hmb.symm
  have m2 : (if (64 : Int) < 2 * (g1 - 1) - 1 then (64 : Int) else 2 * (g1 - 1) - 1) = mb := by rw [hmb]; split <;> omega
  clear hmb
  go_enter Tryz.func39, Tryz.ntmps39
  go_wp2_with (go_at_call 66; (with_reducible refine (in_any _ _ _ _).mono ?_); rintro e w' ⟨rfl, rfl⟩)
  go_ret
  exact ⟨rfl, (Below.refl _ _).alloc (Nat.le_refl _) _⟩
theorem within_any (g0 g1 g2 g3 g4 g5 g6 g7 g8 : Int) (w : World) (h1 : g1 ≤ 9223372036854775807) (h1l : -9223372036854775808 ≤ g1) : Calls Tryz.prog 39 #[.agg #[.int .i64 g0, .int .i64 g1, .int .i64 g2, .int .i64 g3, .int .i64 g4, .int .i64 g5, .int .i64 g6, .int .i64 g7, .int .i64 g8]] w fun e w' => e = .returned (.bool (decide (inAll g0 g1 g2 g3 g4 g5 g6 g7 g8))) ∧ Below w.heap.size w w' := by
  by_cases c0 : 8 ≤ g0 ∧ g0 ≤ 64
  · skip
    by_cases c1 : 3 ≤ g1 ∧ g1 ≤ 64
    · skip
      by_cases c2 : 16 ≤ g2 ∧ g2 ≤ 1024
      · skip
        by_cases c3 : 3 ≤ g3 ∧ g3 ≤ 14
        · skip
          by_cases c4 : 1 ≤ g4 ∧ g4 ≤ 16
          · skip
            by_cases c5 : 1 ≤ g5 ∧ g5 ≤ 8
            · skip
              by_cases c6 : 0 ≤ g6 ∧ g6 ≤ (g0 - 8)
              · skip
                by_cases c7 : 2 ≤ g7 ∧ g7 ≤ 1000
                · skip
                  by_cases c8 : 1 ≤ g8 ∧ g8 ≤ (min (2 * (g1 - 1) - 1) 64)
                  · skip
                    have HE : decide (inAll g0 g1 g2 g3 g4 g5 g6 g7 g8) = true := decide_eq_true (by unfold inAll; exact ⟨c0, c1, c2, c3, c4, c5, c6, c7, c8⟩)
                    rw [HE]
                    exact within_yes g0 g1 g2 g3 g4 g5 g6 g7 g8 _ rfl c0.1 c0.2 c1.1 c1.2 c2.1 c2.2 c3.1 c3.2 c4.1 c4.2 c5.1 c5.2 c6.1 c6.2 c7.1 c7.2 c8.1 c8.2 w h1 h1l
                  · have HE : decide (inAll g0 g1 g2 g3 g4 g5 g6 g7 g8) = false := decide_eq_false (by unfold inAll; exact fun h => c8 (h.2.2.2.2.2.2.2.2))
                    rw [HE]
                    exact within_8 g0 g1 g2 g3 g4 g5 g6 g7 g8 _ rfl c0.1 c0.2 c1.1 c1.2 c2.1 c2.2 c3.1 c3.2 c4.1 c4.2 c5.1 c5.2 c6.1 c6.2 c7.1 c7.2 c8 w h1 h1l
                · have HE : decide (inAll g0 g1 g2 g3 g4 g5 g6 g7 g8) = false := decide_eq_false (by unfold inAll; exact fun h => c7 (h.2.2.2.2.2.2.2.1))
                  rw [HE]
                  exact within_7 g0 g1 g2 g3 g4 g5 g6 g7 g8 c0.1 c0.2 c1.1 c1.2 c2.1 c2.2 c3.1 c3.2 c4.1 c4.2 c5.1 c5.2 c6.1 c6.2 c7 w h1 h1l
              · have HE : decide (inAll g0 g1 g2 g3 g4 g5 g6 g7 g8) = false := decide_eq_false (by unfold inAll; exact fun h => c6 (h.2.2.2.2.2.2.1))
                rw [HE]
                exact within_6 g0 g1 g2 g3 g4 g5 g6 g7 g8 c0.1 c0.2 c1.1 c1.2 c2.1 c2.2 c3.1 c3.2 c4.1 c4.2 c5.1 c5.2 c6 w h1 h1l
            · have HE : decide (inAll g0 g1 g2 g3 g4 g5 g6 g7 g8) = false := decide_eq_false (by unfold inAll; exact fun h => c5 (h.2.2.2.2.2.1))
              rw [HE]
              exact within_5 g0 g1 g2 g3 g4 g5 g6 g7 g8 c0.1 c0.2 c1.1 c1.2 c2.1 c2.2 c3.1 c3.2 c4.1 c4.2 c5 w h1 h1l
          · have HE : decide (inAll g0 g1 g2 g3 g4 g5 g6 g7 g8) = false := decide_eq_false (by unfold inAll; exact fun h => c4 (h.2.2.2.2.1))
            rw [HE]
            exact within_4 g0 g1 g2 g3 g4 g5 g6 g7 g8 c0.1 c0.2 c1.1 c1.2 c2.1 c2.2 c3.1 c3.2 c4 w h1 h1l
        · have HE : decide (inAll g0 g1 g2 g3 g4 g5 g6 g7 g8) = false := decide_eq_false (by unfold inAll; exact fun h => c3 (h.2.2.2.1))
          rw [HE]
          exact within_3 g0 g1 g2 g3 g4 g5 g6 g7 g8 c0.1 c0.2 c1.1 c1.2 c2.1 c2.2 c3 w h1 h1l
      · have HE : decide (inAll g0 g1 g2 g3 g4 g5 g6 g7 g8) = false := decide_eq_false (by unfold inAll; exact fun h => c2 (h.2.2.1))
        rw [HE]
        exact within_2 g0 g1 g2 g3 g4 g5 g6 g7 g8 c0.1 c0.2 c1.1 c1.2 c2 w h1 h1l
    · have HE : decide (inAll g0 g1 g2 g3 g4 g5 g6 g7 g8) = false := decide_eq_false (by unfold inAll; exact fun h => c1 (h.2.1))
      rw [HE]
      exact within_1 g0 g1 g2 g3 g4 g5 g6 g7 g8 c0.1 c0.2 c1 w h1 h1l
  · have HE : decide (inAll g0 g1 g2 g3 g4 g5 g6 g7 g8) = false := decide_eq_false (by unfold inAll; exact fun h => c0 (h.1))
    rw [HE]
    exact within_0 g0 g1 g2 g3 g4 g5 g6 g7 g8  c0 w h1 h1l
end Go.Proofs.YtdhcigiaidlmbaaGreatDoor.Pg
/- Geometries: how many sectors they have. By the verifier of shale. -/
namespace Go.Proofs.YtdhcigiaidlmbaaGreatDoor.Pg
open Go Go.RowKit Bin Pl Cos Enc Syn Loc Sea Dec
set_option linter.unusedVariables false
/-- a geometry in a block of its own. -/
def gO (g0 g1 g2 g3 g4 g5 g6 g7 g8 : Int) : Obj := .cells #[.int .i64 g0, .int .i64 g1, .int .i64 g2, .int .i64 g3, .int .i64 g4, .int .i64 g5, .int .i64 g6, .int .i64 g7, .int .i64 g8] 23 (0, 0)
theorem g_cells {w : World} {b : Nat} {g0 g1 g2 g3 g4 g5 g6 g7 g8 : Int} (h : w.heap[b]? = some (gO g0 g1 g2 g3 g4 g5 g6 g7 g8)) : w.cell? ⟨b, 0, none⟩ = some (.int .i64 g0) ∧ w.cell? ⟨b, 1, none⟩ = some (.int .i64 g1) ∧ w.cell? ⟨b, 2, none⟩ = some (.int .i64 g2) ∧ w.cell? ⟨b, 3, none⟩ = some (.int .i64 g3) ∧ w.cell? ⟨b, 4, none⟩ = some (.int .i64 g4) ∧ w.cell? ⟨b, 5, none⟩ = some (.int .i64 g5) ∧ w.cell? ⟨b, 6, none⟩ = some (.int .i64 g6) ∧ w.cell? ⟨b, 7, none⟩ = some (.int .i64 g7) ∧ w.cell? ⟨b, 8, none⟩ = some (.int .i64 g8) := by
  refine ⟨?_, ?_, ?_, ?_, ?_, ?_, ?_, ?_, ?_⟩ <;> (unfold World.cell?; simp only; rw [h]; rfl)
theorem newG (w W : World) (g0 g1 g2 g3 g4 g5 g6 g7 g8 : Int) (h : w.alloc (.cells #[.int .i64 g0, .int .i64 g1, .int .i64 g2, .int .i64 g3, .int .i64 g4, .int .i64 g5, .int .i64 g6, .int .i64 g7, .int .i64 g8] 23 (0, 0)) = W) : W.heap[w.heap.size]? = some (gO g0 g1 g2 g3 g4 g5 g6 g7 g8) ∧ Below w.heap.size w W := by
  subst h
  exact ⟨heap_alloc_new w _, (Below.refl _ _).alloc (Nat.le_refl _) _⟩
theorem keepG {w w' : World} {b : Nat} {o : Obj} (h : w.heap[b]? = some o) (l : Below w.heap.size w w') : w'.heap[b]? = some o := (l.block b (lt_of_block h)).trans h
theorem int_same {a b : Int} (h : a = b) : Ending.returned (.int .i64 a) = .returned (.int .i64 b) := by rw [h]
set_option maxRecDepth 100000 in
set_option maxHeartbeats 1000000 in
theorem secs_any (g0 g1 g2 g3 g4 g5 g6 g7 g8 : Int) (w : World) (h1 : g1 ≤ 9223372036854775807) (h1l : -9223372036854775808 ≤ g1) : Calls Tryz.prog 15 #[.agg #[.int .i64 g0, .int .i64 g1, .int .i64 g2, .int .i64 g3, .int .i64 g4, .int .i64 g5, .int .i64 g6, .int .i64 g7, .int .i64 g8]] w fun e w' => e = .returned (.int .i64 (secs g0 g1 g2 g3 g4 g5 g6 g7 g8)) ∧ Below w.heap.size w w' := by
  have HW := Lib.hid (fun W => within_any g0 g1 g2 g3 g4 g5 g6 g7 g8 W h1 h1l)
  go_enter Tryz.func15, Tryz.ntmps15
  go_wp2_with fail
  generalize hw : w.alloc (.cells #[.int .i64 g0, .int .i64 g1, .int .i64 g2, .int .i64 g3, .int .i64 g4, .int .i64 g5, .int .i64 g6, .int .i64 g7, .int .i64 g8] 23 (0, 0)) = w1
  obtain ⟨K, B⟩ := newG w w1 _ _ _ _ _ _ _ _ _ hw
  clear hw
  obtain ⟨bg, hbg⟩ : ∃ bg, bg = w.heap.size := ⟨_, rfl⟩
  rw [← hbg] at K ⊢
  clear hbg
  refine (HW.out _).mono ?_
  rintro e w2 ⟨rfl, b⟩
  replace K := keepG K b
  replace B := B.trans (b.mono B.size)
  obtain ⟨e0, e1, e2, e3, e4, e5, e6, e7, e8⟩ := g_cells K
  clear K b
  by_cases h : inAll g0 g1 g2 g3 g4 g5 g6 g7 g8
  · have HE : Hid (secs g0 g1 g2 g3 g4 g5 g6 g7 g8 = max 0 ((g1 - 1) * (g0 - g6 - 6) - g0 - g1 - 1)) := by unfold Hid; unfold secs; rw [if_pos h]
    have HD := decide_eq_true h
    rw [HD]
    clear HD
    obtain ⟨⟨l0, u0⟩, ⟨l1, u1⟩, _, _, _, _, ⟨l6, u6⟩, _⟩ := h
    obtain ⟨q, hq⟩ : ∃ q, q = (g1 - 1) * (g0 - g6 - 6) := ⟨_, rfl⟩
    have q1 : -(63 * 6) ≤ q := by rw [hq]; have := Int.mul_le_mul_of_nonneg_left (show -6 ≤ g0 - g6 - 6 by omega) (show 0 ≤ g1 - 1 by omega); omega
    have q2 : q ≤ 63 * 58 := by rw [hq]; have := Int.mul_le_mul_of_nonneg_left (show g0 - g6 - 6 ≤ 58 by omega) (show 0 ≤ g1 - 1 by omega); omega
    have q3 : (g1 - 1) * (g0 - g6 - 6) = q := hq.symm
    have q4 : wrap64 q = q := IntWalk.wrap64_in _ (by omega)
    have m2 : (if (0 : Int) < q - g0 - g1 - 1 then q - g0 - g1 - 1 else (0 : Int)) = max 0 (q - g0 - g1 - 1) := by split <;> omega
    rw [← hq] at HE
    clear hq
    go_wp2_with fail
    go_ret
    exact ⟨int_same (by rw [HE.out]), B⟩
  · have HE : Hid (secs g0 g1 g2 g3 g4 g5 g6 g7 g8 = 0) := by unfold Hid; unfold secs; rw [if_neg h]
    rw [decide_eq_false h]
    clear h
    go_wp2_with fail
    go_ret
    rw [HE.out]
    exact ⟨rfl, B⟩
end Go.Proofs.YtdhcigiaidlmbaaGreatDoor.Pg
/- A word near a right one is mended to it: for the walks of chapter 10. By the verifier of shale. -/
namespace Go.Proofs.YtdhcigiaidlmbaaGreatDoor.Dec
open Go Go.RowKit Bin Pl Cos Enc Syn Loc Sea
set_option linter.unusedVariables false
section
variable {m : Nat} [M : Pl.Mid m]
/-- the parity of a word. -/
abbrev par (m t X : Nat) [M : Pl.Mid m] : Nat := prt (gen m t) (deg m t) X
theorem par_lt (t X : Nat) : par m t X < 2 ^ deg m t := prt_lt (gen_deg (m := m) t) X
theorem Sv_right (t X i : Nat) (hi : i < 2 * t) : Sv m (wrd (deg m t) X (par m t X)) i = 0 :=
  dvd_root (wrd_dvd (gen_deg (m := m) t) X) (gen_root (m := m) (t := t) (by omega) (by omega))
theorem dec_near {t N X e : Nat} (hN : N ≤ Fld.size m) (ht : t ≤ 40) (he : e < 2 ^ N) (hp : pop e N ≤ t) : dec m t N (wrd (deg m t) X (par m t X) ^^^ e) = some (plc e N) :=
  dec_find hN ht he hp fun i hi => by rw [Sv_xor, Sv_right t X i hi, Pl.zero_add]
theorem shr_wrd {D X Y : Nat} (h : Y < 2 ^ D) : wrd D X Y >>> D = X := by
  apply Nat.eq_of_testBit_eq
  intro i
  rw [Nat.testBit_shiftRight, wrd_bit h, if_neg (by omega), Nat.add_sub_cancel_left]
end
end Go.Proofs.YtdhcigiaidlmbaaGreatDoor.Dec
/- A word whose syndromes are 0 is right: the generator's degree is the count of its zeros. By the verifier of shale. -/
namespace Go.Proofs.YtdhcigiaidlmbaaGreatDoor.Dec
open Go Go.RowKit Bin Pl Cos Enc Syn Loc Sea
set_option linter.unusedVariables false
theorem leads_form (m : Nat) : ∀ t f, f ∈ leads m 1 2 t → ∃ k, k < t ∧ f = (1 + 2 * k) % sz m
  | 0, f, h => by simp [leads] at h
  | t + 1, f, h => by
    simp only [leads] at h
    split at h
    · obtain ⟨k, h1, h2⟩ := leads_form m t f h
      exact ⟨k, by omega, h2⟩
    · rcases List.mem_append.1 h with h | h
      · obtain ⟨k, h1, h2⟩ := leads_form m t f h
        exact ⟨k, by omega, h2⟩
      · simp at h
        exact ⟨t, by omega, h⟩
theorem flat_len (m : Nat) : ∀ l, (l.flatMap (cos m)).length = dgs m l
  | [] => rfl
  | f :: t => by rw [List.flatMap_cons, List.length_append, flat_len m t]; rfl
theorem leads_apart {m : Nat} (hm : 3 ≤ m) : ∀ t, ((leads m 1 2 t).flatMap (cos m)).Nodup
  | 0 => List.nodup_nil
  | t + 1 => by
    have hp := sz_lo hm
    simp only [leads]
    split
    · exact leads_apart hm t
    · rename_i h
      have hx : (1 + 2 * t) % sz m < sz m := Nat.mod_lt _ (by omega)
      generalize (1 + 2 * t) % sz m = x at h hx
      rw [List.flatMap_append]
      have e1 : [x].flatMap (cos m) = cos m x := by simp
      rw [e1, List.nodup_append]
      refine ⟨leads_apart hm t, cos_nodup m x, fun a ha b hb e => ?_⟩
      subst e
      obtain ⟨f, hf, hc⟩ := List.mem_flatMap.1 ha
      have hfl := leads_lt hm 1 2 t f hf
      have c1 := cos_same hm hfl hc
      have c2 := cos_same hm hx hb
      apply h
      unfold cov
      refine List.any_eq_true.2 ⟨f, hf, ?_⟩
      rw [List.contains_iff_mem, ← c1, c2]
      exact cos_first hm hx
section
variable {m : Nat} [M : Pl.Mid m]
theorem vv_orb {v f : Nat} (h : vv (m := m) v (Cos.xe m f) = 0) : ∀ j, vv (m := m) v (Cos.xe m (f * 2 ^ j)) = 0
  | 0 => by rw [Nat.pow_zero, Nat.mul_one]; exact h
  | j + 1 => by
    have e : f * 2 ^ (j + 1) = 2 * (f * 2 ^ j) := by rw [Nat.pow_succ, ← Nat.mul_assoc, Nat.mul_comm]
    rw [e, Syn.vv_sq, vv_orb h j, Pl.zero_mul]
theorem vv_root {t v : Nat} (h : ∀ i, i < 2 * t → Sv m v i = 0) {k : Nat} (hk : k ∈ (leads m 1 2 t).flatMap (cos m)) : vv (m := m) v (Cos.xe m k) = 0 := by
  obtain ⟨f, hf, hc⟩ := List.mem_flatMap.1 hk
  obtain ⟨q, hq, rfl⟩ := leads_form m t f hf
  obtain ⟨_, j, _, rfl⟩ := (mem_cos k).1 hc
  unfold orb
  rw [Enc.xe_mod]
  refine vv_orb ?_ j
  rw [Enc.xe_mod]
  have := h (2 * q) (by omega)
  unfold Sv at this
  rw [show 2 * q + 1 = 1 + 2 * q by omega] at this
  exact this
theorem few_zero {t d : Nat} (hd : d < 2 ^ deg m t) (h : ∀ i, i < 2 * t → Sv m d i = 0) : d = 0 := by
  refine Classical.byContradiction fun h0 => ?_
  have hb : d.testBit d.log2 = true := Nat.testBit_log2 h0
  have h1 : d.log2 < deg m t := by
    refine Classical.byContradiction fun hc => ?_
    rw [Nat.testBit_lt_two_pow (Nat.lt_of_lt_of_le hd (Nat.pow_le_pow_right (by decide) (by omega)))] at hb
    cases hb
  have h2 : d < 2 ^ (d.log2 + 1) := Nat.lt_log2_self
  have hg : Dg (bs m d) d.log2 := ⟨by show (if d.testBit d.log2 then (1 : El m) else 0) ≠ 0; rw [hb]; exact Fl.one_ne, bs_bd h2⟩
  have hn : (((leads m 1 2 t).flatMap (cos m)).map (Cos.xe m)).Nodup := by
    have lt : ∀ a, a ∈ (leads m 1 2 t).flatMap (cos m) → a < sz m := fun a ha => by
      obtain ⟨f, _, hc⟩ := List.mem_flatMap.1 ha
      exact ((mem_cos a).1 hc).1
    exact List.pairwise_map.2 (List.Pairwise.imp_of_mem (fun {a b} ha hb hne e => hne (Enc.xe_inj (lt a ha) (lt b hb) e)) (leads_apart M.lo t))
  have := roots_le d.log2 (bs m d) _ hg hn fun a ha => by
    obtain ⟨k, hk, rfl⟩ := List.mem_map.1 ha
    rw [vv_eq h2]
    exact vv_root h hk
  rw [List.length_map, flat_len] at this
  exact absurd h1 (Nat.not_lt.2 this)
/-- a word whose syndromes are 0 is right. -/
theorem right_of {t X Y : Nat} (hY : Y < 2 ^ deg m t) (h : ∀ i, i < 2 * t → Sv m (wrd (deg m t) X Y) i = 0) : Y = par m t X := by
  have e : Y ^^^ par m t X = 0 := few_zero (Nat.xor_lt_two_pow hY (par_lt t X)) fun i hi => by
    have h1 : Y ^^^ par m t X = wrd (deg m t) X Y ^^^ wrd (deg m t) X (par m t X) := by
      rw [← wrd_xor, Nat.xor_self]
      unfold wrd
      rw [Nat.zero_shiftLeft, Nat.zero_xor]
    rw [h1, Sv_xor, h i hi, Sv_right t X i hi, Fl.add_zero]
  have := congrArg (· ^^^ par m t X) e
  try simp only at this
  rwa [Nat.xor_assoc, Nat.xor_self, Nat.xor_zero, Nat.zero_xor] at this
/-- what is mended: a word e away from it, e few. -/
theorem dec_right {t N X Y : Nat} (hN : N ≤ Fld.size m) (ht : t ≤ 40) (hY : Y < 2 ^ deg m t) {l : List Nat} (h : dec m t N (wrd (deg m t) X Y) = some l) :
    ∃ e V, e < 2 ^ N ∧ l = plc e N ∧ pop e N ≤ t ∧ wrd (deg m t) X Y = wrd (deg m t) V (par m t V) ^^^ e := by
  obtain ⟨e, he, hl, hp, hs⟩ := dec_some hN ht h
  have hm : Y ^^^ e % 2 ^ deg m t < 2 ^ deg m t := Nat.xor_lt_two_pow hY (Nat.mod_lt _ (Nat.two_pow_pos _))
  have hw : wrd (deg m t) X Y ^^^ e = wrd (deg m t) (X ^^^ e >>> deg m t) (Y ^^^ e % 2 ^ deg m t) := by
    rw [wrd_xor]
    congr 1
    apply Nat.eq_of_testBit_eq
    intro i
    rw [wrd_bit (Nat.mod_lt _ (Nat.two_pow_pos _))]
    split
    · rename_i hi; rw [Nat.testBit_mod_two_pow]; simp [hi]
    · rename_i hi; rw [Nat.testBit_shiftRight]; congr 1; omega
  have hr := right_of (X := X ^^^ e >>> deg m t) hm fun i hi => by rw [← hw, Sv_xor, hs i hi, Fl.add_self]
  refine ⟨e, X ^^^ e >>> deg m t, he, hl, hp, ?_⟩
  rw [← hr, ← hw, Nat.xor_assoc, Nat.xor_self, Nat.xor_zero]
end
end Go.Proofs.YtdhcigiaidlmbaaGreatDoor.Dec
/- Words that are turned in few places: for the walks of chapter 10. By the verifier of shale. -/
namespace Go.Proofs.YtdhcigiaidlmbaaGreatDoor.Dec
open Go Go.RowKit Bin Pl Cos Enc Syn Loc Sea
set_option linter.unusedVariables false
theorem pow_lt2 {p N : Nat} (h : p < N) : 2 ^ p < 2 ^ N := Nat.pow_lt_pow_right (by decide) h
theorem pop_turn_lo {e k : Nat} : ∀ n, n ≤ k → pop (e ^^^ 2 ^ k) n = pop e n
  | 0, _ => rfl
  | n + 1, h => by
    rw [pop_succ, pop_succ, pop_turn_lo n (by omega), Nat.testBit_xor, Nat.testBit_two_pow, decide_eq_false (by omega), Bool.xor_false]
theorem pop_turn {e k : Nat} (hb : e.testBit k = false) : ∀ n, k < n → pop (e ^^^ 2 ^ k) n = pop e n + 1
  | 0, h => by omega
  | n + 1, h => by
    rw [pop_succ, pop_succ, Nat.testBit_xor, Nat.testBit_two_pow]
    by_cases hk : k = n
    · subst hk
      rw [pop_turn_lo k (Nat.le_refl _), hb, decide_eq_true rfl]
      rfl
    · rw [pop_turn hb n (by omega), decide_eq_false hk, Bool.xor_false]
      omega
section
variable {m : Nat} [M : Pl.Mid m]
end
end Go.Proofs.YtdhcigiaidlmbaaGreatDoor.Dec
/- How far two words lie apart, in two parts: for the walks of chapter 10. By the verifier of shale. -/
namespace Go.Proofs.YtdhcigiaidlmbaaGreatDoor.Dec
open Go Go.RowKit Bin Pl Cos Enc Syn Loc Sea
set_option linter.unusedVariables false
theorem xor_cancel (a b : Nat) : a ^^^ (b ^^^ a) = b := by rw [Nat.xor_comm b a, ← Nat.xor_assoc, Nat.xor_self, Nat.zero_xor]
/-- the word of what two words differ by. -/
theorem apart_word {D n : Nat} {A X B Y : Nat} (hA : A < 2 ^ (8 * n)) (hX : X < 2 ^ (8 * n)) (hB : B < 2 ^ D) (hY : Y < 2 ^ D) :
    wrd D (A ^^^ X) (B ^^^ Y) < 2 ^ (8 * n + D) ∧ pop (wrd D (A ^^^ X) (B ^^^ Y)) (8 * n + D) = pop (A ^^^ X) (8 * n) + pop (B ^^^ Y) (8 * pb D) ∧ wrd D A B = wrd D X Y ^^^ wrd D (A ^^^ X) (B ^^^ Y) := by
  have h1 := Nat.xor_lt_two_pow hA hX
  have h2 := Nat.xor_lt_two_pow hB hY
  refine ⟨wrd_lt h1 h2, ?_, ?_⟩
  · rw [pop_wrd h2, pop_more h2 (b := 8 * pb D) (by unfold pb; omega)]
  · rw [wrd_xor, xor_cancel]
section
variable {m : Nat} [M : Pl.Mid m]
/-- a word that is mended: what was turned, in two parts. -/
theorem dec_parts {t n X Y : Nat} (hN : 8 * n + deg m t ≤ Fld.size m) (ht : t ≤ 40) (hX : X < 2 ^ (8 * n)) (hY : Y < 2 ^ deg m t) {l : List Nat} (h : dec m t (8 * n + deg m t) (wrd (deg m t) X Y) = some l) :
    ∃ e V, e < 2 ^ (8 * n + deg m t) ∧ l = plc e (8 * n + deg m t) ∧ pop e (8 * n + deg m t) ≤ t ∧ wrd (deg m t) X Y = wrd (deg m t) V (par m t V) ^^^ e ∧ V < 2 ^ (8 * n) ∧ pop (X ^^^ V) (8 * n) + pop (Y ^^^ par m t V) (8 * pb (deg m t)) = pop e (8 * n + deg m t) := by
  obtain ⟨e, V, he, hl, hp, hw⟩ := dec_right hN ht hY h
  have hq := par_lt (m := m) t V
  have hV : V < 2 ^ (8 * n) := by
    have h1 : wrd (deg m t) V (par m t V) < 2 ^ (8 * n + deg m t) := by
      have : wrd (deg m t) V (par m t V) = wrd (deg m t) X Y ^^^ e := by rw [hw, Nat.xor_assoc, Nat.xor_self, Nat.xor_zero]
      rw [this]
      exact Nat.xor_lt_two_pow (wrd_lt hX hY) he
    have h2 := shr_wrd (X := V) hq
    rw [← h2, Nat.shiftRight_eq_div_pow]
    rw [Nat.pow_add] at h1
    exact Nat.div_lt_of_lt_mul (by rw [Nat.mul_comm]; exact h1)
  obtain ⟨a1, a2, a3⟩ := apart_word (n := n) hX hV hY hq
  have e2 : wrd (deg m t) (X ^^^ V) (Y ^^^ par m t V) = e := by
    have := a3.symm.trans hw
    have h3 := congrArg (wrd (deg m t) V (par m t V) ^^^ ·) this
    try simp only at h3
    rwa [← Nat.xor_assoc, Nat.xor_self, Nat.zero_xor, ← Nat.xor_assoc, Nat.xor_self, Nat.zero_xor] at h3
  exact ⟨e, V, he, hl, hp, hw, hV, by rw [← a2, e2]⟩
end
end Go.Proofs.YtdhcigiaidlmbaaGreatDoor.Dec
/- The walk over the reference's Clear. By the verifier of shale. -/
namespace Go.Proofs.YtdhcigiaidlmbaaGreatDoor.Dec
open Go Go.RowKit Bin Cos Enc
set_option linter.unusedVariables false
theorem bclear (a c : BitVec 8) : bits .andNot .u8 (Bits32.b a) (Bits32.b c) = Bits32.b (a &&& ~~~c) := by
  show IntKind.u8.wrap (Bits32.b (BitVec.ofInt 8 (Bits32.b a) &&& ~~~BitVec.ofInt 8 (Bits32.b c))) = _
  rw [Bits32.ofInt8, Bits32.ofInt8, Bits32.wrap8]
theorem bclear_bit (c : BitVec 8) (k : Nat) : bits .andNot .u8 (Bits32.b c) ((2 : Int) ^ (k % 8) % 256) = Bits32.b (c &&& ~~~BitVec.twoPow 8 (k % 8)) := by rw [Bits32.bit8, bclear]
theorem clear_two : ∀ (c : BitVec 8) (k : Fin 8), c &&& ~~~BitVec.twoPow 8 k.val = if c.getLsbD k.val then c ^^^ BitVec.twoPow 8 k.val else c := by decide +kernel
/-- a bit cleared. -/
theorem val_clear (X : List (BitVec 8)) (i : Nat) (h : i / 8 < X.length) : ∀ j, (val (X.set (i / 8) (nth8 X (i / 8) &&& ~~~BitVec.twoPow 8 (i % 8)))).testBit j = ((val X).testBit j && decide (j ≠ i)) := by
  intro j
  have hc := clear_two (nth8 X (i / 8)) ⟨i % 8, by omega⟩
  have hb := val_bit X i
  simp only at hc
  rw [hc]
  by_cases ht : (nth8 X (i / 8)).getLsbD (i % 8) = true
  · rw [if_pos ht, val_turn X i h, Nat.testBit_xor, Nat.testBit_two_pow]
    by_cases e : i = j
    · subst e
      rw [hb, ht]
      simp
    · have e' : j ≠ i := fun h => e h.symm
      simp [e, e']
  · rw [if_neg ht]
    have e1 : X.set (i / 8) (nth8 X (i / 8)) = X := by
      unfold nth8
      rw [List.getD_eq_getElem?_getD, List.getElem?_eq_getElem h]
      exact List.set_getElem_self h
    rw [e1]
    by_cases e : j = i
    · subst e
      rw [hb]
      simp only [Bool.not_eq_true] at ht
      rw [ht]
      simp
    · simp [e]
theorem bor8 (a c : BitVec 8) : bits .or .u8 (Bits32.b a) (Bits32.b c) = Bits32.b (a ||| c) := by
  show IntKind.u8.wrap (Bits32.b (BitVec.ofInt 8 (Bits32.b a) ||| BitVec.ofInt 8 (Bits32.b c))) = _
  rw [Bits32.ofInt8, Bits32.ofInt8, Bits32.wrap8]
theorem bor_bit (c : BitVec 8) (k : Nat) : bits .or .u8 (Bits32.b c) ((2 : Int) ^ (k % 8) % 256) = Bits32.b (c ||| BitVec.twoPow 8 (k % 8)) := by rw [Bits32.bit8, bor8]
theorem or_two : ∀ (c : BitVec 8) (k : Fin 8), c ||| BitVec.twoPow 8 k.val = if c.getLsbD k.val then c else c ^^^ BitVec.twoPow 8 k.val := by decide +kernel
section
attribute [local go_sem] Bits32.bxor bclear bclear_bit
set_option maxRecDepth 100000 in
set_option maxHeartbeats 2000000 in
theorem rclear_any (m t n : Nat) (ga : Option Addr) (gn gc D P : Nat) (hD : D ≤ 1000) (hP : P = pb D) (a : Option Addr) (c : Nat) (Y : List (BitVec 8)) (w : World) (hY : Pol w a P c Y) :
    Calls Tryz.prog 32 #[cdV m t n ga gn gc D, .slice a P c] w fun e w' => ∃ g Y', e = .returned (.slice (some ⟨g, 0, none⟩) P P) ∧ Blk8 w' g Y' ∧ Y'.length = P ∧ val Y' = val Y % 2 ^ D ∧ w.heap.size ≤ g ∧ Below w.heap.size w w' := by
  have hP2 : P = (D + 7) / 8 := hP
  have hYl := Lib.hid hY.hlen
  have HY := Lib.hid hY
  have b0 : Below w.heap.size w (w.alloc (cdO (.int .i64 (m : Int)) (.int .i64 (t : Int)) (.int .i64 (n : Int)) (.slice ga gn gc) (.int .i64 (D : Int)))) := (Below.refl _ _).alloc (Nat.le_refl _) _
  have HPP := Lib.hid hP2
  clear hY hP
  have hP8 : P ≤ 200 := by omega
  have K0 := heap_alloc_new w (cdO (.int .i64 (m : Int)) (.int .i64 (t : Int)) (.int .i64 (n : Int)) (.slice ga gn gc) (.int .i64 (D : Int)))
  obtain ⟨bz, hbz⟩ : ∃ bz, bz = w.heap.size := ⟨_, rfl⟩
  have HBz := Lib.hid hbz
  rw [← hbz] at K0
  clear hP2
  have HA := Lib.hid (And.intro b0 K0)
  clear b0 K0
  go_enter Tryz.func32, Tryz.ntmps32
  go_wp2_with fail
  generalize hw : w.alloc (.cells #[.int .i64 (m : Int), .int .i64 (t : Int), .int .i64 (n : Int), .slice ga gn gc, .int .i64 (D : Int)] 27 (0, 0)) = w2
  obtain ⟨K, b⟩ := newCd w w2 _ _ _ _ _ hw
  clear hw
  rw [← hbz] at K ⊢
  clear hbz
  have HY2 := HY.out.below b
  refine (copy_all a P c Y w2 (fun e => by have h1 := HY2.hnil e; have h2 := HY2.hcap; omega) HY2.hrow HY2.hlen (by omega)).mono ?_
  rintro e w3 ⟨rfl, Z, b2⟩
  have hg : w.heap.size ≤ w2.heap.size := b.size
  have hbg : bz < w2.heap.size := lt_of_block K
  obtain ⟨g, hgg⟩ : ∃ g, g = w2.heap.size := ⟨_, rfl⟩
  rw [← hgg] at Z hg hbg ⊢
  replace K := keepB K b2
  have B := b.trans (b2.mono b.size)
  clear b b2 hgg HY2 HA
  have HI0 : Hid (Blk8 w3 g Y ∧ Y.length = P ∧ (∀ j, (val Y).testBit j = ((val Y).testBit j && (decide (j < D) || decide (D ≤ j)))) ∧ w3.heap[bz]? = some (cdO (.int .i64 (m : Int)) (.int .i64 (t : Int)) (.int .i64 (n : Int)) (.slice ga gn gc) (.int .i64 (D : Int))) ∧ Below w.heap.size w w3) :=
    ⟨Z, hYl.out.symm, fun j => by by_cases h : j < D <;> simp [h] <;> omega, K, B⟩
  obtain ⟨c0, c1, c2, c3, c4, _⟩ := cd_cells K
  clear Z K B
  go_wp2_with fail
  clear c0 c1 c2 c3 c4
  go_loopg [6] (8 * P - D) (fun gh s6 wx => ∃ (i : Nat) (Yi : List (BitVec 8)), gh = 8 * P - i ∧ D ≤ i ∧ i ≤ 8 * P ∧ s6 = .int .i64 (i : Int) ∧ Hid (Blk8 wx g Yi ∧ Yi.length = P ∧ (∀ j, (val Yi).testBit j = ((val Y).testBit j && (decide (j < D) || decide (i ≤ j)))) ∧ wx.heap[bz]? = some (cdO (.int .i64 (m : Int)) (.int .i64 (t : Int)) (.int .i64 (n : Int)) (.slice ga gn gc) (.int .i64 (D : Int))) ∧ Below w.heap.size w wx))
  case atStart => exact ⟨D, Y, rfl, Nat.le_refl _, by have := HPP.out; omega, rfl, HI0⟩
  case round =>
    clear HI0
    obtain ⟨i, Yi, hgh, hDi, hiP, rfl, HI⟩ := hrel
    have HG := Lib.hid hgh
    clear hgh
    by_cases hl : i < 8 * P
    · have x1 : (i : Int) < 8 * (P : Int) := by omega
      have x2 : decide ((i : Int) < 8 * (P : Int)) = true := decide_eq_true x1
      have x3 : i / 8 < P := by omega
      have x4 : (i : Int) / 8 < (P : Int) := by omega
      have x0 : (0 : Int) ≤ (i : Int) := by omega
      have k1 : i ≤ 1600 := by omega
      have HD := Lib.hid (And.intro hDi hl)
      obtain ⟨Z, hlen, hv, K, B⟩ := HI.out
      have d1 := Z.cell (i := i / 8) (by omega)
      have d2 := Z.free (i / 8)
      have hs := Z.set (i / 8) (nth8 Yi (i / 8) &&& ~~~BitVec.twoPow 8 (i % 8))
      have o4 := Only.setCell wr ⟨g, i / 8, none⟩ (.int .u8 (Bits32.b (nth8 Yi (i / 8) &&& ~~~BitVec.twoPow 8 (i % 8))))
      have hc := val_clear Yi i (by omega)
      have HI2 : Hid (Blk8 (wr.setCell ⟨g, i / 8, none⟩ (.int .u8 (Bits32.b (nth8 Yi (i / 8) &&& ~~~BitVec.twoPow 8 (i % 8))))) g (Yi.set (i / 8) (nth8 Yi (i / 8) &&& ~~~BitVec.twoPow 8 (i % 8))) ∧ (Yi.set (i / 8) (nth8 Yi (i / 8) &&& ~~~BitVec.twoPow 8 (i % 8))).length = P ∧ (∀ j, (val (Yi.set (i / 8) (nth8 Yi (i / 8) &&& ~~~BitVec.twoPow 8 (i % 8)))).testBit j = ((val Y).testBit j && (decide (j < D) || decide (i + 1 ≤ j)))) ∧ (wr.setCell ⟨g, i / 8, none⟩ (.int .u8 (Bits32.b (nth8 Yi (i / 8) &&& ~~~BitVec.twoPow 8 (i % 8))))).heap[bz]? = some (cdO (.int .i64 (m : Int)) (.int .i64 (t : Int)) (.int .i64 (n : Int)) (.slice ga gn gc) (.int .i64 (D : Int))) ∧ Below w.heap.size w (wr.setCell ⟨g, i / 8, none⟩ (.int .u8 (Bits32.b (nth8 Yi (i / 8) &&& ~~~BitVec.twoPow 8 (i % 8)))))) :=
        ⟨hs, by rw [List.length_set]; exact hlen, fun j => by
          rw [hc j, hv j, Bool.and_assoc]
          congr 1
          by_cases h1 : j < D
          · have : j ≠ i := by omega
            simp [h1, this]
          · by_cases h2 : i + 1 ≤ j
            · have h3 : i ≤ j := by omega
              have h4 : j ≠ i := by omega
              simp [h2, h3, h4]
            · by_cases h5 : j = i
              · subst h5; simp [h1]
              · have h6 : ¬ i ≤ j := by omega
                simp [h1, h2, h6], (o4.block bz (show bz ≠ g by omega)).trans K, B.trans (o4.below (B := w.heap.size) hg)⟩
      clear Z hlen hv K B hs o4 hc HI hl hDi x3
      go_wp2_with fail
      generalize wr.setCell ⟨g, i / 8, none⟩ (.int .u8 (Bits32.b (nth8 Yi (i / 8) &&& ~~~BitVec.twoPow 8 (i % 8)))) = w9 at HI2 ⊢
      go_roundg (8 * P - (i + 1))
      case measure => have := HG.out; have := HD.out; omega
      case rel => exact ⟨i + 1, _, rfl, Nat.le_succ_of_le HD.out.1, HD.out.2, by go_num, HI2⟩
    · obtain rfl : i = 8 * P := by omega
      have x1 : ¬ ((8 * P : Nat) : Int) < 8 * (P : Int) := by omega
      have x2 : decide (((8 * P : Nat) : Int) < 8 * (P : Int)) = false := decide_eq_false x1
      obtain ⟨Z, hlen, hv, K, B⟩ := HI.out
      have HE : Hid (val Yi = val Y % 2 ^ D) := by
        apply Nat.eq_of_testBit_eq
        intro j
        rw [hv j, Nat.testBit_mod_two_pow]
        by_cases h1 : j < D
        · simp [h1]
        · by_cases h2 : 8 * P ≤ j
          · have h3 : (val Y).testBit j = false := Nat.testBit_lt_two_pow (Nat.lt_of_lt_of_le (val_lt Y) (Nat.pow_le_pow_right (by decide) (by rw [← hYl.out]; exact h2)))
            simp [h1, h3]
          · simp [h1, h2]
      have HE2 := Lib.hid (And.intro Z (And.intro hlen B))
      clear Z hlen hv K B HI
      go_wp2_with fail
      go_ret
      exact ⟨g, rfl, Yi, HE2.out.1, HE2.out.2.1, HE.out, hg, HE2.out.2.2⟩
end
end Go.Proofs.YtdhcigiaidlmbaaGreatDoor.Dec
/- Pages: what lies on them. By the verifier of shale. -/
namespace Go.Proofs.YtdhcigiaidlmbaaGreatDoor.Pg
open Go Go.RowKit Bin Pl Cos Enc Syn Loc Sea Dec
set_option linter.unusedVariables false
/-- the data of a page: the sector, mixed, and its record. -/
def pgD (sd : BitVec 16) (M : Meta.M6) (d : List (BitVec 8)) : List (BitVec 8) := Scr.mixL sd d ++ Meta.rec32 M d
theorem pgD_length (sd : BitVec 16) (M : Meta.M6) (d : List (BitVec 8)) : (pgD sd M d).length = d.length + 32 := by
  unfold pgD
  rw [List.length_append, Scr.mixL_length, Meta.rec32_length]
/-- bits D and above of bytes set. -/
def fillV (D Q : Nat) : Nat := Q ||| ((2 ^ (8 * pb D - D) - 1) <<< D)
theorem pb_le (D : Nat) : D ≤ 8 * pb D := by unfold pb; omega
theorem fillV_bit {D Q : Nat} (h : Q < 2 ^ D) (i : Nat) : (fillV D Q).testBit i = if i < D then Q.testBit i else decide (i < 8 * pb D) := by
  unfold fillV
  have hp := pb_le D
  rw [Nat.testBit_or, Nat.testBit_shiftLeft, Nat.testBit_two_pow_sub_one]
  by_cases hi : i < D
  · rw [if_pos hi, decide_eq_false (by omega : ¬ i ≥ D), Bool.false_and, Bool.or_false]
  · rw [if_neg hi, Nat.testBit_lt_two_pow (Nat.lt_of_lt_of_le h (Nat.pow_le_pow_right (by decide) (by omega))), Bool.false_or, decide_eq_true (by omega : i ≥ D), Bool.true_and, Bool.eq_iff_iff]
    simp
    omega
theorem fillV_lt {D Q : Nat} (h : Q < 2 ^ D) : fillV D Q < 2 ^ (8 * pb D) := by
  refine Nat.lt_pow_two_of_testBit _ fun i hi => ?_
  have hp := pb_le D
  rw [fillV_bit h, if_neg (by omega), decide_eq_false (by omega)]
theorem fillV_mod {D Q : Nat} (h : Q < 2 ^ D) : fillV D Q % 2 ^ D = Q := by
  apply Nat.eq_of_testBit_eq
  intro i
  rw [Nat.testBit_mod_two_pow, fillV_bit h]
  by_cases hi : i < D
  · rw [if_pos hi, decide_eq_true hi, Bool.true_and]
  · rw [decide_eq_false hi, Bool.false_and, Nat.testBit_lt_two_pow (Nat.lt_of_lt_of_le h (Nat.pow_le_pow_right (by decide) (by omega)))]
/-- the bits ov and above of a byte. -/
def fb (ov : Nat) : BitVec 8 := BitVec.ofNat 8 (255 * 2 ^ ov)
theorem fb_bit : ∀ (ov j : Fin 8), (fb ov.val).getLsbD j.val = decide (ov.val ≤ j.val) := by decide
theorem b_fb (ov : Nat) : Bits32.b (fb ov) = 255 * (2 : Int) ^ ov % 256 := by
  unfold Bits32.b fb
  rw [BitVec.toNat_ofNat, Int.natCast_emod, Int.natCast_mul, Int.natCast_pow]
  rfl
theorem or_fb (x : BitVec 8) (ov : Nat) : bits .or .u8 (Bits32.b x) (255 * (2 : Int) ^ ov % 256) = Bits32.b (x ||| fb ov) := by rw [← b_fb, Dec.bor8]
theorem val_fill {Y : List (BitVec 8)} {D ov : Nat} (hl : Y.length = pb D) (ho : D % 8 = ov) (h0 : 0 < ov) (hY : val Y < 2 ^ D) : Y.set (pb D - 1) (nth8 Y (pb D - 1) ||| fb ov) = byN (fillV D (val Y)) (pb D) := by
  have hpd : pb D = (D + 7) / 8 := rfl
  refine len_inj (by rw [List.length_set, byN_length, hl]) ?_
  rw [val_byN (fillV_lt hY)]
  apply Nat.eq_of_testBit_eq
  intro i
  rw [fillV_bit hY, val_bit, val_bit]
  have hov : ov < 8 := by omega
  unfold nth8
  rw [List.getD_eq_getElem?_getD, List.getElem?_set]
  by_cases h1 : pb D - 1 = i / 8
  · rw [if_pos h1, if_pos (by omega)]
    simp only [Option.getD_some]
    rw [BitVec.getLsbD_or]
    have e := fb_bit ⟨ov, hov⟩ ⟨i % 8, by omega⟩
    simp only at e
    rw [e]
    by_cases h2 : i < D
    · rw [if_pos h2, decide_eq_false (by omega), Bool.or_false, h1]
    · rw [if_neg h2, decide_eq_true (by omega), Bool.or_true, decide_eq_true (by omega)]
  · rw [if_neg h1]
    by_cases h2 : i < D
    · rw [if_pos h2, List.getD_eq_getElem?_getD]
    · rw [if_neg h2, List.getElem?_eq_none (by omega), decide_eq_false (by omega)]
      simp
theorem val_fill0 {Y : List (BitVec 8)} {D : Nat} (hl : Y.length = pb D) (ho : D % 8 = 0) (hY : val Y < 2 ^ D) : Y = byN (fillV D (val Y)) (pb D) := by
  have hpd : pb D = (D + 7) / 8 := rfl
  have e : fillV D (val Y) = val Y := by
    unfold fillV
    rw [show 8 * pb D - D = 0 by omega]
    simp
  rw [e]
  exact len_inj (by rw [byN_length, hl]) (by rw [val_byN]; exact Nat.lt_of_lt_of_le hY (Nat.pow_le_pow_right (by decide) (pb_le D)))
section
variable {m : Nat} [M : Pl.Mid m]
/-- the parity of a page: its bits above the degree are 1. -/
def pgP (m t : Nat) [M : Pl.Mid m] (b : List (BitVec 8)) : List (BitVec 8) := byN (fillV (deg m t) (par m t (val b))) (pb (deg m t))
theorem pgP_length (t : Nat) (b : List (BitVec 8)) : (pgP m t b).length = pb (deg m t) := byN_length _ _
theorem pgP_val (t : Nat) (b : List (BitVec 8)) : val (pgP m t b) % 2 ^ deg m t = par m t (val b) := by
  unfold pgP
  rw [val_byN (fillV_lt (par_lt t _)), fillV_mod (par_lt t _)]
/-- a page. -/
def page (m t : Nat) [M : Pl.Mid m] (sd : BitVec 16) (K : Meta.M6) (d : List (BitVec 8)) : List (BitVec 8) := pgD sd K d ++ pgP m t (pgD sd K d)
theorem page_length (t : Nat) (sd : BitVec 16) (K : Meta.M6) (d : List (BitVec 8)) : (page m t sd K d).length = d.length + 32 + pb (deg m t) := by
  unfold page
  rw [List.length_append, pgD_length, pgP_length]
end
end Go.Proofs.YtdhcigiaidlmbaaGreatDoor.Pg
