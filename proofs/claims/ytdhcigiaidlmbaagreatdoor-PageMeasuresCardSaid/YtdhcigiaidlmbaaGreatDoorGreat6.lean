/- Texts of the verifier of shale, laid into one: RefMul, RefDiv, RefGcd, RefXp, RefMin, RefMin2, MinFirst, RefGen, RefEnc, RefSer, SynMath, DecMath, SynSum, SynOps, SynOf, EncMade, EncMade2, SynMade, EncFirst, EncLaw, EncTurn, DecSteps, DecTurn, DecTidy, Decode, DecNewD, EncBad, GeoWithin, GeoNew, PgRsec, GeoVal, RefClear, PgLay, PgMake, PgVal, PgMade, DecDist, PgZeros, PgOpen, PgOpenE, PgFirst, PgLaw, PgSize. -/
import Derived.Test.YtdhcigiaidlmbaaGreatDoorGreat1
import Derived.Test.YtdhcigiaidlmbaaGreatDoorGreat2
import Derived.Test.YtdhcigiaidlmbaaGreatDoorGreat3
import Derived.Test.YtdhcigiaidlmbaaGreatDoorGreat4
import Derived.Test.YtdhcigiaidlmbaaGreatDoorGreat5
import Derived.StillTailTactics
import Derived.Lib.QuietBelow
import Derived.Laws.CopyOwn
import Derived.Deep.RegionLaw
import Derived.Deep.RegionWith
import Derived.Deep.Cut
import Derived.LoopN
import Derived.BigQuiet
import Derived.Deep.QuietTactic
/- shaleref2.BinMul. By the verifier of shale. -/
namespace Go.Proofs.YtdhcigiaidlmbaaGreatDoor.Bin
open Go Go.RowKit
set_option linter.unusedVariables false
theorem degZ_cast {v : Nat} (h : v ≠ 0) : ∃ d : Nat, degZ v = (d : Int) ∧ Deg v d := ⟨v.log2, degZ_ne h, deg_of h⟩
/-- a bit of the second one added, i places up. -/
theorem mul_step (V v N i k : Nat) : (bitL (V ^^^ (v % 2 ^ k) <<< i) N).set (i + k) (bz ((V ^^^ (v % 2 ^ k) <<< i).testBit (i + k) ^^ v.testBit k)) = bitL (V ^^^ (v % 2 ^ (k + 1)) <<< i) N := by
  rw [bitL_set, mod_succ v k, shl_xor, Nat.xor_assoc]
  congr 3
  cases v.testBit k
  · simp
  · simp [Nat.shiftLeft_eq, ← Nat.pow_add, Nat.add_comm]
set_option maxRecDepth 100000 in
set_option maxHeartbeats 4000000 in
theorem rmulV {w : World} {k k' : Nat} {a a' : Option Addr} {n c n' c' u v : Nat} (K : Nat) (h1 : PolV w k a n c u) (h2 : PolV w k' a' n' c' v) (hk : k ≤ 200) (hk' : k' ≤ 200) (hK : k + k' ≤ K) :
    Calls Tryz.prog 92 #[.slice a n c, .slice a' n' c'] w fun e w' => ∃ a n c, e = .returned (.slice a n c) ∧ NewV w w' K a n c (pm u v) ∧ Below w.heap.size w w' := by
  have HK := Lib.hid (Nat.lt_of_lt_of_le (room_pm h1.lt h2.lt) (room_mono hK))
  obtain ⟨X, p1, rfl, n1⟩ := h1
  obtain ⟨Y, p2, rfl, n2⟩ := h2
  have HP1 := Lib.hid p1
  have HP2 := Lib.hid p2
  have hl1 := p1.hlen
  have hl2 := p2.hlen
  clear p1 p2
  by_cases z1 : val X = 0
  · have hd : degZ (val X) = -1 := by rw [z1]; rfl
    have HF : Hid (NewV w w K none 0 0 (pm (val X) (val Y))) := by
      show NewV _ _ _ _ _ _ _
      rw [z1, zero_pm]; exact newV_nil w K
    clear z1 hl1 hl2
    go_enter Tryz.func92, Tryz.ntmps92
    go_wp2_with fail
    refine (rdeg_any a n c X w HP1.out (by omega)).mono ?_
    rintro e w1 ⟨rfl, rfl⟩
    rw [hd]
    clear hd
    go_wp2_with fail
    refine (rdeg_any a' n' c' Y w HP2.out (by omega)).mono ?_
    rintro e w1 ⟨rfl, rfl⟩
    go_wp2_with fail
    go_ret
    exact ⟨none, 0, 0, rfl, HF.out, Below.refl _ _⟩
  · obtain ⟨d, hd, HD'⟩ := degZ_cast z1
    have HD := Lib.hid HD'
    have t1 : decide ((d : Int) < 0) = false := decide_eq_false (by omega)
    have bd : d ≤ 1600 := by have := deg_len z1; rw [HD'.log2] at this; omega
    clear HD'
    by_cases z2 : val Y = 0
    · have hd2 : degZ (val Y) = -1 := by rw [z2]; rfl
      have HF : Hid (NewV w w K none 0 0 (pm (val X) (val Y))) := by
        show NewV _ _ _ _ _ _ _
        rw [z2, pm_zero]; exact newV_nil w K
      clear z1 z2 hl1 hl2
      go_enter Tryz.func92, Tryz.ntmps92
      go_wp2_with fail
      refine (rdeg_any a n c X w HP1.out (by omega)).mono ?_
      rintro e w1 ⟨rfl, rfl⟩
      rw [hd]
      clear hd
      go_wp2_with fail
      refine (rdeg_any a' n' c' Y w HP2.out (by omega)).mono ?_
      rintro e w1 ⟨rfl, rfl⟩
      rw [hd2]
      clear hd2
      go_wp2_with fail
      go_ret
      exact ⟨none, 0, 0, rfl, HF.out, Below.refl _ _⟩
    · obtain ⟨d2, hd2, HD2'⟩ := degZ_cast z2
      have HD2 := Lib.hid HD2'
      have t2 : decide ((d2 : Int) < 0) = false := decide_eq_false (by omega)
      have bd2 : d2 ≤ 1600 := by have := deg_len z2; rw [HD2'.log2] at this; omega
      have HT : Hid (pm (val X) (val Y) < 2 ^ (d + d2 + 1)) := (deg_pm HD.out _ _ HD2').2
      obtain ⟨N, hN⟩ : ∃ N, N = d + d2 + 1 := ⟨_, rfl⟩
      have eN : (d : Int) + (d2 : Int) + 1 = (N : Int) := by omega
      rw [← hN] at HT
      have HN := Lib.hid hN
      have bN : N ≤ 4000 := by omega
      have hmk := made64 w N (by omega)
      rw [bitL_zero] at hmk
      have HB0 : Hid (Below w.heap.size w (w.alloc (obj64 (bitL 0 N)))) := (Below.refl _ _).alloc (Nat.le_refl _) _
      have HK0 : Hid (Blk64 (w.alloc (obj64 (bitL 0 N))) w.heap.size (bitL 0 N)) := Blk64.new w _
      clear z1 z2 hl1 hl2 HD2' hN
      go_enter Tryz.func92, Tryz.ntmps92
      go_wp2_with fail
      refine (rdeg_any a n c X w HP1.out (by omega)).mono ?_
      rintro e w1 ⟨rfl, rfl⟩
      rw [hd]
      clear hd
      go_wp2_with fail
      refine (rdeg_any a' n' c' Y w HP2.out (by omega)).mono ?_
      rintro e w1 ⟨rfl, rfl⟩
      rw [hd2]
      clear hd2
      go_wp2_with fail
      go_loopg [8, 9] (d + 1) (fun gh s8 s9 wx => ∃ (i : Nat), gh = d + 1 - i ∧ i ≤ d + 1 ∧ s8 = .int .i64 (i : Int) ∧ Blk64 wx w.heap.size (bitL (pm (val Y) (val X % 2 ^ i)) N) ∧ Below w.heap.size w wx)
      case atStart => exact ⟨0, rfl, by omega, rfl, by rw [Nat.pow_zero, Nat.mod_one, pm_zero]; exact HK0.out, HB0.out⟩
      case round =>
        clear hmk eN t1 t2
        obtain ⟨i, hg, hin, rfl, hk, hB⟩ := hrel
        have HG := Lib.hid hg
        clear hg
        by_cases hlt : i < d + 1
        · have x1 : decide ((i : Int) ≤ (d : Int)) = true := decide_eq_true (by omega)
          have x0 : (0 : Int) ≤ (i : Int) := by omega
          have HPX := Lib.hid (HP1.out.below hB)
          have HBX := Lib.hid (bitZ_bz X i)
          have HM := Lib.hid (mod_succ (val X) i)
          go_wp2_with fail
          refine (rbit_any a n c X (i : Int) wr HPX.out (by omega)).mono ?_
          rintro e w1 ⟨rfl, rfl⟩
          rw [HBX.out]
          rcases Bool.eq_false_or_eq_true ((val X).testBit i) with hb | hb
          · have HE : Hid (pm (val Y) (val X % 2 ^ (i + 1)) = pm (val Y) (val X % 2 ^ i) ^^^ (val Y % 2 ^ (d2 + 1)) <<< i) := by
              show _ = _
              rw [HM.out, hb, if_pos rfl, pm_xor_right, pm_pow, Nat.mod_eq_of_lt HD2.out.2]
            rw [hb]
            rw [show bz true = 1 from rfl]
            clear hb HM
            go_wp2_with fail
            obtain ⟨V, hV⟩ : ∃ V, V = pm (val Y) (val X % 2 ^ i) := ⟨_, rfl⟩
            rw [← hV] at hk HE
            have HVV := Lib.hid hV
            clear hV
            go_loopg [9] (d2 + 1) (fun gh s9 wx => ∃ (k : Nat), gh = d2 + 1 - k ∧ k ≤ d2 + 1 ∧ s9 = .int .i64 (k : Int) ∧ Blk64 wx w.heap.size (bitL (V ^^^ (val Y % 2 ^ k) <<< i) N) ∧ Below w.heap.size w wx)
            case atStart => exact ⟨0, rfl, by omega, rfl, by rw [Nat.pow_zero, Nat.mod_one, shl_zero, Nat.xor_zero]; exact hk, hB⟩
            case round =>
              clear hk hB HPX
              obtain ⟨k, hg, hkn, rfl, hk, hB⟩ := hrel
              have HG2 := Lib.hid hg
              clear hg
              by_cases hlt2 : k < d2 + 1
              · have y1 : decide ((k : Int) ≤ (d2 : Int)) = true := decide_eq_true (by omega)
                have y0 : (0 : Int) ≤ (k : Int) := by omega
                have hikN : i + k < N := by have := HN.out; omega
                have hk : Blk64 wr.drew w.heap.size (bitL (V ^^^ (val Y % 2 ^ k) <<< i) N) := hk
                have hB : Below w.heap.size w wr.drew := Below.drew hB
                go_wp2_with fail
                refine wp_region_still_tail 15 (by kernel_rfl) (by kernel_rfl) ?_
                simp only [List.take_succ_cons, List.take_zero, List.drop_succ_cons, List.drop_zero]
                change wpStill _ _ wr.drew (fun a' => wpList _ _ _ _ a' wr.drew) _ _
                generalize wr.drew = w2 at hk hB ⊢
                have c1 := hk.cell (i := i + k) (by rw [bitL_length]; exact hikN)
                rw [nth_bitL _ _ _ hikN] at c1
                have c2 := hk.free (i + k)
                have ex := bz_xor ((V ^^^ (val Y % 2 ^ k) <<< i).testBit (i + k)) ((val Y).testBit k)
                have HS := Lib.hid (Blk64.lay hk (mul_step V (val Y) N i k))
                have HSB : Hid (Below w.heap.size w (w2.setCell ⟨w.heap.size, i + k, none⟩ (.int .i64 (bz ((V ^^^ (val Y % 2 ^ k) <<< i).testBit (i + k) ^^ (val Y).testBit k))))) := hB.setCell (p := ⟨w.heap.size, i + k, none⟩) (Nat.le_refl _) _
                have HPY := Lib.hid (HP2.out.below hB)
                have HBY := Lib.hid (bitZ_bz Y k)
                have i4 : (i : Int) + (k : Int) < (N : Int) := by omega
                have i5 : (0 : Int) ≤ (i : Int) + (k : Int) := by omega
                have i2 : ((i : Int) + (k : Int)).toNat = i + k := by omega
                have i1 : IntKind.i64.wrap ((i : Int) + (k : Int)) = (i : Int) + (k : Int) := IntWalk.i64_in _ (by omega)
                generalize bz ((V ^^^ (val Y % 2 ^ k) <<< i).testBit (i + k) ^^ (val Y).testBit k) = b3 at ex HS HSB
                generalize bz ((V ^^^ (val Y % 2 ^ k) <<< i).testBit (i + k)) = b1 at c1 ex
                clear hk hB hlt hlt2
                repeat still_step
                still_call ((rbit_any a' n' c' Y (k : Int) w2 HPY.out (by omega)).mono fun _ _ h => ⟨h.1, h.2.symm⟩)
                rw [HBY.out]
                generalize bz ((val Y).testBit k) = b2 at ex ⊢
                repeat still_step
                refine wpStill_nil ?_
                go_wp2_with fail
                go_roundg (d2 + 1 - (k + 1))
                case measure => have := HG2.out; omega
                case rel => exact ⟨k + 1, rfl, by omega, by go_num, HS.out, HSB.out⟩
              · obtain rfl : k = d2 + 1 := by omega
                have y1 : decide (((d2 + 1 : Nat) : Int) ≤ (d2 : Int)) = false := decide_eq_false (by omega)
                rw [← HE.out] at hk
                go_wp2_with fail
                go_roundg (d + 1 - (i + 1))
                case measure => have := HG.out; omega
                case rel => exact ⟨i + 1, rfl, by omega, by go_num, hk, hB⟩
          · have HE : Hid (pm (val Y) (val X % 2 ^ (i + 1)) = pm (val Y) (val X % 2 ^ i)) := by
              show _ = _
              rw [HM.out, hb]; simp
            rw [hb]
            rw [show bz false = 0 from rfl]
            clear hb HM HPX
            go_wp2_with fail
            go_roundg (d + 1 - (i + 1))
            case measure => have := HG.out; omega
            case rel => exact ⟨i + 1, rfl, by omega, by go_num, by rw [HE.out]; exact hk, hB⟩
        · obtain rfl : i = d + 1 := by omega
          have x1 : decide (((d + 1 : Nat) : Int) ≤ (d : Int)) = false := decide_eq_false (by omega)
          have HE : Hid (pm (val Y) (val X % 2 ^ (d + 1)) = pm (val X) (val Y)) := by
            show _ = _
            rw [Nat.mod_eq_of_lt HD.out.2, pm_comm]
          rw [HE.out] at hk
          go_wp2_with fail
          refine (bits_any w.heap.size N N _ wr hk (by omega)).mono ?_
          rintro e w2 ⟨a3, n3, c3, Z, rfl, hZ, bZ, vZ, b2⟩
          have hF := newV (hZ.from hB.size) bZ (vZ.trans (by rw [Nat.mod_eq_of_lt HT.out])) K HK.out
          have hB2 := hB.trans (b2.mono hB.size)
          clear hZ bZ vZ b2 hB hk
          go_wp2_with fail
          go_ret
          exact ⟨a3, n3, c3, rfl, hF, hB2⟩
end Go.Proofs.YtdhcigiaidlmbaaGreatDoor.Bin
/- shaleref2.BinDivMod. By the verifier of shale. -/
namespace Go.Proofs.YtdhcigiaidlmbaaGreatDoor.Bin
open Go Go.RowKit
set_option linter.unusedVariables false
/-- where the division stands: what is left is below x^j. -/
structure Divs (u v e j Q L : Nat) : Prop where
  sum : u = pm Q v ^^^ L
  low : L < 2 ^ j
  free : ∀ t, t + e < j → Q.testBit t = false
theorem Divs.skip {u v e i Q L : Nat} (h : Divs u v e (i + 1) Q L) (hb : L.testBit i = false) : Divs u v e i Q L :=
  ⟨h.sum, lt_of_bit h.low hb, fun t ht => h.free t (by omega)⟩
end Go.Proofs.YtdhcigiaidlmbaaGreatDoor.Bin
/- shaleref2.BinGcd, Irreducible. By the verifier of shale. -/
namespace Go.Proofs.YtdhcigiaidlmbaaGreatDoor.Bin
open Go Go.RowKit
set_option linter.unusedVariables false
theorem NewV.fit {w0 w : World} {K k : Nat} {a : Option Addr} {n c v : Nat} (h : NewV w0 w K a n c v) (hv : v < room k) : NewV w0 w k a n c v := by
  obtain ⟨X, h1, h2, h3, h4⟩ := h
  exact newV h1 h2 h3 k hv
theorem NewV.since {w0 w w' : World} {K : Nat} {a : Option Addr} {n c v : Nat} (h : NewV w0 w K a n c v) (b : Below w.heap.size w w') : NewV w0 w' K a n c v := by
  obtain ⟨X, h1, h2, h3, h4⟩ := h
  exact ⟨X, h1.since b, h2, h3, h4⟩
theorem NewV.from {w0 w1 w : World} {K : Nat} {a : Option Addr} {n c v : Nat} (h : NewV w1 w K a n c v) (b : w0.heap.size ≤ w1.heap.size) : NewV w0 w K a n c v := by
  obtain ⟨X, h1, h2, h3, h4⟩ := h
  exact ⟨X, h1.from b, h2, h3, h4⟩
end Go.Proofs.YtdhcigiaidlmbaaGreatDoor.Bin
/- shaleref2.Of, Exponents. By the verifier of shale. -/
namespace Go.Proofs.YtdhcigiaidlmbaaGreatDoor.Bin
open Go Go.RowKit
set_option linter.unusedVariables false
/-- the greatest one. -/
def mostL : List Nat → Nat
  | [] => 0
  | e :: l => max e (mostL l)
theorem mostL_snoc (l : List Nat) (e : Nat) : mostL (l ++ [e]) = max (mostL l) e := by
  induction l with
  | nil => simp [mostL]
  | cons a l ih => simp only [List.cons_append, mostL, ih]; omega
theorem mostL_le {l : List Nat} {M : Nat} (h : ∀ e ∈ l, e ≤ M) : mostL l ≤ M := by
  induction l with
  | nil => exact Nat.zero_le _
  | cons a l ih =>
    have h1 := h a (List.mem_cons_self ..)
    have h2 := ih fun e he => h e (List.mem_cons_of_mem _ he)
    simp only [mostL]; omega
theorem le_mostL {l : List Nat} {i : Nat} (h : i < l.length) : l.getD i 0 ≤ mostL l := by
  induction l generalizing i with
  | nil => simp at h
  | cons a l ih =>
    cases i with
    | zero => simp only [mostL, List.getD_cons_zero]; omega
    | succ i =>
      have := ih (i := i) (by simpa using h)
      simp only [mostL, List.getD_cons_succ]; omega
theorem xp_most (l : List Nat) : ∀ M, mostL l ≤ M → xp l < 2 ^ (M + 1) := by
  induction l with
  | nil => intro M _; exact Nat.two_pow_pos _
  | cons a l ih =>
    intro M h
    simp only [mostL] at h
    exact Nat.xor_lt_two_pow (Nat.pow_lt_pow_right (by decide) (by omega)) (ih M (by omega))
theorem room_pow {v d : Nat} (k : Nat) (h : v < 2 ^ d) (hk : d ≤ 8 * k) : v < room k := Nat.lt_of_lt_of_le h (Nat.pow_le_pow_right (by decide) hk)
theorem bz_flip (b : Bool) : bits .xor .i64 (bz b) 1 = bz (b ^^ true) := by cases b <;> rfl
set_option maxRecDepth 100000 in
set_option maxHeartbeats 2000000 in
theorem rofV (a : Option Addr) (n cap : Nat) (es : List Nat) (w : World) (h : RowN w a n es) (hn : n ≤ 100000) (hes : ∀ e ∈ es, e ≤ 2048) :
    Calls Tryz.prog 139 #[.slice a n cap] w fun e w' => ∃ a n c, e = .returned (.slice a n c) ∧ NewV w w' 300 a n c (xp es) ∧ Below w.heap.size w w' := by
  have HR := Lib.hid h
  have hlen := h.hlen
  have HLN := Lib.hid hlen
  obtain ⟨M, hM⟩ : ∃ M, M = mostL es := ⟨_, rfl⟩
  have hM2 : M ≤ 2048 := by rw [hM]; exact mostL_le hes
  have HM := Lib.hid hM
  have HX : Hid (xp es < 2 ^ (M + 1)) := by rw [hM]; exact xp_most es _ (Nat.le_refl _)
  have hmk := made64 w (M + 1) (by omega)
  rw [bitL_zero] at hmk
  have eM : ((M + 1 : Nat) : Int) = (M : Int) + 1 := by omega
  rw [eM] at hmk
  have HB0 : Hid (Below w.heap.size w (w.alloc (obj64 (bitL 0 (M + 1))))) := (Below.refl _ _).alloc (Nat.le_refl _) _
  have HK0 : Hid (Blk64 (w.alloc (obj64 (bitL 0 (M + 1)))) w.heap.size (bitL 0 (M + 1))) := Blk64.new w _
  clear h hlen hM hes eM
  go_enter Tryz.func139, Tryz.ntmps139
  go_wp2_with fail
  go_loopg [3, 4] n (fun gh s3 s4 wx => ∃ (i m : Nat), gh = n - i ∧ i ≤ n ∧ s4 = .int .i64 (i : Int) ∧ s3 = .int .i64 (m : Int) ∧ m ≤ M ∧ Hid (m = mostL (es.take i)) ∧ w = wx)
  case atStart => exact ⟨0, 0, rfl, by omega, rfl, rfl, by omega, rfl, rfl⟩
  case round =>
    obtain ⟨i, m, hg, hin, rfl, rfl, hmM, HS, rfl⟩ := hrel
    have HG := Lib.hid hg
    clear hg
    by_cases hlt : i < n
    · have x1 : (i : Int) < (n : Int) := by omega
      have x0 : (0 : Int) ≤ (i : Int) := by omega
      obtain ⟨bb, off, rfl, c1, hb⟩ := HR.out.row i hlt
      have hie : i < es.length := by have := HLN.out; omega
      have HS2 : Hid (max m (es.getD i 0) = mostL (es.take (i + 1))) := by
        show _ = _
        rw [take_getD es i hie, mostL_snoc, HS.out]
      have hq2 : es.getD i 0 ≤ M := by rw [HM.out]; exact le_mostL hie
      generalize es.getD i 0 = q at c1 HS2 hq2
      obtain ⟨m2, hm2⟩ : ∃ m2, m2 = max m q := ⟨_, rfl⟩
      have e2 : max (m : Int) (q : Int) = (m2 : Int) := by omega
      rw [← hm2] at HS2
      have hm2M : m2 ≤ M := by omega
      clear hb hie HS hm2 hmk
      go_wp2_with fail
      go_roundg (n - (i + 1))
      case measure => have := HG.out; omega
      case rel => exact ⟨i + 1, m2, rfl, by omega, by go_num, rfl, hm2M, HS2.out, rfl⟩
    · obtain rfl : i = n := by omega
      obtain rfl : m = M := by rw [HS.out, HM.out, List.take_of_length_le (by have := HLN.out; omega)]
      clear HS
      go_wp2_with fail
      clear hmk
      go_loopg [6] i (fun gh s6 wx => ∃ (k : Nat), gh = i - k ∧ k ≤ i ∧ s6 = .int .i64 (k : Int) ∧ Blk64 wx w.heap.size (bitL (xp (es.take k)) (m + 1)) ∧ Below w.heap.size w wx)
      case atStart => exact ⟨0, rfl, by omega, rfl, HK0.out, HB0.out⟩
      case round =>
        clear HK0 HB0
        obtain ⟨k, hg, hki, rfl, hk, hB⟩ := hrel
        have HG2 := Lib.hid hg
        clear hg
        by_cases hlt2 : k < i
        · have x1 : (k : Int) < (i : Int) := by omega
          have x0 : (0 : Int) ≤ (k : Int) := by omega
          have hk : Blk64 wr.drew w.heap.size (bitL (xp (es.take k)) (m + 1)) := hk
          have hB : Below w.heap.size w wr.drew := Below.drew hB
          go_wp2_with fail
          refine wp_region_still_tail 14 (by kernel_rfl) (by kernel_rfl) ?_
          simp only [List.take_succ_cons, List.take_zero, List.drop_succ_cons, List.drop_zero]
          change wpStill _ _ wr.drew (fun a' => wpList _ _ _ _ a' wr.drew) _ _
          generalize wr.drew = w2 at hk hB ⊢
          obtain ⟨bb, off, rfl, c1, hb⟩ := (HR.out.below hB).row k hlt2
          have hie : k < es.length := by have := HLN.out; omega
          have hq2 : es.getD k 0 ≤ m := by rw [HM.out]; exact le_mostL hie
          have HT : Hid (xp (es.take (k + 1)) = xp (es.take k) ^^^ 2 ^ es.getD k 0) := by
            show _ = _
            rw [take_getD es k hie, xp_append]; simp [xp]
          generalize es.getD k 0 = q at c1 hq2 HT
          have v1 := hk.cell (i := q) (by rw [bitL_length]; omega)
          rw [nth_bitL _ _ _ (by omega)] at v1
          have v2 := hk.free q
          have ex := bz_flip ((xp (es.take k)).testBit q)
          have HS := Lib.hid (Blk64.lay hk (bitL_set (xp (es.take k)) (m + 1) q true))
          have HSB : Hid (Below w.heap.size w (w2.setCell ⟨w.heap.size, q, none⟩ (.int .i64 (bz ((xp (es.take k)).testBit q ^^ true))))) := hB.setCell (p := ⟨w.heap.size, q, none⟩) (Nat.le_refl _) _
          have i1 : (q : Int) < (m : Int) + 1 := by omega
          generalize bz ((xp (es.take k)).testBit q ^^ true) = b3 at ex HS HSB
          generalize bz ((xp (es.take k)).testBit q) = b1 at v1 ex
          have HS2 : Hid (Blk64 (w2.setCell ⟨w.heap.size, q, none⟩ (.int .i64 b3)) w.heap.size (bitL (xp (es.take (k + 1))) (m + 1))) := by
            have := HS.out
            rw [if_pos rfl, ← HT.out] at this
            exact this
          clear hk hB hb hie HS
          repeat still_step
          refine wpStill_nil ?_
          go_wp2_with fail
          go_roundg (i - (k + 1))
          case measure => have := HG2.out; omega
          case rel => exact ⟨k + 1, rfl, by omega, by go_num, HS2.out, HSB.out⟩
        · obtain rfl : k = i := by omega
          rw [List.take_of_length_le (by have := HLN.out; omega)] at hk
          go_wp2_with fail
          refine (bits_any w.heap.size (m + 1) (m + 1) _ wr hk (by omega)).mono ?_
          rintro e w3 ⟨a3, n3, c3, Z, rfl, hZ, bZ, vZ, b2⟩
          have hv : val Z = xp es := vZ.trans (Nat.mod_eq_of_lt HX.out)
          have hroom : xp es < room 300 := room_pow 300 HX.out (by omega)
          have hF := newV (hZ.from hB.size) bZ hv 300 hroom
          have hB2 := hB.trans (b2.mono hB.size)
          clear hZ bZ vZ b2 hB hk hv hroom
          go_wp2_with fail
          go_ret
          exact ⟨a3, n3, c3, rfl, hF, hB2⟩
end Go.Proofs.YtdhcigiaidlmbaaGreatDoor.Bin
/- The reference's FromRoots and Minimal. By the verifier of shale. -/
namespace Go.Proofs.YtdhcigiaidlmbaaGreatDoor.Cos
open Go Go.RowKit Pl
set_option linter.unusedVariables false
section
variable {m : Nat} [M : Mid m]
theorem sr_lin2 (z : Int) : sr m [z, 1] = lin (elm m z) := by
  funext i
  show elm m (([z, 1] : List Int).getD i 0) = if i = 0 then elm m z else if i = 1 then 1 else 0
  rcases i with _ | _ | i
  · rfl
  · rw [if_neg (by omega), if_pos rfl]; exact elm_zn (1 : El m)
  · rw [if_neg (by omega), if_neg (by omega)]; exact elm_zero
set_option maxRecDepth 100000 in
set_option maxHeartbeats 1000000 in
theorem rfrom_any (a : Option Addr) (n cap : Nat) (l : List Int) (w : World) (h : RowZ w a n cap l) (hn : n ≤ 20) :
    Calls Tryz.prog 138 #[.int .i64 (m : Int), .slice a n cap] w
      fun e w' => ∃ a' n' c', e = .returned (.slice a' n' c') ∧ NV m w' (n + 1) a' n' c' (pls l n) ∧ Below w.heap.size w w' := by
  go_enter Tryz.func138, Tryz.ntmps138
  go_wp2_with fail
  generalize hw : w.alloc (.cells #[.int .i64 1] 3 (0, 0)) = w2
  obtain ⟨hr, B⟩ := lit_row w w2 [1] 1 rfl (by decide) hw.symm
  clear hw
  replace h := h.below B
  have e0 : nums (pls (m := m) l 0) 1 = [1] := by
    show [zn (pls (m := m) l 0 0)] = [1]
    have e : pls (m := m) l 0 0 = 1 := by show (if (0 : Nat) = 0 then (1 : El m) else 0) = 1; rw [if_pos rfl]
    rw [e]; rfl
  have P : NV m w2 1 (some ⟨w.heap.size, 0, none⟩) 1 1 (pls l 0) := ⟨by rw [e0]; exact hr, pls_bd _ 0, top_dg' (pls_bd _ 0) (pls_dg _ 0), Nat.le_refl _⟩
  clear hr e0
  generalize (some ⟨w.heap.size, 0, none⟩ : Option Addr) = ap at P ⊢
  have HS : Hid (RowZ w2 a n cap l ∧ Below w.heap.size w w2) := ⟨h, B⟩
  have HP := Lib.hid P
  clear h B P
  go_loopg [5, 6] n (fun gh s5 s6 wx => ∃ (k : Nat) (ax : Option Addr) (nx cx : Nat), gh = n - k ∧ k ≤ n ∧ s6 = .int .i64 (k : Int) ∧ s5 = .slice ax nx cx ∧ Hid (NV m wx (k + 1) ax nx cx (pls l k)) ∧ Hid (RowZ wx a n cap l ∧ Below w.heap.size w wx))
  case atStart => exact ⟨0, ap, 1, 1, rfl, Nat.zero_le _, rfl, rfl, HP, HS⟩
  case round =>
    clear HP HS
    obtain ⟨k, ax, nx, cx, hg, hk, rfl, rfl, HP, HS⟩ := hrel
    have HG := Lib.hid hg
    clear hg
    by_cases hlt : k < n
    · have x1 : (k : Int) < (n : Int) := by omega
      have x0 : (0 : Int) ≤ (k : Int) := by omega
      obtain ⟨bb, off, rfl, d1, _⟩ := HS.out.1.row k hlt
      obtain ⟨z, hz⟩ : ∃ z, z = l.getD k 0 := ⟨_, rfl⟩
      rw [← hz] at d1
      have HZ := Lib.hid hz
      clear hz
      go_wp2_with fail
      generalize hw : wr.alloc (.cells #[.int .i64 z, .int .i64 1] 3 (0, 0)) = w4
      obtain ⟨hr, b⟩ := lit_row wr w4 [z, 1] 2 rfl (by decide) hw.symm
      clear hw d1
      have hnx := HP.out.le
      refine (rtimes_any (m := m) ax nx cx _ _ 2 2 [z, 1] w4 (HP.out.row.below b) hr (by omega) (by omega)).mono ?_
      rintro e w5 ⟨a5, n5, c5, rfl, h5, b5⟩
      rw [sr_nums HP.out.bd, sr_lin2] at h5
      have e : pls l (k + 1) = cv (pls l k) (lin (elm m z)) := by show cv _ (lin (elm m (l.getD k 0))) = _; rw [← HZ.out]
      have HP5 : Hid (NV m w5 (k + 1 + 1) a5 n5 c5 (pls l (k + 1))) := by
        rw [e]
        exact routV h5 (e ▸ pls_bd l (k + 1))
      have b45 := b.trans (b5.mono b.size)
      have HS5 : Hid (RowZ w5 (some ⟨bb, off, none⟩) n cap l ∧ Below w.heap.size w w5) := ⟨HS.out.1.below b45, HS.out.2.trans (b45.mono HS.out.2.size)⟩
      clear h5 b b5 b45 hr HS HP e
      go_wp2_with fail
      go_roundg (n - (k + 1))
      case measure => have := HG.out; omega
      case rel => exact ⟨k + 1, a5, n5, c5, rfl, by omega, by go_num, rfl, HP5, HS5⟩
    · obtain rfl : k = n := by omega
      go_wp2_with fail
      go_ret
      exact ⟨ax, nx, cx, rfl, HP.out, HS.out.2⟩
theorem xp_nb (p : Nat → Bool) : ∀ n, Bin.xp ((List.range n).filter p) = nb p n
  | 0 => rfl
  | n + 1 => by
    rw [range_filter_snoc, Bin.xp_append, xp_nb p n]
    simp only [nb]
    by_cases h : p n = true
    · rw [if_pos h, if_pos h]
      have h1 := nb_lt p n
      show nb p n ^^^ (2 ^ n ^^^ 0) = nb p n + 2 ^ n
      rw [Nat.xor_zero]
      apply Nat.eq_of_testBit_eq
      intro i
      rw [Nat.testBit_xor, Nat.testBit_two_pow]
      have h2 : (nb p n + 2 ^ n).testBit i = (nb p (n + 1)).testBit i := by simp only [nb]; rw [if_pos h]
      rw [h2, nb_bit, nb_bit]
      by_cases e : n = i
      · subst e; simp [h]
      · by_cases h3 : i < n
        · simp [h3, e, show i < n + 1 by omega]
        · simp [h3, e, show ¬ i < n + 1 by omega]
    · rw [if_neg h, if_neg h]
      show nb p n ^^^ 0 = nb p n + 0
      rw [Nat.xor_zero, Nat.add_zero]
end
end Go.Proofs.YtdhcigiaidlmbaaGreatDoor.Cos
/- The reference's Minimal. By the verifier of shale. -/
namespace Go.Proofs.YtdhcigiaidlmbaaGreatDoor.Cos
open Go Go.RowKit Bits16
set_option linter.unusedVariables false
section
variable {m : Nat} [M : Pl.Mid m]
theorem exl_snoc (l : List Nat) (j : Nat) : exl m (l ++ [j]) = exl m l ++ [Pl.zn (xe m j)] := by unfold exl; rw [List.map_append]; rfl
set_option maxRecDepth 100000 in
set_option maxHeartbeats 1000000 in
theorem rminimal_any (i : Int) (w : World) :
    Calls Tryz.prog 93 #[.int .i64 (m : Int), .int .i64 i] w
      fun e w' => ∃ a n c, e = .returned (.slice a n c) ∧ Bin.NewV w w' 300 a n c (mpv m (rs m i)) ∧ Below w.heap.size w w' := by
  obtain ⟨i0, hi, hz0, hz1, hz2⟩ := info64
  have hf := rs_lt M.lo i
  obtain ⟨f, hfe⟩ : ∃ f, f = rs m i := ⟨_, rfl⟩
  rw [← hfe] at hf ⊢
  have HFE := Lib.hid hfe
  have HF := Lib.hid hf
  have hlen := cos_len_le M.lo hf
  have hm14 := M.hi
  clear hfe hf
  go_enter Tryz.func93, Tryz.ntmps93
  go_wp2_with fail
  refine (rcoset_any m M.lo M.hi i w).mono ?_
  rintro e w1 ⟨a1, n1, c1, rfl, hO, B⟩
  rw [← HFE.out] at hO
  have hl := hO.len
  rw [ints_length] at hl
  obtain rfl : n1 = (cos m f).length := hl.symm
  have Rc := (Pl.own_rowz hO).1
  clear hO hl
  obtain ⟨L, hL⟩ : ∃ L, L = (cos m f).length := ⟨_, rfl⟩
  rw [← hL] at Rc hlen ⊢
  have HL := Lib.hid hL
  clear hL
  go_wp2_with fail
  go_loopg [6, 7] L (fun gh s6 s7 wx => ∃ (k : Nat), gh = L - k ∧ k ≤ L ∧ s7 = .int .i64 (k : Int) ∧ Own64 wx w1.heap.size s6 k (exl m ((cos m f).take k)) ∧ Below w1.heap.size w1 wx)
  case atStart => exact ⟨0, rfl, Nat.zero_le _, rfl, Own64.nil _ _, Below.refl _ _⟩
  case round =>
    obtain ⟨k, hg, hk, rfl, hO, hB⟩ := hrel
    have HG := Lib.hid hg
    clear hg
    obtain ⟨av, cv, rfl⟩ := own_slice hO
    have hbs := hB.size
    by_cases hlt : k < L
    · have x1 : (k : Int) < (L : Int) := by omega
      have x0 : (0 : Int) ≤ (k : Int) := by omega
      have hkc : k < (cos m f).length := by rw [← HL.out]; exact hlt
      obtain ⟨bb, off, rfl, d1, _⟩ := (Rc.below hB).row k hlt
      obtain ⟨j, hj⟩ : ∃ j, j = (cos m f).getD k 0 := ⟨_, rfl⟩
      have ej : (ints (cos m f)).getD k 0 = (j : Int) := by
        rw [hj]
        unfold ints
        rw [List.getD_eq_getElem?_getD, List.getElem?_map, List.getD_eq_getElem?_getD, List.getElem?_eq_getElem hkc]; rfl
      rw [ej] at d1
      have HFx : Hid (exl m ((cos m f).take (k + 1)) = exl m ((cos m f).take k) ++ [Pl.zn (xe m j)]) := by
        show _ = _
        rw [take_snocN _ k hkc, exl_snoc, ← hj]
      have HO := Lib.hid hO
      have HB := Lib.hid hB
      clear hj ej hkc hO hB
      go_wp2_with fail
      refine (Fld.rexp_any m M.lo M.hi (j : Int) wr).mono ?_
      rintro e w5 ⟨rfl, b5⟩
      rw [show Bits16.h (Fld.pwZ m (j : Int)) = Pl.zn (xe m j) from rfl]
      have ho5 : Own64 w5 w1.heap.size (.slice av k cv) k (exl m ((cos m f).take k)) := HO.out.keep fun g hg => b5.block g (HO.out.block g hg).2
      have hB5 := HB.out.trans (b5.mono hbs)
      have hbs5 := hB5.size
      generalize Pl.zn (xe m j) = z at HFx ⊢
      clear b5 d1
      go_wp2_with (at_builtin; refine wpList_append_own _ rfl _ _ 65 rfl w1.heap.size 3 i0 (.int .i64 0) 1 8 Tryz.underlying65 hi hz0 hz1 hz2 rfl (by decide) _ k _ rfl (World.ownsRow.alloc ho5 _) ⟨w5.heap.size, 0, none⟩ 1 1 [.int .i64 z] rfl rfl (cell_one_new _ _ _) (ints_oneCell .i64 [_]) (by unfold maxLen; omega) (by omega) (by simp; omega) ?_; intro v7 w7 hown7 hgrow _)
      have ho7 : Own64 w7 w1.heap.size v7 (k + 1) (exl m ((cos m f).take (k + 1))) := by
        unfold Own64
        rw [HFx.out, ← cells64_append]
        exact hown7
      have b7 : Below w1.heap.size w1 w7 := (hB5.alloc hbs5 _).grown hgrow (by simp; omega) (fun g hg => (ho5.block g hg).1)
      clear hown7 hgrow ho5 hB5 HO HB
      go_wp2_with fail
      go_roundg (L - (k + 1))
      case measure => have := HG.out; omega
      case rel => exact ⟨k + 1, rfl, by omega, by go_num, ho7, b7⟩
    · obtain rfl : k = L := by omega
      rw [List.take_of_length_le (by rw [← HL.out]; exact Nat.le_refl _)] at hO
      have Rr := (Pl.own_rowz hO).1
      have B2 := B.trans (hB.mono B.size)
      clear hO hB B Rc hlt
      go_wp2_with fail
      refine (rfrom_any (m := m) av k cv _ wr Rr (by omega)).mono ?_
      rintro e w5 ⟨ap, np, cp, rfl, P, b5⟩
      have hPS : Pl.pls (exl m (cos m f)) k = mpS m f := by rw [HL.out]; rfl
      rw [hPS] at P
      have hnp : np = k + 1 := by
        rw [← P.top, HL.out, Pl.top_same P.bd (mpS_dg f).2]
        exact Pl.top_dg (mpS_dg f)
      subst hnp
      have RP := P.row
      replace B2 := B2.trans (b5.mono B2.size)
      clear P b5 Rr hPS
      obtain ⟨W5, rfl⟩ : ∃ W5, W5 = w5 := ⟨_, rfl⟩
      go_wp2_with fail
      go_loopg [9, 10] (k + 1) (fun gh s9 s10 wx => ∃ (j n2 : Nat), gh = k + 1 - j ∧ j ≤ k + 1 ∧ n2 ≤ j ∧ s10 = .int .i64 (j : Int) ∧ Own64 wx W5.heap.size s9 n2 (ints ((List.range j).filter (mpb m f))) ∧ Below W5.heap.size W5 wx)
      case atStart => exact ⟨0, 0, rfl, Nat.zero_le _, Nat.le_refl _, rfl, Own64.nil _ _, Below.refl _ _⟩
      case round =>
        obtain ⟨j, n2, hg, hj, hnj, rfl, hO, hB⟩ := hrel
        have HG2 := Lib.hid hg
        clear hg
        obtain ⟨av2, cv2, rfl⟩ := own_slice hO
        have hbs2 := hB.size
        by_cases hlt2 : j < k + 1
        · have y1 : (j : Int) < (k : Int) + 1 := by omega
          have y2 : (j : Int) < ((k + 1 : Nat) : Int) := by omega
          have y0 : (0 : Int) ≤ (j : Int) := by omega
          obtain ⟨bb, off, rfl, d1, _⟩ := (RP.below hB).row j hlt2
          rw [Pl.nums_at _ _ _ hlt2, mp_num HF.out] at d1
          have HR := Lib.hid (range_filter_snoc (mpb m f) j)
          by_cases hc : mpb m f j = true
          · rw [if_pos hc] at d1
            have HF2 : Hid (ints ((List.range (j + 1)).filter (mpb m f)) = ints ((List.range j).filter (mpb m f)) ++ [(j : Int)]) := by
              show _ = _
              rw [HR.out, if_pos hc, ints_snoc]
            clear HR hc
            go_wp2_with (at_builtin; refine wpList_append_own _ rfl _ _ 65 rfl W5.heap.size 3 i0 (.int .i64 0) 1 8 Tryz.underlying65 hi hz0 hz1 hz2 rfl (by decide) _ n2 _ rfl (World.ownsRow.alloc hO _) ⟨wr.heap.size, 0, none⟩ 1 1 [.int .i64 (j : Int)] rfl rfl (cell_one_new _ _ _) (ints_oneCell .i64 [_]) (by unfold maxLen; omega) (by omega) (by simp; omega) ?_; intro v7 w7 hown7 hgrow _)
            have ho7 : Own64 w7 W5.heap.size v7 (n2 + 1) (ints ((List.range (j + 1)).filter (mpb m f))) := by
              unfold Own64
              rw [HF2.out, ← cells64_append]
              exact hown7
            have b7 : Below W5.heap.size W5 w7 := (hB.alloc hbs2 _).grown hgrow (by simp; omega) (fun g hg => (hO.block g hg).1)
            clear hown7 hgrow hO hB
            go_wp2_with fail
            go_roundg (k + 1 - (j + 1))
            case measure => have := HG2.out; omega
            case rel => exact ⟨j + 1, n2 + 1, rfl, by omega, by omega, by go_num, ho7, b7⟩
          · rw [if_neg hc] at d1
            have HO2 : Hid (Own64 wr W5.heap.size (.slice av2 n2 cv2) n2 (ints ((List.range (j + 1)).filter (mpb m f)))) := by
              show Own64 _ _ _ _ _
              rw [HR.out, if_neg hc, List.append_nil]; exact hO
            clear HR hc hO
            go_wp2_with fail
            go_roundg (k + 1 - (j + 1))
            case measure => have := HG2.out; omega
            case rel => exact ⟨j + 1, n2, rfl, by omega, by omega, by go_num, HO2.out, hB⟩
        · obtain rfl : j = k + 1 := by omega
          obtain ⟨a9, c9, e9, hN⟩ := Bin.own_row (es := (List.range (k + 1)).filter (mpb m f)) hO
          simp only [Value.slice.injEq] at e9
          obtain ⟨rfl, _, rfl⟩ := e9
          have B3 := B2.trans (hB.mono B2.size)
          have HXP : Hid (Bin.xp ((List.range (k + 1)).filter (mpb m f)) = mpv m f) := by show _ = _; rw [xp_nb, HL.out]; rfl
          clear hO hB B2 RP hlt2
          go_wp2_with fail
          refine (Bin.rofV _ n2 _ _ wr hN (by omega) (fun e he => by have := List.mem_range.1 (List.mem_filter.1 he).1; omega)).mono ?_
          rintro e w8 ⟨a8, n8, c8, rfl, h8, b8⟩
          rw [HXP.out] at h8
          have HB8 := Lib.hid (B3.trans (b8.mono B3.size))
          have H8 : Hid (Bin.NewV w w8 300 a8 n8 c8 (mpv m f)) := by
            obtain ⟨X, h1, h2, h3, h4⟩ := h8
            exact ⟨X, h1.from B3.size, h2, h3, h4⟩
          clear h8 b8 B3 hN
          go_wp2_with fail
          go_ret
          exact ⟨a8, n8, c8, rfl, H8.out, HB8.out⟩
end
end Go.Proofs.YtdhcigiaidlmbaaGreatDoor.Cos
/- The examples of chapter 5, as the statements ask them first of all; the field that a statement makes; Cosets. By the verifier of shale. -/
namespace Go.Proofs.YtdhcigiaidlmbaaGreatDoor.Cos
open Go Go.RowKit Bin
set_option linter.unusedVariables false
theorem litB (w W : World) (Y : List (BitVec 8)) (k v : Nat) (hW : W = w.alloc (obj8 Y)) (hk : k = Y.length) (hm : k ≤ 1000) (hb : Bare Y) (hv : val Y = v) : NewV w W k (some ⟨w.heap.size, 0, none⟩) k k v ∧ Below w.heap.size w W := by
  subst hW
  exact ⟨⟨Y, ⟨hk, Nat.le_refl _, by unfold maxLen; omega, Or.inr ⟨_, rfl, Nat.le_refl _, buf_of_blk (Blk8.new w Y)⟩⟩, hb, hv, Nat.le_refl _⟩, (Below.refl _ _).alloc (Nat.le_refl _) _⟩
instance : Pl.Mid 4 := ⟨by decide, by decide⟩
theorem f1 : cos 4 (rs 4 5) = [5, 10] := by decide +kernel
theorem f2 : gpr 4 (leads 4 1 2 2) = 0x1d1 := by decide +kernel
theorem f3 : mpv 4 (rs 4 3) = 0x1f := by decide +kernel
theorem f4 : dgs 4 (leads 4 1 2 2) < sz 4 := by decide +kernel
theorem f5 : sz 4 ≤ dgs 4 (leads 4 1 2 8) := by decide +kernel
/-- the m that a statement makes of any number. -/
def mk7 (z : Int) : Nat := (z % 7).toNat + 3
instance (z : Int) : Pl.Mid (mk7 z) := ⟨by unfold mk7; omega, by unfold mk7; omega⟩
def MadeAt (m : Nat) (w : World) (e : Ending) (w' : World) : Prop := ∃ s be ce bl, e = .returned (.tuple #[.pointer (some ⟨s, 0, none⟩), .int .i64 (m : Int)]) ∧ Fld.FldAt m w' s be ce bl ∧ Below w.heap.size w w'
end Go.Proofs.YtdhcigiaidlmbaaGreatDoor.Cos
/- The reference's Generator. By the verifier of shale. -/
namespace Go.Proofs.YtdhcigiaidlmbaaGreatDoor.Cos
open Go Go.RowKit Bin
set_option linter.unusedVariables false
set_option maxRecDepth 100000 in
set_option maxHeartbeats 400000 in
theorem rleast_m (a t : Int) (ha : a < 3 ∨ 14 < a) (w : World) :
    Calls Tryz.prog 61 #[.int .i64 a, .int .i64 t] w fun e w' => e = .returned (.tuple #[.int .i64 0, .slice none 0 0, .int .i64 101]) ∧ w = w' := by
  have t : decide (a < 3) = true ∨ (decide (a < 3) = false ∧ decide (14 < a) = true) := by
    by_cases h : a < 3
    · exact Or.inl (decide_eq_true h)
    · exact Or.inr ⟨decide_eq_false h, decide_eq_true (by omega)⟩
  clear ha
  rcases t with t1 | ⟨t1, t2⟩
  all_goals
    go_enter Tryz.func61, Tryz.ntmps61
    go_wp2_with fail
    go_ret3
    exact ⟨rfl, rfl⟩
set_option maxRecDepth 100000 in
set_option maxHeartbeats 400000 in
theorem rleast_t (a t : Int) (ha : 3 ≤ a ∧ a ≤ 14) (ht : t < 1 ∨ 40 < t) (w : World) :
    Calls Tryz.prog 61 #[.int .i64 a, .int .i64 t] w fun e w' => e = .returned (.tuple #[.int .i64 0, .slice none 0 0, .int .i64 102]) ∧ w = w' := by
  have b1 : decide (a < 3) = false := decide_eq_false (by omega)
  have b2 : decide (14 < a) = false := decide_eq_false (by omega)
  have t : decide (t < 1) = true ∨ (decide (t < 1) = false ∧ decide (40 < t) = true) := by
    by_cases h : t < 1
    · exact Or.inl (decide_eq_true h)
    · exact Or.inr ⟨decide_eq_false h, decide_eq_true (by omega)⟩
  clear ha ht
  rcases t with t1 | ⟨t1, t2⟩
  all_goals
    go_enter Tryz.func61, Tryz.ntmps61
    go_wp2_with fail
    go_ret3
    exact ⟨rfl, rfl⟩
section
variable {m : Nat} [M : Pl.Mid m]
theorem mpv_room {f : Nat} (hf : f < sz m) : mpv m f < room 2 := by
  have h1 := mpv_lt (m := m) f
  have h2 := cos_len_le M.lo hf
  have h3 := M.hi
  exact Nat.lt_of_lt_of_le h1 (Nat.pow_le_pow_right (by decide) (by omega))
def RGenAt (m : Nat) [M : Pl.Mid m] (t : Nat) (w : World) (e : Ending) (w' : World) : Prop :=
  (dgs m (leads m 1 2 t) < sz m ∧ ∃ a n c, e = .returned (.tuple #[.slice a n c, .int .i64 0]) ∧ NewV w w' 81 a n c (gpr m (leads m 1 2 t)) ∧ Below w.heap.size w w') ∨
  (sz m ≤ dgs m (leads m 1 2 t) ∧ e = .returned (.tuple #[.slice none 0 0, .int .i64 105]) ∧ Below w.heap.size w w')
set_option maxRecDepth 100000 in
set_option maxHeartbeats 1000000 in
theorem rgenerator_any (t : Nat) (ht1 : 1 ≤ t) (ht2 : t ≤ 40) (w : World) :
    Calls Tryz.prog 62 #[.int .i64 (m : Int), .int .i64 (t : Int)] w (RGenAt m t w) := by
  go_enter Tryz.func62, Tryz.ntmps62
  go_wp2_with fail
  refine (rleast_any m t M.lo M.hi ht1 ht2 w).mono ?_
  rintro e w1 (⟨hd, a1, n1, c1, rfl, R, B⟩ | ⟨hd, rfl, B⟩)
  rotate_left
  · have HD := Lib.hid hd
    clear hd
    go_wp2_with fail
    go_ret2
    exact Or.inr ⟨HD.out, rfl, B⟩
  · have hl : n1 = (leadsI m t).length := by have := R.hlen; rwa [ints_length] at this
    have hnm : n1 ≤ 40 := by rw [hl, leadsI_len]; have := leads_le m 1 2 t; omega
    have HL := Lib.hid hl
    have HD := Lib.hid hd
    clear hd hl
    go_wp2_with fail
    generalize hw : w1.alloc (.cells #[.int .u8 1] 5 (0, 0)) = w2
    obtain ⟨h1, b⟩ := litB w1 w2 [1#8] 1 1 hw.symm rfl (by decide) (fun _ => by decide) (by decide)
    clear hw
    have HG : Hid (NewV w w2 1 (some ⟨w1.heap.size, 0, none⟩) 1 1 (gpr m (((leadsI m t).map (· % sz m)).take 0))) := newV_from h1 B.size
    have HS : Hid (Pl.RowZ w2 a1 n1 c1 (ints (leadsI m t)) ∧ Below w.heap.size w w2) := ⟨R.below b, B.trans (b.mono B.size)⟩
    generalize (some ⟨w1.heap.size, 0, none⟩ : Option Addr) = ag at HG ⊢
    clear h1 b R B
    go_loopg [9, 10] n1 (fun gh s9 s10 wx => ∃ (k : Nat) (ax : Option Addr) (nx cx : Nat), gh = n1 - k ∧ k ≤ n1 ∧ s10 = .int .i64 (k : Int) ∧ s9 = .slice ax nx cx ∧ Hid (NewV w wx (1 + 2 * k) ax nx cx (gpr m (((leadsI m t).map (· % sz m)).take k))) ∧ Hid (Pl.RowZ wx a1 n1 c1 (ints (leadsI m t)) ∧ Below w.heap.size w wx))
    case atStart => exact ⟨0, ag, 1, 1, rfl, Nat.zero_le _, rfl, rfl, HG, HS⟩
    case round =>
      clear HG HS
      obtain ⟨k, ax, nx, cx, hg, hk, rfl, rfl, HP, HS⟩ := hrel
      have HGh := Lib.hid hg
      clear hg
      by_cases hlt : k < n1
      · have x1 : (k : Int) < (n1 : Int) := by omega
        have x0 : (0 : Int) ≤ (k : Int) := by omega
        have hkl : k < (leadsI m t).length := by rw [← HL.out]; exact hlt
        obtain ⟨bb, off, rfl, d1, _⟩ := HS.out.1.row k hlt
        obtain ⟨u, hu⟩ : ∃ u, u = (leadsI m t).getD k 0 := ⟨_, rfl⟩
        have eu : (ints (leadsI m t)).getD k 0 = (u : Int) := by
          rw [hu]
          unfold Cos.ints
          rw [List.getD_eq_getElem?_getD, List.getElem?_map, List.getD_eq_getElem?_getD, List.getElem?_eq_getElem hkl]; rfl
        rw [eu] at d1
        have hrs : rs m (u : Int) = u % sz m := by unfold rs; rw [← Int.natCast_emod]; exact Int.toNat_natCast _
        have hum : ((leadsI m t).map (· % sz m)).getD k 0 = u % sz m := by
          rw [hu, List.getD_eq_getElem?_getD, List.getElem?_map, List.getD_eq_getElem?_getD, List.getElem?_eq_getElem hkl]; rfl
        have HT : Hid (gpr m (((leadsI m t).map (· % sz m)).take (k + 1)) = pm (gpr m (((leadsI m t).map (· % sz m)).take k)) (mpv m (u % sz m))) := by
          show _ = _
          rw [take_snocN _ k (by rw [List.length_map]; exact hkl), gpr_snoc, hum]
        have hus : u % sz m < sz m := Nat.mod_lt _ (by have := sz_lo M.lo; omega)
        have HX := Lib.hid hrs
        have HRm := Lib.hid (mpv_room (m := m) hus)
        clear hu eu hrs hum hus hkl
        go_wp2_with fail
        refine (rminimal_any (m := m) (u : Int) wr).mono ?_
        rintro e w5 ⟨a5, n5, c5, rfl, h5, b5⟩
        rw [HX.out] at h5
        have P2 := (NewV.fit h5 HRm.out).pol
        have P1 := (newV_since HP.out b5).pol
        have HS5 : Hid (Pl.RowZ w5 (some ⟨bb, off, none⟩) n1 c1 (ints (leadsI m t)) ∧ Below w.heap.size w w5) := ⟨HS.out.1.below b5, HS.out.2.trans (b5.mono HS.out.2.size)⟩
        clear HP HS h5 b5 d1
        go_wp2_with fail
        refine (rmulV (1 + 2 * (k + 1)) P1 P2 (by omega) (by decide) (by omega)).mono ?_
        rintro e w6 ⟨a6, n6, c6, rfl, h6, b6⟩
        have HP6 : Hid (NewV w w6 (1 + 2 * (k + 1)) a6 n6 c6 (gpr m (((leadsI m t).map (· % sz m)).take (k + 1)))) := by
          show NewV _ _ _ _ _ _ _
          rw [HT.out]
          exact newV_from h6 HS5.out.2.size
        have HS6 : Hid (Pl.RowZ w6 (some ⟨bb, off, none⟩) n1 c1 (ints (leadsI m t)) ∧ Below w.heap.size w w6) := ⟨HS5.out.1.below b6, HS5.out.2.trans (b6.mono HS5.out.2.size)⟩
        clear HS5 h6 b6 P1 P2
        go_wp2_with fail
        go_roundg (n1 - (k + 1))
        case measure => have := HGh.out; omega
        case rel => exact ⟨k + 1, a6, n6, c6, rfl, by omega, by go_num, rfl, HP6, HS6⟩
      · obtain rfl : k = n1 := by omega
        have HF : Hid (NewV w wr 81 ax nx cx (gpr m (leads m 1 2 t))) := by
          have h := newV_more HP.out (by omega : 1 + 2 * k ≤ 81)
          rwa [List.take_of_length_le (by rw [List.length_map, HL.out]; exact Nat.le_refl _), leadsI_map] at h
        go_wp2_with fail
        go_ret2
        exact Or.inl ⟨HD.out, ax, nx, cx, rfl, HF.out, HS.out.2⟩
end
end Go.Proofs.YtdhcigiaidlmbaaGreatDoor.Cos
/- The walks over the reference's codes: New, Parity, Bits. By the verifier of shale. -/
namespace Go.Proofs.YtdhcigiaidlmbaaGreatDoor.Enc
open Go Go.RowKit Bin Cos
set_option linter.unusedVariables false
/-- the reference's code as plain data. -/
abbrev cdV (m t n : Nat) (ga : Option Addr) (gn gc D : Nat) : Value := .agg #[.int .i64 (m : Int), .int .i64 (t : Int), .int .i64 (n : Int), .slice ga gn gc, .int .i64 (D : Int)]
abbrev cdZ : Value := .agg #[.int .i64 0, .int .i64 0, .int .i64 0, .slice none 0 0, .int .i64 0]
def cdO (a b c d e : Value) : Obj := .cells #[a, b, c, d, e] 27 (0, 0)
theorem cd_cells {w : World} {s : Nat} {a b c d e : Value} (h : w.heap[s]? = some (cdO a b c d e)) :
    w.cell? ⟨s, 0, none⟩ = some a ∧ w.cell? ⟨s, 1, none⟩ = some b ∧ w.cell? ⟨s, 2, none⟩ = some c ∧ w.cell? ⟨s, 3, none⟩ = some d ∧ w.cell? ⟨s, 4, none⟩ = some e ∧ ∀ i, w.frozen? ⟨s, i, none⟩ = false := by
  refine ⟨?_, ?_, ?_, ?_, ?_, ?_⟩
  all_goals first | (unfold World.cell?; simp only; rw [h]; rfl) | (intro i; unfold World.frozen?; simp only; rw [h]; unfold cdO; simp)
theorem newV_only {w0 w w' : World} {K : Nat} {a : Option Addr} {n c v s : Nat} (h : NewV w0 w K a n c v) (o : Only s w w') (hs : s < w0.heap.size) : NewV w0 w' K a n c v := by
  obtain ⟨X, h1, h2, h3, h4⟩ := h
  refine ⟨X, ⟨h1.hlen, h1.hcap, h1.hmost, ?_⟩, h2, h3, h4⟩
  rcases h1.own with h | ⟨g, e, hg, hx⟩
  · exact Or.inl h
  · exact Or.inr ⟨g, e, hg, buf_only hx o (by omega)⟩
section
variable {m : Nat} [M : Pl.Mid m]
def RMadeAt (m t n : Nat) [M : Pl.Mid m] (w : World) (e : Ending) (w' : World) : Prop := ∃ ga gn gc, e = .returned (.tuple #[cdV m t n ga gn gc (deg m t), .int .i64 0]) ∧ NewV w w' 81 ga gn gc (gen m t) ∧ Below w.heap.size w w'
set_option maxRecDepth 100000 in
set_option maxHeartbeats 1000000 in
theorem rnew_any {t n : Nat} (H : May m t n) (w : World) :
    Calls Tryz.prog 34 #[.int .i64 (m : Int), .int .i64 (t : Int), .int .i64 (n : Int)] w (RMadeAt m t n w) := by
  have ho := Fld.shl_one m M.hi
  have hn7 := sz_lo M.lo
  have hn2 := sz_hi M.hi
  have hw : IntKind.i64.wrap ((Fld.els m : Int) - 1) = (sz m : Int) := by
    have : (Fld.els m : Int) - 1 = (sz m : Int) := by unfold Fld.els sz; have := Nat.two_pow_pos m; omega
    rw [this]; exact IntWalk.i64_in _ (by omega)
  have hm1 := M.lo
  have hm14 := M.hi
  have m0 : (0 : Int) ≤ (m : Int) := by omega
  have m64 : (m : Int) ≤ 14 := by omega
  have n1 : ¬ (n : Int) < 1 := by have := H.n1; omega
  have n2 : ¬ (2048 : Int) < (n : Int) := by have := H.n2; omega
  have n3 : n ≤ 2048 := H.n2
  have hD2 := deg_560 (m := m) H.t2
  obtain ⟨D, hD⟩ : ∃ D, D = deg m t := ⟨_, rfl⟩
  have HDE := Lib.hid hD
  rw [← hD] at hD2
  have hroom : ¬ (sz m : Int) < 8 * (n : Int) + (D : Int) := by have := H.room; omega
  obtain ⟨N, hN⟩ : ∃ N, N = sz m := ⟨_, rfl⟩
  have HNE := Lib.hid hN
  rw [← hN] at hw hn7 hn2 hroom
  have HH := Lib.hid H
  have b0 : Below w.heap.size w (w.alloc (cdO (.int .i64 0) (.int .i64 0) (.int .i64 0) (.slice none 0 0) (.int .i64 0))) := (Below.refl _ _).alloc (Nat.le_refl _) _
  have hz : w.heap.size < (w.alloc (cdO (.int .i64 0) (.int .i64 0) (.int .i64 0) (.slice none 0 0) (.int .i64 0))).heap.size := by simp
  have hblk : (w.alloc (cdO (.int .i64 0) (.int .i64 0) (.int .i64 0) (.slice none 0 0) (.int .i64 0))).heap[w.heap.size]? = some (cdO (.int .i64 0) (.int .i64 0) (.int .i64 0) (.slice none 0 0) (.int .i64 0)) := heap_alloc_new w _
  have HI := Lib.hid (And.intro b0 (And.intro hz hblk))
  clear hD hN H b0 hz hblk
  go_enter Tryz.func34, Tryz.ntmps34
  go_wp2_with fail
  obtain ⟨b0, hz, hblk⟩ := HI.out
  clear HI
  rw [show Obj.cells #[Value.int IntKind.i64 0, Value.int IntKind.i64 0, Value.int IntKind.i64 0, Value.slice none 0 0, Value.int IntKind.i64 0] 27 (0, 0) = cdO (.int .i64 0) (.int .i64 0) (.int .i64 0) (.slice none 0 0) (.int .i64 0) from rfl]
  generalize w.alloc (cdO (.int .i64 0) (.int .i64 0) (.int .i64 0) (.slice none 0 0) (.int .i64 0)) = w0 at b0 hz hblk ⊢
  refine (rleast_any m t M.lo M.hi HH.out.t1 HH.out.t2 w0).mono ?_
  rintro e w1 (⟨hd, a1, n1', c1, rfl, R, B⟩ | ⟨hd, rfl, B⟩)
  rotate_left
  · exact absurd hd (by have := HH.out.least; unfold deg at this; omega)
  rw [show dgs m (leads m 1 2 t) = D from HDE.out.symm]
  have B1 := b0.trans (B.mono b0.size)
  have hb1 := (B.block _ hz).trans hblk
  have hz1 := Nat.lt_of_lt_of_le hz B.size
  clear hd R B b0 hblk hz
  go_wp2_with fail
  refine (rgenerator_any (m := m) t HH.out.t1 HH.out.t2 w1).mono ?_
  rintro e w2 (⟨hd, ga, gn, gc, rfl, hG, b⟩ | ⟨hd, rfl, b⟩)
  rotate_left
  · exact absurd hd (by have := HH.out.least; unfold deg at this; omega)
  have hb2 := (b.block _ hz1).trans hb1
  obtain ⟨c0, c1, c2, c3, c4, cf⟩ := cd_cells hb2
  have HG := Lib.hid (And.intro hG (B1.trans (b.mono B1.size)))
  have hz2 := Nat.lt_of_lt_of_le hz1 b.size
  have hs1 := Nat.le_of_lt hz1
  clear hd hG b B1 hb1 hb2
  go_wp2_with fail
  obtain ⟨hG, B2⟩ := HG.out
  have e5 := HDE.out
  have o5 := ((((Only.setCell w2 ⟨w.heap.size, 0, none⟩ (.int .i64 (m : Int))).trans (Only.setCell _ ⟨w.heap.size, 1, none⟩ (.int .i64 (t : Int)))).trans (Only.setCell _ ⟨w.heap.size, 2, none⟩ (.int .i64 (n : Int)))).trans (Only.setCell _ ⟨w.heap.size, 3, none⟩ (.slice ga gn gc))).trans (Only.setCell _ ⟨w.heap.size, 4, none⟩ (.int .i64 (D : Int)))
  exact bodyPost_ret (v := .tuple #[cdV m t n ga gn gc D, .int .i64 0]) (by simp [results, Tryz.results34, go_sem, c0, c1, c2, c3, c4]) rfl ⟨ga, gn, gc, by rw [← e5], newV_from (newV_only hG o5 hz1) hs1, B2.trans (o5.below (Nat.le_refl _))⟩
end
end Go.Proofs.YtdhcigiaidlmbaaGreatDoor.Enc
/- The walk over the reference's Serial. By the verifier of shale. -/
namespace Go.Proofs.YtdhcigiaidlmbaaGreatDoor.Enc
open Go Go.RowKit Bin Cos
set_option linter.unusedVariables false
set_option maxRecDepth 100000 in
set_option maxHeartbeats 400000 in
theorem rparity_any (m t n : Nat) (ga : Option Addr) (gn gc D : Nat) (hD : D ≤ 1000) (w : World) :
    Calls Tryz.prog 42 #[cdV m t n ga gn gc D] w fun e w' => e = .returned (.int .i64 (pb D : Int)) ∧ Below w.heap.size w w' := by
  have b0 : Below w.heap.size w (w.alloc (cdO (.int .i64 (m : Int)) (.int .i64 (t : Int)) (.int .i64 (n : Int)) (.slice ga gn gc) (.int .i64 (D : Int)))) := (Below.refl _ _).alloc (Nat.le_refl _) _
  obtain ⟨P, hP⟩ : ∃ P, P = pb D := ⟨_, rfl⟩
  have hP2 : P = (D + 7) / 8 := hP
  rw [← hP]
  have q0 : ((D : Int) + 7).tdiv 8 = (P : Int) := by rw [Int.tdiv_eq_ediv_of_nonneg (by omega)]; omega
  have q00 : ((D : Int) + 7) / 8 = (P : Int) := by omega
  clear hP hP2
  go_enter Tryz.func42, Tryz.ntmps42
  go_wp2_with fail
  go_ret
  exact ⟨rfl, b0⟩
end Go.Proofs.YtdhcigiaidlmbaaGreatDoor.Enc
/- What is amiss, as numbers: the values of a word at the powers of a. By the verifier of shale. -/
namespace Go.Proofs.YtdhcigiaidlmbaaGreatDoor.Syn
open Go Bin Pl Cos Enc
set_option linter.unusedVariables false
section
variable {m : Nat} [M : Mid m]
/-- the value of the word v at a^j. -/
def sv (m : Nat) [M : Mid m] (v j : Nat) : BitVec 16 := (vv (m := m) v (xe m j)).val
theorem sv_xor (a b j : Nat) : sv m (a ^^^ b) j = sv m a j ^^^ sv m b j := by unfold sv; rw [vv_xor]; rfl
theorem plc_pow (p : Nat) : ∀ n, plc (2 ^ p) n = if p < n then [p] else []
  | 0 => rfl
  | n + 1 => by
    rw [plc_succ, plc_pow p n, Nat.testBit_two_pow]
    by_cases h : p = n
    · subst h; simp
    · by_cases h2 : p < n
      · simp [h, h2, show p < n + 1 by omega]
      · simp [h, h2, show ¬ p < n + 1 by omega]
theorem sv_pow (p j : Nat) : sv m (2 ^ p) j = Fld.pwZ m ((p * j : Nat) : Int) := by
  unfold sv
  rw [vv_plc (n := p + 1) (Nat.pow_lt_pow_right (by decide) (by omega)), plc_pow, if_pos (by omega)]
  show (xe m (j * p) + 0).val = _
  rw [Fl.add_zero, Nat.mul_comm]; rfl
theorem sumE_sq (f : Nat → El m) : ∀ l : List Nat, sumE (l.map f) * sumE (l.map f) = sumE (l.map fun p => f p * f p)
  | [] => Pl.mul_zero 0
  | a :: t => by
    show (f a + sumE (t.map f)) * (f a + sumE (t.map f)) = f a * f a + sumE (t.map fun p => f p * f p)
    rw [sq_add, sumE_sq f t]
theorem vv_sq (v j : Nat) : vv (m := m) v (xe m (2 * j)) = vv v (xe m j) * vv v (xe m j) := by
  have h : v < 2 ^ v := Nat.lt_two_pow_self
  rw [vv_plc h, vv_plc h, sumE_sq]
  congr 1
  refine List.map_congr_left fun p _ => ?_
  rw [xe_mul]
  congr 1
  rw [Nat.mul_assoc, Nat.two_mul]
theorem sv_sq (v j : Nat) : sv m v (2 * j) = Fld.fmul m (sv m v j) (sv m v j) := by
  unfold sv; rw [vv_sq]; rfl
/-- the word of these places, each turned as often as it stands there. -/
def xs (l : List Nat) : Nat := l.foldl (fun v p => v ^^^ 2 ^ p) 0
theorem xs_take (l : List Nat) (k : Nat) (h : k < l.length) : xs (l.take (k + 1)) = xs (l.take k) ^^^ 2 ^ l[k] := by
  unfold xs
  rw [List.take_succ_eq_append_getElem h, List.foldl_append]; rfl
/-- the value of the places as a sum from the first on. -/
theorem sv_xs_take (l : List Nat) (k j : Nat) (h : k < l.length) : sv m (xs (l.take (k + 1))) j = sv m (xs (l.take k)) j ^^^ Fld.pwZ m ((l[k] * j : Nat) : Int) := by
  rw [xs_take l k h, sv_xor, sv_pow]
/-- the values that are asked for: 2t of them. -/
def syn (m : Nat) [M : Mid m] (v n : Nat) : List Nat := (List.range n).map fun i => (sv m v (i + 1)).toNat
end
end Go.Proofs.YtdhcigiaidlmbaaGreatDoor.Syn
/- Which places are mended: the mathematics of chapter 10. By the verifier of shale. -/
namespace Go.Proofs.YtdhcigiaidlmbaaGreatDoor.Dec
open Go Bin Pl Cos Enc Syn Loc Sea
set_option linter.unusedVariables false
section
variable {m : Nat} [M : Mid m]
/-- the values of a word, as a series. -/
def Sv (m : Nat) [M : Mid m] (v : Nat) : Ser (El m) := fun i => vv v (xe m (i + 1))
theorem xe_ne (p : Nat) : xe m p ≠ 0 := exK_ne (p : Int)
theorem ev_zero (n : Nat) (p : Ser (El m)) : ev (n + 1) p 0 = p 0 := by
  show p 0 + 0 * ev n (tl p) 0 = p 0
  rw [zero_mul, Fl.add_zero]
/-- what is made of a word: the places, if they are few. -/
noncomputable def dec (m : Nat) [M : Mid m] (t N v : Nat) : Option (List Nat) :=
  open Classical in
  if ∀ i, i < 2 * t → Sv m v i = 0 then some []
  else if (bm (Sv m v) (2 * t)).L ≤ t ∧ top (bm (Sv m v) (2 * t)).c 100 = (bm (Sv m v) (2 * t)).L + 1 ∧ (hits (zAt (bm (Sv m v) (2 * t)).c 100) N).length = (bm (Sv m v) (2 * t)).L then some (hits (zAt (bm (Sv m v) (2 * t)).c 100) N)
  else none
end
end Go.Proofs.YtdhcigiaidlmbaaGreatDoor.Dec
/- The walks over package syndrome's sum and values. By the verifier of shale. -/
namespace Go.Proofs.YtdhcigiaidlmbaaGreatDoor.Syn
open Go Go.RowKit Bin Cos Enc Bits16
set_option linter.unusedVariables false
theorem getD_nat (l : List Nat) (k : Nat) (h : k < l.length) : l.getD k 0 = l[k] := by
  rw [List.getD_eq_getElem?_getD, List.getElem?_eq_getElem h]; rfl
section
variable {m : Nat} [M : Pl.Mid m]
theorem sv_lt (v j : Nat) : (sv m v j).toNat < 2 ^ m := (vv (m := m) v (Cos.xe m j)).2
set_option maxRecDepth 100000 in
set_option maxHeartbeats 1000000 in
theorem sum_any {s be ce bl : Nat} (w : World) (F : Fld.FldAt m w s be ce bl) (a : Option Addr) (n c : Nat) (l : List Nat) (hR : RowN w a n l) (hn : n ≤ 100000) (hb : ∀ p ∈ l, p ≤ 100000) (j : Nat) (hj : j ≤ 100) :
    Calls Tryz.prog 188 #[.pointer (some ⟨s, 0, none⟩), .slice a n c, .int .i64 (j : Int), .func (.func 189) #[.pointer (some ⟨s, 0, none⟩)] #[]] w fun e w' => e = .returned (.int .i64 (h (sv m (xs l) j))) ∧ w = w' := by
  have HF := Lib.hid F
  have HR := Lib.hid hR
  have HB := Lib.hid hb
  have h0 : h (sv m (xs (l.take 0)) j) = 0 := rfl
  clear F hR hb
  go_enter Tryz.func188, Tryz.ntmps188
  go_wp2_with fail
  go_loopg [9, 14] n (fun gh s9 s14 wx => ∃ (k : Nat), gh = n - k ∧ k ≤ n ∧ s14 = .int .i64 (k : Int) ∧ s9 = .int .i64 (h (sv m (xs (l.take k)) j)) ∧ w = wx)
  case atStart => exact ⟨0, rfl, Nat.zero_le _, rfl, by rw [h0], rfl⟩
  case round =>
    clear h0
    obtain ⟨k, hg, hk, rfl, rfl, rfl⟩ := hrel
    have HG := Lib.hid hg
    clear hg
    by_cases hlt : k < n
    · have x1 : (k : Int) < (n : Int) := by omega
      have x0 : (0 : Int) ≤ (k : Int) := by omega
      obtain ⟨bb, off, rfl, d1, _⟩ := HR.out.row k hlt
      have hkl : k < l.length := by rw [← HR.out.hlen]; exact hlt
      have hp : l.getD k 0 ≤ 100000 := by rw [getD_nat l k hkl]; exact HB.out _ (List.getElem_mem hkl)
      have HS := Lib.hid (sv_xs_take (m := m) l k j hkl)
      rw [← getD_nat l k hkl, Int.natCast_mul] at HS
      have hm : IntKind.i64.wrap (((l.getD k 0 : Nat) : Int) * (j : Int)) = ((l.getD k 0 : Nat) : Int) * (j : Int) := by
        have : l.getD k 0 * j ≤ 100000 * 100 := Nat.mul_le_mul hp hj
        rw [← Int.natCast_mul]
        exact IntWalk.i64_in _ (by omega)
      have HI : Hid (k + 1 ≤ n) := hlt
      have HL := Lib.hid (sv_lt (m := m) (xs (l.take k)) j)
      generalize l.getD k 0 = p at d1 hp HS hm
      generalize sv m (xs (l.take k)) j = A at HS HL ⊢
      clear hlt hkl
      go_wp2_with fail
      refine (Fld.fexp_any M.lo M.hi _ w HF.out).mono ?_
      rintro e w' ⟨rfl, rfl⟩
      go_wp2_with fail
      refine (Fld.add_any M.lo M.hi _ _ w HF.out).mono ?_
      rintro e w' ⟨rfl, rfl⟩
      rw [Fld.el_of m M.hi _ HL.out, Fld.el_of m M.hi _ (Fld.pwZ_lt m M.lo M.hi _), ← HS.out]
      go_wp2_with fail
      go_roundg (n - (k + 1))
      case measure => have := HG.out; have := HI.out; omega
      case rel => exact ⟨k + 1, rfl, HI.out, by go_num, rfl, rfl⟩
    · obtain rfl : k = n := by omega
      have HE : Hid (l.take k = l) := List.take_of_length_le (by rw [← HR.out.hlen]; exact Nat.le_refl _)
      rw [HE.out]
      go_wp2_with fail
      go_ret
      exact ⟨rfl, rfl⟩
/-- the values asked for, of which the first k are there. -/
def synP (m : Nat) [M : Pl.Mid m] (v k n : Nat) : List Int := (List.range n).map fun i => if i < k then h (sv m v (i + 1)) else 0
theorem synP_length (v k n : Nat) : (synP m v k n).length = n := by unfold synP; rw [List.length_map, List.length_range]
theorem synP_zero (v n : Nat) : List.replicate n 0 = synP m v 0 n := by
  unfold synP
  apply List.ext_getElem
  · simp
  · intro i h1 h2; simp
theorem synP_set (v k n : Nat) : (synP m v k n).set k (h (sv m v (k + 1))) = synP m v (k + 1) n := by
  unfold synP
  apply List.ext_getElem
  · simp
  · intro i h1 h2
    rw [List.getElem_set]
    by_cases e : k = i
    · subst e; simp
    · rw [if_neg e]
      simp only [List.getElem_map, List.getElem_range]
      by_cases h3 : i < k
      · rw [if_pos h3, if_pos (by omega)]
      · rw [if_neg h3, if_neg (by omega)]
theorem synP_nth {v k n i : Nat} (hi : i < k) (hk : k ≤ n) : nth64 (synP m v k n) i = h (sv m v (i + 1)) := by
  unfold nth64 synP
  rw [List.getD_eq_getElem?_getD, List.getElem?_map, List.getElem?_range (by omega)]
  simp [hi]
theorem synP_all (v n : Nat) : synP m v n n = Bin.ints (syn m v n) := by
  unfold synP syn Bin.ints
  rw [List.map_map]
  refine List.map_congr_left fun i hi => ?_
  rw [List.mem_range] at hi
  rw [if_pos hi]; rfl
/-- the values that a call answers, in new memory. -/
def ValAt (m t v : Nat) [M : Pl.Mid m] (w : World) (e : Ending) (w' : World) : Prop :=
  ∃ g, e = .returned (.slice (some ⟨g, 0, none⟩) (2 * t) (2 * t)) ∧ Blk64 w' g (Bin.ints (syn m v (2 * t))) ∧ Below w.heap.size w w' ∧ w.heap.size ≤ g
set_option maxRecDepth 100000 in
set_option maxHeartbeats 1000000 in
theorem values_any {t n : Nat} (w : World) (s : Nat) (hC : CodeAt m t n w s) (ht2 : t ≤ 40) (a : Option Addr) (nl c : Nat) (l : List Nat) (hR : RowN w a nl l) (hn : nl ≤ 100000) (hb : ∀ p ∈ l, p ≤ 100000) :
    Calls Tryz.prog 174 #[.pointer (some ⟨s, 0, none⟩), .slice a nl c] w (ValAt m t (xs l) w) := by
  have HC := Lib.hid hC
  have HR := Lib.hid hR
  have HB := Lib.hid hb
  have hfc := field_code w s hC
  have htc := t_code w s hC
  obtain ⟨N, hN⟩ : ∃ N, N = 2 * t := ⟨_, rfl⟩
  have q0 : 2 * (t : Int) = (N : Int) := by omega
  have hN2 : N ≤ 80 := by omega
  have HN := Lib.hid hN
  have hmk := made64 w N (by omega)
  obtain ⟨V, hV⟩ : ∃ V, V = xs l := ⟨_, rfl⟩
  rw [← hV]
  have HV := Lib.hid hV
  have b0 : Below w.heap.size w (w.alloc (obj64 (List.replicate N 0))) := (Below.refl _ _).alloc (Nat.le_refl _) _
  have k0 := Blk64.new w (List.replicate N 0)
  rw [synP_zero (m := m) V N] at hmk b0 k0
  have HC1 := Lib.hid (hC.below b0)
  have B0 := Lib.hid b0
  have K0 := Lib.hid k0
  clear hC hR hb hN hV b0 k0
  go_enter Tryz.func174, Tryz.ntmps174
  go_wp2_with fail
  refine hfc.mono ?_
  rintro e w' ⟨⟨f, be, ce, bl, rfl, F⟩, rfl⟩
  have HF := Lib.hid F
  clear F hfc
  go_wp2_with fail
  refine htc.mono ?_
  rintro e w' ⟨rfl, rfl⟩
  clear htc
  go_wp2_with fail
  generalize w.alloc (obj64 (synP m V 0 N)) = w1 at B0 K0 HC1 ⊢
  go_loopg [17] N (fun gh s17 wx => ∃ (k : Nat), gh = N - k ∧ k ≤ N ∧ s17 = .int .i64 (k : Int) ∧ Blk64 wx w.heap.size (synP m V k N) ∧ Below w.heap.size w wx)
  case atStart => exact ⟨0, rfl, Nat.zero_le _, rfl, K0.out, B0.out⟩
  case round =>
    clear K0 B0 HC1
    obtain ⟨k, hg, hk, rfl, hK, hB⟩ := hrel
    have HG := Lib.hid hg
    clear hg
    have HBl := Lib.hid hB
    have cf := fun i => hK.free i
    by_cases hlt : k < N
    · have x1 : (k : Int) < (N : Int) := by omega
      have x0 : (0 : Int) ≤ (k : Int) := by omega
      have HI : Hid (k + 1 ≤ N) := hlt
      have HK := Lib.hid hK
      have HF2 := Lib.hid (HF.out.below M.lo hB)
      have HR2 := Lib.hid (HR.out.below hB)
      have ck := hK.cell (i := k) (by rw [synP_length]; exact hlt)
      generalize nth64 (synP m V k N) k = z0 at ck
      by_cases hev : k % 2 = 0
      · have t1 : ((k : Int) % 2 == 0) = true := by rw [beq_iff_eq]; omega
        have HS := Lib.hid (sum_any wr HF2.out a nl c l HR2.out hn HB.out (k + 1) (by omega))
        rw [← HV.out] at HS
        have q2 : ((k + 1 : Nat) : Int) = (k : Int) + 1 := by omega
        rw [q2] at HS
        clear hev q2 hB hK
        go_wp2_with fail
        refine HS.out.mono ?_
        rintro e w' ⟨rfl, rfl⟩
        go_wp2_with fail
        go_roundg (N - (k + 1))
        case measure => have := HG.out; have := HI.out; omega
        case rel =>
          have hs := Blk64.set HK.out k (h (sv m V (k + 1)))
          rw [synP_set] at hs
          exact ⟨k + 1, rfl, HI.out, by go_num, hs, HBl.out.trans ((Only.setCell _ _ _).below (Nat.le_refl _))⟩
      · have t1 : ((k : Int) % 2 == 0) = false := by rw [beq_eq_false_iff_ne]; omega
        obtain ⟨i, hi⟩ : ∃ i, k = 2 * i + 1 := ⟨k / 2, by omega⟩
        have q3 : (k : Int) / 2 = (i : Int) := by omega
        have q4 : (k : Int).tdiv 2 = (i : Int) := by rw [Int.tdiv_eq_ediv_of_nonneg (by omega)]; exact q3
        have y0 : (0 : Int) ≤ (i : Int) := by omega
        have y1 : (i : Int) < (N : Int) := by omega
        have d1 := hK.cell (i := i) (by rw [synP_length]; omega)
        rw [synP_nth (by omega) (by omega)] at d1
        have HQ : Hid (sv m V (k + 1) = Fld.fmul m (sv m V (i + 1)) (sv m V (i + 1))) := by
          show _ = _
          rw [← sv_sq, hi]; congr 1
        have HL := Lib.hid (sv_lt (m := m) V (i + 1))
        generalize sv m V (i + 1) = A at d1 HQ HL
        have HM := Lib.hid (Fld.mul_any M.lo M.hi (h A) (h A) wr HF2.out)
        rw [Fld.el_of m M.hi _ HL.out, ← HQ.out] at HM
        clear hev hB hK hi
        go_wp2_with fail
        refine HM.out.mono ?_
        rintro e w4 ⟨rfl, hd⟩
        have HK4 : Hid (Blk64 w4 w.heap.size (synP m V k N)) := Bin.Blk64.since HK.out (hd.below _)
        have HB4 := Lib.hid (HBl.out.trans (hd.below _))
        have cf4 := fun i => HK4.out.free i
        have ck4 := HK4.out.cell (i := k) (by rw [synP_length]; exact HI.out)
        generalize nth64 (synP m V k N) k = z4 at ck4
        clear hd cf ck d1
        go_wp2_with fail
        go_roundg (N - (k + 1))
        case measure => have := HG.out; have := HI.out; omega
        case rel =>
          have hs := Blk64.set HK4.out k (h (sv m V (k + 1)))
          rw [synP_set] at hs
          exact ⟨k + 1, rfl, HI.out, by go_num, hs, HB4.out.trans ((Only.setCell _ _ _).below (Nat.le_refl _))⟩
    · obtain rfl : k = N := by omega
      have HX : Hid (Blk64 wr w.heap.size (Bin.ints (syn m V k))) := by rw [← synP_all]; exact hK
      clear hK hB
      go_wp2_with fail
      go_ret
      obtain rfl := HN.out
      exact ⟨w.heap.size, rfl, HX.out, HBl.out, Nat.le_refl _⟩
end
end Go.Proofs.YtdhcigiaidlmbaaGreatDoor.Syn
/- The walks over package syndrome's Bits, Clean, Fits. By the verifier of shale. -/
namespace Go.Proofs.YtdhcigiaidlmbaaGreatDoor.Syn
open Go Go.RowKit Bin Cos Enc Bits16
set_option linter.unusedVariables false
/-- the values that a call answers with no error, in new memory. -/
def ValE (m t v : Nat) [M : Pl.Mid m] (w : World) (e : Ending) (w' : World) : Prop :=
  ∃ g, e = .returned (.tuple #[.slice (some ⟨g, 0, none⟩) (2 * t) (2 * t), .nilIface]) ∧ Blk64 w' g (Bin.ints (syn m v (2 * t))) ∧ Below w.heap.size w w' ∧ w.heap.size ≤ g
section
variable {m : Nat} [M : Pl.Mid m]
end
end Go.Proofs.YtdhcigiaidlmbaaGreatDoor.Syn
/- The walk over package syndrome's Of. By the verifier of shale. -/
namespace Go.Proofs.YtdhcigiaidlmbaaGreatDoor.Syn
open Go Go.RowKit Bin Cos Enc Bits16
set_option linter.unusedVariables false
theorem xs_plc (v : Nat) : ∀ k, xs (plc v k) = v % 2 ^ k
  | 0 => by rw [Nat.pow_zero, Nat.mod_one]; rfl
  | k + 1 => by
    have ih := xs_plc v k
    rw [plc_succ]
    unfold xs at ih ⊢
    rw [List.foldl_append, ih]
    apply Nat.eq_of_testBit_eq
    intro i
    rw [Nat.testBit_mod_two_pow]
    cases hb : v.testBit k
    · show (v % 2 ^ k).testBit i = _
      rw [Nat.testBit_mod_two_pow]
      by_cases hi : i = k
      · subst hi; rw [hb]; simp
      · congr 1; simp; omega
    · show (v % 2 ^ k ^^^ 2 ^ k).testBit i = _
      rw [Nat.testBit_xor, Nat.testBit_mod_two_pow, Nat.testBit_two_pow]
      by_cases hi : i = k
      · subst hi; rw [hb]; simp
      · have e1 : decide (k = i) = false := decide_eq_false (fun h => hi h.symm)
        rw [e1, Bool.xor_false]
        congr 1; simp; omega
/-- an own slice of places is a row. -/
theorem own_rowN {w : World} {base n : Nat} {a : Option Addr} {c : Nat} {l : List Nat} (h : Own64 w base (.slice a n c) n (Bin.ints l)) : RowN w a n l := by
  have hl : l.length = n := by have := h.len; unfold Bin.ints at this; rwa [List.length_map] at this
  refine ⟨hl.symm, fun i hi => ?_⟩
  rcases h.2 with ⟨h0, h1⟩ | ⟨g, cap, cur, hv, hb, hh, r⟩
  · simp only [Value.slice.injEq] at h0; omega
  · have hc := World.ownsRow.cellAt (show w.ownsRow base 3 1 (.slice (some ⟨g, 0, none⟩) n cap) n (cells64 (Bin.ints l)) from hv ▸ h) i (by omega)
    simp only [Value.slice.injEq] at hv
    obtain ⟨rfl, _, _⟩ := hv
    refine ⟨g, 0, rfl, ?_, lt_of_block hh⟩
    rw [Nat.zero_add]
    refine hc.trans ?_
    simp [cells64, Bin.ints, List.getD_eq_getElem?_getD, hl, hi]
theorem own_slice {w : World} {base n : Nat} {v : Value} {l : List Int} (h : Own64 w base v n l) : ∃ av cv, v = .slice av n cv := by
  rcases h.2 with ⟨h0, h1⟩ | ⟨g, cap, cur, hv, _⟩
  · exact ⟨none, 0, by rw [h0, h1]⟩
  · exact ⟨_, _, hv⟩
section
variable {m : Nat} [M : Pl.Mid m]
/-- what the parity differs by. -/
def ev (m t X Y : Nat) [M : Pl.Mid m] : Nat := prt (gen m t) (deg m t) X ^^^ Y
set_option maxRecDepth 100000 in
set_option maxHeartbeats 1000000 in
theorem of_any {t n : Nat} (ht : 1 ≤ t) (ht2 : t ≤ 40) (w : World) (s : Nat) (h : CodeAt m t n w s) (a : Option Addr) (cap : Nat) (X : List (BitVec 8)) (hl : Pol w a n cap X) (hn : n ≤ 2048) (a' : Option Addr) (cap' : Nat) (Y : List (BitVec 8)) (hY : Pol w a' (pb (deg m t)) cap' Y) :
    Calls Tryz.prog 153 #[.pointer (some ⟨s, 0, none⟩), .slice a n cap, .slice a' (pb (deg m t)) cap'] w (ValE m t (ev m t (val X) (val Y) % 2 ^ deg m t) w) := by
  obtain ⟨i0, hi, hz0, hz1, hz2⟩ := info64
  have HC := Lib.hid h
  have HPB := Lib.hid (parityB_any w s h ht2)
  have HFa := Lib.hid (fast_any ht ht2 w s h a cap X hl hn)
  have HY := Lib.hid hY
  have hd := deg_560 (m := m) ht2
  have HX := xs_plc (ev m t (val X) (val Y)) (deg m t)
  have HBd : Hid (∀ p ∈ plc (ev m t (val X) (val Y)) (deg m t), p ≤ 100000) := fun p hp => by have := (mem_plc.1 hp).1; omega
  have hE : ev m t (val X) (val Y) = prt (gen m t) (deg m t) (val X) ^^^ val Y := rfl
  have hRl := prt_lt (gen_deg (m := m) t) (val X)
  unfold ParAt at HFa
  rw [← HX]
  generalize ev m t (val X) (val Y) = E at hE HX HBd ⊢
  generalize prt (gen m t) (deg m t) (val X) = R at hE hRl HFa
  have hPd : pb (deg m t) = (deg m t + 7) / 8 := rfl
  obtain ⟨P, hP⟩ : ∃ P, P = pb (deg m t) := ⟨_, rfl⟩
  obtain ⟨D, hD⟩ : ∃ D, D = deg m t := ⟨_, rfl⟩
  have hdc := Lib.hid (fun (w : World) (h : CodeAt m t n w s) => degree_code w s h)
  rw [← hP] at hPd HPB HFa HY ⊢
  rw [← hD] at hd hPd hRl hdc HBd ⊢
  have HE := Lib.hid hE
  have HRl := Lib.hid hRl
  have HP := Lib.hid hPd
  have y9 : P ≤ 100000 := by omega
  clear h hl hY HX hE hRl hP hD hPd
  go_enter Tryz.func153, Tryz.ntmps153
  go_wp2_with fail
  refine HPB.out.mono ?_
  rintro e w' ⟨rfl, rfl⟩
  clear HPB
  go_wp2_with fail
  refine HFa.out.mono ?_
  rintro e w1 ⟨g, rfl, hB8, b1, hg1⟩
  have HB8 := Lib.hid hB8
  have HB1 := Lib.hid b1
  have HC1 := Lib.hid (HC.out.below b1)
  have HY1 := Lib.hid (HY.out.below b1)
  clear HFa hB8 b1
  go_wp2_with fail
  refine (hdc.out w1 HC1.out).mono ?_
  rintro e w' ⟨rfl, rfl⟩
  have HO0 := Lib.hid (show Own64 w1 w1.heap.size (.slice none 0 0) 0 (Bin.ints (plc E 0)) from Own64.nil w1 w1.heap.size)
  go_wp2_with fail
  go_loopg [10, 29] D (fun gh s10 s29 wx => ∃ (k j : Nat), gh = D - k ∧ k ≤ D ∧ s29 = .int .i64 (k : Int) ∧ Own64 wx w1.heap.size s10 j (Bin.ints (plc E k)) ∧ j ≤ k ∧ Below w1.heap.size w1 wx)
  case atStart => exact ⟨0, 0, rfl, Nat.zero_le _, rfl, HO0.out, Nat.le_refl _, Below.refl _ _⟩
  case round =>
    clear HO0
    obtain ⟨k, j, hg, hk, rfl, hown, hj, hB⟩ := hrel
    have HG := Lib.hid hg
    have hbs := hB.size
    clear hg
    by_cases hlt : k < D
    · have x1 : (k : Int) < (D : Int) := by omega
      have x0 : (0 : Int) ≤ (k : Int) := by omega
      have HI : Hid (k + 1 ≤ D) := hlt
      obtain ⟨Q, hQ⟩ : ∃ Q, Q = k / 8 := ⟨_, rfl⟩
      obtain ⟨r, hr⟩ : ∃ r, r = k % 8 := ⟨_, rfl⟩
      have q1 : (k : Int) / 8 = (Q : Int) := by omega
      have q2 : (k : Int).tdiv 8 = (Q : Int) := by rw [Int.tdiv_eq_ediv_of_nonneg (by omega)]; exact q1
      have q3 : (k : Int) % 8 = (r : Int) := by omega
      have q4 : (k : Int).tmod 8 = (r : Int) := by rw [Int.tmod_eq_emod_of_nonneg (by omega)]; exact q3
      have hQP : Q < P := by have := HP.out; omega
      have y0 : (0 : Int) ≤ (Q : Int) := by omega
      have y1 : (Q : Int) < (P : Int) := by omega
      have r0 : (0 : Int) ≤ (r : Int) := by omega
      have r1 : (r : Int) < 8 := by omega
      have HB8w : Hid (Blk8 wr g (byN R P)) := (hB.block g HB8.out.lt).trans HB8.out
      have d1 := HB8w.out.cell (i := Q) (by rw [byN_length]; exact hQP)
      obtain ⟨bb, off, rfl, d2⟩ : ∃ bb off, a' = some ⟨bb, off, none⟩ ∧ wr.cell? ⟨bb, off + Q, none⟩ = some (.int .u8 (Bits32.b (nth8 Y Q))) := by
        rcases (HY1.out.below hB).hrow with h | ⟨bb, off, e, hr, _⟩
        · omega
        · exact ⟨bb, off, e, hr Q (by rw [← HY1.out.hlen]; exact hQP)⟩
      have hx := Bits32.bxor (nth8 (byN R P) Q) (nth8 Y Q)
      have hbit : E.testBit k = (nth8 (byN R P) Q ^^^ nth8 Y Q).getLsbD r := by
        rw [HE.out, Nat.testBit_xor, BitVec.getLsbD_xor, byN_bit R P Q r hQP (by omega), val_bit Y k, ← hQ, ← hr, show 8 * Q + r = k by omega]
      have hone := bit_one8 (nth8 (byN R P) Q ^^^ nth8 Y Q) r (by omega)
      rw [← hbit] at hone
      have HPS := Lib.hid (plc_succ E k)
      generalize nth8 (byN R P) Q ^^^ nth8 Y Q = Z at hx hone
      generalize Bits32.b (nth8 (byN R P) Q) = v1 at d1 hx
      generalize Bits32.b (nth8 Y Q) = v2 at d2 hx
      clear hQ hr hlt hbit hQP
      rcases Bool.eq_false_or_eq_true (E.testBit k) with hb1 | hb1
      · rw [hb1] at hone HPS
        replace hone : bits .and .u8 (Bits32.b Z / 2 ^ r) 1 = 1 := hone
        have HF : Hid (plc E (k + 1) = plc E k ++ [k]) := HPS.out
        clear hb1 HPS
        go_wp2_with fail
        go_quiet (fail)
        have hd2 := Drawn.mk wr nq
        generalize wr.drewN nq = w5 at hd2 ⊢
        replace hB := hB.trans ((hd2.below wr.heap.size).mono hbs)
        have hown5 := hown.keep (w' := w5) fun g hg => (hd2.below wr.heap.size).block g (hown.block g hg).2
        have hbs5 := hB.size
        clear hown hd2 d1 d2 hx hone hbs
        go_wp2_with (at_builtin; refine wpList_append_own _ rfl _ _ 65 rfl w1.heap.size 3 i0 (.int .i64 0) 1 8 Tryz.underlying65 hi hz0 hz1 hz2 rfl (by decide) _ j _ rfl (World.ownsRow.alloc hown5 _) ⟨w5.heap.size, 0, none⟩ 1 1 [.int .i64 (k : Int)] rfl rfl (cell_one_new _ _ _) (ints_oneCell .i64 [_]) (by unfold maxLen; omega) (by omega) (by simp; omega) ?_; intro v7 w7 hown7 hgrow _)
        have ho7 : Own64 w7 w1.heap.size v7 (j + 1) (Bin.ints (plc E (k + 1))) := by
          unfold Own64
          rw [HF.out]
          have e : Bin.ints (plc E k ++ [k]) = Bin.ints (plc E k) ++ [(k : Int)] := by simp [Bin.ints]
          rw [e, ← cells64_append]
          exact hown7
        have b7 : Below w1.heap.size w1 w7 := (hB.alloc hbs5 _).grown hgrow (by simp; omega) (fun g hg => (hown5.block g hg).1)
        clear hown7 hgrow hown5 hB
        go_wp2_with fail
        go_roundg (D - (k + 1))
        case measure => have := HG.out; have := HI.out; omega
        case rel => exact ⟨k + 1, j + 1, rfl, HI.out, by go_num, ho7, by omega, b7⟩
      · rw [hb1] at hone HPS
        replace hone : bits .and .u8 (Bits32.b Z / 2 ^ r) 1 = 0 := hone
        have HF : Hid (plc E (k + 1) = plc E k) := by
          show _ = _
          rw [HPS.out]
          exact List.append_nil _
        clear hb1 HPS
        go_wp2_with fail
        go_quiet (fail)
        have hd2 := Drawn.mk wr nq
        generalize wr.drewN nq = w5 at hd2 ⊢
        replace hB := hB.trans ((hd2.below wr.heap.size).mono hbs)
        have hown5 := hown.keep (w' := w5) fun g hg => (hd2.below wr.heap.size).block g (hown.block g hg).2
        rw [← HF.out] at hown5
        clear hown hd2 d1 d2 hx hone hbs
        go_wp2_with fail
        go_roundg (D - (k + 1))
        case measure => have := HG.out; have := HI.out; omega
        case rel => exact ⟨k + 1, j, rfl, HI.out, by go_num, hown5, by omega, hB⟩
    · obtain rfl : k = D := by omega
      obtain ⟨av, cv, rfl⟩ := own_slice hown
      have HRw := Lib.hid (own_rowN hown)
      have HV := Lib.hid (values_any wr s (HC1.out.below hB) ht2 av j cv _ HRw.out (by omega) HBd.out)
      have HB2 := Lib.hid (HB1.out.trans (hB.mono HB1.out.size))
      have HS2 := Lib.hid (Nat.le_trans HB1.out.size hbs)
      clear hown hB
      go_wp2_with fail
      refine HV.out.mono ?_
      rintro e w4 ⟨g', rfl, h1, h2, h3⟩
      have H1 := Lib.hid h1
      have H2 := Lib.hid (HB2.out.trans (h2.mono HB2.out.size))
      have H3 := Lib.hid (Nat.le_trans HS2.out h3)
      clear h1 h2 h3 HV
      go_wp2_with fail
      go_ret2
      exact ⟨g', rfl, H1.out, H2.out, H3.out⟩
end
end Go.Proofs.YtdhcigiaidlmbaaGreatDoor.Syn
/- The codes that the statements of chapter 6 make: what New refuses; made. By the verifier of shale. -/
namespace Go.Proofs.YtdhcigiaidlmbaaGreatDoor.Enc
open Go Go.RowKit Bin Cos
set_option linter.unusedVariables false
section
variable {m : Nat} [M : Pl.Mid m]
/-- data of a length that may be, but there is no such code. -/
structure MayNot (m t n : Nat) : Prop where
  t1 : 1 ≤ t
  t2 : t ≤ 40
  n1 : 1 ≤ n
  n2 : n ≤ 2048
  no : sz m ≤ deg m t ∨ sz m < 8 * n + deg m t
theorem may_or (m t n : Nat) (t1 : 1 ≤ t) (t2 : t ≤ 40) (n1 : 1 ≤ n) (n2 : n ≤ 2048) : May m t n ∨ MayNot m t n := by
  by_cases h1 : sz m ≤ deg m t
  · exact Or.inr ⟨t1, t2, n1, n2, Or.inl h1⟩
  · by_cases h2 : sz m < 8 * n + deg m t
    · exact Or.inr ⟨t1, t2, n1, n2, Or.inr h2⟩
    · exact Or.inl ⟨t1, t2, n1, n2, by omega, by omega⟩
set_option maxRecDepth 100000 in
set_option maxHeartbeats 1000000 in
theorem new_no {t n : Nat} (H : MayNot m t n) (w : World) (y : Addr) (E : ErrAt w 4 y) :
    Calls Tryz.prog 63 #[.int .i64 (m : Int), .int .i64 (t : Int), .int .i64 (n : Int)] w fun e w' => e = .returned (.tuple #[.pointer none, errOf y]) ∧ Below w.heap.size w w' := by
  have ho := Fld.shl_one m M.hi
  have hn7 := sz_lo M.lo
  have hn2 := sz_hi M.hi
  have hw : IntKind.i64.wrap ((Fld.els m : Int) - 1) = (sz m : Int) := by
    have : (Fld.els m : Int) - 1 = (sz m : Int) := by unfold Fld.els sz; have := Nat.two_pow_pos m; omega
    rw [this]; exact IntWalk.i64_in _ (by omega)
  have hm1 := M.lo
  have hm14 := M.hi
  have m0 : (0 : Int) ≤ (m : Int) := by omega
  have m64 : (m : Int) ≤ 14 := by omega
  have n1 : ¬ (n : Int) < 1 := by have := H.n1; omega
  have n2 : ¬ (2048 : Int) < (n : Int) := by have := H.n2; omega
  have n3 : n ≤ 2048 := H.n2
  have hD2 := deg_560 (m := m) H.t2
  obtain ⟨D, hD⟩ : ∃ D, D = deg m t := ⟨_, rfl⟩
  have HDE := Lib.hid hD
  rw [← hD] at hD2
  obtain ⟨N, hN⟩ : ∃ N, N = sz m := ⟨_, rfl⟩
  have HNE := Lib.hid hN
  rw [← hN] at hw hn7 hn2
  have HH := Lib.hid H
  clear hD hN H
  go_enter Tryz.func63, Tryz.ntmps63
  go_wp2_with fail
  refine (least_any m t M.lo M.hi HH.out.t1 HH.out.t2 w y E).mono ?_
  rintro e w1 (⟨hd, rfl, B⟩ | ⟨hd, rfl, B⟩)
  · rw [show dgs m (leads m 1 2 t) = D from HDE.out.symm]
    have hroom : (N : Int) < 8 * (n : Int) + (D : Int) := by
      have h1 := HDE.out
      have h2 := HNE.out
      have h3 : deg m t < sz m := hd
      rcases HH.out.no with h | h <;> omega
    have e1 := (E.below B).1
    unfold Sent at e1
    clear hd E
    go_wp2_with fail
    go_quiet (fail)
    have hd2 := B.trans ((Drawn.mk w1 nq).below w.heap.size)
    generalize w1.drewN nq = w5 at hd2 ⊢
    clear e1
    go_wp2_with fail
    go_ret2
    exact ⟨rfl, hd2⟩
  · clear hd E
    go_wp2_with fail
    go_ret2
    exact ⟨rfl, B⟩
set_option maxRecDepth 100000 in
set_option maxHeartbeats 1000000 in
theorem rnew_no {t n : Nat} (H : MayNot m t n) (w : World) :
    Calls Tryz.prog 34 #[.int .i64 (m : Int), .int .i64 (t : Int), .int .i64 (n : Int)] w fun e w' => e = .returned (.tuple #[cdZ, .int .i64 105]) ∧ Below w.heap.size w w' := by
  have ho := Fld.shl_one m M.hi
  have hn7 := sz_lo M.lo
  have hn2 := sz_hi M.hi
  have hw : IntKind.i64.wrap ((Fld.els m : Int) - 1) = (sz m : Int) := by
    have : (Fld.els m : Int) - 1 = (sz m : Int) := by unfold Fld.els sz; have := Nat.two_pow_pos m; omega
    rw [this]; exact IntWalk.i64_in _ (by omega)
  have hm1 := M.lo
  have hm14 := M.hi
  have m0 : (0 : Int) ≤ (m : Int) := by omega
  have m64 : (m : Int) ≤ 14 := by omega
  have n1 : ¬ (n : Int) < 1 := by have := H.n1; omega
  have n2 : ¬ (2048 : Int) < (n : Int) := by have := H.n2; omega
  have n3 : n ≤ 2048 := H.n2
  have hD2 := deg_560 (m := m) H.t2
  obtain ⟨D, hD⟩ : ∃ D, D = deg m t := ⟨_, rfl⟩
  have HDE := Lib.hid hD
  rw [← hD] at hD2
  obtain ⟨N, hN⟩ : ∃ N, N = sz m := ⟨_, rfl⟩
  have HNE := Lib.hid hN
  rw [← hN] at hw hn7 hn2
  have HH := Lib.hid H
  have b0 : Below w.heap.size w (w.alloc (cdO (.int .i64 0) (.int .i64 0) (.int .i64 0) (.slice none 0 0) (.int .i64 0))) := (Below.refl _ _).alloc (Nat.le_refl _) _
  have hz : w.heap.size < (w.alloc (cdO (.int .i64 0) (.int .i64 0) (.int .i64 0) (.slice none 0 0) (.int .i64 0))).heap.size := by simp
  have hblk : (w.alloc (cdO (.int .i64 0) (.int .i64 0) (.int .i64 0) (.slice none 0 0) (.int .i64 0))).heap[w.heap.size]? = some (cdO (.int .i64 0) (.int .i64 0) (.int .i64 0) (.slice none 0 0) (.int .i64 0)) := heap_alloc_new w _
  have HI := Lib.hid (And.intro b0 (And.intro hz hblk))
  clear hD hN H b0 hz hblk
  go_enter Tryz.func34, Tryz.ntmps34
  go_wp2_with fail
  obtain ⟨b0, hz, hblk⟩ := HI.out
  clear HI
  rw [show Obj.cells #[Value.int IntKind.i64 0, Value.int IntKind.i64 0, Value.int IntKind.i64 0, Value.slice none 0 0, Value.int IntKind.i64 0] 27 (0, 0) = cdO (.int .i64 0) (.int .i64 0) (.int .i64 0) (.slice none 0 0) (.int .i64 0) from rfl]
  generalize w.alloc (cdO (.int .i64 0) (.int .i64 0) (.int .i64 0) (.slice none 0 0) (.int .i64 0)) = w0 at b0 hz hblk ⊢
  refine (rleast_any m t M.lo M.hi HH.out.t1 HH.out.t2 w0).mono ?_
  rintro e w1 (⟨hd, a1, n1', c1, rfl, R, B⟩ | ⟨hd, rfl, B⟩)
  · have hroom : (N : Int) < 8 * (n : Int) + (D : Int) := by
      have h1 := HDE.out
      have h2 := HNE.out
      have h3 : deg m t < sz m := hd
      rcases HH.out.no with h | h <;> omega
    rw [show dgs m (leads m 1 2 t) = D from HDE.out.symm]
    have B1 := b0.trans (B.mono b0.size)
    have hb1 := (B.block _ hz).trans hblk
    obtain ⟨c0, c1', c2, c3, c4, cf⟩ := cd_cells hb1
    clear hd R B b0 hblk hz hb1
    go_wp2_with fail
    exact bodyPost_ret (v := .tuple #[cdZ, .int .i64 105]) (by simp [results, Tryz.results34, go_sem, c0, c1', c2, c3, c4]) rfl ⟨rfl, ((((B1.setCell (p := ⟨w.heap.size, 0, none⟩) (Nat.le_refl _) _).setCell (p := ⟨w.heap.size, 1, none⟩) (Nat.le_refl _) _).setCell (p := ⟨w.heap.size, 2, none⟩) (Nat.le_refl _) _).setCell (p := ⟨w.heap.size, 3, none⟩) (Nat.le_refl _) _).setCell (p := ⟨w.heap.size, 4, none⟩) (Nat.le_refl _) _⟩
  · have B1 := b0.trans (B.mono b0.size)
    have hb1 := (B.block _ hz).trans hblk
    obtain ⟨c0, c1', c2, c3, c4, cf⟩ := cd_cells hb1
    clear hd B b0 hblk hz hb1
    go_wp2_with fail
    exact bodyPost_ret (v := .tuple #[cdZ, .int .i64 105]) (by simp [results, Tryz.results34, go_sem, c0, c1', c2, c3, c4]) rfl ⟨rfl, ((((B1.setCell (p := ⟨w.heap.size, 0, none⟩) (Nat.le_refl _) _).setCell (p := ⟨w.heap.size, 1, none⟩) (Nat.le_refl _) _).setCell (p := ⟨w.heap.size, 2, none⟩) (Nat.le_refl _) _).setCell (p := ⟨w.heap.size, 3, none⟩) (Nat.le_refl _) _).setCell (p := ⟨w.heap.size, 4, none⟩) (Nat.le_refl _) _⟩
end
end Go.Proofs.YtdhcigiaidlmbaaGreatDoor.Enc
/- made: the code that a statement of chapter 6 makes of any numbers. By the verifier of shale. -/
namespace Go.Proofs.YtdhcigiaidlmbaaGreatDoor.Enc
open Go Go.RowKit Bin Cos
set_option linter.unusedVariables false
/-- the numbers that a statement makes of any. -/
def mkM (z : Int) : Nat := (z % 5).toNat + 6
instance (z : Int) : Pl.Mid (mkM z) := ⟨by unfold mkM; omega, by unfold mkM; omega⟩
instance mid8 : Pl.Mid 8 := ⟨by decide, by decide⟩
theorem onlyCd (w : World) (s : Nat) (a' b' c' d' e' : Value) : Only s w (((((w.setCell ⟨s, 0, none⟩ a').setCell ⟨s, 1, none⟩ b').setCell ⟨s, 2, none⟩ c').setCell ⟨s, 3, none⟩ d').setCell ⟨s, 4, none⟩ e') :=
  ((((Only.setCell w ⟨s, 0, none⟩ a').trans (Only.setCell _ ⟨s, 1, none⟩ b')).trans (Only.setCell _ ⟨s, 2, none⟩ c')).trans (Only.setCell _ ⟨s, 3, none⟩ d')).trans (Only.setCell _ ⟨s, 4, none⟩ e')
abbrev cd0 : Obj := cdO (.int .i64 0) (.int .i64 0) (.int .i64 0) (.slice none 0 0) (.int .i64 0)
section
variable {m : Nat} [M : Pl.Mid m]
end
end Go.Proofs.YtdhcigiaidlmbaaGreatDoor.Enc
/- made: the code that a statement of chapter 7 makes of any numbers. By the verifier of shale. -/
namespace Go.Proofs.YtdhcigiaidlmbaaGreatDoor.Enc
open Go Go.RowKit Bin Cos
set_option linter.unusedVariables false
/-- the numbers that a statement makes of any. -/
def mkM7 (z : Int) : Nat := (z % 4).toNat + 6
instance (z : Int) : Pl.Mid (mkM7 z) := ⟨by unfold mkM7; omega, by unfold mkM7; omega⟩
instance mid7 : Pl.Mid 7 := ⟨by decide, by decide⟩
end Go.Proofs.YtdhcigiaidlmbaaGreatDoor.Enc
/- The examples of chapter 6, as the statements ask them first of all. By the verifier of shale. -/
namespace Go.Proofs.YtdhcigiaidlmbaaGreatDoor.Enc
open Go Go.RowKit Bin Cos
set_option linter.unusedVariables false
instance mid5 : Pl.Mid 5 := ⟨by decide, by decide⟩
instance mid4 : Pl.Mid 4 := ⟨by decide, by decide⟩
theorem d5 : deg 5 2 = 10 := by decide +kernel
end Go.Proofs.YtdhcigiaidlmbaaGreatDoor.Enc
/- Small words for the walks of stage 6's statements. By the verifier of shale. -/
namespace Go.Proofs.YtdhcigiaidlmbaaGreatDoor.Enc
open Go Go.RowKit Bin Cos
set_option linter.unusedVariables false
theorem keepB {w w' : World} {g : Nat} {o : Obj} (h : w.heap[g]? = some o) (b : Below w.heap.size w w') : w'.heap[g]? = some o := (b.block g (lt_of_block h)).trans h
end Go.Proofs.YtdhcigiaidlmbaaGreatDoor.Enc
/- A turned coefficient, in data and parity. By the verifier of shale. -/
namespace Go.Proofs.YtdhcigiaidlmbaaGreatDoor.Enc
open Go Go.RowKit Bin Cos
set_option linter.unusedVariables false
section
variable {m : Nat} [M : Pl.Mid m]
end
theorem NewP.keep {w0 w w' : World} {a : Option Addr} {n c : Nat} {X : List (BitVec 8)} (h : NewP w0 w a n c X) (b : Below w.heap.size w w') : NewP w0 w' a n c X := by
  refine ⟨h.hlen, h.hcap, h.hmost, ?_⟩
  rcases h.own with h | ⟨g, e, hg, hx⟩
  · exact Or.inl h
  · exact Or.inr ⟨g, e, hg, hx.below b hx.lt⟩
end Go.Proofs.YtdhcigiaidlmbaaGreatDoor.Enc
/- The first steps of mending: a word's values, the polynomial of its places. By the verifier of shale. -/
namespace Go.Proofs.YtdhcigiaidlmbaaGreatDoor.Dec
open Go Go.RowKit Bin Pl Cos Enc Syn Loc Sea
set_option linter.unusedVariables false
/-- a word on its way in block b. -/
def wordAt (w : World) (b : Nat) (d p s l q : Value) : Prop := w.heap[b]? = some (.cells #[d, p, s, l, q] 176 (0, 0))
theorem wordAt.cells {w : World} {b : Nat} {d p s l q : Value} (h : wordAt w b d p s l q) :
    w.cell? ⟨b, 0, none⟩ = some d ∧ w.cell? ⟨b, 1, none⟩ = some p ∧ w.cell? ⟨b, 2, none⟩ = some s ∧ w.cell? ⟨b, 3, none⟩ = some l ∧ w.cell? ⟨b, 4, none⟩ = some q ∧ ∀ i, w.frozen? ⟨b, i, none⟩ = false := by
  have e : w.heap[b]? = _ := h
  refine ⟨?_, ?_, ?_, ?_, ?_, fun i => ?_⟩
  · unfold World.cell?; simp only; rw [e]; rfl
  · unfold World.cell?; simp only; rw [e]; rfl
  · unfold World.cell?; simp only; rw [e]; rfl
  · unfold World.cell?; simp only; rw [e]; rfl
  · unfold World.cell?; simp only; rw [e]; rfl
  · unfold World.frozen?; simp only; rw [e]; rfl
/-- a decoder of the code at s. -/
def decAt (w : World) (db s : Nat) : Prop := w.heap[db]? = some (.cells #[.pointer (some ⟨s, 0, none⟩)] 110 (0, 0))
theorem decAt.cell {w : World} {db s : Nat} (h : decAt w db s) : w.cell? ⟨db, 0, none⟩ = some (.pointer (some ⟨s, 0, none⟩)) := cell_of_one h
section
variable {m : Nat} [M : Pl.Mid m]
/-- what mending stands on. -/
structure Base (m t n : Nat) [M : Pl.Mid m] (w : World) (db s : Nat) (ym yz : Addr) : Prop where
  dec : decAt w db s
  code : CodeAt m t n w s
  many : ErrAt w 6 ym
  zero : ErrAt w 9 yz
  t1 : 1 ≤ t
  t40 : t ≤ 40
  n1 : 1 ≤ n
  n2048 : n ≤ 2048
  room : 8 * n + deg m t ≤ Fld.size m
theorem Base.below {t n : Nat} {w w' : World} {db s : Nat} {ym yz : Addr} (h : Base m t n w db s ym yz) (b : Below w.heap.size w w') : Base m t n w' db s ym yz :=
  ⟨(b.block _ (lt_of_block h.dec)).trans h.dec, h.code.below b, h.many.below b, h.zero.below b, h.t1, h.t40, h.n1, h.n2048, h.room⟩
/-- a word's number. -/
def wd (m t X Y : Nat) [M : Pl.Mid m] : Nat := wrd (deg m t) X (Y % 2 ^ deg m t)
end
end Go.Proofs.YtdhcigiaidlmbaaGreatDoor.Dec
/- The step of mending that turns the bits. By the verifier of shale. -/
namespace Go.Proofs.YtdhcigiaidlmbaaGreatDoor.Dec
open Go Go.RowKit Bin Pl Cos Enc Syn Loc Sea
set_option linter.unusedVariables false
/-- bytes in a block of their own, at base or above. -/
structure Fresh (B : Nat) (w : World) (a : Option Addr) (n c : Nat) (X : List (BitVec 8)) : Prop where
  hlen : n = X.length
  hcap : n ≤ c
  hmost : c ≤ maxLen
  own : ∃ g, a = some ⟨g, 0, none⟩ ∧ B ≤ g ∧ Buf8 w g X
theorem Fresh.pol {B : Nat} {w : World} {a : Option Addr} {n c : Nat} {X : List (BitVec 8)} (h : Fresh B w a n c X) : Pol w a n c X := by
  obtain ⟨g, rfl, hg, hb⟩ := h.own
  exact ⟨h.hlen, h.hcap, h.hmost, (fun e => by cases e), Or.inr ⟨g, 0, rfl, hb.row, hb.lt⟩⟩
theorem Fresh.same {B : Nat} {w w' : World} {a : Option Addr} {n c : Nat} {X : List (BitVec 8)} (h : Fresh B w a n c X) (k : ∀ g, a = some ⟨g, 0, none⟩ → g < w.heap.size → w'.heap[g]? = w.heap[g]?) : Fresh B w' a n c X := by
  obtain ⟨g, e, hg, hb⟩ := h.own
  have hl := hb.lt
  obtain ⟨cur, t, h1, h2⟩ := hb
  exact ⟨h.hlen, h.hcap, h.hmost, g, e, hg, cur, t, (k g e hl).trans h1, h2⟩
theorem Fresh.below {B : Nat} {w w' : World} {a : Option Addr} {n c : Nat} {X : List (BitVec 8)} (h : Fresh B w a n c X) (b : Below w.heap.size w w') : Fresh B w' a n c X := h.same fun g _ hl => b.block g hl
section
variable {m : Nat} [M : Pl.Mid m]
end
end Go.Proofs.YtdhcigiaidlmbaaGreatDoor.Dec
/- The step of mending that clears what no coefficient has. By the verifier of shale. -/
namespace Go.Proofs.YtdhcigiaidlmbaaGreatDoor.Dec
open Go Go.RowKit Bin Pl Cos Enc Syn Loc Sea
set_option linter.unusedVariables false
theorem Fresh.set {B : Nat} {w : World} {a : Option Addr} {n c g : Nat} {X : List (BitVec 8)} (h : Fresh B w a n c X) (e : a = some ⟨g, 0, none⟩) (i : Nat) (hi : i < n) (y : BitVec 8) : Fresh B (w.setCell ⟨g, i, none⟩ (.int .u8 (Bits32.b y))) a n c (X.set i y) := by
  obtain ⟨g', e', hg, hb⟩ := h.own
  rw [e] at e'
  cases e'
  exact ⟨by rw [List.length_set]; exact h.hlen, h.hcap, h.hmost, g, e, hg, hb.set i (by rw [← h.hlen]; exact hi) y⟩
section
variable {m : Nat} [M : Pl.Mid m]
end
end Go.Proofs.YtdhcigiaidlmbaaGreatDoor.Dec
/- Mending. By the verifier of shale. -/
namespace Go.Proofs.YtdhcigiaidlmbaaGreatDoor.Dec
open Go Go.RowKit Bin Pl Cos Enc Syn Loc Sea
set_option linter.unusedVariables false
/-- the list of the steps, in block b. -/
def stepsAt (w : World) (b db : Nat) : Prop := w.heap[b]? = some (.cells #[.func (.func 120) #[.pointer (some ⟨db, 0, none⟩)] #[], .func (.func 121) #[.pointer (some ⟨db, 0, none⟩)] #[], .func (.func 122) #[.pointer (some ⟨db, 0, none⟩)] #[], .func (.func 123) #[.pointer (some ⟨db, 0, none⟩)] #[], .func (.func 124) #[.pointer (some ⟨db, 0, none⟩)] #[]] 177 (0, 0))
theorem stepsAt.cells {w : World} {b db : Nat} (h : stepsAt w b db) :
    w.cell? ⟨b, 0, none⟩ = some (.func (.func 120) #[.pointer (some ⟨db, 0, none⟩)] #[]) ∧ w.cell? ⟨b, 1, none⟩ = some (.func (.func 121) #[.pointer (some ⟨db, 0, none⟩)] #[]) ∧ w.cell? ⟨b, 2, none⟩ = some (.func (.func 122) #[.pointer (some ⟨db, 0, none⟩)] #[]) ∧ w.cell? ⟨b, 3, none⟩ = some (.func (.func 123) #[.pointer (some ⟨db, 0, none⟩)] #[]) ∧ w.cell? ⟨b, 4, none⟩ = some (.func (.func 124) #[.pointer (some ⟨db, 0, none⟩)] #[]) := by
  have e : w.heap[b]? = _ := h
  refine ⟨?_, ?_, ?_, ?_, ?_⟩ <;> (unfold World.cell?; simp only; rw [e]; rfl)
/-- where a word stands on its way. -/
structure St (w W : World) (wb db n P : Nat) (d1 : Option Addr) (k1 : Nat) (X : List (BitVec 8)) (d2 : Option Addr) (k2 : Nat) (Y : List (BitVec 8)) (sv lv qv : Value) : Prop where
  word : wordAt W wb (.slice d1 n k1) (.slice d2 P k2) sv lv qv
  fX : Fresh w.heap.size W d1 n k1 X
  fY : Fresh w.heap.size W d2 P k2 Y
  bel : Below w.heap.size w W
  steps : stepsAt W (wb + 1) db
section
variable {m : Nat} [M : Pl.Mid m]
end
end Go.Proofs.YtdhcigiaidlmbaaGreatDoor.Dec
/- A new decoder, and its code. By the verifier of shale. -/
namespace Go.Proofs.YtdhcigiaidlmbaaGreatDoor.Enc
open Go Go.RowKit Bin Cos Dec
set_option linter.unusedVariables false
set_option maxRecDepth 100000 in
theorem newD_any (s : Nat) (w : World) : Calls Tryz.prog 36 #[.pointer (some ⟨s, 0, none⟩)] w fun e w' => ∃ db, e = .returned (.pointer (some ⟨db, 0, none⟩)) ∧ decAt w' db s ∧ Below w.heap.size w w' ∧ w.heap.size ≤ db := by
  have h1 : Hid (decAt (w.alloc (.cells #[.pointer (some ⟨s, 0, none⟩)] 110 (0, 0))) w.heap.size s ∧ Below w.heap.size w (w.alloc (.cells #[.pointer (some ⟨s, 0, none⟩)] 110 (0, 0)))) := ⟨heap_alloc_new w _, (Below.refl _ _).alloc (Nat.le_refl _) _⟩
  go_enter Tryz.func36, Tryz.ntmps36
  go_wp2_with fail
  go_ret
  exact ⟨_, rfl, h1.out.1, h1.out.2, Nat.le_refl _⟩
end Go.Proofs.YtdhcigiaidlmbaaGreatDoor.Enc
/- What New refuses, by both sides, over all arguments. By the verifier of shale. -/
namespace Go.Proofs.YtdhcigiaidlmbaaGreatDoor.Enc
open Go Go.RowKit Bin Cos
set_option linter.unusedVariables false
/-- an error and its number. -/
def SeeV (f : Nat → Addr) (v : Value) (c : Int) : Prop := (v = .nilIface ∧ c = 0) ∨ ∃ i, i < 19 ∧ v = errOf (f i) ∧ c = 101 + (i : Int)
theorem is_v {w : World} {f : Nat → Addr} (h : AllErrs w f) {v : Value} {c : Int} (s : SeeV f v c) : Calls Tryz.prog 14 #[v, .int .i64 c] w fun x w' => x = .returned (.bool true) ∧ Below w.heap.size w w' := by
  rcases s with ⟨rfl, rfl⟩ | ⟨i, hi, rfl, hc⟩
  · exact see_nil w
  · exact see_err w f h i hi c hc
set_option maxRecDepth 100000 in
set_option maxHeartbeats 400000 in
theorem new_least {a t z : Int} {y : Addr} {w : World} (H : Calls Tryz.prog 94 #[.int .i64 a, .int .i64 t] w fun e w' => e = .returned (.tuple #[.int .i64 0, errOf y]) ∧ Below w.heap.size w w') :
    Calls Tryz.prog 63 #[.int .i64 a, .int .i64 t, .int .i64 z] w fun e w' => e = .returned (.tuple #[.pointer none, errOf y]) ∧ Below w.heap.size w w' := by
  have HH := Lib.hid H
  clear H
  go_enter Tryz.func63, Tryz.ntmps63
  go_wp2_with fail
  refine HH.out.mono ?_
  rintro e w1 ⟨rfl, b⟩
  go_wp2_with fail
  go_ret2
  exact ⟨rfl, b⟩
set_option maxRecDepth 100000 in
set_option maxHeartbeats 400000 in
theorem rnew_least {a t z c : Int} (hc : c ≠ 0) (H : ∀ w, Calls Tryz.prog 61 #[.int .i64 a, .int .i64 t] w fun e w' => (∃ x n k, e = .returned (.tuple #[.int .i64 0, .slice x n k, .int .i64 c])) ∧ Below w.heap.size w w') (w : World) :
    Calls Tryz.prog 34 #[.int .i64 a, .int .i64 t, .int .i64 z] w fun e w' => e = .returned (.tuple #[cdZ, .int .i64 c]) ∧ Below w.heap.size w w' := by
  have t1 : (c == 0) = false := by rw [beq_eq_false_iff_ne]; exact hc
  have b0 : Below w.heap.size w (w.alloc (cdO (.int .i64 0) (.int .i64 0) (.int .i64 0) (.slice none 0 0) (.int .i64 0))) := (Below.refl _ _).alloc (Nat.le_refl _) _
  have hz : w.heap.size < (w.alloc (cdO (.int .i64 0) (.int .i64 0) (.int .i64 0) (.slice none 0 0) (.int .i64 0))).heap.size := by simp
  have hblk : (w.alloc (cdO (.int .i64 0) (.int .i64 0) (.int .i64 0) (.slice none 0 0) (.int .i64 0))).heap[w.heap.size]? = some (cdO (.int .i64 0) (.int .i64 0) (.int .i64 0) (.slice none 0 0) (.int .i64 0)) := heap_alloc_new w _
  have HI := Lib.hid (And.intro b0 (And.intro hz hblk))
  have HH := Lib.hid H
  clear b0 hz hblk H hc
  go_enter Tryz.func34, Tryz.ntmps34
  go_wp2_with fail
  obtain ⟨b0, hz, hblk⟩ := HI.out
  clear HI
  rw [show Obj.cells #[Value.int IntKind.i64 0, Value.int IntKind.i64 0, Value.int IntKind.i64 0, Value.slice none 0 0, Value.int IntKind.i64 0] 27 (0, 0) = cdO (.int .i64 0) (.int .i64 0) (.int .i64 0) (.slice none 0 0) (.int .i64 0) from rfl]
  generalize w.alloc (cdO (.int .i64 0) (.int .i64 0) (.int .i64 0) (.slice none 0 0) (.int .i64 0)) = w0 at b0 hz hblk ⊢
  refine (HH.out w0).mono ?_
  rintro e w1 ⟨⟨x, n, k, rfl⟩, B⟩
  have B1 := b0.trans (B.mono b0.size)
  have hb1 := (B.block _ hz).trans hblk
  obtain ⟨c0, c1', c2, c3, c4, cf⟩ := cd_cells hb1
  clear B b0 hblk hz hb1 HH
  go_wp2_with fail
  exact bodyPost_ret (v := .tuple #[cdZ, .int .i64 c]) (by simp [results, Tryz.results34, go_sem, c0, c1', c2, c3, c4]) rfl ⟨rfl, ((((B1.setCell (p := ⟨w.heap.size, 0, none⟩) (Nat.le_refl _) _).setCell (p := ⟨w.heap.size, 1, none⟩) (Nat.le_refl _) _).setCell (p := ⟨w.heap.size, 2, none⟩) (Nat.le_refl _) _).setCell (p := ⟨w.heap.size, 3, none⟩) (Nat.le_refl _) _).setCell (p := ⟨w.heap.size, 4, none⟩) (Nat.le_refl _) _⟩
section
variable {m : Nat} [M : Pl.Mid m]
set_option maxRecDepth 100000 in
set_option maxHeartbeats 400000 in
theorem new_long {t : Nat} (h1 : 1 ≤ t) (h2 : t ≤ 40) (hd : deg m t < sz m) (z : Int) (hz : z < 1 ∨ 2048 < z) (w : World) (y yl : Addr) (E : ErrAt w 4 y) (EL : ErrAt w 3 yl) :
    Calls Tryz.prog 63 #[.int .i64 (m : Int), .int .i64 (t : Int), .int .i64 z] w fun e w' => e = .returned (.tuple #[.pointer none, errOf yl]) ∧ Below w.heap.size w w' := by
  have t : decide (z < 1) = true ∨ (decide (z < 1) = false ∧ decide (2048 < z) = true) := by
    by_cases h : z < 1
    · exact Or.inl (decide_eq_true h)
    · exact Or.inr ⟨decide_eq_false h, decide_eq_true (by omega)⟩
  have HD := Lib.hid hd
  clear hz hd
  rcases t with t1 | ⟨t1, t2⟩
  all_goals
    go_enter Tryz.func63, Tryz.ntmps63
    go_wp2_with fail
    refine (least_any m _ M.lo M.hi h1 h2 w y E).mono ?_
    rintro e w1 (⟨hd, rfl, B⟩ | ⟨hd, rfl, B⟩)
    rotate_left
    · exact absurd hd (by have := HD.out; unfold deg at this; omega)
    have e1 := (EL.below B).1
    unfold Sent at e1
    clear hd E EL
    go_wp2_with fail
    go_quiet (fail)
    have hd2 := B.trans ((Drawn.mk w1 nq).below w.heap.size)
    generalize w1.drewN nq = w5 at hd2 ⊢
    clear e1
    go_wp2_with fail
    go_ret2
    exact ⟨rfl, hd2⟩
set_option maxRecDepth 100000 in
set_option maxHeartbeats 400000 in
theorem rnew_long {t : Nat} (h1 : 1 ≤ t) (h2 : t ≤ 40) (hd : deg m t < sz m) (z : Int) (hz : z < 1 ∨ 2048 < z) (w : World) :
    Calls Tryz.prog 34 #[.int .i64 (m : Int), .int .i64 (t : Int), .int .i64 z] w fun e w' => e = .returned (.tuple #[cdZ, .int .i64 104]) ∧ Below w.heap.size w w' := by
  have t : decide (z < 1) = true ∨ (decide (z < 1) = false ∧ decide (2048 < z) = true) := by
    by_cases h : z < 1
    · exact Or.inl (decide_eq_true h)
    · exact Or.inr ⟨decide_eq_false h, decide_eq_true (by omega)⟩
  have HD := Lib.hid hd
  have b0 : Below w.heap.size w (w.alloc (cdO (.int .i64 0) (.int .i64 0) (.int .i64 0) (.slice none 0 0) (.int .i64 0))) := (Below.refl _ _).alloc (Nat.le_refl _) _
  have hz' : w.heap.size < (w.alloc (cdO (.int .i64 0) (.int .i64 0) (.int .i64 0) (.slice none 0 0) (.int .i64 0))).heap.size := by simp
  have hblk : (w.alloc (cdO (.int .i64 0) (.int .i64 0) (.int .i64 0) (.slice none 0 0) (.int .i64 0))).heap[w.heap.size]? = some (cdO (.int .i64 0) (.int .i64 0) (.int .i64 0) (.slice none 0 0) (.int .i64 0)) := heap_alloc_new w _
  have HI := Lib.hid (And.intro b0 (And.intro hz' hblk))
  clear hz hd b0 hz' hblk
  rcases t with t1 | ⟨t1, t2⟩
  all_goals
    go_enter Tryz.func34, Tryz.ntmps34
    go_wp2_with fail
    obtain ⟨b0, hz, hblk⟩ := HI.out
    clear HI
    rw [show Obj.cells #[Value.int IntKind.i64 0, Value.int IntKind.i64 0, Value.int IntKind.i64 0, Value.slice none 0 0, Value.int IntKind.i64 0] 27 (0, 0) = cdO (.int .i64 0) (.int .i64 0) (.int .i64 0) (.slice none 0 0) (.int .i64 0) from rfl]
    generalize w.alloc (cdO (.int .i64 0) (.int .i64 0) (.int .i64 0) (.slice none 0 0) (.int .i64 0)) = w0 at b0 hz hblk ⊢
    refine (rleast_any m _ M.lo M.hi h1 h2 w0).mono ?_
    rintro e w1 (⟨hd, a1, n1', k1, rfl, R, B⟩ | ⟨hd, rfl, B⟩)
    rotate_left
    · exact absurd hd (by have := HD.out; unfold deg at this; omega)
    have B1 := b0.trans (B.mono b0.size)
    have hb1 := (B.block _ hz).trans hblk
    obtain ⟨c0, c1', c2, c3, c4, cf⟩ := cd_cells hb1
    clear hd R B b0 hblk hz hb1
    go_wp2_with fail
    exact bodyPost_ret (v := .tuple #[cdZ, .int .i64 104]) (by simp [results, Tryz.results34, go_sem, c0, c1', c2, c3, c4]) rfl ⟨rfl, ((((B1.setCell (p := ⟨w.heap.size, 0, none⟩) (Nat.le_refl _) _).setCell (p := ⟨w.heap.size, 1, none⟩) (Nat.le_refl _) _).setCell (p := ⟨w.heap.size, 2, none⟩) (Nat.le_refl _) _).setCell (p := ⟨w.heap.size, 3, none⟩) (Nat.le_refl _) _).setCell (p := ⟨w.heap.size, 4, none⟩) (Nat.le_refl _) _⟩
end
/-- what New is, by both sides, whatever it is asked. -/
theorem new_cases (a t z : Int) (f : Nat → Addr) :
    (∃ (m t' n : Nat) (M : Pl.Mid m), a = (m : Int) ∧ t = (t' : Int) ∧ z = (n : Int) ∧ May m t' n) ∨
    (∃ (v : Value) (c : Int), SeeV f v c ∧ c ≠ 0 ∧ v ≠ .nilIface ∧ (∃ y, v = errOf y) ∧
      (∀ w, AllErrs w f → Calls Tryz.prog 63 #[.int .i64 a, .int .i64 t, .int .i64 z] w fun e w' => e = .returned (.tuple #[.pointer none, v]) ∧ Below w.heap.size w w') ∧
      (∀ w, Calls Tryz.prog 34 #[.int .i64 a, .int .i64 t, .int .i64 z] w fun e w' => e = .returned (.tuple #[cdZ, .int .i64 c]) ∧ Below w.heap.size w w')) := by
  by_cases ha : a < 3 ∨ 14 < a
  · refine Or.inr ⟨errOf (f 0), 101, Or.inr ⟨0, by decide, rfl, rfl⟩, by decide, by simp, ⟨_, rfl⟩, fun w h => ?_, fun w => ?_⟩
    · exact new_least ((least_bad a t w (f 0) (needed_m a t ha w (f 0) h.1.1)).mono fun e w' ⟨h1, d⟩ => ⟨h1, d.below _⟩)
    · exact rnew_least (by decide) (fun w => (rleast_m a t ha w).mono fun e w' ⟨h1, h2⟩ => ⟨⟨_, _, _, h1⟩, by rw [← h2]; exact Below.refl _ _⟩) w
  · by_cases ht : t < 1 ∨ 40 < t
    · refine Or.inr ⟨errOf (f 1), 102, Or.inr ⟨1, by decide, rfl, rfl⟩, by decide, by simp, ⟨_, rfl⟩, fun w h => ?_, fun w => ?_⟩
      · exact new_least ((least_bad a t w (f 1) (needed_t a t (by omega) ht w (f 1) h.1.2.1)).mono fun e w' ⟨h1, d⟩ => ⟨h1, d.below _⟩)
      · exact rnew_least (by decide) (fun w => (rleast_t a t (by omega) ht w).mono fun e w' ⟨h1, h2⟩ => ⟨⟨_, _, _, h1⟩, by rw [← h2]; exact Below.refl _ _⟩) w
    · obtain ⟨m, rfl⟩ : ∃ m : Nat, a = (m : Int) := ⟨a.toNat, by omega⟩
      obtain ⟨t, rfl⟩ : ∃ k : Nat, t = (k : Int) := ⟨t.toNat, by omega⟩
      haveI M : Pl.Mid m := ⟨by omega, by omega⟩
      by_cases hd : deg m t < sz m
      · by_cases hz : z < 1 ∨ 2048 < z
        · exact Or.inr ⟨errOf (f 3), 104, Or.inr ⟨3, by decide, rfl, rfl⟩, by decide, by simp, ⟨_, rfl⟩, fun w h => new_long (m := m) (by omega) (by omega) hd z hz w (f 4) (f 3) h.1.2.2.2.2.1 h.1.2.2.2.1, fun w => rnew_long (m := m) (by omega) (by omega) hd z hz w⟩
        · obtain ⟨n, rfl⟩ : ∃ n : Nat, z = (n : Int) := ⟨z.toNat, by omega⟩
          rcases may_or m t n (by omega) (by omega) (by omega) (by omega) with h | h
          · exact Or.inl ⟨m, t, n, M, rfl, rfl, rfl, h⟩
          · exact Or.inr ⟨errOf (f 4), 105, Or.inr ⟨4, by decide, rfl, rfl⟩, by decide, by simp, ⟨_, rfl⟩, fun w h' => new_no (m := m) h w (f 4) h'.1.2.2.2.2.1, fun w => rnew_no (m := m) h w⟩
      · refine Or.inr ⟨errOf (f 4), 105, Or.inr ⟨4, by decide, rfl, rfl⟩, by decide, by simp, ⟨_, rfl⟩, fun w h => ?_, fun w => ?_⟩
        · refine new_least ((least_any m t M.lo M.hi (by omega) (by omega) w (f 4) h.1.2.2.2.2.1).mono ?_)
          rintro e w' (⟨h2, _⟩ | ⟨_, rfl, b⟩)
          · exact absurd h2 hd
          · exact ⟨rfl, b⟩
        · refine rnew_least (by decide) (fun w => (rleast_any m t M.lo M.hi (by omega) (by omega) w).mono ?_) w
          rintro e w' (⟨h2, _⟩ | ⟨_, rfl, b⟩)
          · exact absurd h2 hd
          · exact ⟨⟨_, _, _, rfl⟩, b⟩
end Go.Proofs.YtdhcigiaidlmbaaGreatDoor.Enc
/- Geometries: which may be, how many sectors they have. By the verifier of shale. -/
namespace Go.Proofs.YtdhcigiaidlmbaaGreatDoor.Pg
open Go Go.RowKit Bin Pl Cos Enc
set_option linter.unusedVariables false
/-- is a number within bounds? -/
def inB (n a b : Int) : Bool := decide (a ≤ n) && decide (n ≤ b)
theorem inB_iff {n a b : Int} : inB n a b = true ↔ a ≤ n ∧ n ≤ b := by unfold inB; simp
theorem inB_no {n a b : Int} (h : ¬ (a ≤ n ∧ n ≤ b)) : inB n a b = false := by
  cases hb : inB n a b
  · rfl
  · exact absurd (inB_iff.1 hb) h
/-- are all numbers of a geometry within their bounds? -/
def inAll (g0 g1 g2 g3 g4 g5 g6 g7 g8 : Int) : Prop := (8 ≤ g0 ∧ g0 ≤ 64) ∧ (3 ≤ g1 ∧ g1 ≤ 64) ∧ (16 ≤ g2 ∧ g2 ≤ 1024) ∧ (3 ≤ g3 ∧ g3 ≤ 14) ∧ (1 ≤ g4 ∧ g4 ≤ 16) ∧ (1 ≤ g5 ∧ g5 ≤ 8) ∧ (0 ≤ g6 ∧ g6 ≤ (g0 - 8)) ∧ (2 ≤ g7 ∧ g7 ≤ 1000) ∧ (1 ≤ g8 ∧ g8 ≤ (min (2 * (g1 - 1) - 1) 64))
instance (g0 g1 g2 g3 g4 g5 g6 g7 g8 : Int) : Decidable (inAll g0 g1 g2 g3 g4 g5 g6 g7 g8) := by unfold inAll; infer_instance
/-- how many sectors a disk has. -/
def secs (g0 g1 g2 g3 g4 g5 g6 g7 g8 : Int) : Int := if inAll g0 g1 g2 g3 g4 g5 g6 g7 g8 then max 0 ((g1 - 1) * (g0 - g6 - 6) - g0 - g1 - 1) else 0
set_option maxHeartbeats 400000 in
theorem in_any (n a b : Int) (w : World) : Calls Tryz.prog 66 #[.int .i64 n, .int .i64 a, .int .i64 b] w fun e w' => e = .returned (.bool (inB n a b)) ∧ w = w' := by
  by_cases h1 : a ≤ n
  · have t1 : decide (a ≤ n) = true := decide_eq_true h1
    by_cases h2 : n ≤ b
    · have t2 : decide (n ≤ b) = true := decide_eq_true h2
      have HE : Hid (inB n a b = true) := inB_iff.2 ⟨h1, h2⟩
      go_enter Tryz.func66, Tryz.ntmps66
      go_wp2_with fail
      go_ret
      rw [HE.out]
      exact ⟨rfl, rfl⟩
    · have t2 : decide (n ≤ b) = false := decide_eq_false h2
      have HE : Hid (inB n a b = false) := inB_no fun h => h2 h.2
      go_enter Tryz.func66, Tryz.ntmps66
      go_wp2_with fail
      go_ret
      rw [HE.out]
      exact ⟨rfl, rfl⟩
  · have t1 : decide (a ≤ n) = false := decide_eq_false h1
    have HE : Hid (inB n a b = false) := inB_no fun h => h1 h.1
    go_enter Tryz.func66, Tryz.ntmps66
    go_wp2_with fail
    go_ret
    rw [HE.out]
    exact ⟨rfl, rfl⟩
set_option maxRecDepth 100000 in
set_option maxHeartbeats 1000000 in
theorem within_0 (g0 g1 g2 g3 g4 g5 g6 g7 g8 : Int)  (c : ¬ (8 ≤ g0 ∧ g0 ≤ 64)) (w : World) (h1 : g1 ≤ 9223372036854775807) (h1l : -9223372036854775808 ≤ g1) : Calls Tryz.prog 39 #[.agg #[.int .i64 g0, .int .i64 g1, .int .i64 g2, .int .i64 g3, .int .i64 g4, .int .i64 g5, .int .i64 g6, .int .i64 g7, .int .i64 g8]] w fun e w' => e = .returned (.bool false) ∧ Below w.heap.size w w' := by
  have b0 : inB g0 8 64 = false := inB_no c
  clear c
  go_enter Tryz.func39, Tryz.ntmps39
  go_wp2_with (go_at_call 66; (with_reducible refine (in_any _ _ _ _).mono ?_); rintro e w' ⟨rfl, rfl⟩)
  go_ret
  exact ⟨rfl, (Below.refl _ _).alloc (Nat.le_refl _) _⟩
set_option maxRecDepth 100000 in
set_option maxHeartbeats 1000000 in
theorem within_1 (g0 g1 g2 g3 g4 g5 g6 g7 g8 : Int) (l0 : 8 ≤ g0) (u0 : g0 ≤ 64) (c : ¬ (3 ≤ g1 ∧ g1 ≤ 64)) (w : World) (h1 : g1 ≤ 9223372036854775807) (h1l : -9223372036854775808 ≤ g1) : Calls Tryz.prog 39 #[.agg #[.int .i64 g0, .int .i64 g1, .int .i64 g2, .int .i64 g3, .int .i64 g4, .int .i64 g5, .int .i64 g6, .int .i64 g7, .int .i64 g8]] w fun e w' => e = .returned (.bool false) ∧ Below w.heap.size w w' := by
  have b0 : inB g0 8 64 = true := inB_iff.2 ⟨l0, u0⟩
  have b1 : inB g1 3 64 = false := inB_no c
  clear c
  go_enter Tryz.func39, Tryz.ntmps39
  go_wp2_with (go_at_call 66; (with_reducible refine (in_any _ _ _ _).mono ?_); rintro e w' ⟨rfl, rfl⟩)
  go_ret
  exact ⟨rfl, (Below.refl _ _).alloc (Nat.le_refl _) _⟩
set_option maxRecDepth 100000 in
set_option maxHeartbeats 1000000 in
theorem within_2 (g0 g1 g2 g3 g4 g5 g6 g7 g8 : Int) (l0 : 8 ≤ g0) (u0 : g0 ≤ 64) (l1 : 3 ≤ g1) (u1 : g1 ≤ 64) (c : ¬ (16 ≤ g2 ∧ g2 ≤ 1024)) (w : World) (h1 : g1 ≤ 9223372036854775807) (h1l : -9223372036854775808 ≤ g1) : Calls Tryz.prog 39 #[.agg #[.int .i64 g0, .int .i64 g1, .int .i64 g2, .int .i64 g3, .int .i64 g4, .int .i64 g5, .int .i64 g6, .int .i64 g7, .int .i64 g8]] w fun e w' => e = .returned (.bool false) ∧ Below w.heap.size w w' := by
  have b0 : inB g0 8 64 = true := inB_iff.2 ⟨l0, u0⟩
  have b1 : inB g1 3 64 = true := inB_iff.2 ⟨l1, u1⟩
  have b2 : inB g2 16 1024 = false := inB_no c
  clear c
  go_enter Tryz.func39, Tryz.ntmps39
  go_wp2_with (go_at_call 66; (with_reducible refine (in_any _ _ _ _).mono ?_); rintro e w' ⟨rfl, rfl⟩)
  go_ret
  exact ⟨rfl, (Below.refl _ _).alloc (Nat.le_refl _) _⟩
set_option maxRecDepth 100000 in
set_option maxHeartbeats 1000000 in
theorem within_3 (g0 g1 g2 g3 g4 g5 g6 g7 g8 : Int) (l0 : 8 ≤ g0) (u0 : g0 ≤ 64) (l1 : 3 ≤ g1) (u1 : g1 ≤ 64) (l2 : 16 ≤ g2) (u2 : g2 ≤ 1024) (c : ¬ (3 ≤ g3 ∧ g3 ≤ 14)) (w : World) (h1 : g1 ≤ 9223372036854775807) (h1l : -9223372036854775808 ≤ g1) : Calls Tryz.prog 39 #[.agg #[.int .i64 g0, .int .i64 g1, .int .i64 g2, .int .i64 g3, .int .i64 g4, .int .i64 g5, .int .i64 g6, .int .i64 g7, .int .i64 g8]] w fun e w' => e = .returned (.bool false) ∧ Below w.heap.size w w' := by
  have b0 : inB g0 8 64 = true := inB_iff.2 ⟨l0, u0⟩
  have b1 : inB g1 3 64 = true := inB_iff.2 ⟨l1, u1⟩
  have b2 : inB g2 16 1024 = true := inB_iff.2 ⟨l2, u2⟩
  have b3 : inB g3 3 14 = false := inB_no c
  clear c
  go_enter Tryz.func39, Tryz.ntmps39
  go_wp2_with (go_at_call 66; (with_reducible refine (in_any _ _ _ _).mono ?_); rintro e w' ⟨rfl, rfl⟩)
  go_ret
  exact ⟨rfl, (Below.refl _ _).alloc (Nat.le_refl _) _⟩
set_option maxRecDepth 100000 in
set_option maxHeartbeats 1000000 in
theorem within_4 (g0 g1 g2 g3 g4 g5 g6 g7 g8 : Int) (l0 : 8 ≤ g0) (u0 : g0 ≤ 64) (l1 : 3 ≤ g1) (u1 : g1 ≤ 64) (l2 : 16 ≤ g2) (u2 : g2 ≤ 1024) (l3 : 3 ≤ g3) (u3 : g3 ≤ 14) (c : ¬ (1 ≤ g4 ∧ g4 ≤ 16)) (w : World) (h1 : g1 ≤ 9223372036854775807) (h1l : -9223372036854775808 ≤ g1) : Calls Tryz.prog 39 #[.agg #[.int .i64 g0, .int .i64 g1, .int .i64 g2, .int .i64 g3, .int .i64 g4, .int .i64 g5, .int .i64 g6, .int .i64 g7, .int .i64 g8]] w fun e w' => e = .returned (.bool false) ∧ Below w.heap.size w w' := by
  have b0 : inB g0 8 64 = true := inB_iff.2 ⟨l0, u0⟩
  have b1 : inB g1 3 64 = true := inB_iff.2 ⟨l1, u1⟩
  have b2 : inB g2 16 1024 = true := inB_iff.2 ⟨l2, u2⟩
  have b3 : inB g3 3 14 = true := inB_iff.2 ⟨l3, u3⟩
  have b4 : inB g4 1 16 = false := inB_no c
  clear c
  go_enter Tryz.func39, Tryz.ntmps39
  go_wp2_with (go_at_call 66; (with_reducible refine (in_any _ _ _ _).mono ?_); rintro e w' ⟨rfl, rfl⟩)
  go_ret
  exact ⟨rfl, (Below.refl _ _).alloc (Nat.le_refl _) _⟩
set_option maxRecDepth 100000 in
set_option maxHeartbeats 1000000 in
theorem within_5 (g0 g1 g2 g3 g4 g5 g6 g7 g8 : Int) (l0 : 8 ≤ g0) (u0 : g0 ≤ 64) (l1 : 3 ≤ g1) (u1 : g1 ≤ 64) (l2 : 16 ≤ g2) (u2 : g2 ≤ 1024) (l3 : 3 ≤ g3) (u3 : g3 ≤ 14) (l4 : 1 ≤ g4) (u4 : g4 ≤ 16) (c : ¬ (1 ≤ g5 ∧ g5 ≤ 8)) (w : World) (h1 : g1 ≤ 9223372036854775807) (h1l : -9223372036854775808 ≤ g1) : Calls Tryz.prog 39 #[.agg #[.int .i64 g0, .int .i64 g1, .int .i64 g2, .int .i64 g3, .int .i64 g4, .int .i64 g5, .int .i64 g6, .int .i64 g7, .int .i64 g8]] w fun e w' => e = .returned (.bool false) ∧ Below w.heap.size w w' := by
  have b0 : inB g0 8 64 = true := inB_iff.2 ⟨l0, u0⟩
  have b1 : inB g1 3 64 = true := inB_iff.2 ⟨l1, u1⟩
  have b2 : inB g2 16 1024 = true := inB_iff.2 ⟨l2, u2⟩
  have b3 : inB g3 3 14 = true := inB_iff.2 ⟨l3, u3⟩
  have b4 : inB g4 1 16 = true := inB_iff.2 ⟨l4, u4⟩
  have b5 : inB g5 1 8 = false := inB_no c
  clear c
  go_enter Tryz.func39, Tryz.ntmps39
  go_wp2_with (go_at_call 66; (with_reducible refine (in_any _ _ _ _).mono ?_); rintro e w' ⟨rfl, rfl⟩)
  go_ret
  exact ⟨rfl, (Below.refl _ _).alloc (Nat.le_refl _) _⟩
set_option maxRecDepth 100000 in
set_option maxHeartbeats 1000000 in
theorem within_6 (g0 g1 g2 g3 g4 g5 g6 g7 g8 : Int) (l0 : 8 ≤ g0) (u0 : g0 ≤ 64) (l1 : 3 ≤ g1) (u1 : g1 ≤ 64) (l2 : 16 ≤ g2) (u2 : g2 ≤ 1024) (l3 : 3 ≤ g3) (u3 : g3 ≤ 14) (l4 : 1 ≤ g4) (u4 : g4 ≤ 16) (l5 : 1 ≤ g5) (u5 : g5 ≤ 8) (c : ¬ (0 ≤ g6 ∧ g6 ≤ (g0 - 8))) (w : World) (h1 : g1 ≤ 9223372036854775807) (h1l : -9223372036854775808 ≤ g1) : Calls Tryz.prog 39 #[.agg #[.int .i64 g0, .int .i64 g1, .int .i64 g2, .int .i64 g3, .int .i64 g4, .int .i64 g5, .int .i64 g6, .int .i64 g7, .int .i64 g8]] w fun e w' => e = .returned (.bool false) ∧ Below w.heap.size w w' := by
  have b0 : inB g0 8 64 = true := inB_iff.2 ⟨l0, u0⟩
  have b1 : inB g1 3 64 = true := inB_iff.2 ⟨l1, u1⟩
  have b2 : inB g2 16 1024 = true := inB_iff.2 ⟨l2, u2⟩
  have b3 : inB g3 3 14 = true := inB_iff.2 ⟨l3, u3⟩
  have b4 : inB g4 1 16 = true := inB_iff.2 ⟨l4, u4⟩
  have b5 : inB g5 1 8 = true := inB_iff.2 ⟨l5, u5⟩
  have b6 : inB g6 0 (g0 - 8) = false := inB_no c
  clear c
  go_enter Tryz.func39, Tryz.ntmps39
  go_wp2_with (go_at_call 66; (with_reducible refine (in_any _ _ _ _).mono ?_); rintro e w' ⟨rfl, rfl⟩)
  go_ret
  exact ⟨rfl, (Below.refl _ _).alloc (Nat.le_refl _) _⟩
set_option maxRecDepth 100000 in
set_option maxHeartbeats 1000000 in
theorem within_7 (g0 g1 g2 g3 g4 g5 g6 g7 g8 : Int) (l0 : 8 ≤ g0) (u0 : g0 ≤ 64) (l1 : 3 ≤ g1) (u1 : g1 ≤ 64) (l2 : 16 ≤ g2) (u2 : g2 ≤ 1024) (l3 : 3 ≤ g3) (u3 : g3 ≤ 14) (l4 : 1 ≤ g4) (u4 : g4 ≤ 16) (l5 : 1 ≤ g5) (u5 : g5 ≤ 8) (l6 : 0 ≤ g6) (u6 : g6 ≤ (g0 - 8)) (c : ¬ (2 ≤ g7 ∧ g7 ≤ 1000)) (w : World) (h1 : g1 ≤ 9223372036854775807) (h1l : -9223372036854775808 ≤ g1) : Calls Tryz.prog 39 #[.agg #[.int .i64 g0, .int .i64 g1, .int .i64 g2, .int .i64 g3, .int .i64 g4, .int .i64 g5, .int .i64 g6, .int .i64 g7, .int .i64 g8]] w fun e w' => e = .returned (.bool false) ∧ Below w.heap.size w w' := by
  have b0 : inB g0 8 64 = true := inB_iff.2 ⟨l0, u0⟩
  have b1 : inB g1 3 64 = true := inB_iff.2 ⟨l1, u1⟩
  have b2 : inB g2 16 1024 = true := inB_iff.2 ⟨l2, u2⟩
  have b3 : inB g3 3 14 = true := inB_iff.2 ⟨l3, u3⟩
  have b4 : inB g4 1 16 = true := inB_iff.2 ⟨l4, u4⟩
  have b5 : inB g5 1 8 = true := inB_iff.2 ⟨l5, u5⟩
  have b6 : inB g6 0 (g0 - 8) = true := inB_iff.2 ⟨l6, u6⟩
  have b7 : inB g7 2 1000 = false := inB_no c
  clear c
  go_enter Tryz.func39, Tryz.ntmps39
  go_wp2_with (go_at_call 66; (with_reducible refine (in_any _ _ _ _).mono ?_); rintro e w' ⟨rfl, rfl⟩)
  go_ret
  exact ⟨rfl, (Below.refl _ _).alloc (Nat.le_refl _) _⟩
set_option maxRecDepth 100000 in
set_option maxHeartbeats 1000000 in
theorem within_8 (g0 g1 g2 g3 g4 g5 g6 g7 g8 : Int) (mb : Int) (hmb : mb = min (2 * (g1 - 1) - 1) 64) (l0 : 8 ≤ g0) (u0 : g0 ≤ 64) (l1 : 3 ≤ g1) (u1 : g1 ≤ 64) (l2 : 16 ≤ g2) (u2 : g2 ≤ 1024) (l3 : 3 ≤ g3) (u3 : g3 ≤ 14) (l4 : 1 ≤ g4) (u4 : g4 ≤ 16) (l5 : 1 ≤ g5) (u5 : g5 ≤ 8) (l6 : 0 ≤ g6) (u6 : g6 ≤ (g0 - 8)) (l7 : 2 ≤ g7) (u7 : g7 ≤ 1000) (c : ¬ (1 ≤ g8 ∧ g8 ≤ mb)) (w : World) (h1 : g1 ≤ 9223372036854775807) (h1l : -9223372036854775808 ≤ g1) : Calls Tryz.prog 39 #[.agg #[.int .i64 g0, .int .i64 g1, .int .i64 g2, .int .i64 g3, .int .i64 g4, .int .i64 g5, .int .i64 g6, .int .i64 g7, .int .i64 g8]] w fun e w' => e = .returned (.bool false) ∧ Below w.heap.size w w' := by
  have b0 : inB g0 8 64 = true := inB_iff.2 ⟨l0, u0⟩
  have b1 : inB g1 3 64 = true := inB_iff.2 ⟨l1, u1⟩
  have b2 : inB g2 16 1024 = true := inB_iff.2 ⟨l2, u2⟩
  have b3 : inB g3 3 14 = true := inB_iff.2 ⟨l3, u3⟩
  have b4 : inB g4 1 16 = true := inB_iff.2 ⟨l4, u4⟩
  have b5 : inB g5 1 8 = true := inB_iff.2 ⟨l5, u5⟩
  have b6 : inB g6 0 (g0 - 8) = true := inB_iff.2 ⟨l6, u6⟩
  have b7 : inB g7 2 1000 = true := inB_iff.2 ⟨l7, u7⟩
  have b8 : inB g8 1 mb = false := inB_no c
  clear c
  have m1 : min (2 * (g1 - 1) - 1) 64 = mb := hmb.symm
  have m2 : (if (64 : Int) < 2 * (g1 - 1) - 1 then (64 : Int) else 2 * (g1 - 1) - 1) = mb := by rw [hmb]; split <;> omega
  clear hmb
  go_enter Tryz.func39, Tryz.ntmps39
  go_wp2_with (go_at_call 66; (with_reducible refine (in_any _ _ _ _).mono ?_); rintro e w' ⟨rfl, rfl⟩)
  go_ret
  exact ⟨rfl, (Below.refl _ _).alloc (Nat.le_refl _) _⟩
set_option maxRecDepth 100000 in
set_option maxHeartbeats 1000000 in
theorem within_yes (g0 g1 g2 g3 g4 g5 g6 g7 g8 : Int) (mb : Int) (hmb : mb = min (2 * (g1 - 1) - 1) 64) (l0 : 8 ≤ g0) (u0 : g0 ≤ 64) (l1 : 3 ≤ g1) (u1 : g1 ≤ 64) (l2 : 16 ≤ g2) (u2 : g2 ≤ 1024) (l3 : 3 ≤ g3) (u3 : g3 ≤ 14) (l4 : 1 ≤ g4) (u4 : g4 ≤ 16) (l5 : 1 ≤ g5) (u5 : g5 ≤ 8) (l6 : 0 ≤ g6) (u6 : g6 ≤ (g0 - 8)) (l7 : 2 ≤ g7) (u7 : g7 ≤ 1000) (l8 : 1 ≤ g8) (u8 : g8 ≤ mb) (w : World) (h1 : g1 ≤ 9223372036854775807) (h1l : -9223372036854775808 ≤ g1) : Calls Tryz.prog 39 #[.agg #[.int .i64 g0, .int .i64 g1, .int .i64 g2, .int .i64 g3, .int .i64 g4, .int .i64 g5, .int .i64 g6, .int .i64 g7, .int .i64 g8]] w fun e w' => e = .returned (.bool true) ∧ Below w.heap.size w w' := by
  have b0 : inB g0 8 64 = true := inB_iff.2 ⟨l0, u0⟩
  have b1 : inB g1 3 64 = true := inB_iff.2 ⟨l1, u1⟩
  have b2 : inB g2 16 1024 = true := inB_iff.2 ⟨l2, u2⟩
  have b3 : inB g3 3 14 = true := inB_iff.2 ⟨l3, u3⟩
  have b4 : inB g4 1 16 = true := inB_iff.2 ⟨l4, u4⟩
  have b5 : inB g5 1 8 = true := inB_iff.2 ⟨l5, u5⟩
  have b6 : inB g6 0 (g0 - 8) = true := inB_iff.2 ⟨l6, u6⟩
  have b7 : inB g7 2 1000 = true := inB_iff.2 ⟨l7, u7⟩
  have b8 : inB g8 1 mb = true := inB_iff.2 ⟨l8, u8⟩
  have m1 : min (2 * (g1 - 1) - 1) 64 = mb := hmb.symm
  have m2 : (if (64 : Int) < 2 * (g1 - 1) - 1 then (64 : Int) else 2 * (g1 - 1) - 1) = mb := by rw [hmb]; split <;> omega
  clear hmb
  go_enter Tryz.func39, Tryz.ntmps39
  go_wp2_with (go_at_call 66; (with_reducible refine (in_any _ _ _ _).mono ?_); rintro e w' ⟨rfl, rfl⟩)
  go_ret
  exact ⟨rfl, (Below.refl _ _).alloc (Nat.le_refl _) _⟩
theorem within_any (g0 g1 g2 g3 g4 g5 g6 g7 g8 : Int) (w : World) (h1 : g1 ≤ 9223372036854775807) (h1l : -9223372036854775808 ≤ g1) : Calls Tryz.prog 39 #[.agg #[.int .i64 g0, .int .i64 g1, .int .i64 g2, .int .i64 g3, .int .i64 g4, .int .i64 g5, .int .i64 g6, .int .i64 g7, .int .i64 g8]] w fun e w' => e = .returned (.bool (decide (inAll g0 g1 g2 g3 g4 g5 g6 g7 g8))) ∧ Below w.heap.size w w' := by
  by_cases c0 : 8 ≤ g0 ∧ g0 ≤ 64
  · skip
    by_cases c1 : 3 ≤ g1 ∧ g1 ≤ 64
    · skip
      by_cases c2 : 16 ≤ g2 ∧ g2 ≤ 1024
      · skip
        by_cases c3 : 3 ≤ g3 ∧ g3 ≤ 14
        · skip
          by_cases c4 : 1 ≤ g4 ∧ g4 ≤ 16
          · skip
            by_cases c5 : 1 ≤ g5 ∧ g5 ≤ 8
            · skip
              by_cases c6 : 0 ≤ g6 ∧ g6 ≤ (g0 - 8)
              · skip
                by_cases c7 : 2 ≤ g7 ∧ g7 ≤ 1000
                · skip
                  by_cases c8 : 1 ≤ g8 ∧ g8 ≤ (min (2 * (g1 - 1) - 1) 64)
                  · skip
                    have HE : decide (inAll g0 g1 g2 g3 g4 g5 g6 g7 g8) = true := decide_eq_true (by unfold inAll; exact ⟨c0, c1, c2, c3, c4, c5, c6, c7, c8⟩)
                    rw [HE]
                    exact within_yes g0 g1 g2 g3 g4 g5 g6 g7 g8 _ rfl c0.1 c0.2 c1.1 c1.2 c2.1 c2.2 c3.1 c3.2 c4.1 c4.2 c5.1 c5.2 c6.1 c6.2 c7.1 c7.2 c8.1 c8.2 w h1 h1l
                  · have HE : decide (inAll g0 g1 g2 g3 g4 g5 g6 g7 g8) = false := decide_eq_false (by unfold inAll; exact fun h => c8 (h.2.2.2.2.2.2.2.2))
                    rw [HE]
                    exact within_8 g0 g1 g2 g3 g4 g5 g6 g7 g8 _ rfl c0.1 c0.2 c1.1 c1.2 c2.1 c2.2 c3.1 c3.2 c4.1 c4.2 c5.1 c5.2 c6.1 c6.2 c7.1 c7.2 c8 w h1 h1l
                · have HE : decide (inAll g0 g1 g2 g3 g4 g5 g6 g7 g8) = false := decide_eq_false (by unfold inAll; exact fun h => c7 (h.2.2.2.2.2.2.2.1))
                  rw [HE]
                  exact within_7 g0 g1 g2 g3 g4 g5 g6 g7 g8 c0.1 c0.2 c1.1 c1.2 c2.1 c2.2 c3.1 c3.2 c4.1 c4.2 c5.1 c5.2 c6.1 c6.2 c7 w h1 h1l
              · have HE : decide (inAll g0 g1 g2 g3 g4 g5 g6 g7 g8) = false := decide_eq_false (by unfold inAll; exact fun h => c6 (h.2.2.2.2.2.2.1))
                rw [HE]
                exact within_6 g0 g1 g2 g3 g4 g5 g6 g7 g8 c0.1 c0.2 c1.1 c1.2 c2.1 c2.2 c3.1 c3.2 c4.1 c4.2 c5.1 c5.2 c6 w h1 h1l
            · have HE : decide (inAll g0 g1 g2 g3 g4 g5 g6 g7 g8) = false := decide_eq_false (by unfold inAll; exact fun h => c5 (h.2.2.2.2.2.1))
              rw [HE]
              exact within_5 g0 g1 g2 g3 g4 g5 g6 g7 g8 c0.1 c0.2 c1.1 c1.2 c2.1 c2.2 c3.1 c3.2 c4.1 c4.2 c5 w h1 h1l
          · have HE : decide (inAll g0 g1 g2 g3 g4 g5 g6 g7 g8) = false := decide_eq_false (by unfold inAll; exact fun h => c4 (h.2.2.2.2.1))
            rw [HE]
            exact within_4 g0 g1 g2 g3 g4 g5 g6 g7 g8 c0.1 c0.2 c1.1 c1.2 c2.1 c2.2 c3.1 c3.2 c4 w h1 h1l
        · have HE : decide (inAll g0 g1 g2 g3 g4 g5 g6 g7 g8) = false := decide_eq_false (by unfold inAll; exact fun h => c3 (h.2.2.2.1))
          rw [HE]
          exact within_3 g0 g1 g2 g3 g4 g5 g6 g7 g8 c0.1 c0.2 c1.1 c1.2 c2.1 c2.2 c3 w h1 h1l
      · have HE : decide (inAll g0 g1 g2 g3 g4 g5 g6 g7 g8) = false := decide_eq_false (by unfold inAll; exact fun h => c2 (h.2.2.1))
        rw [HE]
        exact within_2 g0 g1 g2 g3 g4 g5 g6 g7 g8 c0.1 c0.2 c1.1 c1.2 c2 w h1 h1l
    · have HE : decide (inAll g0 g1 g2 g3 g4 g5 g6 g7 g8) = false := decide_eq_false (by unfold inAll; exact fun h => c1 (h.2.1))
      rw [HE]
      exact within_1 g0 g1 g2 g3 g4 g5 g6 g7 g8 c0.1 c0.2 c1 w h1 h1l
  · have HE : decide (inAll g0 g1 g2 g3 g4 g5 g6 g7 g8) = false := decide_eq_false (by unfold inAll; exact fun h => c0 (h.1))
    rw [HE]
    exact within_0 g0 g1 g2 g3 g4 g5 g6 g7 g8  c0 w h1 h1l
end Go.Proofs.YtdhcigiaidlmbaaGreatDoor.Pg
/- Geometries: how many sectors they have. By the verifier of shale. -/
namespace Go.Proofs.YtdhcigiaidlmbaaGreatDoor.Pg
open Go Go.RowKit Bin Pl Cos Enc
set_option linter.unusedVariables false
/-- a geometry in a block of its own. -/
def gO (g0 g1 g2 g3 g4 g5 g6 g7 g8 : Int) : Obj := .cells #[.int .i64 g0, .int .i64 g1, .int .i64 g2, .int .i64 g3, .int .i64 g4, .int .i64 g5, .int .i64 g6, .int .i64 g7, .int .i64 g8] 23 (0, 0)
theorem g_cells {w : World} {b : Nat} {g0 g1 g2 g3 g4 g5 g6 g7 g8 : Int} (h : w.heap[b]? = some (gO g0 g1 g2 g3 g4 g5 g6 g7 g8)) : w.cell? ⟨b, 0, none⟩ = some (.int .i64 g0) ∧ w.cell? ⟨b, 1, none⟩ = some (.int .i64 g1) ∧ w.cell? ⟨b, 2, none⟩ = some (.int .i64 g2) ∧ w.cell? ⟨b, 3, none⟩ = some (.int .i64 g3) ∧ w.cell? ⟨b, 4, none⟩ = some (.int .i64 g4) ∧ w.cell? ⟨b, 5, none⟩ = some (.int .i64 g5) ∧ w.cell? ⟨b, 6, none⟩ = some (.int .i64 g6) ∧ w.cell? ⟨b, 7, none⟩ = some (.int .i64 g7) ∧ w.cell? ⟨b, 8, none⟩ = some (.int .i64 g8) := by
  refine ⟨?_, ?_, ?_, ?_, ?_, ?_, ?_, ?_, ?_⟩ <;> (unfold World.cell?; simp only; rw [h]; rfl)
theorem newG (w W : World) (g0 g1 g2 g3 g4 g5 g6 g7 g8 : Int) (h : w.alloc (.cells #[.int .i64 g0, .int .i64 g1, .int .i64 g2, .int .i64 g3, .int .i64 g4, .int .i64 g5, .int .i64 g6, .int .i64 g7, .int .i64 g8] 23 (0, 0)) = W) : W.heap[w.heap.size]? = some (gO g0 g1 g2 g3 g4 g5 g6 g7 g8) ∧ Below w.heap.size w W := by
  subst h
  exact ⟨heap_alloc_new w _, (Below.refl _ _).alloc (Nat.le_refl _) _⟩
theorem keepG {w w' : World} {b : Nat} {o : Obj} (h : w.heap[b]? = some o) (l : Below w.heap.size w w') : w'.heap[b]? = some o := (l.block b (lt_of_block h)).trans h
theorem int_same {a b : Int} (h : a = b) : Ending.returned (.int .i64 a) = .returned (.int .i64 b) := by rw [h]
set_option maxRecDepth 100000 in
set_option maxHeartbeats 1000000 in
theorem secs_any (g0 g1 g2 g3 g4 g5 g6 g7 g8 : Int) (w : World) (h1 : g1 ≤ 9223372036854775807) (h1l : -9223372036854775808 ≤ g1) : Calls Tryz.prog 15 #[.agg #[.int .i64 g0, .int .i64 g1, .int .i64 g2, .int .i64 g3, .int .i64 g4, .int .i64 g5, .int .i64 g6, .int .i64 g7, .int .i64 g8]] w fun e w' => e = .returned (.int .i64 (secs g0 g1 g2 g3 g4 g5 g6 g7 g8)) ∧ Below w.heap.size w w' := by
  have HW := Lib.hid (fun W => within_any g0 g1 g2 g3 g4 g5 g6 g7 g8 W h1 h1l)
  go_enter Tryz.func15, Tryz.ntmps15
  go_wp2_with fail
  generalize hw : w.alloc (.cells #[.int .i64 g0, .int .i64 g1, .int .i64 g2, .int .i64 g3, .int .i64 g4, .int .i64 g5, .int .i64 g6, .int .i64 g7, .int .i64 g8] 23 (0, 0)) = w1
  obtain ⟨K, B⟩ := newG w w1 _ _ _ _ _ _ _ _ _ hw
  clear hw
  obtain ⟨bg, hbg⟩ : ∃ bg, bg = w.heap.size := ⟨_, rfl⟩
  rw [← hbg] at K ⊢
  clear hbg
  refine (HW.out _).mono ?_
  rintro e w2 ⟨rfl, b⟩
  replace K := keepG K b
  replace B := B.trans (b.mono B.size)
  obtain ⟨e0, e1, e2, e3, e4, e5, e6, e7, e8⟩ := g_cells K
  clear K b
  by_cases h : inAll g0 g1 g2 g3 g4 g5 g6 g7 g8
  · have HE : Hid (secs g0 g1 g2 g3 g4 g5 g6 g7 g8 = max 0 ((g1 - 1) * (g0 - g6 - 6) - g0 - g1 - 1)) := by unfold Hid; unfold secs; rw [if_pos h]
    have HD := decide_eq_true h
    rw [HD]
    clear HD
    obtain ⟨⟨l0, u0⟩, ⟨l1, u1⟩, _, _, _, _, ⟨l6, u6⟩, _⟩ := h
    obtain ⟨q, hq⟩ : ∃ q, q = (g1 - 1) * (g0 - g6 - 6) := ⟨_, rfl⟩
    have q1 : -(63 * 6) ≤ q := by rw [hq]; have := Int.mul_le_mul_of_nonneg_left (show -6 ≤ g0 - g6 - 6 by omega) (show 0 ≤ g1 - 1 by omega); omega
    have q2 : q ≤ 63 * 58 := by rw [hq]; have := Int.mul_le_mul_of_nonneg_left (show g0 - g6 - 6 ≤ 58 by omega) (show 0 ≤ g1 - 1 by omega); omega
    have q3 : (g1 - 1) * (g0 - g6 - 6) = q := hq.symm
    have q4 : wrap64 q = q := IntWalk.wrap64_in _ (by omega)
    have m2 : (if (0 : Int) < q - g0 - g1 - 1 then q - g0 - g1 - 1 else (0 : Int)) = max 0 (q - g0 - g1 - 1) := by split <;> omega
    rw [← hq] at HE
    clear hq
    go_wp2_with fail
    go_ret
    exact ⟨int_same (by rw [HE.out]), B⟩
  · have HE : Hid (secs g0 g1 g2 g3 g4 g5 g6 g7 g8 = 0) := by unfold Hid; unfold secs; rw [if_neg h]
    rw [decide_eq_false h]
    clear h
    go_wp2_with fail
    go_ret
    rw [HE.out]
    exact ⟨rfl, B⟩
end Go.Proofs.YtdhcigiaidlmbaaGreatDoor.Pg
/- Geometries: how many sectors the document says. By the verifier of shale. -/
namespace Go.Proofs.YtdhcigiaidlmbaaGreatDoor.Pg
open Go Go.RowKit Bin Pl Cos Enc
set_option linter.unusedVariables false
set_option maxRecDepth 100000 in
set_option maxHeartbeats 2000000 in
theorem rsecs_0 (g0 g1 g2 g3 g4 g5 g6 g7 g8 : Int) (c : g0 < 8) (w : World) : Calls Tryz.prog 16 #[.agg #[.int .i64 g0, .int .i64 g1, .int .i64 g2, .int .i64 g3, .int .i64 g4, .int .i64 g5, .int .i64 g6, .int .i64 g7, .int .i64 g8]] w fun e w' => e = .returned (.int .i64 0) ∧ Below w.heap.size w w' := by
  have d0 : decide (g0 < 8) = true := decide_eq_true c
  go_enter Tryz.func16, Tryz.ntmps16
  go_wp2_with fail
  go_ret
  exact ⟨rfl, (Below.refl _ _).alloc (Nat.le_refl _) _⟩
set_option maxRecDepth 100000 in
set_option maxHeartbeats 2000000 in
theorem rsecs_1 (g0 g1 g2 g3 g4 g5 g6 g7 g8 : Int) (n0 : ¬ (g0 < 8)) (c : 64 < g0) (w : World) : Calls Tryz.prog 16 #[.agg #[.int .i64 g0, .int .i64 g1, .int .i64 g2, .int .i64 g3, .int .i64 g4, .int .i64 g5, .int .i64 g6, .int .i64 g7, .int .i64 g8]] w fun e w' => e = .returned (.int .i64 0) ∧ Below w.heap.size w w' := by
  have x0 : ¬ (g0 < 8) := n0
  have d0 : decide (g0 < 8) = false := decide_eq_false n0
  have l0 : 8 ≤ g0 := by omega
  have d1 : decide (64 < g0) = true := decide_eq_true c
  clear n0
  go_enter Tryz.func16, Tryz.ntmps16
  go_wp2_with fail
  go_ret
  exact ⟨rfl, (Below.refl _ _).alloc (Nat.le_refl _) _⟩
set_option maxRecDepth 100000 in
set_option maxHeartbeats 2000000 in
theorem rsecs_2 (g0 g1 g2 g3 g4 g5 g6 g7 g8 : Int) (n0 : ¬ (g0 < 8)) (n1 : ¬ (64 < g0)) (c : g1 < 3) (w : World) : Calls Tryz.prog 16 #[.agg #[.int .i64 g0, .int .i64 g1, .int .i64 g2, .int .i64 g3, .int .i64 g4, .int .i64 g5, .int .i64 g6, .int .i64 g7, .int .i64 g8]] w fun e w' => e = .returned (.int .i64 0) ∧ Below w.heap.size w w' := by
  have x0 : ¬ (g0 < 8) := n0
  have d0 : decide (g0 < 8) = false := decide_eq_false n0
  have l0 : 8 ≤ g0 := by omega
  have x1 : ¬ (64 < g0) := n1
  have d1 : decide (64 < g0) = false := decide_eq_false n1
  have l1 : g0 ≤ 64 := by omega
  have d2 : decide (g1 < 3) = true := decide_eq_true c
  clear n0 n1
  go_enter Tryz.func16, Tryz.ntmps16
  go_wp2_with fail
  go_ret
  exact ⟨rfl, (Below.refl _ _).alloc (Nat.le_refl _) _⟩
set_option maxRecDepth 100000 in
set_option maxHeartbeats 2000000 in
theorem rsecs_3 (g0 g1 g2 g3 g4 g5 g6 g7 g8 : Int) (n0 : ¬ (g0 < 8)) (n1 : ¬ (64 < g0)) (n2 : ¬ (g1 < 3)) (c : 64 < g1) (w : World) : Calls Tryz.prog 16 #[.agg #[.int .i64 g0, .int .i64 g1, .int .i64 g2, .int .i64 g3, .int .i64 g4, .int .i64 g5, .int .i64 g6, .int .i64 g7, .int .i64 g8]] w fun e w' => e = .returned (.int .i64 0) ∧ Below w.heap.size w w' := by
  have x0 : ¬ (g0 < 8) := n0
  have d0 : decide (g0 < 8) = false := decide_eq_false n0
  have l0 : 8 ≤ g0 := by omega
  have x1 : ¬ (64 < g0) := n1
  have d1 : decide (64 < g0) = false := decide_eq_false n1
  have l1 : g0 ≤ 64 := by omega
  have x2 : ¬ (g1 < 3) := n2
  have d2 : decide (g1 < 3) = false := decide_eq_false n2
  have l2 : 3 ≤ g1 := by omega
  have d3 : decide (64 < g1) = true := decide_eq_true c
  clear n0 n1 n2
  go_enter Tryz.func16, Tryz.ntmps16
  go_wp2_with fail
  go_ret
  exact ⟨rfl, (Below.refl _ _).alloc (Nat.le_refl _) _⟩
set_option maxRecDepth 100000 in
set_option maxHeartbeats 2000000 in
theorem rsecs_4 (g0 g1 g2 g3 g4 g5 g6 g7 g8 : Int) (n0 : ¬ (g0 < 8)) (n1 : ¬ (64 < g0)) (n2 : ¬ (g1 < 3)) (n3 : ¬ (64 < g1)) (c : g2 < 16) (w : World) : Calls Tryz.prog 16 #[.agg #[.int .i64 g0, .int .i64 g1, .int .i64 g2, .int .i64 g3, .int .i64 g4, .int .i64 g5, .int .i64 g6, .int .i64 g7, .int .i64 g8]] w fun e w' => e = .returned (.int .i64 0) ∧ Below w.heap.size w w' := by
  have x0 : ¬ (g0 < 8) := n0
  have d0 : decide (g0 < 8) = false := decide_eq_false n0
  have l0 : 8 ≤ g0 := by omega
  have x1 : ¬ (64 < g0) := n1
  have d1 : decide (64 < g0) = false := decide_eq_false n1
  have l1 : g0 ≤ 64 := by omega
  have x2 : ¬ (g1 < 3) := n2
  have d2 : decide (g1 < 3) = false := decide_eq_false n2
  have l2 : 3 ≤ g1 := by omega
  have x3 : ¬ (64 < g1) := n3
  have d3 : decide (64 < g1) = false := decide_eq_false n3
  have l3 : g1 ≤ 64 := by omega
  have d4 : decide (g2 < 16) = true := decide_eq_true c
  clear n0 n1 n2 n3
  go_enter Tryz.func16, Tryz.ntmps16
  go_wp2_with fail
  go_ret
  exact ⟨rfl, (Below.refl _ _).alloc (Nat.le_refl _) _⟩
set_option maxRecDepth 100000 in
set_option maxHeartbeats 2000000 in
theorem rsecs_5 (g0 g1 g2 g3 g4 g5 g6 g7 g8 : Int) (n0 : ¬ (g0 < 8)) (n1 : ¬ (64 < g0)) (n2 : ¬ (g1 < 3)) (n3 : ¬ (64 < g1)) (n4 : ¬ (g2 < 16)) (c : 1024 < g2) (w : World) : Calls Tryz.prog 16 #[.agg #[.int .i64 g0, .int .i64 g1, .int .i64 g2, .int .i64 g3, .int .i64 g4, .int .i64 g5, .int .i64 g6, .int .i64 g7, .int .i64 g8]] w fun e w' => e = .returned (.int .i64 0) ∧ Below w.heap.size w w' := by
  have x0 : ¬ (g0 < 8) := n0
  have d0 : decide (g0 < 8) = false := decide_eq_false n0
  have l0 : 8 ≤ g0 := by omega
  have x1 : ¬ (64 < g0) := n1
  have d1 : decide (64 < g0) = false := decide_eq_false n1
  have l1 : g0 ≤ 64 := by omega
  have x2 : ¬ (g1 < 3) := n2
  have d2 : decide (g1 < 3) = false := decide_eq_false n2
  have l2 : 3 ≤ g1 := by omega
  have x3 : ¬ (64 < g1) := n3
  have d3 : decide (64 < g1) = false := decide_eq_false n3
  have l3 : g1 ≤ 64 := by omega
  have x4 : ¬ (g2 < 16) := n4
  have d4 : decide (g2 < 16) = false := decide_eq_false n4
  have l4 : 16 ≤ g2 := by omega
  have d5 : decide (1024 < g2) = true := decide_eq_true c
  clear n0 n1 n2 n3 n4
  go_enter Tryz.func16, Tryz.ntmps16
  go_wp2_with fail
  go_ret
  exact ⟨rfl, (Below.refl _ _).alloc (Nat.le_refl _) _⟩
set_option maxRecDepth 100000 in
set_option maxHeartbeats 2000000 in
theorem rsecs_6 (g0 g1 g2 g3 g4 g5 g6 g7 g8 : Int) (n0 : ¬ (g0 < 8)) (n1 : ¬ (64 < g0)) (n2 : ¬ (g1 < 3)) (n3 : ¬ (64 < g1)) (n4 : ¬ (g2 < 16)) (n5 : ¬ (1024 < g2)) (c : g3 < 3) (w : World) : Calls Tryz.prog 16 #[.agg #[.int .i64 g0, .int .i64 g1, .int .i64 g2, .int .i64 g3, .int .i64 g4, .int .i64 g5, .int .i64 g6, .int .i64 g7, .int .i64 g8]] w fun e w' => e = .returned (.int .i64 0) ∧ Below w.heap.size w w' := by
  have x0 : ¬ (g0 < 8) := n0
  have d0 : decide (g0 < 8) = false := decide_eq_false n0
  have l0 : 8 ≤ g0 := by omega
  have x1 : ¬ (64 < g0) := n1
  have d1 : decide (64 < g0) = false := decide_eq_false n1
  have l1 : g0 ≤ 64 := by omega
  have x2 : ¬ (g1 < 3) := n2
  have d2 : decide (g1 < 3) = false := decide_eq_false n2
  have l2 : 3 ≤ g1 := by omega
  have x3 : ¬ (64 < g1) := n3
  have d3 : decide (64 < g1) = false := decide_eq_false n3
  have l3 : g1 ≤ 64 := by omega
  have x4 : ¬ (g2 < 16) := n4
  have d4 : decide (g2 < 16) = false := decide_eq_false n4
  have l4 : 16 ≤ g2 := by omega
  have x5 : ¬ (1024 < g2) := n5
  have d5 : decide (1024 < g2) = false := decide_eq_false n5
  have l5 : g2 ≤ 1024 := by omega
  have d6 : decide (g3 < 3) = true := decide_eq_true c
  clear n0 n1 n2 n3 n4 n5
  go_enter Tryz.func16, Tryz.ntmps16
  go_wp2_with fail
  go_ret
  exact ⟨rfl, (Below.refl _ _).alloc (Nat.le_refl _) _⟩
set_option maxRecDepth 100000 in
set_option maxHeartbeats 2000000 in
theorem rsecs_7 (g0 g1 g2 g3 g4 g5 g6 g7 g8 : Int) (n0 : ¬ (g0 < 8)) (n1 : ¬ (64 < g0)) (n2 : ¬ (g1 < 3)) (n3 : ¬ (64 < g1)) (n4 : ¬ (g2 < 16)) (n5 : ¬ (1024 < g2)) (n6 : ¬ (g3 < 3)) (c : 14 < g3) (w : World) : Calls Tryz.prog 16 #[.agg #[.int .i64 g0, .int .i64 g1, .int .i64 g2, .int .i64 g3, .int .i64 g4, .int .i64 g5, .int .i64 g6, .int .i64 g7, .int .i64 g8]] w fun e w' => e = .returned (.int .i64 0) ∧ Below w.heap.size w w' := by
  have x0 : ¬ (g0 < 8) := n0
  have d0 : decide (g0 < 8) = false := decide_eq_false n0
  have l0 : 8 ≤ g0 := by omega
  have x1 : ¬ (64 < g0) := n1
  have d1 : decide (64 < g0) = false := decide_eq_false n1
  have l1 : g0 ≤ 64 := by omega
  have x2 : ¬ (g1 < 3) := n2
  have d2 : decide (g1 < 3) = false := decide_eq_false n2
  have l2 : 3 ≤ g1 := by omega
  have x3 : ¬ (64 < g1) := n3
  have d3 : decide (64 < g1) = false := decide_eq_false n3
  have l3 : g1 ≤ 64 := by omega
  have x4 : ¬ (g2 < 16) := n4
  have d4 : decide (g2 < 16) = false := decide_eq_false n4
  have l4 : 16 ≤ g2 := by omega
  have x5 : ¬ (1024 < g2) := n5
  have d5 : decide (1024 < g2) = false := decide_eq_false n5
  have l5 : g2 ≤ 1024 := by omega
  have x6 : ¬ (g3 < 3) := n6
  have d6 : decide (g3 < 3) = false := decide_eq_false n6
  have l6 : 3 ≤ g3 := by omega
  have d7 : decide (14 < g3) = true := decide_eq_true c
  clear n0 n1 n2 n3 n4 n5 n6
  go_enter Tryz.func16, Tryz.ntmps16
  go_wp2_with fail
  go_ret
  exact ⟨rfl, (Below.refl _ _).alloc (Nat.le_refl _) _⟩
set_option maxRecDepth 100000 in
set_option maxHeartbeats 2000000 in
theorem rsecs_8 (g0 g1 g2 g3 g4 g5 g6 g7 g8 : Int) (n0 : ¬ (g0 < 8)) (n1 : ¬ (64 < g0)) (n2 : ¬ (g1 < 3)) (n3 : ¬ (64 < g1)) (n4 : ¬ (g2 < 16)) (n5 : ¬ (1024 < g2)) (n6 : ¬ (g3 < 3)) (n7 : ¬ (14 < g3)) (c : g4 < 1) (w : World) : Calls Tryz.prog 16 #[.agg #[.int .i64 g0, .int .i64 g1, .int .i64 g2, .int .i64 g3, .int .i64 g4, .int .i64 g5, .int .i64 g6, .int .i64 g7, .int .i64 g8]] w fun e w' => e = .returned (.int .i64 0) ∧ Below w.heap.size w w' := by
  have x0 : ¬ (g0 < 8) := n0
  have d0 : decide (g0 < 8) = false := decide_eq_false n0
  have l0 : 8 ≤ g0 := by omega
  have x1 : ¬ (64 < g0) := n1
  have d1 : decide (64 < g0) = false := decide_eq_false n1
  have l1 : g0 ≤ 64 := by omega
  have x2 : ¬ (g1 < 3) := n2
  have d2 : decide (g1 < 3) = false := decide_eq_false n2
  have l2 : 3 ≤ g1 := by omega
  have x3 : ¬ (64 < g1) := n3
  have d3 : decide (64 < g1) = false := decide_eq_false n3
  have l3 : g1 ≤ 64 := by omega
  have x4 : ¬ (g2 < 16) := n4
  have d4 : decide (g2 < 16) = false := decide_eq_false n4
  have l4 : 16 ≤ g2 := by omega
  have x5 : ¬ (1024 < g2) := n5
  have d5 : decide (1024 < g2) = false := decide_eq_false n5
  have l5 : g2 ≤ 1024 := by omega
  have x6 : ¬ (g3 < 3) := n6
  have d6 : decide (g3 < 3) = false := decide_eq_false n6
  have l6 : 3 ≤ g3 := by omega
  have x7 : ¬ (14 < g3) := n7
  have d7 : decide (14 < g3) = false := decide_eq_false n7
  have l7 : g3 ≤ 14 := by omega
  have d8 : decide (g4 < 1) = true := decide_eq_true c
  clear n0 n1 n2 n3 n4 n5 n6 n7
  go_enter Tryz.func16, Tryz.ntmps16
  go_wp2_with fail
  go_ret
  exact ⟨rfl, (Below.refl _ _).alloc (Nat.le_refl _) _⟩
set_option maxRecDepth 100000 in
set_option maxHeartbeats 2000000 in
theorem rsecs_9 (g0 g1 g2 g3 g4 g5 g6 g7 g8 : Int) (n0 : ¬ (g0 < 8)) (n1 : ¬ (64 < g0)) (n2 : ¬ (g1 < 3)) (n3 : ¬ (64 < g1)) (n4 : ¬ (g2 < 16)) (n5 : ¬ (1024 < g2)) (n6 : ¬ (g3 < 3)) (n7 : ¬ (14 < g3)) (n8 : ¬ (g4 < 1)) (c : 16 < g4) (w : World) : Calls Tryz.prog 16 #[.agg #[.int .i64 g0, .int .i64 g1, .int .i64 g2, .int .i64 g3, .int .i64 g4, .int .i64 g5, .int .i64 g6, .int .i64 g7, .int .i64 g8]] w fun e w' => e = .returned (.int .i64 0) ∧ Below w.heap.size w w' := by
  have x0 : ¬ (g0 < 8) := n0
  have d0 : decide (g0 < 8) = false := decide_eq_false n0
  have l0 : 8 ≤ g0 := by omega
  have x1 : ¬ (64 < g0) := n1
  have d1 : decide (64 < g0) = false := decide_eq_false n1
  have l1 : g0 ≤ 64 := by omega
  have x2 : ¬ (g1 < 3) := n2
  have d2 : decide (g1 < 3) = false := decide_eq_false n2
  have l2 : 3 ≤ g1 := by omega
  have x3 : ¬ (64 < g1) := n3
  have d3 : decide (64 < g1) = false := decide_eq_false n3
  have l3 : g1 ≤ 64 := by omega
  have x4 : ¬ (g2 < 16) := n4
  have d4 : decide (g2 < 16) = false := decide_eq_false n4
  have l4 : 16 ≤ g2 := by omega
  have x5 : ¬ (1024 < g2) := n5
  have d5 : decide (1024 < g2) = false := decide_eq_false n5
  have l5 : g2 ≤ 1024 := by omega
  have x6 : ¬ (g3 < 3) := n6
  have d6 : decide (g3 < 3) = false := decide_eq_false n6
  have l6 : 3 ≤ g3 := by omega
  have x7 : ¬ (14 < g3) := n7
  have d7 : decide (14 < g3) = false := decide_eq_false n7
  have l7 : g3 ≤ 14 := by omega
  have x8 : ¬ (g4 < 1) := n8
  have d8 : decide (g4 < 1) = false := decide_eq_false n8
  have l8 : 1 ≤ g4 := by omega
  have d9 : decide (16 < g4) = true := decide_eq_true c
  clear n0 n1 n2 n3 n4 n5 n6 n7 n8
  go_enter Tryz.func16, Tryz.ntmps16
  go_wp2_with fail
  go_ret
  exact ⟨rfl, (Below.refl _ _).alloc (Nat.le_refl _) _⟩
set_option maxRecDepth 100000 in
set_option maxHeartbeats 2000000 in
theorem rsecs_10 (g0 g1 g2 g3 g4 g5 g6 g7 g8 : Int) (n0 : ¬ (g0 < 8)) (n1 : ¬ (64 < g0)) (n2 : ¬ (g1 < 3)) (n3 : ¬ (64 < g1)) (n4 : ¬ (g2 < 16)) (n5 : ¬ (1024 < g2)) (n6 : ¬ (g3 < 3)) (n7 : ¬ (14 < g3)) (n8 : ¬ (g4 < 1)) (n9 : ¬ (16 < g4)) (c : g5 < 1) (w : World) : Calls Tryz.prog 16 #[.agg #[.int .i64 g0, .int .i64 g1, .int .i64 g2, .int .i64 g3, .int .i64 g4, .int .i64 g5, .int .i64 g6, .int .i64 g7, .int .i64 g8]] w fun e w' => e = .returned (.int .i64 0) ∧ Below w.heap.size w w' := by
  have x0 : ¬ (g0 < 8) := n0
  have d0 : decide (g0 < 8) = false := decide_eq_false n0
  have l0 : 8 ≤ g0 := by omega
  have x1 : ¬ (64 < g0) := n1
  have d1 : decide (64 < g0) = false := decide_eq_false n1
  have l1 : g0 ≤ 64 := by omega
  have x2 : ¬ (g1 < 3) := n2
  have d2 : decide (g1 < 3) = false := decide_eq_false n2
  have l2 : 3 ≤ g1 := by omega
  have x3 : ¬ (64 < g1) := n3
  have d3 : decide (64 < g1) = false := decide_eq_false n3
  have l3 : g1 ≤ 64 := by omega
  have x4 : ¬ (g2 < 16) := n4
  have d4 : decide (g2 < 16) = false := decide_eq_false n4
  have l4 : 16 ≤ g2 := by omega
  have x5 : ¬ (1024 < g2) := n5
  have d5 : decide (1024 < g2) = false := decide_eq_false n5
  have l5 : g2 ≤ 1024 := by omega
  have x6 : ¬ (g3 < 3) := n6
  have d6 : decide (g3 < 3) = false := decide_eq_false n6
  have l6 : 3 ≤ g3 := by omega
  have x7 : ¬ (14 < g3) := n7
  have d7 : decide (14 < g3) = false := decide_eq_false n7
  have l7 : g3 ≤ 14 := by omega
  have x8 : ¬ (g4 < 1) := n8
  have d8 : decide (g4 < 1) = false := decide_eq_false n8
  have l8 : 1 ≤ g4 := by omega
  have x9 : ¬ (16 < g4) := n9
  have d9 : decide (16 < g4) = false := decide_eq_false n9
  have l9 : g4 ≤ 16 := by omega
  have d10 : decide (g5 < 1) = true := decide_eq_true c
  clear n0 n1 n2 n3 n4 n5 n6 n7 n8 n9
  go_enter Tryz.func16, Tryz.ntmps16
  go_wp2_with fail
  go_ret
  exact ⟨rfl, (Below.refl _ _).alloc (Nat.le_refl _) _⟩
set_option maxRecDepth 100000 in
set_option maxHeartbeats 2000000 in
theorem rsecs_11 (g0 g1 g2 g3 g4 g5 g6 g7 g8 : Int) (n0 : ¬ (g0 < 8)) (n1 : ¬ (64 < g0)) (n2 : ¬ (g1 < 3)) (n3 : ¬ (64 < g1)) (n4 : ¬ (g2 < 16)) (n5 : ¬ (1024 < g2)) (n6 : ¬ (g3 < 3)) (n7 : ¬ (14 < g3)) (n8 : ¬ (g4 < 1)) (n9 : ¬ (16 < g4)) (n10 : ¬ (g5 < 1)) (c : 8 < g5) (w : World) : Calls Tryz.prog 16 #[.agg #[.int .i64 g0, .int .i64 g1, .int .i64 g2, .int .i64 g3, .int .i64 g4, .int .i64 g5, .int .i64 g6, .int .i64 g7, .int .i64 g8]] w fun e w' => e = .returned (.int .i64 0) ∧ Below w.heap.size w w' := by
  have x0 : ¬ (g0 < 8) := n0
  have d0 : decide (g0 < 8) = false := decide_eq_false n0
  have l0 : 8 ≤ g0 := by omega
  have x1 : ¬ (64 < g0) := n1
  have d1 : decide (64 < g0) = false := decide_eq_false n1
  have l1 : g0 ≤ 64 := by omega
  have x2 : ¬ (g1 < 3) := n2
  have d2 : decide (g1 < 3) = false := decide_eq_false n2
  have l2 : 3 ≤ g1 := by omega
  have x3 : ¬ (64 < g1) := n3
  have d3 : decide (64 < g1) = false := decide_eq_false n3
  have l3 : g1 ≤ 64 := by omega
  have x4 : ¬ (g2 < 16) := n4
  have d4 : decide (g2 < 16) = false := decide_eq_false n4
  have l4 : 16 ≤ g2 := by omega
  have x5 : ¬ (1024 < g2) := n5
  have d5 : decide (1024 < g2) = false := decide_eq_false n5
  have l5 : g2 ≤ 1024 := by omega
  have x6 : ¬ (g3 < 3) := n6
  have d6 : decide (g3 < 3) = false := decide_eq_false n6
  have l6 : 3 ≤ g3 := by omega
  have x7 : ¬ (14 < g3) := n7
  have d7 : decide (14 < g3) = false := decide_eq_false n7
  have l7 : g3 ≤ 14 := by omega
  have x8 : ¬ (g4 < 1) := n8
  have d8 : decide (g4 < 1) = false := decide_eq_false n8
  have l8 : 1 ≤ g4 := by omega
  have x9 : ¬ (16 < g4) := n9
  have d9 : decide (16 < g4) = false := decide_eq_false n9
  have l9 : g4 ≤ 16 := by omega
  have x10 : ¬ (g5 < 1) := n10
  have d10 : decide (g5 < 1) = false := decide_eq_false n10
  have l10 : 1 ≤ g5 := by omega
  have d11 : decide (8 < g5) = true := decide_eq_true c
  clear n0 n1 n2 n3 n4 n5 n6 n7 n8 n9 n10
  go_enter Tryz.func16, Tryz.ntmps16
  go_wp2_with fail
  go_ret
  exact ⟨rfl, (Below.refl _ _).alloc (Nat.le_refl _) _⟩
set_option maxRecDepth 100000 in
set_option maxHeartbeats 2000000 in
theorem rsecs_12 (g0 g1 g2 g3 g4 g5 g6 g7 g8 : Int) (n0 : ¬ (g0 < 8)) (n1 : ¬ (64 < g0)) (n2 : ¬ (g1 < 3)) (n3 : ¬ (64 < g1)) (n4 : ¬ (g2 < 16)) (n5 : ¬ (1024 < g2)) (n6 : ¬ (g3 < 3)) (n7 : ¬ (14 < g3)) (n8 : ¬ (g4 < 1)) (n9 : ¬ (16 < g4)) (n10 : ¬ (g5 < 1)) (n11 : ¬ (8 < g5)) (c : g6 < 0) (w : World) : Calls Tryz.prog 16 #[.agg #[.int .i64 g0, .int .i64 g1, .int .i64 g2, .int .i64 g3, .int .i64 g4, .int .i64 g5, .int .i64 g6, .int .i64 g7, .int .i64 g8]] w fun e w' => e = .returned (.int .i64 0) ∧ Below w.heap.size w w' := by
  have x0 : ¬ (g0 < 8) := n0
  have d0 : decide (g0 < 8) = false := decide_eq_false n0
  have l0 : 8 ≤ g0 := by omega
  have x1 : ¬ (64 < g0) := n1
  have d1 : decide (64 < g0) = false := decide_eq_false n1
  have l1 : g0 ≤ 64 := by omega
  have x2 : ¬ (g1 < 3) := n2
  have d2 : decide (g1 < 3) = false := decide_eq_false n2
  have l2 : 3 ≤ g1 := by omega
  have x3 : ¬ (64 < g1) := n3
  have d3 : decide (64 < g1) = false := decide_eq_false n3
  have l3 : g1 ≤ 64 := by omega
  have x4 : ¬ (g2 < 16) := n4
  have d4 : decide (g2 < 16) = false := decide_eq_false n4
  have l4 : 16 ≤ g2 := by omega
  have x5 : ¬ (1024 < g2) := n5
  have d5 : decide (1024 < g2) = false := decide_eq_false n5
  have l5 : g2 ≤ 1024 := by omega
  have x6 : ¬ (g3 < 3) := n6
  have d6 : decide (g3 < 3) = false := decide_eq_false n6
  have l6 : 3 ≤ g3 := by omega
  have x7 : ¬ (14 < g3) := n7
  have d7 : decide (14 < g3) = false := decide_eq_false n7
  have l7 : g3 ≤ 14 := by omega
  have x8 : ¬ (g4 < 1) := n8
  have d8 : decide (g4 < 1) = false := decide_eq_false n8
  have l8 : 1 ≤ g4 := by omega
  have x9 : ¬ (16 < g4) := n9
  have d9 : decide (16 < g4) = false := decide_eq_false n9
  have l9 : g4 ≤ 16 := by omega
  have x10 : ¬ (g5 < 1) := n10
  have d10 : decide (g5 < 1) = false := decide_eq_false n10
  have l10 : 1 ≤ g5 := by omega
  have x11 : ¬ (8 < g5) := n11
  have d11 : decide (8 < g5) = false := decide_eq_false n11
  have l11 : g5 ≤ 8 := by omega
  have d12 : decide (g6 < 0) = true := decide_eq_true c
  clear n0 n1 n2 n3 n4 n5 n6 n7 n8 n9 n10 n11
  go_enter Tryz.func16, Tryz.ntmps16
  go_wp2_with fail
  go_ret
  exact ⟨rfl, (Below.refl _ _).alloc (Nat.le_refl _) _⟩
set_option maxRecDepth 100000 in
set_option maxHeartbeats 2000000 in
theorem rsecs_13 (g0 g1 g2 g3 g4 g5 g6 g7 g8 : Int) (n0 : ¬ (g0 < 8)) (n1 : ¬ (64 < g0)) (n2 : ¬ (g1 < 3)) (n3 : ¬ (64 < g1)) (n4 : ¬ (g2 < 16)) (n5 : ¬ (1024 < g2)) (n6 : ¬ (g3 < 3)) (n7 : ¬ (14 < g3)) (n8 : ¬ (g4 < 1)) (n9 : ¬ (16 < g4)) (n10 : ¬ (g5 < 1)) (n11 : ¬ (8 < g5)) (n12 : ¬ (g6 < 0)) (c : g0 - 8 < g6) (w : World) : Calls Tryz.prog 16 #[.agg #[.int .i64 g0, .int .i64 g1, .int .i64 g2, .int .i64 g3, .int .i64 g4, .int .i64 g5, .int .i64 g6, .int .i64 g7, .int .i64 g8]] w fun e w' => e = .returned (.int .i64 0) ∧ Below w.heap.size w w' := by
  have x0 : ¬ (g0 < 8) := n0
  have d0 : decide (g0 < 8) = false := decide_eq_false n0
  have l0 : 8 ≤ g0 := by omega
  have x1 : ¬ (64 < g0) := n1
  have d1 : decide (64 < g0) = false := decide_eq_false n1
  have l1 : g0 ≤ 64 := by omega
  have x2 : ¬ (g1 < 3) := n2
  have d2 : decide (g1 < 3) = false := decide_eq_false n2
  have l2 : 3 ≤ g1 := by omega
  have x3 : ¬ (64 < g1) := n3
  have d3 : decide (64 < g1) = false := decide_eq_false n3
  have l3 : g1 ≤ 64 := by omega
  have x4 : ¬ (g2 < 16) := n4
  have d4 : decide (g2 < 16) = false := decide_eq_false n4
  have l4 : 16 ≤ g2 := by omega
  have x5 : ¬ (1024 < g2) := n5
  have d5 : decide (1024 < g2) = false := decide_eq_false n5
  have l5 : g2 ≤ 1024 := by omega
  have x6 : ¬ (g3 < 3) := n6
  have d6 : decide (g3 < 3) = false := decide_eq_false n6
  have l6 : 3 ≤ g3 := by omega
  have x7 : ¬ (14 < g3) := n7
  have d7 : decide (14 < g3) = false := decide_eq_false n7
  have l7 : g3 ≤ 14 := by omega
  have x8 : ¬ (g4 < 1) := n8
  have d8 : decide (g4 < 1) = false := decide_eq_false n8
  have l8 : 1 ≤ g4 := by omega
  have x9 : ¬ (16 < g4) := n9
  have d9 : decide (16 < g4) = false := decide_eq_false n9
  have l9 : g4 ≤ 16 := by omega
  have x10 : ¬ (g5 < 1) := n10
  have d10 : decide (g5 < 1) = false := decide_eq_false n10
  have l10 : 1 ≤ g5 := by omega
  have x11 : ¬ (8 < g5) := n11
  have d11 : decide (8 < g5) = false := decide_eq_false n11
  have l11 : g5 ≤ 8 := by omega
  have x12 : ¬ (g6 < 0) := n12
  have d12 : decide (g6 < 0) = false := decide_eq_false n12
  have l12 : 0 ≤ g6 := by omega
  have d13 : decide (g0 - 8 < g6) = true := decide_eq_true c
  have w13 : wrap64 (g0 - 8) = g0 - 8 := IntWalk.wrap64_in _ (by omega)
  clear n0 n1 n2 n3 n4 n5 n6 n7 n8 n9 n10 n11 n12
  go_enter Tryz.func16, Tryz.ntmps16
  go_wp2_with fail
  go_ret
  exact ⟨rfl, (Below.refl _ _).alloc (Nat.le_refl _) _⟩
set_option maxRecDepth 100000 in
set_option maxHeartbeats 2000000 in
theorem rsecs_14 (g0 g1 g2 g3 g4 g5 g6 g7 g8 : Int) (n0 : ¬ (g0 < 8)) (n1 : ¬ (64 < g0)) (n2 : ¬ (g1 < 3)) (n3 : ¬ (64 < g1)) (n4 : ¬ (g2 < 16)) (n5 : ¬ (1024 < g2)) (n6 : ¬ (g3 < 3)) (n7 : ¬ (14 < g3)) (n8 : ¬ (g4 < 1)) (n9 : ¬ (16 < g4)) (n10 : ¬ (g5 < 1)) (n11 : ¬ (8 < g5)) (n12 : ¬ (g6 < 0)) (n13 : ¬ (g0 - 8 < g6)) (c : g7 < 2) (w : World) : Calls Tryz.prog 16 #[.agg #[.int .i64 g0, .int .i64 g1, .int .i64 g2, .int .i64 g3, .int .i64 g4, .int .i64 g5, .int .i64 g6, .int .i64 g7, .int .i64 g8]] w fun e w' => e = .returned (.int .i64 0) ∧ Below w.heap.size w w' := by
  have x0 : ¬ (g0 < 8) := n0
  have d0 : decide (g0 < 8) = false := decide_eq_false n0
  have l0 : 8 ≤ g0 := by omega
  have x1 : ¬ (64 < g0) := n1
  have d1 : decide (64 < g0) = false := decide_eq_false n1
  have l1 : g0 ≤ 64 := by omega
  have x2 : ¬ (g1 < 3) := n2
  have d2 : decide (g1 < 3) = false := decide_eq_false n2
  have l2 : 3 ≤ g1 := by omega
  have x3 : ¬ (64 < g1) := n3
  have d3 : decide (64 < g1) = false := decide_eq_false n3
  have l3 : g1 ≤ 64 := by omega
  have x4 : ¬ (g2 < 16) := n4
  have d4 : decide (g2 < 16) = false := decide_eq_false n4
  have l4 : 16 ≤ g2 := by omega
  have x5 : ¬ (1024 < g2) := n5
  have d5 : decide (1024 < g2) = false := decide_eq_false n5
  have l5 : g2 ≤ 1024 := by omega
  have x6 : ¬ (g3 < 3) := n6
  have d6 : decide (g3 < 3) = false := decide_eq_false n6
  have l6 : 3 ≤ g3 := by omega
  have x7 : ¬ (14 < g3) := n7
  have d7 : decide (14 < g3) = false := decide_eq_false n7
  have l7 : g3 ≤ 14 := by omega
  have x8 : ¬ (g4 < 1) := n8
  have d8 : decide (g4 < 1) = false := decide_eq_false n8
  have l8 : 1 ≤ g4 := by omega
  have x9 : ¬ (16 < g4) := n9
  have d9 : decide (16 < g4) = false := decide_eq_false n9
  have l9 : g4 ≤ 16 := by omega
  have x10 : ¬ (g5 < 1) := n10
  have d10 : decide (g5 < 1) = false := decide_eq_false n10
  have l10 : 1 ≤ g5 := by omega
  have x11 : ¬ (8 < g5) := n11
  have d11 : decide (8 < g5) = false := decide_eq_false n11
  have l11 : g5 ≤ 8 := by omega
  have x12 : ¬ (g6 < 0) := n12
  have d12 : decide (g6 < 0) = false := decide_eq_false n12
  have l12 : 0 ≤ g6 := by omega
  have x13 : ¬ (g0 - 8 < g6) := n13
  have d13 : decide (g0 - 8 < g6) = false := decide_eq_false n13
  have l13 : g6 ≤ g0 - 8 := by omega
  have d14 : decide (g7 < 2) = true := decide_eq_true c
  have w13 : wrap64 (g0 - 8) = g0 - 8 := IntWalk.wrap64_in _ (by omega)
  clear n0 n1 n2 n3 n4 n5 n6 n7 n8 n9 n10 n11 n12 n13
  go_enter Tryz.func16, Tryz.ntmps16
  go_wp2_with fail
  go_ret
  exact ⟨rfl, (Below.refl _ _).alloc (Nat.le_refl _) _⟩
set_option maxRecDepth 100000 in
set_option maxHeartbeats 2000000 in
theorem rsecs_15 (g0 g1 g2 g3 g4 g5 g6 g7 g8 : Int) (n0 : ¬ (g0 < 8)) (n1 : ¬ (64 < g0)) (n2 : ¬ (g1 < 3)) (n3 : ¬ (64 < g1)) (n4 : ¬ (g2 < 16)) (n5 : ¬ (1024 < g2)) (n6 : ¬ (g3 < 3)) (n7 : ¬ (14 < g3)) (n8 : ¬ (g4 < 1)) (n9 : ¬ (16 < g4)) (n10 : ¬ (g5 < 1)) (n11 : ¬ (8 < g5)) (n12 : ¬ (g6 < 0)) (n13 : ¬ (g0 - 8 < g6)) (n14 : ¬ (g7 < 2)) (c : 1000 < g7) (w : World) : Calls Tryz.prog 16 #[.agg #[.int .i64 g0, .int .i64 g1, .int .i64 g2, .int .i64 g3, .int .i64 g4, .int .i64 g5, .int .i64 g6, .int .i64 g7, .int .i64 g8]] w fun e w' => e = .returned (.int .i64 0) ∧ Below w.heap.size w w' := by
  have x0 : ¬ (g0 < 8) := n0
  have d0 : decide (g0 < 8) = false := decide_eq_false n0
  have l0 : 8 ≤ g0 := by omega
  have x1 : ¬ (64 < g0) := n1
  have d1 : decide (64 < g0) = false := decide_eq_false n1
  have l1 : g0 ≤ 64 := by omega
  have x2 : ¬ (g1 < 3) := n2
  have d2 : decide (g1 < 3) = false := decide_eq_false n2
  have l2 : 3 ≤ g1 := by omega
  have x3 : ¬ (64 < g1) := n3
  have d3 : decide (64 < g1) = false := decide_eq_false n3
  have l3 : g1 ≤ 64 := by omega
  have x4 : ¬ (g2 < 16) := n4
  have d4 : decide (g2 < 16) = false := decide_eq_false n4
  have l4 : 16 ≤ g2 := by omega
  have x5 : ¬ (1024 < g2) := n5
  have d5 : decide (1024 < g2) = false := decide_eq_false n5
  have l5 : g2 ≤ 1024 := by omega
  have x6 : ¬ (g3 < 3) := n6
  have d6 : decide (g3 < 3) = false := decide_eq_false n6
  have l6 : 3 ≤ g3 := by omega
  have x7 : ¬ (14 < g3) := n7
  have d7 : decide (14 < g3) = false := decide_eq_false n7
  have l7 : g3 ≤ 14 := by omega
  have x8 : ¬ (g4 < 1) := n8
  have d8 : decide (g4 < 1) = false := decide_eq_false n8
  have l8 : 1 ≤ g4 := by omega
  have x9 : ¬ (16 < g4) := n9
  have d9 : decide (16 < g4) = false := decide_eq_false n9
  have l9 : g4 ≤ 16 := by omega
  have x10 : ¬ (g5 < 1) := n10
  have d10 : decide (g5 < 1) = false := decide_eq_false n10
  have l10 : 1 ≤ g5 := by omega
  have x11 : ¬ (8 < g5) := n11
  have d11 : decide (8 < g5) = false := decide_eq_false n11
  have l11 : g5 ≤ 8 := by omega
  have x12 : ¬ (g6 < 0) := n12
  have d12 : decide (g6 < 0) = false := decide_eq_false n12
  have l12 : 0 ≤ g6 := by omega
  have x13 : ¬ (g0 - 8 < g6) := n13
  have d13 : decide (g0 - 8 < g6) = false := decide_eq_false n13
  have l13 : g6 ≤ g0 - 8 := by omega
  have x14 : ¬ (g7 < 2) := n14
  have d14 : decide (g7 < 2) = false := decide_eq_false n14
  have l14 : 2 ≤ g7 := by omega
  have d15 : decide (1000 < g7) = true := decide_eq_true c
  have w13 : wrap64 (g0 - 8) = g0 - 8 := IntWalk.wrap64_in _ (by omega)
  clear n0 n1 n2 n3 n4 n5 n6 n7 n8 n9 n10 n11 n12 n13 n14
  go_enter Tryz.func16, Tryz.ntmps16
  go_wp2_with fail
  go_ret
  exact ⟨rfl, (Below.refl _ _).alloc (Nat.le_refl _) _⟩
set_option maxRecDepth 100000 in
set_option maxHeartbeats 2000000 in
theorem rsecs_16 (g0 g1 g2 g3 g4 g5 g6 g7 g8 : Int) (n0 : ¬ (g0 < 8)) (n1 : ¬ (64 < g0)) (n2 : ¬ (g1 < 3)) (n3 : ¬ (64 < g1)) (n4 : ¬ (g2 < 16)) (n5 : ¬ (1024 < g2)) (n6 : ¬ (g3 < 3)) (n7 : ¬ (14 < g3)) (n8 : ¬ (g4 < 1)) (n9 : ¬ (16 < g4)) (n10 : ¬ (g5 < 1)) (n11 : ¬ (8 < g5)) (n12 : ¬ (g6 < 0)) (n13 : ¬ (g0 - 8 < g6)) (n14 : ¬ (g7 < 2)) (n15 : ¬ (1000 < g7)) (c : g8 < 1) (w : World) : Calls Tryz.prog 16 #[.agg #[.int .i64 g0, .int .i64 g1, .int .i64 g2, .int .i64 g3, .int .i64 g4, .int .i64 g5, .int .i64 g6, .int .i64 g7, .int .i64 g8]] w fun e w' => e = .returned (.int .i64 0) ∧ Below w.heap.size w w' := by
  have x0 : ¬ (g0 < 8) := n0
  have d0 : decide (g0 < 8) = false := decide_eq_false n0
  have l0 : 8 ≤ g0 := by omega
  have x1 : ¬ (64 < g0) := n1
  have d1 : decide (64 < g0) = false := decide_eq_false n1
  have l1 : g0 ≤ 64 := by omega
  have x2 : ¬ (g1 < 3) := n2
  have d2 : decide (g1 < 3) = false := decide_eq_false n2
  have l2 : 3 ≤ g1 := by omega
  have x3 : ¬ (64 < g1) := n3
  have d3 : decide (64 < g1) = false := decide_eq_false n3
  have l3 : g1 ≤ 64 := by omega
  have x4 : ¬ (g2 < 16) := n4
  have d4 : decide (g2 < 16) = false := decide_eq_false n4
  have l4 : 16 ≤ g2 := by omega
  have x5 : ¬ (1024 < g2) := n5
  have d5 : decide (1024 < g2) = false := decide_eq_false n5
  have l5 : g2 ≤ 1024 := by omega
  have x6 : ¬ (g3 < 3) := n6
  have d6 : decide (g3 < 3) = false := decide_eq_false n6
  have l6 : 3 ≤ g3 := by omega
  have x7 : ¬ (14 < g3) := n7
  have d7 : decide (14 < g3) = false := decide_eq_false n7
  have l7 : g3 ≤ 14 := by omega
  have x8 : ¬ (g4 < 1) := n8
  have d8 : decide (g4 < 1) = false := decide_eq_false n8
  have l8 : 1 ≤ g4 := by omega
  have x9 : ¬ (16 < g4) := n9
  have d9 : decide (16 < g4) = false := decide_eq_false n9
  have l9 : g4 ≤ 16 := by omega
  have x10 : ¬ (g5 < 1) := n10
  have d10 : decide (g5 < 1) = false := decide_eq_false n10
  have l10 : 1 ≤ g5 := by omega
  have x11 : ¬ (8 < g5) := n11
  have d11 : decide (8 < g5) = false := decide_eq_false n11
  have l11 : g5 ≤ 8 := by omega
  have x12 : ¬ (g6 < 0) := n12
  have d12 : decide (g6 < 0) = false := decide_eq_false n12
  have l12 : 0 ≤ g6 := by omega
  have x13 : ¬ (g0 - 8 < g6) := n13
  have d13 : decide (g0 - 8 < g6) = false := decide_eq_false n13
  have l13 : g6 ≤ g0 - 8 := by omega
  have x14 : ¬ (g7 < 2) := n14
  have d14 : decide (g7 < 2) = false := decide_eq_false n14
  have l14 : 2 ≤ g7 := by omega
  have x15 : ¬ (1000 < g7) := n15
  have d15 : decide (1000 < g7) = false := decide_eq_false n15
  have l15 : g7 ≤ 1000 := by omega
  have d16 : decide (g8 < 1) = true := decide_eq_true c
  have w13 : wrap64 (g0 - 8) = g0 - 8 := IntWalk.wrap64_in _ (by omega)
  clear n0 n1 n2 n3 n4 n5 n6 n7 n8 n9 n10 n11 n12 n13 n14 n15
  go_enter Tryz.func16, Tryz.ntmps16
  go_wp2_with fail
  go_ret
  exact ⟨rfl, (Below.refl _ _).alloc (Nat.le_refl _) _⟩
set_option maxRecDepth 100000 in
set_option maxHeartbeats 2000000 in
theorem rsecs_17 (g0 g1 g2 g3 g4 g5 g6 g7 g8 : Int) (n0 : ¬ (g0 < 8)) (n1 : ¬ (64 < g0)) (n2 : ¬ (g1 < 3)) (n3 : ¬ (64 < g1)) (n4 : ¬ (g2 < 16)) (n5 : ¬ (1024 < g2)) (n6 : ¬ (g3 < 3)) (n7 : ¬ (14 < g3)) (n8 : ¬ (g4 < 1)) (n9 : ¬ (16 < g4)) (n10 : ¬ (g5 < 1)) (n11 : ¬ (8 < g5)) (n12 : ¬ (g6 < 0)) (n13 : ¬ (g0 - 8 < g6)) (n14 : ¬ (g7 < 2)) (n15 : ¬ (1000 < g7)) (n16 : ¬ (g8 < 1)) (c : 2 * (g1 - 1) - 1 < g8) (w : World) : Calls Tryz.prog 16 #[.agg #[.int .i64 g0, .int .i64 g1, .int .i64 g2, .int .i64 g3, .int .i64 g4, .int .i64 g5, .int .i64 g6, .int .i64 g7, .int .i64 g8]] w fun e w' => e = .returned (.int .i64 0) ∧ Below w.heap.size w w' := by
  have x0 : ¬ (g0 < 8) := n0
  have d0 : decide (g0 < 8) = false := decide_eq_false n0
  have l0 : 8 ≤ g0 := by omega
  have x1 : ¬ (64 < g0) := n1
  have d1 : decide (64 < g0) = false := decide_eq_false n1
  have l1 : g0 ≤ 64 := by omega
  have x2 : ¬ (g1 < 3) := n2
  have d2 : decide (g1 < 3) = false := decide_eq_false n2
  have l2 : 3 ≤ g1 := by omega
  have x3 : ¬ (64 < g1) := n3
  have d3 : decide (64 < g1) = false := decide_eq_false n3
  have l3 : g1 ≤ 64 := by omega
  have x4 : ¬ (g2 < 16) := n4
  have d4 : decide (g2 < 16) = false := decide_eq_false n4
  have l4 : 16 ≤ g2 := by omega
  have x5 : ¬ (1024 < g2) := n5
  have d5 : decide (1024 < g2) = false := decide_eq_false n5
  have l5 : g2 ≤ 1024 := by omega
  have x6 : ¬ (g3 < 3) := n6
  have d6 : decide (g3 < 3) = false := decide_eq_false n6
  have l6 : 3 ≤ g3 := by omega
  have x7 : ¬ (14 < g3) := n7
  have d7 : decide (14 < g3) = false := decide_eq_false n7
  have l7 : g3 ≤ 14 := by omega
  have x8 : ¬ (g4 < 1) := n8
  have d8 : decide (g4 < 1) = false := decide_eq_false n8
  have l8 : 1 ≤ g4 := by omega
  have x9 : ¬ (16 < g4) := n9
  have d9 : decide (16 < g4) = false := decide_eq_false n9
  have l9 : g4 ≤ 16 := by omega
  have x10 : ¬ (g5 < 1) := n10
  have d10 : decide (g5 < 1) = false := decide_eq_false n10
  have l10 : 1 ≤ g5 := by omega
  have x11 : ¬ (8 < g5) := n11
  have d11 : decide (8 < g5) = false := decide_eq_false n11
  have l11 : g5 ≤ 8 := by omega
  have x12 : ¬ (g6 < 0) := n12
  have d12 : decide (g6 < 0) = false := decide_eq_false n12
  have l12 : 0 ≤ g6 := by omega
  have x13 : ¬ (g0 - 8 < g6) := n13
  have d13 : decide (g0 - 8 < g6) = false := decide_eq_false n13
  have l13 : g6 ≤ g0 - 8 := by omega
  have x14 : ¬ (g7 < 2) := n14
  have d14 : decide (g7 < 2) = false := decide_eq_false n14
  have l14 : 2 ≤ g7 := by omega
  have x15 : ¬ (1000 < g7) := n15
  have d15 : decide (1000 < g7) = false := decide_eq_false n15
  have l15 : g7 ≤ 1000 := by omega
  have x16 : ¬ (g8 < 1) := n16
  have d16 : decide (g8 < 1) = false := decide_eq_false n16
  have l16 : 1 ≤ g8 := by omega
  have d17 : decide (2 * (g1 - 1) - 1 < g8) = true := decide_eq_true c
  have w13 : wrap64 (g0 - 8) = g0 - 8 := IntWalk.wrap64_in _ (by omega)
  have w16 : wrap64 (g1 - 1) = g1 - 1 := IntWalk.wrap64_in _ (by omega)
  have w17 : wrap64 (2 * (g1 - 1)) = 2 * (g1 - 1) := IntWalk.wrap64_in _ (by omega)
  have w18 : wrap64 (2 * (g1 - 1) - 1) = 2 * (g1 - 1) - 1 := IntWalk.wrap64_in _ (by omega)
  clear n0 n1 n2 n3 n4 n5 n6 n7 n8 n9 n10 n11 n12 n13 n14 n15 n16
  go_enter Tryz.func16, Tryz.ntmps16
  go_wp2_with fail
  go_ret
  exact ⟨rfl, (Below.refl _ _).alloc (Nat.le_refl _) _⟩
set_option maxRecDepth 100000 in
set_option maxHeartbeats 2000000 in
theorem rsecs_18 (g0 g1 g2 g3 g4 g5 g6 g7 g8 : Int) (n0 : ¬ (g0 < 8)) (n1 : ¬ (64 < g0)) (n2 : ¬ (g1 < 3)) (n3 : ¬ (64 < g1)) (n4 : ¬ (g2 < 16)) (n5 : ¬ (1024 < g2)) (n6 : ¬ (g3 < 3)) (n7 : ¬ (14 < g3)) (n8 : ¬ (g4 < 1)) (n9 : ¬ (16 < g4)) (n10 : ¬ (g5 < 1)) (n11 : ¬ (8 < g5)) (n12 : ¬ (g6 < 0)) (n13 : ¬ (g0 - 8 < g6)) (n14 : ¬ (g7 < 2)) (n15 : ¬ (1000 < g7)) (n16 : ¬ (g8 < 1)) (n17 : ¬ (2 * (g1 - 1) - 1 < g8)) (c : 64 < g8) (w : World) : Calls Tryz.prog 16 #[.agg #[.int .i64 g0, .int .i64 g1, .int .i64 g2, .int .i64 g3, .int .i64 g4, .int .i64 g5, .int .i64 g6, .int .i64 g7, .int .i64 g8]] w fun e w' => e = .returned (.int .i64 0) ∧ Below w.heap.size w w' := by
  have x0 : ¬ (g0 < 8) := n0
  have d0 : decide (g0 < 8) = false := decide_eq_false n0
  have l0 : 8 ≤ g0 := by omega
  have x1 : ¬ (64 < g0) := n1
  have d1 : decide (64 < g0) = false := decide_eq_false n1
  have l1 : g0 ≤ 64 := by omega
  have x2 : ¬ (g1 < 3) := n2
  have d2 : decide (g1 < 3) = false := decide_eq_false n2
  have l2 : 3 ≤ g1 := by omega
  have x3 : ¬ (64 < g1) := n3
  have d3 : decide (64 < g1) = false := decide_eq_false n3
  have l3 : g1 ≤ 64 := by omega
  have x4 : ¬ (g2 < 16) := n4
  have d4 : decide (g2 < 16) = false := decide_eq_false n4
  have l4 : 16 ≤ g2 := by omega
  have x5 : ¬ (1024 < g2) := n5
  have d5 : decide (1024 < g2) = false := decide_eq_false n5
  have l5 : g2 ≤ 1024 := by omega
  have x6 : ¬ (g3 < 3) := n6
  have d6 : decide (g3 < 3) = false := decide_eq_false n6
  have l6 : 3 ≤ g3 := by omega
  have x7 : ¬ (14 < g3) := n7
  have d7 : decide (14 < g3) = false := decide_eq_false n7
  have l7 : g3 ≤ 14 := by omega
  have x8 : ¬ (g4 < 1) := n8
  have d8 : decide (g4 < 1) = false := decide_eq_false n8
  have l8 : 1 ≤ g4 := by omega
  have x9 : ¬ (16 < g4) := n9
  have d9 : decide (16 < g4) = false := decide_eq_false n9
  have l9 : g4 ≤ 16 := by omega
  have x10 : ¬ (g5 < 1) := n10
  have d10 : decide (g5 < 1) = false := decide_eq_false n10
  have l10 : 1 ≤ g5 := by omega
  have x11 : ¬ (8 < g5) := n11
  have d11 : decide (8 < g5) = false := decide_eq_false n11
  have l11 : g5 ≤ 8 := by omega
  have x12 : ¬ (g6 < 0) := n12
  have d12 : decide (g6 < 0) = false := decide_eq_false n12
  have l12 : 0 ≤ g6 := by omega
  have x13 : ¬ (g0 - 8 < g6) := n13
  have d13 : decide (g0 - 8 < g6) = false := decide_eq_false n13
  have l13 : g6 ≤ g0 - 8 := by omega
  have x14 : ¬ (g7 < 2) := n14
  have d14 : decide (g7 < 2) = false := decide_eq_false n14
  have l14 : 2 ≤ g7 := by omega
  have x15 : ¬ (1000 < g7) := n15
  have d15 : decide (1000 < g7) = false := decide_eq_false n15
  have l15 : g7 ≤ 1000 := by omega
  have x16 : ¬ (g8 < 1) := n16
  have d16 : decide (g8 < 1) = false := decide_eq_false n16
  have l16 : 1 ≤ g8 := by omega
  have x17 : ¬ (2 * (g1 - 1) - 1 < g8) := n17
  have d17 : decide (2 * (g1 - 1) - 1 < g8) = false := decide_eq_false n17
  have l17 : g8 ≤ 2 * (g1 - 1) - 1 := by omega
  have d18 : decide (64 < g8) = true := decide_eq_true c
  have w13 : wrap64 (g0 - 8) = g0 - 8 := IntWalk.wrap64_in _ (by omega)
  have w16 : wrap64 (g1 - 1) = g1 - 1 := IntWalk.wrap64_in _ (by omega)
  have w17 : wrap64 (2 * (g1 - 1)) = 2 * (g1 - 1) := IntWalk.wrap64_in _ (by omega)
  have w18 : wrap64 (2 * (g1 - 1) - 1) = 2 * (g1 - 1) - 1 := IntWalk.wrap64_in _ (by omega)
  clear n0 n1 n2 n3 n4 n5 n6 n7 n8 n9 n10 n11 n12 n13 n14 n15 n16 n17
  go_enter Tryz.func16, Tryz.ntmps16
  go_wp2_with fail
  go_ret
  exact ⟨rfl, (Below.refl _ _).alloc (Nat.le_refl _) _⟩
set_option maxRecDepth 100000 in
set_option maxHeartbeats 2000000 in
theorem rsecs_yes (g0 g1 g2 g3 g4 g5 g6 g7 g8 : Int) (n0 : ¬ (g0 < 8)) (n1 : ¬ (64 < g0)) (n2 : ¬ (g1 < 3)) (n3 : ¬ (64 < g1)) (n4 : ¬ (g2 < 16)) (n5 : ¬ (1024 < g2)) (n6 : ¬ (g3 < 3)) (n7 : ¬ (14 < g3)) (n8 : ¬ (g4 < 1)) (n9 : ¬ (16 < g4)) (n10 : ¬ (g5 < 1)) (n11 : ¬ (8 < g5)) (n12 : ¬ (g6 < 0)) (n13 : ¬ (g0 - 8 < g6)) (n14 : ¬ (g7 < 2)) (n15 : ¬ (1000 < g7)) (n16 : ¬ (g8 < 1)) (n17 : ¬ (2 * (g1 - 1) - 1 < g8)) (n18 : ¬ (64 < g8)) (w : World) : Calls Tryz.prog 16 #[.agg #[.int .i64 g0, .int .i64 g1, .int .i64 g2, .int .i64 g3, .int .i64 g4, .int .i64 g5, .int .i64 g6, .int .i64 g7, .int .i64 g8]] w fun e w' => e = .returned (.int .i64 (max 0 ((g1 - 1) * (g0 - g6 - 6) - g0 - g1 - 1))) ∧ Below w.heap.size w w' := by
  have x0 : ¬ (g0 < 8) := n0
  have d0 : decide (g0 < 8) = false := decide_eq_false n0
  have l0 : 8 ≤ g0 := by omega
  have x1 : ¬ (64 < g0) := n1
  have d1 : decide (64 < g0) = false := decide_eq_false n1
  have l1 : g0 ≤ 64 := by omega
  have x2 : ¬ (g1 < 3) := n2
  have d2 : decide (g1 < 3) = false := decide_eq_false n2
  have l2 : 3 ≤ g1 := by omega
  have x3 : ¬ (64 < g1) := n3
  have d3 : decide (64 < g1) = false := decide_eq_false n3
  have l3 : g1 ≤ 64 := by omega
  have x4 : ¬ (g2 < 16) := n4
  have d4 : decide (g2 < 16) = false := decide_eq_false n4
  have l4 : 16 ≤ g2 := by omega
  have x5 : ¬ (1024 < g2) := n5
  have d5 : decide (1024 < g2) = false := decide_eq_false n5
  have l5 : g2 ≤ 1024 := by omega
  have x6 : ¬ (g3 < 3) := n6
  have d6 : decide (g3 < 3) = false := decide_eq_false n6
  have l6 : 3 ≤ g3 := by omega
  have x7 : ¬ (14 < g3) := n7
  have d7 : decide (14 < g3) = false := decide_eq_false n7
  have l7 : g3 ≤ 14 := by omega
  have x8 : ¬ (g4 < 1) := n8
  have d8 : decide (g4 < 1) = false := decide_eq_false n8
  have l8 : 1 ≤ g4 := by omega
  have x9 : ¬ (16 < g4) := n9
  have d9 : decide (16 < g4) = false := decide_eq_false n9
  have l9 : g4 ≤ 16 := by omega
  have x10 : ¬ (g5 < 1) := n10
  have d10 : decide (g5 < 1) = false := decide_eq_false n10
  have l10 : 1 ≤ g5 := by omega
  have x11 : ¬ (8 < g5) := n11
  have d11 : decide (8 < g5) = false := decide_eq_false n11
  have l11 : g5 ≤ 8 := by omega
  have x12 : ¬ (g6 < 0) := n12
  have d12 : decide (g6 < 0) = false := decide_eq_false n12
  have l12 : 0 ≤ g6 := by omega
  have x13 : ¬ (g0 - 8 < g6) := n13
  have d13 : decide (g0 - 8 < g6) = false := decide_eq_false n13
  have l13 : g6 ≤ g0 - 8 := by omega
  have x14 : ¬ (g7 < 2) := n14
  have d14 : decide (g7 < 2) = false := decide_eq_false n14
  have l14 : 2 ≤ g7 := by omega
  have x15 : ¬ (1000 < g7) := n15
  have d15 : decide (1000 < g7) = false := decide_eq_false n15
  have l15 : g7 ≤ 1000 := by omega
  have x16 : ¬ (g8 < 1) := n16
  have d16 : decide (g8 < 1) = false := decide_eq_false n16
  have l16 : 1 ≤ g8 := by omega
  have x17 : ¬ (2 * (g1 - 1) - 1 < g8) := n17
  have d17 : decide (2 * (g1 - 1) - 1 < g8) = false := decide_eq_false n17
  have l17 : g8 ≤ 2 * (g1 - 1) - 1 := by omega
  have x18 : ¬ (64 < g8) := n18
  have d18 : decide (64 < g8) = false := decide_eq_false n18
  have l18 : g8 ≤ 64 := by omega
  have w13 : wrap64 (g0 - 8) = g0 - 8 := IntWalk.wrap64_in _ (by omega)
  have w16 : wrap64 (g1 - 1) = g1 - 1 := IntWalk.wrap64_in _ (by omega)
  have w17 : wrap64 (2 * (g1 - 1)) = 2 * (g1 - 1) := IntWalk.wrap64_in _ (by omega)
  have w18 : wrap64 (2 * (g1 - 1) - 1) = 2 * (g1 - 1) - 1 := IntWalk.wrap64_in _ (by omega)
  clear n0 n1 n2 n3 n4 n5 n6 n7 n8 n9 n10 n11 n12 n13 n14 n15 n16 n17 n18
  obtain ⟨q, hq⟩ : ∃ q, q = (g1 - 1) * (g0 - g6 - 6) := ⟨_, rfl⟩
  have q1 : -(63 * 6) ≤ q := by rw [hq]; have := Int.mul_le_mul_of_nonneg_left (show -6 ≤ g0 - g6 - 6 by omega) (show 0 ≤ g1 - 1 by omega); omega
  have q2 : q ≤ 63 * 58 := by rw [hq]; have := Int.mul_le_mul_of_nonneg_left (show g0 - g6 - 6 ≤ 58 by omega) (show 0 ≤ g1 - 1 by omega); omega
  have q3 : (g1 - 1) * (g0 - g6 - 6) = q := hq.symm
  have q4 : wrap64 q = q := IntWalk.wrap64_in _ (by omega)
  have m2 : (if (0 : Int) < q - g0 - g1 - 1 then q - g0 - g1 - 1 else (0 : Int)) = max 0 (q - g0 - g1 - 1) := by split <;> omega
  rw [← hq]
  clear hq
  go_enter Tryz.func16, Tryz.ntmps16
  go_wp2_with fail
  go_ret
  exact ⟨int_same (by first | rfl | rw [m2] | omega), (Below.refl _ _).alloc (Nat.le_refl _) _⟩
theorem rsecs_all (g0 g1 g2 g3 g4 g5 g6 g7 g8 : Int) (w : World) : Calls Tryz.prog 16 #[.agg #[.int .i64 g0, .int .i64 g1, .int .i64 g2, .int .i64 g3, .int .i64 g4, .int .i64 g5, .int .i64 g6, .int .i64 g7, .int .i64 g8]] w fun e w' => e = .returned (.int .i64 (secs g0 g1 g2 g3 g4 g5 g6 g7 g8)) ∧ Below w.heap.size w w' := by
  have hz : ¬ inAll g0 g1 g2 g3 g4 g5 g6 g7 g8 → secs g0 g1 g2 g3 g4 g5 g6 g7 g8 = 0 := fun h => by unfold secs; rw [if_neg h]
  by_cases c0 : g0 < 8
  · rw [hz (by unfold inAll; omega)]
    exact rsecs_0 g0 g1 g2 g3 g4 g5 g6 g7 g8 c0 w
  by_cases c1 : 64 < g0
  · rw [hz (by unfold inAll; omega)]
    exact rsecs_1 g0 g1 g2 g3 g4 g5 g6 g7 g8 c0 c1 w
  by_cases c2 : g1 < 3
  · rw [hz (by unfold inAll; omega)]
    exact rsecs_2 g0 g1 g2 g3 g4 g5 g6 g7 g8 c0 c1 c2 w
  by_cases c3 : 64 < g1
  · rw [hz (by unfold inAll; omega)]
    exact rsecs_3 g0 g1 g2 g3 g4 g5 g6 g7 g8 c0 c1 c2 c3 w
  by_cases c4 : g2 < 16
  · rw [hz (by unfold inAll; omega)]
    exact rsecs_4 g0 g1 g2 g3 g4 g5 g6 g7 g8 c0 c1 c2 c3 c4 w
  by_cases c5 : 1024 < g2
  · rw [hz (by unfold inAll; omega)]
    exact rsecs_5 g0 g1 g2 g3 g4 g5 g6 g7 g8 c0 c1 c2 c3 c4 c5 w
  by_cases c6 : g3 < 3
  · rw [hz (by unfold inAll; omega)]
    exact rsecs_6 g0 g1 g2 g3 g4 g5 g6 g7 g8 c0 c1 c2 c3 c4 c5 c6 w
  by_cases c7 : 14 < g3
  · rw [hz (by unfold inAll; omega)]
    exact rsecs_7 g0 g1 g2 g3 g4 g5 g6 g7 g8 c0 c1 c2 c3 c4 c5 c6 c7 w
  by_cases c8 : g4 < 1
  · rw [hz (by unfold inAll; omega)]
    exact rsecs_8 g0 g1 g2 g3 g4 g5 g6 g7 g8 c0 c1 c2 c3 c4 c5 c6 c7 c8 w
  by_cases c9 : 16 < g4
  · rw [hz (by unfold inAll; omega)]
    exact rsecs_9 g0 g1 g2 g3 g4 g5 g6 g7 g8 c0 c1 c2 c3 c4 c5 c6 c7 c8 c9 w
  by_cases c10 : g5 < 1
  · rw [hz (by unfold inAll; omega)]
    exact rsecs_10 g0 g1 g2 g3 g4 g5 g6 g7 g8 c0 c1 c2 c3 c4 c5 c6 c7 c8 c9 c10 w
  by_cases c11 : 8 < g5
  · rw [hz (by unfold inAll; omega)]
    exact rsecs_11 g0 g1 g2 g3 g4 g5 g6 g7 g8 c0 c1 c2 c3 c4 c5 c6 c7 c8 c9 c10 c11 w
  by_cases c12 : g6 < 0
  · rw [hz (by unfold inAll; omega)]
    exact rsecs_12 g0 g1 g2 g3 g4 g5 g6 g7 g8 c0 c1 c2 c3 c4 c5 c6 c7 c8 c9 c10 c11 c12 w
  by_cases c13 : g0 - 8 < g6
  · rw [hz (by unfold inAll; omega)]
    exact rsecs_13 g0 g1 g2 g3 g4 g5 g6 g7 g8 c0 c1 c2 c3 c4 c5 c6 c7 c8 c9 c10 c11 c12 c13 w
  by_cases c14 : g7 < 2
  · rw [hz (by unfold inAll; omega)]
    exact rsecs_14 g0 g1 g2 g3 g4 g5 g6 g7 g8 c0 c1 c2 c3 c4 c5 c6 c7 c8 c9 c10 c11 c12 c13 c14 w
  by_cases c15 : 1000 < g7
  · rw [hz (by unfold inAll; omega)]
    exact rsecs_15 g0 g1 g2 g3 g4 g5 g6 g7 g8 c0 c1 c2 c3 c4 c5 c6 c7 c8 c9 c10 c11 c12 c13 c14 c15 w
  by_cases c16 : g8 < 1
  · rw [hz (by unfold inAll; omega)]
    exact rsecs_16 g0 g1 g2 g3 g4 g5 g6 g7 g8 c0 c1 c2 c3 c4 c5 c6 c7 c8 c9 c10 c11 c12 c13 c14 c15 c16 w
  by_cases c17 : 2 * (g1 - 1) - 1 < g8
  · rw [hz (by unfold inAll; omega)]
    exact rsecs_17 g0 g1 g2 g3 g4 g5 g6 g7 g8 c0 c1 c2 c3 c4 c5 c6 c7 c8 c9 c10 c11 c12 c13 c14 c15 c16 c17 w
  by_cases c18 : 64 < g8
  · rw [hz (by unfold inAll; omega)]
    exact rsecs_18 g0 g1 g2 g3 g4 g5 g6 g7 g8 c0 c1 c2 c3 c4 c5 c6 c7 c8 c9 c10 c11 c12 c13 c14 c15 c16 c17 c18 w
  have h : inAll g0 g1 g2 g3 g4 g5 g6 g7 g8 := by unfold inAll; omega
  have hs : secs g0 g1 g2 g3 g4 g5 g6 g7 g8 = max 0 ((g1 - 1) * (g0 - g6 - 6) - g0 - g1 - 1) := by unfold secs; rw [if_pos h]
  rw [hs]
  exact rsecs_yes g0 g1 g2 g3 g4 g5 g6 g7 g8 c0 c1 c2 c3 c4 c5 c6 c7 c8 c9 c10 c11 c12 c13 c14 c15 c16 c17 c18 w
end Go.Proofs.YtdhcigiaidlmbaaGreatDoor.Pg
/- Geometries: which may be, by the program and by the document. By the verifier of shale. -/
namespace Go.Proofs.YtdhcigiaidlmbaaGreatDoor.Pg
open Go Go.RowKit Bin Pl Cos Enc
set_option linter.unusedVariables false
theorem secs_in {g0 g1 g2 g3 g4 g5 g6 g7 g8 : Int} (h : ¬ secs g0 g1 g2 g3 g4 g5 g6 g7 g8 < 1) : inAll g0 g1 g2 g3 g4 g5 g6 g7 g8 := by
  by_cases hi : inAll g0 g1 g2 g3 g4 g5 g6 g7 g8
  · exact hi
  · exfalso
    apply h
    unfold secs
    rw [if_neg hi]
    decide
set_option maxRecDepth 100000 in
set_option maxHeartbeats 1000000 in
theorem codeOf_few (g0 g1 g2 g3 g4 g5 g6 g7 g8 : Int) (h1 : g1 ≤ 9223372036854775807) (h1l : -9223372036854775808 ≤ g1) (hs : secs g0 g1 g2 g3 g4 g5 g6 g7 g8 < 1) (w : World) (y : Addr) (E : ErrAt w 2 y) :
    Calls Tryz.prog 35 #[.agg #[.int .i64 g0, .int .i64 g1, .int .i64 g2, .int .i64 g3, .int .i64 g4, .int .i64 g5, .int .i64 g6, .int .i64 g7, .int .i64 g8]] w fun e w' => e = .returned (.tuple #[.pointer none, errOf y]) ∧ Below w.heap.size w w' := by
  have HS := Lib.hid (fun W => secs_any g0 g1 g2 g3 g4 g5 g6 g7 g8 W h1 h1l)
  obtain ⟨q, hq⟩ : ∃ q, q = secs g0 g1 g2 g3 g4 g5 g6 g7 g8 := ⟨_, rfl⟩
  rw [← hq] at HS hs
  have t2 : decide (q < 1) = true := decide_eq_true hs
  have HE := Lib.hid E
  clear hq E
  go_enter Tryz.func35, Tryz.ntmps35
  go_wp2_with fail
  generalize hw : w.alloc (.cells #[.int .i64 g0, .int .i64 g1, .int .i64 g2, .int .i64 g3, .int .i64 g4, .int .i64 g5, .int .i64 g6, .int .i64 g7, .int .i64 g8] 23 (0, 0)) = w1
  obtain ⟨K, B⟩ := newG w w1 _ _ _ _ _ _ _ _ _ hw
  clear hw
  obtain ⟨bg, hbg⟩ : ∃ bg, bg = w.heap.size := ⟨_, rfl⟩
  rw [← hbg] at K ⊢
  clear hbg
  refine (HS.out _).mono ?_
  rintro e w2 ⟨rfl, b⟩
  replace B := B.trans (b.mono B.size)
  have k1 : w2.cell? ⟨2, 0, none⟩ = some (errOf y) := (HE.out.below B).1
  have HB := Lib.hid B
  clear K b HS B
  go_wp2_with fail
  go_quiet (fail)
  have HB2 := Lib.hid (HB.out.trans (((Drawn.mk w2 nq).below w2.heap.size).mono HB.out.size))
  generalize w2.drewN nq = w3 at HB2 ⊢
  go_wp2_with fail
  go_ret2
  exact ⟨rfl, HB2.out⟩
set_option maxRecDepth 100000 in
set_option maxHeartbeats 1000000 in
theorem codeOf_no (g0 g1 g2 g3 g4 g5 g6 g7 g8 : Int) (h1 : g1 ≤ 9223372036854775807) (h1l : -9223372036854775808 ≤ g1) (hs : ¬ secs g0 g1 g2 g3 g4 g5 g6 g7 g8 < 1) (w : World) (v : Value) (HN : ∀ W, Below w.heap.size w W → Calls Tryz.prog 63 #[.int .i64 g3, .int .i64 g4, .int .i64 (g2 + 32)] W fun e w' => e = .returned (.tuple #[.pointer none, v]) ∧ Below W.heap.size W w') :
    Calls Tryz.prog 35 #[.agg #[.int .i64 g0, .int .i64 g1, .int .i64 g2, .int .i64 g3, .int .i64 g4, .int .i64 g5, .int .i64 g6, .int .i64 g7, .int .i64 g8]] w fun e w' => e = .returned (.tuple #[.pointer none, v]) ∧ Below w.heap.size w w' := by
  have HS := Lib.hid (fun W => secs_any g0 g1 g2 g3 g4 g5 g6 g7 g8 W h1 h1l)
  have hin := secs_in hs
  obtain ⟨q, hq⟩ : ∃ q, q = secs g0 g1 g2 g3 g4 g5 g6 g7 g8 := ⟨_, rfl⟩
  rw [← hq] at HS hs
  have t1 : ¬ q < 1 := hs
  have t2 : decide (q < 1) = false := decide_eq_false t1
  have w32 : wrap64 (g2 + 32) = g2 + 32 := IntWalk.wrap64_in _ (by obtain ⟨_, _, ⟨a, b⟩, _⟩ := hin; omega)
  have HNh := Lib.hid HN
  clear hq HN hin hs
  go_enter Tryz.func35, Tryz.ntmps35
  go_wp2_with fail
  generalize hw : w.alloc (.cells #[.int .i64 g0, .int .i64 g1, .int .i64 g2, .int .i64 g3, .int .i64 g4, .int .i64 g5, .int .i64 g6, .int .i64 g7, .int .i64 g8] 23 (0, 0)) = w1
  obtain ⟨K, B⟩ := newG w w1 _ _ _ _ _ _ _ _ _ hw
  clear hw
  obtain ⟨bg, hbg⟩ : ∃ bg, bg = w.heap.size := ⟨_, rfl⟩
  rw [← hbg] at K ⊢
  clear hbg
  refine (HS.out _).mono ?_
  rintro e w2 ⟨rfl, b⟩
  replace K := keepG K b
  replace B := B.trans (b.mono B.size)
  obtain ⟨e0, e1, e2, e3, e4, e5, e6, e7, e8⟩ := g_cells K
  clear K b HS
  have HB := Lib.hid B
  clear B
  go_wp2_with fail
  refine (HNh.out w2 HB.out).mono ?_
  rintro e w3 ⟨rfl, b⟩
  have HF := Lib.hid (HB.out.trans (b.mono HB.out.size))
  clear b e0 e1 e2 e3 e4 e5 e6 e7 e8
  go_wp2_with fail
  go_ret2
  exact ⟨rfl, HF.out⟩
set_option maxRecDepth 100000 in
set_option maxHeartbeats 1000000 in
/-- Valid, where the code is known. -/
theorem pvalid_of (g0 g1 g2 g3 g4 g5 g6 g7 g8 : Int) (w : World) (v : Value) (HC : ∀ W, Below w.heap.size w W → Calls Tryz.prog 35 #[.agg #[.int .i64 g0, .int .i64 g1, .int .i64 g2, .int .i64 g3, .int .i64 g4, .int .i64 g5, .int .i64 g6, .int .i64 g7, .int .i64 g8]] W fun e w' => ∃ p, e = .returned (.tuple #[.pointer p, v]) ∧ Below W.heap.size W w') :
    Calls Tryz.prog 13 #[.agg #[.int .i64 g0, .int .i64 g1, .int .i64 g2, .int .i64 g3, .int .i64 g4, .int .i64 g5, .int .i64 g6, .int .i64 g7, .int .i64 g8]] w fun e w' => e = .returned v ∧ Below w.heap.size w w' := by
  have HCh := Lib.hid HC
  clear HC
  go_enter Tryz.func13, Tryz.ntmps13
  go_wp2_with fail
  generalize hw : w.alloc (.cells #[.int .i64 g0, .int .i64 g1, .int .i64 g2, .int .i64 g3, .int .i64 g4, .int .i64 g5, .int .i64 g6, .int .i64 g7, .int .i64 g8] 23 (0, 0)) = w1
  obtain ⟨K, B⟩ := newG w w1 _ _ _ _ _ _ _ _ _ hw
  clear hw K
  refine (HCh.out w1 B).mono ?_
  rintro e w2 ⟨p, rfl, b⟩
  have HF := Lib.hid (B.trans (b.mono B.size))
  clear b B HCh
  go_wp2_with fail
  go_ret
  exact ⟨rfl, HF.out⟩
set_option maxRecDepth 100000 in
set_option maxHeartbeats 2000000 in
theorem rvalid_few (g0 g1 g2 g3 g4 g5 g6 g7 g8 : Int) (hs : secs g0 g1 g2 g3 g4 g5 g6 g7 g8 < 1) (w : World) :
    Calls Tryz.prog 11 #[.agg #[.int .i64 g0, .int .i64 g1, .int .i64 g2, .int .i64 g3, .int .i64 g4, .int .i64 g5, .int .i64 g6, .int .i64 g7, .int .i64 g8]] w fun e w' => e = .returned (.tuple #[cdZ, .int .i64 108]) ∧ Below w.heap.size w w' := by
  have HS := Lib.hid (fun W => rsecs_all g0 g1 g2 g3 g4 g5 g6 g7 g8 W)
  obtain ⟨q, hq⟩ : ∃ q, q = secs g0 g1 g2 g3 g4 g5 g6 g7 g8 := ⟨_, rfl⟩
  rw [← hq] at HS hs
  have t2 : decide (q < 1) = true := decide_eq_true hs
  clear hq
  go_enter Tryz.func11, Tryz.ntmps11
  go_upto_region 1 with (fail)
  generalize hw : w.alloc (.cells #[.int .i64 g0, .int .i64 g1, .int .i64 g2, .int .i64 g3, .int .i64 g4, .int .i64 g5, .int .i64 g6, .int .i64 g7, .int .i64 g8] 23 (0, 0)) = w1
  obtain ⟨K, B⟩ := newG w w1 _ _ _ _ _ _ _ _ _ hw
  have hsz : w1.heap.size = w.heap.size + 1 := by rw [← hw]; simp
  clear hw
  obtain ⟨bg, hbg⟩ : ∃ bg, bg = w.heap.size := ⟨_, rfl⟩
  have HBg := Lib.hid hbg
  rw [← hbg] at K hsz ⊢
  clear hbg
  have b0 : Below w1.heap.size w1 (w1.alloc cd0) := (Below.refl _ _).alloc (Nat.le_refl _) _
  have hblk : (w1.alloc cd0).heap[w1.heap.size]? = some cd0 := heap_alloc_new w1 _
  rw [hsz] at b0 hblk
  rw [show Obj.cells #[Value.int IntKind.i64 0, Value.int IntKind.i64 0, Value.int IntKind.i64 0, Value.slice none 0 0, Value.int IntKind.i64 0] 27 (0, 0) = cd0 from rfl]
  generalize w1.alloc cd0 = w2 at b0 hblk ⊢
  replace K := (b0.block bg (by omega)).trans K
  replace B := B.trans (b0.mono (by rw [← hsz]; exact B.size))
  clear b0 hsz
  have HK := Lib.hid (And.intro K (And.intro hblk B))
  obtain ⟨e0, e1, e2, e3, e4, e5, e6, e7, e8⟩ := g_cells K
  clear K hblk B
  go_wp2_with fail
  refine (HS.out _).mono ?_
  rintro e w3 ⟨rfl, b⟩
  clear e0 e1 e2 e3 e4 e5 e6 e7 e8
  obtain ⟨K, hblk, B⟩ := HK.out
  clear HK
  replace hblk := keepG hblk b
  replace B := B.trans (b.mono B.size)
  have hz : w.heap.size ≤ bg + 1 := by rw [HBg.out]; omega
  have HF := Lib.hid (And.intro B hblk)
  obtain ⟨k0, k1, k2, k3, k4, kf⟩ := cd_cells hblk
  clear b B hblk K HS
  go_wp2_with fail
  obtain ⟨B, hblk⟩ := HF.out
  have o := onlyCd w3 (bg + 1) (.int .i64 0) (.int .i64 0) (.int .i64 0) (.slice none 0 0) (.int .i64 0)
  first
  | exact bodyPost_ret (v := .tuple #[cdZ, .int .i64 108]) (by simp [results, Tryz.results11, go_sem, k0, k1, k2, k3, k4]) rfl ⟨rfl, B.trans (o.below hz)⟩
  | exact bodyPost_ret (v := .tuple #[cdZ, .int .i64 108]) (by simp [results, Tryz.results11, go_sem, k0, k1, k2, k3, k4]) rfl ⟨rfl, B⟩
set_option maxRecDepth 100000 in
set_option maxHeartbeats 2000000 in
theorem rvalid_no (g0 g1 g2 g3 g4 g5 g6 g7 g8 c : Int) (hs : ¬ secs g0 g1 g2 g3 g4 g5 g6 g7 g8 < 1) (HN : ∀ W, Calls Tryz.prog 34 #[.int .i64 g3, .int .i64 g4, .int .i64 (g2 + 32)] W fun e w' => e = .returned (.tuple #[cdZ, .int .i64 c]) ∧ Below W.heap.size W w') (w : World) :
    Calls Tryz.prog 11 #[.agg #[.int .i64 g0, .int .i64 g1, .int .i64 g2, .int .i64 g3, .int .i64 g4, .int .i64 g5, .int .i64 g6, .int .i64 g7, .int .i64 g8]] w fun e w' => e = .returned (.tuple #[cdZ, .int .i64 c]) ∧ Below w.heap.size w w' := by
  have HS := Lib.hid (fun W => rsecs_all g0 g1 g2 g3 g4 g5 g6 g7 g8 W)
  have HNh := Lib.hid HN
  have hin := secs_in hs
  obtain ⟨q, hq⟩ : ∃ q, q = secs g0 g1 g2 g3 g4 g5 g6 g7 g8 := ⟨_, rfl⟩
  rw [← hq] at HS hs
  have t1 : ¬ q < 1 := hs
  have t2 : decide (q < 1) = false := decide_eq_false t1
  have w32 : wrap64 (g2 + 32) = g2 + 32 := IntWalk.wrap64_in _ (by obtain ⟨_, _, ⟨a, b⟩, _⟩ := hin; omega)
  clear hq HN hin hs
  go_enter Tryz.func11, Tryz.ntmps11
  go_upto_region 1 with (fail)
  generalize hw : w.alloc (.cells #[.int .i64 g0, .int .i64 g1, .int .i64 g2, .int .i64 g3, .int .i64 g4, .int .i64 g5, .int .i64 g6, .int .i64 g7, .int .i64 g8] 23 (0, 0)) = w1
  obtain ⟨K, B⟩ := newG w w1 _ _ _ _ _ _ _ _ _ hw
  have hsz : w1.heap.size = w.heap.size + 1 := by rw [← hw]; simp
  clear hw
  obtain ⟨bg, hbg⟩ : ∃ bg, bg = w.heap.size := ⟨_, rfl⟩
  have HBg := Lib.hid hbg
  rw [← hbg] at K hsz ⊢
  clear hbg
  have b0 : Below w1.heap.size w1 (w1.alloc cd0) := (Below.refl _ _).alloc (Nat.le_refl _) _
  have hblk : (w1.alloc cd0).heap[w1.heap.size]? = some cd0 := heap_alloc_new w1 _
  rw [hsz] at b0 hblk
  rw [show Obj.cells #[Value.int IntKind.i64 0, Value.int IntKind.i64 0, Value.int IntKind.i64 0, Value.slice none 0 0, Value.int IntKind.i64 0] 27 (0, 0) = cd0 from rfl]
  generalize w1.alloc cd0 = w2 at b0 hblk ⊢
  replace K := (b0.block bg (by omega)).trans K
  replace B := B.trans (b0.mono (by rw [← hsz]; exact B.size))
  clear b0 hsz
  have HK := Lib.hid (And.intro K (And.intro hblk B))
  obtain ⟨e0, e1, e2, e3, e4, e5, e6, e7, e8⟩ := g_cells K
  clear K hblk B
  go_wp2_with fail
  refine (HS.out _).mono ?_
  rintro e w3 ⟨rfl, b⟩
  clear e0 e1 e2 e3 e4 e5 e6 e7 e8
  obtain ⟨K, hblk, B⟩ := HK.out
  clear HK
  replace K := keepG K b
  replace hblk := keepG hblk b
  replace B := B.trans (b.mono B.size)
  obtain ⟨e0, e1, e2, e3, e4, e5, e6, e7, e8⟩ := g_cells K
  have HB3 := Lib.hid (And.intro hblk B)
  clear K b HS hblk B
  go_wp2_with fail
  refine (HNh.out w3).mono ?_
  rintro e w4 ⟨rfl, b⟩
  obtain ⟨hblk, B⟩ := HB3.out
  replace hblk := keepG hblk b
  replace B := B.trans (b.mono B.size)
  have hz : w.heap.size ≤ bg + 1 := by rw [HBg.out]; omega
  have HF := Lib.hid (And.intro B hblk)
  obtain ⟨k0, k1, k2, k3, k4, kf⟩ := cd_cells hblk
  clear b B hblk e0 e1 e2 e3 e4 e5 e6 e7 e8
  go_wp2_with fail
  obtain ⟨B, hblk⟩ := HF.out
  have o := onlyCd w4 (bg + 1) (.int .i64 0) (.int .i64 0) (.int .i64 0) (.slice none 0 0) (.int .i64 0)
  exact bodyPost_ret (v := .tuple #[cdZ, .int .i64 c]) (by simp [results, Tryz.results11, go_sem, k0, k1, k2, k3, k4]) rfl ⟨rfl, B.trans (o.below hz)⟩
section
variable {m : Nat} [M : Pl.Mid m]
set_option maxRecDepth 100000 in
set_option maxHeartbeats 1000000 in
theorem codeOf_yes {t sc : Nat} (g0 g1 g5 g6 g7 g8 : Int) (h1 : g1 ≤ 9223372036854775807) (h1l : -9223372036854775808 ≤ g1) (hsc : sc ≤ 2000) (H : Enc.May m t (sc + 32)) (hs : 1 ≤ secs g0 g1 (sc : Int) (m : Int) (t : Int) g5 g6 g7 g8) (w : World) (y : Addr) (E : ErrAt w 4 y) :
    Calls Tryz.prog 35 #[.agg #[.int .i64 g0, .int .i64 g1, .int .i64 (sc : Int), .int .i64 (m : Int), .int .i64 (t : Int), .int .i64 g5, .int .i64 g6, .int .i64 g7, .int .i64 g8]] w (MadeAt m t (sc + 32) w) := by
  have HS := Lib.hid (fun W => secs_any g0 g1 (sc : Int) (m : Int) (t : Int) g5 g6 g7 g8 W h1 h1l)
  obtain ⟨q, hq⟩ : ∃ q, q = secs g0 g1 (sc : Int) (m : Int) (t : Int) g5 g6 g7 g8 := ⟨_, rfl⟩
  rw [← hq] at HS hs
  have t1 : ¬ q < 1 := by omega
  have t2 : decide (q < 1) = false := decide_eq_false t1
  have HE := Lib.hid E
  have HH := Lib.hid H
  have e32 : (sc : Int) + 32 = ((sc + 32 : Nat) : Int) := by omega
  have HE32 := Lib.hid e32
  clear hq E H e32
  go_enter Tryz.func35, Tryz.ntmps35
  go_wp2_with fail
  generalize hw : w.alloc (.cells #[.int .i64 g0, .int .i64 g1, .int .i64 (sc : Int), .int .i64 (m : Int), .int .i64 (t : Int), .int .i64 g5, .int .i64 g6, .int .i64 g7, .int .i64 g8] 23 (0, 0)) = w1
  obtain ⟨K, B⟩ := newG w w1 _ _ _ _ _ _ _ _ _ hw
  clear hw
  obtain ⟨bg, hbg⟩ : ∃ bg, bg = w.heap.size := ⟨_, rfl⟩
  rw [← hbg] at K ⊢
  clear hbg
  refine (HS.out _).mono ?_
  rintro e w2 ⟨rfl, b⟩
  replace K := keepG K b
  replace B := B.trans (b.mono B.size)
  obtain ⟨e0, e1, e2, e3, e4, e5, e6, e7, e8⟩ := g_cells K
  clear K b HS
  go_wp2_with fail
  rw [HE32.out]
  refine (new_any (m := m) HH.out w2 y (HE.out.below B)).mono ?_
  rintro e w3 ⟨s, rfl, C, b, hs2⟩
  have HF := Lib.hid (And.intro C (And.intro (B.trans (b.mono B.size)) (Nat.le_trans B.size hs2)))
  clear C b hs2 B e0 e1 e2 e3 e4 e5 e6 e7 e8
  go_wp2_with fail
  go_ret2
  exact ⟨s, rfl, HF.out⟩
set_option maxRecDepth 100000 in
set_option maxHeartbeats 2000000 in
theorem rvalid_yes {t sc : Nat} (g0 g1 g5 g6 g7 g8 : Int) (hsc : sc ≤ 2000) (H : Enc.May m t (sc + 32)) (hs : 1 ≤ secs g0 g1 (sc : Int) (m : Int) (t : Int) g5 g6 g7 g8) (w : World) :
    Calls Tryz.prog 11 #[.agg #[.int .i64 g0, .int .i64 g1, .int .i64 (sc : Int), .int .i64 (m : Int), .int .i64 (t : Int), .int .i64 g5, .int .i64 g6, .int .i64 g7, .int .i64 g8]] w fun e w' => ∃ ga gn gc, e = .returned (.tuple #[cdV m t (sc + 32) ga gn gc (deg m t), .int .i64 0]) ∧ BarV w' ga gn gc (gen m t) ∧ Below w.heap.size w w' := by
  have HS := Lib.hid (fun W => rsecs_all g0 g1 (sc : Int) (m : Int) (t : Int) g5 g6 g7 g8 W)
  obtain ⟨q, hq⟩ : ∃ q, q = secs g0 g1 (sc : Int) (m : Int) (t : Int) g5 g6 g7 g8 := ⟨_, rfl⟩
  rw [← hq] at HS hs
  have t1 : ¬ q < 1 := by omega
  have t2 : decide (q < 1) = false := decide_eq_false t1
  have HM := Lib.hid H
  have e32 : (sc : Int) + 32 = ((sc + 32 : Nat) : Int) := by omega
  have HE32 := Lib.hid e32
  clear e32 hq H hs
  go_enter Tryz.func11, Tryz.ntmps11
  go_upto_region 1 with (fail)
  generalize hw : w.alloc (.cells #[.int .i64 g0, .int .i64 g1, .int .i64 (sc : Int), .int .i64 (m : Int), .int .i64 (t : Int), .int .i64 g5, .int .i64 g6, .int .i64 g7, .int .i64 g8] 23 (0, 0)) = w1
  obtain ⟨K, B⟩ := newG w w1 _ _ _ _ _ _ _ _ _ hw
  have hsz : w1.heap.size = w.heap.size + 1 := by rw [← hw]; simp
  clear hw
  obtain ⟨bg, hbg⟩ : ∃ bg, bg = w.heap.size := ⟨_, rfl⟩
  have HBg := Lib.hid hbg
  rw [← hbg] at K hsz ⊢
  clear hbg
  have b0 : Below w1.heap.size w1 (w1.alloc cd0) := (Below.refl _ _).alloc (Nat.le_refl _) _
  have hblk : (w1.alloc cd0).heap[w1.heap.size]? = some cd0 := heap_alloc_new w1 _
  rw [hsz] at b0 hblk
  rw [show Obj.cells #[Value.int IntKind.i64 0, Value.int IntKind.i64 0, Value.int IntKind.i64 0, Value.slice none 0 0, Value.int IntKind.i64 0] 27 (0, 0) = cd0 from rfl]
  generalize w1.alloc cd0 = w2 at b0 hblk ⊢
  replace K := (b0.block bg (by omega)).trans K
  replace B := B.trans (b0.mono (by rw [← hsz]; exact B.size))
  clear b0 hsz
  have HK := Lib.hid (And.intro K hblk)
  obtain ⟨e0, e1, e2, e3, e4, e5, e6, e7, e8⟩ := g_cells K
  clear K hblk
  go_wp2_with fail
  refine (HS.out _).mono ?_
  rintro e w3 ⟨rfl, b⟩
  clear e0 e1 e2 e3 e4 e5 e6 e7 e8
  obtain ⟨K, hblk⟩ := HK.out
  clear HK
  replace K := keepG K b
  replace hblk := keepG hblk b
  replace B := B.trans (b.mono B.size)
  obtain ⟨e0, e1, e2, e3, e4, e5, e6, e7, e8⟩ := g_cells K
  clear K b HS
  go_wp2_with fail
  rw [HE32.out]
  refine (rnew_any (m := m) HM.out w3).mono ?_
  rintro e w4 ⟨ga, gn, gc, rfl, hG, b⟩
  have hl3 := lt_of_block hblk
  replace hblk := keepG hblk b
  replace B := B.trans (b.mono B.size)
  have hz : w.heap.size ≤ bg + 1 := by rw [HBg.out]; omega
  have HF := Lib.hid (And.intro hG (And.intro B (And.intro hblk hl3)))
  obtain ⟨k0, k1, k2, k3, k4, kf⟩ := cd_cells hblk
  clear b hG B hblk hl3 e0 e1 e2 e3 e4 e5 e6 e7 e8
  go_wp2_with fail
  obtain ⟨hG, B, hblk, hl3⟩ := HF.out
  have e32 := HE32.out
  have o := onlyCd w4 (bg + 1) (.int .i64 (m : Int)) (.int .i64 (t : Int)) (.int .i64 ((sc : Int) + 32)) (.slice ga gn gc) (.int .i64 (deg m t : Int))
  exact bodyPost_ret (v := .tuple #[.agg #[.int .i64 (m : Int), .int .i64 (t : Int), .int .i64 ((sc : Int) + 32), .slice ga gn gc, .int .i64 (deg m t : Int)], .int .i64 0]) (by simp [results, Tryz.results11, go_sem, k0, k1, k2, k3, k4]) rfl ⟨ga, gn, gc, by rw [e32]; try rfl, newV_bar (newV_only hG o hl3), B.trans (o.below hz)⟩
end
/-- any geometry: what both say. -/
theorem geo_cases (g0 g1 g2 g3 g4 g5 g6 g7 g8 : Int) (h1 : g1 ≤ 9223372036854775807) (h1l : -9223372036854775808 ≤ g1) (f : Nat → Addr) :
    (∃ (m t sc : Nat) (M : Pl.Mid m), g2 = (sc : Int) ∧ g3 = (m : Int) ∧ g4 = (t : Int) ∧ sc ≤ 1024 ∧ Enc.May m t (sc + 32) ∧ 1 ≤ secs g0 g1 g2 g3 g4 g5 g6 g7 g8) ∨
    (∃ (y : Addr) (c : Int), SeeV f (errOf y) c ∧ c ≠ 0 ∧
      (∀ w, AllErrs w f → Calls Tryz.prog 35 #[.agg #[.int .i64 g0, .int .i64 g1, .int .i64 g2, .int .i64 g3, .int .i64 g4, .int .i64 g5, .int .i64 g6, .int .i64 g7, .int .i64 g8]] w fun e w' => e = .returned (.tuple #[.pointer none, errOf y]) ∧ Below w.heap.size w w') ∧
      (∀ w, Calls Tryz.prog 11 #[.agg #[.int .i64 g0, .int .i64 g1, .int .i64 g2, .int .i64 g3, .int .i64 g4, .int .i64 g5, .int .i64 g6, .int .i64 g7, .int .i64 g8]] w fun e w' => e = .returned (.tuple #[cdZ, .int .i64 c]) ∧ Below w.heap.size w w')) := by
  by_cases hs : secs g0 g1 g2 g3 g4 g5 g6 g7 g8 < 1
  · exact .inr ⟨f 7, 108, Or.inr ⟨7, by decide, rfl, rfl⟩, by decide, fun w h => codeOf_few g0 g1 g2 g3 g4 g5 g6 g7 g8 h1 h1l hs w (f 7) h.1.2.2.2.2.2.2.2.1, rvalid_few g0 g1 g2 g3 g4 g5 g6 g7 g8 hs⟩
  · rcases new_cases g3 g4 (g2 + 32) f with ⟨m, t, n, M, e3, e4, e2, H⟩ | ⟨v, c, h1', h2, _, ⟨y, rfl⟩, h4, h5⟩
    · have hin := secs_in hs
      obtain ⟨_, _, ⟨a, b⟩, _⟩ := hin
      obtain ⟨sc, rfl⟩ : ∃ sc : Nat, g2 = (sc : Int) := ⟨g2.toNat, by omega⟩
      obtain rfl : n = sc + 32 := by omega
      exact .inl ⟨m, t, sc, M, rfl, e3, e4, by omega, H, by omega⟩
    · exact .inr ⟨y, c, h1', h2, fun w h => codeOf_no g0 g1 g2 g3 g4 g5 g6 g7 g8 h1 h1l hs w _ fun W b => h4 W (h.below b), rvalid_no g0 g1 g2 g3 g4 g5 g6 g7 g8 c hs h5⟩
end Go.Proofs.YtdhcigiaidlmbaaGreatDoor.Pg
/- The walk over the reference's Clear. By the verifier of shale. -/
namespace Go.Proofs.YtdhcigiaidlmbaaGreatDoor.Dec
open Go Go.RowKit Bin Cos Enc
set_option linter.unusedVariables false
theorem bclear (a c : BitVec 8) : bits .andNot .u8 (Bits32.b a) (Bits32.b c) = Bits32.b (a &&& ~~~c) := by
  show IntKind.u8.wrap (Bits32.b (BitVec.ofInt 8 (Bits32.b a) &&& ~~~BitVec.ofInt 8 (Bits32.b c))) = _
  rw [Bits32.ofInt8, Bits32.ofInt8, Bits32.wrap8]
theorem bclear_bit (c : BitVec 8) (k : Nat) : bits .andNot .u8 (Bits32.b c) ((2 : Int) ^ (k % 8) % 256) = Bits32.b (c &&& ~~~BitVec.twoPow 8 (k % 8)) := by rw [Bits32.bit8, bclear]
theorem bor8 (a c : BitVec 8) : bits .or .u8 (Bits32.b a) (Bits32.b c) = Bits32.b (a ||| c) := by
  show IntKind.u8.wrap (Bits32.b (BitVec.ofInt 8 (Bits32.b a) ||| BitVec.ofInt 8 (Bits32.b c))) = _
  rw [Bits32.ofInt8, Bits32.ofInt8, Bits32.wrap8]
theorem bor_bit (c : BitVec 8) (k : Nat) : bits .or .u8 (Bits32.b c) ((2 : Int) ^ (k % 8) % 256) = Bits32.b (c ||| BitVec.twoPow 8 (k % 8)) := by rw [Bits32.bit8, bor8]
theorem or_two : ∀ (c : BitVec 8) (k : Fin 8), c ||| BitVec.twoPow 8 k.val = if c.getLsbD k.val then c else c ^^^ BitVec.twoPow 8 k.val := by decide +kernel
section
attribute [local go_sem] Bits32.bxor bclear bclear_bit
end
end Go.Proofs.YtdhcigiaidlmbaaGreatDoor.Dec
/- Laying a page. By the verifier of shale. -/
namespace Go.Proofs.YtdhcigiaidlmbaaGreatDoor.Pg
open Go Go.RowKit Bin Pl Cos Enc Syn Loc Sea Dec Crc
set_option linter.unusedVariables false
/-- a codec in block cb: the sector's bytes, the code, the decoder. -/
def pgAt (w : World) (cb sc s db : Nat) : Prop := w.heap[cb]? = some (.cells #[.int .i64 (sc : Int), .pointer (some ⟨s, 0, none⟩), .pointer (some ⟨db, 0, none⟩)] 82 (0, 0))
theorem pgAt.cells {w : World} {cb sc s db : Nat} (h : pgAt w cb sc s db) : w.cell? ⟨cb, 0, none⟩ = some (.int .i64 (sc : Int)) ∧ w.cell? ⟨cb, 1, none⟩ = some (.pointer (some ⟨s, 0, none⟩)) ∧ w.cell? ⟨cb, 2, none⟩ = some (.pointer (some ⟨db, 0, none⟩)) := by
  have e : w.heap[cb]? = _ := h
  refine ⟨?_, ?_, ?_⟩ <;> (unfold World.cell?; simp only; rw [e]; rfl)
theorem pgAt.below {w w' : World} {cb sc s db : Nat} (h : pgAt w cb sc s db) (b : Below w.heap.size w w') : pgAt w' cb sc s db := (b.block cb (lt_of_block h)).trans h
/-- a place in a block of its own. -/
theorem newPl (w W : World) (x y : Int) (h : w.alloc (.cells #[.int .i64 x, .int .i64 y] 43 (0, 0)) = W) : W.heap[w.heap.size]? = some (.cells #[.int .i64 x, .int .i64 y] 43 (0, 0)) ∧ Below w.heap.size w W ∧ W.heap.size = w.heap.size + 1 := by
  subst h
  exact ⟨heap_alloc_new w _, (Below.refl _ _).alloc (Nat.le_refl _) _, by simp⟩
theorem pl_cells {w : World} {b : Nat} {x y : Int} {t : TypeId} (h : w.heap[b]? = some (.cells #[.int .i64 x, .int .i64 y] t (0, 0))) : w.cell? ⟨b, 0, none⟩ = some (.int .i64 x) ∧ w.cell? ⟨b, 1, none⟩ = some (.int .i64 y) := by
  refine ⟨?_, ?_⟩ <;> (unfold World.cell?; simp only; rw [h]; rfl)
section
variable {m : Nat} [M : Pl.Mid m]
end
end Go.Proofs.YtdhcigiaidlmbaaGreatDoor.Pg
/- A codec of a geometry that may be. By the verifier of shale. -/
namespace Go.Proofs.YtdhcigiaidlmbaaGreatDoor.Pg
open Go Go.RowKit Bin Pl Cos Enc Syn Loc Sea Dec
set_option linter.unusedVariables false
section
variable {m : Nat} [M : Pl.Mid m]
/-- what a new codec is. -/
def PgMadeAt (m t sc : Nat) [M : Pl.Mid m] (w : World) (e : Ending) (w' : World) : Prop := ∃ cb s db, e = .returned (.tuple #[.pointer (some ⟨cb, 0, none⟩), .nilIface]) ∧ pgAt w' cb sc s db ∧ CodeAt m t (sc + 32) w' s ∧ decAt w' db s ∧ Below w.heap.size w w' ∧ w.heap.size ≤ cb
set_option maxRecDepth 100000 in
set_option maxHeartbeats 2000000 in
theorem pnew_yes {t sc : Nat} (g0 g1 g5 g6 g7 g8 : Int) (h1 : g1 ≤ 9223372036854775807) (h1l : -9223372036854775808 ≤ g1) (hsc : sc ≤ 2000) (H : Enc.May m t (sc + 32)) (hs : 1 ≤ secs g0 g1 (sc : Int) (m : Int) (t : Int) g5 g6 g7 g8) (w : World) (y : Addr) (E : ErrAt w 4 y) :
    Calls Tryz.prog 12 #[.agg #[.int .i64 g0, .int .i64 g1, .int .i64 (sc : Int), .int .i64 (m : Int), .int .i64 (t : Int), .int .i64 g5, .int .i64 g6, .int .i64 g7, .int .i64 g8]] w (PgMadeAt m t sc w) := by
  have HC := Lib.hid (fun W b => codeOf_yes (m := m) (t := t) (sc := sc) g0 g1 g5 g6 g7 g8 h1 h1l hsc H hs W y (E.below b))
  clear H hs E
  go_enter Tryz.func12, Tryz.ntmps12
  go_wp2_with fail
  generalize hw : w.alloc (.cells #[.int .i64 g0, .int .i64 g1, .int .i64 (sc : Int), .int .i64 (m : Int), .int .i64 (t : Int), .int .i64 g5, .int .i64 g6, .int .i64 g7, .int .i64 g8] 23 (0, 0)) = w1
  obtain ⟨K, B⟩ := newG w w1 _ _ _ _ _ _ _ _ _ hw
  clear hw
  obtain ⟨bg, hbg⟩ : ∃ bg, bg = w.heap.size := ⟨_, rfl⟩
  rw [← hbg] at K ⊢
  clear hbg
  refine (HC.out w1 B).mono ?_
  rintro e w2 ⟨s, rfl, C, b, hs2⟩
  replace K := keepG K b
  replace B := B.trans (b.mono B.size)
  have hbgl := lt_of_block K
  obtain ⟨_, _, e2, _⟩ := g_cells K
  have HS : Hid (∀ w', Below w2.heap.size w2 w' → (w'.cell? ⟨bg, 2, none⟩ = some (.int .i64 (sc : Int)) ∧ Below w2.heap.size w2 w')) := fun w' b => ⟨(b.cell (p := ⟨bg, 2, none⟩) hbgl).trans e2, b⟩
  have HN : Hid (∀ w' (_ : w'.cell? ⟨bg, 2, none⟩ = some (.int .i64 (sc : Int)) ∧ Below w2.heap.size w2 w'), Calls Tryz.prog 36 #[.pointer (some ⟨s, 0, none⟩)] w' fun e w'' => ∃ db, e = .returned (.pointer (some ⟨db, 0, none⟩)) ∧ (w''.cell? ⟨bg, 2, none⟩ = some (.int .i64 (sc : Int)) ∧ Below w2.heap.size w2 w'') ∧ decAt w'' db s) := fun w' hs => (newD_any s w').mono fun e w'' h => by
    obtain ⟨db, h1, h2, h3, _⟩ := h
    exact ⟨db, h1, HS.out w'' (hs.2.trans (h3.mono hs.2.size)), h2⟩
  have hS0 := HS.out w2.drew ((Drawn.mk w2 1).below _)
  have HF := Lib.hid (And.intro C B)
  clear K b C B hs2 HC hbgl
  go_wp2_with fail
  clear e2
  go_region_held3 (fun w' => w'.cell? ⟨bg, 2, none⟩ = some (.int .i64 (sc : Int)) ∧ Below w2.heap.size w2 w')
    (first | assumption | exact ⟨by assumption, by assumption⟩ | exact HS.out _ (Below.alloc (And.right (by assumption)) (Below.size (And.right (by assumption))) _))
    (first
      | (go_at_call 36; (refine Calls.mono (HN.out _ (by assumption)) ?_); rintro e w3 ⟨db, rfl, z1, z2⟩))
  obtain ⟨C, B⟩ := HF.out
  have ba : Below w3.heap.size w3 (w3.alloc (.cells #[.int .i64 (sc : Int), .pointer (some ⟨s, 0, none⟩), .pointer (some ⟨db, 0, none⟩)] 82 (0, 0))) := (Below.refl _ _).alloc (Nat.le_refl _) _
  have b4 := z1.2.trans (ba.mono z1.2.size)
  have HFi : Hid (pgAt (w3.alloc (.cells #[.int .i64 (sc : Int), .pointer (some ⟨s, 0, none⟩), .pointer (some ⟨db, 0, none⟩)] 82 (0, 0))) w3.heap.size sc s db ∧ CodeAt m t (sc + 32) (w3.alloc (.cells #[.int .i64 (sc : Int), .pointer (some ⟨s, 0, none⟩), .pointer (some ⟨db, 0, none⟩)] 82 (0, 0))) s ∧ decAt (w3.alloc (.cells #[.int .i64 (sc : Int), .pointer (some ⟨s, 0, none⟩), .pointer (some ⟨db, 0, none⟩)] 82 (0, 0))) db s ∧ Below w.heap.size w (w3.alloc (.cells #[.int .i64 (sc : Int), .pointer (some ⟨s, 0, none⟩), .pointer (some ⟨db, 0, none⟩)] 82 (0, 0))) ∧ w.heap.size ≤ w3.heap.size) :=
    ⟨heap_alloc_new w3 _, C.below b4, keepB z2 ba, B.trans (b4.mono B.size), Nat.le_trans B.size z1.2.size⟩
  clear C B ba b4 z1 z2 HS HN hS0
  go_wp2_with fail
  go_ret2
  exact ⟨_, s, db, rfl, HFi.out⟩
end
end Go.Proofs.YtdhcigiaidlmbaaGreatDoor.Pg
/- A codec of a geometry that may not be. By the verifier of shale. -/
namespace Go.Proofs.YtdhcigiaidlmbaaGreatDoor.Pg
open Go Go.RowKit Bin Pl Cos Enc Syn Loc Sea Dec
set_option linter.unusedVariables false
set_option maxRecDepth 100000 in
set_option maxHeartbeats 1000000 in
theorem pnew_bad (g0 g1 g2 g3 g4 g5 g6 g7 g8 : Int) (w : World) (y : Addr) (HC : ∀ W, Below w.heap.size w W → Calls Tryz.prog 35 #[.agg #[.int .i64 g0, .int .i64 g1, .int .i64 g2, .int .i64 g3, .int .i64 g4, .int .i64 g5, .int .i64 g6, .int .i64 g7, .int .i64 g8]] W fun e w' => e = .returned (.tuple #[.pointer none, errOf y]) ∧ Below W.heap.size W w') :
    Calls Tryz.prog 12 #[.agg #[.int .i64 g0, .int .i64 g1, .int .i64 g2, .int .i64 g3, .int .i64 g4, .int .i64 g5, .int .i64 g6, .int .i64 g7, .int .i64 g8]] w fun e w' => e = .returned (.tuple #[.pointer none, errOf y]) ∧ Below w.heap.size w w' := by
  have HCh := Lib.hid HC
  clear HC
  go_enter Tryz.func12, Tryz.ntmps12
  go_wp2_with fail
  generalize hw : w.alloc (.cells #[.int .i64 g0, .int .i64 g1, .int .i64 g2, .int .i64 g3, .int .i64 g4, .int .i64 g5, .int .i64 g6, .int .i64 g7, .int .i64 g8] 23 (0, 0)) = w1
  obtain ⟨K, B⟩ := newG w w1 _ _ _ _ _ _ _ _ _ hw
  clear hw K
  refine (HCh.out w1 B).mono ?_
  rintro e w2 ⟨rfl, b⟩
  have HF := Lib.hid (B.trans (b.mono B.size))
  clear b B HCh
  go_wp2_with fail
  go_ret2
  exact ⟨rfl, HF.out⟩
end Go.Proofs.YtdhcigiaidlmbaaGreatDoor.Pg
/- made: the codecs that a statement of chapter 13 makes of any numbers. By the verifier of shale. -/
namespace Go.Proofs.YtdhcigiaidlmbaaGreatDoor.Pg
open Go Go.RowKit Bin Pl Cos Enc Syn Loc Sea Dec
set_option linter.unusedVariables false
instance mid10 : Pl.Mid 10 := ⟨by decide, by decide⟩
def rxO (g0 g1 g2 g3 g4 g5 g6 g7 g8 a b c : Int) (d : Value) (e : Int) : Obj := .cells #[.int .i64 g0, .int .i64 g1, .int .i64 g2, .int .i64 g3, .int .i64 g4, .int .i64 g5, .int .i64 g6, .int .i64 g7, .int .i64 g8, .int .i64 a, .int .i64 b, .int .i64 c, d, .int .i64 e] 40 (0, 0)
theorem rx_cells {w : World} {s : Nat} {g0 g1 g2 g3 g4 g5 g6 g7 g8 a b c : Int} {d : Value} {e : Int} (h : w.heap[s]? = some (rxO g0 g1 g2 g3 g4 g5 g6 g7 g8 a b c d e)) : w.cell? ⟨s, 0, none⟩ = some (.int .i64 g0) ∧ w.cell? ⟨s, 1, none⟩ = some (.int .i64 g1) ∧ w.cell? ⟨s, 2, none⟩ = some (.int .i64 g2) ∧ w.cell? ⟨s, 3, none⟩ = some (.int .i64 g3) ∧ w.cell? ⟨s, 4, none⟩ = some (.int .i64 g4) ∧ w.cell? ⟨s, 5, none⟩ = some (.int .i64 g5) ∧ w.cell? ⟨s, 6, none⟩ = some (.int .i64 g6) ∧ w.cell? ⟨s, 7, none⟩ = some (.int .i64 g7) ∧ w.cell? ⟨s, 8, none⟩ = some (.int .i64 g8) ∧ w.cell? ⟨s, 9, none⟩ = some (.int .i64 a) ∧ w.cell? ⟨s, 10, none⟩ = some (.int .i64 b) ∧ w.cell? ⟨s, 11, none⟩ = some (.int .i64 c) ∧ w.cell? ⟨s, 12, none⟩ = some d ∧ w.cell? ⟨s, 13, none⟩ = some (.int .i64 e) ∧ ∀ i, w.frozen? ⟨s, i, none⟩ = false := by
  refine ⟨?_, ?_, ?_, ?_, ?_, ?_, ?_, ?_, ?_, ?_, ?_, ?_, ?_, ?_, ?_⟩
  all_goals first | (unfold World.cell?; simp only; rw [h]; rfl) | (intro i; unfold World.frozen?; simp only; rw [h]; unfold rxO; simp)
section
variable {m : Nat} [M : Pl.Mid m]
end
end Go.Proofs.YtdhcigiaidlmbaaGreatDoor.Pg
/- In how many bits two lists differ, whatever their lengths. By the verifier of shale. -/
namespace Go.Proofs.YtdhcigiaidlmbaaGreatDoor.Dec
open Go Go.RowKit Bin Pl Cos Enc Syn Loc Sea
set_option linter.unusedVariables false
/-- in how many bits two lists differ; what one is longer by counts whole. -/
def ds (n1 n2 : Nat) (X Y : List (BitVec 8)) : Nat := 8 * (n1 - n2 + (n2 - n1)) + pop (val X ^^^ val Y) (8 * min n1 n2)
theorem int_eq {a b : Int} (h : a = b) : Value.int .i64 a = Value.int .i64 b := by rw [h]
section
attribute [local go_sem] Bits32.bxor
theorem pol_cell {w : World} {a : Option Addr} {n c : Nat} {X : List (BitVec 8)} (h : Pol w a n c X) {i : Nat} (hi : i < n) : ∃ b o, a = some ⟨b, o, none⟩ ∧ w.cell? ⟨b, o + i, none⟩ = some (.int .u8 (Bits32.b (nth8 X i))) := by
  rcases h.hrow with h0 | ⟨b, o, e, hr, _⟩
  · omega
  · exact ⟨b, o, e, hr i (by have := h.hlen; omega)⟩
end
end Go.Proofs.YtdhcigiaidlmbaaGreatDoor.Dec
/- How many bits of bytes are 0. By the verifier of shale. -/
namespace Go.Proofs.YtdhcigiaidlmbaaGreatDoor.Pg
open Go Go.RowKit Bin Pl Cos Enc Syn Loc Sea Dec
set_option linter.unusedVariables false
theorem zN_ones : ∀ c : BitVec 8, Lib.onesCount (~~~c).toNat = Meta.zN c 8 := by decide +kernel
theorem zN_le8 : ∀ c : BitVec 8, Meta.zN c 8 ≤ 8 := by decide +kernel
theorem not_ones : ∀ c : BitVec 8, 255#8 ^^^ c = ~~~c := by decide +kernel
theorem not8 (c : BitVec 8) : bits .xor .u8 IntKind.u8.max (Bits32.b c) = Bits32.b (~~~c) := by
  rw [← not_ones, ← Bits32.bxor]
  rfl
set_option maxRecDepth 100000 in
set_option maxHeartbeats 1000000 in
theorem zeros_any (l : List (BitVec 8)) (a : Option Addr) (n cap : Nat) (w : World) (h : Pol w a n cap l) (hn : n ≤ 100000) :
    Calls Tryz.prog 28 #[.slice a n cap] w fun e w' => e = .returned (.int .i64 (Meta.zL l n : Int)) ∧ w = w' := by
  have H := Lib.hid h
  clear h
  go_enter Tryz.func28, Tryz.ntmps28
  go_wp2_with fail
  go_loopg [3, 8] n (fun gh s3 s8 wx => ∃ k : Nat, gh = n - k ∧ k ≤ n ∧ s8 = .int .i64 (k : Int) ∧ s3 = .int .i64 (Meta.zL l k : Int) ∧ w = wx)
  case atStart => exact ⟨0, rfl, Nat.zero_le _, rfl, rfl, rfl⟩
  case round =>
    obtain ⟨k, hg, hk, rfl, rfl, rfl⟩ := hrel
    have HG := Lib.hid hg
    clear hg
    have hz := Meta.zL_le l k
    by_cases hlt : k < n
    · have x1 : (k : Int) < (n : Int) := by omega
      have x0 : (0 : Int) ≤ (k : Int) := by omega
      have HJ : Hid (k + 1 ≤ n) := hlt
      obtain ⟨b1, o1, rfl, d1⟩ := pol_cell H.out hlt
      have HZ : Hid (Meta.zL l (k + 1) = Meta.zL l k + Meta.zN (nth8 l k) 8) := rfl
      generalize nth8 l k = c at d1 HZ
      have h8 := zN_le8 c
      have HO := Lib.hid (ones8_any (~~~c) w)
      rw [zN_ones] at HO
      have hnot := not8 c
      obtain ⟨p, hp⟩ : ∃ p, p = Meta.zL l k := ⟨_, rfl⟩
      rw [← hp] at hz HZ ⊢
      generalize Meta.zN c 8 = q at h8 HO HZ
      generalize Bits32.b c = cv at d1 hnot
      generalize Bits32.b (~~~c) = nv at hnot HO
      clear hlt hp
      go_wp2_with fail
      refine HO.out.mono ?_
      rintro e w' ⟨rfl, rfl⟩
      go_wp2_with fail
      go_roundg (n - (k + 1))
      case measure => have := HG.out; have := HJ.out; omega
      case rel => exact ⟨k + 1, rfl, HJ.out, by go_num, int_eq (by rw [HZ.out]; omega), rfl⟩
    · obtain rfl : k = n := by omega
      have x1 : ¬ (k : Int) < (k : Int) := by omega
      clear hlt
      obtain ⟨p, hp⟩ : ∃ p, p = Meta.zL l k := ⟨_, rfl⟩
      rw [← hp] at hz ⊢
      have HPp := Lib.hid hp
      clear hp
      go_wp2_with fail
      go_ret
      rw [← HPp.out]
      exact ⟨rfl, rfl⟩
end Go.Proofs.YtdhcigiaidlmbaaGreatDoor.Pg
/- Opening a page, step by step. By the verifier of shale. -/
namespace Go.Proofs.YtdhcigiaidlmbaaGreatDoor.Pg
open Go Go.RowKit Bin Pl Cos Enc Syn Loc Sea Dec Crc
set_option linter.unusedVariables false
/-- a page on its way. -/
def rdAt (w : World) (rb : Nat) (x y : Int) (bv : Value) (cls : Int) (K : Meta.M6) (dv : Value) (fx : Int) : Prop :=
  w.heap[rb]? = some (.cells #[.int .i64 x, .int .i64 y, bv, .int .i64 cls, .int .i64 (Meta.fld K 0), .int .i64 (Meta.fld K 1), .int .i64 (Meta.fld K 2), .int .i64 (Meta.fld K 3), .int .i64 (Meta.fld K 4), .int .i64 (Meta.fld K 5), dv, .int .i64 fx] 96 (0, 0))
theorem rdAt.lt {w : World} {rb : Nat} {x y : Int} {bv : Value} {cls : Int} {K : Meta.M6} {dv : Value} {fx : Int} (h : rdAt w rb x y bv cls K dv fx) : rb < w.heap.size := lt_of_block h
theorem rdAt.cells {w : World} {rb : Nat} {x y : Int} {bv : Value} {cls : Int} {K : Meta.M6} {dv : Value} {fx : Int} (h : rdAt w rb x y bv cls K dv fx) :
    w.cell? ⟨rb, 0, none⟩ = some (.int .i64 x) ∧ w.cell? ⟨rb, 1, none⟩ = some (.int .i64 y) ∧ w.cell? ⟨rb, 2, none⟩ = some bv ∧ w.cell? ⟨rb, 3, none⟩ = some (.int .i64 cls) ∧ w.cell? ⟨rb, 4, none⟩ = some (.int .i64 (Meta.fld K 0)) ∧ w.cell? ⟨rb, 5, none⟩ = some (.int .i64 (Meta.fld K 1)) ∧ w.cell? ⟨rb, 6, none⟩ = some (.int .i64 (Meta.fld K 2)) ∧ w.cell? ⟨rb, 7, none⟩ = some (.int .i64 (Meta.fld K 3)) ∧ w.cell? ⟨rb, 8, none⟩ = some (.int .i64 (Meta.fld K 4)) ∧ w.cell? ⟨rb, 9, none⟩ = some (.int .i64 (Meta.fld K 5)) ∧ w.cell? ⟨rb, 10, none⟩ = some dv ∧ w.cell? ⟨rb, 11, none⟩ = some (.int .i64 fx) ∧ ∀ i, w.frozen? ⟨rb, i, none⟩ = false := by
  have e : w.heap[rb]? = _ := h
  refine ⟨?_, ?_, ?_, ?_, ?_, ?_, ?_, ?_, ?_, ?_, ?_, ?_, fun i => ?_⟩
  · unfold World.cell?; simp only; rw [e]; rfl
  · unfold World.cell?; simp only; rw [e]; rfl
  · unfold World.cell?; simp only; rw [e]; rfl
  · unfold World.cell?; simp only; rw [e]; rfl
  · unfold World.cell?; simp only; rw [e]; rfl
  · unfold World.cell?; simp only; rw [e]; rfl
  · unfold World.cell?; simp only; rw [e]; rfl
  · unfold World.cell?; simp only; rw [e]; rfl
  · unfold World.cell?; simp only; rw [e]; rfl
  · unfold World.cell?; simp only; rw [e]; rfl
  · unfold World.cell?; simp only; rw [e]; rfl
  · unfold World.cell?; simp only; rw [e]; rfl
  · unfold World.frozen?; simp only; rw [e]; rfl
theorem rdAt.same {w w' : World} {rb : Nat} {x y : Int} {bv : Value} {cls : Int} {K : Meta.M6} {dv : Value} {fx : Int} (h : rdAt w rb x y bv cls K dv fx) (b : w'.heap[rb]? = w.heap[rb]?) : rdAt w' rb x y bv cls K dv fx := b.trans h
section
variable {m : Nat} [M : Pl.Mid m]
/-- what opening stands on. -/
structure PBase (m t sc : Nat) [M : Pl.Mid m] (w : World) (cb s db : Nat) (ym yz yr : Addr) : Prop where
  pg : pgAt w cb sc s db
  base : Base m t (sc + 32) w db s ym yz
  rcd : ErrAt w 1 yr
  tab : Tab w
  sc1 : 1 ≤ sc
  sc2 : sc ≤ 1024
theorem PBase.below {t sc : Nat} {w w' : World} {cb s db : Nat} {ym yz yr : Addr} (h : PBase m t sc w cb s db ym yz yr) (b : Below w.heap.size w w') : PBase m t sc w' cb s db ym yz yr :=
  ⟨h.pg.below b, h.base.below b, h.rcd.below b, h.tab.below b h.tab.lt, h.sc1, h.sc2⟩
set_option maxRecDepth 100000 in
set_option maxHeartbeats 1000000 in
theorem erased_any {t sc : Nat} {w : World} {cb s db rb : Nat} {ym yz yr : Addr} (B : PBase m t sc w cb s db ym yz yr) {x y : Int} {a : Option Addr} {N c : Nat} {l : List (BitVec 8)} (hl : Pol w a N c l) (hN : N ≤ 100000) (R : rdAt w rb x y (.slice a N c) 0 Meta.zeroM (.slice none 0 0) 0) :
    Calls Tryz.prog 54 #[.pointer (some ⟨cb, 0, none⟩), .pointer (some ⟨rb, 0, none⟩)] w fun e w' =>
      (t < Meta.zL l N ∧ e = .returned (.bool false) ∧ Drawn w w') ∨ (Meta.zL l N ≤ t ∧ e = .returned (.bool true) ∧ rdAt w' rb x y (.slice a N c) 2 Meta.zeroM (.slice none 0 0) 0 ∧ Tn [rb] w w' [rb]) := by
  obtain ⟨k0, k1, k2⟩ := B.pg.cells
  obtain ⟨r0, r1, r2, _⟩ := R.cells
  have HZ : Hid (∀ nn, Calls Tryz.prog 28 #[.slice a N c] (w.drewN nn) fun e w' => e = .returned (.int .i64 (Meta.zL l N : Int)) ∧ Drawn (w.drewN nn) w') := fun nn => (zeros_any l a N c _ (hl.below ((Drawn.mk w nn).below _)) hN).mono fun e w' h => ⟨h.1, h.2 ▸ Drawn.refl _⟩
  have HT : Hid (∀ nn, Calls Tryz.prog 81 #[.pointer (some ⟨s, 0, none⟩)] (w.drewN nn) fun e w' => e = .returned (.int .i64 (t : Int)) ∧ Drawn (w.drewN nn) w') := fun nn => (t_code (w.drewN nn) s (B.base.code.below ((Drawn.mk w nn).below _))).mono fun e w' h => ⟨h.1, h.2 ▸ Drawn.refl _⟩
  obtain ⟨z, hz⟩ : ∃ z, z = Meta.zL l N := ⟨_, rfl⟩
  rw [← hz] at HZ ⊢
  have HR := Lib.hid R
  clear B R hl hz
  go_enter Tryz.func54, Tryz.ntmps54
  go_wp2_with fail
  by_cases hle : z ≤ t
  · have t1 : ¬ (t : Int) < (z : Int) := by omega
    have t2 : decide ((t : Int) < (z : Int)) = false := decide_eq_false t1
    have t3 : decide (t < z) = false := decide_eq_false (by omega)
    have HLE := Lib.hid hle
    clear hle
    go_quiet (first
      | (go_at_call 28; exact quiet_drawn (HZ.out _))
      | (go_at_call 81; exact quiet_drawn (HT.out _)))
    have hd := Drawn.mk w nq
    have R1 : rdAt (w.drewN nq) rb x y (.slice a N c) 0 Meta.zeroM (.slice none 0 0) 0 := HR.out
    have hT : Tn [rb] w ((w.drewN nq).setCell ⟨rb, 3, none⟩ (.int .i64 2)) [rb] := (Tn.below (hd.below w.heap.size)).trans (Tn.setCell _ _ _ (by simp))
    have R2 : rdAt ((w.drewN nq).setCell ⟨rb, 3, none⟩ (.int .i64 2)) rb x y (.slice a N c) 2 Meta.zeroM (.slice none 0 0) 0 := heap_setCell_same _ _ 3 _ _ _ R1
    obtain ⟨_, _, _, s3, _, _, _, _, _, _, _, _, sf⟩ := R1.cells
    have sf3 := sf 3
    have HE := Lib.hid (And.intro R2 hT)
    clear hd R1 hT R2 sf HZ HT
    generalize hww : w.drewN nq = w5 at s3 sf3 HE ⊢
    clear hww
    go_wp2_with fail
    go_ret
    exact .inr ⟨HLE.out, rfl, HE.out⟩
  · have t1 : (t : Int) < (z : Int) := by omega
    have t2 : decide ((t : Int) < (z : Int)) = true := decide_eq_true t1
    have t3 : decide (t < z) = true := decide_eq_true (by omega)
    have HLE : Hid (t < z) := by show t < z; omega
    clear hle
    go_quiet (first
      | (go_at_call 28; exact quiet_drawn (HZ.out _))
      | (go_at_call 81; exact quiet_drawn (HT.out _)))
    have HDr := Lib.hid (Drawn.mk w nq)
    generalize w.drewN nq = w5 at HDr ⊢
    go_wp2_with fail
    go_ret
    exact .inl ⟨HLE.out, rfl, HDr.out⟩
end
end Go.Proofs.YtdhcigiaidlmbaaGreatDoor.Pg
/- Opening a page on which nothing is. By the verifier of shale. -/
namespace Go.Proofs.YtdhcigiaidlmbaaGreatDoor.Pg
open Go Go.RowKit Bin Pl Cos Enc Syn Loc Sea Dec Crc
set_option linter.unusedVariables false
/-- what was read, in a block of its own. -/
def rsO (cls : Int) (K : Meta.M6) (dv : Value) (fx : Int) : Obj := .cells #[.int .i64 cls, .int .i64 (Meta.fld K 0), .int .i64 (Meta.fld K 1), .int .i64 (Meta.fld K 2), .int .i64 (Meta.fld K 3), .int .i64 (Meta.fld K 4), .int .i64 (Meta.fld K 5), dv, .int .i64 fx] 55 (0, 0)
theorem rs_cells {w : World} {b : Nat} {cls : Int} {K : Meta.M6} {dv : Value} {fx : Int} (h : w.heap[b]? = some (rsO cls K dv fx)) : w.cell? ⟨b, 0, none⟩ = some (.int .i64 cls) ∧ w.cell? ⟨b, 1, none⟩ = some (.int .i64 (Meta.fld K 0)) ∧ w.cell? ⟨b, 2, none⟩ = some (.int .i64 (Meta.fld K 1)) ∧ w.cell? ⟨b, 3, none⟩ = some (.int .i64 (Meta.fld K 2)) ∧ w.cell? ⟨b, 4, none⟩ = some (.int .i64 (Meta.fld K 3)) ∧ w.cell? ⟨b, 5, none⟩ = some (.int .i64 (Meta.fld K 4)) ∧ w.cell? ⟨b, 6, none⟩ = some (.int .i64 (Meta.fld K 5)) ∧ w.cell? ⟨b, 7, none⟩ = some dv ∧ w.cell? ⟨b, 8, none⟩ = some (.int .i64 fx) ∧ ∀ i, w.frozen? ⟨b, i, none⟩ = false := by
  refine ⟨?_, ?_, ?_, ?_, ?_, ?_, ?_, ?_, ?_, fun i => ?_⟩
  · unfold World.cell?; simp only; rw [h]; rfl
  · unfold World.cell?; simp only; rw [h]; rfl
  · unfold World.cell?; simp only; rw [h]; rfl
  · unfold World.cell?; simp only; rw [h]; rfl
  · unfold World.cell?; simp only; rw [h]; rfl
  · unfold World.cell?; simp only; rw [h]; rfl
  · unfold World.cell?; simp only; rw [h]; rfl
  · unfold World.cell?; simp only; rw [h]; rfl
  · unfold World.cell?; simp only; rw [h]; rfl
  · unfold World.frozen?; simp only; rw [h]; rfl
/-- what was read, as a value. -/
abbrev rsV (cls : Int) (K : Meta.M6) (dv : Value) (fx : Int) : Value := .agg #[.int .i64 cls, .int .i64 (Meta.fld K 0), .int .i64 (Meta.fld K 1), .int .i64 (Meta.fld K 2), .int .i64 (Meta.fld K 3), .int .i64 (Meta.fld K 4), .int .i64 (Meta.fld K 5), dv, .int .i64 fx]
theorem newRs (w W : World) (h : w.alloc (.cells #[.int .i64 0, .int .i64 0, .int .i64 0, .int .i64 0, .int .i64 0, .int .i64 0, .int .i64 0, .slice none 0 0, .int .i64 0] 55 (0, 0)) = W) : W.heap[w.heap.size]? = some (rsO 0 Meta.zeroM (.slice none 0 0) 0) ∧ Below w.heap.size w W := by
  subst h
  exact ⟨heap_alloc_new w _, (Below.refl _ _).alloc (Nat.le_refl _) _⟩
/-- the list of the steps, in block b. -/
def pgSteps (w : World) (b cb : Nat) : Prop := w.heap[b]? = some (.cells #[.func (.func 54) #[.pointer (some ⟨cb, 0, none⟩)] #[], .func (.func 55) #[.pointer (some ⟨cb, 0, none⟩)] #[], .func (.func 56) #[.pointer (some ⟨cb, 0, none⟩)] #[]] 97 (0, 0))
theorem pgSteps.cells {w : World} {b cb : Nat} (h : pgSteps w b cb) : w.cell? ⟨b, 0, none⟩ = some (.func (.func 54) #[.pointer (some ⟨cb, 0, none⟩)] #[]) ∧ w.cell? ⟨b, 1, none⟩ = some (.func (.func 55) #[.pointer (some ⟨cb, 0, none⟩)] #[]) ∧ w.cell? ⟨b, 2, none⟩ = some (.func (.func 56) #[.pointer (some ⟨cb, 0, none⟩)] #[]) := by
  have e : w.heap[b]? = _ := h
  refine ⟨?_, ?_, ?_⟩ <;> (unfold World.cell?; simp only; rw [e]; rfl)
section
variable {m : Nat} [M : Pl.Mid m]
set_option maxRecDepth 100000 in
set_option maxHeartbeats 1000000 in
theorem size_any {t sc : Nat} {w : World} {cb s db : Nat} {ym yz yr : Addr} (B : PBase m t sc w cb s db ym yz yr) :
    Calls Tryz.prog 17 #[.pointer (some ⟨cb, 0, none⟩)] w fun e w' => e = .returned (.int .i64 ((sc + 32 + pb (deg m t) : Nat) : Int)) ∧ Drawn w w' := by
  obtain ⟨k0, k1, k2⟩ := B.pg.cells
  have ht40 := B.base.t40
  have hs2 := B.sc2
  have hD5 := deg_560 (m := m) ht40
  have HD : Hid (∀ nn, Calls Tryz.prog 40 #[.pointer (some ⟨s, 0, none⟩)] (w.drewN nn) fun e w' => e = .returned (.int .i64 ((sc + 32 : Nat) : Int)) ∧ Drawn (w.drewN nn) w') := fun nn => (data_code (w.drewN nn) s (B.base.code.below ((Drawn.mk w nn).below _))).mono fun e w' h => ⟨h.1, h.2 ▸ Drawn.refl _⟩
  have HP : Hid (∀ nn, Calls Tryz.prog 41 #[.pointer (some ⟨s, 0, none⟩)] (w.drewN nn) fun e w' => e = .returned (.int .i64 (pb (deg m t) : Int)) ∧ Drawn (w.drewN nn) w') := fun nn => (parityB_any (w.drewN nn) s (B.base.code.below ((Drawn.mk w nn).below _)) ht40).mono fun e w' h => ⟨h.1, h.2 ▸ Drawn.refl _⟩
  have hP2 : pb (deg m t) ≤ 100 := by unfold pb; omega
  generalize pb (deg m t) = P at HP hP2 ⊢
  obtain ⟨n, hn⟩ : ∃ n, n = sc + 32 := ⟨_, rfl⟩
  rw [← hn] at HD ⊢
  have hn2 : n ≤ 1100 := by omega
  have e1 : IntKind.i64.wrap ((n : Int) + (P : Int)) = ((n + P : Nat) : Int) := by rw [IntWalk.i64_in _ (by omega)]; omega
  clear B hn
  go_enter Tryz.func17, Tryz.ntmps17
  go_wp2_with fail
  go_quiet (first
    | (go_at_call 40; exact quiet_drawn (HD.out _))
    | (go_at_call 41; exact quiet_drawn (HP.out _)))
  have HDr := Lib.hid (Drawn.mk w nq)
  generalize w.drewN nq = w5 at HDr ⊢
  go_wp2_with fail
  go_ret
  exact ⟨rfl, HDr.out⟩
set_option maxRecDepth 100000 in
set_option maxHeartbeats 1500000 in
theorem openE_any {t sc : Nat} {w : World} {cb s db : Nat} {ym yz yr : Addr} (B : PBase m t sc w cb s db ym yz yr) (x y : Int) {a : Option Addr} {N c : Nat} {l : List (BitVec 8)} (hl : Pol w a N c l) (hN : N = sc + 32 + pb (deg m t)) (hz : Meta.zL l N ≤ t) :
    Calls Tryz.prog 24 #[.pointer (some ⟨cb, 0, none⟩), .agg #[.int .i64 x, .int .i64 y], .slice a N c] w fun e w' => e = .returned (.tuple #[rsV 2 Meta.zeroM (.slice none 0 0) 0, .nilIface]) ∧ Below w.heap.size w w' := by
  have hs2 := B.sc2
  have hD5 := deg_560 (m := m) B.base.t40
  have hP2 : pb (deg m t) ≤ 100 := by unfold pb; omega
  have hN4 : N ≤ 1200 := by omega
  have HB := Lib.hid B
  have HL := Lib.hid hl
  have HZ := Lib.hid hz
  have HN := Lib.hid hN
  clear B hl hz hP2 hD5 hN
  go_enter Tryz.func24, Tryz.ntmps24
  go_upto_region 1 with (fail)
  generalize hw : w.alloc (.cells #[.int .i64 x, .int .i64 y] 43 (0, 0)) = w1
  obtain ⟨Q, b, hsz⟩ := newPl w w1 x y hw
  clear hw
  obtain ⟨bp, hbp⟩ : ∃ bp, bp = w.heap.size := ⟨_, rfl⟩
  have HBp := Lib.hid hbp
  rw [← hbp] at Q hsz ⊢
  generalize hw : w1.alloc (.cells #[.int .i64 0, .int .i64 0, .int .i64 0, .int .i64 0, .int .i64 0, .int .i64 0, .int .i64 0, .slice none 0 0, .int .i64 0] 55 (0, 0)) = w2
  obtain ⟨R, b2⟩ := newRs w1 w2 hw
  clear hw hbp
  obtain ⟨rs, hrs⟩ : ∃ rs, rs = bp + 1 := ⟨_, rfl⟩
  rw [hsz, ← hrs] at R
  rw [← hrs]
  replace Q := (b2.block bp (lt_of_block Q)).trans Q
  have B2 := b.trans (b2.mono b.size)
  have hrsl : rs < w2.heap.size := lt_of_block R
  have hrsw : w.heap.size ≤ rs := by have := HBp.out; omega
  have HRW := Lib.hid hrsw
  clear b b2 hsz hrs hrsw
  have HSz := Lib.hid (size_any (HB.out.below B2))
  rw [← HN.out] at HSz
  go_wp2_with fail
  refine HSz.out.mono ?_
  rintro e w3 ⟨rfl, d⟩
  have b := d.below w2.heap.size
  replace Q := (b.block bp (lt_of_block Q)).trans Q
  replace R := (b.block rs hrsl).trans R
  have hrsl3 : rs < w3.heap.size := lt_of_block R
  have B3 := B2.trans (b.mono B2.size)
  obtain ⟨p0, p1⟩ := pl_cells Q
  clear b d B2 hrsl HSz Q
  go_wp2_with fail
  obtain ⟨w4, hw4⟩ : ∃ w4, w4 = ((w3.alloc (.cells #[.int .i64 x, .int .i64 y, .slice a N c, .int .i64 0, .int .i64 0, .int .i64 0, .int .i64 0, .int .i64 0, .int .i64 0, .int .i64 0, .slice none 0 0, .int .i64 0] 96 (0, 0))).alloc (.cells #[.func (.func 54) #[.pointer (some ⟨cb, 0, none⟩)] #[], .func (.func 55) #[.pointer (some ⟨cb, 0, none⟩)] #[], .func (.func 56) #[.pointer (some ⟨cb, 0, none⟩)] #[]] 97 (0, 0))) := ⟨_, rfl⟩
  obtain ⟨rb, hrbE⟩ : ∃ rb, rb = w3.heap.size := ⟨_, rfl⟩
  have b4 : Below w3.heap.size w3 w4 := by rw [hw4]; exact ((Below.refl _ _).alloc (Nat.le_refl _) _).alloc (by simp) _
  have hRd : rdAt w4 rb x y (.slice a N c) 0 Meta.zeroM (.slice none 0 0) 0 := by
    rw [hw4, hrbE]; exact (Below.heap_alloc _ _ _ (by simp)).trans (heap_alloc_new w3 _)
  have hSt : pgSteps w4 (rb + 1) cb := by
    rw [hw4, hrbE]
    have h := heap_alloc_new (w3.alloc (.cells #[.int .i64 x, .int .i64 y, .slice a N c, .int .i64 0, .int .i64 0, .int .i64 0, .int .i64 0, .int .i64 0, .int .i64 0, .int .i64 0, .slice none 0 0, .int .i64 0] 96 (0, 0))) (.cells #[.func (.func 54) #[.pointer (some ⟨cb, 0, none⟩)] #[], .func (.func 55) #[.pointer (some ⟨cb, 0, none⟩)] #[], .func (.func 56) #[.pointer (some ⟨cb, 0, none⟩)] #[]] 97 (0, 0))
    rw [World.size_alloc] at h
    exact h
  rw [← hw4, ← hrbE]
  have B4 := B3.trans (b4.mono B3.size)
  replace R := (b4.block rs hrsl3).trans R
  have hrbw : w.heap.size ≤ rb := by rw [hrbE]; exact B3.size
  have hne : rs ≠ rb := by omega
  have HEr := Lib.hid (erased_any (HB.out.below B4) (HL.out.below B4) (by omega) hRd)
  have HW4 := Lib.hid (And.intro R (And.intro B4 (And.intro hrbw hne)))
  obtain ⟨s0, s1, s2⟩ := hSt.cells
  clear hw4 hrbE b4 hRd hSt R B4 hrbw hne B3 p0 p1 hrsl3
  refine wp_loop_rounds 4 ?_
  rw [rounds_succ]
  go_wp2_with fail
  refine HEr.out.mono ?_
  rintro e w5 h
  rcases h with ⟨h1, _, _⟩ | ⟨_, rfl, hR5, hT5⟩
  · exact absurd HZ.out (by omega)
  · obtain ⟨R4, B4, hrbw, hne⟩ := HW4.out
    have R5 : w5.heap[rs]? = some (rsO 0 Meta.zeroM (.slice none 0 0) 0) := (hT5.same rs (lt_of_block R4) (by simpa using hne)).trans R4
    have B5 : Below w.heap.size w w5 := B4.trans { os := hT5.os, tape := hT5.tape, output := hT5.output, size := hT5.size, block := fun k hk => hT5.same k (by have := B4.size; omega) (by simp; omega) }
    obtain ⟨_, _, _, r3, r4, r5, r6, r7, r8, r9, r10, r11, _⟩ := hR5.cells
    obtain ⟨q0, q1, q2, q3, q4, q5, q6, q7, q8, qf⟩ := rs_cells R5
    have f0 := qf 0
    have f1 := qf 1
    have f2 := qf 2
    have f3 := qf 3
    have f4 := qf 4
    have f5 := qf 5
    have f6 := qf 6
    have f7 := qf 7
    have f8 := qf 8
    have hF : ((((((((((w5.setCell ⟨rs, 0, none⟩ (.int .i64 2)).setCell ⟨rs, 1, none⟩ (.int .i64 (Meta.fld Meta.zeroM 0))).setCell ⟨rs, 2, none⟩ (.int .i64 (Meta.fld Meta.zeroM 1))).setCell ⟨rs, 3, none⟩ (.int .i64 (Meta.fld Meta.zeroM 2))).setCell ⟨rs, 4, none⟩ (.int .i64 (Meta.fld Meta.zeroM 3))).setCell ⟨rs, 5, none⟩ (.int .i64 (Meta.fld Meta.zeroM 4))).setCell ⟨rs, 6, none⟩ (.int .i64 (Meta.fld Meta.zeroM 5))).setCell ⟨rs, 7, none⟩ (.slice none 0 0)).setCell ⟨rs, 8, none⟩ (.int .i64 0))).heap[rs]? = some (rsO 2 Meta.zeroM (.slice none 0 0) 0) := heap_setCell_same _ _ 8 _ _ _ (heap_setCell_same _ _ 7 _ _ _ (heap_setCell_same _ _ 6 _ _ _ (heap_setCell_same _ _ 5 _ _ _ (heap_setCell_same _ _ 4 _ _ _ (heap_setCell_same _ _ 3 _ _ _ (heap_setCell_same _ _ 2 _ _ _ (heap_setCell_same _ _ 1 _ _ _ (heap_setCell_same _ _ 0 _ _ _ R5))))))))
    have hB : Below w.heap.size w (((((((((w5.setCell ⟨rs, 0, none⟩ (.int .i64 2)).setCell ⟨rs, 1, none⟩ (.int .i64 (Meta.fld Meta.zeroM 0))).setCell ⟨rs, 2, none⟩ (.int .i64 (Meta.fld Meta.zeroM 1))).setCell ⟨rs, 3, none⟩ (.int .i64 (Meta.fld Meta.zeroM 2))).setCell ⟨rs, 4, none⟩ (.int .i64 (Meta.fld Meta.zeroM 3))).setCell ⟨rs, 5, none⟩ (.int .i64 (Meta.fld Meta.zeroM 4))).setCell ⟨rs, 6, none⟩ (.int .i64 (Meta.fld Meta.zeroM 5))).setCell ⟨rs, 7, none⟩ (.slice none 0 0)).setCell ⟨rs, 8, none⟩ (.int .i64 0)) := ((((((((B5.setCell HRW.out _).setCell HRW.out _).setCell HRW.out _).setCell HRW.out _).setCell HRW.out _).setCell HRW.out _).setCell HRW.out _).setCell HRW.out _).setCell HRW.out _
    have HF := Lib.hid (And.intro hF hB)
    clear hR5 hT5 R4 B4 hrbw hne R5 B5 qf hF hB s0 s1 s2 HEr HW4
    go_wp2_with fail
    obtain ⟨hF, hB⟩ := HF.out
    generalize (((((((((w5.setCell ⟨rs, 0, none⟩ (.int .i64 2)).setCell ⟨rs, 1, none⟩ (.int .i64 (Meta.fld Meta.zeroM 0))).setCell ⟨rs, 2, none⟩ (.int .i64 (Meta.fld Meta.zeroM 1))).setCell ⟨rs, 3, none⟩ (.int .i64 (Meta.fld Meta.zeroM 2))).setCell ⟨rs, 4, none⟩ (.int .i64 (Meta.fld Meta.zeroM 3))).setCell ⟨rs, 5, none⟩ (.int .i64 (Meta.fld Meta.zeroM 4))).setCell ⟨rs, 6, none⟩ (.int .i64 (Meta.fld Meta.zeroM 5))).setCell ⟨rs, 7, none⟩ (.slice none 0 0)).setCell ⟨rs, 8, none⟩ (.int .i64 0)) = w9 at hF hB ⊢
    obtain ⟨z0, z1, z2, z3, z4, z5, z6, z7, z8, _⟩ := rs_cells hF
    exact bodyPost_ret (v := .tuple #[rsV 2 Meta.zeroM (.slice none 0 0) 0, .nilIface]) (by simp [results, Tryz.results24, go_sem, z0, z1, z2, z3, z4, z5, z6, z7, z8]) rfl ⟨rfl, hB⟩
end
end Go.Proofs.YtdhcigiaidlmbaaGreatDoor.Pg
/- first: the examples of chapter 13. By the verifier of shale. -/
namespace Go.Proofs.YtdhcigiaidlmbaaGreatDoor.Pg
open Go Go.RowKit Bin Pl Cos Enc Syn Loc Sea Dec Crc
set_option linter.unusedVariables false
theorem secsF : secs 8 16 16 10 2 1 0 2 1 = 5 := by decide
theorem may2 : Enc.May 10 2 (16 + 32) := ⟨by decide, by decide, by decide, by decide, by decide +kernel, by decide +kernel⟩
theorem degF : deg 10 2 = 20 := by decide +kernel
/-- a whole of ones. -/
def onesL (n : Nat) : List (BitVec 8) := List.replicate n 255#8
theorem zN_full : Meta.zN 255#8 8 = 0 := by decide
theorem zL_ones (n : Nat) : ∀ k, k ≤ n → Meta.zL (onesL n) k = 0
  | 0, _ => rfl
  | k + 1, h => by
    have e : nth8 (onesL n) k = 255#8 := by
      unfold nth8 onesL
      rw [List.getD_eq_getElem?_getD, List.getElem?_replicate, if_pos (by omega)]
      rfl
    show Meta.zL (onesL n) k + Meta.zN (nth8 (onesL n) k) 8 = 0
    rw [zL_ones n k (by omega), e, zN_full]
/-- i ones, then zeros. -/
def fillB (n i : Nat) : List (BitVec 8) := List.replicate i 255#8 ++ List.replicate (n - i) 0#8
theorem fillB_length {n i : Nat} (h : i ≤ n) : (fillB n i).length = n := by unfold fillB; simp; omega
theorem fillB_0 (n : Nat) : fillB n 0 = List.replicate n 0#8 := by unfold fillB; simp
theorem fillB_n (n : Nat) : fillB n n = onesL n := by unfold fillB onesL; simp
theorem fillB_set {n i : Nat} (h : i < n) : (fillB n i).set i 255#8 = fillB n (i + 1) := by
  unfold fillB
  have e : n - i = (n - (i + 1)) + 1 := by omega
  rw [e, List.replicate_succ, List.set_append_right _ _ (by simp), List.length_replicate, Nat.sub_self, List.set_cons_zero, List.replicate_succ', List.append_assoc]
  rfl
theorem blk_buf {w : World} {g : Nat} {l : List (BitVec 8)} (h : Blk8 w g l) : Buf8 w g l := by
  refine ⟨_, _, h, fun i hi => ?_⟩
  simp [nth8, hi]
theorem buf_polF {w : World} {g : Nat} {l : List (BitVec 8)} (h : Buf8 w g l) (h0 : 0 < l.length) (hm : l.length ≤ maxLen) : Pol w (some ⟨g, 0, none⟩) l.length l.length l :=
  ⟨rfl, Nat.le_refl _, hm, fun h => by first | cases h | omega, Or.inr ⟨g, 0, rfl, h.row, h.lt⟩⟩
set_option maxRecDepth 100000 in
set_option maxHeartbeats 4000000 in
theorem first13_any (w : World) {y ym yz yr : Addr} (E : ErrAt w 4 y) (EM : ErrAt w 6 ym) (EZ : ErrAt w 9 yz) (ER : ErrAt w 1 yr) (T : Tab w) :
    Calls Tryz.prog 10 #[] w fun e w' => e = .returned (.bool true) ∧ Below w.heap.size w w' := by
  have HN : Hid (∀ W, Below w.heap.size w W → Calls Tryz.prog 12 #[.agg #[.int .i64 8, .int .i64 16, .int .i64 16, .int .i64 10, .int .i64 2, .int .i64 1, .int .i64 0, .int .i64 2, .int .i64 1]] W (PgMadeAt 10 2 16 W)) := (fun W b => pnew_yes (m := 10) (t := 2) (sc := 16) 8 16 1 0 2 1 (by decide) (by decide) (by omega) may2 (by rw [show ((10 : Nat) : Int) = 10 from rfl, show ((2 : Nat) : Int) = 2 from rfl, show ((16 : Nat) : Int) = 16 from rfl, secsF]; decide) W y (E.below b))
  have HS : Hid (∀ W, Calls Tryz.prog 15 #[.agg #[.int .i64 8, .int .i64 16, .int .i64 16, .int .i64 10, .int .i64 2, .int .i64 1, .int .i64 0, .int .i64 2, .int .i64 1]] W fun e w' => e = .returned (.int .i64 5) ∧ Below W.heap.size W w') := fun W => (secs_any 8 16 16 10 2 1 0 2 1 W (by decide) (by decide)).mono fun e w' h => ⟨by rw [h.1, secsF], h.2⟩
  have HP : Hid (∀ W, Below w.heap.size w W → ErrAt W 6 ym ∧ ErrAt W 9 yz ∧ ErrAt W 1 yr ∧ Tab W) := fun W b => ⟨EM.below b, EZ.below b, ER.below b, T.below b T.lt⟩
  clear E EM EZ ER T
  go_enter Tryz.func10, Tryz.ntmps10
  go_wp2_with fail
  generalize hw : w.alloc (.cells #[.int .i64 8, .int .i64 16, .int .i64 16, .int .i64 10, .int .i64 2, .int .i64 1, .int .i64 0, .int .i64 2, .int .i64 1] 23 (0, 0)) = w1
  obtain ⟨K, b⟩ := newG w w1 _ _ _ _ _ _ _ _ _ hw
  clear hw
  obtain ⟨bg, hbg⟩ : ∃ bg, bg = w.heap.size := ⟨_, rfl⟩
  rw [← hbg] at K ⊢
  clear hbg
  refine (HN.out w1 b).mono ?_
  rintro e w2 ⟨cb, s, db, rfl, P, C, D, b2, _⟩
  replace K := keepG K b2
  have B := b.trans (b2.mono b.size)
  obtain ⟨EM, EZ, ER, T⟩ := HP.out w2 B
  have PB : PBase 10 2 16 w2 cb s db ym yz yr := ⟨P, ⟨D, C, EM, EZ, by decide, by decide, by decide, by decide, by rw [degF]; decide⟩, ER, T, by decide, by decide⟩
  have hbl := lt_of_block K
  have HK : Hid (∀ W', Below w2.heap.size w2 W' → (W'.cell? ⟨bg, 0, none⟩ = some (.int .i64 8) ∧ W'.cell? ⟨bg, 1, none⟩ = some (.int .i64 16) ∧ W'.cell? ⟨bg, 2, none⟩ = some (.int .i64 16) ∧ W'.cell? ⟨bg, 3, none⟩ = some (.int .i64 10) ∧ W'.cell? ⟨bg, 4, none⟩ = some (.int .i64 2) ∧ W'.cell? ⟨bg, 5, none⟩ = some (.int .i64 1) ∧ W'.cell? ⟨bg, 6, none⟩ = some (.int .i64 0) ∧ W'.cell? ⟨bg, 7, none⟩ = some (.int .i64 2) ∧ W'.cell? ⟨bg, 8, none⟩ = some (.int .i64 1) ∧ Below w2.heap.size w2 W')) := fun W' b => by
    obtain ⟨e0, e1, e2, e3, e4, e5, e6, e7, e8⟩ := g_cells (keepG K b)
    exact ⟨e0, e1, e2, e3, e4, e5, e6, e7, e8, b⟩
  have HZ : Hid (∀ W' (_ : W'.cell? ⟨bg, 0, none⟩ = some (.int .i64 8) ∧ W'.cell? ⟨bg, 1, none⟩ = some (.int .i64 16) ∧ W'.cell? ⟨bg, 2, none⟩ = some (.int .i64 16) ∧ W'.cell? ⟨bg, 3, none⟩ = some (.int .i64 10) ∧ W'.cell? ⟨bg, 4, none⟩ = some (.int .i64 2) ∧ W'.cell? ⟨bg, 5, none⟩ = some (.int .i64 1) ∧ W'.cell? ⟨bg, 6, none⟩ = some (.int .i64 0) ∧ W'.cell? ⟨bg, 7, none⟩ = some (.int .i64 2) ∧ W'.cell? ⟨bg, 8, none⟩ = some (.int .i64 1) ∧ Below w2.heap.size w2 W'), Calls Tryz.prog 17 #[.pointer (some ⟨cb, 0, none⟩)] W' fun e W'' => e = .returned (.int .i64 51) ∧ (W''.cell? ⟨bg, 0, none⟩ = some (.int .i64 8) ∧ W''.cell? ⟨bg, 1, none⟩ = some (.int .i64 16) ∧ W''.cell? ⟨bg, 2, none⟩ = some (.int .i64 16) ∧ W''.cell? ⟨bg, 3, none⟩ = some (.int .i64 10) ∧ W''.cell? ⟨bg, 4, none⟩ = some (.int .i64 2) ∧ W''.cell? ⟨bg, 5, none⟩ = some (.int .i64 1) ∧ W''.cell? ⟨bg, 6, none⟩ = some (.int .i64 0) ∧ W''.cell? ⟨bg, 7, none⟩ = some (.int .i64 2) ∧ W''.cell? ⟨bg, 8, none⟩ = some (.int .i64 1) ∧ Below w2.heap.size w2 W'')) := fun W' h => (size_any (PB.below h.2.2.2.2.2.2.2.2.2)).mono fun e W'' h2 => ⟨by rw [h2.1, degF]; rfl, HK.out _ (h.2.2.2.2.2.2.2.2.2.trans ((h2.2.below _).mono h.2.2.2.2.2.2.2.2.2.size))⟩
  have HS2 : Hid (∀ W' (_ : W'.cell? ⟨bg, 0, none⟩ = some (.int .i64 8) ∧ W'.cell? ⟨bg, 1, none⟩ = some (.int .i64 16) ∧ W'.cell? ⟨bg, 2, none⟩ = some (.int .i64 16) ∧ W'.cell? ⟨bg, 3, none⟩ = some (.int .i64 10) ∧ W'.cell? ⟨bg, 4, none⟩ = some (.int .i64 2) ∧ W'.cell? ⟨bg, 5, none⟩ = some (.int .i64 1) ∧ W'.cell? ⟨bg, 6, none⟩ = some (.int .i64 0) ∧ W'.cell? ⟨bg, 7, none⟩ = some (.int .i64 2) ∧ W'.cell? ⟨bg, 8, none⟩ = some (.int .i64 1) ∧ Below w2.heap.size w2 W'), Calls Tryz.prog 15 #[.agg #[.int .i64 8, .int .i64 16, .int .i64 16, .int .i64 10, .int .i64 2, .int .i64 1, .int .i64 0, .int .i64 2, .int .i64 1]] W' fun e W'' => e = .returned (.int .i64 5) ∧ (W''.cell? ⟨bg, 0, none⟩ = some (.int .i64 8) ∧ W''.cell? ⟨bg, 1, none⟩ = some (.int .i64 16) ∧ W''.cell? ⟨bg, 2, none⟩ = some (.int .i64 16) ∧ W''.cell? ⟨bg, 3, none⟩ = some (.int .i64 10) ∧ W''.cell? ⟨bg, 4, none⟩ = some (.int .i64 2) ∧ W''.cell? ⟨bg, 5, none⟩ = some (.int .i64 1) ∧ W''.cell? ⟨bg, 6, none⟩ = some (.int .i64 0) ∧ W''.cell? ⟨bg, 7, none⟩ = some (.int .i64 2) ∧ W''.cell? ⟨bg, 8, none⟩ = some (.int .i64 1) ∧ Below w2.heap.size w2 W'')) := fun W' h => (HS.out W').mono fun e W'' h2 => ⟨h2.1, HK.out _ (h.2.2.2.2.2.2.2.2.2.trans (h2.2.mono h.2.2.2.2.2.2.2.2.2.size))⟩
  have hS1 := HK.out w2 (Below.refl _ _)
  have HB := Lib.hid (And.intro PB B)
  clear K b b2 P C D EM EZ ER T PB B hbl HS HN
  go_wp2_with fail
  refine Calls.mono (HZ.out w2 (HK.out w2 (Below.refl _ _))) ?_
  rintro e w3 ⟨rfl, z1⟩
  clear hS1
  have hZ1 := Lib.hid z1
  obtain ⟨e0, e1, e2, e3, e4, e5, e6, e7, e8, _⟩ := z1
  go_wp2_with fail
  clear e0 e1 e2 e3 e4 e5 e6 e7 e8
  refine Calls.mono (HS2.out w3 hZ1.out) ?_
  rintro e w4 ⟨rfl, _, _, _, _, _, _, _, _, _, z1⟩
  clear hZ1 HZ HS2 HK
  obtain ⟨PB, B⟩ := HB.out
  clear HB
  replace PB := PB.below z1
  replace B := B.trans (z1.mono B.size)
  have HB := Lib.hid (And.intro PB B)
  clear z1 PB B
  obtain ⟨O0, hO0⟩ : ∃ O, O = obj8 (List.replicate 51 0) := ⟨_, rfl⟩
  have hmk : (Instr.makeSlice 25 (.int .i64 51) (.int .i64 51)).run Tryz.prog w4 = .ok (.slice (some ⟨w4.heap.size, 0, none⟩) 51 51) (w4.alloc O0) := by rw [hO0]; exact made8 w4 51 (by decide)
  have HN0 : Hid (Buf8 (w4.alloc O0) w4.heap.size (fillB 51 0) ∧ Below w4.heap.size w4 (w4.alloc O0)) := ⟨by rw [hO0, fillB_0]; exact blk_buf (heap_alloc_new w4 _), (Below.refl _ _).alloc (Nat.le_refl _) _⟩
  clear hO0
  obtain ⟨g, hg⟩ : ∃ g, g = w4.heap.size := ⟨_, rfl⟩
  have HG := Lib.hid hg
  rw [← hg] at HN0 hmk
  clear hg
  go_wp2_with fail
  clear hmk
  generalize w4.alloc O0 = w5 at HN0 ⊢
  go_loopg [5] 51 (fun gh s5 wx => ∃ i : Nat, gh = 51 - i ∧ i ≤ 51 ∧ s5 = .int .i64 (i : Int) ∧ Hid (Buf8 wx g (fillB 51 i) ∧ Below g w4 wx))
  case atStart => exact ⟨0, rfl, Nat.zero_le _, rfl, HN0⟩
  case round =>
    clear HN0
    obtain ⟨i, hg, hin, rfl, HX⟩ := hrel
    have HI := Lib.hid hg
    clear hg
    by_cases hlt : i < 51
    · have x1 : (i : Int) < 51 := by omega
      have x0 : (0 : Int) ≤ (i : Int) := by omega
      have hBuf := HX.out.1
      have cv := hBuf.cell i (by rw [fillB_length hin]; exact hlt)
      have fr := hBuf.free i
      generalize Bits32.b (nth8 (fillB 51 i) i) = z0 at cv
      have HN : Hid (Buf8 (wr.setCell ⟨g, i, none⟩ (.int .u8 255)) g (fillB 51 (i + 1)) ∧ Below g w4 (wr.setCell ⟨g, i, none⟩ (.int .u8 255))) := by
        have h := hBuf.set i (by rw [fillB_length hin]; exact hlt) 255#8
        rw [fillB_set hlt] at h
        exact ⟨h, HX.out.2.setCell (Nat.le_refl _) _⟩
      clear HX hBuf
      go_wp2_with fail
      go_roundg (51 - (i + 1))
      case measure => have := HI.out; omega
      case rel => exact ⟨i + 1, rfl, hlt, by go_num, HN⟩
    · obtain rfl : i = 51 := by omega
      go_wp2_with fail
      obtain ⟨PB, B⟩ := HB.out
      obtain ⟨hBuf, b⟩ := HX.out
      rw [HG.out] at b
      replace PB := PB.below b
      replace B := B.trans (b.mono B.size)
      have hP := buf_polF hBuf (by rw [fillB_length hin]; decide) (by rw [fillB_length hin]; decide)
      rw [fillB_length hin, fillB_n] at hP
      have HB2 := Lib.hid B
      refine (openE_any PB 0 0 hP (by rw [degF]; decide) (by rw [zL_ones 51 51 (Nat.le_refl _)]; decide)).mono ?_
      rintro e w6 ⟨rfl, b6⟩
      clear PB B hBuf b hP HX HB HG
      have b7 := HB2.out.trans (b6.mono HB2.out.size)
      go_wp2_with fail
      go_ret
      exact ⟨rfl, b7.alloc b7.size _⟩
end Go.Proofs.YtdhcigiaidlmbaaGreatDoor.Pg
/- What the laws of chapter 13 share. By the verifier of shale. -/
namespace Go.Proofs.YtdhcigiaidlmbaaGreatDoor.Pg
open Go Go.RowKit Bin Pl Cos Enc Syn Loc Sea Dec
set_option linter.unusedVariables false
theorem newRx (w W : World) (g0 g1 g2 g3 g4 g5 g6 g7 g8 a b c : Int) (d : Value) (e : Int) (h : w.alloc (.cells #[.int .i64 g0, .int .i64 g1, .int .i64 g2, .int .i64 g3, .int .i64 g4, .int .i64 g5, .int .i64 g6, .int .i64 g7, .int .i64 g8, .int .i64 a, .int .i64 b, .int .i64 c, d, .int .i64 e] 40 (0, 0)) = W) : W.heap[w.heap.size]? = some (rxO g0 g1 g2 g3 g4 g5 g6 g7 g8 a b c d e) ∧ Below w.heap.size w W := by
  subst h
  exact ⟨heap_alloc_new w _, (Below.refl _ _).alloc (Nat.le_refl _) _⟩
section
variable {m : Nat} [M : Pl.Mid m]
end
end Go.Proofs.YtdhcigiaidlmbaaGreatDoor.Pg
/- The sizes of a page, of any geometry. By the verifier of shale. -/
namespace Go.Proofs.YtdhcigiaidlmbaaGreatDoor.Pg
open Go Go.RowKit Bin Pl Cos Enc Syn Loc Sea Dec
set_option linter.unusedVariables false
section
variable {m : Nat} [M : Pl.Mid m]
set_option maxRecDepth 100000 in
set_option maxHeartbeats 1000000 in
theorem csize_any {t sc : Nat} {w : World} {cb s db : Nat} (P : pgAt w cb sc s db) (C : CodeAt m t (sc + 32) w s) (ht40 : t ≤ 40) (hs2 : sc ≤ 1024) :
    Calls Tryz.prog 17 #[.pointer (some ⟨cb, 0, none⟩)] w fun e w' => e = .returned (.int .i64 ((sc + 32 + pb (deg m t) : Nat) : Int)) ∧ Drawn w w' := by
  obtain ⟨k0, k1, k2⟩ := P.cells
  have hD5 := deg_560 (m := m) ht40
  have HD : Hid (∀ nn, Calls Tryz.prog 40 #[.pointer (some ⟨s, 0, none⟩)] (w.drewN nn) fun e w' => e = .returned (.int .i64 ((sc + 32 : Nat) : Int)) ∧ Drawn (w.drewN nn) w') := fun nn => (data_code (w.drewN nn) s (C.below ((Drawn.mk w nn).below _))).mono fun e w' h => ⟨h.1, h.2 ▸ Drawn.refl _⟩
  have HP : Hid (∀ nn, Calls Tryz.prog 41 #[.pointer (some ⟨s, 0, none⟩)] (w.drewN nn) fun e w' => e = .returned (.int .i64 (pb (deg m t) : Int)) ∧ Drawn (w.drewN nn) w') := fun nn => (parityB_any (w.drewN nn) s (C.below ((Drawn.mk w nn).below _)) ht40).mono fun e w' h => ⟨h.1, h.2 ▸ Drawn.refl _⟩
  have hP2 : pb (deg m t) ≤ 100 := by unfold pb; omega
  generalize pb (deg m t) = P' at HP hP2 ⊢
  obtain ⟨n, hn⟩ : ∃ n, n = sc + 32 := ⟨_, rfl⟩
  rw [← hn] at HD ⊢
  have hn2 : n ≤ 1100 := by omega
  have e1 : IntKind.i64.wrap ((n : Int) + (P' : Int)) = ((n + P' : Nat) : Int) := by rw [IntWalk.i64_in _ (by omega)]; omega
  clear P C hn
  go_enter Tryz.func17, Tryz.ntmps17
  go_wp2_with fail
  go_quiet (first
    | (go_at_call 40; exact quiet_drawn (HD.out _))
    | (go_at_call 41; exact quiet_drawn (HP.out _)))
  have HDr := Lib.hid (Drawn.mk w nq)
  generalize w.drewN nq = w5 at HDr ⊢
  go_wp2_with fail
  go_ret
  exact ⟨rfl, HDr.out⟩
end
set_option maxRecDepth 100000 in
set_option maxHeartbeats 1000000 in
theorem rsize_gen (g0 g1 g5 g6 g7 g8 : Int) (m sc t n : Nat) (ga : Option Addr) (gn gc D : Nat) (hs : sc ≤ 1024) (hD : D ≤ 560) (w : World) :
    Calls Tryz.prog 18 #[.agg #[.int .i64 g0, .int .i64 g1, .int .i64 (sc : Int), .int .i64 (m : Int), .int .i64 (t : Int), .int .i64 g5, .int .i64 g6, .int .i64 g7, .int .i64 g8, .int .i64 (m : Int), .int .i64 (t : Int), .int .i64 (n : Int), .slice ga gn gc, .int .i64 (D : Int)]] w fun e w' => e = .returned (.int .i64 ((sc + 32 + pb D : Nat) : Int)) ∧ Below w.heap.size w w' := by
  have hP : pb D ≤ 100 := by unfold pb; omega
  have HP : Hid (∀ W, Calls Tryz.prog 42 #[.agg #[.int .i64 (m : Int), .int .i64 (t : Int), .int .i64 (n : Int), .slice ga gn gc, .int .i64 (D : Int)]] W fun e w' => e = .returned (.int .i64 (pb D : Int)) ∧ Below W.heap.size W w') := fun W => rparity_any m t n ga gn gc D (by omega) W
  generalize pb D = P at HP hP ⊢
  go_enter Tryz.func18, Tryz.ntmps18
  go_wp2_with fail
  generalize hw : w.alloc (.cells #[.int .i64 g0, .int .i64 g1, .int .i64 (sc : Int), .int .i64 (m : Int), .int .i64 (t : Int), .int .i64 g5, .int .i64 g6, .int .i64 g7, .int .i64 g8, .int .i64 (m : Int), .int .i64 (t : Int), .int .i64 (n : Int), .slice ga gn gc, .int .i64 (D : Int)] 40 (0, 0)) = w1
  obtain ⟨K, B⟩ := newRx w w1 _ _ _ _ _ _ _ _ _ _ _ _ _ _ hw
  clear hw
  obtain ⟨bq, hbq⟩ : ∃ bq, bq = w.heap.size := ⟨_, rfl⟩
  rw [← hbq] at K ⊢
  clear hbq
  have hlA := lt_of_block K
  have HS : Hid (∀ w', Below w1.heap.size w1 w' → (w'.cell? ⟨bq, 2, none⟩ = some (.int .i64 (sc : Int)) ∧ w'.cell? ⟨bq, 9, none⟩ = some (.int .i64 (m : Int)) ∧ w'.cell? ⟨bq, 10, none⟩ = some (.int .i64 (t : Int)) ∧ w'.cell? ⟨bq, 11, none⟩ = some (.int .i64 (n : Int)) ∧ w'.cell? ⟨bq, 12, none⟩ = some (.slice ga gn gc) ∧ w'.cell? ⟨bq, 13, none⟩ = some (.int .i64 (D : Int)) ∧ Below w1.heap.size w1 w')) := fun w' b => by
    obtain ⟨c0, c1, c2, c3, c4, c5, c6, c7, c8, c9, c10, c11, c12, c13, _⟩ := rx_cells ((b.block bq hlA).trans K)
    exact ⟨c2, c9, c10, c11, c12, c13, b⟩
  have HA : Hid (∀ w' (_ : (w'.cell? ⟨bq, 2, none⟩ = some (.int .i64 (sc : Int)) ∧ w'.cell? ⟨bq, 9, none⟩ = some (.int .i64 (m : Int)) ∧ w'.cell? ⟨bq, 10, none⟩ = some (.int .i64 (t : Int)) ∧ w'.cell? ⟨bq, 11, none⟩ = some (.int .i64 (n : Int)) ∧ w'.cell? ⟨bq, 12, none⟩ = some (.slice ga gn gc) ∧ w'.cell? ⟨bq, 13, none⟩ = some (.int .i64 (D : Int)) ∧ Below w1.heap.size w1 w')), Calls Tryz.prog 42 #[.agg #[.int .i64 (m : Int), .int .i64 (t : Int), .int .i64 (n : Int), .slice ga gn gc, .int .i64 (D : Int)]] w' fun e w'' => e = .returned (.int .i64 (P : Int)) ∧ (w''.cell? ⟨bq, 2, none⟩ = some (.int .i64 (sc : Int)) ∧ w''.cell? ⟨bq, 9, none⟩ = some (.int .i64 (m : Int)) ∧ w''.cell? ⟨bq, 10, none⟩ = some (.int .i64 (t : Int)) ∧ w''.cell? ⟨bq, 11, none⟩ = some (.int .i64 (n : Int)) ∧ w''.cell? ⟨bq, 12, none⟩ = some (.slice ga gn gc) ∧ w''.cell? ⟨bq, 13, none⟩ = some (.int .i64 (D : Int)) ∧ Below w1.heap.size w1 w'')) := fun w' hs => (HP.out w').mono fun e w'' h => ⟨h.1, HS.out w'' (hs.2.2.2.2.2.2.trans (h.2.mono hs.2.2.2.2.2.2.size))⟩
  have hS0 := HS.out w1.drew ((Drawn.mk w1 1).below _)
  have HB := Lib.hid B
  have HR4 : Hid (IntKind.i64.wrap (IntKind.i64.wrap ((sc : Int) + 32) + (P : Int)) = ((sc + 32 + P : Nat) : Int)) := by show _ = _; rw [IntWalk.i64_in ((sc : Int) + 32) (by omega), IntWalk.i64_in _ (by omega)]; omega
  obtain ⟨c0, c1, c2, c3, c4, c5, c6, c7, c8, c9, c10, c11, c12, c13, _⟩ := rx_cells K
  clear K B HP hlA c0 c1 c3 c4 c5 c6 c7 c8
  go_region_held3 (fun w' => (w'.cell? ⟨bq, 2, none⟩ = some (.int .i64 (sc : Int)) ∧ w'.cell? ⟨bq, 9, none⟩ = some (.int .i64 (m : Int)) ∧ w'.cell? ⟨bq, 10, none⟩ = some (.int .i64 (t : Int)) ∧ w'.cell? ⟨bq, 11, none⟩ = some (.int .i64 (n : Int)) ∧ w'.cell? ⟨bq, 12, none⟩ = some (.slice ga gn gc) ∧ w'.cell? ⟨bq, 13, none⟩ = some (.int .i64 (D : Int)) ∧ Below w1.heap.size w1 w'))
    (first | assumption | exact ⟨by assumption, by assumption, by assumption, by assumption, by assumption, by assumption, by assumption⟩)
    (first
      | (go_at_call 42; (with_reducible refine Calls.mono (HA.out _ (by assumption)) ?_); rintro e w2 ⟨rfl, z1⟩))
  have b := z1.2.2.2.2.2.2
  have B := HB.out.trans (b.mono HB.out.size)
  clear z1 b c2 c9 c10 c11 c12 c13 hS0
  go_wp2_with fail
  go_ret
  exact ⟨congrArg (fun z => Ending.returned (Value.int .i64 z)) HR4.out, B⟩
end Go.Proofs.YtdhcigiaidlmbaaGreatDoor.Pg
