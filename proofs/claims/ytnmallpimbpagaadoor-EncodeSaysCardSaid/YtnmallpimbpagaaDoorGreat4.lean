/- Texts of the verifier of shale, laid into one: RefMul, RefDiv, RefGcd, RefXp, RefMin, RefMin2, MinFirst, RefGen, RefEnc, RefSer, EncFit, EncMade, EncMade2, EncFirst, EncLaw, Args, EncTurn, EncRFlip. -/
import Derived.Test.YtnmallpimbpagaaDoorGreat1
import Derived.Test.YtnmallpimbpagaaDoorGreat2
import Derived.Test.YtnmallpimbpagaaDoorGreat3
import Derived.StillTailTactics
import Derived.Deep.Fields
import Derived.ChangeArms
import Derived.WideShapes
import Derived.ProofKit
import Derived.ChangeOld
import Derived.Lib.QuietBelow
/- shaleref2.BinMul. By the verifier of shale. -/
namespace Go.Proofs.YtnmallpimbpagaaDoor.Bin
open Go Go.RowKit
set_option linter.unusedVariables false
theorem degZ_cast {v : Nat} (h : v ≠ 0) : ∃ d : Nat, degZ v = (d : Int) ∧ Deg v d := ⟨v.log2, degZ_ne h, deg_of h⟩
/-- a bit of the second one added, i places up. -/
theorem mul_step (V v N i k : Nat) : (bitL (V ^^^ (v % 2 ^ k) <<< i) N).set (i + k) (bz ((V ^^^ (v % 2 ^ k) <<< i).testBit (i + k) ^^ v.testBit k)) = bitL (V ^^^ (v % 2 ^ (k + 1)) <<< i) N := by
  rw [bitL_set, mod_succ v k, shl_xor, Nat.xor_assoc]
  congr 3
  cases v.testBit k
  · simp
  · simp [Nat.shiftLeft_eq, ← Nat.pow_add, Nat.add_comm]
set_option maxRecDepth 100000 in
set_option maxHeartbeats 4000000 in
theorem rmulV {w : World} {k k' : Nat} {a a' : Option Addr} {n c n' c' u v : Nat} (K : Nat) (h1 : PolV w k a n c u) (h2 : PolV w k' a' n' c' v) (hk : k ≤ 200) (hk' : k' ≤ 200) (hK : k + k' ≤ K) :
    Calls Tryd.prog 64 #[.slice a n c, .slice a' n' c'] w fun e w' => ∃ a n c, e = .returned (.slice a n c) ∧ NewV w w' K a n c (pm u v) ∧ Below w.heap.size w w' := by
  have HK := Lib.hid (Nat.lt_of_lt_of_le (room_pm h1.lt h2.lt) (room_mono hK))
  obtain ⟨X, p1, rfl, n1⟩ := h1
  obtain ⟨Y, p2, rfl, n2⟩ := h2
  have HP1 := Lib.hid p1
  have HP2 := Lib.hid p2
  have hl1 := p1.hlen
  have hl2 := p2.hlen
  clear p1 p2
  by_cases z1 : val X = 0
  · have hd : degZ (val X) = -1 := by rw [z1]; rfl
    have HF : Hid (NewV w w K none 0 0 (pm (val X) (val Y))) := by
      show NewV _ _ _ _ _ _ _
      rw [z1, zero_pm]; exact newV_nil w K
    clear z1 hl1 hl2
    go_enter Tryd.func64, Tryd.ntmps64
    go_wp2_with fail
    refine (rdeg_any a n c X w HP1.out (by omega)).mono ?_
    rintro e w1 ⟨rfl, rfl⟩
    rw [hd]
    clear hd
    go_wp2_with fail
    refine (rdeg_any a' n' c' Y w HP2.out (by omega)).mono ?_
    rintro e w1 ⟨rfl, rfl⟩
    go_wp2_with fail
    go_ret
    exact ⟨none, 0, 0, rfl, HF.out, Below.refl _ _⟩
  · obtain ⟨d, hd, HD'⟩ := degZ_cast z1
    have HD := Lib.hid HD'
    have t1 : decide ((d : Int) < 0) = false := decide_eq_false (by omega)
    have bd : d ≤ 1600 := by have := deg_len z1; rw [HD'.log2] at this; omega
    clear HD'
    by_cases z2 : val Y = 0
    · have hd2 : degZ (val Y) = -1 := by rw [z2]; rfl
      have HF : Hid (NewV w w K none 0 0 (pm (val X) (val Y))) := by
        show NewV _ _ _ _ _ _ _
        rw [z2, pm_zero]; exact newV_nil w K
      clear z1 z2 hl1 hl2
      go_enter Tryd.func64, Tryd.ntmps64
      go_wp2_with fail
      refine (rdeg_any a n c X w HP1.out (by omega)).mono ?_
      rintro e w1 ⟨rfl, rfl⟩
      rw [hd]
      clear hd
      go_wp2_with fail
      refine (rdeg_any a' n' c' Y w HP2.out (by omega)).mono ?_
      rintro e w1 ⟨rfl, rfl⟩
      rw [hd2]
      clear hd2
      go_wp2_with fail
      go_ret
      exact ⟨none, 0, 0, rfl, HF.out, Below.refl _ _⟩
    · obtain ⟨d2, hd2, HD2'⟩ := degZ_cast z2
      have HD2 := Lib.hid HD2'
      have t2 : decide ((d2 : Int) < 0) = false := decide_eq_false (by omega)
      have bd2 : d2 ≤ 1600 := by have := deg_len z2; rw [HD2'.log2] at this; omega
      have HT : Hid (pm (val X) (val Y) < 2 ^ (d + d2 + 1)) := (deg_pm HD.out _ _ HD2').2
      obtain ⟨N, hN⟩ : ∃ N, N = d + d2 + 1 := ⟨_, rfl⟩
      have eN : (d : Int) + (d2 : Int) + 1 = (N : Int) := by omega
      rw [← hN] at HT
      have HN := Lib.hid hN
      have bN : N ≤ 4000 := by omega
      have hmk := made64 w N (by omega)
      rw [bitL_zero] at hmk
      have HB0 : Hid (Below w.heap.size w (w.alloc (obj64 (bitL 0 N)))) := (Below.refl _ _).alloc (Nat.le_refl _) _
      have HK0 : Hid (Blk64 (w.alloc (obj64 (bitL 0 N))) w.heap.size (bitL 0 N)) := Blk64.new w _
      clear z1 z2 hl1 hl2 HD2' hN
      go_enter Tryd.func64, Tryd.ntmps64
      go_wp2_with fail
      refine (rdeg_any a n c X w HP1.out (by omega)).mono ?_
      rintro e w1 ⟨rfl, rfl⟩
      rw [hd]
      clear hd
      go_wp2_with fail
      refine (rdeg_any a' n' c' Y w HP2.out (by omega)).mono ?_
      rintro e w1 ⟨rfl, rfl⟩
      rw [hd2]
      clear hd2
      go_wp2_with fail
      go_loopg [8, 9] (d + 1) (fun gh s8 s9 wx => ∃ (i : Nat), gh = d + 1 - i ∧ i ≤ d + 1 ∧ s8 = .int .i64 (i : Int) ∧ Blk64 wx w.heap.size (bitL (pm (val Y) (val X % 2 ^ i)) N) ∧ Below w.heap.size w wx)
      case atStart => exact ⟨0, rfl, by omega, rfl, by rw [Nat.pow_zero, Nat.mod_one, pm_zero]; exact HK0.out, HB0.out⟩
      case round =>
        clear hmk eN t1 t2
        obtain ⟨i, hg, hin, rfl, hk, hB⟩ := hrel
        have HG := Lib.hid hg
        clear hg
        by_cases hlt : i < d + 1
        · have x1 : decide ((i : Int) ≤ (d : Int)) = true := decide_eq_true (by omega)
          have x0 : (0 : Int) ≤ (i : Int) := by omega
          have HPX := Lib.hid (HP1.out.below hB)
          have HBX := Lib.hid (bitZ_bz X i)
          have HM := Lib.hid (mod_succ (val X) i)
          go_wp2_with fail
          refine (rbit_any a n c X (i : Int) wr HPX.out (by omega)).mono ?_
          rintro e w1 ⟨rfl, rfl⟩
          rw [HBX.out]
          rcases Bool.eq_false_or_eq_true ((val X).testBit i) with hb | hb
          · have HE : Hid (pm (val Y) (val X % 2 ^ (i + 1)) = pm (val Y) (val X % 2 ^ i) ^^^ (val Y % 2 ^ (d2 + 1)) <<< i) := by
              show _ = _
              rw [HM.out, hb, if_pos rfl, pm_xor_right, pm_pow, Nat.mod_eq_of_lt HD2.out.2]
            rw [hb]
            rw [show bz true = 1 from rfl]
            clear hb HM
            go_wp2_with fail
            obtain ⟨V, hV⟩ : ∃ V, V = pm (val Y) (val X % 2 ^ i) := ⟨_, rfl⟩
            rw [← hV] at hk HE
            have HVV := Lib.hid hV
            clear hV
            go_loopg [9] (d2 + 1) (fun gh s9 wx => ∃ (k : Nat), gh = d2 + 1 - k ∧ k ≤ d2 + 1 ∧ s9 = .int .i64 (k : Int) ∧ Blk64 wx w.heap.size (bitL (V ^^^ (val Y % 2 ^ k) <<< i) N) ∧ Below w.heap.size w wx)
            case atStart => exact ⟨0, rfl, by omega, rfl, by rw [Nat.pow_zero, Nat.mod_one, shl_zero, Nat.xor_zero]; exact hk, hB⟩
            case round =>
              clear hk hB HPX
              obtain ⟨k, hg, hkn, rfl, hk, hB⟩ := hrel
              have HG2 := Lib.hid hg
              clear hg
              by_cases hlt2 : k < d2 + 1
              · have y1 : decide ((k : Int) ≤ (d2 : Int)) = true := decide_eq_true (by omega)
                have y0 : (0 : Int) ≤ (k : Int) := by omega
                have hikN : i + k < N := by have := HN.out; omega
                have hk : Blk64 wr.drew w.heap.size (bitL (V ^^^ (val Y % 2 ^ k) <<< i) N) := hk
                have hB : Below w.heap.size w wr.drew := Below.drew hB
                go_wp2_with fail
                refine wp_region_still_tail 15 (by kernel_rfl) (by kernel_rfl) ?_
                simp only [List.take_succ_cons, List.take_zero, List.drop_succ_cons, List.drop_zero]
                change wpStill _ _ wr.drew (fun a' => wpList _ _ _ _ a' wr.drew) _ _
                generalize wr.drew = w2 at hk hB ⊢
                have c1 := hk.cell (i := i + k) (by rw [bitL_length]; exact hikN)
                rw [nth_bitL _ _ _ hikN] at c1
                have c2 := hk.free (i + k)
                have ex := bz_xor ((V ^^^ (val Y % 2 ^ k) <<< i).testBit (i + k)) ((val Y).testBit k)
                have HS := Lib.hid (Blk64.lay hk (mul_step V (val Y) N i k))
                have HSB : Hid (Below w.heap.size w (w2.setCell ⟨w.heap.size, i + k, none⟩ (.int .i64 (bz ((V ^^^ (val Y % 2 ^ k) <<< i).testBit (i + k) ^^ (val Y).testBit k))))) := hB.setCell (p := ⟨w.heap.size, i + k, none⟩) (Nat.le_refl _) _
                have HPY := Lib.hid (HP2.out.below hB)
                have HBY := Lib.hid (bitZ_bz Y k)
                have i4 : (i : Int) + (k : Int) < (N : Int) := by omega
                have i5 : (0 : Int) ≤ (i : Int) + (k : Int) := by omega
                have i2 : ((i : Int) + (k : Int)).toNat = i + k := by omega
                have i1 : IntKind.i64.wrap ((i : Int) + (k : Int)) = (i : Int) + (k : Int) := IntWalk.i64_in _ (by omega)
                generalize bz ((V ^^^ (val Y % 2 ^ k) <<< i).testBit (i + k) ^^ (val Y).testBit k) = b3 at ex HS HSB
                generalize bz ((V ^^^ (val Y % 2 ^ k) <<< i).testBit (i + k)) = b1 at c1 ex
                clear hk hB hlt hlt2
                repeat still_step
                still_call ((rbit_any a' n' c' Y (k : Int) w2 HPY.out (by omega)).mono fun _ _ h => ⟨h.1, h.2.symm⟩)
                rw [HBY.out]
                generalize bz ((val Y).testBit k) = b2 at ex ⊢
                repeat still_step
                refine wpStill_nil ?_
                go_wp2_with fail
                go_roundg (d2 + 1 - (k + 1))
                case measure => have := HG2.out; omega
                case rel => exact ⟨k + 1, rfl, by omega, by go_num, HS.out, HSB.out⟩
              · obtain rfl : k = d2 + 1 := by omega
                have y1 : decide (((d2 + 1 : Nat) : Int) ≤ (d2 : Int)) = false := decide_eq_false (by omega)
                rw [← HE.out] at hk
                go_wp2_with fail
                go_roundg (d + 1 - (i + 1))
                case measure => have := HG.out; omega
                case rel => exact ⟨i + 1, rfl, by omega, by go_num, hk, hB⟩
          · have HE : Hid (pm (val Y) (val X % 2 ^ (i + 1)) = pm (val Y) (val X % 2 ^ i)) := by
              show _ = _
              rw [HM.out, hb]; simp
            rw [hb]
            rw [show bz false = 0 from rfl]
            clear hb HM HPX
            go_wp2_with fail
            go_roundg (d + 1 - (i + 1))
            case measure => have := HG.out; omega
            case rel => exact ⟨i + 1, rfl, by omega, by go_num, by rw [HE.out]; exact hk, hB⟩
        · obtain rfl : i = d + 1 := by omega
          have x1 : decide (((d + 1 : Nat) : Int) ≤ (d : Int)) = false := decide_eq_false (by omega)
          have HE : Hid (pm (val Y) (val X % 2 ^ (d + 1)) = pm (val X) (val Y)) := by
            show _ = _
            rw [Nat.mod_eq_of_lt HD.out.2, pm_comm]
          rw [HE.out] at hk
          go_wp2_with fail
          refine (bits_any w.heap.size N N _ wr hk (by omega)).mono ?_
          rintro e w2 ⟨a3, n3, c3, Z, rfl, hZ, bZ, vZ, b2⟩
          have hF := newV (hZ.from hB.size) bZ (vZ.trans (by rw [Nat.mod_eq_of_lt HT.out])) K HK.out
          have hB2 := hB.trans (b2.mono hB.size)
          clear hZ bZ vZ b2 hB hk
          go_wp2_with fail
          go_ret
          exact ⟨a3, n3, c3, rfl, hF, hB2⟩
end Go.Proofs.YtnmallpimbpagaaDoor.Bin
/- shaleref2.BinDivMod. By the verifier of shale. -/
namespace Go.Proofs.YtnmallpimbpagaaDoor.Bin
open Go Go.RowKit
set_option linter.unusedVariables false
/-- where the division stands: what is left is below x^j. -/
structure Divs (u v e j Q L : Nat) : Prop where
  sum : u = pm Q v ^^^ L
  low : L < 2 ^ j
  free : ∀ t, t + e < j → Q.testBit t = false
theorem Divs.skip {u v e i Q L : Nat} (h : Divs u v e (i + 1) Q L) (hb : L.testBit i = false) : Divs u v e i Q L :=
  ⟨h.sum, lt_of_bit h.low hb, fun t ht => h.free t (by omega)⟩
theorem Divs.next {u v e s Q L : Nat} (h : Divs u v e (e + s + 1) Q L) (hv : Deg v e) (hb : L.testBit (e + s) = true) : Divs u v e (e + s) (Q ^^^ 2 ^ s) (L ^^^ (v % 2 ^ (e + 1)) <<< s) := by
  rw [Nat.mod_eq_of_lt hv.2]
  refine ⟨?_, clear_top h.low hb (shl_deg hv s), fun t ht => ?_⟩
  · rw [pm_xor_left, pow_pm, xx, ← h.sum]
    rw [Nat.xor_self, Nat.xor_zero]
  · rw [Nat.testBit_xor, h.free t (by omega), Nat.testBit_two_pow_of_ne (by omega)]; rfl
theorem divs_end {u v e j Q L : Nat} (h : Divs u v e j Q L) (hv : Deg v e) (hj : j ≤ e) : IsDiv u v Q L :=
  isDiv_of_lt hv h.sum (Nat.lt_of_lt_of_le h.low (Nat.pow_le_pow_right (by decide) hj))
theorem top_lt (v : Nat) : v < 2 ^ topE v := by
  unfold topE
  split
  · rename_i h; rw [h]; decide
  · exact Nat.lt_log2_self
theorem q_lt {u v q r N : Nat} (h0 : v ≠ 0) (h : IsDiv u v q r) (hu : u < 2 ^ N) : q < 2 ^ N := by
  by_cases hq : q = 0
  · rw [hq]; exact Nat.two_pow_pos _
  · have hd := deg_pm (deg_of hq) _ v (deg_of h0)
    have hp0 : pm q v ≠ 0 := pm_ne hq h0
    have hle : (pm q v).log2 ≤ u.log2 ∧ u ≠ 0 := by
      rcases h.2 with h1 | ⟨i, j, d1, d2, hij⟩
      · have := h.1
        rw [h1, Nat.xor_zero] at this
        rw [this]; exact ⟨Nat.le_refl _, hp0⟩
      · have hdv := deg_pm (deg_of hq) _ v d2
        have hr : r < 2 ^ (q.log2 + j) := lt_of_deg d1 (by omega)
        have := top_xor (q.log2 + j) r (pm q v) hr hdv.1 hdv.2
        rw [Nat.xor_comm, ← h.1] at this
        have hdu : Deg u (q.log2 + j) := this
        rw [hdu.log2, hdv.log2]
        exact ⟨Nat.le_refl _, by have := hdu.pos; omega⟩
    have h2 := (Nat.log2_lt hle.2).2 hu
    exact lt_of_deg (deg_of hq) (by rw [hd.log2] at hle; omega)
end Go.Proofs.YtnmallpimbpagaaDoor.Bin
/- shaleref2.BinGcd, Irreducible. By the verifier of shale. -/
namespace Go.Proofs.YtnmallpimbpagaaDoor.Bin
open Go Go.RowKit
set_option linter.unusedVariables false
theorem rdegV {w : World} {k : Nat} {a : Option Addr} {n c u : Nat} (h1 : PolV w k a n c u) (hk : k ≤ 1000) :
    Calls Tryd.prog 71 #[.slice a n c] w fun e w' => e = .returned (.int .i64 (degZ u)) ∧ w = w' := by
  obtain ⟨X, p1, rfl, n1⟩ := h1
  exact rdeg_any a n c X w p1 (by omega)
theorem NewV.fit {w0 w : World} {K k : Nat} {a : Option Addr} {n c v : Nat} (h : NewV w0 w K a n c v) (hv : v < room k) : NewV w0 w k a n c v := by
  obtain ⟨X, h1, h2, h3, h4⟩ := h
  exact newV h1 h2 h3 k hv
theorem NewV.since {w0 w w' : World} {K : Nat} {a : Option Addr} {n c v : Nat} (h : NewV w0 w K a n c v) (b : Below w.heap.size w w') : NewV w0 w' K a n c v := by
  obtain ⟨X, h1, h2, h3, h4⟩ := h
  exact ⟨X, h1.since b, h2, h3, h4⟩
theorem NewV.from {w0 w1 w : World} {K : Nat} {a : Option Addr} {n c v : Nat} (h : NewV w1 w K a n c v) (b : w0.heap.size ≤ w1.heap.size) : NewV w0 w K a n c v := by
  obtain ⟨X, h1, h2, h3, h4⟩ := h
  exact ⟨X, h1.from b, h2, h3, h4⟩
theorem pgcd_comm (a b : Nat) : pgcd a b = pgcd b a := pgcd_of (pgcd_is a b).comm
theorem degZ_one {g : Nat} (h : g ≠ 0) : degZ g = 0 ↔ g = 1 := by
  rw [degZ_ne h]
  constructor
  · intro h1
    have := (deg_of h).2
    rw [show g.log2 = 0 by omega] at this
    omega
  · intro h1; rw [h1]; rfl
theorem two_polV (w : World) : PolV (w.alloc (obj8 [2])) 1 (some ⟨w.heap.size, 0, none⟩) 1 1 2 ∧ Below w.heap.size w (w.alloc (obj8 [2])) :=
  ⟨⟨[2], ⟨rfl, Nat.le_refl _, by decide, (fun h => by cases h), Or.inr ⟨_, 0, rfl, (Blk8.new w [2]).row, by simp⟩⟩, rfl, Nat.le_refl _⟩, (Below.refl _ _).alloc (Nat.le_refl _) _⟩
end Go.Proofs.YtnmallpimbpagaaDoor.Bin
/- shaleref2.Of, Exponents. By the verifier of shale. -/
namespace Go.Proofs.YtnmallpimbpagaaDoor.Bin
open Go Go.RowKit
set_option linter.unusedVariables false
/-- the greatest one. -/
def mostL : List Nat → Nat
  | [] => 0
  | e :: l => max e (mostL l)
theorem mostL_snoc (l : List Nat) (e : Nat) : mostL (l ++ [e]) = max (mostL l) e := by
  induction l with
  | nil => simp [mostL]
  | cons a l ih => simp only [List.cons_append, mostL, ih]; omega
theorem mostL_le {l : List Nat} {M : Nat} (h : ∀ e ∈ l, e ≤ M) : mostL l ≤ M := by
  induction l with
  | nil => exact Nat.zero_le _
  | cons a l ih =>
    have h1 := h a (List.mem_cons_self ..)
    have h2 := ih fun e he => h e (List.mem_cons_of_mem _ he)
    simp only [mostL]; omega
theorem le_mostL {l : List Nat} {i : Nat} (h : i < l.length) : l.getD i 0 ≤ mostL l := by
  induction l generalizing i with
  | nil => simp at h
  | cons a l ih =>
    cases i with
    | zero => simp only [mostL, List.getD_cons_zero]; omega
    | succ i =>
      have := ih (i := i) (by simpa using h)
      simp only [mostL, List.getD_cons_succ]; omega
theorem xp_most (l : List Nat) : ∀ M, mostL l ≤ M → xp l < 2 ^ (M + 1) := by
  induction l with
  | nil => intro M _; exact Nat.two_pow_pos _
  | cons a l ih =>
    intro M h
    simp only [mostL] at h
    exact Nat.xor_lt_two_pow (Nat.pow_lt_pow_right (by decide) (by omega)) (ih M (by omega))
theorem room_pow {v d : Nat} (k : Nat) (h : v < 2 ^ d) (hk : d ≤ 8 * k) : v < room k := Nat.lt_of_lt_of_le h (Nat.pow_le_pow_right (by decide) hk)
theorem bz_flip (b : Bool) : bits .xor .i64 (bz b) 1 = bz (b ^^ true) := by cases b <;> rfl
set_option maxRecDepth 100000 in
set_option maxHeartbeats 2000000 in
theorem rofV (a : Option Addr) (n cap : Nat) (es : List Nat) (w : World) (h : RowN w a n es) (hn : n ≤ 100000) (hes : ∀ e ∈ es, e ≤ 2048) :
    Calls Tryd.prog 76 #[.slice a n cap] w fun e w' => ∃ a n c, e = .returned (.slice a n c) ∧ NewV w w' 300 a n c (xp es) ∧ Below w.heap.size w w' := by
  have HR := Lib.hid h
  have hlen := h.hlen
  have HLN := Lib.hid hlen
  obtain ⟨M, hM⟩ : ∃ M, M = mostL es := ⟨_, rfl⟩
  have hM2 : M ≤ 2048 := by rw [hM]; exact mostL_le hes
  have HM := Lib.hid hM
  have HX : Hid (xp es < 2 ^ (M + 1)) := by rw [hM]; exact xp_most es _ (Nat.le_refl _)
  have hmk := made64 w (M + 1) (by omega)
  rw [bitL_zero] at hmk
  have eM : ((M + 1 : Nat) : Int) = (M : Int) + 1 := by omega
  rw [eM] at hmk
  have HB0 : Hid (Below w.heap.size w (w.alloc (obj64 (bitL 0 (M + 1))))) := (Below.refl _ _).alloc (Nat.le_refl _) _
  have HK0 : Hid (Blk64 (w.alloc (obj64 (bitL 0 (M + 1)))) w.heap.size (bitL 0 (M + 1))) := Blk64.new w _
  clear h hlen hM hes eM
  go_enter Tryd.func76, Tryd.ntmps76
  go_wp2_with fail
  go_loopg [3, 4] n (fun gh s3 s4 wx => ∃ (i m : Nat), gh = n - i ∧ i ≤ n ∧ s4 = .int .i64 (i : Int) ∧ s3 = .int .i64 (m : Int) ∧ m ≤ M ∧ Hid (m = mostL (es.take i)) ∧ w = wx)
  case atStart => exact ⟨0, 0, rfl, by omega, rfl, rfl, by omega, rfl, rfl⟩
  case round =>
    obtain ⟨i, m, hg, hin, rfl, rfl, hmM, HS, rfl⟩ := hrel
    have HG := Lib.hid hg
    clear hg
    by_cases hlt : i < n
    · have x1 : (i : Int) < (n : Int) := by omega
      have x0 : (0 : Int) ≤ (i : Int) := by omega
      obtain ⟨bb, off, rfl, c1, hb⟩ := HR.out.row i hlt
      have hie : i < es.length := by have := HLN.out; omega
      have HS2 : Hid (max m (es.getD i 0) = mostL (es.take (i + 1))) := by
        show _ = _
        rw [take_getD es i hie, mostL_snoc, HS.out]
      have hq2 : es.getD i 0 ≤ M := by rw [HM.out]; exact le_mostL hie
      generalize es.getD i 0 = q at c1 HS2 hq2
      obtain ⟨m2, hm2⟩ : ∃ m2, m2 = max m q := ⟨_, rfl⟩
      have e2 : max (m : Int) (q : Int) = (m2 : Int) := by omega
      rw [← hm2] at HS2
      have hm2M : m2 ≤ M := by omega
      clear hb hie HS hm2 hmk
      go_wp2_with fail
      go_roundg (n - (i + 1))
      case measure => have := HG.out; omega
      case rel => exact ⟨i + 1, m2, rfl, by omega, by go_num, rfl, hm2M, HS2.out, rfl⟩
    · obtain rfl : i = n := by omega
      obtain rfl : m = M := by rw [HS.out, HM.out, List.take_of_length_le (by have := HLN.out; omega)]
      clear HS
      go_wp2_with fail
      clear hmk
      go_loopg [6] i (fun gh s6 wx => ∃ (k : Nat), gh = i - k ∧ k ≤ i ∧ s6 = .int .i64 (k : Int) ∧ Blk64 wx w.heap.size (bitL (xp (es.take k)) (m + 1)) ∧ Below w.heap.size w wx)
      case atStart => exact ⟨0, rfl, by omega, rfl, HK0.out, HB0.out⟩
      case round =>
        clear HK0 HB0
        obtain ⟨k, hg, hki, rfl, hk, hB⟩ := hrel
        have HG2 := Lib.hid hg
        clear hg
        by_cases hlt2 : k < i
        · have x1 : (k : Int) < (i : Int) := by omega
          have x0 : (0 : Int) ≤ (k : Int) := by omega
          have hk : Blk64 wr.drew w.heap.size (bitL (xp (es.take k)) (m + 1)) := hk
          have hB : Below w.heap.size w wr.drew := Below.drew hB
          go_wp2_with fail
          refine wp_region_still_tail 14 (by kernel_rfl) (by kernel_rfl) ?_
          simp only [List.take_succ_cons, List.take_zero, List.drop_succ_cons, List.drop_zero]
          change wpStill _ _ wr.drew (fun a' => wpList _ _ _ _ a' wr.drew) _ _
          generalize wr.drew = w2 at hk hB ⊢
          obtain ⟨bb, off, rfl, c1, hb⟩ := (HR.out.below hB).row k hlt2
          have hie : k < es.length := by have := HLN.out; omega
          have hq2 : es.getD k 0 ≤ m := by rw [HM.out]; exact le_mostL hie
          have HT : Hid (xp (es.take (k + 1)) = xp (es.take k) ^^^ 2 ^ es.getD k 0) := by
            show _ = _
            rw [take_getD es k hie, xp_append]; simp [xp]
          generalize es.getD k 0 = q at c1 hq2 HT
          have v1 := hk.cell (i := q) (by rw [bitL_length]; omega)
          rw [nth_bitL _ _ _ (by omega)] at v1
          have v2 := hk.free q
          have ex := bz_flip ((xp (es.take k)).testBit q)
          have HS := Lib.hid (Blk64.lay hk (bitL_set (xp (es.take k)) (m + 1) q true))
          have HSB : Hid (Below w.heap.size w (w2.setCell ⟨w.heap.size, q, none⟩ (.int .i64 (bz ((xp (es.take k)).testBit q ^^ true))))) := hB.setCell (p := ⟨w.heap.size, q, none⟩) (Nat.le_refl _) _
          have i1 : (q : Int) < (m : Int) + 1 := by omega
          generalize bz ((xp (es.take k)).testBit q ^^ true) = b3 at ex HS HSB
          generalize bz ((xp (es.take k)).testBit q) = b1 at v1 ex
          have HS2 : Hid (Blk64 (w2.setCell ⟨w.heap.size, q, none⟩ (.int .i64 b3)) w.heap.size (bitL (xp (es.take (k + 1))) (m + 1))) := by
            have := HS.out
            rw [if_pos rfl, ← HT.out] at this
            exact this
          clear hk hB hb hie HS
          repeat still_step
          refine wpStill_nil ?_
          go_wp2_with fail
          go_roundg (i - (k + 1))
          case measure => have := HG2.out; omega
          case rel => exact ⟨k + 1, rfl, by omega, by go_num, HS2.out, HSB.out⟩
        · obtain rfl : k = i := by omega
          rw [List.take_of_length_le (by have := HLN.out; omega)] at hk
          go_wp2_with fail
          refine (bits_any w.heap.size (m + 1) (m + 1) _ wr hk (by omega)).mono ?_
          rintro e w3 ⟨a3, n3, c3, Z, rfl, hZ, bZ, vZ, b2⟩
          have hv : val Z = xp es := vZ.trans (Nat.mod_eq_of_lt HX.out)
          have hroom : xp es < room 300 := room_pow 300 HX.out (by omega)
          have hF := newV (hZ.from hB.size) bZ hv 300 hroom
          have hB2 := hB.trans (b2.mono hB.size)
          clear hZ bZ vZ b2 hB hk hv hroom
          go_wp2_with fail
          go_ret
          exact ⟨a3, n3, c3, rfl, hF, hB2⟩
end Go.Proofs.YtnmallpimbpagaaDoor.Bin
/- The reference's FromRoots and Minimal. By the verifier of shale. -/
namespace Go.Proofs.YtnmallpimbpagaaDoor.Cos
open Go Go.RowKit Pl
set_option linter.unusedVariables false
section
variable {m : Nat} [M : Mid m]
theorem sr_lin2 (z : Int) : sr m [z, 1] = lin (elm m z) := by
  funext i
  show elm m (([z, 1] : List Int).getD i 0) = if i = 0 then elm m z else if i = 1 then 1 else 0
  rcases i with _ | _ | i
  · rfl
  · rw [if_neg (by omega), if_pos rfl]; exact elm_zn (1 : El m)
  · rw [if_neg (by omega), if_neg (by omega)]; exact elm_zero
set_option maxRecDepth 100000 in
set_option maxHeartbeats 1000000 in
theorem rfrom_any (a : Option Addr) (n cap : Nat) (l : List Int) (w : World) (h : RowZ w a n cap l) (hn : n ≤ 20) :
    Calls Tryd.prog 75 #[.int .i64 (m : Int), .slice a n cap] w
      fun e w' => ∃ a' n' c', e = .returned (.slice a' n' c') ∧ NV m w' (n + 1) a' n' c' (pls l n) ∧ Below w.heap.size w w' := by
  go_enter Tryd.func75, Tryd.ntmps75
  go_wp2_with fail
  generalize hw : w.alloc (.cells #[.int .i64 1] 3 (0, 0)) = w2
  obtain ⟨hr, B⟩ := lit_row w w2 [1] 1 rfl (by decide) hw.symm
  clear hw
  replace h := h.below B
  have e0 : nums (pls (m := m) l 0) 1 = [1] := by
    show [zn (pls (m := m) l 0 0)] = [1]
    have e : pls (m := m) l 0 0 = 1 := by show (if (0 : Nat) = 0 then (1 : El m) else 0) = 1; rw [if_pos rfl]
    rw [e]; rfl
  have P : NV m w2 1 (some ⟨w.heap.size, 0, none⟩) 1 1 (pls l 0) := ⟨by rw [e0]; exact hr, pls_bd _ 0, top_dg' (pls_bd _ 0) (pls_dg _ 0), Nat.le_refl _⟩
  clear hr e0
  generalize (some ⟨w.heap.size, 0, none⟩ : Option Addr) = ap at P ⊢
  have HS : Hid (RowZ w2 a n cap l ∧ Below w.heap.size w w2) := ⟨h, B⟩
  have HP := Lib.hid P
  clear h B P
  go_loopg [5, 6] n (fun gh s5 s6 wx => ∃ (k : Nat) (ax : Option Addr) (nx cx : Nat), gh = n - k ∧ k ≤ n ∧ s6 = .int .i64 (k : Int) ∧ s5 = .slice ax nx cx ∧ Hid (NV m wx (k + 1) ax nx cx (pls l k)) ∧ Hid (RowZ wx a n cap l ∧ Below w.heap.size w wx))
  case atStart => exact ⟨0, ap, 1, 1, rfl, Nat.zero_le _, rfl, rfl, HP, HS⟩
  case round =>
    clear HP HS
    obtain ⟨k, ax, nx, cx, hg, hk, rfl, rfl, HP, HS⟩ := hrel
    have HG := Lib.hid hg
    clear hg
    by_cases hlt : k < n
    · have x1 : (k : Int) < (n : Int) := by omega
      have x0 : (0 : Int) ≤ (k : Int) := by omega
      obtain ⟨bb, off, rfl, d1, _⟩ := HS.out.1.row k hlt
      obtain ⟨z, hz⟩ : ∃ z, z = l.getD k 0 := ⟨_, rfl⟩
      rw [← hz] at d1
      have HZ := Lib.hid hz
      clear hz
      go_wp2_with fail
      generalize hw : wr.alloc (.cells #[.int .i64 z, .int .i64 1] 3 (0, 0)) = w4
      obtain ⟨hr, b⟩ := lit_row wr w4 [z, 1] 2 rfl (by decide) hw.symm
      clear hw d1
      have hnx := HP.out.le
      refine (rtimes_any (m := m) ax nx cx _ _ 2 2 [z, 1] w4 (HP.out.row.below b) hr (by omega) (by omega)).mono ?_
      rintro e w5 ⟨a5, n5, c5, rfl, h5, b5⟩
      rw [sr_nums HP.out.bd, sr_lin2] at h5
      have e : pls l (k + 1) = cv (pls l k) (lin (elm m z)) := by show cv _ (lin (elm m (l.getD k 0))) = _; rw [← HZ.out]
      have HP5 : Hid (NV m w5 (k + 1 + 1) a5 n5 c5 (pls l (k + 1))) := by
        rw [e]
        exact routV h5 (e ▸ pls_bd l (k + 1))
      have b45 := b.trans (b5.mono b.size)
      have HS5 : Hid (RowZ w5 (some ⟨bb, off, none⟩) n cap l ∧ Below w.heap.size w w5) := ⟨HS.out.1.below b45, HS.out.2.trans (b45.mono HS.out.2.size)⟩
      clear h5 b b5 b45 hr HS HP e
      go_wp2_with fail
      go_roundg (n - (k + 1))
      case measure => have := HG.out; omega
      case rel => exact ⟨k + 1, a5, n5, c5, rfl, by omega, by go_num, rfl, HP5, HS5⟩
    · obtain rfl : k = n := by omega
      go_wp2_with fail
      go_ret
      exact ⟨ax, nx, cx, rfl, HP.out, HS.out.2⟩
theorem xp_nb (p : Nat → Bool) : ∀ n, Bin.xp ((List.range n).filter p) = nb p n
  | 0 => rfl
  | n + 1 => by
    rw [range_filter_snoc, Bin.xp_append, xp_nb p n]
    simp only [nb]
    by_cases h : p n = true
    · rw [if_pos h, if_pos h]
      have h1 := nb_lt p n
      show nb p n ^^^ (2 ^ n ^^^ 0) = nb p n + 2 ^ n
      rw [Nat.xor_zero]
      apply Nat.eq_of_testBit_eq
      intro i
      rw [Nat.testBit_xor, Nat.testBit_two_pow]
      have h2 : (nb p n + 2 ^ n).testBit i = (nb p (n + 1)).testBit i := by simp only [nb]; rw [if_pos h]
      rw [h2, nb_bit, nb_bit]
      by_cases e : n = i
      · subst e; simp [h]
      · by_cases h3 : i < n
        · simp [h3, e, show i < n + 1 by omega]
        · simp [h3, e, show ¬ i < n + 1 by omega]
    · rw [if_neg h, if_neg h]
      show nb p n ^^^ 0 = nb p n + 0
      rw [Nat.xor_zero, Nat.add_zero]
end
end Go.Proofs.YtnmallpimbpagaaDoor.Cos
/- The reference's Minimal. By the verifier of shale. -/
namespace Go.Proofs.YtnmallpimbpagaaDoor.Cos
open Go Go.RowKit Bits16
set_option linter.unusedVariables false
section
variable {m : Nat} [M : Pl.Mid m]
theorem exl_snoc (l : List Nat) (j : Nat) : exl m (l ++ [j]) = exl m l ++ [Pl.zn (xe m j)] := by unfold exl; rw [List.map_append]; rfl
set_option maxRecDepth 100000 in
set_option maxHeartbeats 1000000 in
theorem rminimal_any (i : Int) (w : World) :
    Calls Tryd.prog 65 #[.int .i64 (m : Int), .int .i64 i] w
      fun e w' => ∃ a n c, e = .returned (.slice a n c) ∧ Bin.NewV w w' 300 a n c (mpv m (rs m i)) ∧ Below w.heap.size w w' := by
  obtain ⟨i0, hi, hz0, hz1, hz2⟩ := info64
  have hf := rs_lt M.lo i
  obtain ⟨f, hfe⟩ : ∃ f, f = rs m i := ⟨_, rfl⟩
  rw [← hfe] at hf ⊢
  have HFE := Lib.hid hfe
  have HF := Lib.hid hf
  have hlen := cos_len_le M.lo hf
  have hm14 := M.hi
  clear hfe hf
  go_enter Tryd.func65, Tryd.ntmps65
  go_wp2_with fail
  refine (rcoset_any m M.lo M.hi i w).mono ?_
  rintro e w1 ⟨a1, n1, c1, rfl, hO, B⟩
  rw [← HFE.out] at hO
  have hl := hO.len
  rw [ints_length] at hl
  obtain rfl : n1 = (cos m f).length := hl.symm
  have Rc := (Pl.own_rowz hO).1
  clear hO hl
  obtain ⟨L, hL⟩ : ∃ L, L = (cos m f).length := ⟨_, rfl⟩
  rw [← hL] at Rc hlen ⊢
  have HL := Lib.hid hL
  clear hL
  go_wp2_with fail
  go_loopg [6, 7] L (fun gh s6 s7 wx => ∃ (k : Nat), gh = L - k ∧ k ≤ L ∧ s7 = .int .i64 (k : Int) ∧ Own64 wx w1.heap.size s6 k (exl m ((cos m f).take k)) ∧ Below w1.heap.size w1 wx)
  case atStart => exact ⟨0, rfl, Nat.zero_le _, rfl, Own64.nil _ _, Below.refl _ _⟩
  case round =>
    obtain ⟨k, hg, hk, rfl, hO, hB⟩ := hrel
    have HG := Lib.hid hg
    clear hg
    obtain ⟨av, cv, rfl⟩ := own_slice hO
    have hbs := hB.size
    by_cases hlt : k < L
    · have x1 : (k : Int) < (L : Int) := by omega
      have x0 : (0 : Int) ≤ (k : Int) := by omega
      have hkc : k < (cos m f).length := by rw [← HL.out]; exact hlt
      obtain ⟨bb, off, rfl, d1, _⟩ := (Rc.below hB).row k hlt
      obtain ⟨j, hj⟩ : ∃ j, j = (cos m f).getD k 0 := ⟨_, rfl⟩
      have ej : (ints (cos m f)).getD k 0 = (j : Int) := by
        rw [hj]
        unfold ints
        rw [List.getD_eq_getElem?_getD, List.getElem?_map, List.getD_eq_getElem?_getD, List.getElem?_eq_getElem hkc]; rfl
      rw [ej] at d1
      have HFx : Hid (exl m ((cos m f).take (k + 1)) = exl m ((cos m f).take k) ++ [Pl.zn (xe m j)]) := by
        show _ = _
        rw [take_snocN _ k hkc, exl_snoc, ← hj]
      have HO := Lib.hid hO
      have HB := Lib.hid hB
      clear hj ej hkc hO hB
      go_wp2_with fail
      refine (Fld.rexp_any m M.lo M.hi (j : Int) wr).mono ?_
      rintro e w5 ⟨rfl, b5⟩
      rw [show Bits16.h (Fld.pwZ m (j : Int)) = Pl.zn (xe m j) from rfl]
      have ho5 : Own64 w5 w1.heap.size (.slice av k cv) k (exl m ((cos m f).take k)) := HO.out.keep fun g hg => b5.block g (HO.out.block g hg).2
      have hB5 := HB.out.trans (b5.mono hbs)
      have hbs5 := hB5.size
      generalize Pl.zn (xe m j) = z at HFx ⊢
      clear b5 d1
      go_wp2_with (at_builtin; refine wpList_append_own _ rfl _ _ 42 rfl w1.heap.size 3 i0 (.int .i64 0) 1 8 Tryd.underlying42 hi hz0 hz1 hz2 rfl (by decide) _ k _ rfl (World.ownsRow.alloc ho5 _) ⟨w5.heap.size, 0, none⟩ 1 1 [.int .i64 z] rfl rfl (cell_one_new _ _ _) (ints_oneCell .i64 [_]) (by unfold maxLen; omega) (by omega) (by simp; omega) ?_; intro v7 w7 hown7 hgrow _)
      have ho7 : Own64 w7 w1.heap.size v7 (k + 1) (exl m ((cos m f).take (k + 1))) := by
        unfold Own64
        rw [HFx.out, ← cells64_append]
        exact hown7
      have b7 : Below w1.heap.size w1 w7 := (hB5.alloc hbs5 _).grown hgrow (by simp; omega) (fun g hg => (ho5.block g hg).1)
      clear hown7 hgrow ho5 hB5 HO HB
      go_wp2_with fail
      go_roundg (L - (k + 1))
      case measure => have := HG.out; omega
      case rel => exact ⟨k + 1, rfl, by omega, by go_num, ho7, b7⟩
    · obtain rfl : k = L := by omega
      rw [List.take_of_length_le (by rw [← HL.out]; exact Nat.le_refl _)] at hO
      have Rr := (Pl.own_rowz hO).1
      have B2 := B.trans (hB.mono B.size)
      clear hO hB B Rc hlt
      go_wp2_with fail
      refine (rfrom_any (m := m) av k cv _ wr Rr (by omega)).mono ?_
      rintro e w5 ⟨ap, np, cp, rfl, P, b5⟩
      have hPS : Pl.pls (exl m (cos m f)) k = mpS m f := by rw [HL.out]; rfl
      rw [hPS] at P
      have hnp : np = k + 1 := by
        rw [← P.top, HL.out, Pl.top_same P.bd (mpS_dg f).2]
        exact Pl.top_dg (mpS_dg f)
      subst hnp
      have RP := P.row
      replace B2 := B2.trans (b5.mono B2.size)
      clear P b5 Rr hPS
      obtain ⟨W5, rfl⟩ : ∃ W5, W5 = w5 := ⟨_, rfl⟩
      go_wp2_with fail
      go_loopg [9, 10] (k + 1) (fun gh s9 s10 wx => ∃ (j n2 : Nat), gh = k + 1 - j ∧ j ≤ k + 1 ∧ n2 ≤ j ∧ s10 = .int .i64 (j : Int) ∧ Own64 wx W5.heap.size s9 n2 (ints ((List.range j).filter (mpb m f))) ∧ Below W5.heap.size W5 wx)
      case atStart => exact ⟨0, 0, rfl, Nat.zero_le _, Nat.le_refl _, rfl, Own64.nil _ _, Below.refl _ _⟩
      case round =>
        obtain ⟨j, n2, hg, hj, hnj, rfl, hO, hB⟩ := hrel
        have HG2 := Lib.hid hg
        clear hg
        obtain ⟨av2, cv2, rfl⟩ := own_slice hO
        have hbs2 := hB.size
        by_cases hlt2 : j < k + 1
        · have y1 : (j : Int) < (k : Int) + 1 := by omega
          have y2 : (j : Int) < ((k + 1 : Nat) : Int) := by omega
          have y0 : (0 : Int) ≤ (j : Int) := by omega
          obtain ⟨bb, off, rfl, d1, _⟩ := (RP.below hB).row j hlt2
          rw [Pl.nums_at _ _ _ hlt2, mp_num HF.out] at d1
          have HR := Lib.hid (range_filter_snoc (mpb m f) j)
          by_cases hc : mpb m f j = true
          · rw [if_pos hc] at d1
            have HF2 : Hid (ints ((List.range (j + 1)).filter (mpb m f)) = ints ((List.range j).filter (mpb m f)) ++ [(j : Int)]) := by
              show _ = _
              rw [HR.out, if_pos hc, ints_snoc]
            clear HR hc
            go_wp2_with (at_builtin; refine wpList_append_own _ rfl _ _ 42 rfl W5.heap.size 3 i0 (.int .i64 0) 1 8 Tryd.underlying42 hi hz0 hz1 hz2 rfl (by decide) _ n2 _ rfl (World.ownsRow.alloc hO _) ⟨wr.heap.size, 0, none⟩ 1 1 [.int .i64 (j : Int)] rfl rfl (cell_one_new _ _ _) (ints_oneCell .i64 [_]) (by unfold maxLen; omega) (by omega) (by simp; omega) ?_; intro v7 w7 hown7 hgrow _)
            have ho7 : Own64 w7 W5.heap.size v7 (n2 + 1) (ints ((List.range (j + 1)).filter (mpb m f))) := by
              unfold Own64
              rw [HF2.out, ← cells64_append]
              exact hown7
            have b7 : Below W5.heap.size W5 w7 := (hB.alloc hbs2 _).grown hgrow (by simp; omega) (fun g hg => (hO.block g hg).1)
            clear hown7 hgrow hO hB
            go_wp2_with fail
            go_roundg (k + 1 - (j + 1))
            case measure => have := HG2.out; omega
            case rel => exact ⟨j + 1, n2 + 1, rfl, by omega, by omega, by go_num, ho7, b7⟩
          · rw [if_neg hc] at d1
            have HO2 : Hid (Own64 wr W5.heap.size (.slice av2 n2 cv2) n2 (ints ((List.range (j + 1)).filter (mpb m f)))) := by
              show Own64 _ _ _ _ _
              rw [HR.out, if_neg hc, List.append_nil]; exact hO
            clear HR hc hO
            go_wp2_with fail
            go_roundg (k + 1 - (j + 1))
            case measure => have := HG2.out; omega
            case rel => exact ⟨j + 1, n2, rfl, by omega, by omega, by go_num, HO2.out, hB⟩
        · obtain rfl : j = k + 1 := by omega
          obtain ⟨a9, c9, e9, hN⟩ := Bin.own_row (es := (List.range (k + 1)).filter (mpb m f)) hO
          simp only [Value.slice.injEq] at e9
          obtain ⟨rfl, _, rfl⟩ := e9
          have B3 := B2.trans (hB.mono B2.size)
          have HXP : Hid (Bin.xp ((List.range (k + 1)).filter (mpb m f)) = mpv m f) := by show _ = _; rw [xp_nb, HL.out]; rfl
          clear hO hB B2 RP hlt2
          go_wp2_with fail
          refine (Bin.rofV _ n2 _ _ wr hN (by omega) (fun e he => by have := List.mem_range.1 (List.mem_filter.1 he).1; omega)).mono ?_
          rintro e w8 ⟨a8, n8, c8, rfl, h8, b8⟩
          rw [HXP.out] at h8
          have HB8 := Lib.hid (B3.trans (b8.mono B3.size))
          have H8 : Hid (Bin.NewV w w8 300 a8 n8 c8 (mpv m f)) := by
            obtain ⟨X, h1, h2, h3, h4⟩ := h8
            exact ⟨X, h1.from B3.size, h2, h3, h4⟩
          clear h8 b8 B3 hN
          go_wp2_with fail
          go_ret
          exact ⟨a8, n8, c8, rfl, H8.out, HB8.out⟩
end
end Go.Proofs.YtnmallpimbpagaaDoor.Cos
/- The examples of chapter 5, as the statements ask them first of all; the field that a statement makes; Cosets. By the verifier of shale. -/
namespace Go.Proofs.YtnmallpimbpagaaDoor.Cos
open Go Go.RowKit Bin
set_option linter.unusedVariables false
theorem sameNV {w0 w1 w : World} {K K' : Nat} {a a' : Option Addr} {n c n' c' v v' : Nat} (h1 : NewV w0 w K a n c v) (h2 : NewV w1 w K' a' n' c' v') (e : v = v') :
    Calls Tryd.prog 17 #[.slice a n c, .slice a' n' c'] w fun e w' => e = .returned (.bool true) ∧ w = w' := by
  obtain ⟨X, p1, b1, e1, _⟩ := h1
  obtain ⟨Y, p2, b2, e2, _⟩ := h2
  have hXY : X = Y := bare_inj b1 b2 (by rw [e1, e2, e])
  refine (same_any X Y _ _ w (Str8.of p1.pol.arg.1) (Str8.of p2.pol.arg.1)).mono ?_
  rintro e w' ⟨rfl, rfl⟩
  exact ⟨by rw [decide_eq_true hXY], rfl⟩
theorem litB (w W : World) (Y : List (BitVec 8)) (k v : Nat) (hW : W = w.alloc (obj8 Y)) (hk : k = Y.length) (hm : k ≤ 1000) (hb : Bare Y) (hv : val Y = v) : NewV w W k (some ⟨w.heap.size, 0, none⟩) k k v ∧ Below w.heap.size w W := by
  subst hW
  exact ⟨⟨Y, ⟨hk, Nat.le_refl _, by unfold maxLen; omega, Or.inr ⟨_, rfl, Nat.le_refl _, buf_of_blk (Blk8.new w Y)⟩⟩, hb, hv, Nat.le_refl _⟩, (Below.refl _ _).alloc (Nat.le_refl _) _⟩
instance : Pl.Mid 4 := ⟨by decide, by decide⟩
theorem f1 : cos 4 (rs 4 5) = [5, 10] := by decide +kernel
theorem f2 : gpr 4 (leads 4 1 2 2) = 0x1d1 := by decide +kernel
theorem f3 : mpv 4 (rs 4 3) = 0x1f := by decide +kernel
theorem f4 : dgs 4 (leads 4 1 2 2) < sz 4 := by decide +kernel
theorem f5 : sz 4 ≤ dgs 4 (leads 4 1 2 8) := by decide +kernel
theorem bare1 : Bare [31#8] := fun _ => by decide
theorem bare2 : Bare [209#8, 1#8] := fun _ => by decide
/-- the m that a statement makes of any number. -/
def mk7 (z : Int) : Nat := (z % 7).toNat + 3
instance (z : Int) : Pl.Mid (mk7 z) := ⟨by unfold mk7; omega, by unfold mk7; omega⟩
theorem mk7_hi (z : Int) : mk7 z ≤ 9 := by unfold mk7; omega
theorem mk7_go (z : Int) : z.tmod 7 % 7 + 3 = (mk7 z : Int) := by
  unfold mk7
  have : z.tmod 7 % 7 = z % 7 := by rw [Int.tmod_eq_emod]; split <;> omega
  omega
def MadeAt (m : Nat) (w : World) (e : Ending) (w' : World) : Prop := ∃ s be ce bl, e = .returned (.tuple #[.pointer (some ⟨s, 0, none⟩), .int .i64 (m : Int)]) ∧ Fld.FldAt m w' s be ce bl ∧ Below w.heap.size w w'
def AllAt (m : Nat) (w : World) (e : Ending) (w' : World) : Prop := ∃ v n vs, e = .returned (.tuple #[v, .nilIface]) ∧ CRow w' w.heap.size m v n (leads m 0 1 (sz m)) vs ∧ Below w.heap.size w w'
end Go.Proofs.YtnmallpimbpagaaDoor.Cos
/- The reference's Generator. By the verifier of shale. -/
namespace Go.Proofs.YtnmallpimbpagaaDoor.Cos
open Go Go.RowKit Bin
set_option linter.unusedVariables false
set_option maxRecDepth 100000 in
set_option maxHeartbeats 400000 in
theorem rleast_m (a t : Int) (ha : a < 3 ∨ 14 < a) (w : World) :
    Calls Tryd.prog 49 #[.int .i64 a, .int .i64 t] w fun e w' => e = .returned (.tuple #[.int .i64 0, .slice none 0 0, .int .i64 101]) ∧ w = w' := by
  have t : decide (a < 3) = true ∨ (decide (a < 3) = false ∧ decide (14 < a) = true) := by
    by_cases h : a < 3
    · exact Or.inl (decide_eq_true h)
    · exact Or.inr ⟨decide_eq_false h, decide_eq_true (by omega)⟩
  clear ha
  rcases t with t1 | ⟨t1, t2⟩
  all_goals
    go_enter Tryd.func49, Tryd.ntmps49
    go_wp2_with fail
    go_ret3
    exact ⟨rfl, rfl⟩
set_option maxRecDepth 100000 in
set_option maxHeartbeats 400000 in
theorem rleast_t (a t : Int) (ha : 3 ≤ a ∧ a ≤ 14) (ht : t < 1 ∨ 40 < t) (w : World) :
    Calls Tryd.prog 49 #[.int .i64 a, .int .i64 t] w fun e w' => e = .returned (.tuple #[.int .i64 0, .slice none 0 0, .int .i64 102]) ∧ w = w' := by
  have b1 : decide (a < 3) = false := decide_eq_false (by omega)
  have b2 : decide (14 < a) = false := decide_eq_false (by omega)
  have t : decide (t < 1) = true ∨ (decide (t < 1) = false ∧ decide (40 < t) = true) := by
    by_cases h : t < 1
    · exact Or.inl (decide_eq_true h)
    · exact Or.inr ⟨decide_eq_false h, decide_eq_true (by omega)⟩
  clear ha ht
  rcases t with t1 | ⟨t1, t2⟩
  all_goals
    go_enter Tryd.func49, Tryd.ntmps49
    go_wp2_with fail
    go_ret3
    exact ⟨rfl, rfl⟩
section
variable {m : Nat} [M : Pl.Mid m]
theorem mpv_room {f : Nat} (hf : f < sz m) : mpv m f < room 2 := by
  have h1 := mpv_lt (m := m) f
  have h2 := cos_len_le M.lo hf
  have h3 := M.hi
  exact Nat.lt_of_lt_of_le h1 (Nat.pow_le_pow_right (by decide) (by omega))
def RGenAt (m : Nat) [M : Pl.Mid m] (t : Nat) (w : World) (e : Ending) (w' : World) : Prop :=
  (dgs m (leads m 1 2 t) < sz m ∧ ∃ a n c, e = .returned (.tuple #[.slice a n c, .int .i64 0]) ∧ NewV w w' 81 a n c (gpr m (leads m 1 2 t)) ∧ Below w.heap.size w w') ∨
  (sz m ≤ dgs m (leads m 1 2 t) ∧ e = .returned (.tuple #[.slice none 0 0, .int .i64 105]) ∧ Below w.heap.size w w')
set_option maxRecDepth 100000 in
set_option maxHeartbeats 1000000 in
theorem rgenerator_any (t : Nat) (ht1 : 1 ≤ t) (ht2 : t ≤ 40) (w : World) :
    Calls Tryd.prog 50 #[.int .i64 (m : Int), .int .i64 (t : Int)] w (RGenAt m t w) := by
  go_enter Tryd.func50, Tryd.ntmps50
  go_wp2_with fail
  refine (rleast_any m t M.lo M.hi ht1 ht2 w).mono ?_
  rintro e w1 (⟨hd, a1, n1, c1, rfl, R, B⟩ | ⟨hd, rfl, B⟩)
  rotate_left
  · have HD := Lib.hid hd
    clear hd
    go_wp2_with fail
    go_ret2
    exact Or.inr ⟨HD.out, rfl, B⟩
  · have hl : n1 = (leadsI m t).length := by have := R.hlen; rwa [ints_length] at this
    have hnm : n1 ≤ 40 := by rw [hl, leadsI_len]; have := leads_le m 1 2 t; omega
    have HL := Lib.hid hl
    have HD := Lib.hid hd
    clear hd hl
    go_wp2_with fail
    generalize hw : w1.alloc (.cells #[.int .u8 1] 5 (0, 0)) = w2
    obtain ⟨h1, b⟩ := litB w1 w2 [1#8] 1 1 hw.symm rfl (by decide) (fun _ => by decide) (by decide)
    clear hw
    have HG : Hid (NewV w w2 1 (some ⟨w1.heap.size, 0, none⟩) 1 1 (gpr m (((leadsI m t).map (· % sz m)).take 0))) := newV_from h1 B.size
    have HS : Hid (Pl.RowZ w2 a1 n1 c1 (ints (leadsI m t)) ∧ Below w.heap.size w w2) := ⟨R.below b, B.trans (b.mono B.size)⟩
    generalize (some ⟨w1.heap.size, 0, none⟩ : Option Addr) = ag at HG ⊢
    clear h1 b R B
    go_loopg [9, 10] n1 (fun gh s9 s10 wx => ∃ (k : Nat) (ax : Option Addr) (nx cx : Nat), gh = n1 - k ∧ k ≤ n1 ∧ s10 = .int .i64 (k : Int) ∧ s9 = .slice ax nx cx ∧ Hid (NewV w wx (1 + 2 * k) ax nx cx (gpr m (((leadsI m t).map (· % sz m)).take k))) ∧ Hid (Pl.RowZ wx a1 n1 c1 (ints (leadsI m t)) ∧ Below w.heap.size w wx))
    case atStart => exact ⟨0, ag, 1, 1, rfl, Nat.zero_le _, rfl, rfl, HG, HS⟩
    case round =>
      clear HG HS
      obtain ⟨k, ax, nx, cx, hg, hk, rfl, rfl, HP, HS⟩ := hrel
      have HGh := Lib.hid hg
      clear hg
      by_cases hlt : k < n1
      · have x1 : (k : Int) < (n1 : Int) := by omega
        have x0 : (0 : Int) ≤ (k : Int) := by omega
        have hkl : k < (leadsI m t).length := by rw [← HL.out]; exact hlt
        obtain ⟨bb, off, rfl, d1, _⟩ := HS.out.1.row k hlt
        obtain ⟨u, hu⟩ : ∃ u, u = (leadsI m t).getD k 0 := ⟨_, rfl⟩
        have eu : (ints (leadsI m t)).getD k 0 = (u : Int) := by
          rw [hu]
          unfold Cos.ints
          rw [List.getD_eq_getElem?_getD, List.getElem?_map, List.getD_eq_getElem?_getD, List.getElem?_eq_getElem hkl]; rfl
        rw [eu] at d1
        have hrs : rs m (u : Int) = u % sz m := by unfold rs; rw [← Int.natCast_emod]; exact Int.toNat_natCast _
        have hum : ((leadsI m t).map (· % sz m)).getD k 0 = u % sz m := by
          rw [hu, List.getD_eq_getElem?_getD, List.getElem?_map, List.getD_eq_getElem?_getD, List.getElem?_eq_getElem hkl]; rfl
        have HT : Hid (gpr m (((leadsI m t).map (· % sz m)).take (k + 1)) = pm (gpr m (((leadsI m t).map (· % sz m)).take k)) (mpv m (u % sz m))) := by
          show _ = _
          rw [take_snocN _ k (by rw [List.length_map]; exact hkl), gpr_snoc, hum]
        have hus : u % sz m < sz m := Nat.mod_lt _ (by have := sz_lo M.lo; omega)
        have HX := Lib.hid hrs
        have HRm := Lib.hid (mpv_room (m := m) hus)
        clear hu eu hrs hum hus hkl
        go_wp2_with fail
        refine (rminimal_any (m := m) (u : Int) wr).mono ?_
        rintro e w5 ⟨a5, n5, c5, rfl, h5, b5⟩
        rw [HX.out] at h5
        have P2 := (NewV.fit h5 HRm.out).pol
        have P1 := (newV_since HP.out b5).pol
        have HS5 : Hid (Pl.RowZ w5 (some ⟨bb, off, none⟩) n1 c1 (ints (leadsI m t)) ∧ Below w.heap.size w w5) := ⟨HS.out.1.below b5, HS.out.2.trans (b5.mono HS.out.2.size)⟩
        clear HP HS h5 b5 d1
        go_wp2_with fail
        refine (rmulV (1 + 2 * (k + 1)) P1 P2 (by omega) (by decide) (by omega)).mono ?_
        rintro e w6 ⟨a6, n6, c6, rfl, h6, b6⟩
        have HP6 : Hid (NewV w w6 (1 + 2 * (k + 1)) a6 n6 c6 (gpr m (((leadsI m t).map (· % sz m)).take (k + 1)))) := by
          show NewV _ _ _ _ _ _ _
          rw [HT.out]
          exact newV_from h6 HS5.out.2.size
        have HS6 : Hid (Pl.RowZ w6 (some ⟨bb, off, none⟩) n1 c1 (ints (leadsI m t)) ∧ Below w.heap.size w w6) := ⟨HS5.out.1.below b6, HS5.out.2.trans (b6.mono HS5.out.2.size)⟩
        clear HS5 h6 b6 P1 P2
        go_wp2_with fail
        go_roundg (n1 - (k + 1))
        case measure => have := HGh.out; omega
        case rel => exact ⟨k + 1, a6, n6, c6, rfl, by omega, by go_num, rfl, HP6, HS6⟩
      · obtain rfl : k = n1 := by omega
        have HF : Hid (NewV w wr 81 ax nx cx (gpr m (leads m 1 2 t))) := by
          have h := newV_more HP.out (by omega : 1 + 2 * k ≤ 81)
          rwa [List.take_of_length_le (by rw [List.length_map, HL.out]; exact Nat.le_refl _), leadsI_map] at h
        go_wp2_with fail
        go_ret2
        exact Or.inl ⟨HD.out, ax, nx, cx, rfl, HF.out, HS.out.2⟩
end
end Go.Proofs.YtnmallpimbpagaaDoor.Cos
/- The walks over the reference's codes: New, Parity, Bits. By the verifier of shale. -/
namespace Go.Proofs.YtnmallpimbpagaaDoor.Enc
open Go Go.RowKit Bin Cos
set_option linter.unusedVariables false
/-- the reference's code as plain data. -/
abbrev cdV (m t n : Nat) (ga : Option Addr) (gn gc D : Nat) : Value := .agg #[.int .i64 (m : Int), .int .i64 (t : Int), .int .i64 (n : Int), .slice ga gn gc, .int .i64 (D : Int)]
abbrev cdZ : Value := .agg #[.int .i64 0, .int .i64 0, .int .i64 0, .slice none 0 0, .int .i64 0]
def cdO (a b c d e : Value) : Obj := .cells #[a, b, c, d, e] 26 (0, 0)
theorem cd_cells {w : World} {s : Nat} {a b c d e : Value} (h : w.heap[s]? = some (cdO a b c d e)) :
    w.cell? ⟨s, 0, none⟩ = some a ∧ w.cell? ⟨s, 1, none⟩ = some b ∧ w.cell? ⟨s, 2, none⟩ = some c ∧ w.cell? ⟨s, 3, none⟩ = some d ∧ w.cell? ⟨s, 4, none⟩ = some e ∧ ∀ i, w.frozen? ⟨s, i, none⟩ = false := by
  refine ⟨?_, ?_, ?_, ?_, ?_, ?_⟩
  all_goals first | (unfold World.cell?; simp only; rw [h]; rfl) | (intro i; unfold World.frozen?; simp only; rw [h]; unfold cdO; simp)
theorem newV_only {w0 w w' : World} {K : Nat} {a : Option Addr} {n c v s : Nat} (h : NewV w0 w K a n c v) (o : Only s w w') (hs : s < w0.heap.size) : NewV w0 w' K a n c v := by
  obtain ⟨X, h1, h2, h3, h4⟩ := h
  refine ⟨X, ⟨h1.hlen, h1.hcap, h1.hmost, ?_⟩, h2, h3, h4⟩
  rcases h1.own with h | ⟨g, e, hg, hx⟩
  · exact Or.inl h
  · exact Or.inr ⟨g, e, hg, buf_only hx o (by omega)⟩
section
variable {m : Nat} [M : Pl.Mid m]
def RMadeAt (m t n : Nat) [M : Pl.Mid m] (w : World) (e : Ending) (w' : World) : Prop := ∃ ga gn gc, e = .returned (.tuple #[cdV m t n ga gn gc (deg m t), .int .i64 0]) ∧ NewV w w' 81 ga gn gc (gen m t) ∧ Below w.heap.size w w'
set_option maxRecDepth 100000 in
set_option maxHeartbeats 1000000 in
theorem rnew_any {t n : Nat} (H : May m t n) (w : World) :
    Calls Tryd.prog 32 #[.int .i64 (m : Int), .int .i64 (t : Int), .int .i64 (n : Int)] w (RMadeAt m t n w) := by
  have ho := Fld.shl_one m M.hi
  have hn7 := sz_lo M.lo
  have hn2 := sz_hi M.hi
  have hw : IntKind.i64.wrap ((Fld.els m : Int) - 1) = (sz m : Int) := by
    have : (Fld.els m : Int) - 1 = (sz m : Int) := by unfold Fld.els sz; have := Nat.two_pow_pos m; omega
    rw [this]; exact IntWalk.i64_in _ (by omega)
  have hm1 := M.lo
  have hm14 := M.hi
  have m0 : (0 : Int) ≤ (m : Int) := by omega
  have m64 : (m : Int) ≤ 14 := by omega
  have n1 : ¬ (n : Int) < 1 := by have := H.n1; omega
  have n2 : ¬ (2048 : Int) < (n : Int) := by have := H.n2; omega
  have n3 : n ≤ 2048 := H.n2
  have hD2 := deg_560 (m := m) H.t2
  obtain ⟨D, hD⟩ : ∃ D, D = deg m t := ⟨_, rfl⟩
  have HDE := Lib.hid hD
  rw [← hD] at hD2
  have hroom : ¬ (sz m : Int) < 8 * (n : Int) + (D : Int) := by have := H.room; omega
  obtain ⟨N, hN⟩ : ∃ N, N = sz m := ⟨_, rfl⟩
  have HNE := Lib.hid hN
  rw [← hN] at hw hn7 hn2 hroom
  have HH := Lib.hid H
  have b0 : Below w.heap.size w (w.alloc (cdO (.int .i64 0) (.int .i64 0) (.int .i64 0) (.slice none 0 0) (.int .i64 0))) := (Below.refl _ _).alloc (Nat.le_refl _) _
  have hz : w.heap.size < (w.alloc (cdO (.int .i64 0) (.int .i64 0) (.int .i64 0) (.slice none 0 0) (.int .i64 0))).heap.size := by simp
  have hblk : (w.alloc (cdO (.int .i64 0) (.int .i64 0) (.int .i64 0) (.slice none 0 0) (.int .i64 0))).heap[w.heap.size]? = some (cdO (.int .i64 0) (.int .i64 0) (.int .i64 0) (.slice none 0 0) (.int .i64 0)) := heap_alloc_new w _
  have HI := Lib.hid (And.intro b0 (And.intro hz hblk))
  clear hD hN H b0 hz hblk
  go_enter Tryd.func32, Tryd.ntmps32
  go_wp2_with fail
  obtain ⟨b0, hz, hblk⟩ := HI.out
  clear HI
  rw [show Obj.cells #[Value.int IntKind.i64 0, Value.int IntKind.i64 0, Value.int IntKind.i64 0, Value.slice none 0 0, Value.int IntKind.i64 0] 26 (0, 0) = cdO (.int .i64 0) (.int .i64 0) (.int .i64 0) (.slice none 0 0) (.int .i64 0) from rfl]
  generalize w.alloc (cdO (.int .i64 0) (.int .i64 0) (.int .i64 0) (.slice none 0 0) (.int .i64 0)) = w0 at b0 hz hblk ⊢
  refine (rleast_any m t M.lo M.hi HH.out.t1 HH.out.t2 w0).mono ?_
  rintro e w1 (⟨hd, a1, n1', c1, rfl, R, B⟩ | ⟨hd, rfl, B⟩)
  rotate_left
  · exact absurd hd (by have := HH.out.least; unfold deg at this; omega)
  rw [show dgs m (leads m 1 2 t) = D from HDE.out.symm]
  have B1 := b0.trans (B.mono b0.size)
  have hb1 := (B.block _ hz).trans hblk
  have hz1 := Nat.lt_of_lt_of_le hz B.size
  clear hd R B b0 hblk hz
  go_wp2_with fail
  refine (rgenerator_any (m := m) t HH.out.t1 HH.out.t2 w1).mono ?_
  rintro e w2 (⟨hd, ga, gn, gc, rfl, hG, b⟩ | ⟨hd, rfl, b⟩)
  rotate_left
  · exact absurd hd (by have := HH.out.least; unfold deg at this; omega)
  have hb2 := (b.block _ hz1).trans hb1
  obtain ⟨c0, c1, c2, c3, c4, cf⟩ := cd_cells hb2
  have HG := Lib.hid (And.intro hG (B1.trans (b.mono B1.size)))
  have hz2 := Nat.lt_of_lt_of_le hz1 b.size
  have hs1 := Nat.le_of_lt hz1
  clear hd hG b B1 hb1 hb2
  go_wp2_with fail
  obtain ⟨hG, B2⟩ := HG.out
  have e5 := HDE.out
  have o5 := ((((Only.setCell w2 ⟨w.heap.size, 0, none⟩ (.int .i64 (m : Int))).trans (Only.setCell _ ⟨w.heap.size, 1, none⟩ (.int .i64 (t : Int)))).trans (Only.setCell _ ⟨w.heap.size, 2, none⟩ (.int .i64 (n : Int)))).trans (Only.setCell _ ⟨w.heap.size, 3, none⟩ (.slice ga gn gc))).trans (Only.setCell _ ⟨w.heap.size, 4, none⟩ (.int .i64 (D : Int)))
  exact bodyPost_ret (v := .tuple #[cdV m t n ga gn gc D, .int .i64 0]) (by simp [results, Tryd.results32, go_sem, c0, c1, c2, c3, c4]) rfl ⟨ga, gn, gc, by rw [← e5], newV_from (newV_only hG o5 hz1) hs1, B2.trans (o5.below (Nat.le_refl _))⟩
end
end Go.Proofs.YtnmallpimbpagaaDoor.Enc
/- The walk over the reference's Serial. By the verifier of shale. -/
namespace Go.Proofs.YtnmallpimbpagaaDoor.Enc
open Go Go.RowKit Bin Cos
set_option linter.unusedVariables false
set_option maxRecDepth 100000 in
theorem rBit {w : World} {k : Nat} {a : Option Addr} {n c u : Nat} (h : PolV w k a n c u) (d : Nat) (hd : d ≤ 1000000) :
    Calls Tryd.prog 37 #[.slice a n c, .int .i64 (d : Int)] w fun e w' => e = .returned (.int .i64 (bz (u.testBit d))) ∧ w = w' := by
  obtain ⟨X, p1, rfl, n1⟩ := h
  have HP := Lib.hid p1
  have HB := Lib.hid (bitZ_bz X d)
  clear p1
  go_enter Tryd.func37, Tryd.ntmps37
  go_wp2_with fail
  refine (rbit_any a n c X (d : Int) w HP.out (by omega)).mono ?_
  rintro e w1 ⟨rfl, rfl⟩
  rw [HB.out]
  go_wp2_with fail
  go_ret
  exact ⟨rfl, rfl⟩
theorem bz_mul (a b : Bool) : bz a * bz b = bz (a && b) := by cases a <;> cases b <;> rfl
/-- what the reference's step makes of bit j. -/
def stp (R G : Nat) (tp : Bool) (j : Nat) : Bool := (decide (0 < j) && R.testBit (j - 1)) ^^ (tp && G.testBit j)
theorem ser_bit {G D R b : Nat} (hD : 1 ≤ D) (hl : R < 2 ^ D) (hb : b < 2) (j : Nat) (hj : j < D) :
    (((R <<< 1) % 2 ^ D) ^^^ (if (R >>> (D - 1)) ^^^ b = 0 then 0 else low G D)).testBit j = stp R G (R.testBit (D - 1) ^^ decide (b = 1)) j := by
  have h1 : R >>> (D - 1) = if R.testBit (D - 1) then 1 else 0 := by
    have hlt : R >>> (D - 1) < 2 := by
      rw [Nat.shiftRight_eq_div_pow]
      apply Nat.div_lt_of_lt_mul
      rw [← Nat.pow_succ, show (D - 1).succ = D by omega]; exact hl
    have ht : (R >>> (D - 1)).testBit 0 = R.testBit (D - 1) := by rw [Nat.testBit_shiftRight]; rfl
    rw [← ht, Nat.testBit_zero]
    generalize R >>> (D - 1) = q at hlt
    rcases (by omega : q = 0 ∨ q = 1) with e | e <;> rw [e] <;> rfl
  have hs : ((R <<< 1) % 2 ^ D).testBit j = (decide (0 < j) && R.testBit (j - 1)) := by
    rw [Nat.testBit_mod_two_pow, Nat.testBit_shiftLeft]
    simp [hj]
    rfl
  rw [Nat.testBit_xor, hs, h1]
  unfold stp
  congr 1
  have hlow : (low G D).testBit j = G.testBit j := by unfold low; rw [Nat.testBit_mod_two_pow]; simp [hj]
  cases R.testBit (D - 1) <;> rcases (by omega : b = 0 ∨ b = 1) with rfl | rfl <;> simp [hlow]
/-- bits as ints. -/
def bf (n : Nat) (f : Nat → Bool) : List Int := (List.range n).map fun i => bz (f i)
theorem bf_length (n : Nat) (f : Nat → Bool) : (bf n f).length = n := by simp [bf]
theorem bf_at (n : Nat) (f : Nat → Bool) (i : Nat) (h : i < n) : nth64 (bf n f) i = bz (f i) := by
  unfold nth64 bf
  rw [List.getD_eq_getElem?_getD, List.getElem?_map, List.getElem?_range h]; rfl
theorem bf_set (n : Nat) (f : Nat → Bool) (i : Nat) (v : Bool) : (bf n f).set i (bz v) = bf n (fun j => if j = i then v else f j) := by
  apply List.ext_getElem
  · simp [bf]
  · intro j h1 h2
    rw [List.getElem_set]
    simp only [bf, List.getElem_map, List.getElem_range]
    by_cases h : i = j
    · subst h; simp
    · rw [if_neg h, if_neg (Ne.symm h)]
theorem bf_ext {n : Nat} {f g : Nat → Bool} (h : ∀ j, j < n → f j = g j) : bf n f = bf n g := by
  apply List.ext_getElem
  · simp [bf]
  · intro j h1 h2
    simp only [bf, List.getElem_map, List.getElem_range]
    rw [h j (by simpa [bf] using h1)]
theorem bf_zero (n : Nat) : List.replicate n 0 = bf n fun _ => false := by
  apply List.ext_getElem
  · simp [bf]
  · intro i h1 h2; simp [bf, bz]
theorem nb_self {R D : Nat} (h : R < 2 ^ D) : nb (fun i => R.testBit i) D = R := by
  apply Nat.eq_of_testBit_eq
  intro i
  rw [nb_bit]
  by_cases hi : i < D
  · simp [hi]
  · rw [Nat.testBit_lt_two_pow (Nat.lt_of_lt_of_le h (Nat.pow_le_pow_right (by decide) (by omega)))]; simp [hi]
theorem shr_step (V i : Nat) : V >>> i = (V >>> (i + 1)) <<< 1 ^^^ (V >>> i) % 2 := by
  have h := split_at (V >>> i) 1
  rw [show V >>> (i + 1) = (V >>> i) >>> 1 from Nat.shiftRight_add V i 1, Nat.xor_comm]
  exact h
set_option maxRecDepth 100000 in
set_option maxHeartbeats 400000 in
theorem rparity_any (m t n : Nat) (ga : Option Addr) (gn gc D : Nat) (hD : D ≤ 1000) (w : World) :
    Calls Tryd.prog 16 #[cdV m t n ga gn gc D] w fun e w' => e = .returned (.int .i64 (pb D : Int)) ∧ Below w.heap.size w w' := by
  have b0 : Below w.heap.size w (w.alloc (cdO (.int .i64 (m : Int)) (.int .i64 (t : Int)) (.int .i64 (n : Int)) (.slice ga gn gc) (.int .i64 (D : Int)))) := (Below.refl _ _).alloc (Nat.le_refl _) _
  obtain ⟨P, hP⟩ : ∃ P, P = pb D := ⟨_, rfl⟩
  have hP2 : P = (D + 7) / 8 := hP
  rw [← hP]
  have q0 : ((D : Int) + 7).tdiv 8 = (P : Int) := by rw [Int.tdiv_eq_ediv_of_nonneg (by omega)]; omega
  have q00 : ((D : Int) + 7) / 8 = (P : Int) := by omega
  clear hP hP2
  go_enter Tryd.func16, Tryd.ntmps16
  go_wp2_with fail
  go_ret
  exact ⟨rfl, b0⟩
set_option maxRecDepth 100000 in
set_option maxHeartbeats 400000 in
theorem rbits_any (m t n : Nat) (ga : Option Addr) (gn gc D : Nat) (hD : D ≤ 1000) (hn : n ≤ 2048) (w : World) :
    Calls Tryd.prog 19 #[cdV m t n ga gn gc D] w fun e w' => e = .returned (.int .i64 ((8 * n + D : Nat) : Int)) ∧ Below w.heap.size w w' := by
  have b0 : Below w.heap.size w (w.alloc (cdO (.int .i64 (m : Int)) (.int .i64 (t : Int)) (.int .i64 (n : Int)) (.slice ga gn gc) (.int .i64 (D : Int)))) := (Below.refl _ _).alloc (Nat.le_refl _) _
  have e1 : 8 * (n : Int) + (D : Int) = ((8 * n + D : Nat) : Int) := by omega
  rw [← e1]
  clear e1
  go_enter Tryd.func19, Tryd.ntmps19
  go_wp2_with fail
  go_ret
  exact ⟨rfl, b0⟩
/-- what the reference's inner loop has made of the bits: those above i are moved. -/
def sti (R G : Nat) (tp : Bool) (i j : Nat) : Bool := if i < j then stp R G tp j else R.testBit j
set_option maxRecDepth 100000 in
set_option maxHeartbeats 2000000 in
theorem rserial_any (m t n : Nat) (ga : Option Addr) (gn gc D G : Nat) (hg : Deg G D) (hD : 1 ≤ D) (hD2 : D ≤ 1000) (hn : n ≤ 2048) (w : World) (hG : PolV w 81 ga gn gc G) (a : Option Addr) (cap : Nat) (l : List (BitVec 8)) (hl : Pol w a n cap l) :
    Calls Tryd.prog 15 #[cdV m t n ga gn gc D, .slice a n cap] w fun e w' => ∃ g, e = .returned (.slice (some ⟨g, 0, none⟩) (pb D) (pb D)) ∧ Blk8 w' g (byN (prt G D (val l)) (pb D)) ∧ Below w.heap.size w w' ∧ w.heap.size ≤ g := by
  have b0 : Below w.heap.size w (w.alloc (cdO (.int .i64 (m : Int)) (.int .i64 (t : Int)) (.int .i64 (n : Int)) (.slice ga gn gc) (.int .i64 (D : Int)))) := (Below.refl _ _).alloc (Nat.le_refl _) _
  have hblk : (w.alloc (cdO (.int .i64 (m : Int)) (.int .i64 (t : Int)) (.int .i64 (n : Int)) (.slice ga gn gc) (.int .i64 (D : Int)))).heap[w.heap.size]? = some (cdO (.int .i64 (m : Int)) (.int .i64 (t : Int)) (.int .i64 (n : Int)) (.slice ga gn gc) (.int .i64 (D : Int))) := heap_alloc_new w _
  have hsz0 : (w.alloc (cdO (.int .i64 (m : Int)) (.int .i64 (t : Int)) (.int .i64 (n : Int)) (.slice ga gn gc) (.int .i64 (D : Int)))).heap.size = w.heap.size + 1 := by simp
  obtain ⟨V, hV⟩ : ∃ V, V = val l := ⟨_, rfl⟩
  have hX : PolV w 3000 a n cap V := ⟨l, hl, hV.symm, by omega⟩
  have hVl : V >>> (8 * n) = 0 := by
    rw [Nat.shiftRight_eq_div_pow]
    apply Nat.div_eq_of_lt
    have := val_lt l
    rw [← hl.hlen] at this
    rw [hV]; exact this
  rw [← hV]
  have hmk := fun w => made64 w D (by omega)
  have HI := Lib.hid (And.intro b0 (And.intro hblk (And.intro hsz0 (And.intro hG hX))))
  clear b0 hblk hsz0 hG hX hV hl
  go_enter Tryd.func15, Tryd.ntmps15
  go_wp2_with fail
  obtain ⟨b0, hblk, hsz0, hG, hX⟩ := HI.out
  clear HI hmk
  rw [show Obj.cells #[Value.int IntKind.i64 (m : Int), Value.int IntKind.i64 (t : Int), Value.int IntKind.i64 (n : Int), Value.slice ga gn gc, Value.int IntKind.i64 (D : Int)] 26 (0, 0) = cdO (.int .i64 (m : Int)) (.int .i64 (t : Int)) (.int .i64 (n : Int)) (.slice ga gn gc) (.int .i64 (D : Int)) from rfl]
  generalize w.alloc (cdO (.int .i64 (m : Int)) (.int .i64 (t : Int)) (.int .i64 (n : Int)) (.slice ga gn gc) (.int .i64 (D : Int))) = w0 at b0 hblk hsz0 ⊢
  obtain ⟨bx, hbx⟩ : ∃ bx, bx = w.heap.size := ⟨_, rfl⟩
  obtain ⟨gb, hgb⟩ : ∃ gb, gb = w.heap.size + 1 := ⟨_, rfl⟩
  have hR1 : Blk64 (w0.alloc (obj64 (List.replicate D 0))) w0.heap.size (List.replicate D 0) := Blk64.new w0 _
  have bA : Below w0.heap.size w0 (w0.alloc (obj64 (List.replicate D 0))) := (Below.refl _ _).alloc (Nat.le_refl _) _
  generalize w0.alloc (obj64 (List.replicate D 0)) = w1 at hR1 bA ⊢
  rw [hsz0, ← hgb] at hR1 bA
  rw [← hgb]
  rw [← hbx] at hblk b0 hsz0 hgb ⊢
  have hblk1 := (bA.block bx (by omega)).trans hblk
  have bB : Below bx w w1 := b0.trans (bA.mono (by omega))
  have hlt : bx < gb := by omega
  have HBX := Lib.hid hbx
  have HS0 : Hid (Blk64 w1 gb (bf D fun j => (prt G D (V >>> (8 * n))).testBit j) ∧ w1.heap[bx]? = some (cdO (.int .i64 (m : Int)) (.int .i64 (t : Int)) (.int .i64 (n : Int)) (.slice ga gn gc) (.int .i64 (D : Int))) ∧ Below bx w w1) := by
    refine ⟨?_, hblk1, bB⟩
    rw [hVl, prt_zero hg]
    have e : bf D (fun j => (0 : Nat).testBit j) = List.replicate D 0 := by rw [bf_zero]; exact bf_ext fun j _ => by simp
    rw [e]; exact hR1
  have HG := Lib.hid hG
  have HX := Lib.hid hX
  obtain ⟨c0, c1, c2, c3, c4, cf⟩ := cd_cells hblk1
  clear b0 hblk hsz0 hG hX hbx hgb hR1 bA hblk1 bB c0 c1 c2 c3 c4 cf
  go_loopg [6] (8 * n) (fun gh s6 wx => ∃ (J : Nat), gh = J ∧ J ≤ 8 * n ∧ s6 = .int .i64 ((J : Int) - 1) ∧ Hid (Blk64 wx gb (bf D fun j => (prt G D (V >>> J)).testBit j) ∧ wx.heap[bx]? = some (cdO (.int .i64 (m : Int)) (.int .i64 (t : Int)) (.int .i64 (n : Int)) (.slice ga gn gc) (.int .i64 (D : Int))) ∧ Below bx w wx))
  case atStart => exact ⟨8 * n, rfl, Nat.le_refl _, by congr 1, HS0⟩
  case round =>
    clear HS0
    obtain ⟨J, hgh, hJ, rfl, HS⟩ := hrel
    have HGh := Lib.hid hgh
    clear hgh
    by_cases hlt0 : 0 < J
    · obtain ⟨i, rfl⟩ : ∃ i, J = i + 1 := ⟨J - 1, by omega⟩
      have ei : ((i + 1 : Nat) : Int) - 1 = (i : Int) := by omega
      have ei2 : ((i : Int) + 1) - 1 = (i : Int) := by omega
      have x0 : (0 : Int) ≤ (i : Int) := by omega
      obtain ⟨R, hRe⟩ : ∃ R, R = prt G D (V >>> (i + 1)) := ⟨_, rfl⟩
      have hl := prt_lt hg (V >>> (i + 1))
      have hPB := prt_bit hg hD (V >>> (i + 1)) ((V >>> i) % 2) (Nat.mod_lt _ (by decide))
      rw [← shr_step, ← hRe] at hPB
      rw [← hRe] at HS hl
      have HPB := Lib.hid hPB
      have hb2 := ser_bit (b := (V >>> i) % 2) (G := G) hD hl (Nat.mod_lt _ (by decide))
      rw [← hPB] at hb2
      have htb : decide ((V >>> i) % 2 = 1) = V.testBit i := by
        have : (V >>> i).testBit 0 = V.testBit i := by rw [Nat.testBit_shiftRight]; rfl
        rw [← this, Nat.testBit_zero]
      rw [htb] at hb2
      obtain ⟨tp, htp⟩ : ∃ tp, tp = (R.testBit (D - 1) ^^ V.testBit i) := ⟨_, rfl⟩
      rw [← htp] at hb2
      have HB2 := Lib.hid hb2
      obtain ⟨D', hD'⟩ : ∃ D', D = D' + 1 := ⟨D - 1, by omega⟩
      have eD : (D : Int) - 1 = (D' : Int) := by omega
      have y0 : (0 : Int) ≤ (D' : Int) := by omega
      have y1 : (D' : Int) < (D : Int) := by omega
      obtain ⟨hR, hbl, hB⟩ := HS.out
      obtain ⟨c0, c1, c2, c3, c4, cf⟩ := cd_cells hbl
      have d1 := hR.cell (i := D') (by rw [bf_length]; omega)
      rw [bf_at _ _ _ (by omega)] at d1
      have hx := bz_xor (R.testBit D') (V.testBit i)
      rw [show (R.testBit D' ^^ V.testBit i) = tp by rw [htp, show D - 1 = D' by omega]] at hx
      have HXr : Hid (∀ nn, Calls Tryd.prog 37 #[.slice a n cap, .int .i64 (i : Int)] (wr.drewN nn) fun e w' => e = .returned (.int .i64 (bz (V.testBit i))) ∧ wr.drewN nn = w') := by
        intro nn
        have hBw : Below w.heap.size w wr := by rw [← HBX.out]; exact hB
        exact rBit ((HX.out.below hBw).below ((Drawn.mk wr nn).below _)) i (by omega)
      have HI : Hid (i + 1 ≤ 8 * n) := hJ
      have HD' := Lib.hid hD'
      generalize bz (V.testBit i) = vb at hx HXr
      generalize bz (R.testBit D') = rb at hx d1
      clear hRe hPB hb2 htb htp hD' hR hbl hB c0 c1 c2 c3 cf hl
      go_wp2_with fail
      go_quiet ((go_at_call 37; exact quiet_same (HXr.out _)))
      have hdn := Drawn.mk wr nq
      obtain ⟨w2, hw2⟩ : ∃ w2, w2 = wr.drewN nq := ⟨_, rfl⟩
      rw [← hw2] at hdn ⊢
      have HS2 : Hid (Blk64 w2 gb (bf D fun j => R.testBit j) ∧ w2.heap[bx]? = some (cdO (.int .i64 (m : Int)) (.int .i64 (t : Int)) (.int .i64 (n : Int)) (.slice ga gn gc) (.int .i64 (D : Int))) ∧ Below bx w w2) := by
        obtain ⟨hR, hbl, hB⟩ := HS.out
        exact ⟨((hdn.below wr.heap.size).block gb (lt_of_block hR)).trans hR, ((hdn.below wr.heap.size).block bx (lt_of_block hbl)).trans hbl, hB.trans (hdn.below bx)⟩
      have c4 := (cd_cells HS2.out.2.1).2.2.2.2.1
      clear hw2 hdn HXr d1 HS
      go_wp2_with fail
      clear c4
      have HS3 : Hid (Blk64 w2 gb (bf D (sti R G tp D')) ∧ w2.heap[bx]? = some (cdO (.int .i64 (m : Int)) (.int .i64 (t : Int)) (.int .i64 (n : Int)) (.slice ga gn gc) (.int .i64 (D : Int))) ∧ Below bx w w2) := by
        refine ⟨?_, HS2.out.2⟩
        have e : bf D (sti R G tp D') = bf D fun j => R.testBit j := bf_ext fun j hj => by unfold sti; rw [if_neg (by have := HD'.out; omega)]
        rw [e]; exact HS2.out.1
      clear HS2
      obtain ⟨tv, htv⟩ : ∃ tv, tv = bz tp := ⟨_, rfl⟩
      rw [← htv, ei]
      have HTV := Lib.hid htv
      clear htv
      go_loopg [8] D' (fun gh s8 wx => ∃ (k : Nat), gh = k ∧ k + 1 ≤ D ∧ s8 = .int .i64 (k : Int) ∧ Hid (Blk64 wx gb (bf D (sti R G tp k)) ∧ wx.heap[bx]? = some (cdO (.int .i64 (m : Int)) (.int .i64 (t : Int)) (.int .i64 (n : Int)) (.slice ga gn gc) (.int .i64 (D : Int))) ∧ Below bx w wx))
      case atStart => exact ⟨D', rfl, by have := HD'.out; omega, rfl, HS3⟩
      case round =>
        clear HS3
        obtain ⟨k, hgh, hk, rfl, HS⟩ := hrel
        have HGk := Lib.hid hgh
        clear hgh
        by_cases hlt1 : 0 < k
        · obtain ⟨k', hk'⟩ : ∃ k', k = k' + 1 := ⟨k - 1, by omega⟩
          have z1 : (0 : Int) < (k : Int) := by omega
          have z0 : (0 : Int) ≤ (k : Int) := by omega
          have ek : (k : Int) - 1 = (k' : Int) := by omega
          have z2 : (0 : Int) ≤ (k' : Int) := by omega
          have z3 : (k' : Int) < (D : Int) := by omega
          have z4 : (k : Int) < (D : Int) := by omega
          have ik : IntKind.i64.wrap (k' : Int) = (k' : Int) := IntWalk.i64_in _ (by omega)
          have HK := Lib.hid hk'
          clear hk'
          go_wp2_with fail
          refine wp_region_still_tail 15 (by kernel_rfl) (by kernel_rfl) ?_
          simp only [List.take_succ_cons, List.take_zero, List.drop_succ_cons, List.drop_zero]
          change wpStill _ _ wr.drew (fun a' => wpList _ _ _ _ a' wr.drew) _ _
          have HSd : Hid (Blk64 wr.drew gb (bf D (sti R G tp k)) ∧ wr.drew.heap[bx]? = some (cdO (.int .i64 (m : Int)) (.int .i64 (t : Int)) (.int .i64 (n : Int)) (.slice ga gn gc) (.int .i64 (D : Int))) ∧ Below bx w wr.drew) := ⟨HS.out.1, HS.out.2.1, HS.out.2.2.drew⟩
          clear HS
          generalize wr.drew = w4 at HSd ⊢
          obtain ⟨hR, hbl, hB⟩ := HSd.out
          obtain ⟨c0, c1, c2, c3, c4, cf⟩ := cd_cells hbl
          have d1 := hR.cell (i := k') (by rw [bf_length]; have := HK.out; omega)
          rw [bf_at _ _ _ (by have := HK.out; omega), show sti R G tp k k' = R.testBit k' by unfold sti; rw [if_neg (by have := HK.out; omega)]] at d1
          have d2 := hR.cell (i := k) (by rw [bf_length]; omega)
          have d3 := hR.free k
          have v1 := bz_mul tp (G.testBit k)
          rw [← HTV.out] at v1
          have v2 := bz_xor (R.testBit k') (tp && G.testBit k)
          rw [show (R.testBit k' ^^ (tp && G.testBit k)) = stp R G tp k by unfold stp; rw [decide_eq_true hlt1, Bool.true_and, show k - 1 = k' by have := HK.out; omega]] at v2
          have hBw : Below w.heap.size w w4 := by rw [← HBX.out]; exact hB
          have HBt := Lib.hid (rBit (HG.out.below hBw) k (by omega))
          have i2 : IntKind.i64.wrap (bz (tp && G.testBit k)) = bz (tp && G.testBit k) := IntWalk.i64_in _ (by have := bz_bounds (tp && G.testBit k); omega)
          have hs := hR.set k (bz (stp R G tp k))
          rw [bf_set] at hs
          have HN : Hid (Blk64 (w4.setCell ⟨gb, k, none⟩ (.int .i64 (bz (stp R G tp k)))) gb (bf D (sti R G tp k')) ∧ (w4.setCell ⟨gb, k, none⟩ (.int .i64 (bz (stp R G tp k)))).heap[bx]? = some (cdO (.int .i64 (m : Int)) (.int .i64 (t : Int)) (.int .i64 (n : Int)) (.slice ga gn gc) (.int .i64 (D : Int))) ∧ Below bx w (w4.setCell ⟨gb, k, none⟩ (.int .i64 (bz (stp R G tp k))))) := by
            refine ⟨?_, ((Only.setCell w4 ⟨gb, k, none⟩ _).block bx (by show bx ≠ gb; omega)).trans hbl, hB.setCell (p := ⟨gb, k, none⟩) (Nat.le_of_lt hlt) _⟩
            have e : bf D (fun j => if j = k then stp R G tp k else sti R G tp k j) = bf D (sti R G tp k') := bf_ext fun j hj => by
              have := HK.out
              unfold sti
              by_cases h1 : j = k
              · subst h1; rw [if_pos rfl, if_pos (by omega)]
              · rw [if_neg h1]
                by_cases h2 : k < j
                · rw [if_pos h2, if_pos (by omega)]
                · rw [if_neg h2, if_neg (by omega)]
            rw [← e]; exact hs
          generalize bz (stp R G tp k) = nv at v2 HN
          generalize bz (tp && G.testBit k) = mv at v1 v2 i2
          generalize bz (R.testBit k') = rv at v2 d1
          generalize bz (G.testBit k) = gv at v1 HBt
          clear hR hbl hB c0 c1 c2 cf hs hBw HSd
          repeat still_step
          still_call (HBt.out.mono fun _ _ h => ⟨h.1, h.2.symm⟩)
          repeat still_step
          refine wpStill_nil ?_
          go_wp2_with fail
          go_roundg k'
          case measure => have := HGk.out; have := HK.out; omega
          case rel => exact ⟨k', rfl, by have := HK.out; omega, rfl, HN⟩
        · obtain rfl : k = 0 := by omega
          obtain ⟨hR, hbl, hB⟩ := HS.out
          obtain ⟨c0, c1, c2, c3, c4, cf⟩ := cd_cells hbl
          have z4 : (0 : Int) < (D : Int) := by omega
          have d2 := hR.cell (i := 0) (by rw [bf_length]; omega)
          have d3 := hR.free 0
          have v1 := bz_mul tp (G.testBit 0)
          rw [← HTV.out] at v1
          have hBw : Below w.heap.size w wr := by rw [← HBX.out]; exact hB
          have HBt := Lib.hid (rBit (HG.out.below hBw) 0 (by omega))
          have i2 : IntKind.i64.wrap (bz (tp && G.testBit 0)) = bz (tp && G.testBit 0) := IntWalk.i64_in _ (by have := bz_bounds (tp && G.testBit 0); omega)
          have hs := hR.set 0 (bz (tp && G.testBit 0))
          rw [bf_set] at hs
          have HN : Hid (Blk64 (wr.setCell ⟨gb, 0, none⟩ (.int .i64 (bz (tp && G.testBit 0)))) gb (bf D fun j => (prt G D (V >>> i)).testBit j) ∧ (wr.setCell ⟨gb, 0, none⟩ (.int .i64 (bz (tp && G.testBit 0)))).heap[bx]? = some (cdO (.int .i64 (m : Int)) (.int .i64 (t : Int)) (.int .i64 (n : Int)) (.slice ga gn gc) (.int .i64 (D : Int))) ∧ Below bx w (wr.setCell ⟨gb, 0, none⟩ (.int .i64 (bz (tp && G.testBit 0))))) := by
            refine ⟨?_, ((Only.setCell wr ⟨gb, 0, none⟩ _).block bx (by show bx ≠ gb; omega)).trans hbl, hB.setCell (p := ⟨gb, 0, none⟩) (Nat.le_of_lt hlt) _⟩
            have e : bf D (fun j => if j = 0 then (tp && G.testBit 0) else sti R G tp 0 j) = bf D (fun j => (prt G D (V >>> i)).testBit j) := bf_ext fun j hj => by
              rw [HB2.out j hj]
              unfold sti stp
              by_cases h1 : j = 0
              · subst h1; simp
              · rw [if_neg h1, if_pos (by omega)]
            rw [← e]; exact hs
          generalize bz (tp && G.testBit 0) = mv at v1 i2 HN
          generalize bz (G.testBit 0) = gv at v1 HBt
          clear hR hbl hB c0 c1 c2 c4 cf hs hBw HS
          go_wp2_with fail
          refine HBt.out.mono ?_
          rintro e w5 ⟨rfl, rfl⟩
          clear HBt c3
          go_wp2_with fail
          go_roundg i
          case measure => have := HGh.out; omega
          case rel => exact ⟨i, rfl, by have := HI.out; omega, by go_num, HN⟩
    · obtain rfl : J = 0 := by omega
      obtain ⟨hR, hbl, hB⟩ := HS.out
      rw [show V >>> 0 = V from rfl] at hR
      obtain ⟨c0, c1, c2, c3, c4, cf⟩ := cd_cells hbl
      have hl := prt_lt hg V
      obtain ⟨R, hRe⟩ : ∃ R, R = prt G D V := ⟨_, rfl⟩
      have HRE := Lib.hid hRe
      rw [← hRe] at hR hl
      have HR := Lib.hid hR
      have HH := Lib.hid (And.intro hbl hB)
      have hgs := lt_of_block hR
      clear hR hbl hB HS hRe cf
      go_wp2_with fail
      refine (rparity_any m t n ga gn gc D (by omega) wr).mono ?_
      rintro e w2 ⟨rfl, b⟩
      obtain ⟨hbl, hB⟩ := HH.out
      have hR2 : Blk64 w2 gb (bf D fun j => R.testBit j) := (b.block gb hgs).trans HR.out
      have hbl2 := (b.block bx (lt_of_block hbl)).trans hbl
      have hB2 := hB.trans (b.mono (by rw [HBX.out]; exact hB.size))
      clear HR HH hbl hB c0 c1 c2 c3 c4 b
      obtain ⟨P, hP⟩ : ∃ P, P = pb D := ⟨_, rfl⟩
      have hP2 : P = (D + 7) / 8 := hP
      rw [← hP]
      have HP := Lib.hid hP2
      have HPe := Lib.hid hP
      have hmk := made8 w2 P (by omega)
      have b8 : Below w2.heap.size w2 (w2.alloc (obj8 (List.replicate P 0))) := (Below.refl _ _).alloc (Nat.le_refl _) _
      have h8 : Blk8 (w2.alloc (obj8 (List.replicate P 0))) w2.heap.size (byN (nb (fun i => R.testBit i) 0) P) := by
        have e : byN (nb (fun i => R.testBit i) 0) P = List.replicate P 0 := (byN_zero P).symm
        rw [e]; exact Blk8.new w2 _
      have hgs2 := lt_of_block hR2
      have hbs2 := lt_of_block hbl2
      have HI := Lib.hid (And.intro h8 (And.intro ((b8.block gb hgs2).trans hR2) (And.intro ((b8.block bx hbs2).trans hbl2) (hB2.trans (b8.mono (by rw [HBX.out]; exact hB2.size))))))
      have hb2s := hB2.size
      clear hR2 hbl2 hB2 b8 h8 hP hP2
      go_wp2_with fail
      clear hmk
      generalize w2.alloc (obj8 (List.replicate P 0)) = w3 at HI ⊢
      obtain ⟨gq, hgq⟩ : ∃ gq, gq = w2.heap.size := ⟨_, rfl⟩
      rw [← hgq] at HI hgs2 hbs2 ⊢
      clear hgq
      go_loopg [10] D (fun gh s10 wx => ∃ (k : Nat), gh = D - k ∧ k ≤ D ∧ s10 = .int .i64 (k : Int) ∧ Hid (Blk8 wx gq (byN (nb (fun i => R.testBit i) k) P) ∧ wx.heap[gb]? = some (obj64 (bf D fun j => R.testBit j)) ∧ wx.heap[bx]? = some (cdO (.int .i64 (m : Int)) (.int .i64 (t : Int)) (.int .i64 (n : Int)) (.slice ga gn gc) (.int .i64 (D : Int))) ∧ Below bx w wx))
      case atStart => exact ⟨0, rfl, Nat.zero_le _, rfl, HI⟩
      case round =>
        clear HI
        obtain ⟨k, hg', hk, rfl, HS⟩ := hrel
        have HGk := Lib.hid hg'
        clear hg'
        obtain ⟨h8, hR, hbl, hB⟩ := HS.out
        replace hR : Blk64 wr gb (bf D fun j => R.testBit j) := hR
        obtain ⟨c0, c1, c2, c3, c4, cf⟩ := cd_cells hbl
        clear c0 c1 c2 c3 cf
        by_cases hlt1 : k < D
        · have x1 : (k : Int) < (D : Int) := by omega
          have x0 : (0 : Int) ≤ (k : Int) := by omega
          have d1 := hR.cell (i := k) (by rw [bf_length]; exact hlt1)
          rw [bf_at _ _ _ hlt1] at d1
          have hkN : k / 8 < P := by have := HP.out; omega
          have HST := Lib.hid (nar_step (fun i => R.testBit i) P k hkN)
          obtain ⟨Q, hQ⟩ : ∃ Q, Q = k / 8 := ⟨_, rfl⟩
          obtain ⟨r, hr⟩ : ∃ r, r = k % 8 := ⟨_, rfl⟩
          rw [← hQ] at hkN HST
          rw [← hr] at HST
          have q1 : (k : Int).tdiv 8 = (Q : Int) := by rw [Int.tdiv_eq_ediv_of_nonneg (by omega), hQ]; omega
          have q2 : (k : Int) / 8 = (Q : Int) := by omega
          have r1 : (k : Int).tmod 8 = (r : Int) := by rw [Int.tmod_eq_emod_of_nonneg (by omega), hr]; omega
          have r2 : (k : Int) % 8 = (r : Int) := by omega
          have y0 : (0 : Int) ≤ (Q : Int) := by omega
          have y1 : (Q : Int) < (P : Int) := by omega
          have y2 : r < 8 := by omega
          have y3 : (0 : Int) ≤ (r : Int) := by omega
          have d3 := h8.cell (i := Q) (by rw [byN_length]; exact hkN)
          have d4 := h8.free Q
          clear hQ hr
          have key : ∃ nv : BitVec 8, bits .or .u8 (Bits32.b (nth8 (byN (nb (fun i => R.testBit i) k) P) Q)) (IntKind.u8.wrap (IntKind.u8.wrap (bz (R.testBit k)) * 2 ^ r)) = Bits32.b nv ∧ (byN (nb (fun i => R.testBit i) k) P).set Q nv = byN (nb (fun i => R.testBit i) (k + 1)) P := by
            have h := HST.out
            cases hc : R.testBit k
            · refine ⟨nth8 (byN (nb (fun i => R.testBit i) k) P) Q, or_none _ r, ?_⟩
              simp only [hc] at h
              rwa [show nth8 (byN (nb (fun i => R.testBit i) k) P) Q ||| (if false = true then 1#8 <<< r else 0) = nth8 (byN (nb (fun i => R.testBit i) k) P) Q from BitVec.or_zero] at h
            · refine ⟨_, or_one _ r y2, ?_⟩
              simp only [hc] at h
              exact h
          obtain ⟨nv, ov, hset⟩ := key
          have u1 : IntKind.u8.wrap (bz (R.testBit k)) = bz (R.testBit k) := IntWalk.u8_in _ (by have := bz_bounds (R.testBit k); omega)
          rw [u1, IntKind.wrap_u8'] at ov
          have hs := h8.set Q nv
          rw [hset] at hs
          have hbq : Below bx w (wr.setCell ⟨gq, Q, none⟩ (.int .u8 (Bits32.b nv))) := hB.setCell (p := ⟨gq, Q, none⟩) (by show bx ≤ gq; omega) _
          have hOq := Only.setCell wr ⟨gq, Q, none⟩ (.int .u8 (Bits32.b nv))
          have HN : Hid (Blk8 (wr.setCell ⟨gq, Q, none⟩ (.int .u8 (Bits32.b nv))).drew gq (byN (nb (fun i => R.testBit i) (k + 1)) P) ∧ (wr.setCell ⟨gq, Q, none⟩ (.int .u8 (Bits32.b nv))).drew.heap[gb]? = some (obj64 (bf D fun j => R.testBit j)) ∧ (wr.setCell ⟨gq, Q, none⟩ (.int .u8 (Bits32.b nv))).drew.heap[bx]? = some (cdO (.int .i64 (m : Int)) (.int .i64 (t : Int)) (.int .i64 (n : Int)) (.slice ga gn gc) (.int .i64 (D : Int))) ∧ Below bx w (wr.setCell ⟨gq, Q, none⟩ (.int .u8 (Bits32.b nv))).drew) :=
            ⟨hs, (hOq.block gb (by show gb ≠ gq; omega)).trans hR, (hOq.block bx (by show bx ≠ gq; omega)).trans hbl, hbq.drew⟩
          generalize Bits32.b nv = nw' at ov HN
          generalize Bits32.b (nth8 (byN (nb (fun i => R.testBit i) k) P) Q) = ow at ov d3
          generalize bz (R.testBit k) = rw' at ov u1 d1
          clear h8 hR hbl hB HS HST hset hs hbq hOq
          go_wp2_with fail
          go_region
          clear c4
          go_wp2_with fail
          go_roundg (D - (k + 1))
          case measure => have := HGk.out; omega
          case rel => exact ⟨k + 1, rfl, by omega, by go_num, HN⟩
        · obtain rfl : k = D := by omega
          have e : nb (fun i => R.testBit i) k = R := nb_self hl
          rw [e] at h8
          have HF := Lib.hid (And.intro h8 hB)
          clear h8 hR hbl hB HS
          go_wp2_with fail
          go_ret
          obtain ⟨h8, hB⟩ := HF.out
          have e1 := HRE.out
          have e2 := HPe.out
          have e3 := HBX.out
          rw [← e2, ← e1, ← e3]
          exact ⟨gq, rfl, h8, hB, by omega⟩
end Go.Proofs.YtnmallpimbpagaaDoor.Enc
/- The walks over what the statements of chapter 6 make: fit, Distance, the reference's Flip. By the verifier of shale. -/
namespace Go.Proofs.YtnmallpimbpagaaDoor.Enc
open Go Go.RowKit Bin Cos
set_option linter.unusedVariables false
/-- data of a length, made of any. -/
def fitL (b : List (BitVec 8)) (n : Nat) : List (BitVec 8) := b.take n ++ List.replicate (n - b.length) 0
theorem fitL_length (b : List (BitVec 8)) (n : Nat) : (fitL b n).length = n := by
  unfold fitL
  rw [List.length_append, List.length_take, List.length_replicate]; omega
theorem splice_fit (b : List (BitVec 8)) (n : Nat) : splice (List.replicate n (Value.int .u8 0)) 0 (cells8 (b.take n)) = cells8 (fitL b n) := by
  unfold splice fitL
  rw [List.take_zero, List.nil_append, Nat.zero_add, cells8_length, List.length_take, List.drop_replicate]
  unfold cells8
  rw [List.map_append, List.map_replicate]
  congr 2
  omega
set_option maxRecDepth 100000 in
set_option maxHeartbeats 1000000 in
theorem fit_any (a : Option Addr) (nb cap : Nat) (b : List (BitVec 8)) (n : Nat) (hn : n ≤ 100000) (w : World) (hP : Pol w a nb cap b) :
    Calls Tryd.prog 14 #[.slice a nb cap, .int .i64 (n : Int)] w fun e w' => e = .returned (.slice (some ⟨w.heap.size, 0, none⟩) n n) ∧ Blk8 w' w.heap.size (fitL b n) ∧ Below w.heap.size w w' := by
  have hmk := made8 w n (by omega)
  have HB0 : Hid (Below w.heap.size w (w.alloc (obj8 (List.replicate n 0)))) := (Below.refl _ _).alloc (Nat.le_refl _) _
  have HCB : Hid ((w.alloc (obj8 (List.replicate n 0))).heap[w.heap.size]? = some (.cells (List.replicate n (Value.int .u8 0)).toArray 5 (0, 0))) := by
    show _ = _
    rw [heap_alloc_new]; unfold obj8; simp [Bits32.b]
  have HT : Hid (Pol w a (min nb n) cap (b.take n)) := by
    have h := hP.take (min nb n) (Nat.min_le_left _ _)
    have e : b.take (min nb n) = b.take n := by
      have := hP.hlen
      by_cases h1 : nb ≤ n
      · rw [Nat.min_eq_left h1, List.take_of_length_le (by omega), List.take_of_length_le (by omega)]
      · rw [Nat.min_eq_right (by omega)]
    rw [e] at h; exact h
  clear hP
  go_enter Tryd.func14, Tryd.ntmps14
  have hc1 : (cells8 (b.take n)).length = Nat.min nb n := by rw [cells8_length, ← HT.out.hlen]
  have hc2 : 0 + (cells8 (b.take n)).length ≤ (List.replicate n (Value.int .u8 0)).length := by rw [cells8_length, List.length_replicate, ← HT.out.hlen]; omega
  have hc3 : 0 < (cells8 (b.take n)).length → (some ⟨w.heap.size, 0, none⟩ : Option Addr) = some ⟨w.heap.size, 0, none⟩ ∧ ∃ ad, a = some ad ∧ ∀ j v, (cells8 (b.take n))[j]? = some v → (w.alloc (obj8 (List.replicate n 0))).cell? (ad.add j) = some v := fun h0 => ⟨rfl, arg_src HT.out _ HB0.out h0⟩
  have HC := Lib.hid (And.intro hc1 (And.intro hc2 hc3))
  clear hc1 hc2 hc3
  go_wp2_with ((with_reducible show wpList _ _ _ _ _ _); refine wpList_copy_splice (o := ⟨some 10, _, _, _, _, _⟩) rfl (.tmp 8) (.tmp 9) 22 22 rfl 5 Tryd.underlying22 size8 (some ⟨w.heap.size, 0, none⟩) a n n nb cap rfl rfl w.heap.size 0 (List.replicate n (.int .u8 0)) 5 HCB.out (cells8 (b.take n)) HC.out.1 HC.out.2.2 HC.out.2.1 (cells8_one _) w.heap.size w HB0.out (Nat.le_refl _) ?_; intro w2 hw2 hb2)
  have hX0 : Blk8 w2 w.heap.size (fitL b n) := by
    have := hw2.out
    rw [splice_fit] at this
    exact this
  have HX := Lib.hid hX0
  clear hw2 hmk hX0
  go_wp2_with fail
  go_ret
  exact ⟨rfl, HX.out, hb2⟩
theorem len_inj {l k : List (BitVec 8)} (h : l.length = k.length) (hv : val l = val k) : l = k := nth8_ext h fun i _ => nth8_of_val hv i
theorem byN_inj {V U n : Nat} (h1 : V < 2 ^ (8 * n)) (h2 : U < 2 ^ (8 * n)) (h : byN V n = byN U n) : V = U := by rw [← val_byN h1, ← val_byN h2, h]
theorem byN_val (l : List (BitVec 8)) : byN (val l) l.length = l := len_inj (byN_length _ _) (by rw [val_byN (val_lt l)])
set_option maxRecDepth 100000 in
set_option maxHeartbeats 1000000 in
theorem distance_any (a a' : Option Addr) (n c c' : Nat) (X Y : List (BitVec 8)) (hn : n ≤ 10000) (w : World) (hX : Pol w a n c X) (hY : Pol w a' n c' Y) :
    Calls Tryd.prog 22 #[.slice a n c, .slice a' n c'] w fun e w' => e = .returned (.int .i64 (pop (val X ^^^ val Y) (8 * n) : Int)) ∧ w = w' := by
  have PX : PolV w n a n c (val X) := ⟨X, hX, rfl, Nat.le_refl _⟩
  have PY : PolV w n a' n c' (val Y) := ⟨Y, hY, rfl, Nat.le_refl _⟩
  obtain ⟨U, hU⟩ : ∃ U, U = val X := ⟨_, rfl⟩
  obtain ⟨V, hV⟩ : ∃ V, V = val Y := ⟨_, rfl⟩
  rw [← hU] at PX ⊢
  rw [← hV] at PY ⊢
  have HX := Lib.hid PX
  have HY := Lib.hid PY
  have p0 : pop (U ^^^ V) 0 = 0 := rfl
  have HP0 := Lib.hid p0
  clear hU hV hX hY PX PY p0
  go_enter Tryd.func22, Tryd.ntmps22
  go_wp2_with fail
  go_loopg [5, 6] (8 * n) (fun gh s5 s6 wx => ∃ (k : Nat), gh = 8 * n - k ∧ k ≤ 8 * n ∧ s6 = .int .i64 (k : Int) ∧ s5 = .int .i64 (pop (U ^^^ V) k : Int) ∧ w = wx)
  case atStart => exact ⟨0, rfl, Nat.zero_le _, rfl, by rw [HP0.out]; rfl, rfl⟩
  case round =>
    clear HP0
    obtain ⟨k, hg, hk, rfl, rfl, rfl⟩ := hrel
    have HG := Lib.hid hg
    clear hg
    have hpk : pop (U ^^^ V) k ≤ k := by
      unfold pop plc
      have := List.length_filter_le (fun i => (U ^^^ V).testBit i) (List.range k)
      rw [List.length_range] at this
      exact this
    by_cases hlt : k < 8 * n
    · have x1 : (k : Int) < 8 * (n : Int) := by omega
      have HB1 := Lib.hid (rBit HX.out k (by omega))
      have HB2 := Lib.hid (rBit HY.out k (by omega))
      have HPS := Lib.hid (pop_succ (U ^^^ V) k)
      rw [Nat.testBit_xor] at HPS
      have HI : Hid (k + 1 ≤ 8 * n) := hlt
      have t1 : (bz (U.testBit k) == bz (V.testBit k)) = !(U.testBit k ^^ V.testBit k) := by cases U.testBit k <;> cases V.testBit k <;> rfl
      obtain ⟨p, hp⟩ : ∃ p, p = pop (U ^^^ V) k := ⟨_, rfl⟩
      rw [← hp] at hpk HPS ⊢
      clear hp
      cases hx : (U.testBit k ^^ V.testBit k)
      · rw [hx] at HPS t1
        generalize bz (U.testBit k) = b1 at HB1 t1
        generalize bz (V.testBit k) = b2 at HB2 t1
        replace t1 : (b1 == b2) = true := t1
        clear hx
        go_wp2_with fail
        refine HB1.out.mono ?_
        rintro e w' ⟨rfl, rfl⟩
        go_wp2_with fail
        refine HB2.out.mono ?_
        rintro e w' ⟨rfl, rfl⟩
        go_wp2_with fail
        go_roundg (8 * n - (k + 1))
        case measure => have := HG.out; have := HI.out; omega
        case rel => exact ⟨k + 1, rfl, HI.out, by go_num, by rw [HPS.out]; rfl, rfl⟩
      · rw [hx] at HPS t1
        generalize bz (U.testBit k) = b1 at HB1 t1
        generalize bz (V.testBit k) = b2 at HB2 t1
        replace t1 : (b1 == b2) = false := t1
        clear hx
        go_wp2_with fail
        refine HB1.out.mono ?_
        rintro e w' ⟨rfl, rfl⟩
        go_wp2_with fail
        refine HB2.out.mono ?_
        rintro e w' ⟨rfl, rfl⟩
        go_wp2_with fail
        go_roundg (8 * n - (k + 1))
        case measure => have := HG.out; have := HI.out; omega
        case rel => exact ⟨k + 1, rfl, HI.out, by go_num, by rw [HPS.out]; rfl, rfl⟩
    · obtain rfl : k = 8 * n := by omega
      obtain ⟨p, hp⟩ : ∃ p, p = pop (U ^^^ V) (8 * n) := ⟨_, rfl⟩
      rw [← hp] at hpk ⊢
      have HPp := Lib.hid hp
      clear hp
      go_wp2_with fail
      go_ret
      rw [← HPp.out]
      exact ⟨rfl, rfl⟩
end Go.Proofs.YtnmallpimbpagaaDoor.Enc
/- The codes that the statements of chapter 6 make: what New refuses; made. By the verifier of shale. -/
namespace Go.Proofs.YtnmallpimbpagaaDoor.Enc
open Go Go.RowKit Bin Cos
set_option linter.unusedVariables false
section
variable {m : Nat} [M : Pl.Mid m]
/-- data of a length that may be, but there is no such code. -/
structure MayNot (m t n : Nat) : Prop where
  t1 : 1 ≤ t
  t2 : t ≤ 40
  n1 : 1 ≤ n
  n2 : n ≤ 2048
  no : sz m ≤ deg m t ∨ sz m < 8 * n + deg m t
theorem may_or (m t n : Nat) (t1 : 1 ≤ t) (t2 : t ≤ 40) (n1 : 1 ≤ n) (n2 : n ≤ 2048) : May m t n ∨ MayNot m t n := by
  by_cases h1 : sz m ≤ deg m t
  · exact Or.inr ⟨t1, t2, n1, n2, Or.inl h1⟩
  · by_cases h2 : sz m < 8 * n + deg m t
    · exact Or.inr ⟨t1, t2, n1, n2, Or.inr h2⟩
    · exact Or.inl ⟨t1, t2, n1, n2, by omega, by omega⟩
set_option maxRecDepth 100000 in
set_option maxHeartbeats 1000000 in
theorem new_no {t n : Nat} (H : MayNot m t n) (w : World) (y : Addr) (E : ErrAt w 2 y) :
    Calls Tryd.prog 23 #[.int .i64 (m : Int), .int .i64 (t : Int), .int .i64 (n : Int)] w fun e w' => e = .returned (.tuple #[.pointer none, errOf y]) ∧ Below w.heap.size w w' := by
  have ho := Fld.shl_one m M.hi
  have hn7 := sz_lo M.lo
  have hn2 := sz_hi M.hi
  have hw : IntKind.i64.wrap ((Fld.els m : Int) - 1) = (sz m : Int) := by
    have : (Fld.els m : Int) - 1 = (sz m : Int) := by unfold Fld.els sz; have := Nat.two_pow_pos m; omega
    rw [this]; exact IntWalk.i64_in _ (by omega)
  have hm1 := M.lo
  have hm14 := M.hi
  have m0 : (0 : Int) ≤ (m : Int) := by omega
  have m64 : (m : Int) ≤ 14 := by omega
  have n1 : ¬ (n : Int) < 1 := by have := H.n1; omega
  have n2 : ¬ (2048 : Int) < (n : Int) := by have := H.n2; omega
  have n3 : n ≤ 2048 := H.n2
  have hD2 := deg_560 (m := m) H.t2
  obtain ⟨D, hD⟩ : ∃ D, D = deg m t := ⟨_, rfl⟩
  have HDE := Lib.hid hD
  rw [← hD] at hD2
  obtain ⟨N, hN⟩ : ∃ N, N = sz m := ⟨_, rfl⟩
  have HNE := Lib.hid hN
  rw [← hN] at hw hn7 hn2
  have HH := Lib.hid H
  clear hD hN H
  go_enter Tryd.func23, Tryd.ntmps23
  go_wp2_with fail
  refine (least_any m t M.lo M.hi HH.out.t1 HH.out.t2 w y E).mono ?_
  rintro e w1 (⟨hd, rfl, B⟩ | ⟨hd, rfl, B⟩)
  · rw [show dgs m (leads m 1 2 t) = D from HDE.out.symm]
    have hroom : (N : Int) < 8 * (n : Int) + (D : Int) := by
      have h1 := HDE.out
      have h2 := HNE.out
      have h3 : deg m t < sz m := hd
      rcases HH.out.no with h | h <;> omega
    have e1 := (E.below B).1
    unfold Sent at e1
    clear hd E
    go_wp2_with fail
    go_quiet (fail)
    have hd2 := B.trans ((Drawn.mk w1 nq).below w.heap.size)
    generalize w1.drewN nq = w5 at hd2 ⊢
    clear e1
    go_wp2_with fail
    go_ret2
    exact ⟨rfl, hd2⟩
  · clear hd E
    go_wp2_with fail
    go_ret2
    exact ⟨rfl, B⟩
set_option maxRecDepth 100000 in
set_option maxHeartbeats 1000000 in
theorem rnew_no {t n : Nat} (H : MayNot m t n) (w : World) :
    Calls Tryd.prog 32 #[.int .i64 (m : Int), .int .i64 (t : Int), .int .i64 (n : Int)] w fun e w' => e = .returned (.tuple #[cdZ, .int .i64 105]) ∧ Below w.heap.size w w' := by
  have ho := Fld.shl_one m M.hi
  have hn7 := sz_lo M.lo
  have hn2 := sz_hi M.hi
  have hw : IntKind.i64.wrap ((Fld.els m : Int) - 1) = (sz m : Int) := by
    have : (Fld.els m : Int) - 1 = (sz m : Int) := by unfold Fld.els sz; have := Nat.two_pow_pos m; omega
    rw [this]; exact IntWalk.i64_in _ (by omega)
  have hm1 := M.lo
  have hm14 := M.hi
  have m0 : (0 : Int) ≤ (m : Int) := by omega
  have m64 : (m : Int) ≤ 14 := by omega
  have n1 : ¬ (n : Int) < 1 := by have := H.n1; omega
  have n2 : ¬ (2048 : Int) < (n : Int) := by have := H.n2; omega
  have n3 : n ≤ 2048 := H.n2
  have hD2 := deg_560 (m := m) H.t2
  obtain ⟨D, hD⟩ : ∃ D, D = deg m t := ⟨_, rfl⟩
  have HDE := Lib.hid hD
  rw [← hD] at hD2
  obtain ⟨N, hN⟩ : ∃ N, N = sz m := ⟨_, rfl⟩
  have HNE := Lib.hid hN
  rw [← hN] at hw hn7 hn2
  have HH := Lib.hid H
  have b0 : Below w.heap.size w (w.alloc (cdO (.int .i64 0) (.int .i64 0) (.int .i64 0) (.slice none 0 0) (.int .i64 0))) := (Below.refl _ _).alloc (Nat.le_refl _) _
  have hz : w.heap.size < (w.alloc (cdO (.int .i64 0) (.int .i64 0) (.int .i64 0) (.slice none 0 0) (.int .i64 0))).heap.size := by simp
  have hblk : (w.alloc (cdO (.int .i64 0) (.int .i64 0) (.int .i64 0) (.slice none 0 0) (.int .i64 0))).heap[w.heap.size]? = some (cdO (.int .i64 0) (.int .i64 0) (.int .i64 0) (.slice none 0 0) (.int .i64 0)) := heap_alloc_new w _
  have HI := Lib.hid (And.intro b0 (And.intro hz hblk))
  clear hD hN H b0 hz hblk
  go_enter Tryd.func32, Tryd.ntmps32
  go_wp2_with fail
  obtain ⟨b0, hz, hblk⟩ := HI.out
  clear HI
  rw [show Obj.cells #[Value.int IntKind.i64 0, Value.int IntKind.i64 0, Value.int IntKind.i64 0, Value.slice none 0 0, Value.int IntKind.i64 0] 26 (0, 0) = cdO (.int .i64 0) (.int .i64 0) (.int .i64 0) (.slice none 0 0) (.int .i64 0) from rfl]
  generalize w.alloc (cdO (.int .i64 0) (.int .i64 0) (.int .i64 0) (.slice none 0 0) (.int .i64 0)) = w0 at b0 hz hblk ⊢
  refine (rleast_any m t M.lo M.hi HH.out.t1 HH.out.t2 w0).mono ?_
  rintro e w1 (⟨hd, a1, n1', c1, rfl, R, B⟩ | ⟨hd, rfl, B⟩)
  · have hroom : (N : Int) < 8 * (n : Int) + (D : Int) := by
      have h1 := HDE.out
      have h2 := HNE.out
      have h3 : deg m t < sz m := hd
      rcases HH.out.no with h | h <;> omega
    rw [show dgs m (leads m 1 2 t) = D from HDE.out.symm]
    have B1 := b0.trans (B.mono b0.size)
    have hb1 := (B.block _ hz).trans hblk
    obtain ⟨c0, c1', c2, c3, c4, cf⟩ := cd_cells hb1
    clear hd R B b0 hblk hz hb1
    go_wp2_with fail
    exact bodyPost_ret (v := .tuple #[cdZ, .int .i64 105]) (by simp [results, Tryd.results32, go_sem, c0, c1', c2, c3, c4]) rfl ⟨rfl, ((((B1.setCell (p := ⟨w.heap.size, 0, none⟩) (Nat.le_refl _) _).setCell (p := ⟨w.heap.size, 1, none⟩) (Nat.le_refl _) _).setCell (p := ⟨w.heap.size, 2, none⟩) (Nat.le_refl _) _).setCell (p := ⟨w.heap.size, 3, none⟩) (Nat.le_refl _) _).setCell (p := ⟨w.heap.size, 4, none⟩) (Nat.le_refl _) _⟩
  · have B1 := b0.trans (B.mono b0.size)
    have hb1 := (B.block _ hz).trans hblk
    obtain ⟨c0, c1', c2, c3, c4, cf⟩ := cd_cells hb1
    clear hd B b0 hblk hz hb1
    go_wp2_with fail
    exact bodyPost_ret (v := .tuple #[cdZ, .int .i64 105]) (by simp [results, Tryd.results32, go_sem, c0, c1', c2, c3, c4]) rfl ⟨rfl, ((((B1.setCell (p := ⟨w.heap.size, 0, none⟩) (Nat.le_refl _) _).setCell (p := ⟨w.heap.size, 1, none⟩) (Nat.le_refl _) _).setCell (p := ⟨w.heap.size, 2, none⟩) (Nat.le_refl _) _).setCell (p := ⟨w.heap.size, 3, none⟩) (Nat.le_refl _) _).setCell (p := ⟨w.heap.size, 4, none⟩) (Nat.le_refl _) _⟩
end
end Go.Proofs.YtnmallpimbpagaaDoor.Enc
/- made: the code that a statement of chapter 6 makes of any numbers. By the verifier of shale. -/
namespace Go.Proofs.YtnmallpimbpagaaDoor.Enc
open Go Go.RowKit Bin Cos
set_option linter.unusedVariables false
/-- the numbers that a statement makes of any. -/
def mkM (z : Int) : Nat := (z % 5).toNat + 6
def mkT (z : Int) : Nat := (z % 6).toNat + 1
def mkN (z : Int) : Nat := (z % 24).toNat + 1
instance (z : Int) : Pl.Mid (mkM z) := ⟨by unfold mkM; omega, by unfold mkM; omega⟩
instance mid8 : Pl.Mid 8 := ⟨by decide, by decide⟩
theorem mkM_go (z : Int) : z.tmod 5 % 5 + 6 = (mkM z : Int) := by
  unfold mkM
  have : z.tmod 5 % 5 = z % 5 := by rw [Int.tmod_eq_emod]; split <;> omega
  omega
theorem mkT_go (z : Int) : z.tmod 6 % 6 + 1 = (mkT z : Int) := by
  unfold mkT
  have : z.tmod 6 % 6 = z % 6 := by rw [Int.tmod_eq_emod]; split <;> omega
  omega
theorem mkN_go (z : Int) : z.tmod 24 % 24 + 1 = (mkN z : Int) := by
  unfold mkN
  have : z.tmod 24 % 24 = z % 24 := by rw [Int.tmod_eq_emod]; split <;> omega
  omega
theorem tmod_bounds (z : Int) (k : Nat) (h : 0 < k) : -(k : Int) < z.tmod k ∧ z.tmod k < k := by
  have a1 := Int.tmod_lt_of_pos z (b := (k : Int)) (by omega)
  have a2 := Int.tmod_lt_of_pos (-z) (b := (k : Int)) (by omega)
  rw [Int.neg_tmod] at a2
  omega
theorem may8 : May 8 2 9 := ⟨by decide, by decide, by decide, by decide, by decide +kernel, by decide +kernel⟩
/-- both codes, and what they are. -/
def BothAt (w : World) (e : Ending) (w' : World) : Prop :=
  ∃ (m t n : Nat) (M : Pl.Mid m) (s : Nat) (ga : Option Addr) (gn gc : Nat), 6 ≤ m ∧ m ≤ 10 ∧ t ≤ 6 ∧ n ≤ 24 ∧ May m t n ∧ e = .returned (.tuple #[.pointer (some ⟨s, 0, none⟩), cdV m t n ga gn gc (deg m t), .bool true]) ∧
    CodeAt m t n w' s ∧ BarV w' ga gn gc (gen m t) ∧ Below w.heap.size w w'
theorem setCd {w : World} {s : Nat} {a b c d e : Value} (h : w.heap[s]? = some (cdO a b c d e)) (a' b' c' d' e' : Value) : (((((w.setCell ⟨s, 0, none⟩ a').setCell ⟨s, 1, none⟩ b').setCell ⟨s, 2, none⟩ c').setCell ⟨s, 3, none⟩ d').setCell ⟨s, 4, none⟩ e').heap[s]? = some (cdO a' b' c' d' e') := by
  have hlt := lt_of_block h
  have step : ∀ (w : World) (i : Nat) (v : Value) (cs : Array Value), w.heap[s]? = some (.cells cs 26 (0, 0)) → (w.setCell ⟨s, i, none⟩ v).heap[s]? = some (.cells (cs.setIfInBounds i v) 26 (0, 0)) := by
    intro w i v cs h
    have hlt := lt_of_block h
    have h' : w.heap[s] = .cells cs 26 (0, 0) := by simpa [Array.getElem?_eq_getElem hlt] using h
    show (w.heap.modify s _)[s]? = _
    rw [Array.getElem?_eq_getElem (by simpa using hlt), Array.getElem_modify_self, h']
    rfl
  have h1 := step _ 4 e' _ (step _ 3 d' _ (step _ 2 c' _ (step _ 1 b' _ (step _ 0 a' _ h))))
  exact h1
theorem onlyCd (w : World) (s : Nat) (a' b' c' d' e' : Value) : Only s w (((((w.setCell ⟨s, 0, none⟩ a').setCell ⟨s, 1, none⟩ b').setCell ⟨s, 2, none⟩ c').setCell ⟨s, 3, none⟩ d').setCell ⟨s, 4, none⟩ e') :=
  ((((Only.setCell w ⟨s, 0, none⟩ a').trans (Only.setCell _ ⟨s, 1, none⟩ b')).trans (Only.setCell _ ⟨s, 2, none⟩ c')).trans (Only.setCell _ ⟨s, 3, none⟩ d')).trans (Only.setCell _ ⟨s, 4, none⟩ e')
abbrev cd0 : Obj := cdO (.int .i64 0) (.int .i64 0) (.int .i64 0) (.slice none 0 0) (.int .i64 0)
theorem cd0_val {w : World} {s i : Nat} {v : Value} (hb : w.heap[s]? = some cd0) (h : w.cell? ⟨s, i, none⟩ = some v) : v = .int .i64 0 ∨ v = .slice none 0 0 := by
  unfold World.cell? at h
  simp only at h
  rw [hb] at h
  unfold cd0 cdO at h
  rcases (by omega : i = 0 ∨ i = 1 ∨ i = 2 ∨ i = 3 ∨ i = 4 ∨ 5 ≤ i) with rfl | rfl | rfl | rfl | rfl | h5
  · simp at h; exact Or.inl h.symm
  · simp at h; exact Or.inl h.symm
  · simp at h; exact Or.inl h.symm
  · simp at h; exact Or.inr h.symm
  · simp at h; exact Or.inl h.symm
  · obtain ⟨k, rfl⟩ : ∃ k, i = k + 5 := ⟨i - 5, by omega⟩
    simp at h
section
variable {m : Nat} [M : Pl.Mid m]
theorem FldAt_cd {w w' : World} {f be ce bl s : Nat} (h : Fld.FldAt m w f be ce bl) (o : Only s w w') (hb : w.heap[s]? = some cd0) : Fld.FldAt m w' f be ce bl := by
  have hsz : 1 < Fld.size m := by have := sz_lo M.lo; show 1 < sz m; omega
  have n1 : f ≠ s := by
    intro e
    have := h.1
    rw [e, hb] at this
    simp [cd0, cdO] at this
  have n2 : be ≠ s := by
    intro e
    have h1 := h.2.2.1 0 (by omega)
    rw [e] at h1
    rcases cd0_val hb h1 with h2 | h2
    · simp only [Value.int.injEq, true_and] at h2
      exact (Fld.pw_ne m M.lo M.hi 0).1 (Bits16.h_inj _ _ (h2.trans (by decide)))
    · cases h2
  have n3 : bl ≠ s := by
    intro e
    have h1 := h.2.2.2 (Fld.pw m 1) (Fld.pw_ne m M.lo M.hi 1).2
    rw [e, Fld.lg_pw m M.lo M.hi 1 hsz] at h1
    rcases cd0_val hb h1 with h2 | h2 <;> simp at h2
  exact ⟨(o.block f n1).trans h.1, h.2.1, fun i hi => (o.cell (p := ⟨be, i, none⟩) n2).trans (h.2.2.1 i hi), fun x hx => (o.cell (p := ⟨bl, _, none⟩) n3).trans (h.2.2.2 x hx)⟩
theorem pol_cd {w w' : World} {a : Option Addr} {n c s : Nat} {X : List (BitVec 8)} (h : Pol w a n c X) (o : Only s w w') (hb : w.heap[s]? = some cd0) : Pol w' a n c X := by
  refine ⟨h.hlen, h.hcap, h.hmost, h.hnil, ?_⟩
  by_cases h0 : n = 0
  · exact Or.inl h0
  · rcases h.hrow with h1 | ⟨bb, off, e, hr, hlt⟩
    · exact absurd h1 h0
    · have hne : bb ≠ s := by
        intro e2
        have h1 := hr 0 (by have := h.hlen; omega)
        rw [e2] at h1
        rcases cd0_val hb h1 with h2 | h2 <;> simp at h2
      exact Or.inr ⟨bb, off, e, hr.only o hne, by rw [o.size]; exact hlt⟩
theorem CodeAt.cd {t n : Nat} {w w' : World} {s b : Nat} (h : CodeAt m t n w s) (o : Only b w w') (hb : w.heap[b]? = some cd0) : CodeAt m t n w' s := by
  obtain ⟨f, be, ce, bl, ga, gn, gc, lb, tb, h1, h2, ⟨X, hX, h3⟩, h4, h5⟩ := h
  have n1 : s ≠ b := by
    intro e
    rw [e, hb] at h1
    simp [cd0, cdO, codeO] at h1
  have nU : ∀ g n R, Reg w g n R → g ≠ b := by
    intro g n R hR e
    have h : w.heap[g]? = some (objU (wl n R)) := hR
    rw [e, hb] at h
    simp [cd0, cdO, objU] at h
  refine ⟨f, be, ce, bl, ga, gn, gc, lb, tb, (o.block s n1).trans h1, FldAt_cd h2 o hb, ⟨X, pol_cd hX o hb, h3⟩, h4.only o (nU _ _ _ h4), fun x hx => ?_⟩
  obtain ⟨rb, c1, c2⟩ := h5 x hx
  have n2 : tb ≠ b := by
    intro e
    rw [e] at c1
    rcases cd0_val hb c1 with h2 | h2 <;> simp at h2
  exact ⟨rb, (o.cell (p := ⟨tb, x, none⟩) n2).trans c1, c2.only o (nU _ _ _ c2)⟩
end
set_option maxRecDepth 100000 in
set_option maxHeartbeats 2000000 in
theorem made_any (z1 z2 z3 : Int) (w : World) (y : Addr) (E : ErrAt w 2 y) :
    Calls Tryd.prog 10 #[.int .i64 z1, .int .i64 z2, .int .i64 z3] w (BothAt w) := by
  obtain ⟨a1, a2⟩ := (show -5 < z1.tmod 5 ∧ z1.tmod 5 < 5 from tmod_bounds z1 5 (by decide))
  obtain ⟨a3, a4⟩ := (show -6 < z2.tmod 6 ∧ z2.tmod 6 < 6 from tmod_bounds z2 6 (by decide))
  obtain ⟨a5, a6⟩ := (show -24 < z3.tmod 24 ∧ z3.tmod 24 < 24 from tmod_bounds z3 24 (by decide))
  have HE0 := Lib.hid E
  have HQ1 := Lib.hid (mkM_go z1)
  have HQ2 := Lib.hid (mkT_go z2)
  have HQ3 := Lib.hid (mkN_go z3)
  have l1 : 6 ≤ mkM z1 ∧ mkM z1 ≤ 10 := by unfold mkM; omega
  have l2 : 1 ≤ mkT z2 ∧ mkT z2 ≤ 6 := by unfold mkT; omega
  have l3 : 1 ≤ mkN z3 ∧ mkN z3 ≤ 24 := by unfold mkN; omega
  have HL := Lib.hid (And.intro l1 (And.intro l2 l3))
  have HM := Lib.hid (may_or (mkM z1) (mkT z2) (mkN z3) (by omega) (by omega) (by omega) (by omega))
  clear l1 l2 l3
  go_enter Tryd.func10, Tryd.ntmps10
  go_wp2_with fail
  rw [HQ1.out, HQ2.out, HQ3.out]
  have b0 : Below w.heap.size w (w.alloc cd0) := (Below.refl _ _).alloc (Nat.le_refl _) _
  have hz : (w.alloc cd0).heap.size = w.heap.size + 1 := by simp
  have hblk : (w.alloc cd0).heap[w.heap.size]? = some cd0 := heap_alloc_new w _
  rw [show Obj.cells #[Value.int IntKind.i64 0, Value.int IntKind.i64 0, Value.int IntKind.i64 0, Value.slice none 0 0, Value.int IntKind.i64 0] 26 (0, 0) = cd0 from rfl]
  generalize w.alloc cd0 = w0 at b0 hz hblk ⊢
  obtain ⟨bx, hbx⟩ : ∃ bx, bx = w.heap.size := ⟨_, rfl⟩
  rw [← hbx] at b0 hz hblk ⊢
  have HBX := Lib.hid hbx
  clear hbx a1 a2 a3 a4 a5 a6 HQ1 HQ2 HQ3
  obtain ⟨M, hM⟩ : ∃ M, M = mkM z1 := ⟨_, rfl⟩
  have HMid : Hid (Pl.Mid M) := by show Pl.Mid M; rw [hM]; exact inferInstance
  rw [← hM] at HL HM ⊢
  generalize mkT z2 = T at HL HM ⊢
  generalize mkN z3 = N at HL HM ⊢
  clear hM
  have HI := Lib.hid (And.intro b0 (And.intro hblk (E.below (by rw [← HBX.out]; exact b0))))
  clear b0 hblk E
  rcases HM.out with H | H
  · haveI := HMid.out
    refine (rnew_any (m := M) H w0).mono ?_
    rintro e w1 ⟨ga, gn, gc, rfl, hG, b1⟩
    go_wp2_with fail
    obtain ⟨b0, hblk, E⟩ := HI.out
    have e9 : w.heap.size = bx := HBX.out.symm
    have bA : Below w1.heap.size w1 (w1.alloc (cdO (.int .i64 (M : Int)) (.int .i64 (T : Int)) (.int .i64 (N : Int)) (.slice ga gn gc) (.int .i64 (deg M T : Int)))) := (Below.refl _ _).alloc (Nat.le_refl _) _
    have hq : (w1.alloc (cdO (.int .i64 (M : Int)) (.int .i64 (T : Int)) (.int .i64 (N : Int)) (.slice ga gn gc) (.int .i64 (deg M T : Int)))).heap[w1.heap.size]? = some (cdO (.int .i64 (M : Int)) (.int .i64 (T : Int)) (.int .i64 (N : Int)) (.slice ga gn gc) (.int .i64 (deg M T : Int))) := heap_alloc_new w1 _
    have hq2 : w1.heap.size < (w1.alloc (cdO (.int .i64 (M : Int)) (.int .i64 (T : Int)) (.int .i64 (N : Int)) (.slice ga gn gc) (.int .i64 (deg M T : Int)))).heap.size := by simp
    rw [show Obj.cells #[Value.int IntKind.i64 (M : Int), Value.int IntKind.i64 (T : Int), Value.int IntKind.i64 (N : Int), Value.slice ga gn gc, Value.int IntKind.i64 (deg M T : Int)] 26 (0, 0) = cdO (.int .i64 (M : Int)) (.int .i64 (T : Int)) (.int .i64 (N : Int)) (.slice ga gn gc) (.int .i64 (deg M T : Int)) from rfl]
    generalize w1.alloc (cdO (.int .i64 (M : Int)) (.int .i64 (T : Int)) (.int .i64 (N : Int)) (.slice ga gn gc) (.int .i64 (deg M T : Int))) = w2 at bA hq hq2 ⊢
    have hbs1 := b1.size
    have E2 := (E.below b1).below bA
    have hG2 := (newV_bar hG).below bA
    have hb2 := (bA.block bx (by omega)).trans ((b1.block bx (by omega)).trans hblk)
    have B2 : Below bx w w2 := (b0.trans (b1.mono (by omega))).trans (bA.mono (by omega))
    clear b0 hblk E b1 bA hG HI
    obtain ⟨bq, hbq⟩ : ∃ bq, bq = w1.heap.size := ⟨_, rfl⟩
    rw [← hbq] at hq hq2 hbs1 ⊢
    have hbxq : bx < bq := by omega
    clear hbq hbs1 hz
    refine (new_any (m := M) H w2 y E2).mono ?_
    rintro e w3 ⟨s, rfl, hC, b3, hs⟩
    have hq3 := (b3.block bq hq2).trans hq
    have hb3 := (b3.block bx (by omega)).trans hb2
    have hG3 := hG2.below b3
    have B3 := B2.trans (b3.mono (by omega))
    obtain ⟨c0, c1, c2, c3, c4, cf⟩ := cd_cells hq3
    obtain ⟨k0, k1, k2, k3, k4, kf⟩ := cd_cells hb3
    have HE := Lib.hid (And.intro hC (And.intro hG3 (And.intro B3 hs)))
    have HB3 := Lib.hid hb3
    clear hC hG3 B3 b3 hq hb2 hG2 B2 hq3 hb3 E2 cf
    go_wp2_with fail
    go_region
    go_wp2_with fail
    obtain ⟨hC, hG3, B3, hs3⟩ := HE.out
    have hb3 := HB3.out
    have o5 := onlyCd w3 bx (.int .i64 (M : Int)) (.int .i64 (T : Int)) (.int .i64 (N : Int)) (.slice ga gn gc) (.int .i64 (deg M T : Int))
    obtain ⟨X, hX, hX2⟩ := hG3
    obtain ⟨⟨l1, l2⟩, ⟨l3, l4⟩, l5, l6⟩ := HL.out
    exact bodyPost_ret (v := .tuple #[.pointer (some ⟨s, 0, none⟩), cdV M T N ga gn gc (deg M T), .bool true]) (by simp [results, Tryd.results10, go_sem, k0, k1, k2, k3, k4]) rfl ⟨M, T, N, HMid.out, s, ga, gn, gc, l1, l2, l4, l6, H, rfl, hC.cd o5.drew hb3, ⟨X, pol_cd hX o5.drew hb3, hX2⟩, by rw [e9]; exact (B3.trans (o5.below (Nat.le_refl _))).drew⟩
  · haveI := HMid.out
    refine (rnew_no (m := M) H w0).mono ?_
    rintro e wq ⟨rfl, bq⟩
    go_wp2_with fail
    obtain ⟨b0, hblk, E⟩ := HI.out
    have hqs := bq.size
    have bA0 : Below wq.heap.size wq (wq.alloc cd0) := (Below.refl _ _).alloc (Nat.le_refl _) _
    have hqn : (wq.alloc cd0).heap[wq.heap.size]? = some cd0 := heap_alloc_new wq _
    have hqz : (wq.alloc cd0).heap.size = wq.heap.size + 1 := by simp
    rw [show Obj.cells #[Value.int IntKind.i64 0, Value.int IntKind.i64 0, Value.int IntKind.i64 0, Value.slice none 0 0, Value.int IntKind.i64 0] 26 (0, 0) = cd0 from rfl]
    generalize wq.alloc cd0 = wr at bA0 hqn hqz ⊢
    have E0 := (E.below bq).below bA0
    have hblk0 := (bA0.block bx (by omega)).trans ((bq.block bx (by omega)).trans hblk)
    have b00 : Below bx w wr := (b0.trans (bq.mono (by omega))).trans (bA0.mono (by omega))
    obtain ⟨bz', hbz⟩ : ∃ bz', bz' = wq.heap.size := ⟨_, rfl⟩
    rw [← hbz] at hqn hqz ⊢
    have hbxz : bx < bz' := by omega
    clear HI b0 hblk E bq bA0 hbz hqs hz
    have HI := Lib.hid (And.intro b00 (And.intro hblk0 (And.intro E0 hqn)))
    clear b00 hblk0 E0 hqn
    refine (rnew_any (m := 8) may8 wr).mono ?_
    rintro e w2 ⟨ga, gn, gc, rfl, hG, b1⟩
    obtain ⟨b0, hblk, E, hqn⟩ := HI.out
    have hq := (b1.block bz' (by omega)).trans hqn
    obtain ⟨u0, u1, u2, u3, u4, uf⟩ := cd_cells hq
    have hs2 := b1.size
    clear hqn
    have HI2 := Lib.hid (And.intro b0 (And.intro hblk (And.intro E (And.intro hG (And.intro b1 hq)))))
    clear b0 hblk E hG b1 hq HI
    go_wp2_with fail
    obtain ⟨b0, hblk, E, hG, b1, hq⟩ := HI2.out
    have e9 : w.heap.size = bx := HBX.out.symm
    have o2 := onlyCd w2 bz' (.int .i64 8) (.int .i64 2) (.int .i64 9) (.slice ga gn gc) (.int .i64 (deg 8 2 : Int))
    have hq2 := setCd hq (.int .i64 8) (.int .i64 2) (.int .i64 9) (.slice ga gn gc) (.int .i64 (deg 8 2 : Int))
    clear u0 u1 u2 u3 u4 uf HI2
    generalize ((((w2.setCell ⟨bz', 0, none⟩ (.int .i64 8)).setCell ⟨bz', 1, none⟩ (.int .i64 2)).setCell ⟨bz', 2, none⟩ (.int .i64 9)).setCell ⟨bz', 3, none⟩ (.slice ga gn gc)).setCell ⟨bz', 4, none⟩ (.int .i64 (deg 8 2 : Int)) = w3 at o2 hq2 ⊢
    have bo := o2.below (B := bz') (Nat.le_refl _)
    have b03 : Below bx w w3 := (b0.trans (b1.mono (by omega))).trans (bo.mono (by omega))
    have E3 := HE0.out.below (by rw [e9]; exact b03)
    have hG3 : BarV w3 ga gn gc (gen 8 2) := newV_bar (newV_only hG o2 (by omega))
    have hb3 := (bo.block bx (by omega)).trans ((b1.block bx (by omega)).trans hblk)
    have hq3 : bz' < w3.heap.size := lt_of_block hq2
    clear b0 hblk E hG b1 hq o2 bo
    refine (new_any (m := 8) may8 w3 y E3).mono ?_
    rintro e w4 ⟨s, rfl, hC, b4, hs⟩
    have hq4 := (b4.block bz' hq3).trans hq2
    have hb4 := (b4.block bx (by omega)).trans hb3
    have hG4 := hG3.below b4
    have B4 := b03.trans (b4.mono (by omega))
    obtain ⟨c0, c1, c2, c3, c4, cf⟩ := cd_cells hq4
    obtain ⟨k0, k1, k2, k3, k4, kf⟩ := cd_cells hb4
    have HE := Lib.hid (And.intro hC (And.intro hG4 (And.intro B4 hs)))
    have HB3 := Lib.hid hb4
    clear hC hG4 B4 b4 hb3 hG3 b03 hq4 hb4 E3 cf hq2 hq3 hs2 hqz
    go_wp2_with fail
    go_region
    go_wp2_with fail
    obtain ⟨hC, hG3, B3, hs3⟩ := HE.out
    have hb3 := HB3.out
    have o5 := onlyCd w4 bx (.int .i64 8) (.int .i64 2) (.int .i64 9) (.slice ga gn gc) (.int .i64 (deg 8 2 : Int))
    obtain ⟨X, hX, hX2⟩ := hG3
    exact bodyPost_ret (v := .tuple #[.pointer (some ⟨s, 0, none⟩), cdV 8 2 9 ga gn gc (deg 8 2), .bool true]) (by simp [results, Tryd.results10, go_sem, k0, k1, k2, k3, k4]) rfl ⟨8, 2, 9, mid8, s, ga, gn, gc, by decide, by decide, by decide, by decide, may8, rfl, hC.cd o5.drew hb3, ⟨X, pol_cd hX o5.drew hb3, hX2⟩, by rw [e9]; exact (B3.trans (o5.below (Nat.le_refl _))).drew⟩
end Go.Proofs.YtnmallpimbpagaaDoor.Enc
/- The examples of chapter 6, as the statements ask them first of all. By the verifier of shale. -/
namespace Go.Proofs.YtnmallpimbpagaaDoor.Enc
open Go Go.RowKit Bin Cos
set_option linter.unusedVariables false
instance mid5 : Pl.Mid 5 := ⟨by decide, by decide⟩
instance mid4 : Pl.Mid 4 := ⟨by decide, by decide⟩
theorem may5 : May 5 2 2 := ⟨by decide, by decide, by decide, by decide, by decide +kernel, by decide +kernel⟩
theorem no4 : MayNot 4 2 1 := ⟨by decide, by decide, by decide, by decide, by decide +kernel⟩
theorem d5 : deg 5 2 = 10 := by decide +kernel
theorem lit8 (w W : World) (Y : List (BitVec 8)) (hW : W = w.alloc (obj8 Y)) : Blk8 W w.heap.size Y ∧ Below w.heap.size w W := by
  subst hW
  exact ⟨Blk8.new w Y, (Below.refl _ _).alloc (Nat.le_refl _) _⟩
theorem g5a : byN (prt (gen 5 2) (deg 5 2) (val [0#8, 0#8])) (pb (deg 5 2)) = [0#8, 0#8] := by decide +kernel
theorem g5b : byN (prt (gen 5 2) (deg 5 2) (val [1#8, 0#8])) (pb (deg 5 2)) = [105#8, 3#8] := by decide +kernel
theorem same_blk {w : World} {X Y : List (BitVec 8)} {v u : Value} (h1 : IsBytes w v X) (h2 : IsBytes w u Y) :
    Calls Tryd.prog 17 #[v, u] w fun e w' => e = .returned (.bool (decide (X = Y))) ∧ w = w' := by
  refine (same_any X Y _ _ w (Str8.of h1) (Str8.of h2)).mono ?_
  rintro e w' ⟨rfl, rfl⟩
  exact ⟨rfl, rfl⟩
set_option maxRecDepth 100000 in
set_option maxHeartbeats 2000000 in
theorem first_any (w : World) (y : Addr) (E : ErrAt w 2 y) :
    Calls Tryd.prog 9 #[] w fun e w' => e = .returned (.bool true) ∧ Below w.heap.size w w' := by
  go_enter Tryd.func9, Tryd.ntmps9
  go_wp2_with fail
  refine (new_any (m := 5) may5 w y E).mono ?_
  rintro e w1 ⟨s, rfl, C, b, _⟩
  replace E := E.below b
  have B := b
  clear b
  go_wp2_with fail
  generalize hw : w1.alloc (.cells #[.int .u8 0, .int .u8 0] 5 (0, 0)) = w2
  obtain ⟨h2, b⟩ := lit8 w1 w2 [0#8, 0#8] hw.symm
  clear hw
  replace E := E.below b
  replace C := C.below b
  replace B := B.trans (b.mono B.size)
  clear b
  refine (serial_any (m := 5) (by decide) (by decide) w2 s C _ 2 [0#8, 0#8] (blk_pol h2 rfl (by decide)) (by decide)).mono ?_
  rintro e w3 ⟨g3, rfl, P3, b, _⟩
  rw [g5a] at P3
  replace E := E.below b
  replace C := C.below b
  replace B := B.trans (b.mono B.size)
  clear b h2
  go_wp2_with fail
  generalize hw : w3.alloc (.cells #[.int .u8 1, .int .u8 0] 5 (0, 0)) = w4
  obtain ⟨h4, b⟩ := lit8 w3 w4 [1#8, 0#8] hw.symm
  clear hw
  replace P3 : Blk8 w4 g3 [0#8, 0#8] := (b.block g3 P3.lt).trans P3
  replace E := E.below b
  replace C := C.below b
  replace B := B.trans (b.mono B.size)
  clear b
  refine (fast_any (m := 5) (by decide) (by decide) w4 s C _ 2 [1#8, 0#8] (blk_pol h4 rfl (by decide)) (by decide)).mono ?_
  rintro e w5 ⟨g5, rfl, P5, b, _⟩
  rw [g5b] at P5
  replace P3 : Blk8 w5 g3 [0#8, 0#8] := (b.block g3 P3.lt).trans P3
  replace E := E.below b
  replace C := C.below b
  replace B := B.trans (b.mono B.size)
  clear b h4
  go_wp2_with fail
  refine (new_no (m := 4) no4 w5 y E).mono ?_
  rintro e w6 ⟨rfl, b⟩
  replace P3 : Blk8 w6 g3 [0#8, 0#8] := (b.block g3 P3.lt).trans P3
  replace P5 : Blk8 w6 g5 [105#8, 3#8] := (b.block g5 P5.lt).trans P5
  replace E := E.below b
  replace C := C.below b
  replace B := B.trans (b.mono B.size)
  clear b
  go_wp2_with fail
  refine (degree_code w6 s C).mono ?_
  rintro e w' ⟨rfl, rfl⟩
  rw [d5]
  go_wp2_with fail
  refine (bits_code w6 s C (by decide) (by decide)).mono ?_
  rintro e w7 ⟨rfl, d⟩
  rw [d5]
  have b := d.below w6.heap.size
  replace P3 : Blk8 w7 g3 [0#8, 0#8] := (b.block g3 P3.lt).trans P3
  replace P5 : Blk8 w7 g5 [105#8, 3#8] := (b.block g5 P5.lt).trans P5
  replace E := E.below b
  replace C := C.below b
  replace B := B.trans (b.mono B.size)
  clear b d
  go_wp2_with fail
  refine (parityB_any w7 s C (by decide)).mono ?_
  rintro e w' ⟨rfl, rfl⟩
  rw [show pb (deg 5 2) = 2 by rw [d5]; rfl]
  go_wp2_with fail
  generalize hw : w7.alloc (.cells #[.int .u8 0, .int .u8 0] 5 (0, 0)) = w8
  obtain ⟨h8, b⟩ := lit8 w7 w8 [0#8, 0#8] hw.symm
  clear hw
  replace P3 : Blk8 w8 g3 [0#8, 0#8] := (b.block g3 P3.lt).trans P3
  replace P5 : Blk8 w8 g5 [105#8, 3#8] := (b.block g5 P5.lt).trans P5
  replace E := E.below b
  replace B := B.trans (b.mono B.size)
  clear b C
  refine (same_blk (blk_arg P3 rfl) (blk_arg h8 rfl)).mono ?_
  rintro e w' ⟨rfl, rfl⟩
  rw [decide_eq_true rfl]
  clear P3 h8
  go_wp2_with fail
  generalize hw : w8.alloc (.cells #[.int .u8 105, .int .u8 3] 5 (0, 0)) = w9
  obtain ⟨h9, b⟩ := lit8 w8 w9 [105#8, 3#8] hw.symm
  clear hw
  replace P5 : Blk8 w9 g5 [105#8, 3#8] := (b.block g5 P5.lt).trans P5
  replace E := E.below b
  replace B := B.trans (b.mono B.size)
  clear b
  refine (same_blk (blk_arg P5 rfl) (blk_arg h9 rfl)).mono ?_
  rintro e w' ⟨rfl, rfl⟩
  rw [decide_eq_true rfl]
  clear P5 h9
  have e1 := E.1
  unfold Sent at e1
  have q1 := eql_err y
  go_wp2_with fail
  go_ret
  exact ⟨rfl, B⟩
end Go.Proofs.YtnmallpimbpagaaDoor.Enc
/- Small words for the walks of stage 6's statements. By the verifier of shale. -/
namespace Go.Proofs.YtnmallpimbpagaaDoor.Enc
open Go Go.RowKit Bin Cos
set_option linter.unusedVariables false
theorem keepB {w w' : World} {g : Nat} {o : Obj} (h : w.heap[g]? = some o) (b : Below w.heap.size w w') : w'.heap[g]? = some o := (b.block g (lt_of_block h)).trans h
theorem keepZ {w w' : World} {g : Nat} {l : List (BitVec 8)} (h : Blk8 w g l) (b : Below w.heap.size w w') : Blk8 w' g l := (b.block g h.lt).trans h
theorem newCd (w W : World) (a b c d e : Value) (h : w.alloc (.cells #[a, b, c, d, e] 26 (0, 0)) = W) : W.heap[w.heap.size]? = some (cdO a b c d e) ∧ Below w.heap.size w W := by
  subst h
  exact ⟨heap_alloc_new w _, (Below.refl _ _).alloc (Nat.le_refl _) _⟩
theorem shiftE {w : World} {k : Nat} {a : Option Addr} {n c v : Nat} (q : Nat) (h : PolV w k a n c v) (hk : k ≤ 40) (hq : q ≤ 511) (K : Nat) (hK : 8 * k + q ≤ 8 * K) :
    Calls Tryd.prog 25 #[.slice a n c, .int .i64 (q : Int)] w fun e w' => ∃ a n c, e = .returned (.tuple #[.slice a n c, .nilIface]) ∧ NewV w w' K a n c (v <<< q) ∧ Below w.heap.size w w' := by
  have hl : v <<< q < room K := by
    have h1 := h.lt
    unfold room at h1 ⊢
    rw [Nat.shiftLeft_eq]
    have h2 : v * 2 ^ q < 2 ^ (8 * k) * 2 ^ q := Nat.mul_lt_mul_of_pos_right h1 (Nat.two_pow_pos q)
    rw [← Nat.pow_add] at h2
    exact Nat.lt_of_lt_of_le h2 (Nat.pow_le_pow_right (by decide) hK)
  obtain ⟨X, h1, rfl, h3⟩ := h
  by_cases h0 : val X = 0
  · refine (shift_none a n c X _ w h1 (by omega) (Or.inl h0)).mono ?_
    rintro e w1 ⟨rfl, rfl⟩
    exact ⟨none, 0, 0, rfl, ⟨[], ⟨rfl, Nat.le_refl _, by decide, Or.inl ⟨rfl, rfl, rfl⟩⟩, bare_nil, by rw [h0, Nat.zero_shiftLeft]; rfl, Nat.zero_le _⟩, Below.refl _ _⟩
  · have hd := deg_len h0
    have := h1.hlen
    refine (shift_up a n c X q w h1 (by omega) h0 (by omega)).mono ?_
    rintro e w1 ⟨a', n', c', Y, rfl, hY, bY, vY, b⟩
    exact ⟨a', n', c', rfl, newV hY bY vY K hl, b⟩
theorem pb_room {D R : Nat} (h : R < 2 ^ D) : R < 2 ^ (8 * pb D) := Nat.lt_of_lt_of_le h (Nat.pow_le_pow_right (by decide) (by unfold pb; omega))
theorem parV {w : World} {g D R : Nat} (k : Nat) (h : Blk8 w g (byN R (pb D))) (hR : R < 2 ^ D) (hk : pb D ≤ k) (hk2 : k ≤ 100000) : PolV w k (some ⟨g, 0, none⟩) (pb D) (pb D) R :=
  ⟨_, blk_pol h (byN_length _ _).symm (by omega), val_byN (pb_room hR), hk⟩
theorem blkV {w : World} {g n : Nat} {X : List (BitVec 8)} (k : Nat) (h : Blk8 w g X) (hn : n = X.length) (hk : n ≤ k) (hk2 : k ≤ 100000) : PolV w k (some ⟨g, 0, none⟩) n n (val X) := ⟨X, blk_pol h hn (by omega), rfl, hk⟩
theorem deg_degZ {g D : Nat} (h : Deg g D) : degZ g = (D : Int) := by
  rw [degZ_ne (by have := h.pos; omega), h.log2]
end Go.Proofs.YtnmallpimbpagaaDoor.Enc
/- Structs of integers that came in by value. By the verifier of shale. -/
namespace Go.Proofs.YtnmallpimbpagaaDoor
open Go Go.RowKit Go.ChangeShapes Go.WideShapes Go.Deep
/-- a struct of integers alone, handed in by value: its cells are integers that fit. -/
theorem open_ints_struct {H : Type} {enc : TypeId × Value → H} {P : Program} {w : World} {base b0 : Nat} {spare : Nat → Bool} {held : Bool} {r : Reach} {k : IntKind} {t : TypeId} {fs : Array Field} {v : Value} {d : DataW H} {p : List MemPlace}
    (hs : P.underlying t = some (.struct fs)) (hone : oneCellFields P fs = true) (hC : P.cellsOf t = fs.size) (hi : ∀ (j : Nat) (f : Field), fs[j]? = some f → P.underlying f.type = some (.int k))
    (hv : Value.okWide P w r b0 t v) (h : DataW.Trod enc P w base spare held t v d p) :
    ∃ n : Nat → Int, v = .agg ((List.range fs.size).map fun i => .int k (n i)).toArray ∧ ∀ i, i < fs.size → (Lit.int k (n i)).wf = true := by
  obtain ⟨cs, rfl, hsz⟩ := okWide_struct hs hv
  obtain ⟨fuel, hf⟩ := h
  obtain ⟨xs, n, _, _, hl, _, hg⟩ := DataW.trod_struct hs hf
  have each : ∀ j, j < fs.size → ∃ m, cs[j]? = some (.int k m) ∧ (Lit.int k m).wf = true := by
    intro j hj
    have hf0 : fs[j]? = some (fs[j]'hj) := Array.getElem?_eq_getElem hj
    obtain ⟨o, c⟩ := hone_of hone j _ hf0
    have g := hg j _ hf0
    rw [o, c] at g
    have hx : j < xs.length := by omega
    rw [List.getElem?_eq_getElem hx] at g
    obtain ⟨m, e, _, hw⟩ := DataW.trod_int (hi j _ hf0) g
    refine ⟨m, ?_, hw⟩
    have hj2 : j < cs.toList.length := by rw [Array.length_toList]; omega
    have e2 : (cs.toList.drop j).take 1 = [.int k m] := by simpa [Value.cells] using e
    rw [List.drop_eq_getElem_cons hj2] at e2
    simp only [List.take_succ_cons, List.take_zero, List.cons.injEq, and_true] at e2
    rw [Array.getElem?_eq_getElem (by simpa using hj2)]
    congr 1
  refine ⟨fun j => match cs[j]? with | some (.int _ m) => m | _ => 0, ?_, fun i hi => ?_⟩
  · congr 1
    apply Array.ext_getElem?
    intro j
    by_cases hj : j < fs.size
    · obtain ⟨m, e, _⟩ := each j hj
      rw [e]
      simp [hj, e]
    · have h1 : cs.size ≤ j := by omega
      rw [Array.getElem?_eq_none h1, Array.getElem?_eq_none (by simp; omega)]
  · obtain ⟨m, e, hw⟩ := each i hi
    simp only [e]
    exact hw
end Go.Proofs.YtnmallpimbpagaaDoor
/- A turned coefficient, in data and parity. By the verifier of shale. -/
namespace Go.Proofs.YtnmallpimbpagaaDoor.Enc
open Go Go.RowKit Bin Cos
set_option linter.unusedVariables false
/-- what turning coefficient k turns in the data, and in the parity. -/
def ed (D k : Nat) : Nat := if k < D then 0 else 2 ^ (k - D)
def ep (D k : Nat) : Nat := if k < D then 2 ^ k else 0
theorem ep_lt (D k : Nat) : ep D k < 2 ^ D := by
  unfold ep
  split
  · exact Nat.pow_lt_pow_right (by decide) (by assumption)
  · exact Nat.two_pow_pos D
theorem e_word (D k : Nat) : wrd D (ed D k) (ep D k) = 2 ^ k := by
  unfold wrd ed ep
  by_cases h : k < D
  · rw [if_pos h, if_pos h, Nat.zero_shiftLeft, Nat.zero_xor]
  · rw [if_neg h, if_neg h, Nat.xor_zero, Nat.shiftLeft_eq, ← Nat.pow_add, show k - D + D = k by omega]
theorem wrd_xor (D a b c d : Nat) : wrd D (a ^^^ b) (c ^^^ d) = wrd D a c ^^^ wrd D b d := by
  unfold wrd
  rw [shl_xor, xx]
theorem xor_lc {a b c : Nat} (h : a ^^^ b = a ^^^ c) : b = c := by
  have := congrArg (fun z => a ^^^ z) h
  simp only [← Nat.xor_assoc, Nat.xor_self, Nat.zero_xor] at this
  exact this
theorem e_inj {D k j : Nat} (h1 : ed D k = ed D j) (h2 : ep D k = ep D j) : k = j := by
  have h : 2 ^ k = 2 ^ j := by rw [← e_word D k, ← e_word D j, h1, h2]
  exact (Nat.pow_right_inj (by decide)).1 h
theorem pop_e {D k n : Nat} (hk : k < 8 * n + D) : pop (ed D k) (8 * n) + pop (ep D k) (8 * pb D) = 1 := by
  unfold ed ep
  by_cases h : k < D
  · rw [if_pos h, if_pos h, pop_zero, pop_one, if_pos (by unfold pb; omega)]
  · rw [if_neg h, if_neg h, pop_zero, pop_one, if_pos (by omega)]
section
variable {m : Nat} [M : Pl.Mid m]
/-- one turned coefficient makes a right word wrong. -/
theorem turn_wrong {t n k X X' : Nat} {Y' : List (BitVec 8)} (ht : 1 ≤ t) (hn : n + deg m t ≤ sz m) (hk : k < n + deg m t) (hX : X' = X ^^^ ed (deg m t) k)
    (hY : val Y' = prt (gen m t) (deg m t) X ^^^ ep (deg m t) k) : byN (prt (gen m t) (deg m t) X') (pb (deg m t)) ≠ Y' := by
  intro h
  have hg := gen_deg (m := m) t
  have hv : val Y' = prt (gen m t) (deg m t) X' := by rw [← h, val_byN (pb_room (prt_lt hg _))]
  have hw : wrd (deg m t) X' (val Y') = wrd (deg m t) X (prt (gen m t) (deg m t) X) ^^^ 2 ^ k := by rw [hX, hY, wrd_xor, e_word]
  refine turned (m := m) (t := t) (X := X) (e := 2 ^ k) (n := n) (Nat.pow_lt_pow_right (by decide) hk) (by have := Nat.two_pow_pos k; omega) hn ?_ ?_
  · rw [pop_one, if_pos hk]; omega
  · rw [← hw, hv]; exact wrd_dvd hg X'
end
theorem FlipAt.ed {D n P k vl vq : Nat} {w w' : World} {e : Ending} (h : FlipAt D n P k vl vq w e w') :
    ∃ a1 c1 X a2 c2 Y, e = .returned (.tuple #[.slice a1 n c1, .slice a2 P c2, .nilIface]) ∧ NewP w w' a1 n c1 X ∧ NewP w w' a2 P c2 Y ∧ val X = vl ^^^ ed D k ∧ val Y = vq ^^^ ep D k ∧ Below w.heap.size w w' := h
theorem NewP.keep {w0 w w' : World} {a : Option Addr} {n c : Nat} {X : List (BitVec 8)} (h : NewP w0 w a n c X) (b : Below w.heap.size w w') : NewP w0 w' a n c X := by
  refine ⟨h.hlen, h.hcap, h.hmost, ?_⟩
  rcases h.own with h | ⟨g, e, hg, hx⟩
  · exact Or.inl h
  · exact Or.inr ⟨g, e, hg, hx.below b hx.lt⟩
theorem pop_le (v n : Nat) : pop v n ≤ n := by
  unfold pop plc
  have := List.length_filter_le (fun i => v.testBit i) (List.range n)
  rwa [List.length_range] at this
/-- a number brought into 0 .. N - 1 as the statements do, N no literal. -/
theorem norm_var (z : Int) (N : Nat) (h0 : 0 < N) (hN : N ≤ 1000000) : -(N : Int) < z.tmod (N : Int) ∧ z.tmod (N : Int) < (N : Int) ∧ ∃ k : Nat, k < N ∧ (z.tmod (N : Int) + (N : Int)).tmod (N : Int) = (k : Int) := by
  have h1 : z.tmod (N : Int) < (N : Int) := Int.tmod_lt_of_pos z (by omega)
  have h2 : -(N : Int) < z.tmod (N : Int) := by
    have := Int.tmod_lt_of_pos (-z) (b := (N : Int)) (by omega)
    rw [Int.neg_tmod] at this
    omega
  have h3 := Int.tmod_lt_of_pos (z.tmod (N : Int) + (N : Int)) (b := (N : Int)) (by omega)
  have h4 := Int.tmod_nonneg (N : Int) (a := z.tmod (N : Int) + (N : Int)) (by omega)
  exact ⟨h2, h1, ((z.tmod (N : Int) + (N : Int)).tmod (N : Int)).toNat, by omega, by omega⟩
end Go.Proofs.YtnmallpimbpagaaDoor.Enc
/- The walk over the reference's Flip. By the verifier of shale. -/
namespace Go.Proofs.YtnmallpimbpagaaDoor.Enc
open Go Go.RowKit Bin Cos
set_option linter.unusedVariables false
set_option maxRecDepth 100000 in
theorem neq_err (a : Addr) (w : World) : (binOp .neq 30 (errOf a) (errOf a)).run Tryd.prog w = .ok (.bool false) w := by
  obtain ⟨i, hi, hc⟩ := Option.map_eq_some_iff.1 compErr
  obtain ⟨j, hj, _⟩ := Option.map_eq_some_iff.1 sizeErr
  simp only [binOp]
  simp [Op.equal, Op.maxDepth, run_equalIn_iface_ptr_same w 9998 a Tryd.underlying30 Tryd.underlying148 hi hc hj]
/-- both lists with a bit turned, in place. -/
def RFlipAt (n P D k gd gp base vx vy : Nat) (w : World) (e : Ending) (w' : World) : Prop := e = .returned (.tuple #[]) ∧ ∃ X' Y', X'.length = n ∧ Y'.length = P ∧ val X' = vx ^^^ ed D k ∧ val Y' = vy ^^^ ep D k ∧ Blk8 w' gd X' ∧ Blk8 w' gp Y' ∧ Below base w w'
section
attribute [local go_sem] Bits32.bxor Bits32.bxor_bit
set_option maxRecDepth 100000 in
set_option maxHeartbeats 2000000 in
theorem rflip_any (m t n : Nat) (ga : Option Addr) (gn gc D P : Nat) (hD : D ≤ 1000) (hP : P = pb D) (gd gp : Nat) (X Y : List (BitVec 8)) (k : Nat) (hk : k < 8 * n + D) (hn : n ≤ 2048) (w : World) (hX : Blk8 w gd X) (hY : Blk8 w gp Y) (hXl : X.length = n) (hYl : Y.length = P) (hne : gd ≠ gp) (base : Nat) (h1 : base ≤ gd) (h2 : base ≤ gp) :
    Calls Tryd.prog 21 #[cdV m t n ga gn gc D, .slice (some ⟨gd, 0, none⟩) n n, .slice (some ⟨gp, 0, none⟩) P P, .int .i64 (k : Int)] w (RFlipAt n P D k gd gp base (val X) (val Y) w) := by
  have hP2 : P = (D + 7) / 8 := hP
  have hPP := Lib.hid hP2
  have hl1 := hX.lt
  have hl2 := hY.lt
  clear hP hP2
  by_cases hkD : k < D
  · have tD : (k : Int) < (D : Int) := by omega
    have hi : k / 8 < P := by have := hPP.out; omega
    have x1 : (k : Int) / 8 < (P : Int) := by omega
    have x0 : (0 : Int) ≤ (k : Int) := by omega
    have k1 : k ≤ 1000 := by omega
    have d1 := hY.cell (i := k / 8) (by omega)
    have d2 := hY.free (k / 8)
    have hs := hY.set (k / 8) (nth8 Y (k / 8) ^^^ BitVec.twoPow 8 (k % 8))
    have o4 := Only.setCell w ⟨gp, k / 8, none⟩ (.int .u8 (Bits32.b (nth8 Y (k / 8) ^^^ BitVec.twoPow 8 (k % 8))))
    have hv := val_turn Y k (by omega)
    have ho : Blk8 (w.setCell ⟨gp, k / 8, none⟩ (.int .u8 (Bits32.b (nth8 Y (k / 8) ^^^ BitVec.twoPow 8 (k % 8))))) gd X := (o4.block gd hne).trans hX
    have bb : Below base w (w.setCell ⟨gp, k / 8, none⟩ (.int .u8 (Bits32.b (nth8 Y (k / 8) ^^^ BitVec.twoPow 8 (k % 8))))) := o4.below (B := base) h2
    have b4 : Below (World.heap (w.setCell ⟨gp, k / 8, none⟩ (.int .u8 (Bits32.b (nth8 Y (k / 8) ^^^ BitVec.twoPow 8 (k % 8)))))).size (w.setCell ⟨gp, k / 8, none⟩ (.int .u8 (Bits32.b (nth8 Y (k / 8) ^^^ BitVec.twoPow 8 (k % 8))))) (World.alloc (w.setCell ⟨gp, k / 8, none⟩ (.int .u8 (Bits32.b (nth8 Y (k / 8) ^^^ BitVec.twoPow 8 (k % 8))))) (.cells #[.int .i64 (m : Int), .int .i64 (t : Int), .int .i64 (n : Int), .slice ga gn gc, .int .i64 (D : Int)] 26 (0, 0))) := (Below.refl _ _).alloc (Nat.le_refl _) _
    have HE := Lib.hid (And.intro (keepZ hs b4) (And.intro (keepZ ho b4) (bb.trans (b4.mono (by rw [o4.size]; omega)))))
    have HV := Lib.hid hv
    clear hX hY hs o4 hv ho bb b4
    go_enter Tryd.func21, Tryd.ntmps21
    go_wp2_with fail
    go_end0
    exact ⟨rfl, X, Y.set (k / 8) (nth8 Y (k / 8) ^^^ BitVec.twoPow 8 (k % 8)), hXl, by rw [List.length_set]; exact hYl, by unfold ed; rw [if_pos hkD, Nat.xor_zero], by unfold ep; rw [if_pos hkD]; exact HV.out, HE.out.2.1, HE.out.1, HE.out.2.2⟩
  · have tD : ¬ (k : Int) < (D : Int) := by omega
    obtain ⟨j, hj⟩ : ∃ j, j = k - D := ⟨_, rfl⟩
    have ej : (k : Int) - (D : Int) = (j : Int) := by omega
    have hi : j / 8 < n := by omega
    have x1 : (j : Int) / 8 < (n : Int) := by omega
    have x0 : (0 : Int) ≤ (j : Int) := by omega
    have xj : j ≤ 20000 := by omega
    have HJ := Lib.hid hj
    clear hj
    have d1 := hX.cell (i := j / 8) (by omega)
    have d2 := hX.free (j / 8)
    have hs := hX.set (j / 8) (nth8 X (j / 8) ^^^ BitVec.twoPow 8 (j % 8))
    have o4 := Only.setCell w ⟨gd, j / 8, none⟩ (.int .u8 (Bits32.b (nth8 X (j / 8) ^^^ BitVec.twoPow 8 (j % 8))))
    have hv := val_turn X j (by omega)
    have ho : Blk8 (w.setCell ⟨gd, j / 8, none⟩ (.int .u8 (Bits32.b (nth8 X (j / 8) ^^^ BitVec.twoPow 8 (j % 8))))) gp Y := (o4.block gp (Ne.symm hne)).trans hY
    have bb : Below base w (w.setCell ⟨gd, j / 8, none⟩ (.int .u8 (Bits32.b (nth8 X (j / 8) ^^^ BitVec.twoPow 8 (j % 8))))) := o4.below (B := base) h1
    have b4 : Below (World.heap (w.setCell ⟨gd, j / 8, none⟩ (.int .u8 (Bits32.b (nth8 X (j / 8) ^^^ BitVec.twoPow 8 (j % 8)))))).size (w.setCell ⟨gd, j / 8, none⟩ (.int .u8 (Bits32.b (nth8 X (j / 8) ^^^ BitVec.twoPow 8 (j % 8))))) (World.alloc (w.setCell ⟨gd, j / 8, none⟩ (.int .u8 (Bits32.b (nth8 X (j / 8) ^^^ BitVec.twoPow 8 (j % 8))))) (.cells #[.int .i64 (m : Int), .int .i64 (t : Int), .int .i64 (n : Int), .slice ga gn gc, .int .i64 (D : Int)] 26 (0, 0))) := (Below.refl _ _).alloc (Nat.le_refl _) _
    have HE := Lib.hid (And.intro (keepZ hs b4) (And.intro (keepZ ho b4) (bb.trans (b4.mono (by rw [o4.size]; omega)))))
    have HV := Lib.hid hv
    clear hX hY hs o4 hv ho bb b4
    go_enter Tryd.func21, Tryd.ntmps21
    go_wp2_with fail
    go_end0
    exact ⟨rfl, X.set (j / 8) (nth8 X (j / 8) ^^^ BitVec.twoPow 8 (j % 8)), Y, by rw [List.length_set]; exact hXl, hYl, by unfold ed; rw [if_neg hkD, ← HJ.out]; exact HV.out, by unfold ep; rw [if_neg hkD, Nat.xor_zero], HE.out.1, HE.out.2.1, HE.out.2.2⟩
end
end Go.Proofs.YtnmallpimbpagaaDoor.Enc
