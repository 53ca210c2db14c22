/- The statements' own stream (shaleref13). By the verifier of shale. -/
import Derived.Test.YtggiknecfiaokaaScrFirst
import Derived.Test.YtggiknecfiaokaaOwn8
import Derived.Test.YtggiknecfiaokaaRefBytes
import Derived.Deep.Cut
namespace Go.Proofs.Ytggiknecfiaokaa.Scr
open Go Go.RowKit Bits16
set_option linter.unusedVariables false
theorem e64 (a : BitVec 16) : (BitVec.ofInt 64 (h a)).toNat = a.toNat := by
  rw [BitVec.toNat_ofInt]; unfold h; have := a.isLt; omega
theorem w64 (a : BitVec 16) : IntKind.i64.wrap (h a) = h a := IntWalk.i64_in _ (by have := h_lo a; have := h_hi a; omega)
theorem rxor (a c : BitVec 16) : bits .xor .i64 (h a) (h c) = h (a ^^^ c) := by
  show IntKind.i64.wrap ((BitVec.ofInt 64 (h a) ^^^ BitVec.ofInt 64 (h c)).toNat : Int) = _
  rw [BitVec.toNat_xor, e64, e64, ← BitVec.toNat_xor]; exact w64 _
theorem ror (a c : BitVec 16) : bits .or .i64 (h a) (h c) = h (a ||| c) := by
  show IntKind.i64.wrap ((BitVec.ofInt 64 (h a) ||| BitVec.ofInt 64 (h c)).toNat : Int) = _
  rw [BitVec.toNat_or, e64, e64, ← BitVec.toNat_or]; exact w64 _
theorem rand (a c : BitVec 16) : bits .and .i64 (h a) (h c) = h (a &&& c) := by
  show IntKind.i64.wrap ((BitVec.ofInt 64 (h a) &&& BitVec.ofInt 64 (h c)).toNat : Int) = _
  rw [BitVec.toNat_and, e64, e64, ← BitVec.toNat_and]; exact w64 _
theorem rand1 (a : BitVec 16) : bits .and .i64 (h a) 1 = h (a &&& 1#16) := rand a 1#16
theorem rand16 (z : Int) : bits .and .i64 z 65535 = h (BitVec.ofInt 16 z) := by
  show IntKind.i64.wrap ((BitVec.ofInt 64 z &&& BitVec.ofInt 64 65535).toNat : Int) = _
  rw [BitVec.toNat_and, show (BitVec.ofInt 64 65535).toNat = 2 ^ 16 - 1 by decide, Nat.and_two_pow_sub_one_eq_mod, BitVec.toNat_ofInt]
  unfold h
  rw [BitVec.toNat_ofInt]
  rw [show (((z % ((2 ^ 64 : Nat) : Int)).toNat % 2 ^ 16 : Nat) : Int) = ((z % ((2 ^ 16 : Nat) : Int)).toNat : Int) by omega]
  exact IntWalk.i64_in _ (by omega)
theorem rshr (yk : IntKind) (a : BitVec 16) (n : Nat) (hn : n ≤ 16) (y : Int) (hy : y = (n : Int)) : Op.shift .shr .i64 (h a) yk y = pure (.int .i64 (h (a >>> n))) := by
  subst hy
  rw [shift_shr .i64 yk (h a) _ (by omega) (by show _ ≤ (64 : Int); omega)]
  refine congrArg (fun n => pure (Value.int .i64 n)) ?_
  unfold h
  rw [BitVec.toNat_ushiftRight, Nat.shiftRight_eq_div_pow, Int.toNat_natCast, Int.natCast_ediv, Int.natCast_pow]; rfl
theorem rshr1 (yk : IntKind) (a : BitVec 16) : Op.shift .shr .i64 (h a) yk 1 = pure (.int .i64 (h (a >>> 1))) := rshr yk a 1 (by decide) _ rfl
theorem rshr2 (yk : IntKind) (a : BitVec 16) : Op.shift .shr .i64 (h a) yk 2 = pure (.int .i64 (h (a >>> 2))) := rshr yk a 2 (by decide) _ rfl
theorem rshr3 (yk : IntKind) (a : BitVec 16) : Op.shift .shr .i64 (h a) yk 3 = pure (.int .i64 (h (a >>> 3))) := rshr yk a 3 (by decide) _ rfl
theorem rshr5 (yk : IntKind) (a : BitVec 16) : Op.shift .shr .i64 (h a) yk 5 = pure (.int .i64 (h (a >>> 5))) := rshr yk a 5 (by decide) _ rfl
theorem rshl15 (yk : IntKind) (a : BitVec 16) : Op.shift .shl .i64 (h (a &&& 1#16)) yk 15 = pure (.int .i64 (h (a <<< 15))) := by
  rw [shift_shl .i64 yk (h (a &&& 1#16)) 15 (by decide) (by decide)]
  refine congrArg (fun n => pure (Value.int .i64 n)) ?_
  have h1 : (a &&& 1#16).toNat = a.toNat % 2 := by rw [BitVec.toNat_and]; exact Nat.and_one_is_mod _
  unfold h
  rw [h1, BitVec.toNat_shiftLeft, Nat.shiftLeft_eq]
  rw [show ((2 : Int) ^ (15 : Int).toNat) = 32768 by decide, show (2 : Nat) ^ 15 = 32768 by decide]
  rw [show ((a.toNat % 2 : Nat) : Int) * 32768 = ((a.toNat * 32768 % 2 ^ 16 : Nat) : Int) by omega]
  exact IntWalk.i64_in _ (by omega)
section
attribute [local go_sem] rxor ror rand1 rand16
attribute [local go_sem high] rshr1 rshr2 rshr3 rshr5 rshl15
set_option maxHeartbeats 1000000 in
theorem rstate_any (z : Int) : Gives 9 #[.int .i64 z] (.int .i64 (h (start (BitVec.ofInt 16 z)))) := by
  intro w
  by_cases h0 : BitVec.ofInt 16 z = 0
  · have t : (h (BitVec.ofInt 16 z) == 0) = true := by rw [h0]; rfl
    have e : start (BitVec.ofInt 16 z) = 0xACE1#16 := if_pos h0
    rw [e]
    clear h0 e
    go_enter Try.func9, Try.ntmps9
    go_wp2
    go_ret
    exact ⟨rfl, rfl⟩
  · have t : (h (BitVec.ofInt 16 z) == 0) = false := by
      rw [beq_eq_false_iff_ne]
      intro e
      exact h0 (h_inj _ 0 e)
    have e : start (BitVec.ofInt 16 z) = BitVec.ofInt 16 z := if_neg h0
    rw [e]
    clear h0 e
    go_enter Try.func9, Try.ntmps9
    go_wp2
    go_ret
    exact ⟨rfl, rfl⟩
set_option maxRecDepth 100000 in
set_option maxHeartbeats 1000000 in
theorem rnext_any (x : BitVec 16) : Gives 10 #[.int .i64 (h x)] (.tuple #[.int .i64 (h (lfs 8 x)), .int .i64 (Bits32.b (out x))]) := by
  intro w
  go_enter Try.func10, Try.ntmps10
  go_wp2_with fail
  go_loopg [0, 4, 5] 8 (fun g s0 s4 s5 wx => ∃ k : Nat, k ≤ 8 ∧ g = 8 - k ∧ s5 = .int .i64 (k : Int) ∧ s4 = .int .i64 ((lowN x k : Nat) : Int) ∧ s0 = .int .i64 (h (lfs k x)) ∧ w = wx)
  case atStart => exact ⟨0, by omega, rfl, rfl, by unfold lowN; simp [Nat.mod_one], rfl, rfl⟩
  case round =>
    obtain ⟨k, hk, hg, rfl, rfl, rfl, rfl⟩ := hrel
    have HG := Lib.hid hg
    clear hg
    by_cases hlt : k < 8
    · have hlt' : (k : Int) < 8 := by omega
      have hlt2 : (0 : Int) ≤ (k : Int) := by omega
      have H : Hid (_ = lf (lfs k x)) := (rfl : ((lfs k x) >>> 1) ||| (((lfs k x) ^^^ ((lfs k x) >>> 2) ^^^ ((lfs k x) >>> 3) ^^^ ((lfs k x) >>> 5)) <<< 15) = lf (lfs k x))
      have HO := Lib.hid (or_low x k hlt)
      have HS := Lib.hid (lfs_succ k x)
      go_wp2
      go_roundg (8 - (k + 1))
      case measure => have := HG.out; omega
      case rel => exact ⟨k + 1, by omega, rfl, by go_num, by rw [HO.out], by rw [HS.out, ← H.out], rfl⟩
    · obtain rfl : k = 8 := by omega
      go_wp2
      go_ret2
      exact ⟨by unfold Bits32.b; rw [lowN_out]; rfl, rfl⟩
set_option maxRecDepth 100000 in
set_option maxHeartbeats 1000000 in
theorem rskip_any (z : Int) (m : Nat) (n : Int) (w : World) (hm : (n = (m : Int) ∧ m ≤ 5000) ∨ (n < 0 ∧ m = 0)) :
    Calls Try.prog 16 #[.int .i64 z, .int .i64 n] w fun e w' =>
      e = .returned (.int .i64 (h (lfs (8 * m) (start (BitVec.ofInt 16 z))))) ∧ w = w' := by
  have t1 : n < 1048576 := by omega
  have t2 : decide ((1048576 : Int) < n) = false := by simp; omega
  go_enter Try.func16, Try.ntmps16
  go_wp2_with fail
  refine (rstate_any z w).mono ?_
  rintro e w1 ⟨rfl, rfl⟩
  go_wp2_with fail
  go_loopg [5, 6] m (fun g s5 s6 wx => ∃ k : Nat, k ≤ m ∧ g = m - k ∧ s6 = .int .i64 (k : Int) ∧ s5 = .int .i64 (h (lfs (8 * k) (start (BitVec.ofInt 16 z)))) ∧ w = wx)
  case atStart => exact ⟨0, Nat.zero_le _, rfl, rfl, rfl, rfl⟩
  case round =>
    obtain ⟨k, hk, hg, rfl, rfl, rfl⟩ := hrel
    have HG := Lib.hid hg
    clear hg
    by_cases hlt : k < m
    · have HM := Lib.hid hm
      have y : (k : Int) < n := by omega
      have HA := Lib.hid (lfs_add 8 (8 * k) (start (BitVec.ofInt 16 z)))
      clear hm
      go_wp2_with fail
      refine (rnext_any _ w).mono ?_
      rintro e w1 ⟨rfl, rfl⟩
      go_wp2
      go_roundg (m - (k + 1))
      case measure => have := HG.out; omega
      case rel => exact ⟨k + 1, by omega, rfl, by go_num, by rw [HA.out, show 8 * k + 8 = 8 * (k + 1) by omega], rfl⟩
    · obtain rfl : k = m := by omega
      have y : n ≤ (k : Int) := by omega
      clear hm
      go_wp2
      go_ret
      exact ⟨rfl, rfl⟩
end
theorem win_cases (n : Int) : (n < 0 ∧ win n = 0) ∨ (0 ≤ n ∧ n ≤ 1073741824 ∧ win n = n) ∨ (1073741824 < n ∧ win n = 1073741824) := by
  unfold win
  split
  · omega
  · split
    · omega
    · omega
theorem mmwin (n : Int) : min (max 0 n) 1073741824 = win n := by
  unfold win
  split
  · omega
  · split <;> omega
theorem mixL_one (l : List (BitVec 8)) (S : BitVec 16) (k : Nat) (hk : k < l.length) :
    mixL S (l.take (k + 1)) = mixL S (l.take k) ++ [nth8 l k ^^^ out (lfs (8 * k) S)] := by
  rw [List.take_succ_eq_append_getElem hk, mixL_append, List.length_take, Nat.min_eq_left (by omega)]
  unfold nth8
  rw [List.getD_eq_getElem?_getD, List.getElem?_eq_getElem hk]
  rfl
section
attribute [local go_sem] Bits32.bxor
set_option maxRecDepth 100000 in
set_option maxHeartbeats 2000000 in
theorem rmix_any (z : Int) (l : List (BitVec 8)) (n cap : Nat) (p : Option Addr) (w : World) (hl : n = l.length) (hn : n ≤ 4000)
    (hr : n = 0 ∨ ∃ bb off, p = some ⟨bb, off, none⟩ ∧ Row8 w bb off l ∧ bb < w.heap.size) :
    Calls Try.prog 14 #[.int .i64 z, .slice p n cap] w fun e w' => ∃ v,
      e = .returned v ∧ Own8 w' w.heap.size v n (mixL (start (BitVec.ofInt 16 z)) l) ∧ Below w.heap.size w w' := by
  obtain ⟨i0, hi, hz0, hz1, hz2⟩ := info8
  have HL := Lib.hid hl
  have hst := rstate_any z
  generalize start (BitVec.ofInt 16 z) = S at hst ⊢
  clear hl
  go_enter Try.func14, Try.ntmps14
  go_wp2_with fail
  refine (hst w).mono ?_
  rintro e w1 ⟨rfl, rfl⟩
  go_wp2_with (at_make; refine wpList_make_own _ rfl _ _ 22 rfl w.heap.size 5 i0 (.int .u8 0) 1 Try.underlying22 hi hz0 hz1 .i64 .i64 _ n rfl rfl (by omega) (by rw [hz2]; omega) (by unfold maxLen; omega) (Nat.le_refl _) ?_; intro w0 hown0 hgrow0)
  have b0 : Below w.heap.size w w0 := (Below.refl _ _).grown hgrow0 (Nat.le_refl _) (by simp)
  have hown0' : Own8 w0 w.heap.size (.slice (some ⟨w.heap.size, 0, none⟩) 0 n) 0 (mixL S (l.take 0)) := hown0
  clear hown0 hgrow0
  go_loopg [5, 6, 7] n (fun g s5 s6 s7 wx => ∃ k : Nat, k ≤ n ∧ g = n - k ∧ s7 = .int .i64 (k : Int) ∧ s5 = .int .i64 (h (lfs (8 * k) S)) ∧ Own8 wx w.heap.size s6 k (mixL S (l.take k)) ∧ Below w.heap.size w wx)
  case atStart => exact ⟨0, Nat.zero_le _, rfl, rfl, rfl, hown0', b0⟩
  case round =>
    obtain ⟨k, hk, hg, rfl, rfl, hown, bw⟩ := hrel
    have HG := Lib.hid hg
    clear hg
    by_cases hlt : k < n
    · rcases hr with hr | ⟨bb, off, rfl, hr, hb⟩
      · omega
      have y1 : (0 : Int) ≤ (k : Int) := by omega
      have y2 : (k : Int) < (n : Int) := by omega
      have c1 := (hr.below bw hb) k (by have := HL.out; omega)
      have HA := Lib.hid (lfs_add 8 (8 * k) S)
      have HM := Lib.hid (mixL_one l S k (by have := HL.out; omega))
      have lo := Bits32.b_lo (out (lfs (8 * k) S))
      have hi2 := Bits32.b_hi (out (lfs (8 * k) S))
      have hbs := bw.size
      go_wp2_with fail
      refine (rnext_any _ wr).mono ?_
      rintro e w1 ⟨rfl, rfl⟩
      go_wp2_with (at_builtin; refine wpList_append_own _ rfl _ _ 22 rfl w.heap.size 5 i0 (.int .u8 0) 1 1 Try.underlying22 hi hz0 hz1 hz2 rfl (by decide) _ k _ rfl (World.ownsRow.alloc hown _) ⟨wr.heap.size, 0, none⟩ 1 1 [.int .u8 (Bits32.b (nth8 l k ^^^ out (lfs (8 * k) S)))] rfl rfl (cell_one_new _ _ _) (ints_oneCell .u8 [_]) (by unfold maxLen; omega) (by omega) (by simp; omega) ?_; intro v7 w7 hown7 hgrow _)
      have hown8 : Own8 w7 w.heap.size v7 (k + 1) (mixL S (l.take (k + 1))) := by
        unfold Own8
        rw [HM.out, ← cells8_append]; exact hown7
      have b7 : Below w.heap.size w w7 := (bw.alloc hbs _).grown hgrow (by simp; omega) (fun g hg => (hown.block g hg).1)
      clear hown7 hgrow
      go_wp2
      go_roundg (n - (k + 1))
      case measure => have := HG.out; omega
      case rel => exact ⟨k + 1, by omega, rfl, by go_num, by rw [HA.out, show 8 * k + 8 = 8 * (k + 1) by omega], hown8, b7⟩
    · obtain rfl : k = n := by omega
      have hown9 : Own8 wr w.heap.size u6 k (mixL S l) := by
        rw [List.take_of_length_le (by have := HL.out; omega)] at hown; exact hown
      go_wp2
      go_ret
      exact ⟨_, rfl, hown9, bw⟩
set_option maxRecDepth 100000 in
set_option maxHeartbeats 2000000 in
theorem rseed_any (b p : Int) (w : World) :
    Calls Try.prog 18 #[.agg #[.int .i64 b, .int .i64 p]] w fun e w' => e = .returned (.int .i64 (seedOf b p)) ∧ Below w.heap.size w w' := by
  have HE : Hid (seedOf b p = (1 + win b * 257 + win p * 31) % 65536) := rfl
  have c1 : (w.alloc (.cells #[.int .i64 b, .int .i64 p] 24)).cell? ⟨w.heap.size, 0, none⟩ = some (.int .i64 b) := by
    unfold World.cell?
    simp only
    rw [heap_alloc_new]
    rfl
  have c2 : (w.alloc (.cells #[.int .i64 b, .int .i64 p] 24)).cell? ⟨w.heap.size, 1, none⟩ = some (.int .i64 p) := by
    unfold World.cell?
    simp only
    rw [heap_alloc_new]
    rfl
  have hb : Below w.heap.size w (w.alloc (.cells #[.int .i64 b, .int .i64 p] 24)) := (Below.refl _ _).alloc (Nat.le_refl _) _
  have HC1 := Lib.hid c1
  have HC2 := Lib.hid c2
  have HB := Lib.hid hb
  clear c1 c2 hb
  rcases win_cases b with ⟨b1, b2⟩ | ⟨b1, b1', b2⟩ | ⟨b1, b2⟩
  all_goals rcases win_cases p with ⟨p1, p2⟩ | ⟨p1, p1', p2⟩ | ⟨p1, p2⟩
  all_goals
    have B2 := Lib.hid b2
    have P2 := Lib.hid p2
    clear b2 p2
    have c1 := HC1.out
    have c2 := HC2.out
    have hb := HB.out
    go_enter Try.func18, Try.ntmps18
    go_wp2_with fail
    generalize w.alloc (.cells #[.int .i64 b, .int .i64 p] 24) = w0 at c1 c2 hb ⊢
    go_wp2
  all_goals go_ret
  all_goals
    refine ⟨congrArg (fun n => Ending.returned (Value.int .i64 n)) ?_, by assumption⟩
    rw [HE.out, B2.out, P2.out]
    first
      | rfl
      | omega
      | (rw [Int.tmod_eq_emod_of_nonneg (by omega)]; omega)
end
end Go.Proofs.Ytggiknecfiaokaa.Scr
