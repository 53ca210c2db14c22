/- The walk over package binpoly's Shift, down. By the verifier of shale. -/
import Derived.Test.YtcdhjmmkeiomaaaDoorBinShr
namespace Go.Proofs.YtcdhjmmkeiomaaaDoor.Bin
open Go Go.RowKit
set_option linter.unusedVariables false
section
attribute [local go_sem] bor8
set_option maxRecDepth 100000 in
set_option maxHeartbeats 4000000 in
theorem shift_down (a : Option Addr) (n cap : Nat) (l : List (BitVec 8)) (m : Nat) (w : World) (h : Pol w a n cap l) (hn : n ≤ 200) (h0 : val l ≠ 0) (hm1 : 1 ≤ m) (hm : m ≤ (val l).log2) :
    Calls Tryd.prog 30 #[.slice a n cap, .int .i64 (-(m : Int))] w (GivesPE (val l >>> m) w) := by
  have HP := Lib.hid h
  have hd : degZ (val l) = ((val l).log2 : Int) := by unfold degZ; rw [if_neg h0]
  have HD := Lib.hid (deg_of h0)
  have hL := h.hlen
  have HL := Lib.hid hL
  have hdn := deg_len h0
  obtain ⟨d, hde⟩ : ∃ d, d = (val l).log2 := ⟨_, rfl⟩
  rw [← hde] at hd HD hm hdn
  have hd8 : d < 8 * n := by omega
  obtain ⟨N, hN⟩ : ∃ N, N = (d - m) / 8 + 1 := ⟨_, rfl⟩
  have eN : ((d : Int) - (m : Int)) / 8 + 1 = (N : Int) := by omega
  have eN2 : ((d : Int) + -(m : Int)) / 8 + 1 = (N : Int) := by omega
  have bN : N ≤ 1000 := by omega
  have HN := Lib.hid hN
  have hmk := made8P w N (by omega)
  have t1 : decide ((d : Int) < 0) = false := decide_eq_false (by omega)
  have t2 : decide (-(m : Int) < -(d : Int)) = false := decide_eq_false (by omega)
  have t2' : decide ((d : Int) < (m : Int)) = false := decide_eq_false (by omega)
  have t3 : decide (4096 - (d : Int) < -(m : Int)) = false := decide_eq_false (by omega)
  have t4 : decide (0 ≤ -(m : Int)) = false := decide_eq_false (by omega)
  have t4' : decide ((m : Int) ≤ 0) = false := decide_eq_false (by omega)
  have q0 : 0 ≤ (d : Int) + -(m : Int) := by omega
  have HB0 : Hid (Below w.heap.size w (w.alloc (obj8 (List.replicate N 0)))) := (Below.refl _ _).alloc (Nat.le_refl _) _
  have HK0 : Hid (Blk8 (w.alloc (obj8 (List.replicate N 0))) w.heap.size (List.replicate N 0)) := Blk8.new w _
  have hne : ∀ bb off, a = some ⟨bb, off, none⟩ → n ≠ 0 → bb ≠ w.heap.size := by
    intro bb off e h0
    rcases h.hrow with h | ⟨bb', off', e', _, hlt'⟩
    · omega
    · rw [e] at e'
      simp only [Option.some.injEq, Addr.mk.injEq] at e'
      omega
  have HNE := Lib.hid hne
  obtain ⟨q, hq⟩ : ∃ q, q = m % 8 := ⟨_, rfl⟩
  obtain ⟨r, hr⟩ : ∃ r, r = m / 8 := ⟨_, rfl⟩
  have HMQ : Hid (q = m % 8 ∧ r = m / 8) := ⟨hq, hr⟩
  have eq1 : (m : Int) % 8 = (q : Int) := by omega
  have hq8 : q < 8 := by omega
  clear h h0 hde hN hL hne hr hq
  go_enter Tryd.func30, Tryd.ntmps30
  go_wp2_with fail
  refine (degree_any a n cap l w HP.out (by omega)).mono ?_
  rintro e w1 ⟨rfl, rfl⟩
  rw [hd]
  clear hd
  go_wp2_with fail
  generalize w.alloc (obj8 (List.replicate N 0)) = w1 at HB0 HK0 ⊢
  go_loopg [42] N (fun gh s42 wx => ∃ (k : Nat) (X : List (BitVec 8)), gh = N - k ∧ k ≤ N ∧ s42 = .int .i64 (k : Int) ∧ X.length = N ∧ Hid (∀ i, i < k → nth8 X i = shrB l m i) ∧ Blk8 wx w.heap.size X ∧ Below w.heap.size w wx)
  case atStart => exact ⟨0, List.replicate N 0, rfl, by omega, rfl, by simp, fun i hi => by omega, HK0.out, HB0.out⟩
  case round =>
    obtain ⟨k, X, hg, hk, rfl, hXl, HV, hX, hB⟩ := hrel
    have HG := Lib.hid hg
    have HXL := Lib.hid hXl
    clear hg hXl hmk t1 t2 t2' t3 t4 t4' q0 eN eN2
    by_cases hlt : k < N
    · obtain ⟨bb, off, rfl, hrow, hb⟩ : ∃ bb off, a = some ⟨bb, off, none⟩ ∧ Row8 w bb off l ∧ bb < w.heap.size := by
        rcases HP.out.hrow with h | h
        · omega
        · exact h
      have hbg := HNE.out bb off rfl (by omega)
      obtain ⟨at', hat⟩ : ∃ at', at' = k + r := ⟨_, rfl⟩
      have hatn : at' < n := by have := HMQ.out.2; have := HN.out; omega
      have eat : ((8 : Int) * (k : Int) + (m : Int)) / 8 = (at' : Int) := by have := HMQ.out.2; omega
      have eat2 : ((8 : Int) * (k : Int) - -(m : Int)) / 8 = (at' : Int) := by have := HMQ.out.2; omega
      have c1 := (hrow.below hB hb) at' (by have := HL.out; omega)
      have v2 := hX.cell (i := k) (by have := HXL.out; omega)
      have v3 := hX.free k
      have x1 : (k : Int) < (N : Int) := by omega
      have x0 : (0 : Int) ≤ (k : Int) := by omega
      have x2 : (at' : Int) < (n : Int) := by omega
      have e1 := b_shr (nth8 l at') q
      have HAT := Lib.hid hat
      by_cases hnx : at' + 1 < n
      · have t5 : decide ((at' : Int) + 1 < (n : Int)) = true := decide_eq_true (by omega)
        have c2 := (hrow.below hB hb) (at' + 1) (by have := HL.out; omega)
        obtain ⟨s8, hs8⟩ : ∃ s8, s8 = 8 - q := ⟨_, rfl⟩
        have es8 : (8 : Int) - (q : Int) = (s8 : Int) := by omega
        obtain ⟨x, hx⟩ : ∃ x, x = (nth8 l (at' + 1)).toNat * 2 ^ s8 := ⟨_, rfl⟩
        have hx16 : x < 65536 := by
          rw [hx]
          have h1 : (nth8 l (at' + 1)).toNat * 2 ^ s8 ≤ 255 * 2 ^ 8 := Nat.mul_le_mul (by have := (nth8 l (at' + 1)).isLt; omega) (Nat.pow_le_pow_right (by decide) (by omega))
          omega
        have e3 : IntKind.u16.wrap (Bits32.b (nth8 l (at' + 1)) * 2 ^ s8) = (x : Int) := by
          have : Bits32.b (nth8 l (at' + 1)) * 2 ^ s8 = (x : Int) := by rw [hx]; unfold Bits32.b; rw [Int.natCast_mul, Int.natCast_pow]; rfl
          rw [this]
          show (x : Int) % 65536 = _
          omega
        have e5 : (x : Int) % 256 = Bits32.b (BitVec.ofNat 8 x) := by unfold Bits32.b; rw [BitVec.toNat_ofNat]; omega
        have e4 : IntKind.u8.wrap (x : Int) = Bits32.b (BitVec.ofNat 8 x) := by rw [← e5]; rfl
        have HF : Hid (nth8 l at' >>> q ||| BitVec.ofNat 8 x = shrB l m k) := by
          show _ = _
          unfold shrB
          rw [hx, hs8, hat, ← HMQ.out.1, ← HMQ.out.2]
        obtain ⟨w4, hw4⟩ : ∃ w4, w4 = wr.setCell ⟨w.heap.size, k, none⟩ (.int .u8 (Bits32.b (nth8 l at' >>> q))) := ⟨_, rfl⟩
        have hX4 : Blk8 w4 w.heap.size (X.set k (nth8 l at' >>> q)) := by rw [hw4]; exact hX.set k _
        have hB4 : Below w.heap.size w w4 := by rw [hw4]; exact hB.setCell (p := ⟨w.heap.size, k, none⟩) (Nat.le_refl _) _
        have u2 := hX4.cell (i := k) (by rw [List.length_set]; have := HXL.out; omega)
        rw [nth8_set X k k _ (by have := HXL.out; omega), if_pos rfl] at u2
        have u3 := hX4.free k
        have c4 := (hrow.below hB4 hb) (at' + 1) (by have := HL.out; omega)
        have HW := Lib.hid hw4
        have HX := Lib.hid hX
        have HX4 := Lib.hid hX4
        have HB4 := Lib.hid hB4
        clear hrow hb hat hnx hs8 hx hw4 hX hX4 hB4 c2
        go_upto_region 15 with (fail)
        rw [← HW.out]
        clear c1 v2 v3
        have i4 : (at' : Int) + 1 < (n : Int) := of_decide_eq_true t5
        have i5 : (0 : Int) ≤ (at' : Int) + 1 := by omega
        have i2 : ((at' : Int) + 1).toNat = at' + 1 := by omega
        have i6 : IntKind.u16.wrap (Bits32.b (nth8 l (at' + 1))) = Bits32.b (nth8 l (at' + 1)) := by
          have := Bits32.b_lo (nth8 l (at' + 1)); have := Bits32.b_hi (nth8 l (at' + 1))
          show Bits32.b (nth8 l (at' + 1)) % 65536 = _
          omega
        have i1 : IntKind.i64.wrap ((at' : Int) + 1) = (at' : Int) + 1 := IntWalk.i64_in _ (by omega)
        have i3 : IntKind.i64.wrap (8 - (q : Int)) = (s8 : Int) := by rw [es8]; exact IntWalk.i64_in _ (by omega)
        go_wp2_with fail
        go_region
        all_goals
          go_wp2_with fail
          go_roundg (N - (k + 1))
          case measure => have := HG.out; omega
          case rel => exact ⟨k + 1, _, rfl, by omega, by go_num, by rw [List.length_set, List.length_set]; exact HXL.out, fun i hi => by
              rw [nth8_set _ _ _ _ (by rw [List.length_set]; have := HXL.out; omega)]
              by_cases e : i = k
              · rw [if_pos e, e]; exact HF.out
              · rw [if_neg e, nth8_set _ _ _ _ (by have := HXL.out; omega), if_neg e]; exact HV.out i (by omega), (HX4.out.set k _).drew, (HB4.out.setCell (p := ⟨w.heap.size, k, none⟩) (Nat.le_refl _) _).drew⟩
      · have t5 : decide ((at' : Int) + 1 < (n : Int)) = false := decide_eq_false (by omega)
        have HF : Hid (nth8 l at' >>> q = shrB l m k) := by
          show _ = _
          rw [shrB_near l m k (by have := HMQ.out.2; have := HL.out; omega), hat, ← HMQ.out.1, ← HMQ.out.2]
        clear hrow hb hat hnx
        go_wp2_with fail
        go_roundg (N - (k + 1))
        case measure => have := HG.out; omega
        case rel => exact ⟨k + 1, _, rfl, by omega, by go_num, by rw [List.length_set]; exact HXL.out, fun i hi => by
            rw [nth8_set _ _ _ _ (by have := HXL.out; omega)]
            by_cases e : i = k
            · rw [if_pos e, e]; exact HF.out
            · rw [if_neg e]; exact HV.out i (by omega), hX.set k _, hB.setCell (p := ⟨w.heap.size, k, none⟩) (Nat.le_refl _) _⟩
    · obtain rfl : k = N := by omega
      have HF : Hid (val X = val l >>> m) := val_shr (by rw [HXL.out]; exact Nat.lt_of_lt_of_le HD.out.2 (Nat.pow_le_pow_right (by decide) (by have := HN.out; omega))) (by rw [HXL.out]; exact HV.out)
      go_wp2_with fail
      go_ret2
      exact ⟨_, _, _, X, rfl, ⟨HXL.out.symm, Nat.le_refl _, by unfold maxLen; omega, Or.inr ⟨_, rfl, Nat.le_refl _, buf_of_blk hX⟩⟩, bare_of_deg (d := d - m) (by rw [HF.out]; exact shr_log2 HD.out hm) (by rw [HXL.out]; exact HN.out), HF.out, hB⟩
end
end Go.Proofs.YtcdhjmmkeiomaaaDoor.Bin
