/- The walk over package binpoly's Mul. By the verifier of shale. -/
import Derived.Test.YtcdhjmmkeiomaaaDoorBinAdd
namespace Go.Proofs.YtcdhjmmkeiomaaaDoor.Bin
open Go Go.RowKit
set_option linter.unusedVariables false
theorem val_zeros (n : Nat) : val (List.replicate n 0) = 0 := by
  have : val (List.replicate n (0 : BitVec 8)) = val [] := val_ext fun i => by
    rw [nth8_nil]
    by_cases h : i < n
    · unfold nth8; simp [h]
    · exact nth8_far _ _ (by simp; omega)
  rw [this]; rfl
theorem mod_succ (n k : Nat) : n % 2 ^ (k + 1) = n % 2 ^ k ^^^ (if n.testBit k then 2 ^ k else 0) := by
  apply Nat.eq_of_testBit_eq
  intro i
  rw [Nat.testBit_xor, Nat.testBit_mod_two_pow, Nat.testBit_mod_two_pow]
  by_cases e : i = k
  · subst e
    rw [decide_eq_true (by omega : i < i + 1), decide_eq_false (by omega : ¬ i < i)]
    cases h : n.testBit i <;> simp
  · by_cases h : i < k
    · rw [decide_eq_true (by omega : i < k + 1), decide_eq_true h]
      split
      · rw [Nat.testBit_two_pow_of_ne (by omega)]; simp
      · simp
    · rw [decide_eq_false (by omega : ¬ i < k + 1), decide_eq_false h]
      split
      · rw [Nat.testBit_two_pow_of_ne (by omega)]; simp
      · simp
theorem deg_len {l : List (BitVec 8)} (h : val l ≠ 0) : (val l).log2 < 8 * l.length := by
  have h1 := deg_bare (bare_trim l) (by
    intro h0
    apply h
    rw [← val_trim, List.eq_nil_of_length_eq_zero h0]; rfl)
  rw [val_trim] at h1
  have h2 := h1.log2
  have hc : (nth8 (trimL l) ((trimL l).length - 1)).toNat < 2 ^ 8 := (nth8 (trimL l) ((trimL l).length - 1)).isLt
  have hl : (trimL l).length ≤ l.length := by rw [trimL_length]; exact tl_le _ _
  have h0 : (trimL l).length ≠ 0 := by
    intro h0
    apply h
    rw [← val_trim, List.eq_nil_of_length_eq_zero h0]; rfl
  have : (nth8 (trimL l) ((trimL l).length - 1)).toNat.log2 < 8 := by
    by_cases hz : (nth8 (trimL l) ((trimL l).length - 1)).toNat = 0
    · rw [hz]; decide
    · exact (Nat.log2_lt hz).2 hc
  omega
theorem bare_of_deg {X : List (BitVec 8)} {d : Nat} (h : Deg (val X) d) (hl : X.length = d / 8 + 1) : Bare X := by
  intro _ h0
  have t : (val X).testBit d = true := by
    rw [Nat.testBit_eq_decide_div_mod_eq, decide_eq_true_eq]
    have h3 : val X / 2 ^ d = 1 := by
      have h1 := h.1; have h2 := h.2
      rw [Nat.pow_succ] at h2
      apply Nat.div_eq_of_lt_le <;> omega
    rw [h3]
  rw [val_bit, show d / 8 = X.length - 1 by omega, h0] at t
  simp at t
abbrev GivesPE (v : Nat) (w : World) (e : Ending) (w' : World) : Prop := ∃ a n cap X, e = .returned (.tuple #[.slice a n cap, .nilIface]) ∧ NewP w w' a n cap X ∧ Bare X ∧ val X = v ∧ Below w.heap.size w w'
set_option maxRecDepth 100000 in
set_option maxHeartbeats 2000000 in
theorem mul_any (a1 : Option Addr) (n1 c1 : Nat) (l : List (BitVec 8)) (a2 : Option Addr) (n2 c2 : Nat) (m : List (BitVec 8)) (w : World) (h1 : Pol w a1 n1 c1 l) (h2 : Pol w a2 n2 c2 m) (k1 : n1 ≤ 200) (k2 : n2 ≤ 200) :
    Calls Tryd.prog 12 #[.slice a1 n1 c1, .slice a2 n2 c2] w (GivesPE (pm (val l) (val m)) w) := by
  have HP1 := Lib.hid h1
  have HP2 := Lib.hid h2
  clear h1 h2
  have nilP : NewP w w none 0 0 [] := ⟨rfl, Nat.le_refl _, by decide, Or.inl ⟨rfl, rfl, rfl⟩⟩
  by_cases z1 : val l = 0
  · have hv : pm (val l) (val m) = 0 := by rw [z1, zero_pm]
    have hd : degZ (val l) = -1 := by unfold degZ; rw [if_pos z1]
    have HV := Lib.hid hv
    have HN := Lib.hid nilP
    clear z1 hv nilP
    go_enter Tryd.func12, Tryd.ntmps12
    go_wp2_with fail
    refine (degree_any a1 n1 c1 l w HP1.out (by omega)).mono ?_
    rintro e w1 ⟨rfl, rfl⟩
    rw [hd]
    go_wp2_with fail
    refine (degree_any a2 n2 c2 m w HP2.out (by omega)).mono ?_
    rintro e w1 ⟨rfl, rfl⟩
    go_wp2_with fail
    go_ret2
    exact ⟨none, 0, 0, [], rfl, HN.out, bare_nil, HV.out.symm, Below.refl _ _⟩
  · by_cases z2 : val m = 0
    · have hv : pm (val l) (val m) = 0 := by rw [z2, pm_zero]
      have hd : degZ (val m) = -1 := by unfold degZ; rw [if_pos z2]
      have hd1 : degZ (val l) = ((val l).log2 : Int) := by unfold degZ; rw [if_neg z1]
      have HV := Lib.hid hv
      have HN := Lib.hid nilP
      clear z1 z2 hv nilP
      go_enter Tryd.func12, Tryd.ntmps12
      go_wp2_with fail
      refine (degree_any a1 n1 c1 l w HP1.out (by omega)).mono ?_
      rintro e w1 ⟨rfl, rfl⟩
      rw [hd1]
      have t1 : decide (((val l).log2 : Int) < 0) = false := decide_eq_false (by omega)
      go_wp2_with fail
      refine (degree_any a2 n2 c2 m w HP2.out (by omega)).mono ?_
      rintro e w1 ⟨rfl, rfl⟩
      rw [hd]
      go_wp2_with fail
      go_ret2
      exact ⟨none, 0, 0, [], rfl, HN.out, bare_nil, HV.out.symm, Below.refl _ _⟩
    · have hd1 : degZ (val l) = ((val l).log2 : Int) := by unfold degZ; rw [if_neg z1]
      have hd2 : degZ (val m) = ((val m).log2 : Int) := by unfold degZ; rw [if_neg z2]
      have b1 := deg_len z1
      have b2 := deg_len z2
      have dl := deg_of z1
      have dm := deg_of z2
      have hl1 := HP1.out.hlen
      have hl2 := HP2.out.hlen
      have HDP := Lib.hid (deg_pm dl _ (val m) dm)
      obtain ⟨dA, hdA⟩ : ∃ dA, dA = (val l).log2 := ⟨_, rfl⟩
      obtain ⟨dB, hdB⟩ : ∃ dB, dB = (val m).log2 := ⟨_, rfl⟩
      rw [← hdA] at hd1 b1 dl HDP
      rw [← hdB] at hd2 b2 dm HDP
      have bA : dA < 1600 := by omega
      have bB : dB < 1600 := by omega
      obtain ⟨N, hN⟩ : ∃ N, N = (dA + dB) / 8 + 1 := ⟨_, rfl⟩
      have eN : ((dA : Int) + (dB : Int)) / 8 + 1 = (N : Int) := by omega
      have bN : N ≤ 500 := by omega
      have HN := Lib.hid hN
      have HDL := Lib.hid dl
      have HDM := Lib.hid dm
      have hmk := made8P w N (by omega)
      have t1 : decide ((dA : Int) < 0) = false := decide_eq_false (by omega)
      have t2 : decide ((dB : Int) < 0) = false := decide_eq_false (by omega)
      have t3 : decide ((4096 : Int) < (dA : Int) + (dB : Int)) = false := decide_eq_false (by omega)
      have HB0 : Hid (Below w.heap.size w (w.alloc (obj8 (List.replicate N 0)))) := (Below.refl _ _).alloc (Nat.le_refl _) _
      have HK0 : Hid (Blk8 (w.alloc (obj8 (List.replicate N 0))) w.heap.size (List.replicate N 0)) := Blk8.new w _
      clear z1 z2 hdA hdB hN dl dm b1 b2 nilP hl1 hl2
      go_enter Tryd.func12, Tryd.ntmps12
      go_wp2_with fail
      refine (degree_any a1 n1 c1 l w HP1.out (by omega)).mono ?_
      rintro e w1 ⟨rfl, rfl⟩
      rw [hd1]
      go_wp2_with fail
      refine (degree_any a2 n2 c2 m w HP2.out (by omega)).mono ?_
      rintro e w1 ⟨rfl, rfl⟩
      rw [hd2]
      clear hd1 hd2
      go_wp2_with fail
      go_loopg [33] (dA + 1) (fun gh s33 wx => ∃ (k : Nat) (X : List (BitVec 8)), gh = dA + 1 - k ∧ k ≤ dA + 1 ∧ s33 = .int .i64 (k : Int) ∧ X.length = N ∧ val X = pm (val m) (val l % 2 ^ k) ∧ Buf8 wx w.heap.size X ∧ Below w.heap.size w wx)
      case atStart => exact ⟨0, List.replicate N 0, rfl, by omega, rfl, by simp, by rw [val_zeros, Nat.pow_zero, Nat.mod_one, pm_zero], buf_of_blk HK0.out, HB0.out⟩
      case round =>
        obtain ⟨k, X, hg, hk, rfl, hXl, hXv, hX, hB⟩ := hrel
        have HG := Lib.hid hg
        have HV := Lib.hid hXv
        have HXL := Lib.hid hXl
        clear hg hXv hXl hmk
        by_cases hlt : k < dA + 1
        · have x1 : (k : Int) < (dA : Int) + 1 := by omega
          have x0 : (0 : Int) ≤ (k : Int) := by omega
          have HM := Lib.hid (mod_succ (val l) k)
          have hbz : bitZ l (k : Int) = if (val l).testBit k then 1 else 0 := by unfold bitZ; rw [if_neg (by omega)]; rfl
          rcases Bool.eq_false_or_eq_true ((val l).testBit k) with hb | hb
          · rw [hb] at hbz
            have HBit := Lib.hid hb
            clear hb
            go_wp2_with fail
            refine (bit_any a1 n1 c1 l (k : Int) wr (HP1.out.below hB) (by omega)).mono ?_
            rintro e w1 ⟨rfl, rfl⟩
            rw [hbz]
            go_wp2_with fail
            refine (trim_any a2 n2 c2 m wr (HP2.out.below hB)).mono ?_
            rintro e w1 ⟨rfl, rfl⟩
            go_wp2_with fail
            have hM : val (m.take (tl m n2)) = val m := by
              have := val_trim m
              unfold trimL at this
              rwa [← HP2.out.hlen] at this
            have hq := (HP2.out.below hB).take (tl m n2) (tl_le m n2)
            have hroom : val (m.take (tl m n2)) <<< k < 2 ^ (8 * N) := by
              rw [hM, Nat.shiftLeft_eq]
              have e1 : val m * 2 ^ k < 2 ^ (dB + 1) * 2 ^ k := Nat.mul_lt_mul_of_pos_right HDM.out.2 (Nat.two_pow_pos _)
              rw [← Nat.pow_add] at e1
              exact Nat.lt_of_lt_of_le e1 (Nat.pow_le_pow_right (by decide) (by have := HN.out; omega))
            have hne : ∀ bb off, a2 = some ⟨bb, off, none⟩ → tl m n2 ≠ 0 → bb ≠ w.heap.size := by
              intro bb off e h0
              rcases HP2.out.hrow with h | ⟨bb', off', e', _, hlt'⟩
              · have := tl_le m n2; omega
              · rw [e] at e'
                simp only [Option.some.injEq, Addr.mk.injEq] at e'
                omega
            refine (addShifted_any X (m.take (tl m n2)) w.heap.size N N a2 (tl m n2) c2 k wr hX HXL.out.symm (by omega) hq hne hroom (by omega)).mono ?_
            rintro e w2 ⟨rfl, ⟨Y, hYl, hYv, hY⟩, hO⟩
            have HF : Hid (val Y = pm (val m) (val l % 2 ^ (k + 1))) := by
              show _ = _
              rw [hYv, hM, HV.out, HM.out, HBit.out, if_pos rfl, pm_xor_right, pm_pow]
            have B2 := hB.trans (hO.below (Nat.le_refl _))
            have HYL : Hid (Y.length = N) := hYl.trans HXL.out
            clear hM hq hroom hne hYl hYv hO hX hB
            go_wp2_with fail
            go_roundg (dA + 1 - (k + 1))
            case measure => have := HG.out; omega
            case rel => exact ⟨k + 1, Y, rfl, by omega, by go_num, HYL.out, HF.out, hY, B2⟩
          · rw [hb] at hbz
            have HF : Hid (val X = pm (val m) (val l % 2 ^ (k + 1))) := by
              show _ = _
              rw [HV.out, HM.out, hb]; simp
            clear hb
            go_wp2_with fail
            refine (bit_any a1 n1 c1 l (k : Int) wr (HP1.out.below hB) (by omega)).mono ?_
            rintro e w1 ⟨rfl, rfl⟩
            rw [hbz]
            go_wp2_with fail
            go_roundg (dA + 1 - (k + 1))
            case measure => have := HG.out; omega
            case rel => exact ⟨k + 1, X, rfl, by omega, by go_num, HXL.out, HF.out, hX, hB⟩
        · obtain rfl : k = dA + 1 := by omega
          have HF : Hid (val X = pm (val l) (val m)) := by
            show _ = _
            rw [HV.out, Nat.mod_eq_of_lt HDL.out.2, pm_comm]
          clear HV
          go_wp2_with fail
          go_ret2
          refine ⟨_, _, _, X, rfl, ⟨HXL.out.symm, Nat.le_refl _, by unfold maxLen; omega, Or.inr ⟨_, rfl, Nat.le_refl _, hX⟩⟩, bare_of_deg (d := dA + dB) (by rw [HF.out]; exact HDP.out) (by rw [HXL.out]; exact HN.out), HF.out, hB⟩
end Go.Proofs.YtcdhjmmkeiomaaaDoor.Bin
