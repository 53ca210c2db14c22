/- The walk over package binpoly's DivMod. By the verifier of shale. -/
import Derived.Test.YtcdhjmmkeiomaaaDoorBinTurn
import Derived.Test.YtcdhjmmkeiomaaaDoorErrs
namespace Go.Proofs.YtcdhjmmkeiomaaaDoor.Bin
open Go Go.RowKit
set_option linter.unusedVariables false
theorem lt_of_bit {x i : Nat} (h : x < 2 ^ (i + 1)) (hb : x.testBit i = false) : x < 2 ^ i := by
  apply Nat.lt_pow_two_of_testBit
  intro k hk
  by_cases e : k = i
  · rw [e]; exact hb
  · exact Nat.testBit_lt_two_pow (Nat.lt_of_lt_of_le h (Nat.pow_le_pow_right (by decide) (by omega)))
theorem deg_bit {y i : Nat} (h : Deg y i) : y.testBit i = true := by
  rw [Nat.testBit_eq_decide_div_mod_eq, decide_eq_true_eq]
  have h3 : y / 2 ^ i = 1 := by
    have h1 := h.1; have h2 := h.2
    rw [Nat.pow_succ] at h2
    apply Nat.div_eq_of_lt_le <;> omega
  rw [h3]
theorem clear_top {x y i : Nat} (h : x < 2 ^ (i + 1)) (hb : x.testBit i = true) (hy : Deg y i) : x ^^^ y < 2 ^ i := by
  apply lt_of_bit (Nat.xor_lt_two_pow h hy.2)
  rw [Nat.testBit_xor, hb, deg_bit hy]; rfl
theorem shl_deg {m d : Nat} (h : Deg m d) (k : Nat) : Deg (m <<< k) (d + k) := by
  rw [Nat.shiftLeft_eq]
  constructor
  · rw [Nat.pow_add]; exact Nat.mul_le_mul_right _ h.1
  · rw [show d + k + 1 = (d + 1) + k by omega, Nat.pow_add]; exact Nat.mul_lt_mul_of_pos_right h.2 (Nat.two_pow_pos _)
theorem pow_pm (k m : Nat) : pm (2 ^ k) m = m <<< k := by rw [pm_comm, pm_pow]
theorem isDiv_of_lt {a b q r j : Nat} (hb : Deg b j) (h : a = pm q b ^^^ r) (hr : r < 2 ^ j) : IsDiv a b q r := by
  refine ⟨h, ?_⟩
  by_cases h0 : r = 0
  · exact Or.inl h0
  · exact Or.inr ⟨_, _, deg_of h0, hb, (Nat.log2_lt h0).2 hr⟩
theorem quot_deg {a b q r i j : Nat} (ha : Deg a i) (hb : Deg b j) (hij : j ≤ i) (h : a = pm q b ^^^ r) (hr : r < 2 ^ j) : Deg q (i - j) := by
  have hq : q ≠ 0 := by
    intro h0
    rw [h0, zero_pm, Nat.zero_xor] at h
    have := ha.1
    have := Nat.pow_le_pow_right (n := 2) (by decide) hij
    omega
  have hd := deg_pm (deg_of hq) _ b hb
  have h2 : Deg a (q.log2 + j) := by
    rw [h, Nat.xor_comm]
    have := top_xor (q.log2 + j) r (pm q b) (Nat.lt_of_lt_of_le hr (Nat.pow_le_pow_right (by decide) (by omega))) hd.1 hd.2
    exact this
  have := ha.eq h2
  rw [show i - j = q.log2 by omega]
  exact deg_of hq
/-- quotient and rest, in new memory. -/
abbrev GivesDiv (A B : Nat) (w : World) (e : Ending) (w' : World) : Prop := ∃ a n cap X a' n' cap' Y, e = .returned (.tuple #[.slice a n cap, .slice a' n' cap', .nilIface]) ∧ NewP w w' a n cap X ∧ NewP w w' a' n' cap' Y ∧ Bare X ∧ Bare Y ∧ IsDiv A B (val X) (val Y) ∧ Below w.heap.size w w'
set_option maxRecDepth 100000 in
set_option maxHeartbeats 1000000 in
theorem divmod_zero (a1 : Option Addr) (n1 c1 : Nat) (a2 : Option Addr) (n2 c2 : Nat) (m : List (BitVec 8)) (w : World) (h2 : Pol w a2 n2 c2 m) (k2 : n2 ≤ 200) (hz : val m = 0) (p : Addr) (E : ErrAt w 0 p) :
    Calls Tryd.prog 28 #[.slice a1 n1 c1, .slice a2 n2 c2] w fun e w' => e = .returned (.tuple #[.slice none 0 0, .slice none 0 0, errOf p]) ∧ Drawn w w' := by
  have hd : degZ (val m) = -1 := by unfold degZ; rw [if_pos hz]
  have HP2 := Lib.hid h2
  have e1 := E.1
  unfold Sent at e1
  clear h2 hz E
  go_enter Tryd.func28, Tryd.ntmps28
  go_wp2_with fail
  refine (degree_any a2 n2 c2 m w HP2.out (by omega)).mono ?_
  rintro e w1 ⟨rfl, rfl⟩
  rw [hd]
  go_wp2_with fail
  go_quiet (fail)
  go_wp2_with fail
  go_ret3
  exact ⟨rfl, Drawn.mk _ _⟩
set_option maxRecDepth 100000 in
set_option maxHeartbeats 2000000 in
theorem divmod_any (a1 : Option Addr) (n1 c1 : Nat) (l : List (BitVec 8)) (a2 : Option Addr) (n2 c2 : Nat) (m : List (BitVec 8)) (w : World) (h1 : Pol w a1 n1 c1 l) (h2 : Pol w a2 n2 c2 m) (k1 : n1 ≤ 200) (k2 : n2 ≤ 200) (z2 : val m ≠ 0) :
    Calls Tryd.prog 28 #[.slice a1 n1 c1, .slice a2 n2 c2] w (GivesDiv (val l) (val m) w) := by
  have hd2 : degZ (val m) = ((val m).log2 : Int) := by unfold degZ; rw [if_neg z2]
  have dm := deg_of z2
  have b2 := deg_len z2
  have hl1 := h1.hlen
  have hl2 := h2.hlen
  have htl := tl_le l n1
  have hT : Pol w a1 (tl l n1) c1 (trimL l) := by
    have := h1.take (tl l n1) htl
    unfold trimL
    rwa [← hl1]
  obtain ⟨dB, hdB⟩ : ∃ dB, dB = (val m).log2 := ⟨_, rfl⟩
  rw [← hdB] at hd2 dm b2
  have bB : dB < 1600 := by omega
  have HP1 := Lib.hid h1
  have HP2 := Lib.hid h2
  have HT := Lib.hid hT
  have HDM := Lib.hid dm
  have t2 : decide ((dB : Int) < 0) = false := decide_eq_false (by omega)
  have HL1 := Lib.hid hl1
  have HL2 := Lib.hid hl2
  clear h1 h2 hT z2 hdB b2 dm hl1 hl2
  by_cases hlt : val l < 2 ^ dB
  · have hdz : degZ (val l) < (dB : Int) := by
      unfold degZ
      split
      · omega
      · rename_i h0
        have := (Nat.log2_lt h0).2 hlt
        omega
    have HD : Hid (IsDiv (val l) (val m) 0 (val l)) := isDiv_of_lt HDM.out (by rw [zero_pm, Nat.zero_xor]) hlt
    obtain ⟨z, hz⟩ : ∃ z, z = degZ (val l) := ⟨_, rfl⟩
    have t3 : decide (z < (dB : Int)) = true := decide_eq_true (by rw [hz]; exact hdz)
    have HZ : Hid (degZ (val (trimL l)) = z) := by show _ = _; rw [val_trim, hz]
    clear hlt hdz hz
    go_enter Tryd.func28, Tryd.ntmps28
    go_wp2_with fail
    refine (degree_any a2 n2 c2 m w HP2.out (by omega)).mono ?_
    rintro e w1 ⟨rfl, rfl⟩
    rw [hd2]
    go_wp2_with fail
    refine (trim_any a1 n1 c1 l w HP1.out).mono ?_
    rintro e w1 ⟨rfl, rfl⟩
    go_wp2_with fail
    refine (clone_any a1 (tl l n1) c1 (trimL l) w HT.out (by omega)).mono ?_
    rintro e w2 ⟨ar, cr, rfl, hN, b2⟩
    go_wp2_with fail
    refine (degree_any ar (tl l n1) cr (trimL l) w2 hN.pol (by omega)).mono ?_
    rintro e w3 ⟨rfl, rfl⟩
    rw [HZ.out]
    go_wp2_with fail
    go_ret3
    exact ⟨none, 0, 0, [], ar, _, cr, trimL l, rfl, ⟨rfl, Nat.le_refl _, by decide, Or.inl ⟨rfl, rfl, rfl⟩⟩, hN, bare_nil, bare_trim l, by rw [val_trim]; exact HD.out, b2⟩
  · have z1 : val l ≠ 0 := by intro h; rw [h] at hlt; exact hlt (Nat.two_pow_pos _)
    have hd1 : degZ (val (trimL l)) = ((val l).log2 : Int) := by rw [val_trim]; unfold degZ; rw [if_neg z1]
    have dl := deg_of z1
    have b1 : (val l).log2 < 8 * (trimL l).length := by
      have := deg_len (l := trimL l) (by rw [val_trim]; exact z1)
      rwa [val_trim] at this
    rw [trimL_length, ← HL1.out] at b1
    have hge : dB ≤ (val l).log2 := by
      have := (Nat.le_log2 z1).2 (Nat.le_of_not_lt hlt)
      exact this
    obtain ⟨dA, hdA⟩ : ∃ dA, dA = (val l).log2 := ⟨_, rfl⟩
    rw [← hdA] at hd1 dl b1 hge
    have bA : dA < 1600 := by have := HL1.out; omega
    obtain ⟨N, hN⟩ : ∃ N, N = (dA - dB) / 8 + 1 := ⟨_, rfl⟩
    have eN : ((dA : Int) - (dB : Int)) / 8 + 1 = (N : Int) := by omega
    have bN : N ≤ 500 := by omega
    have HNN := Lib.hid hN
    have HDL := Lib.hid dl
    have HB1 := Lib.hid b1
    have hmk := fun w => made8P w N (by omega)
    have t3 : decide ((dA : Int) < (dB : Int)) = false := decide_eq_false (by omega)
    clear z1 hlt hdA hN dl b1
    go_enter Tryd.func28, Tryd.ntmps28
    go_wp2_with fail
    refine (degree_any a2 n2 c2 m w HP2.out (by omega)).mono ?_
    rintro e w1 ⟨rfl, rfl⟩
    rw [hd2]
    go_wp2_with fail
    refine (trim_any a1 n1 c1 l w HP1.out).mono ?_
    rintro e w1 ⟨rfl, rfl⟩
    go_wp2_with fail
    refine (clone_any a1 (tl l n1) c1 (trimL l) w HT.out (by omega)).mono ?_
    rintro e w2 ⟨ar, cr, rfl, hNr, b2⟩
    go_wp2_with fail
    refine (degree_any ar (tl l n1) cr (trimL l) w2 hNr.pol (by omega)).mono ?_
    rintro e w3 ⟨rfl, rfl⟩
    rw [hd1]
    clear hd1 hd2
    obtain ⟨gr, rfl, hgr, hR0⟩ : ∃ gr, ar = some ⟨gr, 0, none⟩ ∧ w.heap.size ≤ gr ∧ Buf8 w2 gr (trimL l) := by
      rcases hNr.own with ⟨_, h, _⟩ | h
      · have := HB1.out; omega
      · exact h
    have hcr := hNr.hcap
    have hcm := hNr.hmost
    have hlr := hNr.hlen
    have hgq : gr < w2.heap.size := hR0.lt
    obtain ⟨nr, hnr⟩ : ∃ nr, nr = tl l n1 := ⟨_, rfl⟩
    rw [← hnr] at hcr hlr ⊢
    have HB1' : Hid (dA < 8 * nr) := by show _ < _; rw [hnr]; exact HB1.out
    have bnr : nr ≤ 200 := by omega
    have HLR := Lib.hid hlr
    clear hNr HB1 hnr htl hlr
    have b3 := b2.alloc b2.size (obj8 (List.replicate N 0))
    have hR1 : Buf8 (w2.alloc (obj8 (List.replicate N 0))) gr (trimL l) := hR0.below ((Below.refl w2.heap.size w2).alloc (Nat.le_refl _) _) hgq
    have hQ1 : Blk8 (w2.alloc (obj8 (List.replicate N 0))) w2.heap.size (List.replicate N 0) := Blk8.new w2 _
    have HI := Lib.hid (And.intro b3 (And.intro hR1 hQ1))
    have hww : w.heap.size ≤ w2.heap.size := b2.size
    clear b3 hR1 hQ1 hR0 b2
    go_wp2_with fail
    obtain ⟨b3, hR1, hQ1⟩ := HI.out
    clear HI hmk
    generalize w2.alloc (obj8 (List.replicate N 0)) = w3 at b3 hR1 hQ1 ⊢
    generalize w2.heap.size = gq at hgq hQ1 hww ⊢
    try rw [decide_eq_false (show ¬ dA < dB by omega)]
    go_loopg [11] (dA + 1 - dB) (fun gh s11 wx => ∃ (i : Nat) (Q R : List (BitVec 8)), gh = i - dB ∧ dB ≤ i ∧ i ≤ dA + 1 ∧ s11 = .int .i64 ((i : Int) - 1) ∧ Q.length = N ∧ R.length = nr ∧ Buf8 wx gq Q ∧ Buf8 wx gr R ∧ Below w.heap.size w wx ∧ Hid (val l = pm (val Q) (val m) ^^^ val R ∧ val R < 2 ^ i))
    case atStart => exact ⟨dA + 1, List.replicate N 0, trimL l, rfl, by omega, Nat.le_refl _, by congr 1; omega, by simp, HLR.out.symm, buf_of_blk hQ1, hR1, b3, by rw [val_zeros, zero_pm, Nat.zero_xor, val_trim], by rw [val_trim]; exact HDL.out.2⟩
    case round =>
      obtain ⟨i, Q, R, hg, hi0, hi1, rfl, hQl, hRl, hQ, hR, hB, HV⟩ := hrel
      have HG := Lib.hid hg
      have HQL := Lib.hid hQl
      have HRL := Lib.hid hRl
      clear hg hQl hRl b3 hR1 hQ1
      have hpR : Pol wr (some ⟨gr, 0, none⟩) nr cr R := ⟨HRL.out.symm, hcr, hcm, by (intro h; cases h), Or.inr ⟨_, _, rfl, hR.row, hR.lt⟩⟩
      by_cases hend : i = dB
      · subst hend
        have t4 : decide ((i : Int) ≤ (i : Int) - 1) = false := decide_eq_false (by omega)
        go_wp2_with fail
        refine (trim_any _ nr cr R wr hpR).mono ?_
        rintro e w5 ⟨rfl, rfl⟩
        go_wp2_with fail
        go_ret3
        have htl := tl_le R nr
        refine ⟨_, _, _, Q, _, _, _, trimL R, rfl, ⟨HQL.out.symm, Nat.le_refl _, by unfold maxLen; omega, Or.inr ⟨_, rfl, hww, hQ⟩⟩, ⟨by rw [trimL_length, HRL.out], by omega, hcm, Or.inr ⟨_, rfl, hgr, buf_take hR _⟩⟩,
          bare_of_deg (d := dA - i) (quot_deg HDL.out HDM.out hge HV.out.1 HV.out.2) (by rw [HQL.out]; exact HNN.out), bare_trim R, isDiv_of_lt HDM.out (by rw [val_trim]; exact HV.out.1) (by rw [val_trim]; exact HV.out.2), hB⟩
      · obtain ⟨I, rfl⟩ : ∃ I, i = I + 1 := ⟨i - 1, by omega⟩
        obtain ⟨s, hs⟩ : ∃ s, s = I - dB := ⟨_, rfl⟩
        have es : (I : Int) - (dB : Int) = (s : Int) := by omega
        have HS := Lib.hid hs
        have t4 : decide ((dB : Int) ≤ (I : Int)) = true := decide_eq_true (by omega)
        have bs : s < 1600 := by omega
        have bI : I < 1600 := by omega
        have hbz : bitZ R (I : Int) = if (val R).testBit I then 1 else 0 := by unfold bitZ; rw [if_neg (by omega)]; rfl
        clear hs hend
        rcases Bool.eq_false_or_eq_true ((val R).testBit I) with hb | hb
        · rw [hb] at hbz
          have hM : val (m.take (tl m n2)) = val m := by
            have := val_trim m
            unfold trimL at this
            rwa [← HP2.out.hlen] at this
          have hds := shl_deg HDM.out s
          rw [show dB + s = I by have := HS.out; omega] at hds
          have HF : Hid (val l = pm (val Q ^^^ 2 ^ s) (val m) ^^^ (val R ^^^ (val m <<< s)) ∧ val R ^^^ (val m <<< s) < 2 ^ I) := by
            refine ⟨?_, clear_top HV.out.2 hb hds⟩
            rw [pm_xor_left, pow_pm, xx, Nat.xor_assoc, Nat.xor_self, Nat.xor_zero]
            exact HV.out.1
          have hroom : val (m.take (tl m n2)) <<< s < 2 ^ (8 * nr) := by
            rw [hM]
            exact Nat.lt_of_lt_of_le hds.2 (Nat.pow_le_pow_right (by decide) (by have := HB1'.out; omega))
          have HR := Lib.hid hroom
          have HMV := Lib.hid hM
          clear hb hds hroom hM HV
          go_wp2_with fail
          refine (bit_any _ nr cr R (I : Int) wr hpR (by omega)).mono ?_
          rintro e w5 ⟨rfl, rfl⟩
          rw [hbz]
          go_wp2_with fail
          refine (trim_any a2 n2 c2 m wr (HP2.out.below hB)).mono ?_
          rintro e w5 ⟨rfl, rfl⟩
          go_wp2_with fail
          have hq := (HP2.out.below hB).take (tl m n2) (tl_le m n2)
          have hne : ∀ bb off, a2 = some ⟨bb, off, none⟩ → tl m n2 ≠ 0 → bb ≠ gr := by
            intro bb off e h0
            rcases HP2.out.hrow with h | ⟨bb', off', e', _, hlt'⟩
            · have := tl_le m n2; omega
            · rw [e] at e'
              simp only [Option.some.injEq, Addr.mk.injEq] at e'
              omega
          refine (addShifted_any R (m.take (tl m n2)) gr nr cr a2 (tl m n2) c2 s wr hR HRL.out.symm (by omega) hq hne HR.out (by omega)).mono ?_
          rintro e w5 ⟨rfl, ⟨Y, hYl, hYv, hY⟩, hO⟩
          have hQ5 : Buf8 w5 gq Q := by
            obtain ⟨cur, t, e1, e2⟩ := hQ
            exact ⟨cur, t, (hO.block gq (by omega)).trans e1, e2⟩
          have B5 := hB.trans (hO.below hgr)
          have HYV : Hid (val Y = val R ^^^ (val m <<< s)) := by show _ = _; rw [hYv, HMV.out]
          have HYL : Hid (Y.length = nr) := hYl.trans HRL.out
          clear hq hne hYl hYv hO hR hQ hB hpR
          go_wp2_with fail
          refine (turn_any Q gq N N s w5 hQ5 HQL.out.symm (by have := HNN.out; have := HS.out; omega) (by omega)).mono ?_
          rintro e w6 ⟨rfl, ⟨Z, hZl, hZv, hZ⟩, hO6⟩
          have hY6 : Buf8 w6 gr Y := by
            obtain ⟨cur, t, e1, e2⟩ := hY
            exact ⟨cur, t, (hO6.block gr (by omega)).trans e1, e2⟩
          have B6 := B5.trans (hO6.below hww)
          have HZL : Hid (Z.length = N) := hZl.trans HQL.out
          have HF2 : Hid (val l = pm (val Z) (val m) ^^^ val Y ∧ val Y < 2 ^ I) := by
            have h := HF.out
            refine ⟨?_, ?_⟩
            · rw [hZv, HYV.out]; exact h.1
            · rw [HYV.out]; exact h.2
          clear hZl hZv hO6 hY hQ5 B5
          go_wp2_with fail
          go_roundg (I - dB)
          case measure => have := HG.out; omega
          case rel => exact ⟨I, Z, Y, rfl, by omega, by omega, rfl, HZL.out, HYL.out, hZ, hY6, B6, HF2.out⟩
        · rw [hb] at hbz
          have HF : Hid (val l = pm (val Q) (val m) ^^^ val R ∧ val R < 2 ^ I) := ⟨HV.out.1, lt_of_bit HV.out.2 hb⟩
          clear hb HV
          go_wp2_with fail
          refine (bit_any _ nr cr R (I : Int) wr hpR (by omega)).mono ?_
          rintro e w5 ⟨rfl, rfl⟩
          rw [hbz]
          go_wp2_with fail
          go_roundg (I - dB)
          case measure => have := HG.out; omega
          case rel => exact ⟨I, Q, R, rfl, by omega, by omega, rfl, HQL.out, HRL.out, hQ, hR, hB, HF.out⟩
end Go.Proofs.YtcdhjmmkeiomaaaDoor.Bin
