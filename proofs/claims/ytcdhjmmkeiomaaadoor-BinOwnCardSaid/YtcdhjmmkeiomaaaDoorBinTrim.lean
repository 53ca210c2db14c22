/- The walks over package binpoly: trim, Degree, Bit. By the verifier of shale. -/
import Derived.Test.YtcdhjmmkeiomaaaDoorBinVal
import Derived.WalkKit
import Derived.WalkSpells
import Derived.WalkLawsBesides
import Derived.Deep.LoopGhost
import Derived.Deep.Cut
import Derived.BigQuiet
import Derived.Outline
import Derived.Lib.Small
import Derived.Lib.Walk
namespace Go.Proofs.YtcdhjmmkeiomaaaDoor.Bin
open Go Go.RowKit
set_option linter.unusedVariables false
/-- a polynomial that a call is handed: bytes, with room behind them or none. -/
structure Pol (w : World) (a : Option Addr) (n cap : Nat) (l : List (BitVec 8)) : Prop where
  hlen : n = l.length
  hcap : n ≤ cap
  hmost : cap ≤ maxLen
  hnil : a = none → cap = 0
  hrow : n = 0 ∨ ∃ bb off, a = some ⟨bb, off, none⟩ ∧ Row8 w bb off l ∧ bb < w.heap.size
theorem Pol.below {w w' : World} {a : Option Addr} {n cap : Nat} {l : List (BitVec 8)} (h : Pol w a n cap l) (b : Below w.heap.size w w') : Pol w' a n cap l :=
  ⟨h.hlen, h.hcap, h.hmost, h.hnil, by
    rcases h.hrow with h0 | ⟨bb, off, e, hr, hb⟩
    · exact Or.inl h0
    · exact Or.inr ⟨bb, off, e, hr.below b hb, Nat.lt_of_lt_of_le hb b.size⟩⟩
theorem Pol.take {w : World} {a : Option Addr} {n cap : Nat} {l : List (BitVec 8)} (h : Pol w a n cap l) (k : Nat) (hk : k ≤ n) : Pol w a k cap (l.take k) :=
  ⟨by rw [List.length_take]; have := h.hlen; omega, Nat.le_trans hk h.hcap, h.hmost, h.hnil, by
    rcases h.hrow with h0 | ⟨bb, off, e, hr, hb⟩
    · exact Or.inl (by omega)
    · exact Or.inr ⟨bb, off, e, hr.take k, hb⟩⟩
theorem Pol.arg {w : World} {a : Option Addr} {n cap : Nat} {l : List (BitVec 8)} (h : Pol w a n cap l) : Arg8 w (.slice a n cap) l := by
  have hm : l.length ≤ maxLen := by have := h.hlen; have := h.hcap; have := h.hmost; omega
  rcases h.hrow with h0 | ⟨bb, off, rfl, hr, hb⟩
  · have hl : l = [] := List.eq_nil_of_length_eq_zero (by rw [← h.hlen]; exact h0)
    subst hl; subst h0
    exact Arg8.nil _ _ _
  · exact Arg8.whole hr hb h.hlen (by have := h.hlen; omega)
theorem b_eq0 (c : BitVec 8) : (Bits32.b c == 0) = decide (c = 0) := by
  rw [Bool.eq_iff_iff, beq_iff_eq, decide_eq_true_iff]
  unfold Bits32.b
  constructor
  · intro h; apply BitVec.eq_of_toNat_eq; simp; omega
  · intro h; rw [h]; rfl
set_option maxRecDepth 100000 in
set_option maxHeartbeats 1000000 in
theorem trim_any (a : Option Addr) (n cap : Nat) (l : List (BitVec 8)) (w : World) (h : Pol w a n cap l) :
    Calls Tryd.prog 38 #[.slice a n cap] w fun e w' => e = .returned (.slice a (tl l n) cap) ∧ w = w' := by
  have HP := Lib.hid h
  have hm : n ≤ maxLen := Nat.le_trans h.hcap h.hmost
  have hc : n ≤ cap := h.hcap
  unfold maxLen at hm
  clear h
  go_enter Tryd.func38, Tryd.ntmps38
  go_wp2_with fail
  go_loopg [3] n (fun gh s3 wx => ∃ k : Nat, gh = k ∧ k ≤ n ∧ s3 = .int .i64 (k : Int) ∧ tl l k = tl l n ∧ w = wx)
  case atStart => exact ⟨n, rfl, by omega, rfl, rfl, rfl⟩
  case round =>
    obtain ⟨k, hg, hk, rfl, ht, rfl⟩ := hrel
    have HG := Lib.hid hg
    have HT := Lib.hid ht
    clear hg ht
    by_cases hend : k = 0 ∨ nth8 l (k - 1) ≠ 0
    · have hkt : tl l k = k := by
        rcases hend with rfl | h0
        · rfl
        · rcases k with _ | j
          · rfl
          · simp only [tl]; rw [if_neg (by simpa using h0)]
      have HK := Lib.hid (hkt.symm.trans HT.out)
      have y1 : (k : Int) ≤ (cap : Int) := by omega
      have y0 : (0 : Int) ≤ (k : Int) := by omega
      rcases k with _ | j
      · go_wp2_with fail
        go_ret
        exact ⟨by rw [← HK.out]; rfl, rfl⟩
      · have h0 : nth8 l j ≠ 0 := by rcases hend with h | h; exact absurd h (by omega); simpa using h
        obtain ⟨bb, off, rfl, hr, hb⟩ : ∃ bb off, a = some ⟨bb, off, none⟩ ∧ Row8 w bb off l ∧ bb < w.heap.size := by
          rcases HP.out.hrow with h | h
          · omega
          · exact h
        have c1 := hr j (by have := HP.out.hlen; omega)
        have t := b_eq0 (nth8 l j)
        rw [decide_eq_false h0] at t
        have x1 : (j : Int) < (n : Int) := by omega
        clear hend h0 hkt hr hb
        go_wp2_with fail
        go_ret
        exact ⟨by rw [← HK.out]; rfl, rfl⟩
    · rcases k with _ | j
      · exact absurd (Or.inl rfl) hend
      · have h0 : nth8 l j = 0 := Classical.byContradiction fun h => hend (Or.inr (by simpa using h))
        have hkt : tl l (j + 1) = tl l j := by simp only [tl]; rw [if_pos h0]
        have HK := Lib.hid (hkt.symm.trans HT.out)
        obtain ⟨bb, off, rfl, hr, hb⟩ : ∃ bb off, a = some ⟨bb, off, none⟩ ∧ Row8 w bb off l ∧ bb < w.heap.size := by
          rcases HP.out.hrow with h | h
          · omega
          · exact h
        have c1 := hr j (by have := HP.out.hlen; omega)
        have t := b_eq0 (nth8 l j)
        rw [decide_eq_true h0] at t
        have x1 : (j : Int) < (n : Int) := by omega
        clear hend h0 hkt hr hb
        go_wp2_with fail
        go_roundg j
        case measure => have := HG.out; omega
        case rel => exact ⟨j, rfl, by omega, by go_num, HK.out, rfl⟩
theorem wrap64_small (n : Nat) (h : n < 9223372036854775808) : wrap64 (n : Int) = (n : Int) := IntWalk.wrap64_in _ (by omega)
theorem len8_all : ∀ n : Fin 256, (Lib.len8tab[n.val]'(by rw [Lib.len8tab_size]; exact n.isLt)).toNat = Lib.bitLen n.val ∧ Lib.bitLen n.val ≤ 8 := by decide +kernel
theorem pop8_all : ∀ n : Fin 256, (Lib.pop8tab[n.val]'(by rw [Lib.pop8tab_size]; exact n.isLt)).toNat = Lib.onesCount n.val ∧ Lib.onesCount n.val ≤ 8 := by decide +kernel
theorem len8_val (i : Nat) (hi : i < Lib.len8tab.size) : wrap64 ((Lib.len8tab[i]'hi).toNat : Int) = (Lib.bitLen i : Int) := by
  have hi' : i < 256 := by rw [← Lib.len8tab_size]; exact hi
  have := len8_all ⟨i, hi'⟩
  simp only at this
  rw [this.1]
  exact wrap64_small _ (by omega)
theorem pop8_val (i : Nat) (hi : i < Lib.pop8tab.size) : wrap64 ((Lib.pop8tab[i]'hi).toNat : Int) = (Lib.onesCount i : Int) := by
  have hi' : i < 256 := by rw [← Lib.pop8tab_size]; exact hi
  have := pop8_all ⟨i, hi'⟩
  simp only at this
  rw [this.1]
  exact wrap64_small _ (by omega)
theorem b_nat (c : BitVec 8) : (Bits32.b c).toNat = c.toNat := by unfold Bits32.b; omega
set_option maxRecDepth 100000 in
set_option maxHeartbeats 1000000 in
theorem len8_any (c : BitVec 8) (w : World) : Calls Tryd.prog 39 #[.int .u8 (Bits32.b c)] w fun e w' => e = .returned (.int .i64 (Lib.bitLen c.toNat : Int)) ∧ w = w' := by
  have h0 := Bits32.b_lo c
  have h1 := Bits32.b_hi c
  go_enter Tryd.func39, Tryd.ntmps39
  go_wp2
  go_ret
  refine ⟨?_, rfl⟩
  show Ending.returned (Value.int .i64 (wrap64 _)) = _
  rw [len8_val, b_nat]
set_option maxRecDepth 100000 in
set_option maxHeartbeats 1000000 in
theorem ones8_any (c : BitVec 8) (w : World) : Calls Tryd.prog 48 #[.int .u8 (Bits32.b c)] w fun e w' => e = .returned (.int .i64 (Lib.onesCount c.toNat : Int)) ∧ w = w' := by
  have h0 := Bits32.b_lo c
  have h1 := Bits32.b_hi c
  go_enter Tryd.func48, Tryd.ntmps48
  go_wp2
  go_ret
  refine ⟨?_, rfl⟩
  show Ending.returned (Value.int .i64 (wrap64 _)) = _
  rw [pop8_val, b_nat]
set_option maxRecDepth 100000 in
set_option maxHeartbeats 1000000 in
theorem degree_any (a : Option Addr) (n cap : Nat) (l : List (BitVec 8)) (w : World) (h : Pol w a n cap l) (hn : n ≤ 1000000) :
    Calls Tryd.prog 14 #[.slice a n cap] w fun e w' => e = .returned (.int .i64 (degZ (val l))) ∧ w = w' := by
  have hm : n ≤ maxLen := Nat.le_trans h.hcap h.hmost
  have htl : tl l n ≤ n := tl_le l n
  have hlen := h.hlen
  unfold maxLen at hm
  have HP := Lib.hid h
  have HL := Lib.hid hlen
  clear h hlen
  by_cases h0 : tl l n = 0
  · have hd : degZ (val l) = -1 := by
      rw [← val_trim l, List.eq_nil_of_length_eq_zero (show (trimL l).length = 0 by rw [trimL_length, ← HL.out]; exact h0)]; rfl
    rw [hd]
    go_enter Tryd.func14, Tryd.ntmps14
    go_wp2_with fail
    refine (trim_any a n cap l w HP.out).mono ?_
    rintro e w1 ⟨rfl, rfl⟩
    rw [h0]
    go_wp2_with fail
    go_ret
    exact ⟨rfl, rfl⟩
  · obtain ⟨j, hj⟩ : ∃ j, tl l n = j + 1 := ⟨tl l n - 1, by omega⟩
    have hd : degZ (val l) = 8 * (j : Int) - 1 + (Lib.bitLen (nth8 l j).toNat : Int) := by
      have hl : (trimL l).length = j + 1 := by rw [trimL_length, ← HL.out]; exact hj
      have := degZ_bare (bare_trim l) (by omega)
      rw [val_trim, hl, nth8_trim, show j + 1 - 1 = j by omega] at this
      rw [this]
      omega
    obtain ⟨bb, off, rfl, hr, hb⟩ : ∃ bb off, a = some ⟨bb, off, none⟩ ∧ Row8 w bb off l ∧ bb < w.heap.size := by
      rcases HP.out.hrow with h | h
      · omega
      · exact h
    have c1 := hr j (by have := HL.out; omega)
    have hbl : Lib.bitLen (nth8 l j).toNat ≤ 8 := (len8_all ⟨_, (nth8 l j).isLt⟩).2
    have HD := Lib.hid hd
    have HJ := Lib.hid hj
    have hjn : j < n := by omega
    have x1 : (j : Int) < (n : Int) := by omega
    clear hd hj h0 hr hb htl
    go_enter Tryd.func14, Tryd.ntmps14
    go_wp2_with fail
    refine (trim_any _ n cap l w HP.out).mono ?_
    rintro e w1 ⟨rfl, rfl⟩
    rw [HJ.out]
    go_wp2_with fail
    refine (len8_any (nth8 l j) w).mono ?_
    rintro e w1 ⟨rfl, rfl⟩
    generalize hq : Lib.bitLen (nth8 l j).toNat = q at hbl HD ⊢
    clear hq
    go_wp2_with fail
    go_ret
    refine ⟨?_, rfl⟩
    rw [HD.out]
    refine ret_i64 ?_
    omega
/-- the coefficient of x^i. -/
def bitZ (l : List (BitVec 8)) (i : Int) : Int := if i < 0 then 0 else if (val l).testBit i.toNat then 1 else 0
theorem bit_one8 (c : BitVec 8) (j : Nat) (hj : j < 8) : bits .and .u8 (Bits32.b c / 2 ^ j) 1 = (if c.getLsbD j then 1 else 0) := by
  have e : Bits32.b c / 2 ^ j = Bits32.b (c >>> j) := by
    unfold Bits32.b
    rw [BitVec.toNat_ushiftRight, Nat.shiftRight_eq_div_pow, Int.natCast_ediv, Int.natCast_pow]
    rfl
  have e2 : bits .and .u8 (Bits32.b (c >>> j)) 1 = Bits32.b ((c >>> j) &&& 1#8) := by
    show IntKind.u8.wrap (Bits32.b (BitVec.ofInt 8 (Bits32.b (c >>> j)) &&& BitVec.ofInt 8 (Bits32.b 1#8))) = _
    rw [Bits32.ofInt8, Bits32.ofInt8, Bits32.wrap8]
  rw [e, e2]
  have h2 : (c >>> j).getLsbD 0 = c.getLsbD j := by simp
  have h : ((c >>> j) &&& 1#8).toNat = (c >>> j).toNat % 2 := by rw [BitVec.toNat_and]; exact Nat.and_one_is_mod _
  rw [← h2]
  unfold Bits32.b
  rw [h, BitVec.getLsbD, Nat.testBit_zero]
  rcases (by omega : (c >>> j).toNat % 2 = 0 ∨ (c >>> j).toNat % 2 = 1) with h3 | h3 <;> rw [h3] <;> rfl
set_option maxRecDepth 100000 in
set_option maxHeartbeats 1000000 in
theorem bit_any (a : Option Addr) (n cap : Nat) (l : List (BitVec 8)) (i : Int) (w : World) (h : Pol w a n cap l) (hi : i ≤ 9223372036854775807) :
    Calls Tryd.prog 16 #[.slice a n cap, .int .i64 i] w fun e w' => e = .returned (.int .i64 (bitZ l i)) ∧ w = w' := by
  have hm : n ≤ maxLen := Nat.le_trans h.hcap h.hmost
  unfold maxLen at hm
  by_cases h0 : i < 0
  · have hv : bitZ l i = 0 := by unfold bitZ; rw [if_pos h0]
    rw [hv]
    have t := decide_eq_true h0
    clear hv h h0
    go_enter Tryd.func16, Tryd.ntmps16
    go_wp2_with fail
    go_ret
    exact ⟨rfl, rfl⟩
  · obtain ⟨k, rfl⟩ : ∃ k : Nat, i = (k : Int) := ⟨i.toNat, by omega⟩
    have t := decide_eq_false h0
    have hv : bitZ l (k : Int) = if (nth8 l (k / 8)).getLsbD (k % 8) then 1 else 0 := by
      unfold bitZ
      rw [if_neg h0, val_bit]; rfl
    by_cases h1 : k / 8 < n
    · obtain ⟨bb, off, rfl, hr, hb⟩ : ∃ bb off, a = some ⟨bb, off, none⟩ ∧ Row8 w bb off l ∧ bb < w.heap.size := by
        rcases h.hrow with h | h
        · omega
        · exact h
      have c1 := hr (k / 8) (by have := h.hlen; omega)
      have hb1 := bit_one8 (nth8 l (k / 8)) (k % 8) (by omega)
      rw [← hv] at hb1
      have HB := Lib.hid hb1
      have x1 : (k : Int) / 8 < (n : Int) := by omega
      have x0 : (0 : Int) ≤ (k : Int) := by omega
      have z0 : 0 ≤ bitZ l (k : Int) ∧ bitZ l (k : Int) ≤ 1 := by rw [hv]; split <;> omega
      clear hv h hr hb h0 hb1 h1
      go_enter Tryd.func16, Tryd.ntmps16
      go_wp2_with fail
      go_ret
      refine ⟨?_, rfl⟩
      refine ret_i64 ?_
      rw [HB.out]
      exact IntWalk.wrap64_in _ (by omega)
    · have hz : bitZ l (k : Int) = 0 := by
        rw [hv, nth8_far l (k / 8) (by have := h.hlen; omega)]; simp
      rw [hz]
      have x1 : ¬ ((k : Int) / 8 < (n : Int)) := by omega
      have x0 : (0 : Int) ≤ (k : Int) := by omega
      clear hv hz h h0
      go_enter Tryd.func16, Tryd.ntmps16
      go_wp2_with fail
      go_ret
      exact ⟨rfl, rfl⟩
end Go.Proofs.YtcdhjmmkeiomaaaDoor.Bin
