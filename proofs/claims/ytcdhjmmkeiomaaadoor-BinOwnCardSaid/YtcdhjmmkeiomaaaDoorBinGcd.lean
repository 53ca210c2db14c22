/- The walks over package binpoly's Gcd and Same. By the verifier of shale. -/
import Derived.Test.YtcdhjmmkeiomaaaDoorBinDiv
import Derived.Test.YtcdhjmmkeiomaaaDoorRefSame
namespace Go.Proofs.YtcdhjmmkeiomaaaDoor.Bin
open Go Go.RowKit
set_option linter.unusedVariables false
theorem val_lt (l : List (BitVec 8)) : val l < 2 ^ (8 * l.length) := by
  apply Nat.lt_pow_two_of_testBit
  intro i hi
  rw [val_bit, nth8_far l (i / 8) (by omega)]; simp
def room (k : Nat) : Nat := 2 ^ (8 * k)
theorem val_room {l : List (BitVec 8)} {k : Nat} (h : l.length ≤ k) : val l < room k := Nat.lt_of_lt_of_le (val_lt l) (Nat.pow_le_pow_right (by decide) (by omega))
theorem bare_len {X : List (BitVec 8)} (h : Bare X) {k : Nat} (hv : val X < room k) : X.length ≤ k := by
  unfold room at hv
  apply Classical.byContradiction
  intro h0
  have h1 := (deg_bare h (by omega)).1
  have := Nat.pow_le_pow_right (n := 2) (by decide) (show 8 * k ≤ 8 * (X.length - 1) + (nth8 X (X.length - 1)).toNat.log2 by omega)
  omega
theorem Buf8.since {w w' : World} {g : Nat} {X : List (BitVec 8)} (h : Buf8 w g X) (b : Below w.heap.size w w') : Buf8 w' g X := h.below b h.lt
theorem NewP.since {w w1 w2 : World} {a : Option Addr} {n cap : Nat} {X : List (BitVec 8)} (h : NewP w w1 a n cap X) (b : Below w1.heap.size w1 w2) : NewP w w2 a n cap X :=
  ⟨h.hlen, h.hcap, h.hmost, by
    rcases h.own with h1 | ⟨g, e, hg, hb⟩
    · exact Or.inl h1
    · exact Or.inr ⟨g, e, hg, Buf8.since hb b⟩⟩
theorem NewP.from {w0 w w' : World} {a : Option Addr} {n cap : Nat} {X : List (BitVec 8)} (h : NewP w w' a n cap X) (b : w0.heap.size ≤ w.heap.size) : NewP w0 w' a n cap X :=
  ⟨h.hlen, h.hcap, h.hmost, by
    rcases h.own with h1 | ⟨g, e, hg, hb⟩
    · exact Or.inl h1
    · exact Or.inr ⟨g, e, Nat.le_trans b hg, hb⟩⟩
theorem pol_nil (w : World) : Pol w none 0 0 [] := ⟨rfl, Nat.le_refl _, by decide, fun _ => rfl, Or.inl rfl⟩
theorem rest_lt {a b q r : Nat} (h : IsDiv a b q r) (hb : b ≠ 0) : r < b := by
  rcases h.2 with rfl | ⟨i, j, hi, hj, hij⟩
  · omega
  · have h1 := lt_of_deg hi hij
    have h2 := hj.1
    omega
set_option maxRecDepth 100000 in
set_option maxHeartbeats 2000000 in
theorem gcd_any (a1 : Option Addr) (n1 c1 : Nat) (l : List (BitVec 8)) (a2 : Option Addr) (n2 c2 : Nat) (m : List (BitVec 8)) (w : World) (h1 : Pol w a1 n1 c1 l) (h2 : Pol w a2 n2 c2 m) (k1 : n1 ≤ 200) (k2 : n2 ≤ 200) :
    Calls Tryd.prog 24 #[.slice a1 n1 c1, .slice a2 n2 c2] w fun e w' => ∃ a n cap X, e = .returned (.slice a n cap) ∧ NewP w w' a n cap X ∧ Bare X ∧ IsGcd (val l) (val m) (val X) ∧ Below w.heap.size w w' := by
  have HP1 := Lib.hid h1
  have HP2 := Lib.hid h2
  have HV1 : Hid (val l < room 200) := val_room (by have := h1.hlen; omega)
  have HV2 : Hid (val m < room 200) := val_room (by have := h2.hlen; omega)
  clear h1 h2
  go_enter Tryd.func24, Tryd.ntmps24
  go_wp2_with fail
  refine (add_any a1 n1 c1 l none 0 0 [] w HP1.out (pol_nil w) (by omega) (by omega)).mono ?_
  rintro e w1 ⟨aa, na, ca, A, rfl, hA, bA, vA, b1⟩
  go_wp2_with fail
  refine (add_any a2 n2 c2 m none 0 0 [] w1 (HP2.out.below b1) (pol_nil w1) (by omega) (by omega)).mono ?_
  rintro e w2 ⟨ab, nb, cb, B, rfl, hB, bB, vB, b2⟩
  have hA2 := hA.since b2
  have hB2 := hB.from b1.size
  have B2 := b1.trans (b2.mono b1.size)
  have eA : val A = val l := by rw [vA]; exact Nat.xor_zero _
  have eB : val B = val m := by rw [vB]; exact Nat.xor_zero _
  clear hA hB b1 b2 vA vB
  go_wp2_with fail
  go_loopg [5, 6] (val B) (fun gh s5 s6 wx => ∃ (aa ab : Option Addr) (na nb ca cb : Nat) (A B : List (BitVec 8)), gh = val B ∧ s5 = .slice aa na ca ∧ s6 = .slice ab nb cb ∧ NewP w wx aa na ca A ∧ NewP w wx ab nb cb B ∧ Bare A ∧ Bare B ∧ Below w.heap.size w wx ∧
    Hid (val A < room 200 ∧ val B < room 200 ∧ ∀ g, IsGcd (val A) (val B) g → IsGcd (val l) (val m) g))
  case atStart => exact ⟨aa, ab, na, nb, ca, cb, A, B, rfl, rfl, rfl, hA2, hB2, bA, bB, B2, by rw [eA]; exact HV1.out, by rw [eB]; exact HV2.out, by rw [eA, eB]; exact fun g h => h⟩
  case round =>
    clear hA2 hB2 bA bB B2 eA eB
    obtain ⟨aa, ab, na, nb, ca, cb, A, B, hg, rfl, rfl, hA, hB, bA, bB, hW, HI⟩ := hrel
    have HG := Lib.hid hg
    have HNB := Lib.hid hB.hlen
    have HNA := Lib.hid hA.hlen
    clear hg
    by_cases h0 : nb = 0
    · subst h0
      have hv : val B = 0 := by rw [val_nil_iff bB]; exact HNB.out.symm
      go_wp2_with fail
      go_ret
      refine ⟨aa, na, ca, A, rfl, hA, bA, HI.out.2.2 _ ?_, hW⟩
      rw [hv]
      exact IsGcd.right_zero _
    · have hv : val B ≠ 0 := fun h => h0 (by rw [HNB.out]; exact (val_nil_iff bB).1 h)
      have x1 : (0 : Int) < (nb : Int) := by omega
      have la := bare_len bA HI.out.1
      have lb := bare_len bB HI.out.2.1
      rw [← HNA.out] at la
      rw [← HNB.out] at lb
      go_wp2_with fail
      refine (divmod_any aa na ca A ab nb cb B wr hA.pol hB.pol la lb hv).mono ?_
      rintro e w5 ⟨aq, nq, cq, Q, ar, nr, cr, R, rfl, hQ, hR, bQ, bR, hd, b5⟩
      have hlt := rest_lt hd hv
      have HF : Hid (NewP w w5 ab nb cb B ∧ NewP w w5 ar nr cr R ∧ Below w.heap.size w w5) := ⟨hB.since b5, hR.from hW.size, hW.trans (b5.mono hW.size)⟩
      have HI2 : Hid (val B < room 200 ∧ val R < room 200 ∧ ∀ g, IsGcd (val B) (val R) g → IsGcd (val l) (val m) g) :=
        ⟨HI.out.2.1, Nat.lt_trans hlt HI.out.2.1, fun g h => HI.out.2.2 g (IsGcd.step hd h)⟩
      have HLT := Lib.hid hlt
      clear hQ bQ hd b5 hA hB hW HI hlt hR hv
      go_wp2_with fail
      go_roundg (val R)
      case measure => have := HG.out; have := HLT.out; omega
      case rel => exact ⟨ab, ar, nb, nr, cb, cr, B, R, rfl, rfl, rfl, HF.out.1, HF.out.2.1, bB, bR, HF.out.2.2, HI2.out⟩
set_option maxHeartbeats 400000 in
theorem equal_any (l m : List (BitVec 8)) (v u : Value) (w : World) (hv : Str8 w v l) (hu : Str8 w u m) :
    Calls Tryd.prog 49 #[v, u] w fun e w' => e = .returned (.bool (decide (l = m))) ∧ w = w' := by
  have h1 := hv w (fun _ _ => rfl)
  have h2 := hu w (fun _ _ => rfl)
  go_enter Tryd.func49, Tryd.ntmps49
  go_wp2
  go_ret
  refine ⟨?_, rfl⟩
  have e : ((strOf l).toList == (strOf m).toList) = decide (l = m) := by
    rw [Bool.eq_iff_iff, beq_iff_eq, decide_eq_true_iff]
    constructor
    · intro h
      rw [ByteArray.toList_eq, ByteArray.toList_eq] at h
      exact strOf_inj l m (by
        have : (strOf l).data = (strOf m).data := Array.toList_inj.1 h
        cases hl : strOf l; cases hm : strOf m
        simp_all)
    · intro h; rw [h]
  rw [← e]; rfl
theorem trim_same (l m : List (BitVec 8)) : decide (trimL l = trimL m) = decide (val l = val m) := by
  rw [decide_eq_decide]
  exact ⟨fun h => by rw [← val_trim l, ← val_trim m, h], trim_eq⟩
set_option maxRecDepth 100000 in
set_option maxHeartbeats 1000000 in
theorem same_poly (a1 : Option Addr) (n1 c1 : Nat) (l : List (BitVec 8)) (a2 : Option Addr) (n2 c2 : Nat) (m : List (BitVec 8)) (w : World) (h1 : Pol w a1 n1 c1 l) (h2 : Pol w a2 n2 c2 m) :
    Calls Tryd.prog 33 #[.slice a1 n1 c1, .slice a2 n2 c2] w fun e w' => e = .returned (.bool (decide (val l = val m))) ∧ w = w' := by
  have HP1 := Lib.hid h1
  have HP2 := Lib.hid h2
  have HS := Lib.hid (trim_same l m)
  have s1 : Str8 w (.slice a1 (tl l n1) c1) (trimL l) := by
    have := (h1.take (tl l n1) (tl_le l n1)).arg.1
    unfold trimL
    rw [← h1.hlen]
    exact Str8.of this
  have s2 : Str8 w (.slice a2 (tl m n2) c2) (trimL m) := by
    have := (h2.take (tl m n2) (tl_le m n2)).arg.1
    unfold trimL
    rw [← h2.hlen]
    exact Str8.of this
  clear h1 h2
  go_enter Tryd.func33, Tryd.ntmps33
  go_wp2_with fail
  refine (trim_any a1 n1 c1 l w HP1.out).mono ?_
  rintro e w1 ⟨rfl, rfl⟩
  go_wp2_with fail
  refine (trim_any a2 n2 c2 m w HP2.out).mono ?_
  rintro e w1 ⟨rfl, rfl⟩
  go_wp2_with fail
  refine (equal_any _ _ _ _ w s1 s2).mono ?_
  rintro e w1 ⟨rfl, rfl⟩
  rw [HS.out]
  clear s1 s2
  go_wp2_with fail
  go_ret
  exact ⟨rfl, rfl⟩
end Go.Proofs.YtcdhjmmkeiomaaaDoor.Bin
