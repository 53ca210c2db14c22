/- The walks over package binpoly's Gcd and Same. By the verifier of shale. -/
import Derived.Test.YtbngkmlipmhgdaaDoorBinDiv
import Derived.Test.YtbngkmlipmhgdaaDoorRefSame
namespace Go.Proofs.YtbngkmlipmhgdaaDoor.Bin
open Go Go.RowKit
set_option linter.unusedVariables false
theorem val_lt (l : List (BitVec 8)) : val l < 2 ^ (8 * l.length) := by
  apply Nat.lt_pow_two_of_testBit
  intro i hi
  rw [val_bit, nth8_far l (i / 8) (by omega)]; simp
def room (k : Nat) : Nat := 2 ^ (8 * k)
theorem val_room {l : List (BitVec 8)} {k : Nat} (h : l.length ≤ k) : val l < room k := Nat.lt_of_lt_of_le (val_lt l) (Nat.pow_le_pow_right (by decide) (by omega))
theorem bare_len {X : List (BitVec 8)} (h : Bare X) {k : Nat} (hv : val X < room k) : X.length ≤ k := by
  unfold room at hv
  apply Classical.byContradiction
  intro h0
  have h1 := (deg_bare h (by omega)).1
  have := Nat.pow_le_pow_right (n := 2) (by decide) (show 8 * k ≤ 8 * (X.length - 1) + (nth8 X (X.length - 1)).toNat.log2 by omega)
  omega
theorem Buf8.since {w w' : World} {g : Nat} {X : List (BitVec 8)} (h : Buf8 w g X) (b : Below w.heap.size w w') : Buf8 w' g X := h.below b h.lt
theorem NewP.since {w w1 w2 : World} {a : Option Addr} {n cap : Nat} {X : List (BitVec 8)} (h : NewP w w1 a n cap X) (b : Below w1.heap.size w1 w2) : NewP w w2 a n cap X :=
  ⟨h.hlen, h.hcap, h.hmost, by
    rcases h.own with h1 | ⟨g, e, hg, hb⟩
    · exact Or.inl h1
    · exact Or.inr ⟨g, e, hg, Buf8.since hb b⟩⟩
theorem NewP.from {w0 w w' : World} {a : Option Addr} {n cap : Nat} {X : List (BitVec 8)} (h : NewP w w' a n cap X) (b : w0.heap.size ≤ w.heap.size) : NewP w0 w' a n cap X :=
  ⟨h.hlen, h.hcap, h.hmost, by
    rcases h.own with h1 | ⟨g, e, hg, hb⟩
    · exact Or.inl h1
    · exact Or.inr ⟨g, e, Nat.le_trans b hg, hb⟩⟩
theorem pol_nil (w : World) : Pol w none 0 0 [] := ⟨rfl, Nat.le_refl _, by decide, fun _ => rfl, Or.inl rfl⟩
theorem rest_lt {a b q r : Nat} (h : IsDiv a b q r) (hb : b ≠ 0) : r < b := by
  rcases h.2 with rfl | ⟨i, j, hi, hj, hij⟩
  · omega
  · have h1 := lt_of_deg hi hij
    have h2 := hj.1
    omega
set_option maxHeartbeats 400000 in
theorem equal_any (l m : List (BitVec 8)) (v u : Value) (w : World) (hv : Str8 w v l) (hu : Str8 w u m) :
    Calls Tryd.prog 32 #[v, u] w fun e w' => e = .returned (.bool (decide (l = m))) ∧ w = w' := by
  have h1 := hv w (fun _ _ => rfl)
  have h2 := hu w (fun _ _ => rfl)
  go_enter Tryd.func32, Tryd.ntmps32
  go_wp2
  go_ret
  refine ⟨?_, rfl⟩
  have e : ((strOf l).toList == (strOf m).toList) = decide (l = m) := by
    rw [Bool.eq_iff_iff, beq_iff_eq, decide_eq_true_iff]
    constructor
    · intro h
      rw [ByteArray.toList_eq, ByteArray.toList_eq] at h
      exact strOf_inj l m (by
        have : (strOf l).data = (strOf m).data := Array.toList_inj.1 h
        cases hl : strOf l; cases hm : strOf m
        simp_all)
    · intro h; rw [h]
  rw [← e]; rfl
theorem trim_same (l m : List (BitVec 8)) : decide (trimL l = trimL m) = decide (val l = val m) := by
  rw [decide_eq_decide]
  exact ⟨fun h => by rw [← val_trim l, ← val_trim m, h], trim_eq⟩
end Go.Proofs.YtbngkmlipmhgdaaDoor.Bin
