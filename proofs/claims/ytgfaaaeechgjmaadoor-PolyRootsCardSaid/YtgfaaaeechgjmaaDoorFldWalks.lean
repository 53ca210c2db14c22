/- The walks over package field. By the verifier of shale. -/
import Derived.Test.YtgfaaaeechgjmaaDoorRows
import Derived.Test.YtgfaaaeechgjmaaDoorBits16
import Derived.Test.YtgfaaaeechgjmaaDoorFldEl
import Derived.Test.YtgfaaaeechgjmaaDoorOwn64
import Derived.Test.YtgfaaaeechgjmaaDoorBase
import Derived.WalkKit
import Derived.WalkSpells
import Derived.WalkLawsBesides
import Derived.OneCell
import Derived.Deep.LoopGhost
import Derived.Deep.RegionHeld3
import Derived.Deep.Cut
namespace Go.Proofs.YtgfaaaeechgjmaaDoor.Fld
open Go Go.RowKit Bits16
set_option linter.unusedVariables false
theorem e64 (a : BitVec 16) : (BitVec.ofInt 64 (h a)).toNat = a.toNat := by
  rw [BitVec.toNat_ofInt]; unfold h; have := a.isLt; omega
theorem w64 (a : BitVec 16) : IntKind.i64.wrap (h a) = h a := IntWalk.i64_in _ (by have := h_lo a; have := h_hi a; omega)
theorem rxor (a c : BitVec 16) : bits .xor .i64 (h a) (h c) = h (a ^^^ c) := by
  show IntKind.i64.wrap ((BitVec.ofInt 64 (h a) ^^^ BitVec.ofInt 64 (h c)).toNat : Int) = _
  rw [BitVec.toNat_xor, e64, e64, ← BitVec.toNat_xor]; exact w64 _
/-- twice a number of at most 15 bits. -/
theorem twice (yk : IntKind) (a : BitVec 16) (ha : a.toNat < 32768) : Op.shift .shl .i64 (h a) yk 1 = pure (.int .i64 (h (a <<< 1))) := by
  rw [shift_shl .i64 yk (h a) 1 (by decide) (by decide)]
  refine congrArg (fun n => pure (Value.int .i64 n)) ?_
  unfold h
  rw [BitVec.toNat_shiftLeft, Nat.shiftLeft_eq]
  rw [show ((2 : Int) ^ (1 : Int).toNat) = 2 by decide, show (2 : Nat) ^ 1 = 2 by decide]
  rw [show ((a.toNat : Int)) * 2 = ((a.toNat * 2 % 2 ^ 16 : Nat) : Int) by omega]
  exact IntWalk.i64_in _ (by omega)
theorem down (a : BitVec 16) (n : Nat) : h a / 2 ^ n = h (a >>> n) := by
  unfold h
  rw [BitVec.toNat_ushiftRight, Nat.shiftRight_eq_div_pow, Int.natCast_ediv, Int.natCast_pow]; rfl
section
attribute [local go_sem] rxor
set_option maxHeartbeats 400000 in
theorem double_any (m : Nat) (h1 : 3 ≤ m) (h2 : m ≤ 14) (a : BitVec 16) (ha : a.toNat < 32768) :
    Gives 48 #[.int .i64 (h a), .int .i64 (m : Int), .int .i64 (h (poly m))] (.int .i64 (h (dbl m a))) := by
  intro w
  have s1 := fun yk => twice yk a ha
  have s2 := down (a <<< 1) m
  by_cases hc : (a <<< 1) >>> m = 0
  · have t : (h (a <<< 1) / 2 ^ m != 0) = false := by rw [s2, hc]; rfl
    clear s2
    have e : dbl m a = a <<< 1 := if_pos hc
    rw [e]
    clear e hc
    go_enter Tryd.func48, Tryd.ntmps48
    go_wp2
    go_ret
    exact ⟨rfl, rfl⟩
  · have t : (h (a <<< 1) / 2 ^ m != 0) = true := by
      rw [s2, bne_iff_ne]
      intro e
      exact hc (h_inj _ 0 e)
    clear s2
    have e : dbl m a = (a <<< 1) ^^^ poly m := if_neg hc
    rw [e]
    clear e hc
    go_enter Tryd.func48, Tryd.ntmps48
    go_wp2
    go_ret
    exact ⟨rfl, rfl⟩
theorem poly_out (m : Int) (hm : m < 3 ∨ 14 < m) (w : World) :
    Calls Tryd.prog 47 #[.int .i64 m] w fun e w' => e = .returned (.int .i64 0) ∧ Below w.heap.size w w' := by
  rcases hm with hm | hm
  · go_enter Tryd.func47, Tryd.ntmps47
    go_wp2
    go_ret
    exact ⟨rfl, (Below.refl _ _).alloc (Nat.le_refl _) _⟩
  · have hm' : ¬ m < 3 := by omega
    go_enter Tryd.func47, Tryd.ntmps47
    go_wp2
    go_ret
    exact ⟨rfl, (Below.refl _ _).alloc (Nat.le_refl _) _⟩
end
end Go.Proofs.YtgfaaaeechgjmaaDoor.Fld
