/- The methods of a field at elements. By the verifier of shale. -/
import Derived.Test.YtdcnknlpmajlfaaDoorFldFirst
namespace Go.Proofs.YtdcnknlpmajlfaaDoor.Fld
open Go Go.RowKit Bits16
set_option linter.unusedVariables false
theorem el_one (m : Nat) (h1 : 3 ≤ m) (h2 : m ≤ 14) : el m 1 = 1 := el_of m h2 1 (one_lt m h1)
theorem el_zero (m : Nat) (h2 : m ≤ 14) : el m 0 = 0 := el_of m h2 0 (by show 0 < _; exact Nat.two_pow_pos m)
section
variable {m s be ce bl : Nat} (h1 : 3 ≤ m) (h2 : m ≤ 14)
include h1 h2
theorem mul_one_at (x : BitVec 16) (hx : x.toNat < 2 ^ m) (w : World) (f : FldAt m w s be ce bl) :
    Calls Tryd.prog 20 #[.pointer (some ⟨s, 0, none⟩), .int .i64 (h x), .int .i64 1] w fun e w' => e = .returned (.int .i64 (h x)) ∧ Drawn w w' := by
  have := mul_any h1 h2 (h x) 1 w f
  rwa [el_of m h2 x hx, el_one m h1 h2, fmul_one m h1 h2 x hx] at this
theorem mul_nil_at (x : BitVec 16) (hx : x.toNat < 2 ^ m) (w : World) (f : FldAt m w s be ce bl) :
    Calls Tryd.prog 20 #[.pointer (some ⟨s, 0, none⟩), .int .i64 (h x), .int .i64 0] w fun e w' => e = .returned (.int .i64 0) ∧ Drawn w w' := by
  have := mul_any h1 h2 (h x) 0 w f
  rwa [el_of m h2 x hx, el_zero m h2, fmul_zero] at this
theorem add_at (x y : BitVec 16) (hx : x.toNat < 2 ^ m) (hy : y.toNat < 2 ^ m) (w : World) (f : FldAt m w s be ce bl) :
    Calls Tryd.prog 19 #[.pointer (some ⟨s, 0, none⟩), .int .i64 (h x), .int .i64 (h y)] w fun e w' => e = .returned (.int .i64 (h (x ^^^ y))) ∧ Drawn w w' := by
  have := add_any h1 h2 (h x) (h y) w f
  rw [el_of m h2 x hx, el_of m h2 y hy] at this
  exact this.mono fun e w' ⟨a, b⟩ => ⟨a, b ▸ Drawn.refl _⟩
theorem pow_at (x : BitVec 16) (z : Int) (hx : x.toNat < 2 ^ m) (w : World) (f : FldAt m w s be ce bl) (p : Addr) (hs : Sent w 1 p) :
    Calls Tryd.prog 22 #[.pointer (some ⟨s, 0, none⟩), .int .i64 (h x), .int .i64 z] w fun e w' => e = .returned (.int .i64 (h (powZ m x z))) ∧ Drawn w w' := by
  have := pow_any h1 h2 (h x) z w f p hs
  rwa [el_of m h2 x hx] at this
theorem trace_at (x : BitVec 16) (hx : x.toNat < 2 ^ m) (w : World) (f : FldAt m w s be ce bl) :
    Calls Tryd.prog 26 #[.pointer (some ⟨s, 0, none⟩), .int .i64 (h x)] w fun e w' => e = .returned (.int .i64 (h (tr m x))) ∧ Below w.heap.size w w' := by
  have := trace_any h1 h2 (h x) w f
  rwa [el_of m h2 x hx] at this
theorem exp_at (z : Int) (w : World) (f : FldAt m w s be ce bl) :
    Calls Tryd.prog 24 #[.pointer (some ⟨s, 0, none⟩), .int .i64 z] w fun e w' => e = .returned (.int .i64 (h (pwZ m z))) ∧ Drawn w w' :=
  (fexp_any h1 h2 z w f).mono fun e w' ⟨a, b⟩ => ⟨a, b ▸ Drawn.refl _⟩
theorem inv_at (x : BitVec 16) (hx : x.toNat < 2 ^ m) (h0 : x ≠ 0) (w : World) (f : FldAt m w s be ce bl) :
    Calls Tryd.prog 16 #[.pointer (some ⟨s, 0, none⟩), .int .i64 (h x)] w fun e w' => e = .returned (.tuple #[.int .i64 (h (pwZ m (-(lg m x : Int)))), .nilIface]) ∧ Drawn w w' := by
  have := inv_any h1 h2 (h x) w f (by rw [el_of m h2 x hx]; exact h0)
  rwa [el_of m h2 x hx] at this
theorem log_at (x : BitVec 16) (hx : x.toNat < 2 ^ m) (h0 : x ≠ 0) (w : World) (f : FldAt m w s be ce bl) :
    Calls Tryd.prog 30 #[.pointer (some ⟨s, 0, none⟩), .int .i64 (h x)] w fun e w' => e = .returned (.tuple #[.int .i64 (lg m x : Int), .nilIface]) ∧ Drawn w w' := by
  have := log_any h1 h2 (h x) w f (by rw [el_of m h2 x hx]; exact h0)
  rw [el_of m h2 x hx] at this
  exact this.mono fun e w' ⟨a, b⟩ => ⟨a, b ▸ Drawn.refl _⟩
theorem order_at (x : BitVec 16) (hx : x.toNat < 2 ^ m) (h0 : x ≠ 0) (w : World) (f : FldAt m w s be ce bl) :
    Calls Tryd.prog 31 #[.pointer (some ⟨s, 0, none⟩), .int .i64 (h x)] w fun e w' => e = .returned (.tuple #[.int .i64 (ord m x : Int), .nilIface]) ∧ Drawn w w' := by
  have := order_some h1 h2 (h x) w f (by rw [el_of m h2 x hx]; exact h0)
  rwa [el_of m h2 x hx] at this
theorem div_at (x y : BitVec 16) (hx : x.toNat < 2 ^ m) (hy : y.toNat < 2 ^ m) (h0 : y ≠ 0) (w : World) (f : FldAt m w s be ce bl) :
    Calls Tryd.prog 17 #[.pointer (some ⟨s, 0, none⟩), .int .i64 (h x), .int .i64 (h y)] w fun e w' => e = .returned (.tuple #[.int .i64 (h (fmul m x (pwZ m (-(lg m y : Int))))), .nilIface]) ∧ Drawn w w' := by
  have := div_any h1 h2 (h x) (h y) w f (by rw [el_of m h2 y hy]; exact h0)
  rwa [el_of m h2 x hx, el_of m h2 y hy] at this
end
end Go.Proofs.YtdcnknlpmajlfaaDoor.Fld
