/- Small words for the laws of chapter 3. By the verifier of shale. -/
import Derived.Test.YtcdhjmmkeiomaaaDoorBinFirst
import Derived.Test.YtcdhjmmkeiomaaaDoorBinShd
import Derived.Test.YtcdhjmmkeiomaaaDoorBinEval
import Derived.Test.YtcdhjmmkeiomaaaDoorRefCopy
namespace Go.Proofs.YtcdhjmmkeiomaaaDoor.Bin
open Go Go.RowKit
set_option linter.unusedVariables false
/-- bytes that came in are a polynomial. -/
theorem row_pol {w : World} {a : Option Addr} {len cap : Nat} {zs : List Int} (h : IsRow .u8 w a len cap zs) : ∃ l, Pol w a len cap l := by
  have hn := h.nil_cap
  have hc : cap ≤ maxLen := by
    rcases h with ⟨_, _, rfl, _⟩ | ⟨x, _, _, hm, _⟩
    · exact Nat.zero_le _
    · exact hm
  have hlc : len ≤ cap := h.at.2.1
  obtain ⟨hm, h0 | ⟨bb, off, l, ha, hl, hcc, hr, hb⟩⟩ := h.bytes
  · exact ⟨[], h0, hlc, hc, hn, Or.inl h0⟩
  · exact ⟨l, hl.symm, hlc, hc, hn, Or.inr ⟨bb, off, ha, hr, hb⟩⟩
theorem shr_shl (v n : Nat) : (v <<< n) >>> n = v := by
  rw [Nat.shiftLeft_eq, Nat.shiftRight_eq_div_pow, Nat.mul_div_cancel _ (Nat.two_pow_pos n)]
theorem and511 (z : Int) : bits .and .i64 z 511 = (((z % 512).toNat : Nat) : Int) := by
  show IntKind.i64.wrap ((BitVec.ofInt 64 z &&& BitVec.ofInt 64 511).toNat : Int) = _
  rw [BitVec.toNat_and, show (BitVec.ofInt 64 511).toNat = 2 ^ 9 - 1 by decide, Nat.and_two_pow_sub_one_eq_mod, BitVec.toNat_ofInt]
  rw [show (((z % ((2 ^ 64 : Nat) : Int)).toNat % 2 ^ 9 : Nat) : Int) = ((z % 512).toNat : Int) by omega]
  exact IntWalk.i64_in _ (by omega)
theorem bare_pow {X : List (BitVec 8)} (h : Bare X) {d : Nat} (k : Nat) (hd : val X < 2 ^ d) (hk : d ≤ 8 * k) : X.length ≤ k :=
  bare_len h (Nat.lt_of_lt_of_le hd (Nat.pow_le_pow_right (by decide) hk))
theorem shl_zero (n : Nat) : 0 <<< n = 0 := by rw [Nat.shiftLeft_eq, Nat.zero_mul]
end Go.Proofs.YtcdhjmmkeiomaaaDoor.Bin
