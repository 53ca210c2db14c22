/- More contracts in terms of the polynomials' values: what BinSays asks. By the verifier of shale. -/
import Derived.Test.YtcdhjmmkeiomaaaDoorRefSay
namespace Go.Proofs.YtcdhjmmkeiomaaaDoor.Bin
open Go Go.RowKit
set_option linter.unusedVariables false
theorem neq_err (a : Addr) (w : World) : (binOp .neq 27 (errOf a) (errOf a)).run Tryd.prog w = .ok (.bool false) w := by
  obtain ⟨i, hi, hc⟩ := Option.map_eq_some_iff.1 compErr
  obtain ⟨j, hj, _⟩ := Option.map_eq_some_iff.1 sizeErr
  simp only [binOp]
  simp [Op.equal, Op.maxDepth, run_equalIn_iface_ptr_same w 9998 a Tryd.underlying27 Tryd.underlying73 hi hc hj, errOf]
theorem room_pos (k : Nat) : 0 < room k := Nat.two_pow_pos _
/-- the coefficient of x^i. -/
def bitN (v : Nat) (i : Int) : Int := if i < 0 then 0 else bz (v.testBit i.toNat)
theorem bitZ_bitN (l : List (BitVec 8)) (i : Int) : bitZ l i = bitN (val l) i := rfl
def evN (v : Nat) (x : Int) : Int := if x % 2 = 0 then bitN v 0 else (par v : Int)
theorem evN_mod (v : Nat) (x : Int) : evN v (x % 2) = evN v x := by
  unfold evN
  rw [show x % 2 % 2 = x % 2 by omega]
theorem pv {w : World} {a : Option Addr} {n c : Nat} {X : List (BitVec 8)} (h : Pol w a n c X) (hn : n ≤ 40) : PolV w 40 a n c (val X) := ⟨X, h, rfl, hn⟩
theorem bitV {w : World} {k : Nat} {a : Option Addr} {n c u : Nat} (h : PolV w k a n c u) (i : Int) (hi : i ≤ 9223372036854775807) :
    Calls Tryd.prog 16 #[.slice a n c, .int .i64 i] w fun e w' => e = .returned (.int .i64 (bitN u i)) ∧ w = w' := by
  obtain ⟨X, p1, rfl, n1⟩ := h
  exact bit_any a n c X i w p1 hi
set_option maxRecDepth 100000 in
theorem rBitV {w : World} {k : Nat} {a : Option Addr} {n c u : Nat} (h : PolV w k a n c u) (i : Int) (hi : i ≤ 9223372036854775807) :
    Calls Tryd.prog 17 #[.slice a n c, .int .i64 i] w fun e w' => e = .returned (.int .i64 (bitN u i)) ∧ w = w' := by
  obtain ⟨X, p1, rfl, n1⟩ := h
  have HP := Lib.hid p1
  have HI := Lib.hid hi
  clear p1 hi
  go_enter Tryd.func17, Tryd.ntmps17
  go_wp2_with fail
  refine (rbit_any a n c X i w HP.out HI.out).mono ?_
  rintro e w1 ⟨rfl, rfl⟩
  go_wp2_with fail
  go_ret
  exact ⟨rfl, rfl⟩
theorem evalN {w : World} {k : Nat} {a : Option Addr} {n c u : Nat} (h1 : PolV w k a n c u) (x : Int) :
    Calls Tryd.prog 32 #[.slice a n c, .int .i64 x] w fun e w' => e = .returned (.int .i64 (evN u x)) ∧ w = w' := by
  obtain ⟨X, p1, rfl, n1⟩ := h1
  exact eval_any a n c X x w p1
theorem exps_len (v : Nat) : ∀ k, (exps v k).length ≤ k
  | 0 => Nat.le_refl _
  | k + 1 => by have := exps_len v k; simp only [exps]; split <;> simp <;> omega
theorem top_room {u k : Nat} (h : u < room k) : topE u ≤ 8 * k := by
  unfold topE
  split
  · omega
  · rename_i h0
    have := (Nat.log2_lt h0).2 h
    omega
/-- a list of exponents. -/
def ExpL (w : World) (a : Option Addr) (n : Nat) (u : Nat) : Prop := RowN w a n (exps u (topE u)) ∧ n ≤ 100000
theorem ExpL.below {w w' : World} {a : Option Addr} {n u : Nat} (h : ExpL w a n u) (b : Below w.heap.size w w') : ExpL w' a n u := ⟨h.1.below b, h.2⟩
theorem exV {w : World} {k : Nat} {a : Option Addr} {n c u : Nat} (h : PolV w k a n c u) (hk : k ≤ 200) :
    Calls Tryd.prog 19 #[.slice a n c] w fun e w' => ∃ a n c, e = .returned (.slice a n c) ∧ ExpL w' a n u ∧ Below w.heap.size w w' := by
  have hr := top_room h.lt
  obtain ⟨X, p1, rfl, n1⟩ := h
  refine (exponents_any a n c X w p1 (by omega)).mono ?_
  rintro e w1 ⟨v, m, rfl, ho, b⟩
  obtain ⟨a', c', rfl, hr'⟩ := own_row ho
  exact ⟨a', m, c', rfl, ⟨hr', by rw [hr'.hlen]; have := exps_len (val X) (topE (val X)); omega⟩, b⟩
theorem rexV {w : World} {k : Nat} {a : Option Addr} {n c u : Nat} (h : PolV w k a n c u) (hk : k ≤ 200) :
    Calls Tryd.prog 20 #[.slice a n c] w fun e w' => ∃ a n c, e = .returned (.slice a n c) ∧ ExpL w' a n u ∧ Below w.heap.size w w' := by
  have hr := top_room h.lt
  obtain ⟨X, p1, rfl, n1⟩ := h
  refine (rexps_any a n c X w p1 (by omega)).mono ?_
  rintro e w1 ⟨v, m, rfl, ho, b⟩
  obtain ⟨a', c', rfl, hr'⟩ := own_row ho
  exact ⟨a', m, c', rfl, ⟨hr', by rw [hr'.hlen]; have := exps_len (val X) (topE (val X)); omega⟩, b⟩
theorem sameExV {w : World} {a a' : Option Addr} {n c n' c' u : Nat} (h : ExpL w a n u) (h' : ExpL w a' n' u) :
    Calls Tryd.prog 18 #[.slice a n c, .slice a' n' c'] w fun e w' => e = .returned (.bool true) ∧ Below w.heap.size w w' := by
  refine (sameInts_any a n c _ a' n' c' _ w h.1 h'.1 h.2).mono ?_
  rintro e w1 ⟨rfl, d⟩
  exact ⟨by rw [decide_eq_true rfl], d.below _⟩
theorem sameNV {w0 w1 w : World} {K K' : Nat} {a a' : Option Addr} {n c n' c' u v : Nat} (h : NewV w0 w K a n c u) (h' : NewV w1 w K' a' n' c' v) :
    Calls Tryd.prog 34 #[.slice a n c, .slice a' n' c'] w fun e w' => e = .returned (.bool (decide (u = v))) ∧ w = w' := by
  obtain ⟨X, p1, b1, v1, _⟩ := h
  obtain ⟨Y, p2, b2, v2, _⟩ := h'
  refine (same_any X Y _ _ w (Str8.of p1.pol.arg.1) (Str8.of p2.pol.arg.1)).mono ?_
  rintro e w2 ⟨rfl, rfl⟩
  refine ⟨?_, rfl⟩
  congr 2
  rw [decide_eq_decide]
  exact ⟨fun h => by rw [← v1, ← v2, h], fun h => bare_inj b1 b2 (by rw [v1, v2, h])⟩
theorem sameXV {w : World} {X : List (BitVec 8)} {a a' : Option Addr} {n c n' c' : Nat} (h : Pol w a n c X) (h' : Pol w a' n' c' X) :
    Calls Tryd.prog 34 #[.slice a n c, .slice a' n' c'] w fun e w' => e = .returned (.bool true) ∧ w = w' := by
  refine (same_any X X _ _ w (Str8.of h.arg.1) (Str8.of h'.arg.1)).mono ?_
  rintro e w2 ⟨rfl, rfl⟩
  exact ⟨by rw [decide_eq_true rfl], rfl⟩
theorem copyV {w : World} {X : List (BitVec 8)} {a : Option Addr} {n c : Nat} (h : Pol w a n c X) (hn : n ≤ 40) :
    Calls Tryd.prog 11 #[.slice a n c] w fun e w' => ∃ g, e = .returned (.slice (some ⟨g, 0, none⟩) n n) ∧ w.heap.size ≤ g ∧ Blk8 w' g X ∧ Pol w' (some ⟨g, 0, none⟩) n n X ∧ Below w.heap.size w w' := by
  refine (copy_of h.arg h.hnil (by omega)).mono ?_
  rintro e w1 ⟨rfl, hk, b⟩
  exact ⟨w.heap.size, rfl, Nat.le_refl _, hk, ⟨h.hlen, Nat.le_refl _, by unfold maxLen; omega, (fun h => by cases h), Or.inr ⟨_, 0, rfl, hk.row, hk.lt⟩⟩, b⟩
theorem par_pow (k : Nat) : par (2 ^ k) = 1 := by
  have := par_shl 1 k
  rw [Nat.shiftLeft_eq, Nat.one_mul] at this
  rw [this]; decide +kernel
theorem par_bit (v k : Nat) : bits .xor .i64 (par (v % 2 ^ k) : Int) (bitN v (k : Int)) = (par (v % 2 ^ (k + 1)) : Int) := by
  rw [mod_succ]
  have e : bitN v (k : Int) = (par (if v.testBit k then 2 ^ k else 0) : Int) := by
    unfold bitN
    rw [if_neg (by omega), show ((k : Int)).toNat = k by omega]
    cases v.testBit k
    · rw [if_neg (by decide), par_zero]; rfl
    · rw [if_pos rfl, par_pow]; rfl
  rw [e, par_xor_i64]
end Go.Proofs.YtcdhjmmkeiomaaaDoor.Bin
