/- Parity of the bits; the walk over package binpoly's Eval. By the verifier of shale. -/
import Derived.Test.YtcdhjmmkeiomaaaDoorBinXp
namespace Go.Proofs.YtcdhjmmkeiomaaaDoor.Bin
open Go Go.RowKit
set_option linter.unusedVariables false
/-- the parity of the bits: the value at 1. -/
def par (n : Nat) : Nat := if h : n = 0 then 0 else (n % 2 + par (n / 2)) % 2
termination_by n
decreasing_by omega
theorem par_zero : par 0 = 0 := by rw [par]; simp
theorem par_step (n : Nat) : par n = (n % 2 + par (n / 2)) % 2 := by
  by_cases h : n = 0
  · subst h; rw [Nat.zero_div, par_zero]
  · rw [par, dif_neg h]
theorem par_lt (n : Nat) : par n < 2 := by rw [par_step]; omega
theorem par_xor : ∀ a b, par (a ^^^ b) = (par a + par b) % 2 := by
  intro a
  induction a using Nat.strongRecOn with
  | ind a ih =>
    intro b
    by_cases h : a = 0
    · subst h; rw [Nat.zero_xor, par_zero]; have := par_lt b; omega
    · rw [par_step (a ^^^ b), par_step a, par_step b, half_xor, ih (a / 2) (by omega), mod_xor]
      omega
theorem par_dbl (a : Nat) : par (2 * a) = par a := by
  rw [par_step, show 2 * a / 2 = a by omega]
  have := par_lt a
  omega
theorem par_shl (a : Nat) : ∀ n, par (a <<< n) = par a
  | 0 => by rw [Nat.shiftLeft_zero]
  | n + 1 => by rw [Nat.shiftLeft_succ, par_dbl, par_shl a n]
theorem par_pm (a : Nat) : ∀ b, par (pm a b) = par a * par b := by
  intro b
  induction b using Nat.strongRecOn with
  | ind b ih =>
    by_cases h : b = 0
    · subst h; rw [pm_zero, par_zero]; rfl
    · rw [pm_step, par_xor, par_dbl, ih (b / 2) (by omega), par_step b]
      have h1 := par_lt a
      have h2 := par_lt (b / 2)
      rcases (by omega : par a = 0 ∨ par a = 1) with e1 | e1 <;> rcases (by omega : par (b / 2) = 0 ∨ par (b / 2) = 1) with e2 | e2 <;> rcases Nat.mod_two_eq_zero_or_one b with e3 | e3 <;> simp [e1, e2, e3, par_zero]
theorem par_pop : ∀ (f x : Nat), x < 2 ^ f → par x = Lib.popAux f x % 2
  | 0, x, h => by
    obtain rfl : x = 0 := by simpa using h
    rw [par_zero]; rfl
  | f + 1, x, h => by
    rw [par_step, par_pop f (x / 2) (by rw [Nat.pow_succ] at h; omega)]
    simp only [Lib.popAux]
    omega
theorem par_byte (c : BitVec 8) : par c.toNat = Lib.onesCount c.toNat % 2 :=
  par_pop 64 c.toNat (Nat.lt_of_lt_of_le c.isLt (Nat.pow_le_pow_right (by decide) (by decide)))
theorem par_take (l : List (BitVec 8)) (k : Nat) (h : k < l.length) : par (val (l.take (k + 1))) = (par (val (l.take k)) + Lib.onesCount (nth8 l k).toNat) % 2 := by
  rw [val_take_succ l k h, par_xor, par_shl, par_byte]
  omega
/-- the value at x. -/
def evalZ (l : List (BitVec 8)) (x : Int) : Int := if x % 2 = 0 then bitZ l 0 else (par (val l) : Int)
theorem and_one (x : Int) : bits .and .i64 x 1 = x % 2 := by
  show IntKind.i64.wrap ((BitVec.ofInt 64 x &&& BitVec.ofInt 64 1).toNat : Int) = _
  rw [BitVec.toNat_and, show (BitVec.ofInt 64 1).toNat = 2 ^ 1 - 1 by decide, Nat.and_two_pow_sub_one_eq_mod, BitVec.toNat_ofInt]
  rw [show (((x % ((2 ^ 64 : Nat) : Int)).toNat % 2 ^ 1 : Nat) : Int) = x % 2 by omega]
  exact IntWalk.i64_in _ (by omega)
theorem xor_bit (a b : Nat) (ha : a < 2) (hb : b < 2) : bits .xor .i64 (a : Int) (b : Int) = (((a + b) % 2 : Nat) : Int) := by
  rcases (by omega : a = 0 ∨ a = 1) with rfl | rfl <;> rcases (by omega : b = 0 ∨ b = 1) with rfl | rfl <;> decide
set_option maxRecDepth 100000 in
set_option maxHeartbeats 600000 in
theorem eval_any (a : Option Addr) (n cap : Nat) (l : List (BitVec 8)) (x : Int) (w : World) (h : Pol w a n cap l) :
    Calls Tryd.prog 32 #[.slice a n cap, .int .i64 x] w fun e w' => e = .returned (.int .i64 (evalZ l x)) ∧ w = w' := by
  have HP := Lib.hid h
  have hm : n ≤ maxLen := Nat.le_trans h.hcap h.hmost
  unfold maxLen at hm
  have hand := and_one x
  clear h
  by_cases h0 : x % 2 = 0
  · have hv : evalZ l x = bitZ l 0 := by unfold evalZ; rw [if_pos h0]
    rw [hv]
    rw [h0] at hand
    clear hv h0
    go_enter Tryd.func32, Tryd.ntmps32
    go_wp2_with fail
    refine (bit_any a n cap l 0 w HP.out (by omega)).mono ?_
    rintro e w1 ⟨rfl, rfl⟩
    go_wp2_with fail
    go_ret
    exact ⟨rfl, rfl⟩
  · have hv : evalZ l x = (par (val l) : Int) := by unfold evalZ; rw [if_neg h0]
    rw [hv]
    rw [show x % 2 = 1 by omega] at hand
    clear hv h0
    go_enter Tryd.func32, Tryd.ntmps32
    go_wp2_with fail
    go_loopg [5, 15] n (fun gh s5 s15 wx => ∃ k : Nat, gh = n - k ∧ k ≤ n ∧ s5 = .int .i64 (par (val (l.take k)) : Int) ∧ s15 = .int .i64 (k : Int) ∧ w = wx)
    case atStart => exact ⟨0, rfl, by omega, by rw [List.take_zero]; show _ = Value.int .i64 ((par 0 : Nat) : Int); rw [par_zero]; rfl, rfl, rfl⟩
    case round =>
      obtain ⟨k, hg, hk, rfl, rfl, rfl⟩ := hrel
      have HG := Lib.hid hg
      clear hg
      by_cases hlt : k < n
      · have x1 : (k : Int) < (n : Int) := by omega
        have x0 : (0 : Int) ≤ (k : Int) := by omega
        obtain ⟨bb, off, rfl, hr, hb⟩ : ∃ bb off, a = some ⟨bb, off, none⟩ ∧ Row8 w bb off l ∧ bb < w.heap.size := by
          rcases HP.out.hrow with h | h
          · omega
          · exact h
        have hkl : k < l.length := by have := HP.out.hlen; omega
        have c1 := hr k hkl
        have HT : Hid (par (val (l.take (k + 1))) = (par (val (l.take k)) + Lib.onesCount (nth8 l k).toNat % 2) % 2) := by show _ = _; rw [par_take l k hkl]; omega
        have hp := par_lt (val (l.take k))
        generalize par (val (l.take k)) = q at hp HT ⊢
        have ho : bits .and .i64 ((Lib.onesCount (nth8 l k).toNat : Nat) : Int) 1 = ((Lib.onesCount (nth8 l k).toNat % 2 : Nat) : Int) := by rw [and_one]; omega
        have hx := xor_bit q (Lib.onesCount (nth8 l k).toNat % 2) hp (by omega)
        have HX := Lib.hid hx
        have HO := Lib.hid ho
        clear hr hb hkl hx ho
        go_wp2_with fail
        refine (ones8_any (nth8 l k) w).mono ?_
        rintro e w1 ⟨rfl, rfl⟩
        have ho := HO.out
        have hx := HX.out
        go_wp2_with fail
        go_roundg (n - (k + 1))
        case measure => have := HG.out; omega
        case rel => exact ⟨k + 1, rfl, by omega, by rw [HT.out, ← HX.out, show ((Lib.onesCount (nth8 l k).toNat % 2 : Nat) : Int) = (Lib.onesCount (nth8 l k).toNat : Int) % 2 by omega], by go_num, rfl⟩
      · obtain rfl : k = n := by omega
        have HF : Hid (par (val (l.take k)) = par (val l)) := by show _ = _; rw [List.take_of_length_le (by have := HP.out.hlen; omega)]
        rw [HF.out]
        go_wp2_with fail
        go_ret
        exact ⟨rfl, rfl⟩
end Go.Proofs.YtcdhjmmkeiomaaaDoor.Bin
