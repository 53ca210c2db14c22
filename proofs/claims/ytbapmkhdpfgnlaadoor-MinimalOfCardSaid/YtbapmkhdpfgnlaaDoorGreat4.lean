/- Texts of the verifier of shale, laid into one: MinFast, MinFin. -/
import Derived.Test.YtbapmkhdpfgnlaaDoorGreat1
import Derived.Test.YtbapmkhdpfgnlaaDoorGreat2
import Derived.Test.YtbapmkhdpfgnlaaDoorGreat3
/- Minimal polynomials and the cosets' least numbers, in a form that is reckoned fast. By the verifier of shale. -/
namespace Go.Proofs.YtbapmkhdpfgnlaaDoor.Cos
open Go Bin
set_option linter.unusedVariables false
/-- the cosets' least numbers, with what is seen as one number's bits. -/
def maskF (N : Nat) : Nat → Nat → Nat
  | 0, x => 0
  | j + 1, x => (1 <<< x) ||| maskF N j (2 * x % N)
def leadF (m : Nat) : Nat → List Nat × Nat
  | 0 => ([], 0)
  | k + 1 =>
    let r := leadF m k
    if r.2.testBit k then r else (r.1 ++ [k], r.2 ||| maskF (sz m) m k)
theorem maskF_bit {N : Nat} (hN : 0 < N) : ∀ j x y, x < N → ((maskF N j x).testBit y = true ↔ ∃ i, i < j ∧ orb N x i = y)
  | 0, x, y, hx => by simp [maskF]
  | j + 1, x, y, hx => by
    have ih := maskF_bit hN j (2 * x % N) y (Nat.mod_lt _ hN)
    have e1 : orb N x 1 = 2 * x % N := by rw [show 1 = 0 + 1 from rfl, orb_succ, orb_zero hx]
    rw [maskF, Nat.testBit_or, Bool.or_eq_true, ih]
    constructor
    · rintro (h | ⟨i, hi, e⟩)
      · rw [Nat.shiftLeft_eq, Nat.one_mul, Nat.testBit_two_pow] at h
        have : x = y := of_decide_eq_true h
        exact ⟨0, by omega, by rw [orb_zero hx]; exact this⟩
      · refine ⟨i + 1, by omega, ?_⟩
        rw [← e, ← e1, orb_comp, Nat.add_comm]
    · rintro ⟨i, hi, e⟩
      rcases i with _ | i
      · left
        rw [orb_zero hx] at e
        rw [Nat.shiftLeft_eq, Nat.one_mul, Nat.testBit_two_pow]
        exact decide_eq_true e
      · right
        exact ⟨i, by omega, by rw [← e1, orb_comp, Nat.add_comm]; exact e⟩
theorem leadF_is {m : Nat} (hm : 3 ≤ m) : ∀ k, k ≤ sz m → (leadF m k).1 = leads m 0 1 k ∧ ∀ y, y < sz m → (leadF m k).2.testBit y = cov m (leads m 0 1 k) y
  | 0, _ => ⟨rfl, fun y _ => by simp [leadF, leads, cov]⟩
  | k + 1, hk => by
    have hp := sz_lo hm
    obtain ⟨h1, h2⟩ := leadF_is hm k (by omega)
    have hmod : (0 + 1 * k) % sz m = k := by rw [Nat.zero_add, Nat.one_mul, Nat.mod_eq_of_lt (by omega)]
    rw [leadF, leads, hmod]
    simp only [h2 k (by omega)]
    by_cases hc : cov m (leads m 0 1 k) k = true
    · rw [if_pos hc, if_pos hc]; exact ⟨h1, h2⟩
    · rw [if_neg hc, if_neg hc]
      refine ⟨by rw [h1], fun y hy => ?_⟩
      rw [Nat.testBit_or, h2 y hy, cov_snoc]
      congr 1
      rw [Bool.eq_iff_iff, maskF_bit (by omega) m k y (by omega)]
      simp only [List.contains_iff_mem, mem_cos]
      constructor
      · rintro ⟨i, hi, e⟩; exact ⟨hy, i, hi, e⟩
      · rintro ⟨_, i, hi, e⟩; exact ⟨i, hi, e⟩
theorem leads_fast {m : Nat} (hm : 3 ≤ m) : leads m 0 1 (sz m) = (leadF m (sz m)).1 := ((leadF_is hm (sz m) (Nat.le_refl _)).1).symm
/-- one more factor x + a. -/
def linF (m : Nat) (a : BitVec 16) : BitVec 16 → List (BitVec 16) → List (BitVec 16)
  | c, [] => [c]
  | c, p :: t => (c ^^^ Fld.fmul m p a) :: linF m a p t
section
variable {m : Nat} [M : Pl.Mid m]
theorem linF_at (a : Pl.El m) : ∀ (l : List (BitVec 16)) (c : BitVec 16) (P : Pl.Ser (Pl.El m)) (c' : Pl.El m), c'.val = c → (∀ i, (P i).val = l.getD i 0) → ∀ i, (linF m a.val c l).getD i 0 = (match i with | 0 => (c' + P 0 * a).val | i + 1 => (P i + P (i + 1) * a).val)
  | [], c, P, c', hc, hP, i => by
    have z : ∀ j, P j = 0 := fun j => Pl.El.ext (by rw [hP j]; simp; rfl)
    rcases i with _ | i
    · show ([c] : List (BitVec 16)).getD 0 0 = (c' + P 0 * a).val
      rw [z 0, Pl.zero_mul, Pl.Fl.add_zero, hc]; rfl
    · show ([c] : List (BitVec 16)).getD (i + 1) 0 = (P i + P (i + 1) * a).val
      rw [z i, z (i + 1), Pl.zero_mul, Pl.Fl.add_zero]; simp; rfl
  | p :: t, c, P, c', hc, hP, i => by
    have h0 : (P 0).val = p := hP 0
    rcases i with _ | i
    · show c ^^^ Fld.fmul m p a.val = (c' + P 0 * a).val
      rw [Pl.val_add, Pl.val_mul, hc, h0]
    · show (linF m a.val p t).getD i 0 = _
      rw [linF_at a t p (Pl.tl P) (P 0) h0 (fun j => hP (j + 1)) i]
      rcases i with _ | i
      · rfl
      · rfl
/-- the minimal polynomial's coefficients. -/
def mpF (m : Nat) (l : List Nat) : List (BitVec 16) := l.foldl (fun P (j : Nat) => linF m (Fld.pwZ m (j : Int)) 0 P) [1]
theorem mpF_at (l : List Nat) : ∀ (k : Nat), k ≤ l.length → ∀ i, (Pl.pls (m := m) (exl m l) k i).val = (mpF m (l.take k)).getD i 0
  | 0, _, i => by
    show ((if i = 0 then (1 : Pl.El m) else 0)).val = ([1] : List (BitVec 16)).getD i 0
    rcases i with _ | i
    · rfl
    · rw [if_neg (by omega)]; simp; rfl
  | k + 1, hk, i => by
    have hs := take_snocN l k (by omega)
    have e : mpF m (l.take (k + 1)) = linF m (Fld.pwZ m ((l.getD k 0 : Nat) : Int)) 0 (mpF m (l.take k)) := by
      rw [hs]; unfold mpF; rw [List.foldl_append]; rfl
    rw [e]
    have h := linF_at (xe m (l.getD k 0)) (mpF m (l.take k)) 0 (Pl.pls (m := m) (exl m l) k) 0 rfl (mpF_at l k (by omega)) i
    show (Pl.cv (Pl.pls (exl m l) k) (Pl.lin (Pl.elm m ((exl m l).getD k 0))) i).val = _
    rw [exl_at l k (by omega)]
    refine Eq.trans ?_ h.symm
    rcases i with _ | i
    · rw [Pl.lin_first]
      show _ = (0 + Pl.pls (exl m l) k 0 * xe m (l.getD k 0)).val
      rw [Pl.zero_add]
    · rw [Pl.lin_succ]
/-- .. as a number. -/
def mpN (m : Nat) (f : Nat) : Nat :=
  let c := cos m f
  let P := mpF m c
  nb (fun i => P.getD i 0 == 1) (c.length + 1)
theorem mpN_is (f : Nat) : mpv m f = mpN m f := by
  unfold mpv mpN mpb
  congr 1
  funext i
  have h := mpF_at (m := m) (cos m f) (cos m f).length (Nat.le_refl _) i
  rw [List.take_length] at h
  show decide (mpS m f i = 1) = ((mpF m (cos m f)).getD i 0 == 1)
  rw [Bool.eq_iff_iff, decide_eq_true_iff, beq_iff_eq, ← h]
  constructor
  · intro e; unfold mpS at e; rw [e]; rfl
  · intro e; exact Pl.El.ext e
def gprN (m : Nat) (fs : List Nat) : Nat := fs.foldl (fun g f => pm g (mpN m f)) 1
theorem gprN_is (fs : List Nat) : gpr m fs = gprN m fs := by
  unfold gpr gprN
  congr 1
  funext g f
  rw [mpN_is]
end
end Go.Proofs.YtbapmkhdpfgnlaaDoor.Cos
/- What is reckoned of the fields of 3 to 9 bits. By the verifier of shale. -/
namespace Go.Proofs.YtbapmkhdpfgnlaaDoor.Cos
open Go Bin
theorem w3 : gprN 3 (leadF 3 (sz 3)).1 = xp [sz 3, 0] := by decide +kernel
theorem w4 : gprN 4 (leadF 4 (sz 4)).1 = xp [sz 4, 0] := by decide +kernel
theorem w5 : gprN 5 (leadF 5 (sz 5)).1 = xp [sz 5, 0] := by decide +kernel
theorem w6 : gprN 6 (leadF 6 (sz 6)).1 = xp [sz 6, 0] := by decide +kernel
theorem w7 : gprN 7 (leadF 7 (sz 7)).1 = xp [sz 7, 0] := by decide +kernel
/-- irreducible, and a divisor of x to the n and 1. -/
def goodN (m : Nat) (l : Nat) : Bool := irrC (mpN m l) && pmod (xp [sz m, 0]) (mpN m l) == 0
theorem d3 : (leadF 3 (sz 3)).1.all (goodN 3) = true := by decide +kernel
theorem d4 : (leadF 4 (sz 4)).1.all (goodN 4) = true := by decide +kernel
theorem d5 : (leadF 5 (sz 5)).1.all (goodN 5) = true := by decide +kernel
theorem d6 : (leadF 6 (sz 6)).1.all (goodN 6) = true := by decide +kernel
theorem d7 : (leadF 7 (sz 7)).1.all (goodN 7) = true := by decide +kernel
end Go.Proofs.YtbapmkhdpfgnlaaDoor.Cos
