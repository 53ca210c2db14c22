/- The stream of scramble comes again behind 65535 steps and not before. By the verifier of shale. -/
import Derived.Test.YtggiknecfiaokaaScrMath
import Derived.KernelRfl
namespace Go.Proofs.Ytggiknecfiaokaa.Scr
def lfN (a : Nat) : Nat := (a >>> 1) ||| (((a ^^^ (a >>> 2) ^^^ (a >>> 3) ^^^ (a >>> 5)) % 2) * 32768)
theorem lf_toNat (x : BitVec 16) : (lf x).toNat = lfN x.toNat := by
  unfold lf lfN
  rw [BitVec.toNat_or, BitVec.toNat_ushiftRight, BitVec.toNat_shiftLeft, Nat.shiftLeft_eq]
  simp only [BitVec.toNat_xor, BitVec.toNat_ushiftRight]
  congr 1
  rw [show (2 : Nat) ^ 15 = 32768 by decide, show (2 : Nat) ^ 16 = 65536 by decide]
  omega
noncomputable def run (n : Nat) : Nat → Nat := Nat.rec (fun a => a) (fun _ ih a => if lfN a = 32768 then 0 else ih (lfN a)) n
theorem run_all : run 65534 32768 ≠ 0 ∧ lfN (run 65534 32768) = 32768 := by
  have : (run 65534 32768 != 0 && lfN (run 65534 32768) == 32768) = true := by kernel_rfl
  simpa using this
def v : BitVec 16 := 32768#16
theorem run_spec : ∀ (n : Nat) (x : BitVec 16), run n x.toNat ≠ 0 → run n x.toNat = (lfs n x).toNat ∧ ∀ d, 0 < d → d ≤ n → lfs d x ≠ v
  | 0, x, _ => ⟨rfl, fun d h1 h2 => by omega⟩
  | n + 1, x, h => by
    have e : run (n + 1) x.toNat = if lfN x.toNat = 32768 then 0 else run n (lfN x.toNat) := rfl
    rw [e] at h ⊢
    by_cases hc : lfN x.toNat = 32768
    · rw [if_pos hc] at h; exact absurd rfl h
    · rw [if_neg hc] at h ⊢
      rw [← lf_toNat] at h hc ⊢
      obtain ⟨r1, r2⟩ := run_spec n (lf x) h
      refine ⟨r1, fun d h1 h2 => ?_⟩
      obtain ⟨d, rfl⟩ : ∃ k, d = k + 1 := ⟨d - 1, by omega⟩
      by_cases h0 : d = 0
      · subst h0
        intro hv
        apply hc
        have := congrArg BitVec.toNat hv
        simpa [lfs, v] using this
      · exact r2 d (by omega) (by omega)
theorem v_never : ∀ d, 0 < d → d ≤ 65534 → lfs d v ≠ v := (run_spec 65534 v run_all.1).2
theorem v_back : lfs 65535 v = v := by
  have h := (run_spec 65534 v run_all.1).1
  have h2 := run_all.2
  rw [show (32768 : Nat) = v.toNat from rfl, h, ← lf_toNat] at h2
  rw [lfs_succ]
  exact BitVec.eq_of_toNat_eq h2
theorem lfs_inj (n : Nat) (x y : BitVec 16) (h : lfs n x = lfs n y) : x = y := by
  have e : lfs n (x ^^^ y) = 0 := by rw [lfs_xor, h, BitVec.xor_self]; rfl
  have : x ^^^ y = 0 := by
    by_cases hz : x ^^^ y = 0
    · exact hz
    · exact absurd e (lfs_ne n _ hz)
  exact BitVec.xor_eq_zero_iff.1 this
theorem v_apart (i j : Nat) (hi : i < 65535) (hj : j < 65535) (h : lfs i v = lfs j v) : i = j := by
  have key : ∀ i j, i < j → j < 65535 → lfs i v ≠ lfs j v := by
    intro i j hij hj e
    have : lfs i (lfs (j - i) v) = lfs i v := by rw [lfs_add, show j - i + i = j by omega]; exact e.symm
    exact v_never (j - i) (by omega) (by omega) (lfs_inj i _ _ this)
  rcases Nat.lt_trichotomy i j with h1 | h1 | h1
  · exact absurd h (key i j h1 hj)
  · exact h1
  · exact absurd h.symm (key j i h1 hi)
/-- a function that takes the numbers below n to numbers below n, no two to one, takes some number to each. -/
theorem onto : ∀ (n : Nat) (f : Nat → Nat), (∀ i, i < n → f i < n) → (∀ i j, i < n → j < n → f i = f j → i = j) → ∀ y, y < n → ∃ x, x < n ∧ f x = y
  | 0, _, _, _, y, hy => by omega
  | n + 1, f, hf, hi, y, hy => by
    -- g is f, with what goes to n sent to where n goes
    have hg : ∀ i, i < n → (if f i = n then f n else f i) < n := by
      intro i h
      by_cases h1 : f i = n
      · rw [if_pos h1]
        have := hf n (by omega)
        have h2 : f n ≠ n := fun e => by have := hi i n (by omega) (by omega) (h1.trans e.symm); omega
        omega
      · rw [if_neg h1]; have := hf i (by omega); omega
    have hj : ∀ i j, i < n → j < n → (if f i = n then f n else f i) = (if f j = n then f n else f j) → i = j := by
      intro i j h1 h2 e
      by_cases a : f i = n <;> by_cases b : f j = n
      · exact hi i j (by omega) (by omega) (a.trans b.symm)
      · rw [if_pos a, if_neg b] at e; have := hi n j (by omega) (by omega) e; omega
      · rw [if_neg a, if_pos b] at e; have := hi i n (by omega) (by omega) e; omega
      · rw [if_neg a, if_neg b] at e; exact hi i j (by omega) (by omega) e
    have ih := onto n (fun i => if f i = n then f n else f i) hg hj
    by_cases hyn : y = f n
    · exact ⟨n, by omega, hyn.symm⟩
    · by_cases hy2 : y = n
      · subst hy2
        -- some i goes to n: else f stays below n
        by_cases hex : ∃ i, i < y ∧ f i = y
        · obtain ⟨i, h1, h2⟩ := hex; exact ⟨i, by omega, h2⟩
        · have hfn : f y < y := by have := hf y (by omega); omega
          obtain ⟨x, h1, h2⟩ := ih (f y) hfn
          by_cases hx : f x = y
          · exact ⟨x, by omega, hx⟩
          · rw [if_neg hx] at h2
            have := hi x y (by omega) (by omega) h2
            omega
      · obtain ⟨x, h1, h2⟩ := ih y (by omega)
        by_cases hx : f x = n
        · rw [if_pos hx] at h2; exact absurd h2.symm hyn
        · rw [if_neg hx] at h2; exact ⟨x, by omega, h2⟩
/-- every state but none is one of the stream's. -/
theorem reach (x : BitVec 16) (h : x ≠ 0) : ∃ k, lfs k v = x := by
  have hp : ∀ i, 0 < (lfs i v).toNat := by
    intro i
    have := lfs_ne i v (by decide)
    rcases Nat.eq_zero_or_pos (lfs i v).toNat with e | e
    · exact absurd (BitVec.eq_of_toNat_eq e) this
    · exact e
  have hx : 0 < x.toNat := by
    rcases Nat.eq_zero_or_pos x.toNat with e | e
    · exact absurd (BitVec.eq_of_toNat_eq e) h
    · exact e
  obtain ⟨k, h1, h2⟩ := onto 65535 (fun i => (lfs i v).toNat - 1) (fun i _ => by have := (lfs i v).isLt; have := hp i; show (lfs i v).toNat - 1 < 65535; omega)
    (fun i j hi hj e => v_apart i j hi hj (BitVec.eq_of_toNat_eq (by have := hp i; have := hp j; have e : (lfs i v).toNat - 1 = (lfs j v).toNat - 1 := e; omega))) (x.toNat - 1) (by have := x.isLt; omega)
  refine ⟨k, BitVec.eq_of_toNat_eq ?_⟩
  have := hp k
  omega
theorem back (x : BitVec 16) : lfs 65535 x = x := by
  by_cases h : x = 0
  · subst h; exact lfs_zero _
  · obtain ⟨k, rfl⟩ := reach x h
    rw [lfs_add, Nat.add_comm, ← lfs_add, v_back]
theorem not_back (x : BitVec 16) (h : x ≠ 0) (d : Nat) (h1 : 0 < d) (h2 : d < 65535) : lfs d x ≠ x := by
  obtain ⟨k, rfl⟩ := reach x h
  intro e
  rw [lfs_add, Nat.add_comm, ← lfs_add] at e
  exact v_never d h1 (by omega) (lfs_inj k _ _ e)
theorem lfs_mod (n : Nat) (x : BitVec 16) : lfs (n % 65535) x = lfs n x := by
  have key : ∀ q r, lfs (65535 * q + r) x = lfs r x := by
    intro q
    induction q with
    | zero => intro r; rw [Nat.mul_zero, Nat.zero_add]
    | succ q ih => intro r; rw [show 65535 * (q + 1) + r = (65535 * q + r) + 65535 by omega, ← lfs_add, back, ih]
  have := key (n / 65535) (n % 65535)
  rwa [Nat.div_add_mod, eq_comm] at this
/-- the first two bytes of a stream are its 16 bits. -/
theorem two_bytes (x : BitVec 16) : (out x).toNat + 256 * (out (lfs 8 x)).toNat = x.toNat := by
  have h0 := lowN_out x
  have h1 := lowN_out (lfs 8 x)
  unfold lowN at h0 h1
  rw [← h0, ← h1]
  have e : (lfs 8 x).toNat % 2 ^ 8 = x.toNat / 2 ^ 8 := by
    apply Nat.eq_of_testBit_eq
    intro i
    rw [Nat.testBit_mod_two_pow, Nat.testBit_div_two_pow]
    by_cases hi : i < 8
    · have := lfs_bit 8 i x (by omega)
      rw [BitVec.getLsbD, BitVec.getLsbD] at this
      simp [hi, this]
    · simp only [hi, decide_false, Bool.false_and]
      have : x.toNat.testBit (i + 8) = false := Nat.testBit_lt_two_pow (Nat.lt_of_lt_of_le x.isLt (Nat.pow_le_pow_right (by decide) (by omega)))
      rw [this]
  rw [e]
  have := x.isLt
  omega
theorem two_inj (x y : BitVec 16) (h0 : out x = out y) (h1 : out (lfs 8 x) = out (lfs 8 y)) : x = y := by
  have hx := two_bytes x
  have hy := two_bytes y
  rw [h0, h1] at hx
  exact BitVec.eq_of_toNat_eq (hx.symm.trans hy)
def zeros : List (BitVec 8) := List.replicate 20 0
theorem mix_zeros (x : BitVec 16) : ∃ r : List (BitVec 8), mixL x zeros = out x :: out (lfs 8 x) :: r := by
  have e : zeros = (0 : BitVec 8) :: (0 : BitVec 8) :: List.replicate 18 0 := rfl
  rw [e]
  simp only [mixL]
  rw [show (0 : BitVec 8) ^^^ out x = out x from BitVec.zero_xor, show (0 : BitVec 8) ^^^ out (lfs 8 x) = out (lfs 8 x) from BitVec.zero_xor]
  exact ⟨_, rfl⟩
theorem mix_same (x y : BitVec 16) : decide (mixL x zeros = mixL y zeros) = decide (x = y) := by
  rw [decide_eq_decide]
  constructor
  · intro h
    obtain ⟨r, hr⟩ := mix_zeros x
    obtain ⟨q, hq⟩ := mix_zeros y
    rw [hr, hq] at h
    simp only [List.cons.injEq] at h
    exact two_inj x y h.1 h.2.1
  · intro h; rw [h]
theorem mix_two (x y : BitVec 16) : decide ((mixL x zeros).take 2 = (mixL y zeros).take 2) = decide (x = y) := by
  rw [decide_eq_decide]
  constructor
  · intro h
    obtain ⟨r, hr⟩ := mix_zeros x
    obtain ⟨q, hq⟩ := mix_zeros y
    rw [hr, hq] at h
    simp only [List.take_succ_cons, List.take_zero, List.cons.injEq] at h
    exact two_inj x y h.1 h.2.1
  · intro h; rw [h]
end Go.Proofs.Ytggiknecfiaokaa.Scr
