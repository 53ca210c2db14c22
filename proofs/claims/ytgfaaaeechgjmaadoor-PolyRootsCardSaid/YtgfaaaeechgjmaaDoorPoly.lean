/- Polynomials over a field of two: series with a last coefficient; sums, products, quotients, divisors, values, roots. No program is named here. By the verifier of shale. -/
namespace Go.Proofs.YtgfaaaeechgjmaaDoor.Pl
set_option linter.unusedVariables false
/-- a field of two's kind: a + a = 0. -/
class Fl (K : Type) extends Zero K, One K, Add K, Mul K, Inv K where
  add_assoc : ∀ a b c : K, a + b + c = a + (b + c)
  add_comm : ∀ a b : K, a + b = b + a
  add_zero : ∀ a : K, a + 0 = a
  add_self : ∀ a : K, a + a = 0
  mul_assoc : ∀ a b c : K, a * b * c = a * (b * c)
  mul_comm : ∀ a b : K, a * b = b * a
  mul_one : ∀ a : K, a * 1 = a
  mul_add : ∀ a b c : K, a * (b + c) = a * b + a * c
  one_ne : (1 : K) ≠ 0
  mul_inv : ∀ a : K, a ≠ 0 → a * a⁻¹ = 1
section
variable {K : Type} [Fl K]
instance : Std.Associative (α := K) (· + ·) := ⟨Fl.add_assoc⟩
instance : Std.Commutative (α := K) (· + ·) := ⟨Fl.add_comm⟩
instance : Std.Associative (α := K) (· * ·) := ⟨Fl.mul_assoc⟩
instance : Std.Commutative (α := K) (· * ·) := ⟨Fl.mul_comm⟩
theorem zero_add (a : K) : 0 + a = a := by rw [Fl.add_comm, Fl.add_zero]
theorem add_mul (a b c : K) : (a + b) * c = a * c + b * c := by rw [Fl.mul_comm, Fl.mul_add, Fl.mul_comm c, Fl.mul_comm c]
theorem mul_zero (a : K) : a * 0 = 0 := by
  have h : a * 0 + a * 0 = a * 0 := by rw [← Fl.mul_add, Fl.add_zero]
  rw [Fl.add_self] at h
  exact h.symm
theorem zero_mul (a : K) : 0 * a = 0 := by rw [Fl.mul_comm, mul_zero]
theorem one_mul (a : K) : 1 * a = a := by rw [Fl.mul_comm, Fl.mul_one]
theorem add_cancel {a b : K} (h : a + b = 0) : a = b := by
  have : a + b + b = 0 + b := by rw [h]
  rw [Fl.add_assoc, Fl.add_self, Fl.add_zero, zero_add] at this
  exact this
theorem mul_ne {a b : K} (ha : a ≠ 0) (hb : b ≠ 0) : a * b ≠ 0 := by
  intro h
  have : a⁻¹ * (a * b) = b := by rw [← Fl.mul_assoc, Fl.mul_comm a⁻¹, Fl.mul_inv a ha, one_mul]
  rw [h, mul_zero] at this
  exact hb this.symm
theorem mul_eq_zero {a b : K} (h : a * b = 0) : a = 0 ∨ b = 0 := by
  apply Classical.byContradiction
  intro h0
  exact mul_ne (fun h1 => h0 (Or.inl h1)) (fun h1 => h0 (Or.inr h1)) h
theorem inv_ne {a : K} (ha : a ≠ 0) : a⁻¹ ≠ 0 := by
  intro h
  have := Fl.mul_inv a ha
  rw [h, mul_zero] at this
  exact Fl.one_ne this.symm
theorem inv_unique {a b : K} (h : a * b = 1) : b = a⁻¹ := by
  have ha : a ≠ 0 := by intro h0; rw [h0, zero_mul] at h; exact Fl.one_ne h.symm
  have : a⁻¹ * (a * b) = a⁻¹ := by rw [h, Fl.mul_one]
  rw [← Fl.mul_assoc, Fl.mul_comm a⁻¹, Fl.mul_inv a ha, one_mul] at this
  exact this
theorem mul_cancel {a b c : K} (hc : c ≠ 0) (h : a * c = b * c) : a = b := by
  have : (a * c) * c⁻¹ = (b * c) * c⁻¹ := by rw [h]
  rwa [Fl.mul_assoc, Fl.mul_assoc, Fl.mul_inv c hc, Fl.mul_one, Fl.mul_one] at this
theorem add_xx (a b c d : K) : (a + b) + (c + d) = (a + c) + (b + d) := by ac_rfl
/-- a series: the coefficient of x^i is p i. -/
abbrev Ser (K : Type) := Nat → K
def padd (p q : Ser K) : Ser K := fun i => p i + q i
def pz : Ser K := fun _ => 0
def psm (a : K) (p : Ser K) : Ser K := fun i => a * p i
def tl (p : Ser K) : Ser K := fun i => p (i + 1)
/-- the product. -/
def cv : Ser K → Ser K → Nat → K
  | p, q, 0 => p 0 * q 0
  | p, q, n + 1 => p 0 * q (n + 1) + cv (tl p) q n
theorem padd_comm (p q : Ser K) : padd p q = padd q p := funext fun i => Fl.add_comm _ _
theorem padd_assoc (p q r : Ser K) : padd (padd p q) r = padd p (padd q r) := funext fun i => Fl.add_assoc _ _ _
theorem padd_self (p : Ser K) : padd p p = pz := funext fun i => Fl.add_self _
theorem padd_zero (p : Ser K) : padd p pz = p := funext fun i => Fl.add_zero _
theorem zero_padd (p : Ser K) : padd pz p = p := funext fun i => zero_add _
theorem padd_cancel {p q : Ser K} (h : padd p q = pz) : p = q := funext fun i => add_cancel (congrFun h i)
theorem padd_xx (p q r s : Ser K) : padd (padd p q) (padd r s) = padd (padd p r) (padd q s) := funext fun i => add_xx _ _ _ _
theorem padd_back (p q : Ser K) : padd (padd p q) q = p := by rw [padd_assoc, padd_self, padd_zero]
theorem cv_add_left (p q r : Ser K) : ∀ n, cv (padd p q) r n = cv p r n + cv q r n := by
  intro n
  induction n generalizing p q with
  | zero => exact add_mul _ _ _
  | succ n ih =>
    show (p 0 + q 0) * r (n + 1) + cv (padd (tl p) (tl q)) r n = _
    rw [ih, add_mul, add_xx]; rfl
theorem cv_sm_left (a : K) (p q : Ser K) : ∀ n, cv (psm a p) q n = a * cv p q n := by
  intro n
  induction n generalizing p with
  | zero => exact Fl.mul_assoc _ _ _
  | succ n ih =>
    show a * p 0 * q (n + 1) + cv (psm a (tl p)) q n = a * (p 0 * q (n + 1) + cv (tl p) q n)
    rw [ih, Fl.mul_add, Fl.mul_assoc]
theorem cv_zero_left (q : Ser K) : ∀ n, cv pz q n = 0 := by
  intro n
  induction n with
  | zero => exact zero_mul _
  | succ n ih =>
    show 0 * q (n + 1) + cv pz q n = 0
    rw [ih, zero_mul, Fl.add_zero]
theorem cv_right (p q : Ser K) : ∀ n, cv p q (n + 1) = cv p (tl q) n + p (n + 1) * q 0 := by
  intro n
  induction n generalizing p with
  | zero => rfl
  | succ n ih =>
    show p 0 * q (n + 1 + 1) + cv (tl p) q (n + 1) = (p 0 * q (n + 1 + 1) + cv (tl p) (tl q) n) + p (n + 1 + 1) * q 0
    rw [ih, Fl.add_assoc]; rfl
theorem cv_comm (p q : Ser K) : cv p q = cv q p := by
  funext n
  induction n generalizing p q with
  | zero => exact Fl.mul_comm _ _
  | succ n ih =>
    rw [cv_right q p n, ← ih (tl p) q]
    show p 0 * q (n + 1) + cv (tl p) q n = _
    rw [Fl.add_comm, Fl.mul_comm (p 0)]
theorem cv_assoc (p q r : Ser K) : cv (cv p q) r = cv p (cv q r) := by
  funext n
  induction n generalizing p q r with
  | zero => exact Fl.mul_assoc _ _ _
  | succ n ih =>
    have ht : tl (cv p q) = padd (psm (p 0) (tl q)) (cv (tl p) q) := rfl
    show p 0 * q 0 * r (n + 1) + cv (tl (cv p q)) r n = p 0 * (q 0 * r (n + 1) + cv (tl q) r n) + cv (tl p) (cv q r) n
    rw [ht, cv_add_left, cv_sm_left, ih, Fl.mul_add, Fl.mul_assoc, Fl.add_assoc]
theorem cv_add (p q r : Ser K) : cv (padd p q) r = padd (cv p r) (cv q r) := funext fun n => cv_add_left p q r n
theorem cv_padd (p q r : Ser K) : cv r (padd p q) = padd (cv r p) (cv r q) := by rw [cv_comm, cv_add, cv_comm p, cv_comm q]
theorem cv_psm (a : K) (p q : Ser K) : cv (psm a p) q = psm a (cv p q) := funext fun n => cv_sm_left a p q n
theorem cv_zero (q : Ser K) : cv pz q = pz := funext fun n => cv_zero_left q n
theorem zero_cv (q : Ser K) : cv q pz = pz := by rw [cv_comm, cv_zero]
def pone : Ser K := fun i => if i = 0 then 1 else 0
theorem tl_pone : tl (pone : Ser K) = pz := funext fun i => by show (if i + 1 = 0 then (1 : K) else 0) = 0; rw [if_neg (by omega)]
theorem one_cv (q : Ser K) : cv pone q = q := by
  funext n
  cases n with
  | zero => exact one_mul _
  | succ n =>
    show (1 : K) * q (n + 1) + cv (tl pone) q n = _
    rw [tl_pone, cv_zero_left, one_mul, Fl.add_zero]
theorem cv_one (q : Ser K) : cv q pone = q := by rw [cv_comm, one_cv]
/-- from n on nothing. -/
def Bd (p : Ser K) (n : Nat) : Prop := ∀ i, n ≤ i → p i = 0
theorem Bd.mono {p : Ser K} {n m : Nat} (h : Bd p n) (hm : n ≤ m) : Bd p m := fun i hi => h i (by omega)
theorem Bd.add {p q : Ser K} {n : Nat} (h : Bd p n) (k : Bd q n) : Bd (padd p q) n := fun i hi => by show p i + q i = 0; rw [h i hi, k i hi, Fl.add_zero]
theorem Bd.tl {p : Ser K} {n : Nat} (h : Bd p (n + 1)) : Bd (tl p) n := fun i hi => h (i + 1) (by omega)
theorem Bd.zero {p : Ser K} (h : Bd p 0) : p = pz := funext fun i => h i (Nat.zero_le _)
theorem bd_pz (n : Nat) : Bd (pz : Ser K) n := fun _ _ => rfl
theorem Bd.sm {p : Ser K} {n : Nat} (h : Bd p n) (a : K) : Bd (psm a p) n := fun i hi => by show a * p i = 0; rw [h i hi, mul_zero]
/-- the highest one. -/
theorem cv_top (p q : Ser K) (d e : Nat) (hp : Bd p (d + 1)) (hq : Bd q (e + 1)) : cv p q (d + e) = p d * q e ∧ Bd (cv p q) (d + e + 1) := by
  induction d generalizing p with
  | zero =>
    have ht : tl p = pz := Bd.zero hp.tl
    constructor
    · rw [Nat.zero_add]
      cases e with
      | zero => rfl
      | succ e =>
        show p 0 * q (e + 1) + cv (tl p) q e = _
        rw [ht, cv_zero_left, Fl.add_zero]
    · intro i hi
      cases i with
      | zero => omega
      | succ i =>
        show p 0 * q (i + 1) + cv (tl p) q i = 0
        rw [ht, cv_zero_left, hq (i + 1) (by omega), mul_zero, Fl.add_zero]
  | succ d ih =>
    obtain ⟨h1, h2⟩ := ih (tl p) hp.tl
    constructor
    · rw [show d + 1 + e = d + e + 1 by omega]
      show p 0 * q (d + e + 1) + cv (tl p) q (d + e) = _
      rw [h1, hq (d + e + 1) (by omega), mul_zero, zero_add]; rfl
    · intro i hi
      cases i with
      | zero => omega
      | succ i =>
        show p 0 * q (i + 1) + cv (tl p) q i = 0
        rw [h2 i (by omega), hq (i + 1) (by omega), mul_zero, Fl.add_zero]
/-- of degree d. -/
def Dg (p : Ser K) (d : Nat) : Prop := p d ≠ 0 ∧ Bd p (d + 1)
theorem Dg.mul {p q : Ser K} {d e : Nat} (h : Dg p d) (k : Dg q e) : Dg (cv p q) (d + e) := by
  obtain ⟨h1, h2⟩ := cv_top p q d e h.2 k.2
  exact ⟨by rw [h1]; exact mul_ne h.1 k.1, h2⟩
theorem Dg.eq {p : Ser K} {d e : Nat} (h : Dg p d) (k : Dg p e) : d = e := by
  rcases Nat.lt_trichotomy d e with h1 | h1 | h1
  · exact absurd (h.2 e h1) k.1
  · exact h1
  · exact absurd (k.2 d h1) h.1
theorem dg_or {p : Ser K} : ∀ {n : Nat}, Bd p n → p = pz ∨ ∃ d, d < n ∧ Dg p d
  | 0, h => Or.inl h.zero
  | n + 1, h => by
    by_cases h0 : p n = 0
    · have hb : Bd p n := fun i hi => by
        by_cases e : i = n
        · rw [e]; exact h0
        · exact h i (by omega)
      rcases dg_or hb with h1 | ⟨d, h1, h2⟩
      · exact Or.inl h1
      · exact Or.inr ⟨d, by omega, h2⟩
    · exact Or.inr ⟨n, by omega, h0, h⟩
theorem Dg.ne {p : Ser K} {d : Nat} (h : Dg p d) : p ≠ pz := fun e => h.1 (by rw [e]; rfl)
theorem Dg.lt {p : Ser K} {d n : Nat} (h : Dg p d) (hb : Bd p n) : d < n := Classical.byContradiction fun h0 => h.1 (hb d (by omega))
theorem bd_cv {p q : Ser K} {m n : Nat} (hp : Bd p m) (hq : Bd q n) : Bd (cv p q) (m + n - 1) := by
  cases m with
  | zero => rw [hp.zero, cv_zero]; exact bd_pz _
  | succ d =>
    cases n with
    | zero => rw [hq.zero, zero_cv]; exact bd_pz _
    | succ e => exact (cv_top p q d e hp hq).2.mono (by omega)
/-- c x^s. -/
def mono (s : Nat) (c : K) : Ser K := fun i => if i = s then c else 0
theorem mono_bd (s : Nat) (c : K) : Bd (mono s c) (s + 1) := fun i hi => if_neg (by omega)
theorem cv_mono (s : Nat) (c : K) (q : Ser K) : ∀ n, cv (mono s c) q n = if n < s then 0 else c * q (n - s) := by
  intro n
  induction s generalizing n with
  | zero =>
    rw [if_neg (by omega)]
    have ht : tl (mono 0 c) = pz := funext fun i => by show (if i + 1 = 0 then c else 0) = 0; rw [if_neg (by omega)]
    cases n with
    | zero => rfl
    | succ n =>
      show c * q (n + 1) + cv (tl (mono 0 c)) q n = _
      rw [ht, cv_zero_left, Fl.add_zero]; rfl
  | succ s ih =>
    have ht : tl (mono (s + 1) c) = mono s c := funext fun i => by show (if i + 1 = s + 1 then c else 0) = if i = s then c else 0; simp
    cases n with
    | zero => rw [if_pos (by omega)]; exact zero_mul _
    | succ n =>
      show (0 : K) * q (n + 1) + cv (tl (mono (s + 1) c)) q n = _
      rw [ht, ih, zero_mul, zero_add]
      by_cases h : n < s
      · rw [if_pos h, if_pos (by omega)]
      · rw [if_neg h, if_neg (by omega), show n + 1 - (s + 1) = n - s by omega]
/-- quotient and rest. -/
structure Dv2 (p q a r : Ser K) (e : Nat) : Prop where
  sum : p = padd (cv a q) r
  fin : ∃ n, Bd a n
  low : Bd r e
theorem div_unique {p q a r a' r' : Ser K} {e : Nat} (hq : Dg q e) (h : Dv2 p q a r e) (k : Dv2 p q a' r' e) : a = a' ∧ r = r' := by
  have hs : cv (padd a a') q = padd r r' := by
    have h1 : padd (padd (cv a q) r) (padd (cv a' q) r') = pz := by rw [← h.sum, ← k.sum, padd_self]
    rw [padd_xx, ← cv_add] at h1
    exact padd_cancel h1
  obtain ⟨n, hn⟩ := h.fin
  obtain ⟨n', hn'⟩ := k.fin
  have hb : Bd (padd a a') (max n n') := (hn.mono (by omega)).add (hn'.mono (by omega))
  have ha : padd a a' = pz := by
    rcases dg_or hb with h0 | ⟨d, _, hd⟩
    · exact h0
    · have h2 := hd.mul hq
      rw [hs] at h2
      have := h2.lt (h.low.add k.low)
      omega
  refine ⟨padd_cancel ha, ?_⟩
  rw [ha, cv_zero] at hs
  exact padd_cancel hs.symm
theorem div_step {p q : Ser K} {k e : Nat} (hq : Dg q e) (hp : Bd p (k + 1)) (hk : e ≤ k) : Bd (padd p (cv (mono (k - e) (p k * (q e)⁻¹)) q)) k := by
  intro i hi
  show p i + cv (mono (k - e) (p k * (q e)⁻¹)) q i = 0
  rw [cv_mono, if_neg (by omega)]
  by_cases e1 : i = k
  · subst e1
    rw [show i - (i - e) = e by omega, Fl.mul_assoc, Fl.mul_comm (q e)⁻¹, Fl.mul_inv _ hq.1, Fl.mul_one, Fl.add_self]
  · rw [hp i (by omega), hq.2 (i - (k - e)) (by omega), mul_zero, Fl.add_zero]
theorem div_exists {q : Ser K} {e : Nat} (hq : Dg q e) : ∀ (n : Nat) (p : Ser K), Bd p n → ∃ a r, Dv2 p q a r e
  | 0, p, h => ⟨pz, p, by rw [cv_zero, zero_padd], ⟨0, bd_pz 0⟩, h.mono (Nat.zero_le _)⟩
  | n + 1, p, h => by
    by_cases hk : e ≤ n
    · obtain ⟨a, r, hd⟩ := div_exists hq n _ (div_step hq h hk)
      obtain ⟨m, hm⟩ := hd.fin
      refine ⟨padd a (mono (n - e) (p n * (q e)⁻¹)), r, ?_, ⟨max m (n - e + 1), (hm.mono (by omega)).add ((mono_bd _ _).mono (by omega))⟩, hd.low⟩
      rw [cv_add, padd_assoc, padd_comm _ r, ← padd_assoc, ← hd.sum, padd_back]
    · exact ⟨pz, p, by rw [cv_zero, zero_padd], ⟨0, bd_pz 0⟩, h.mono (by omega)⟩
/-- c divides p. -/
def PD (c p : Ser K) : Prop := ∃ a n, Bd a n ∧ p = cv a c
theorem PD.zero (c : Ser K) : PD c pz := ⟨pz, 0, bd_pz 0, (cv_zero c).symm⟩
theorem bd_one : Bd (pone : Ser K) 1 := fun i hi => if_neg (by omega)
theorem PD.refl (c : Ser K) : PD c c := ⟨pone, 1, bd_one, (one_cv c).symm⟩
theorem PD.add {c p q : Ser K} (h : PD c p) (k : PD c q) : PD c (padd p q) := by
  obtain ⟨a, n, ha, rfl⟩ := h
  obtain ⟨b, m, hb, rfl⟩ := k
  exact ⟨padd a b, max n m, (ha.mono (by omega)).add (hb.mono (by omega)), (cv_add a b c).symm⟩
theorem PD.mul {c p : Ser K} (h : PD c p) {a : Ser K} {n : Nat} (ha : Bd a n) : PD c (cv a p) := by
  obtain ⟨b, m, hb, rfl⟩ := h
  exact ⟨cv a b, n + m - 1, bd_cv ha hb, (cv_assoc a b c).symm⟩
theorem PD.trans {a b c : Ser K} (h : PD a b) (k : PD b c) : PD a c := by
  obtain ⟨x, n, hx, rfl⟩ := k
  exact h.mul hx
theorem PD.rest {c p q a r : Ser K} {e : Nat} (hd : Dv2 p q a r e) (hp : PD c p) (hq : PD c q) : PD c r := by
  obtain ⟨n, hn⟩ := hd.fin
  have : r = padd p (cv a q) := by rw [hd.sum, padd_comm (cv a q), padd_back]
  rw [this]
  exact hp.add (hq.mul hn)
theorem PD.whole {c p q a r : Ser K} {e : Nat} (hd : Dv2 p q a r e) (hq : PD c q) (hr : PD c r) : PD c p := by
  obtain ⟨n, hn⟩ := hd.fin
  rw [hd.sum]
  exact (hq.mul hn).add hr
theorem rest_zero {p q a r : Ser K} {e : Nat} (hq : Dg q e) (hd : Dv2 p q a r e) : r = pz ↔ PD q p := by
  constructor
  · intro h
    obtain ⟨n, hn⟩ := hd.fin
    exact ⟨a, n, hn, by rw [hd.sum, h, padd_zero]⟩
  · rintro ⟨x, n, hx, h⟩
    exact (div_unique hq hd ⟨by rw [padd_zero]; exact h, ⟨n, hx⟩, bd_pz e⟩).2
/-- two that divide each other, both with the highest coefficient 1. -/
theorem PD.antisymm {p q : Ser K} {d e : Nat} (hp : Dg p d) (hq : Dg q e) (h : PD p q) (k : PD q p) (h1 : p d = 1) (h2 : q e = 1) : p = q := by
  obtain ⟨a, n, ha, hqa⟩ := h
  obtain ⟨b, m, hb, hpb⟩ := k
  have a0 : a ≠ pz := by intro h0; rw [h0, cv_zero] at hqa; exact hq.ne hqa
  have b0 : b ≠ pz := by intro h0; rw [h0, cv_zero] at hpb; exact hp.ne hpb
  obtain ⟨x, _, hx⟩ := (dg_or ha).resolve_left a0
  obtain ⟨y, _, hy⟩ := (dg_or hb).resolve_left b0
  have e1 := (hx.mul hp)
  rw [← hqa] at e1
  have e2 := (hy.mul hq)
  rw [← hpb] at e2
  have f1 := e1.eq hq
  have f2 := e2.eq hp
  obtain rfl : x = 0 := by omega
  obtain rfl : d = e := by omega
  have h3 := (cv_top a p 0 d hx.2 hp.2).1
  rw [Nat.zero_add, ← hqa, h1, h2, Fl.mul_one] at h3
  have : a = pone := by
    funext i
    cases i with
    | zero => exact h3.symm
    | succ i => rw [hx.2 (i + 1) (by omega)]; exact (if_neg (by omega)).symm
  rw [hqa, this, one_cv]
/-- g is a greatest common divisor. -/
def PG (p q g : Ser K) : Prop := PD g p ∧ PD g q ∧ ∀ c, PD c p → PD c q → PD c g
theorem PG.step {p q a r g : Ser K} {e : Nat} (hd : Dv2 p q a r e) (h : PG q r g) : PG p q g :=
  ⟨PD.whole hd h.1 h.2.1, h.1, fun c hp hq => h.2.2 c hq (PD.rest hd hp hq)⟩
theorem PG.right_zero (p : Ser K) : PG p pz p := ⟨PD.refl p, PD.zero p, fun c h _ => h⟩
theorem PG.comm {p q g : Ser K} (h : PG p q g) : PG q p g := ⟨h.2.1, h.1, fun c h1 h2 => h.2.2 c h2 h1⟩
theorem psm_psm (a b : K) (p : Ser K) : psm a (psm b p) = psm (a * b) p := funext fun i => (Fl.mul_assoc _ _ _).symm
theorem psm_one (p : Ser K) : psm 1 p = p := funext fun i => one_mul _
theorem psm_cv (a : K) (p : Ser K) : psm a p = cv (psm a pone) p := by rw [cv_psm, one_cv]
theorem PD.unit {c p : Ser K} {a : K} (ha : a ≠ 0) (h : PD c p) : PD (psm a c) p := by
  obtain ⟨b, n, hb, rfl⟩ := h
  refine ⟨psm a⁻¹ b, n, hb.sm _, ?_⟩
  rw [cv_psm, cv_comm b (psm a c), cv_psm, psm_psm, Fl.mul_comm, Fl.mul_inv a ha, psm_one, cv_comm]
theorem PD.sm {c p : Ser K} (a : K) (h : PD c p) : PD c (psm a p) := by
  rw [psm_cv]
  exact h.mul (bd_one.sm a)
theorem PG.unit {p q g : Ser K} {a : K} (ha : a ≠ 0) (h : PG p q g) : PG p q (psm a g) :=
  ⟨h.1.unit ha, h.2.1.unit ha, fun c h1 h2 => (h.2.2 c h1 h2).sm a⟩
theorem PG.unique {p q g k : Ser K} {d e : Nat} (hg : Dg g d) (hk : Dg k e) (h : PG p q g) (h' : PG p q k) (h1 : g d = 1) (h2 : k e = 1) : g = k :=
  PD.antisymm hg hk (h'.2.2 g h.1 h.2.1) (h.2.2 k h'.1 h'.2.1) h1 h2
/-- the value at x of the first n. -/
def ev : Nat → Ser K → K → K
  | 0, _, _ => 0
  | n + 1, p, x => p 0 + x * ev n (tl p) x
theorem ev_zero (x : K) : ∀ n, ev n (pz : Ser K) x = 0
  | 0 => rfl
  | n + 1 => by
    show (0 : K) + x * ev n pz x = 0
    rw [ev_zero x n, mul_zero, Fl.add_zero]
theorem ev_more (x : K) : ∀ (n m : Nat) (p : Ser K), Bd p n → n ≤ m → ev m p x = ev n p x
  | 0, m, p, h, _ => by rw [h.zero, ev_zero]; rfl
  | n + 1, 0, p, h, hm => by omega
  | n + 1, m + 1, p, h, hm => by
    show p 0 + x * ev m (tl p) x = p 0 + x * ev n (tl p) x
    rw [ev_more x n m (tl p) h.tl (by omega)]
theorem ev_add (x : K) : ∀ (n : Nat) (p q : Ser K), ev n (padd p q) x = ev n p x + ev n q x
  | 0, p, q => (Fl.add_zero _).symm
  | n + 1, p, q => by
    show (p 0 + q 0) + x * ev n (padd (tl p) (tl q)) x = (p 0 + x * ev n (tl p) x) + (q 0 + x * ev n (tl q) x)
    rw [ev_add x n, Fl.mul_add, add_xx]
theorem ev_sm (x a : K) : ∀ (n : Nat) (p : Ser K), ev n (psm a p) x = a * ev n p x
  | 0, p => (mul_zero a).symm
  | n + 1, p => by
    show a * p 0 + x * ev n (psm a (tl p)) x = a * (p 0 + x * ev n (tl p) x)
    rw [ev_sm x a n, Fl.mul_add, ← Fl.mul_assoc, ← Fl.mul_assoc, Fl.mul_comm a x]
theorem ev_cv (x : K) : ∀ (m n N : Nat) (p q : Ser K), Bd p m → Bd q n → m + n ≤ N → ev N (cv p q) x = ev m p x * ev n q x
  | 0, n, N, p, q, hp, hq, _ => by rw [hp.zero, cv_zero, ev_zero]; exact (zero_mul _).symm
  | m + 1, n, 0, p, q, hp, hq, h => by omega
  | m + 1, n, N + 1, p, q, hp, hq, h => by
    have ht : tl (cv p q) = padd (psm (p 0) (tl q)) (cv (tl p) q) := rfl
    show p 0 * q 0 + x * ev N (tl (cv p q)) x = (p 0 + x * ev m (tl p) x) * ev n q x
    rw [ht, ev_add, ev_sm, ev_cv x m n N (tl p) q hp.tl hq (by omega), add_mul]
    have e : ev n q x = q 0 + x * ev N (tl q) x := by
      rw [← ev_more x n (N + 1) q hq (by omega)]; rfl
    have : p 0 * q 0 + x * (p 0 * ev N (tl q) x) = p 0 * ev n q x := by
      rw [e, Fl.mul_add]
      congr 1
      ac_rfl
    rw [Fl.mul_assoc, Fl.mul_add, ← Fl.add_assoc, this]
/-- x + a divides what is 0 at a. -/
def lin (a : K) : Ser K := fun i => if i = 0 then a else if i = 1 then 1 else 0
theorem lin_dg (a : K) : Dg (lin a) 1 := ⟨by show (if (1 : Nat) = 0 then a else if (1 : Nat) = 1 then (1 : K) else 0) ≠ 0; simp; exact Fl.one_ne, fun i hi => by show (if i = 0 then a else if i = 1 then (1 : K) else 0) = 0; rw [if_neg (by omega), if_neg (by omega)]⟩
theorem ev_lin (a x : K) : ev 2 (lin a) x = a + x := by
  show lin a 0 + x * (lin a 1 + x * 0) = a + x
  rw [mul_zero, Fl.add_zero]
  show a + x * 1 = a + x
  rw [Fl.mul_one]
theorem root_div {p : Ser K} {n : Nat} {a : K} (hp : Bd p n) (h : ev n p a = 0) : ∃ q, Bd q n ∧ p = cv q (lin a) := by
  obtain ⟨q, r, hd⟩ := div_exists (lin_dg a) n p hp
  obtain ⟨m, hm⟩ := hd.fin
  have h1 : ev (m + n + 2) p a = 0 := by rw [ev_more a n _ p hp (by omega)]; exact h
  rw [hd.sum, ev_add, ev_cv a m 2 _ q (lin a) hm (lin_dg a).2 (by omega), ev_lin, Fl.add_self, mul_zero, zero_add] at h1
  rw [ev_more a 1 _ r hd.low (by omega)] at h1
  have h2 : r 0 = 0 := by
    have : ev 1 r a = r 0 + a * 0 := rfl
    rw [this, mul_zero, Fl.add_zero] at h1
    exact h1
  have hr : r = pz := funext fun i => by
    cases i with
    | zero => exact h2
    | succ i => exact hd.low (i + 1) (by omega)
  have hs := hd.sum
  rw [hr, padd_zero] at hs
  refine ⟨q, ?_, hs⟩
  rcases dg_or hm with h0 | ⟨d, _, hdg⟩
  · rw [h0]; exact bd_pz n
  · have := (hdg.mul (lin_dg a))
    rw [← hs] at this
    have := this.lt hp
    exact hdg.2.mono (by omega)
/-- no more roots than its degree. -/
theorem roots_le : ∀ (d : Nat) (p : Ser K) (l : List K), Dg p d → l.Nodup → (∀ a, a ∈ l → ev (d + 1) p a = 0) → l.length ≤ d
  | d, p, [], _, _, _ => Nat.zero_le _
  | d, p, a :: l, hp, hn, hr => by
    obtain ⟨q, hq, hs⟩ := root_div hp.2 (hr a (List.mem_cons_self ..))
    have q0 : q ≠ pz := by intro h0; rw [h0, cv_zero] at hs; exact hp.ne hs
    obtain ⟨e, _, he⟩ := (dg_or hq).resolve_left q0
    have h1 := he.mul (lin_dg a)
    rw [← hs] at h1
    have h2 := h1.eq hp
    obtain rfl : d = e + 1 := by omega
    have h3 := List.nodup_cons.1 hn
    have := roots_le e q l he h3.2 fun b hb => by
      have h4 := hr b (List.mem_cons_of_mem _ hb)
      rw [← ev_more b (e + 1 + 1) (e + 1 + 2) p hp.2 (by omega), hs, ev_cv b (e + 1) 2 _ q (lin a) he.2 (lin_dg a).2 (by omega), ev_lin] at h4
      rcases mul_eq_zero h4 with h5 | h5
      · exact h5
      · have := add_cancel h5
        rw [← this] at hb
        exact absurd hb h3.1
    rw [List.length_cons]; omega
end
end Go.Proofs.YtgfaaaeechgjmaaDoor.Pl
