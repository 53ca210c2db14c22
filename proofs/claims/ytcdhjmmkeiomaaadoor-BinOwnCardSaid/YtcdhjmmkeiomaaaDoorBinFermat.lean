/- Fermat over two elements: the test of irreducible polynomials finds each product. No program is named here. By the verifier of shale. -/
import Derived.Test.YtcdhjmmkeiomaaaDoorBinIrrMath
namespace Go.Proofs.YtcdhjmmkeiomaaaDoor.Bin
set_option linter.unusedVariables false
/-- two polynomials and one divisor: a sum of multiples is the greatest. -/
theorem bezout : ∀ n a b, b < 2 ^ n → ∃ u v, IsGcd a b (pm u a ^^^ pm v b)
  | 0, a, b, h => by
    have : b = 0 := by simpa using h
    subst this
    exact ⟨1, 0, by rw [one_pm, pm_zero, Nat.xor_zero]; exact IsGcd.right_zero a⟩
  | n + 1, a, b, h => by
    by_cases hb : b = 0
    · subst hb
      exact ⟨1, 0, by rw [one_pm, pm_zero, Nat.xor_zero]; exact IsGcd.right_zero a⟩
    · obtain ⟨q, hd⟩ := pmod_div a hb
      have hl := (pmod_eq a (deg_of hb)).2
      obtain ⟨u, v, hg⟩ := bezout n b (pmod a b) (Nat.lt_of_lt_of_le hl (Nat.pow_le_pow_right (by decide) (by have := (Nat.log2_lt hb).2 h; omega)))
      refine ⟨v, u ^^^ pm v q, ?_⟩
      have e : pm v a ^^^ pm (u ^^^ pm v q) b = pm u b ^^^ pm v (pmod a b) := by
        have h1 := hd.1
        rw [pm_xor_left, pm_assoc]
        have : pm v a = pm v (pm q b) ^^^ pm v (pmod a b) := by rw [← pm_xor_right, ← h1]
        rw [this, Nat.xor_comm (pm u b), xx, Nat.xor_self, Nat.zero_xor, Nat.xor_comm]
      rw [e]
      exact IsGcd.step hd hg
/-- a polynomial that only 1 and itself divide. -/
def Irr (f : Nat) : Prop := 2 ≤ f ∧ ∀ c, Dvd c f → c = 1 ∨ c = f
theorem Dvd.comm_mul {c a : Nat} (h : Dvd c a) (b : Nat) : Dvd c (pm a b) := by rw [pm_comm]; exact h.mul b
theorem Irr.euclid {f a b : Nat} (hf : Irr f) (h : Dvd f (pm a b)) : Dvd f a ∨ Dvd f b := by
  obtain ⟨u, v, hg⟩ := bezout (f.log2 + 1) a f Nat.lt_log2_self
  rcases hf.2 _ hg.2.1 with h1 | h1
  · right
    have e : b = pm u (pm a b) ^^^ pm (pm v b) f := by
      have : pm (pm u a ^^^ pm v f) b = pm 1 b := by rw [h1]
      rw [one_pm, pm_xor_left, pm_assoc, pm_assoc] at this
      have e2 : pm b f = pm f b := pm_comm f b
      rw [pm_assoc v b f, e2]
      exact this.symm
    rw [e]
    exact (h.mul u).xor ((Dvd.refl f).mul _)
  · left
    rw [h1] at hg
    exact hg.1
theorem dvd_le {f a : Nat} (ha : a ≠ 0) (h : Dvd f a) : f.log2 ≤ a.log2 := by
  obtain ⟨q, rfl⟩ := h
  have hq : q ≠ 0 := by intro h0; rw [h0, zero_pm] at ha; exact ha rfl
  have hf : f ≠ 0 := by intro h0; rw [h0, pm_zero] at ha; exact ha rfl
  have := (deg_pm (deg_of hq) _ f (deg_of hf)).log2
  omega
theorem Irr.deg {f : Nat} (hf : Irr f) : 1 ≤ f.log2 := by
  have := (Nat.le_log2 (n := f) (k := 1) (by have := hf.1; omega)).2 hf.1
  omega
theorem not_dvd_small {f r : Nat} (h0 : r ≠ 0) (h : r < 2 ^ f.log2) : ¬ Dvd f r := by
  intro hd
  have h1 := dvd_le h0 hd
  have := (Nat.log2_lt h0).2 h
  omega
/-- the same rest. -/
theorem dvd_pmod {f : Nat} (hf : f ≠ 0) (a : Nat) : Dvd f (a ^^^ pmod a f) := by
  obtain ⟨⟨q, hq⟩, _⟩ := pmod_eq a (deg_of hf)
  refine ⟨q, ?_⟩
  have : (pm q f ^^^ pmod a f) ^^^ pmod a f = pm q f := xor_back _ _
  rwa [← hq] at this
def prodL : List Nat → Nat
  | [] => 1
  | a :: l => pm a (prodL l)
theorem prodL_perm {l m : List Nat} (h : l.Perm m) : prodL l = prodL m := by
  induction h with
  | nil => rfl
  | cons x _ ih => simp only [prodL, ih]
  | swap x y l => simp only [prodL]; rw [← pm_assoc, ← pm_assoc, show pm y x = pm x y from pm_comm x y]
  | trans _ _ ih1 ih2 => exact ih1.trans ih2
def pw (c : Nat) : Nat → Nat
  | 0 => 1
  | n + 1 => pm c (pw c n)
theorem pw_add (c a : Nat) : ∀ b, pw c (a + b) = pm (pw c a) (pw c b)
  | 0 => by rw [Nat.add_zero]; show _ = pm _ 1; rw [pm_one]
  | b + 1 => by
    show pm c (pw c (a + b)) = pm (pw c a) (pm c (pw c b))
    rw [pw_add c a b, ← pm_assoc, show pm c (pw c a) = pm (pw c a) c from pm_comm _ _, pm_assoc]
theorem Dvd.swap {f a b : Nat} (h : Dvd f (a ^^^ b)) : Dvd f (b ^^^ a) := by rwa [Nat.xor_comm]
theorem Dvd.chain {f a b c : Nat} (h : Dvd f (a ^^^ b)) (k : Dvd f (b ^^^ c)) : Dvd f (a ^^^ c) := by
  have := h.xor k
  rwa [Nat.xor_assoc, ← Nat.xor_assoc b b c, Nat.xor_self, Nat.zero_xor] at this
theorem Dvd.times {f a b c d : Nat} (h : Dvd f (a ^^^ b)) (k : Dvd f (c ^^^ d)) : Dvd f (pm a c ^^^ pm b d) := by
  refine Dvd.chain (b := pm b c) ?_ ?_
  · rw [← pm_xor_left]; exact h.comm_mul c
  · rw [← pm_xor_right]; exact k.mul b
theorem xor_ne {a b : Nat} (h : a ≠ b) : a ^^^ b ≠ 0 := fun h0 => h (xor_eq_zero h0)
theorem xor_lt' {a b n : Nat} (h : a < 2 ^ n) (k : b < 2 ^ n) : a ^^^ b < 2 ^ n := Nat.xor_lt_two_pow h k
theorem nodup_map {f : Nat → Nat} : ∀ {l : List Nat}, l.Nodup → (∀ a, a ∈ l → ∀ b, b ∈ l → f a = f b → a = b) → (l.map f).Nodup
  | [], _, _ => List.nodup_nil
  | x :: l, h, hi => by
    rw [List.map_cons, List.nodup_cons]
    rw [List.nodup_cons] at h
    refine ⟨fun hm => ?_, nodup_map h.2 fun a ha b hb => hi a (List.mem_cons_of_mem _ ha) b (List.mem_cons_of_mem _ hb)⟩
    obtain ⟨y, hy, he⟩ := List.mem_map.1 hm
    have := hi y (List.mem_cons_of_mem _ hy) x (List.mem_cons_self ..) he
    rw [this] at hy
    exact h.1 hy
/-- as many of one list as the other has, all of them: all of the other. -/
theorem perm_of_sub {l m : List Nat} (hl : l.Nodup) (hm : m.Nodup) (hs : ∀ a, a ∈ l → a ∈ m) (hc : m.length ≤ l.length) : l.Perm m := by
  rw [List.perm_ext_iff_of_nodup hl hm]
  intro a
  refine ⟨hs a, fun ha => Classical.byContradiction fun hn => ?_⟩
  have h1 : (a :: l).Nodup := List.nodup_cons.2 ⟨hn, hl⟩
  have h2 := List.Nodup.length_le_of_subset h1 (l₂ := m) (fun x hx => by
    rcases List.mem_cons.1 hx with rfl | hx
    · exact ha
    · exact hs x hx)
  rw [List.length_cons] at h2
  omega
/-- the rests that are not 0. -/
def units (d : Nat) : List Nat := List.range' 1 (2 ^ d - 1)
theorem mem_units {d a : Nat} : a ∈ units d ↔ a ≠ 0 ∧ a < 2 ^ d := by
  unfold units
  rw [List.mem_range'_1]
  have := Nat.two_pow_pos d
  omega
theorem units_perm {f c : Nat} (hf : Irr f) (hc : ¬ Dvd f c) : ((units f.log2).map fun r => pmod (pm c r) f).Perm (units f.log2) := by
  have h0 : f ≠ 0 := by have := hf.1; omega
  have hn : (units f.log2).Nodup := List.nodup_range' ..
  refine perm_of_sub (nodup_map hn ?_) hn ?_ (by rw [List.length_map]; exact Nat.le_refl _)
  · intro a ha b hb e
    obtain ⟨_, ha⟩ := mem_units.1 ha
    obtain ⟨_, hb⟩ := mem_units.1 hb
    apply Classical.byContradiction
    intro hne
    have h1 := (dvd_pmod h0 (pm c a)).chain (by rw [e]; exact (dvd_pmod h0 (pm c b)).swap)
    rw [← pm_xor_right] at h1
    rcases hf.euclid h1 with h2 | h2
    · exact hc h2
    · exact not_dvd_small (xor_ne hne) (xor_lt' ha hb) h2
  · intro x hx
    obtain ⟨a, ha, rfl⟩ := List.mem_map.1 hx
    obtain ⟨ha0, ha⟩ := mem_units.1 ha
    refine mem_units.2 ⟨fun e => ?_, (pmod_eq _ (deg_of h0)).2⟩
    have h1 := dvd_pmod h0 (pm c a)
    rw [e, Nat.xor_zero] at h1
    rcases hf.euclid h1 with h2 | h2
    · exact hc h2
    · exact not_dvd_small ha0 ha h2
theorem prod_map {f c : Nat} (h0 : f ≠ 0) : ∀ l : List Nat, Dvd f (prodL (l.map fun r => pmod (pm c r) f) ^^^ pm (pw c l.length) (prodL l))
  | [] => by
    show Dvd f (1 ^^^ pm 1 1)
    rw [pm_one, Nat.xor_self]; exact Dvd.zero f
  | r :: l => by
    have ih := prod_map (c := c) h0 l
    have h1 := (dvd_pmod h0 (pm c r)).swap
    have := h1.times ih
    show Dvd f (pm (pmod (pm c r) f) (prodL (l.map fun r => pmod (pm c r) f)) ^^^ pm (pm c (pw c l.length)) (pm r (prodL l)))
    have e : pm (pm c (pw c l.length)) (pm r (prodL l)) = pm (pm c r) (pm (pw c l.length) (prodL l)) := by
      rw [pm_assoc c (pw c l.length), ← pm_assoc (pw c l.length) r, show pm (pw c l.length) r = pm r (pw c l.length) from pm_comm _ _, pm_assoc r, ← pm_assoc c r]
    rw [e]
    exact this
theorem prodL_not {f : Nat} (hf : Irr f) : ∀ l : List Nat, (∀ a, a ∈ l → ¬ Dvd f a) → ¬ Dvd f (prodL l)
  | [], _, h => by
    have h1 := dvd_le (a := 1) (by decide) h
    have h2 := hf.deg
    rw [show (1 : Nat).log2 = 0 by decide] at h1
    omega
  | a :: l, h, hd => by
    rcases hf.euclid hd with h1 | h1
    · exact h a (List.mem_cons_self ..) h1
    · exact prodL_not hf l (fun b hb => h b (List.mem_cons_of_mem _ hb)) h1
/-- Fermat: modulo f, which is irreducible, of degree d: the 2^d-th power of any polynomial is itself. -/
theorem fermat {f : Nat} (hf : Irr f) (c : Nat) : Dvd f (pw c (2 ^ f.log2) ^^^ c) := by
  have h0 : f ≠ 0 := by have := hf.1; omega
  have h2 := Nat.two_pow_pos f.log2
  obtain ⟨n, hn⟩ : ∃ n, 2 ^ f.log2 = n + 1 := ⟨2 ^ f.log2 - 1, by omega⟩
  have key : Dvd f c ∨ Dvd f (pw c n ^^^ 1) := by
    by_cases hc : Dvd f c
    · exact Or.inl hc
    · right
      have h1 := prod_map (f := f) (c := c) h0 (units f.log2)
      rw [prodL_perm (units_perm hf hc)] at h1
      have hl : (units f.log2).length = n := by unfold units; rw [List.length_range']; omega
      rw [hl] at h1
      have e : prodL (units f.log2) ^^^ pm (pw c n) (prodL (units f.log2)) = pm (1 ^^^ pw c n) (prodL (units f.log2)) := by rw [pm_xor_left, one_pm]
      rw [e] at h1
      rcases hf.euclid h1 with h3 | h3
      · exact h3.swap
      · exact absurd h3 (prodL_not hf _ fun a ha => by obtain ⟨ha0, ha1⟩ := mem_units.1 ha; exact not_dvd_small ha0 ha1)
  rw [hn]
  have e : pw c (n + 1) ^^^ c = pm c (pw c n ^^^ 1) := by
    show pm c (pw c n) ^^^ c = _
    rw [pm_xor_right, pm_one]
  rw [e]
  rcases key with h | h
  · exact h.comm_mul _
  · exact h.mul _
/-- squared so often. -/
def sqn : Nat → Nat → Nat
  | 0, c => c
  | i + 1, c => pm (sqn i c) (sqn i c)
theorem sqn_pw (c : Nat) : ∀ i, sqn i c = pw c (2 ^ i)
  | 0 => by show c = pm c 1; rw [pm_one]
  | i + 1 => by
    show pm (sqn i c) (sqn i c) = _
    rw [sqn_pw c i, ← pw_add, Nat.pow_succ]; congr 1; omega
/-- each polynomial but 1 and 0 has an irreducible divisor. -/
theorem exists_irr (a : Nat) (h : 2 ≤ a) : ∃ f, Irr f ∧ Dvd f a := by
  have : ∃ c, 2 ≤ c ∧ Dvd c a ∧ ∀ e, 2 ≤ e → Dvd e a → c ≤ e := by
    have key : ∀ n, ∀ c, c ≤ n → 2 ≤ c → Dvd c a → ∃ c, 2 ≤ c ∧ Dvd c a ∧ ∀ e, 2 ≤ e → Dvd e a → c ≤ e := by
      intro n
      induction n with
      | zero => intro c h1 h2; omega
      | succ n ih =>
        intro c h1 h2 h3
        by_cases hx : ∃ e, 2 ≤ e ∧ Dvd e a ∧ e < c
        · obtain ⟨e, e1, e2, e3⟩ := hx
          exact ih e (by omega) e1 e2
        · exact ⟨c, h2, h3, fun e e1 e2 => Classical.byContradiction fun hlt => hx ⟨e, e1, e2, by omega⟩⟩
    exact key a a (Nat.le_refl _) h (Dvd.refl a)
  obtain ⟨c, h2, hd, hm⟩ := this
  refine ⟨c, ⟨h2, fun e he => ?_⟩, hd⟩
  have hc0 : c ≠ 0 := by omega
  have he0 : e ≠ 0 := by
    intro h0
    rw [h0] at he
    obtain ⟨q, hq⟩ := he
    rw [pm_zero] at hq; omega
  by_cases h1 : e = 1
  · exact Or.inl h1
  · right
    have hle := hm e (by omega) (Dvd.trans he hd)
    obtain ⟨q, hq⟩ := he
    have hq0 : q ≠ 0 := by intro h0; rw [h0, zero_pm] at hq; omega
    by_cases hq1 : q = 1
    · rw [hq, hq1, one_pm]
    · exfalso
      have dq := deg_of hq0
      have de := deg_of he0
      have dc := deg_pm dq _ e de
      rw [← hq] at dc
      have h5 : 1 ≤ q.log2 := (Nat.le_log2 hq0).2 (by omega)
      have h6 := dc.1
      have h7 := de.2
      have := Nat.pow_le_pow_right (n := 2) (by decide) (show e.log2 + 1 ≤ q.log2 + e.log2 by omega)
      omega
/-- a product of two polynomials that are not 1 does not stand the test. -/
theorem irrF_false {w f : Nat} (hw : 2 ≤ w) (hf : Irr f) (hd : Dvd f w) (hdeg : 2 * f.log2 ≤ w.log2) :
    ∀ fuel i y, 1 ≤ i → i ≤ f.log2 → f.log2 < fuel + i → Dvd f (y ^^^ sqn (i - 1) 2) → irrF fuel i y w = false
  | 0, i, y, _, h1, h2, _ => by omega
  | fuel + 1, i, y, h0, h1, h2, hy => by
    have w0 : w ≠ 0 := by omega
    rw [irrF, if_pos (by omega)]
    have hy2 : Dvd f (pmod (pmul y y) w ^^^ sqn i 2) := by
      obtain ⟨k, rfl⟩ : ∃ k, i = k + 1 := ⟨i - 1, by omega⟩
      have a1 := (dvd_pmod w0 (pmul y y)).swap
      have a2 : Dvd f (pmod (pmul y y) w ^^^ pmul y y) := Dvd.trans hd a1
      refine a2.chain ?_
      rw [pmul_pm]
      exact Dvd.times hy hy
    by_cases hlt : i < f.log2
    · split
      · exact irrF_false hw hf hd hdeg fuel (i + 1) _ (by omega) (by omega) (by omega) hy2
      · rfl
    · obtain rfl : i = f.log2 := by omega
      have h3 : Dvd f (sqn f.log2 2 ^^^ 2) := by rw [sqn_pw]; exact fermat hf 2
      have h4 := hy2.chain h3
      have hg := pgcd_is w (pmod (pmul y y) w ^^^ 2)
      have h5 := hg.2.2 f hd h4
      rw [if_neg]
      intro e
      rw [e] at h5
      have h6 := dvd_le (a := 1) (by decide) h5
      have h7 := hf.deg
      rw [show (1 : Nat).log2 = 0 by decide] at h6
      omega
theorem irrC_product {a b : Nat} (ha : 2 ≤ a) (hb : 2 ≤ b) : irrC (pm a b) = false := by
  have da := deg_of (a := a) (by omega)
  have db := deg_of (a := b) (by omega)
  have dw := deg_pm da _ b db
  have la : 1 ≤ a.log2 := (Nat.le_log2 (by omega)).2 ha
  have lb : 1 ≤ b.log2 := (Nat.le_log2 (by omega)).2 hb
  have hw : 2 ≤ pm a b := by
    have h1 := dw.1
    have := Nat.pow_le_pow_right (n := 2) (by decide) (show 1 ≤ a.log2 + b.log2 by omega)
    omega
  have hl := dw.log2
  unfold irrC
  split
  · rfl
  · rename_i h32
    have key : ∀ c, 2 ≤ c → Dvd c (pm a b) → 2 * c.log2 ≤ (pm a b).log2 → irrF 17 1 2 (pm a b) = false := by
      intro c hc hcd hcl
      obtain ⟨f, hf, hfc⟩ := exists_irr c hc
      have hfl := dvd_le (by omega) hfc
      exact irrF_false hw hf (Dvd.trans hfc hcd) (by omega) 17 1 2 (Nat.le_refl _) hf.deg (by omega) (by show Dvd f (2 ^^^ sqn 0 2); show Dvd f (2 ^^^ 2); rw [Nat.xor_self]; exact Dvd.zero f)
    by_cases hle : a.log2 ≤ b.log2
    · exact key a ha ((Dvd.refl a).comm_mul b) (by omega)
    · exact key b hb ((Dvd.refl b).mul a) (by omega)
end Go.Proofs.YtcdhjmmkeiomaaaDoor.Bin
