/- The contracts of package binpoly in terms of the polynomials' values alone. By the verifier of shale. -/
import Derived.Test.YtcdhjmmkeiomaaaDoorBinLaw
namespace Go.Proofs.YtcdhjmmkeiomaaaDoor.Bin
open Go Go.RowKit
set_option linter.unusedVariables false
/-- a polynomial of this value, of at most k bytes. -/
def PolV (w : World) (k : Nat) (a : Option Addr) (n c : Nat) (v : Nat) : Prop := ∃ X, Pol w a n c X ∧ val X = v ∧ n ≤ k
theorem PolV.below {w w' : World} {k : Nat} {a : Option Addr} {n c v : Nat} (h : PolV w k a n c v) (b : Below w.heap.size w w') : PolV w' k a n c v := by
  obtain ⟨X, h1, h2, h3⟩ := h
  exact ⟨X, h1.below b, h2, h3⟩
theorem PolV.lt {w : World} {k : Nat} {a : Option Addr} {n c v : Nat} (h : PolV w k a n c v) : v < room k := by
  obtain ⟨X, h1, rfl, h3⟩ := h
  exact val_room (by have := h1.hlen; omega)
theorem PolV.drawn {w w' : World} {k : Nat} {a : Option Addr} {n c v : Nat} (h : PolV w k a n c v) (d : Drawn w w') : PolV w' k a n c v := h.below (d.below _)
/-- a new one, bare. -/
def NewV (w0 w : World) (k : Nat) (a : Option Addr) (n c : Nat) (v : Nat) : Prop := ∃ X, NewP w0 w a n c X ∧ Bare X ∧ val X = v ∧ n ≤ k
theorem NewV.pol {w0 w : World} {k : Nat} {a : Option Addr} {n c v : Nat} (h : NewV w0 w k a n c v) : PolV w k a n c v := by
  obtain ⟨X, h1, _, h2, h3⟩ := h
  exact ⟨X, h1.pol, h2, h3⟩
theorem newV {w0 w : World} {a : Option Addr} {n c v : Nat} {X : List (BitVec 8)} (h : NewP w0 w a n c X) (b : Bare X) (hv : val X = v) (K : Nat) (hK : v < room K) : NewV w0 w K a n c v :=
  ⟨X, h, b, hv, by have := bare_len b (k := K) (by rw [hv]; exact hK); have := h.hlen; omega⟩
theorem room_mono {i j : Nat} (h : i ≤ j) : room i ≤ room j := Nat.pow_le_pow_right (by decide) (by omega)
theorem room_pm {u v i j : Nat} (hu : u < room i) (hv : v < room j) : pm u v < room (i + j) := by
  by_cases h1 : u = 0
  · rw [h1, zero_pm]; exact Nat.two_pow_pos _
  · by_cases h2 : v = 0
    · rw [h2, pm_zero]; exact Nat.two_pow_pos _
    · have d1 := (Nat.log2_lt h1).2 hu
      have d2 := (Nat.log2_lt h2).2 hv
      exact lt_of_deg (deg_pm (deg_of h1) _ v (deg_of h2)) (by omega)
theorem room_xor {u v i : Nat} (hu : u < room i) (hv : v < room i) : u ^^^ v < room i := Nat.xor_lt_two_pow hu hv
theorem room_dvd {u v i : Nat} (h0 : v ≠ 0) (h : Dvd u v) (hv : v < room i) : u < room i := by
  have hu : u ≠ 0 := by
    intro e; rw [e] at h; obtain ⟨q, hq⟩ := h; rw [pm_zero] at hq; exact h0 hq
  have := dvd_le h0 h
  have h2 := (Nat.log2_lt h0).2 hv
  exact lt_of_deg (deg_of hu) (by omega)
theorem room_gcd {u v g i : Nat} (hg : IsGcd u v g) (hu : u < room i) (hv : v < room i) : g < room i := by
  by_cases h0 : u = 0
  · by_cases h1 : v = 0
    · subst h0; subst h1
      rw [hg.unique (IsGcd.right_zero 0)]; exact hu
    · exact room_dvd h1 hg.2.1 hv
  · exact room_dvd h0 hg.1 hu
theorem room_div {u v q r i : Nat} (h0 : v ≠ 0) (h : IsDiv u v q r) (hu : u < room i) (hv : v < room i) : q < room i ∧ r < room i := by
  have hr : r < room i := Nat.lt_trans (rest_lt h h0) hv
  refine ⟨?_, hr⟩
  by_cases hq : q = 0
  · rw [hq]; exact Nat.two_pow_pos _
  · have hd := deg_pm (deg_of hq) _ v (deg_of h0)
    have hp : pm q v < room i := by
      have : pm q v = u ^^^ r := by rw [h.1, Nat.xor_assoc, Nat.xor_self, Nat.xor_zero]
      rw [this]; exact room_xor hu hr
    have hp0 : pm q v ≠ 0 := pm_ne hq h0
    have h1 := (Nat.log2_lt hp0).2 hp
    rw [hd.log2] at h1
    exact lt_of_deg (deg_of hq) (by omega)
theorem mulV {w : World} {k k' : Nat} {a a' : Option Addr} {n c n' c' u v : Nat} (K : Nat) (h1 : PolV w k a n c u) (h2 : PolV w k' a' n' c' v) (hk : k ≤ 200) (hk' : k' ≤ 200) (hK : k + k' ≤ K) :
    Calls Tryd.prog 12 #[.slice a n c, .slice a' n' c'] w fun e w' => ∃ a n c, e = .returned (.tuple #[.slice a n c, .nilIface]) ∧ NewV w w' K a n c (pm u v) ∧ Below w.heap.size w w' := by
  have hl := room_pm h1.lt h2.lt
  obtain ⟨X, p1, rfl, n1⟩ := h1
  obtain ⟨Y, p2, rfl, n2⟩ := h2
  refine (mul_any a n c X a' n' c' Y w p1 p2 (by omega) (by omega)).mono ?_
  rintro e w1 ⟨a3, n3, c3, Z, rfl, hZ, bZ, vZ, b⟩
  exact ⟨a3, n3, c3, rfl, newV hZ bZ vZ K (Nat.lt_of_lt_of_le hl (room_mono hK)), b⟩
theorem addV {w : World} {k k' : Nat} {a a' : Option Addr} {n c n' c' u v : Nat} (K : Nat) (h1 : PolV w k a n c u) (h2 : PolV w k' a' n' c' v) (hK : k ≤ K) (hK' : k' ≤ K) (hK2 : K ≤ 200) :
    Calls Tryd.prog 13 #[.slice a n c, .slice a' n' c'] w fun e w' => ∃ a n c, e = .returned (.slice a n c) ∧ NewV w w' K a n c (u ^^^ v) ∧ Below w.heap.size w w' := by
  have hl : u ^^^ v < room K := room_xor (Nat.lt_of_lt_of_le h1.lt (room_mono hK)) (Nat.lt_of_lt_of_le h2.lt (room_mono hK'))
  obtain ⟨X, p1, rfl, n1⟩ := h1
  obtain ⟨Y, p2, rfl, n2⟩ := h2
  refine (add_any a n c X a' n' c' Y w p1 p2 (by omega) (by omega)).mono ?_
  rintro e w1 ⟨a3, n3, c3, Z, rfl, hZ, bZ, vZ, b⟩
  exact ⟨a3, n3, c3, rfl, newV hZ bZ vZ K hl, b⟩
theorem polV_nil (w : World) : PolV w 0 none 0 0 0 := ⟨[], pol_nil w, rfl, Nat.le_refl _⟩
theorem sameV {w : World} {k k' : Nat} {a a' : Option Addr} {n c n' c' u v : Nat} (h1 : PolV w k a n c u) (h2 : PolV w k' a' n' c' v) :
    Calls Tryd.prog 33 #[.slice a n c, .slice a' n' c'] w fun e w' => e = .returned (.bool (decide (u = v))) ∧ w = w' := by
  obtain ⟨X, p1, rfl, n1⟩ := h1
  obtain ⟨Y, p2, rfl, n2⟩ := h2
  exact same_poly a n c X a' n' c' Y w p1 p2
theorem degV {w : World} {k : Nat} {a : Option Addr} {n c u : Nat} (h1 : PolV w k a n c u) (hk : k ≤ 200) :
    Calls Tryd.prog 14 #[.slice a n c] w fun e w' => e = .returned (.int .i64 (degZ u)) ∧ w = w' := by
  obtain ⟨X, p1, rfl, n1⟩ := h1
  exact degree_any a n c X w p1 (by omega)
theorem divV {w : World} {k k' : Nat} {a a' : Option Addr} {n c n' c' u v : Nat} (K : Nat) (h1 : PolV w k a n c u) (h2 : PolV w k' a' n' c' v) (hK : k ≤ K) (hK' : k' ≤ K) (hK2 : K ≤ 200) (h0 : v ≠ 0) :
    Calls Tryd.prog 28 #[.slice a n c, .slice a' n' c'] w fun e w' => ∃ a n c a' n' c' q r, e = .returned (.tuple #[.slice a n c, .slice a' n' c', .nilIface]) ∧ NewV w w' K a n c q ∧ NewV w w' K a' n' c' r ∧ IsDiv u v q r ∧ Below w.heap.size w w' := by
  have l1 := Nat.lt_of_lt_of_le h1.lt (room_mono hK)
  have l2 := Nat.lt_of_lt_of_le h2.lt (room_mono hK')
  obtain ⟨X, p1, rfl, n1⟩ := h1
  obtain ⟨Y, p2, rfl, n2⟩ := h2
  refine (divmod_any a n c X a' n' c' Y w p1 p2 (by omega) (by omega) h0).mono ?_
  rintro e w1 ⟨a3, n3, c3, Z, a4, n4, c4, R, rfl, hZ, hR, bZ, bR, hd, b⟩
  have hl := room_div h0 hd l1 l2
  exact ⟨a3, n3, c3, a4, n4, c4, _, _, rfl, newV hZ bZ rfl K hl.1, newV hR bR rfl K hl.2, hd, b⟩
theorem divZ {w : World} {k k' : Nat} {a a' : Option Addr} {n c n' c' : Nat} (h2 : PolV w k' a' n' c' 0) (hk : k' ≤ 200) (p : Addr) (E : ErrAt w 0 p) :
    Calls Tryd.prog 28 #[.slice a n c, .slice a' n' c'] w fun e w' => e = .returned (.tuple #[.slice none 0 0, .slice none 0 0, errOf p]) ∧ Drawn w w' := by
  obtain ⟨Y, p2, hv, n2⟩ := h2
  exact divmod_zero a n c a' n' c' Y w p2 (by omega) hv p E
theorem gcdV {w : World} {k k' : Nat} {a a' : Option Addr} {n c n' c' u v : Nat} (K : Nat) (h1 : PolV w k a n c u) (h2 : PolV w k' a' n' c' v) (hK : k ≤ K) (hK' : k' ≤ K) (hK2 : K ≤ 200) :
    Calls Tryd.prog 24 #[.slice a n c, .slice a' n' c'] w fun e w' => ∃ a n c, e = .returned (.slice a n c) ∧ NewV w w' K a n c (pgcd u v) ∧ Below w.heap.size w w' := by
  have l1 := Nat.lt_of_lt_of_le h1.lt (room_mono hK)
  have l2 := Nat.lt_of_lt_of_le h2.lt (room_mono hK')
  obtain ⟨X, p1, rfl, n1⟩ := h1
  obtain ⟨Y, p2, rfl, n2⟩ := h2
  refine (gcd_any a n c X a' n' c' Y w p1 p2 (by omega) (by omega)).mono ?_
  rintro e w1 ⟨a3, n3, c3, Z, rfl, hZ, bZ, hg, b⟩
  exact ⟨a3, n3, c3, rfl, newV hZ bZ (pgcd_of hg) K (by rw [← pgcd_of hg]; exact room_gcd hg l1 l2), b⟩
theorem evalV {w : World} {k : Nat} {a : Option Addr} {n c u : Nat} (h1 : PolV w k a n c u) :
    Calls Tryd.prog 32 #[.slice a n c, .int .i64 1] w fun e w' => e = .returned (.int .i64 (par u : Int)) ∧ w = w' := by
  obtain ⟨X, p1, rfl, n1⟩ := h1
  exact eval_any a n c X 1 w p1
theorem irrV {w : World} {k : Nat} {a : Option Addr} {n c u : Nat} (h1 : PolV w k a n c u) (hk : k ≤ 200) :
    Calls Tryd.prog 26 #[.slice a n c] w fun e w' => e = .returned (.bool (irrC u)) ∧ w = w' := by
  obtain ⟨X, p1, rfl, n1⟩ := h1
  exact irreducible_any a n c X w p1 (by omega)
theorem row_polV {w : World} {a : Option Addr} {len cap : Nat} {zs : List Int} (h : IsRow .u8 w a len cap zs) (K : Nat) (hK : len ≤ K) : ∃ v, PolV w K a len cap v := by
  obtain ⟨l, hl⟩ := row_pol h
  exact ⟨val l, l, hl, rfl, hK⟩
theorem par_xor_i64 (a b : Nat) : bits .xor .i64 (par a : Int) (par b : Int) = (par (a ^^^ b) : Int) := by
  rw [par_xor]
  have h1 := par_lt a
  have h2 := par_lt b
  rcases (by omega : par a = 0 ∨ par a = 1) with e1 | e1 <;> rcases (by omega : par b = 0 ∨ par b = 1) with e2 | e2 <;> rw [e1, e2] <;> rfl
theorem par_and_i64 (a b : Nat) : bits .and .i64 (par a : Int) (par b : Int) = (par (pm a b) : Int) := by
  rw [par_pm]
  have h1 := par_lt a
  have h2 := par_lt b
  rcases (by omega : par a = 0 ∨ par a = 1) with e1 | e1 <;> rcases (by omega : par b = 0 ∨ par b = 1) with e2 | e2 <;> rw [e1, e2] <;> rfl
theorem degZ_zero : degZ 0 = -1 := rfl
theorem degZ_ne {v : Nat} (h : v ≠ 0) : degZ v = (v.log2 : Int) := by unfold degZ; rw [if_neg h]
theorem degZ_room {v k : Nat} (h : v < room k) : degZ v < 8 * (k : Int) ∨ v = 0 := by
  by_cases h0 : v = 0
  · exact Or.inr h0
  · left
    rw [degZ_ne h0]
    have := (Nat.log2_lt h0).2 h
    omega
theorem degZ_pm {a b : Nat} (ha : a ≠ 0) (hb : b ≠ 0) : degZ (pm a b) = degZ a + degZ b := by
  have hd := deg_pm (deg_of ha) _ b (deg_of hb)
  rw [degZ_ne ha, degZ_ne hb, degZ_ne (pm_ne ha hb), hd.log2]
  omega
theorem degZ_rest {a b q r : Nat} (h : IsDiv a b q r) (hb : b ≠ 0) : degZ r < degZ b := by
  rw [degZ_ne hb]
  rcases h.2 with h1 | ⟨i, j, d1, d2, hij⟩
  · rw [h1, degZ_zero]; omega
  · rw [degZ_ne (by have := d1.pos; omega), d1.log2, d2.log2]; omega
end Go.Proofs.YtcdhjmmkeiomaaaDoor.Bin
