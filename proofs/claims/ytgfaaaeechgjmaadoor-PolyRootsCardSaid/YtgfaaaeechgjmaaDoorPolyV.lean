/- The contracts of package fieldpoly, and of its reference, in terms of the polynomials alone. By the verifier of shale. -/
import Derived.Test.YtgfaaaeechgjmaaDoorPolyFrom
import Derived.Test.YtgfaaaeechgjmaaDoorRefZ
namespace Go.Proofs.YtgfaaaeechgjmaaDoor.Pl
open Go Go.RowKit Fld Bits16
set_option linter.unusedVariables false
section
variable {m : Nat} [M : Mid m]
/-- numbers handed in that are this polynomial, at most K. -/
def PV (m : Nat) [M : Mid m] (w : World) (K : Nat) (a : Option Addr) (n c : Nat) (p : Ser (El m)) : Prop := ∃ l, RowZ w a n c l ∧ sr m l = p ∧ n ≤ K
/-- a polynomial written as it should be. -/
structure NV (m : Nat) [M : Mid m] (w : World) (K : Nat) (a : Option Addr) (n c : Nat) (p : Ser (El m)) : Prop where
  row : RowZ w a n c (nums p n)
  bd : Bd p n
  top : top p n = n
  le : n ≤ K
theorem PV.below {w w' : World} {K : Nat} {a : Option Addr} {n c : Nat} {p : Ser (El m)} (h : PV m w K a n c p) (b : Below w.heap.size w w') : PV m w' K a n c p := by
  obtain ⟨l, h1, h2, h3⟩ := h
  exact ⟨l, h1.below b, h2, h3⟩
theorem NV.below {w w' : World} {K : Nat} {a : Option Addr} {n c : Nat} {p : Ser (El m)} (h : NV m w K a n c p) (b : Below w.heap.size w w') : NV m w' K a n c p := ⟨h.row.below b, h.bd, h.top, h.le⟩
theorem NV.pol {w : World} {K : Nat} {a : Option Addr} {n c : Nat} {p : Ser (El m)} (h : NV m w K a n c p) : PV m w K a n c p := ⟨_, h.row, sr_nums h.bd, h.le⟩
theorem PV.bdn {w : World} {K : Nat} {a : Option Addr} {n c : Nat} {p : Ser (El m)} (h : PV m w K a n c p) : Bd p n := by
  obtain ⟨l, h1, rfl, _⟩ := h
  have := sr_bd (m := m) l
  rwa [← h1.hlen] at this
theorem PV.bd {w : World} {K : Nat} {a : Option Addr} {n c : Nat} {p : Ser (El m)} (h : PV m w K a n c p) : Bd p K := h.bdn.mono (by obtain ⟨_, _, _, h3⟩ := h; exact h3)
theorem top_full {p : Ser (El m)} {n N : Nat} (h : Bd p N) (hn : n = Pl.top p N) : Pl.top p n = n := by
  have hb : Bd p n := by rw [hn]; exact top_bd h
  rw [hn]; exact (top_same (by rw [hn] at hb; exact hb) h)
theorem outV {w0 w : World} {a : Option Addr} {n c K : Nat} {p : Ser (El m)} (h : Out m w0 w a n c p) (hK : Bd p K) : NV m w K a n c p := by
  have ht : Pl.top p n = n := by
    rcases h with ⟨_, rfl, _, rfl⟩ | ⟨g, N, _, _, _, _, _, hn, hb⟩
    · rfl
    · exact top_full hb hn
  exact ⟨h.row, h.bd, ht, by rw [← ht, top_same h.bd hK]; exact top_le p K⟩
theorem routV {w0 w : World} {a : Option Addr} {n c K : Nat} {p : Ser (El m)} (h : ROut m w0 w a n c p) (hK : Bd p K) : NV m w K a n c p :=
  ⟨h.row, h.bd, h.top, by rw [← h.top, top_same h.bd hK]; exact top_le p K⟩
theorem top_of {w : World} {K : Nat} {a : Option Addr} {n c : Nat} {p : Ser (El m)} (h : PV m w K a n c p) : Pl.top p n = Pl.top p K := top_same h.bdn h.bd
theorem der_bdK {p : Ser (El m)} {K : Nat} (h : Bd p K) : Bd (der p) K := fun i hi => by
  show (if i % 2 = 0 then p (i + 1) else 0) = 0
  split
  · exact h _ (by omega)
  · rfl
theorem top_pz : ∀ K, Pl.top (pz : Ser (El m)) K = 0
  | 0 => rfl
  | K + 1 => by rw [top_zero (rfl : (pz : Ser (El m)) K = 0)]; exact top_pz K
theorem top_nz {p : Ser (El m)} {K : Nat} (h : Bd p K) (h0 : p ≠ pz) : Pl.top p K ≠ 0 := fun e => h0 (by have := top_bd h; rw [e] at this; exact this.zero)
theorem top_deg {p : Ser (El m)} {K : Nat} (h : Bd p K) (h0 : p ≠ pz) : Dg p (Pl.top p K - 1) := (top_ne (top_nz h h0)).resolve_right fun x => x h
theorem top_dg' {p : Ser (El m)} {K d : Nat} (h : Bd p K) (hd : Dg p d) : Pl.top p K = d + 1 := by
  have h0 := top_deg h hd.ne
  have h1 := top_nz h hd.ne
  have := h0.eq hd
  omega
theorem cvK {p q : Ser (El m)} {k k' K : Nat} (hp : Bd p k) (hq : Bd q k') (h : k + k' ≤ K) : Bd (cv p q) K := (bd_cv hp hq).mono (by omega)
theorem div_bd {p q A L : Ser (El m)} {K e : Nat} (hp : Bd p K) (hq : Dg q e) (he : e < K) (h : Dv2 p q A L e) : Bd A K ∧ Bd L K := by
  have hL : Bd L K := h.low.mono (by omega)
  refine ⟨?_, hL⟩
  obtain ⟨n, hn⟩ := h.fin
  rcases dg_or hn with h0 | ⟨d, _, hd⟩
  · rw [h0]; exact bd_pz K
  · have h1 := hd.mul hq
    have h2 : cv A q = padd p L := by rw [h.sum, padd_back]
    rw [h2] at h1
    have := h1.lt (hp.add hL)
    exact hd.2.mono (by omega)
theorem PD.le {g p : Ser (El m)} {K : Nat} (h : PD g p) (h0 : p ≠ pz) (hp : Bd p K) {d : Nat} (hg : Dg g d) : d < K := by
  obtain ⟨a, n, ha, rfl⟩ := h
  rcases dg_or ha with h1 | ⟨x, _, hx⟩
  · rw [h1, cv_zero] at h0; exact absurd rfl h0
  · have := (hx.mul hg).lt hp; omega
/-- a greatest common divisor as the chapter wants it. -/
def IsG (p q G : Ser (El m)) : Prop := PG p q G ∧ (G = pz ∨ ∃ d, Dg G d ∧ G d = 1)
theorem pd_pz {p : Ser (El m)} (h : PD pz p) : p = pz := by
  obtain ⟨a, n, _, rfl⟩ := h
  exact zero_cv a
theorem IsG.zero {p q G : Ser (El m)} (h : IsG p q G) : G = pz ↔ p = pz ∧ q = pz := by
  constructor
  · rintro rfl
    exact ⟨pd_pz h.1.1, pd_pz h.1.2.1⟩
  · rintro ⟨rfl, rfl⟩
    exact pd_pz (h.1.2.2 pz (PD.zero _) (PD.zero _))
theorem IsG.unique {p q G G' : Ser (El m)} (h : IsG p q G) (k : IsG p q G') : G = G' := by
  by_cases h0 : G = pz
  · rw [h0]; exact (k.zero.2 (h.zero.1 h0)).symm
  · have h1 : G' ≠ pz := fun e => h0 (h.zero.2 (k.zero.1 e))
    obtain ⟨d, hd, e1⟩ := h.2.resolve_left h0
    obtain ⟨e, he, e2⟩ := k.2.resolve_left h1
    exact PG.unique hd he h.1 k.1 e1 e2
theorem IsG.bd {p q G : Ser (El m)} {K : Nat} (h : IsG p q G) (hp : Bd p K) (hq : Bd q K) : Bd G K := by
  rcases h.2 with rfl | ⟨d, hd, _⟩
  · exact bd_pz K
  · by_cases h0 : p = pz
    · by_cases h1 : q = pz
      · exact absurd (h.zero.2 ⟨h0, h1⟩) hd.ne
      · have := h.1.2.1.le h1 hq hd; exact hd.2.mono (by omega)
    · have := h.1.1.le h0 hp hd; exact hd.2.mono (by omega)
theorem IsG.comm {p q G : Ser (El m)} (h : IsG p q G) : IsG q p G := ⟨h.1.comm, h.2⟩
theorem nilV (w : World) : PV m w 0 none 0 0 pz := ⟨[], ⟨rfl, Nat.le_refl _, by decide, fun i hi => by omega⟩, by funext i; exact elm_zero, Nat.le_refl _⟩
theorem PV.more {w : World} {K K' : Nat} {a : Option Addr} {n c : Nat} {p : Ser (El m)} (h : PV m w K a n c p) (hK : K ≤ K') : PV m w K' a n c p := by
  obtain ⟨l, h1, h2, h3⟩ := h
  exact ⟨l, h1, h2, by omega⟩
section
variable {g s be ce bl : Nat} {w : World}
theorem mulV {k k' : Nat} {a a' : Option Addr} {n c n' c' : Nat} {p q : Ser (El m)} (R : RingAt m w g s be ce bl) (K : Nat) (h1 : PV m w k a n c p) (h2 : PV m w k' a' n' c' q) (hK : k + k' ≤ K) (hK2 : K ≤ 2048) :
    Calls Tryd.prog 11 #[.pointer (some ⟨g, 0, none⟩), .slice a n c, .slice a' n' c'] w fun e w' => ∃ a n c, e = .returned (.tuple #[.slice a n c, .nilIface]) ∧ NV m w' K a n c (cv p q) ∧ Below w.heap.size w w' := by
  have hb := cvK h1.bd h2.bd hK
  obtain ⟨l1, r1, rfl, n1⟩ := h1
  obtain ⟨l2, r2, rfl, n2⟩ := h2
  have t1 := top_le (sr m l1) n
  have t2 := top_le (sr m l2) n'
  refine (pmul_any a n c l1 a' n' c' l2 w R r1 r2 (by omega) (by omega) (by omega)).mono ?_
  rintro e w1 ⟨a3, n3, c3, rfl, hO, b⟩
  exact ⟨a3, n3, c3, rfl, outV hO hb, b⟩
theorem addV {k k' : Nat} {a a' : Option Addr} {n c n' c' : Nat} {p q : Ser (El m)} (R : RingAt m w g s be ce bl) (K : Nat) (h1 : PV m w k a n c p) (h2 : PV m w k' a' n' c' q) (hK : k ≤ K) (hK' : k' ≤ K) (hK2 : K ≤ 2048) :
    Calls Tryd.prog 16 #[.pointer (some ⟨g, 0, none⟩), .slice a n c, .slice a' n' c'] w fun e w' => ∃ a n c, e = .returned (.slice a n c) ∧ NV m w' K a n c (padd p q) ∧ Below w.heap.size w w' := by
  have hb : Bd (padd p q) K := (h1.bd.mono hK).add (h2.bd.mono hK')
  obtain ⟨l1, r1, rfl, n1⟩ := h1
  obtain ⟨l2, r2, rfl, n2⟩ := h2
  refine (padd_any a n c l1 a' n' c' l2 w R r1 r2 (by omega) (by omega)).mono ?_
  rintro e w1 ⟨a3, n3, c3, rfl, hO, b⟩
  exact ⟨a3, n3, c3, rfl, outV hO hb, b⟩
theorem scaleV {k : Nat} {a : Option Addr} {n c : Nat} {p : Ser (El m)} (z : Int) (R : RingAt m w g s be ce bl) (h1 : PV m w k a n c p) (hK2 : k ≤ 2048) :
    Calls Tryd.prog 18 #[.pointer (some ⟨g, 0, none⟩), .slice a n c, .int .i64 z] w fun e w' => ∃ a n c, e = .returned (.slice a n c) ∧ NV m w' k a n c (psm (elm m z) p) ∧ Below w.heap.size w w' := by
  have hb := h1.bd.sm (elm m z)
  obtain ⟨l1, r1, rfl, n1⟩ := h1
  refine (scale_any a n c l1 z w R r1 (by omega)).mono ?_
  rintro e w1 ⟨a3, n3, c3, rfl, hO, b⟩
  exact ⟨a3, n3, c3, rfl, outV hO hb, b⟩
theorem derV {k : Nat} {a : Option Addr} {n c : Nat} {p : Ser (El m)} (R : RingAt m w g s be ce bl) (h1 : PV m w k a n c p) (hK2 : k ≤ 2048) :
    Calls Tryd.prog 22 #[.pointer (some ⟨g, 0, none⟩), .slice a n c] w fun e w' => ∃ a n c, e = .returned (.slice a n c) ∧ NV m w' k a n c (der p) ∧ Below w.heap.size w w' := by
  have hb := der_bdK h1.bd
  obtain ⟨l1, r1, rfl, n1⟩ := h1
  refine (der_any a n c l1 w R r1 (by omega)).mono ?_
  rintro e w1 ⟨a3, n3, c3, rfl, hO, b⟩
  exact ⟨a3, n3, c3, rfl, outV hO hb, b⟩
theorem trimV {k : Nat} {a : Option Addr} {n c : Nat} {p : Ser (El m)} (R : RingAt m w g s be ce bl) (h1 : PV m w k a n c p) (hK2 : k ≤ 2048) :
    Calls Tryd.prog 14 #[.pointer (some ⟨g, 0, none⟩), .slice a n c] w fun e w' => ∃ a n c, e = .returned (.slice a n c) ∧ NV m w' k a n c p ∧ Below w.heap.size w w' := by
  have hb := h1.bd
  have hn := h1.bdn
  have ht := top_of h1
  have hle := top_le p k
  obtain ⟨l1, r1, rfl, n1⟩ := h1
  refine (trim_any a n c l1 w R r1 (by omega)).mono ?_
  rintro e w1 ⟨rfl, hB, b⟩
  refine ⟨_, _, _, rfl, ⟨?_, top_bd hn, top_full hn rfl, by rw [ht]; exact hle⟩, b⟩
  have hr := Blk64.row hB _ (by rw [nums_length]; exact Nat.le_refl _) (by rw [nums_length]; omega)
  rw [nums_take _ (Nat.le_refl _), nums_length] at hr
  exact hr
theorem degV {k : Nat} {a : Option Addr} {n c : Nat} {p : Ser (El m)} (R : RingAt m w g s be ce bl) (h1 : PV m w k a n c p) :
    Calls Tryd.prog 15 #[.pointer (some ⟨g, 0, none⟩), .slice a n c] w fun e w' => e = .returned (.int .i64 ((Pl.top p k : Int) - 1)) ∧ w = w' := by
  have ht := top_of h1
  obtain ⟨l1, r1, rfl, n1⟩ := h1
  have := deg_any a n c l1 w R r1
  rwa [ht] at this
theorem evalV {k : Nat} {a : Option Addr} {n c : Nat} {p : Ser (El m)} (x : Int) (R : RingAt m w g s be ce bl) (h1 : PV m w k a n c p) :
    Calls Tryd.prog 20 #[.pointer (some ⟨g, 0, none⟩), .slice a n c, .int .i64 x] w fun e w' => e = .returned (.int .i64 (zn (ev k p (elm m x)))) ∧ Drawn w w' := by
  have hn := h1.bdn
  obtain ⟨l1, r1, rfl, n1⟩ := h1
  have := peval_any a n c l1 x w R r1
  rwa [← ev_more (elm m x) n k _ hn n1] at this
theorem divV {k k' : Nat} {a a' : Option Addr} {n c n' c' : Nat} {p q : Ser (El m)} (R : RingAt m w g s be ce bl) (K : Nat) (h1 : PV m w k a n c p) (h2 : PV m w k' a' n' c' q) (hK : k ≤ K) (hK' : k' ≤ K) (hK2 : K ≤ 2048) (h0 : q ≠ pz) :
    Calls Tryd.prog 28 #[.pointer (some ⟨g, 0, none⟩), .slice a n c, .slice a' n' c'] w fun e w' => ∃ a n c a' n' c' A L, e = .returned (.tuple #[.slice a n c, .slice a' n' c', .nilIface]) ∧ NV m w' K a n c A ∧ NV m w' K a' n' c' L ∧ Dv2 p q A L (Pl.top q k' - 1) ∧ Below w.heap.size w w' := by
  have hb1 := h1.bd.mono hK
  have hb2 := h2.bd
  have ht := top_of h2
  have htn := top_nz h2.bdn h0
  have htl := top_le q k'
  obtain ⟨l1, r1, rfl, n1⟩ := h1
  obtain ⟨l2, r2, rfl, n2⟩ := h2
  refine (pdiv_any a n c l1 a' n' c' l2 w R r1 r2 (by omega) (by omega) htn).mono ?_
  rintro e w1 ⟨a3, n3, c3, a4, n4, c4, A, L, rfl, hA, hL, hd, b⟩
  rw [ht] at hd htn
  have hbd := div_bd hb1 (top_deg hb2 h0) (by omega) hd
  exact ⟨a3, n3, c3, a4, n4, c4, A, L, rfl, outV hA hbd.1, outV hL hbd.2, hd, b⟩
theorem divZ {k k' : Nat} {a a' : Option Addr} {n c n' c' : Nat} {p : Ser (El m)} (R : RingAt m w g s be ce bl) (h1 : PV m w k a n c p) (h2 : PV m w k' a' n' c' pz) (hK : k ≤ 2048) (hK' : k' ≤ 2048) (x : Addr) (E : ErrAt w 0 x) :
    Calls Tryd.prog 28 #[.pointer (some ⟨g, 0, none⟩), .slice a n c, .slice a' n' c'] w fun e w' => e = .returned (.tuple #[.slice none 0 0, .slice none 0 0, errOf x]) ∧ Below w.heap.size w w' := by
  obtain ⟨l1, r1, rfl, n1⟩ := h1
  obtain ⟨l2, r2, e2, n2⟩ := h2
  exact pdiv_zero a n c l1 a' n' c' l2 w R r1 r2 (by omega) (by omega) (by rw [e2]; exact top_pz n') x E
theorem gcdV {k k' : Nat} {a a' : Option Addr} {n c n' c' : Nat} {p q : Ser (El m)} (R : RingAt m w g s be ce bl) (K : Nat) (h1 : PV m w k a n c p) (h2 : PV m w k' a' n' c' q) (hK : k ≤ K) (hK' : k' ≤ K) (hK2 : K ≤ 2048) :
    Calls Tryd.prog 24 #[.pointer (some ⟨g, 0, none⟩), .slice a n c, .slice a' n' c'] w fun e w' => ∃ a n c G, e = .returned (.slice a n c) ∧ NV m w' K a n c G ∧ IsG p q G ∧ Below w.heap.size w w' := by
  have hb1 := h1.bd.mono hK
  have hb2 := h2.bd.mono hK'
  obtain ⟨l1, r1, rfl, n1⟩ := h1
  obtain ⟨l2, r2, rfl, n2⟩ := h2
  refine (pgcd_any a n c l1 a' n' c' l2 w R r1 r2 (by omega) (by omega)).mono ?_
  rintro e w1 ⟨a3, n3, c3, G, rfl, hO, h3, h4, b⟩
  exact ⟨a3, n3, c3, G, rfl, outV hO (IsG.bd ⟨h3, h4⟩ hb1 hb2), ⟨h3, h4⟩, b⟩
/-- all the roots of p, rising. -/
noncomputable def rootsV (k : Nat) (p : Ser (El m)) : List Int := if Pl.top p k = 0 then [] else intsN (rts (Pl.top p k) p (2 ^ m))
theorem rootsV_any {k : Nat} {a : Option Addr} {n c : Nat} {p : Ser (El m)} (R : RingAt m w g s be ce bl) (h1 : PV m w k a n c p) (hK2 : k ≤ 2048) :
    Calls Tryd.prog 26 #[.pointer (some ⟨g, 0, none⟩), .slice a n c] w fun e w' => ∃ a n c, e = .returned (.slice a n c) ∧ RowZ w' a n c (rootsV k p) ∧ Below w.heap.size w w' := by
  have ht := top_of h1
  obtain ⟨l1, r1, rfl, n1⟩ := h1
  by_cases h0 : Pl.top (sr m l1) n = 0
  · refine (roots_zero a n c l1 w R r1 (by omega) h0).mono ?_
    rintro e w1 ⟨rfl, b⟩
    exact ⟨none, 0, 0, rfl, ⟨by rw [rootsV, if_pos (by rw [← ht]; exact h0)]; rfl, Nat.le_refl _, by decide, fun i hi => by omega⟩, b⟩
  · refine (roots_any a n c l1 w R r1 (by omega) h0).mono ?_
    rintro e w1 ⟨v, j, rfl, hO, b⟩
    obtain ⟨a', c', rfl⟩ := own_slice hO
    exact ⟨a', j, c', rfl, by rw [rootsV, if_neg (by rw [← ht]; exact h0), ← ht]; exact (own_rowz hO).1, b⟩
theorem pls_bd (l : List Int) (n : Nat) : Bd (pls (m := m) l n) (n + 1) := (pls_dg l n).2
theorem fromV {a : Option Addr} {n c : Nat} {l : List Int} (R : RingAt m w g s be ce bl) (h1 : RowZ w a n c l) (hn : n ≤ 2048) (K : Nat) (hK : n + 1 ≤ K) :
    Calls Tryd.prog 30 #[.pointer (some ⟨g, 0, none⟩), .slice a n c] w fun e w' => ∃ a' n' c', e = .returned (.tuple #[.slice a' n' c', .nilIface]) ∧ NV m w' K a' n' c' (pls l n) ∧ Below w.heap.size w w' := by
  refine (from_any a n c l w R h1 hn).mono ?_
  rintro e w1 ⟨a3, n3, c3, rfl, hO, b⟩
  exact ⟨a3, n3, c3, rfl, outV hO ((pls_bd l n).mono hK), b⟩
end
section
variable {w : World}
theorem sameV {k k' : Nat} {a a' : Option Addr} {n c n' c' : Nat} {p q : Ser (El m)} (h1 : NV m w k a n c p) (h2 : NV m w k' a' n' c' q) (e : p = q) :
    Calls Tryd.prog 13 #[.slice a n c, .slice a' n' c'] w fun e w' => e = .returned (.bool true) ∧ Drawn w w' := by
  subst e
  have hn : n = n' := by rw [← h1.top, ← h2.top]; exact top_same h1.bd h2.bd
  refine (sameZ_any a n c _ a' n' c' _ w h1.row h2.row).mono ?_
  rintro e w1 ⟨rfl, d⟩
  exact ⟨by rw [decide_eq_true (by rw [hn])], d⟩
end
end
end Go.Proofs.YtgfaaaeechgjmaaDoor.Pl
