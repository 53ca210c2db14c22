/- Small words for the laws of chapter 4. By the verifier of shale. -/
import Derived.Test.YtgfaaaeechgjmaaDoorPolyEx
namespace Go.Proofs.YtgfaaaeechgjmaaDoor.Pl
open Go Go.RowKit Fld Bits16
set_option linter.unusedVariables false
/-- numbers that came in. -/
theorem row_rowz {w : World} {a : Option Addr} {len cap : Nat} {zs : List Int} (h : IsRow .i64 w a len cap zs) : RowZ w a len cap (zs.take len) := by
  rcases h with ⟨rfl, rfl, rfl, rfl⟩ | ⟨x, rfl, hl, hm, hz, hc, hw⟩
  · exact ⟨rfl, Nat.le_refl _, by decide, fun i hi => by omega⟩
  · refine ⟨by rw [List.length_take]; omega, hl, hm, fun i hi => ?_⟩
    obtain ⟨bb, off, spot⟩ := x
    have ci := hc i (by omega)
    have c0 := hc 0 (by omega)
    obtain rfl : spot = none := by simpa [Addr.add] using World.cell?_spot c0
    rw [add_row] at ci
    refine ⟨bb, off, rfl, ?_, World.block_lt_of_cell? w _ ci⟩
    rw [ci, List.getD_eq_getElem?_getD, List.getD_eq_getElem?_getD, List.getElem?_take_of_lt hi]
section
variable {m : Nat} [M : Mid m]
theorem row_pv {w : World} {a : Option Addr} {len cap : Nat} {zs : List Int} (h : IsRow .i64 w a len cap zs) (K : Nat) (hK : len ≤ K) : ∃ p : Ser (El m), PV m w K a len cap p := ⟨_, _, row_rowz h, rfl, hK⟩
theorem sr_one (x : Int) : sr m [x] = mono 0 (elm m x) := by
  funext i
  show elm m (([x] : List Int).getD i 0) = if i = 0 then elm m x else 0
  cases i with
  | zero => rfl
  | succ i => rw [if_neg (by omega)]; exact elm_zero
theorem mono_psm (x : El m) (p : Ser (El m)) : cv (mono 0 x) p = psm x p := by
  funext i
  rw [cv_mono, if_neg (by omega)]; rfl
theorem psm_lit (x : Int) (p : Ser (El m)) : psm (elm m x) p = cv p (sr m [x]) := by rw [sr_one, cv_comm, mono_psm]
theorem rest_lt {w : World} {K : Nat} {q L A p : Ser (El m)} (h : Dv2 p q A L (Pl.top q K - 1)) (hq : Bd q K) (h0 : q ≠ pz) (hL : Bd L K) : Pl.top L K < Pl.top q K := by
  have h1 := top_nz hq h0
  have h2 := top_same h.low hL
  have := top_le L (Pl.top q K - 1)
  omega
theorem nv_zero {w : World} {K : Nat} {a : Option Addr} {n c : Nat} {p : Ser (El m)} (h : NV m w K a n c p) (e : p = pz) : n = 0 := by
  subst e
  rw [← h.top, top_pz]
theorem nv_pos {w : World} {K : Nat} {a : Option Addr} {n c : Nat} {p : Ser (El m)} (h : NV m w K a n c p) (e : p ≠ pz) : ∃ k, n = k + 1 ∧ Dg p k := by
  have h1 := top_nz h.bd e
  have h2 := top_deg h.bd e
  rw [h.top] at h1 h2
  exact ⟨n - 1, by omega, h2⟩
theorem rootsV_le {K : Nat} {p : Ser (El m)} (hp : Bd p K) : (rootsV K p).length ≤ Pl.top p K - 1 := by
  unfold rootsV
  split
  · exact Nat.zero_le _
  · rename_i h0
    have hd := (top_ne h0).resolve_right fun x => x hp
    have := rts_len hd (2 ^ m) (Nat.le_refl _)
    rw [show Pl.top p K - 1 + 1 = Pl.top p K by omega] at this
    simpa [intsN] using this
/-- the value of a product. -/
theorem ev_mul {p q : Ser (El m)} {k k' K : Nat} (hp : Bd p k) (hq : Bd q k') (h : k + k' ≤ K) (x : El m) : ev K (cv p q) x = ev k p x * ev k' q x := ev_cv x k k' K p q hp hq h
theorem cv_cancel {a b c : Ser (El m)} {n k d : Nat} (ha : Bd a n) (hb : Bd b k) (hc : Dg c d) (h : cv a c = cv b c) : a = b := by
  have h1 : cv (padd a b) c = pz := by rw [cv_add, h, padd_self]
  have hB : Bd (padd a b) (max n k) := (ha.mono (by omega)).add (hb.mono (by omega))
  rcases dg_or hB with h0 | ⟨e, _, he⟩
  · exact padd_cancel h0
  · exact absurd h1 (he.mul hc).ne
/-- the greatest divisor of two products with one factor. -/
theorem gcd_times {p q c G H : Ser (El m)} {kp kq d : Nat} (bp : Bd p kp) (bq : Bd q kq) (hp : p ≠ pz) (hc : Dg c d) (hG : IsG p q G) (hH : IsG (cv p c) (cv q c) H) : H = cv G (psm (c d)⁻¹ c) := by
  have hG0 : G ≠ pz := fun e => hp (hG.zero.1 e).1
  obtain ⟨g, dG, g1⟩ := hG.2.resolve_left hG0
  have hH0 : H ≠ pz := fun e => by
    have h0 := (hH.zero.1 e).1
    rcases dg_or bp with h1 | ⟨e, _, he⟩
    · exact hp h1
    · exact (he.mul hc).ne h0
  obtain ⟨e, dH, h1⟩ := hH.2.resolve_left hH0
  obtain ⟨K, n, bK, eK⟩ : PD c H := hH.1.2.2 c ⟨p, kp, bp, rfl⟩ ⟨q, kq, bq, rfl⟩
  have kd : ∀ {r : Ser (El m)} {k : Nat}, Bd r k → PD H (cv r c) → PD K r := by
    rintro r k br ⟨x, j, bx, ex⟩
    rw [eK, ← cv_assoc] at ex
    exact ⟨x, j, bx, cv_cancel br (bd_cv bx bK) hc ex⟩
  obtain ⟨x, j, bx, ex⟩ := hG.1.2.2 K (kd bp hH.1.1) (kd bq hH.1.2.1)
  have a1 : PD H (cv G c) := ⟨x, j, bx, by rw [ex, eK, cv_assoc]⟩
  have a2 : PD (cv G c) H := by
    refine hH.1.2.2 _ ?_ ?_
    · obtain ⟨y, i, hy, ey⟩ := hG.1.1
      exact ⟨y, i, hy, by rw [ey, cv_assoc]⟩
    · obtain ⟨y, i, hy, ey⟩ := hG.1.2.1
      exact ⟨y, i, hy, by rw [ey, cv_assoc]⟩
  have cd : c d ≠ 0 := hc.1
  have es : cv G (psm (c d)⁻¹ c) = psm (c d)⁻¹ (cv G c) := by rw [cv_comm, cv_psm, cv_comm c]
  have hS : Dg (psm (c d)⁻¹ c) d := ⟨by show (c d)⁻¹ * c d ≠ 0; exact mul_ne (inv_ne cd) cd, hc.2.sm _⟩
  have hT := dG.mul hS
  have hT1 : cv G (psm (c d)⁻¹ c) (g + d) = 1 := by
    rw [(cv_top G _ g d dG.2 hS.2).1, g1, one_mul]
    show (c d)⁻¹ * c d = 1
    rw [Fl.mul_comm, Fl.mul_inv _ cd]
  refine PD.antisymm dH hT ?_ ?_ h1 hT1
  · rw [es]; exact a1.sm _
  · rw [es]; exact a2.unit (inv_ne cd)
/-- that of one and nothing. -/
theorem gcd_nil {p G : Ser (El m)} {d : Nat} (hp : Dg p d) (hG : IsG p pz G) : G = psm (p d)⁻¹ p := by
  refine hG.unique ⟨(PG.right_zero p).unit (inv_ne hp.1), Or.inr ⟨d, ⟨?_, hp.2.sm _⟩, ?_⟩⟩
  · show (p d)⁻¹ * p d ≠ 0
    exact mul_ne (inv_ne hp.1) hp.1
  · show (p d)⁻¹ * p d = 1
    rw [Fl.mul_comm, Fl.mul_inv _ hp.1]
end
end Go.Proofs.YtgfaaaeechgjmaaDoor.Pl
