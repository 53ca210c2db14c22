/- The ring that a statement makes, and the examples of chapter 4. By the verifier of shale. -/
import Derived.Test.YtgfaaaeechgjmaaDoorRefPGcd
namespace Go.Proofs.YtgfaaaeechgjmaaDoor.Pl
open Go Go.RowKit Fld Bits16
set_option linter.unusedVariables false
/-- the m that a statement makes of any number. -/
def rm (z : Int) : Nat := (z % 6).toNat + 3
instance (z : Int) : Mid (rm z) := ⟨by unfold rm; omega, by unfold rm; omega⟩
theorem rm_hi (z : Int) : rm z ≤ 8 := by unfold rm; omega
/-- the ring's answer. -/
def RingMade (m : Nat) (w : World) (e : Ending) (w' : World) : Prop := ∃ g s be ce bl, e = .returned (.tuple #[.pointer (some ⟨g, 0, none⟩), .int .i64 (m : Int)]) ∧ RingAt m w' g s be ce bl ∧ Below w.heap.size w w'
set_option maxHeartbeats 400000 in
theorem ring_any (z : Int) (w : World) : Calls Tryd.prog 10 #[.int .i64 z] w (RingMade (rm z) w) := by
  have a1 := Int.tmod_lt_of_pos z (b := 6) (by omega)
  have a2 : -6 < z.tmod 6 := by
    have := Int.tmod_lt_of_pos (-z) (b := 6) (by omega)
    rw [Int.neg_tmod] at this
    omega
  have HQ : Hid (z.tmod 6 % 6 + 3 = (rm z : Int)) := by
    show _ = _
    unfold rm
    have : z.tmod 6 % 6 = z % 6 := by rw [Int.tmod_eq_emod]; split <;> omega
    omega
  have l1 : 3 ≤ rm z := Mid.lo
  have l2 : rm z ≤ 14 := Mid.hi
  go_enter Tryd.func10, Tryd.ntmps10
  go_wp2_with fail
  rw [HQ.out]
  refine (new_any (rm z) l1 l2 w).mono ?_
  rintro e w1 ⟨s, be, ce, bl, rfl, f, b1⟩
  go_wp2_with fail
  refine (pnew_any w1 f).mono ?_
  rintro e w2 ⟨g, rfl, R, b2⟩
  have B2 := b1.trans (b2.mono b1.size)
  clear f b1 b2
  go_wp2_with fail
  go_ret2
  exact ⟨g, s, be, ce, bl, rfl, R, B2⟩
theorem lit_new (w W : World) (l : List Int) (n : Nat) (hn : n = l.length) (hm : n ≤ 1000) (hW : W = w.alloc (obj64 l)) : RowZ W (some ⟨w.heap.size, 0, none⟩) n n l ∧ Below w.heap.size w W ∧ W.heap.size = w.heap.size + 1 := by
  subst hW
  refine ⟨?_, (Below.refl _ _).alloc (Nat.le_refl _) _, Array.size_push _⟩
  subst hn
  exact Blk64.rowz (Blk64.new w l) (by omega)
section
variable {m : Nat} [M : Mid m]
theorem RowZ.pv {w : World} {a : Option Addr} {n c : Nat} {l : List Int} (h : RowZ w a n c l) (p : Ser (El m)) (e : sr m l = p) (K : Nat) (hK : n ≤ K) : PV m w K a n c p := ⟨l, h, e, hK⟩
theorem RowZ.nv {w : World} {a : Option Addr} {n c : Nat} {l : List Int} (h : RowZ w a n c l) (e : nums (sr m l) l.length = l) (ht : Pl.top (sr m l) l.length = l.length) : NV m w n a n c (sr m l) := by
  have hl := h.hlen
  subst hl
  exact ⟨by rw [e]; exact h, sr_bd l, ht, Nat.le_refl _⟩
theorem ser_ext {p q : Ser (El m)} {n : Nat} (hp : Bd p n) (hq : Bd q n) (h : ∀ i, i < n → p i = q i) : p = q := by
  funext i
  by_cases hi : i < n
  · exact h i hi
  · rw [hp i (by omega), hq i (by omega)]
end
instance : Mid 4 := ⟨by decide, by decide⟩
abbrev s4 (l : List Int) : Ser (El 4) := sr 4 l
theorem s4_bd (l : List Int) (n : Nat) (h : l.length ≤ n) : Bd (s4 l) n := (sr_bd l).mono h
theorem y1 : cv (s4 [1, 1]) (s4 [1, 1]) = s4 [1, 0, 1] :=
  ser_ext (n := 4) (cvK (s4_bd _ 2 (by decide)) (s4_bd _ 2 (by decide)) (by decide)) (s4_bd _ 4 (by decide)) (by decide +kernel)
theorem y2 : Dv2 (s4 [0, 0, 1]) (s4 [1, 1]) (s4 [1, 1]) (s4 [1]) 1 := by
  refine ⟨?_, ⟨2, s4_bd _ 2 (by decide)⟩, s4_bd _ 1 (by decide)⟩
  exact ser_ext (n := 4) (s4_bd _ 4 (by decide)) ((cvK (s4_bd _ 2 (by decide)) (s4_bd _ 2 (by decide)) (by decide)).add (s4_bd _ 4 (by decide))) (by decide +kernel)
theorem dg11 : Dg (s4 [1, 1]) 1 := ⟨by decide +kernel, s4_bd _ 2 (by decide)⟩
theorem y3 : pls (m := 4) [2, 3] 2 = s4 [6, 1, 1] :=
  ser_ext (n := 4) ((pls_bd _ 2).mono (by decide)) (s4_bd _ 4 (by decide)) (by decide +kernel)
theorem y4 : pls (m := 4) [3, 5] 2 = s4 [15, 6, 1] :=
  ser_ext (n := 4) ((pls_bd _ 2).mono (by decide)) (s4_bd _ 4 (by decide)) (by decide +kernel)
theorem y5 : IsG (s4 [6, 1, 1]) (s4 [15, 6, 1]) (s4 [3, 1]) := by
  have b2 := s4_bd [2, 1] 2 (by decide)
  have b3 := s4_bd [3, 1] 2 (by decide)
  have b5 := s4_bd [5, 1] 2 (by decide)
  have e1 : s4 [6, 1, 1] = cv (s4 [2, 1]) (s4 [3, 1]) := ser_ext (n := 4) (s4_bd _ 4 (by decide)) (cvK b2 b3 (by decide)) (by decide +kernel)
  have e2 : s4 [15, 6, 1] = cv (s4 [5, 1]) (s4 [3, 1]) := ser_ext (n := 4) (s4_bd _ 4 (by decide)) (cvK b5 b3 (by decide)) (by decide +kernel)
  have e3 : psm (elm 4 7)⁻¹ (padd (s4 [6, 1, 1]) (s4 [15, 6, 1])) = s4 [3, 1] := ser_ext (n := 4) (((s4_bd _ 4 (by decide)).add (s4_bd _ 4 (by decide))).sm _) (s4_bd _ 4 (by decide)) (by decide +kernel)
  refine ⟨⟨⟨_, 2, b2, e1⟩, ⟨_, 2, b5, e2⟩, fun c h k => ?_⟩, Or.inr ⟨1, ⟨by decide +kernel, b3⟩, by decide +kernel⟩⟩
  have := (h.add k).sm (elm 4 7)⁻¹
  rwa [e3] at this
theorem y6 : der (s4 [1, 2, 3, 4]) = s4 [2, 0, 4] :=
  ser_ext (n := 4) (der_bdK (s4_bd _ 4 (by decide))) (s4_bd _ 4 (by decide)) (by decide +kernel)
theorem y7 : zn (ev 3 (s4 [1, 1, 1]) (elm 4 2)) = 7 := by decide +kernel
theorem rm1 : rm 1 = 4 := by decide
end Go.Proofs.YtgfaaaeechgjmaaDoor.Pl
