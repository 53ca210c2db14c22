/- The reference's greatest common divisor over a field. By the verifier of shale. -/
import Derived.Test.YtgfaaaeechgjmaaDoorRefPDiv
import Derived.Test.YtgfaaaeechgjmaaDoorPolyV
import Derived.Test.YtgfaaaeechgjmaaDoorRefPDer
import Derived.Test.YtgfaaaeechgjmaaDoorRefPRoots
namespace Go.Proofs.YtgfaaaeechgjmaaDoor.Pl
open Go Go.RowKit Fld Bits16
set_option linter.unusedVariables false
section
variable {m : Nat} [M : Mid m]
theorem rout_le {w0 w : World} {a : Option Addr} {n c e : Nat} {p : Ser (El m)} (h : ROut m w0 w a n c p) (hb : Bd p e) : n ≤ e := by
  rw [← h.top, top_same h.bd hb]; exact top_le p e
theorem rnil (w0 w : World) : ROut m w0 w none 0 0 (pz : Ser (El m)) := ⟨⟨rfl, Nat.le_refl _, by decide, fun i hi => by omega⟩, bd_pz 0, rfl, fun bb off e => by cases e⟩
set_option maxRecDepth 100000 in
set_option maxHeartbeats 2000000 in
theorem rgcd_any (a1 : Option Addr) (n1 c1 : Nat) (l1 : List Int) (a2 : Option Addr) (n2 c2 : Nat) (l2 : List Int) (w : World) (h1 : RowZ w a1 n1 c1 l1) (h2 : RowZ w a2 n2 c2 l2) (k1 : n1 ≤ 10000) (k2 : n2 ≤ 10000) :
    Calls Tryd.prog 25 #[.int .i64 (m : Int), .slice a1 n1 c1, .slice a2 n2 c2] w
      fun e w' => ∃ a' n' cap' G, e = .returned (.slice a' n' cap') ∧ ROut m w w' a' n' cap' G ∧ IsG (sr m l1) (sr m l2) G ∧ Below w.heap.size w w' := by
  have HP1 := Lib.hid h1
  have HP2 := Lib.hid h2
  have hb1 : Bd (sr m l1) n1 := by have := sr_bd (m := m) l1; rwa [← h1.hlen] at this
  have hb2 : Bd (sr m l2) n2 := by have := sr_bd (m := m) l2; rwa [← h2.hlen] at this
  have HB1 := Lib.hid hb1
  have HB2 := Lib.hid hb2
  clear h1 h2 hb1 hb2
  go_enter Tryd.func25, Tryd.ntmps25
  go_wp2_with fail
  refine (rtrim_any (m := m) a1 n1 c1 l1 w HP1.out (by omega)).mono ?_
  rintro e w1 ⟨ap, N1, d1, rfl, O1, b1⟩
  go_wp2_with fail
  refine (rtrim_any (m := m) a2 n2 c2 l2 w1 (HP2.out.below b1) (by omega)).mono ?_
  rintro e w2 ⟨aq, N2, d2, rfl, O2, b2⟩
  have ht1 : N1 ≤ n1 := rout_le O1 HB1.out
  have ht2 : N2 ≤ n2 := rout_le O2 HB2.out
  replace O2 := O2.from b1.size
  replace O1 := O1.since b2
  have B2 := b1.trans (b2.mono b1.size)
  clear b1 b2
  go_wp2_with fail
  go_loopg [1, 2] N2 (fun gh s1 s2 wx => ∃ (aa ab : Option Addr) (na nb ca cb : Nat) (A B : Ser (El m)), gh = nb ∧ s1 = .slice aa na ca ∧ s2 = .slice ab nb cb ∧ ROut m w wx aa na ca A ∧ ROut m w wx ab nb cb B ∧ na ≤ 10000 ∧ nb ≤ 10000 ∧ Below w.heap.size w wx ∧ Hid (∀ G, PG A B G → PG (sr m l1) (sr m l2) G))
  case atStart => exact ⟨ap, aq, N1, N2, d1, d2, _, _, rfl, rfl, rfl, O1, O2, by omega, by omega, B2, fun G h => h⟩
  case round =>
    clear O1 O2 B2 ht1 ht2
    obtain ⟨aa, ab, na, nb, ca, cb, A, B, hg, rfl, rfl, hA, hB, b1, b2, hW, HI⟩ := hrel
    have HG := Lib.hid hg
    clear hg
    rcases nb with _ | k
    · have hPG : PG (sr m l1) (sr m l2) A := HI.out A (by rw [hB.bd.zero]; exact PG.right_zero A)
      rcases na with _ | N
      · have HZ : Hid (A = pz) := hA.bd.zero
        have HPG := Lib.hid hPG
        clear hA hB hPG
        go_wp2_with fail
        go_ret
        exact ⟨none, 0, 0, A, rfl, by rw [HZ.out]; exact rnil _ _, ⟨HPG.out, Or.inl HZ.out⟩, hW⟩
      · have HDG : Hid (Dg A N) := dg_top hA.bd hA.top.symm
        have HBd := Lib.hid hA.bd
        have HRow := Lib.hid hA.row
        have HPG := Lib.hid hPG
        have HW := Lib.hid hW
        obtain ⟨bb, off, rfl, cT, hbb⟩ := hA.row.row N (by omega)
        rw [nums_at _ _ _ (by omega)] at cT
        have i1 : IntKind.i64.wrap (((N + 1 : Nat) : Int) - 1) = (N : Int) := by rw [show ((N + 1 : Nat) : Int) - 1 = (N : Int) by omega]; exact IntWalk.i64_in _ (by omega)
        have i2 : IntKind.i64.wrap ((N : Int) + 1 - 1) = (N : Int) := by rw [show (N : Int) + 1 - 1 = (N : Int) by omega]; exact IntWalk.i64_in _ (by omega)
        have i3 : (N : Int) < (N : Int) + 1 := by omega
        have i4 : IntKind.i64.wrap (N : Int) = (N : Int) := IntWalk.i64_in _ (by omega)
        have tz : (((N + 1 : Nat) : Int) == 0) = false := by rw [beq_eq_false_iff_ne]; omega
        have tz' : ((N : Int) + 1 == 0) = false := by rw [beq_eq_false_iff_ne]; omega
        have x0 : (0 : Int) ≤ (N : Int) := by omega
        clear hA hB hPG hW HI hbb
        go_wp2_with fail
        refine (rinv_zz (m := m) (A N) HDG.out.1 wr).mono ?_
        rintro e w4 ⟨rfl, b4⟩
        have HRow4 := Lib.hid (HRow.out.below b4)
        have HW4 := Lib.hid (HW.out.trans (b4.mono HW.out.size))
        clear cT HRow HW b4
        go_wp2_with fail
        have hb8 : Below w4.heap.size w4 (w4.alloc (.cells #[.int .i64 (zn (A N)⁻¹)] 3 (0, 0))) := (Below.refl _ _).alloc (Nat.le_refl _) _
        have hs8 : RowZ (w4.alloc (.cells #[.int .i64 (zn (A N)⁻¹)] 3 (0, 0))) (some ⟨w4.heap.size, 0, none⟩) 1 1 [zn (A N)⁻¹] := row_single w4 _
        generalize w4.alloc (.cells #[.int .i64 (zn (A N)⁻¹)] 3 (0, 0)) = w8 at hb8 hs8 ⊢
        have HW8 := Lib.hid (HW4.out.trans (hb8.mono HW4.out.size))
        refine (rtimes_any (m := m) _ (N + 1) ca _ _ 1 1 _ w8 (HRow4.out.below hb8) hs8 (by omega) (by omega)).mono ?_
        rintro e w9 ⟨a6, n6, c6, rfl, h6, b9⟩
        rw [sr_nums HBd.out, sr_single, cv_comm] at h6
        have HO := Lib.hid (h6.from HW8.out.size)
        have HB := Lib.hid (HW8.out.trans (b9.mono HW8.out.size))
        clear h6 b9 hb8 hs8
        go_wp2_with fail
        go_ret
        have h2 : cv (mono 0 (A N)⁻¹) A = psm (A N)⁻¹ A := by
          funext i
          rw [cv_mono, if_neg (by omega)]; rfl
        have h1 : psm (A N)⁻¹ A N = 1 := by
          show (A N)⁻¹ * A N = 1
          rw [Fl.mul_comm, Fl.mul_inv _ HDG.out.1]
        refine ⟨a6, n6, c6, _, rfl, HO.out, ?_, HB.out⟩
        rw [h2]
        exact ⟨HPG.out.unit (inv_ne HDG.out.1), Or.inr ⟨N, ⟨by rw [h1]; exact Fl.one_ne, HDG.out.2.sm _⟩, h1⟩⟩
    · have x1 : (0 : Int) < ((k + 1 : Nat) : Int) := by omega
      have x2 : (0 : Int) < (k : Int) + 1 := by omega
      have tn : Pl.top (sr m (nums B (k + 1))) (k + 1) = k + 1 := by rw [sr_nums hB.bd]; exact hB.top
      have HTN := Lib.hid tn
      have HRA := Lib.hid hA.row
      have HRB := Lib.hid hB.row
      have HSA : Hid (sr m (nums A na) = A ∧ sr m (nums B (k + 1)) = B) := ⟨sr_nums hA.bd, sr_nums hB.bd⟩
      have HB := Lib.hid hB
      have HW := Lib.hid hW
      clear hA hB hW tn
      go_wp2_with fail
      refine (rdiv_any aa na ca (nums A na) ab (k + 1) cb (nums B (k + 1)) wr HRA.out HRB.out b1 b2 (by rw [HTN.out]; omega)).mono ?_
      rintro e w5 ⟨aq5, nq5, cq5, ar5, nr5, cr5, Q, L, rfl, hQ, hL, hd, b5⟩
      rw [HTN.out, HSA.out.1, HSA.out.2, Nat.add_sub_cancel] at hd
      have HLE : Hid (nr5 ≤ k) := rout_le hL hd.low
      have HF : Hid (ROut m w w5 ab (k + 1) cb B ∧ ROut m w w5 ar5 nr5 cr5 L ∧ Below w.heap.size w w5) := ⟨HB.out.since b5, hL.from HW.out.size, HW.out.trans (b5.mono HW.out.size)⟩
      have HI2 : Hid (∀ G, PG B L G → PG (sr m l1) (sr m l2) G) := fun G h => HI.out G (PG.step hd h)
      clear hQ hL hd b5
      go_wp2_with fail
      go_roundg nr5
      case measure => have := HG.out; have := HLE.out; omega
      case rel => exact ⟨ab, ar5, k + 1, nr5, cb, cr5, B, L, rfl, rfl, rfl, HF.out.1, HF.out.2.1, b2, by have := HLE.out; omega, HF.out.2.2, HI2.out⟩
section
variable {w : World}
theorem rtrimV {k : Nat} {a : Option Addr} {n c : Nat} {p : Ser (El m)} (h1 : PV m w k a n c p) (hK2 : k ≤ 2048) :
    Calls Tryd.prog 12 #[.int .i64 (m : Int), .slice a n c] w fun e w' => ∃ a n c, e = .returned (.slice a n c) ∧ NV m w' k a n c p ∧ Below w.heap.size w w' := by
  have hb := h1.bd
  obtain ⟨l1, r1, rfl, n1⟩ := h1
  refine (rtrim_any (m := m) a n c l1 w r1 (by omega)).mono ?_
  rintro e w1 ⟨a3, n3, c3, rfl, hO, b⟩
  exact ⟨a3, n3, c3, rfl, routV hO hb, b⟩
theorem raddV {k k' : Nat} {a a' : Option Addr} {n c n' c' : Nat} {p q : Ser (El m)} (K : Nat) (h1 : PV m w k a n c p) (h2 : PV m w k' a' n' c' q) (hK : k ≤ K) (hK' : k' ≤ K) (hK2 : K ≤ 2048) :
    Calls Tryd.prog 17 #[.int .i64 (m : Int), .slice a n c, .slice a' n' c'] w fun e w' => ∃ a n c, e = .returned (.slice a n c) ∧ NV m w' K a n c (padd p q) ∧ Below w.heap.size w w' := by
  have hb : Bd (padd p q) K := (h1.bd.mono hK).add (h2.bd.mono hK')
  obtain ⟨l1, r1, rfl, n1⟩ := h1
  obtain ⟨l2, r2, rfl, n2⟩ := h2
  refine (radd_any (m := m) a n c l1 a' n' c' l2 w r1 r2 (by omega) (by omega)).mono ?_
  rintro e w1 ⟨a3, n3, c3, rfl, hO, b⟩
  exact ⟨a3, n3, c3, rfl, routV hO hb, b⟩
theorem rtimesV {k k' : Nat} {a a' : Option Addr} {n c n' c' : Nat} {p q : Ser (El m)} (K : Nat) (h1 : PV m w k a n c p) (h2 : PV m w k' a' n' c' q) (hK : k + k' ≤ K) (hK2 : K ≤ 2048) :
    Calls Tryd.prog 19 #[.int .i64 (m : Int), .slice a n c, .slice a' n' c'] w fun e w' => ∃ a n c, e = .returned (.slice a n c) ∧ NV m w' K a n c (cv p q) ∧ Below w.heap.size w w' := by
  have hb := cvK h1.bd h2.bd hK
  obtain ⟨l1, r1, rfl, n1⟩ := h1
  obtain ⟨l2, r2, rfl, n2⟩ := h2
  refine (rtimes_any (m := m) a n c l1 a' n' c' l2 w r1 r2 (by omega) (by omega)).mono ?_
  rintro e w1 ⟨a3, n3, c3, rfl, hO, b⟩
  exact ⟨a3, n3, c3, rfl, routV hO hb, b⟩
theorem revalV {k : Nat} {a : Option Addr} {n c : Nat} {p : Ser (El m)} (x : Int) (h1 : PV m w k a n c p) :
    Calls Tryd.prog 21 #[.int .i64 (m : Int), .slice a n c, .int .i64 x] w fun e w' => e = .returned (.int .i64 (zn (ev k p (elm m x)))) ∧ Below w.heap.size w w' := by
  have hn := h1.bdn
  obtain ⟨l1, r1, rfl, n1⟩ := h1
  have := reval_any (m := m) a n c l1 x w r1
  rwa [← ev_more (elm m x) n k _ hn n1] at this
theorem rderV {k : Nat} {a : Option Addr} {n c : Nat} {p : Ser (El m)} (h1 : PV m w k a n c p) (hK2 : k ≤ 2048) :
    Calls Tryd.prog 23 #[.int .i64 (m : Int), .slice a n c] w fun e w' => ∃ a n c, e = .returned (.slice a n c) ∧ NV m w' k a n c (der p) ∧ Below w.heap.size w w' := by
  have hb := der_bdK h1.bd
  obtain ⟨l1, r1, rfl, n1⟩ := h1
  refine (rder_any (m := m) a n c l1 w r1 (by omega)).mono ?_
  rintro e w1 ⟨a3, n3, c3, rfl, hO, b⟩
  exact ⟨a3, n3, c3, rfl, routV hO hb, b⟩
theorem rgcdV {k k' : Nat} {a a' : Option Addr} {n c n' c' : Nat} {p q : Ser (El m)} (K : Nat) (h1 : PV m w k a n c p) (h2 : PV m w k' a' n' c' q) (hK : k ≤ K) (hK' : k' ≤ K) (hK2 : K ≤ 2048) :
    Calls Tryd.prog 25 #[.int .i64 (m : Int), .slice a n c, .slice a' n' c'] w fun e w' => ∃ a n c G, e = .returned (.slice a n c) ∧ NV m w' K a n c G ∧ IsG p q G ∧ Below w.heap.size w w' := by
  have hb1 := h1.bd.mono hK
  have hb2 := h2.bd.mono hK'
  obtain ⟨l1, r1, rfl, n1⟩ := h1
  obtain ⟨l2, r2, rfl, n2⟩ := h2
  refine (rgcd_any (m := m) a n c l1 a' n' c' l2 w r1 r2 (by omega) (by omega)).mono ?_
  rintro e w1 ⟨a3, n3, c3, G, rfl, hO, h3, b⟩
  exact ⟨a3, n3, c3, G, rfl, routV hO (h3.bd hb1 hb2), h3, b⟩
theorem rrootsV {k : Nat} {a : Option Addr} {n c : Nat} {p : Ser (El m)} (h1 : PV m w k a n c p) (hK2 : k ≤ 2048) :
    Calls Tryd.prog 27 #[.int .i64 (m : Int), .slice a n c] w fun e w' => ∃ a n c, e = .returned (.slice a n c) ∧ RowZ w' a n c (rootsV k p) ∧ Below w.heap.size w w' := by
  have ht := top_of h1
  obtain ⟨l1, r1, rfl, n1⟩ := h1
  refine (rroots_any (m := m) a n c l1 w r1 (by omega)).mono ?_
  rintro e w1 ⟨a3, n3, c3, rfl, hO, b⟩
  refine ⟨a3, n3, c3, rfl, ?_, b⟩
  have e : rootsL m l1 = rootsV k (sr m l1) := by unfold rootsL rootsV; rw [← r1.hlen, ht]
  rw [← e]; exact hO
theorem rdivV {k k' : Nat} {a a' : Option Addr} {n c n' c' : Nat} {p q : Ser (El m)} (K : Nat) (h1 : PV m w k a n c p) (h2 : PV m w k' a' n' c' q) (hK : k ≤ K) (hK' : k' ≤ K) (hK2 : K ≤ 2048) (h0 : q ≠ pz) :
    Calls Tryd.prog 29 #[.int .i64 (m : Int), .slice a n c, .slice a' n' c'] w fun e w' => ∃ a n c a' n' c' A L, e = .returned (.tuple #[.slice a n c, .slice a' n' c']) ∧ NV m w' K a n c A ∧ NV m w' K a' n' c' L ∧ Dv2 p q A L (Pl.top q k' - 1) ∧ Below w.heap.size w w' := by
  have hb1 := h1.bd.mono hK
  have hb2 := h2.bd
  have ht := top_of h2
  have htn := top_nz h2.bdn h0
  have htl := top_le q k'
  obtain ⟨l1, r1, rfl, n1⟩ := h1
  obtain ⟨l2, r2, rfl, n2⟩ := h2
  refine (rdiv_any (m := m) a n c l1 a' n' c' l2 w r1 r2 (by omega) (by omega) htn).mono ?_
  rintro e w1 ⟨a3, n3, c3, a4, n4, c4, A, L, rfl, hA, hL, hd, b⟩
  rw [ht] at hd htn
  have hbd := div_bd hb1 (top_deg hb2 h0) (by omega) hd
  exact ⟨a3, n3, c3, a4, n4, c4, A, L, rfl, routV hA hbd.1, routV hL hbd.2, hd, b⟩
end
end
end Go.Proofs.YtgfaaaeechgjmaaDoor.Pl
