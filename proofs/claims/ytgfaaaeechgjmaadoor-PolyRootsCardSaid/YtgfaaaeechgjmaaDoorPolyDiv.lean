/- The walk over package fieldpoly's DivMod. By the verifier of shale. -/
import Derived.Test.YtgfaaaeechgjmaaDoorPolyDer
import Derived.Deep.RegionLaw
namespace Go.Proofs.YtgfaaaeechgjmaaDoor.Pl
open Go Go.RowKit Fld Bits16
set_option linter.unusedVariables false
section
variable {m : Nat} [M : Mid m]
theorem inv_zz (a : El m) (h0 : a ≠ 0) : h (pwZ m (-(lg m (el m (zn a)) : Int))) = zn a⁻¹ := by
  have e1 : el m (zn a) = a.val := congrArg Subtype.val (elm_zn a)
  rw [e1]
  have hv : a.val ≠ 0 := fun e => h0 (El.ext e)
  obtain ⟨l1, l2⟩ := lg_spec m M.lo M.hi a.val a.2 hv
  let b : El m := ⟨pwZ m (-(lg m a.val : Int)), pwZ_lt m M.lo M.hi _⟩
  have : a * b = 1 := by
    apply El.ext
    show fmul m a.val (pwZ m (-(lg m a.val : Int))) = 1
    have ha : a.val = pwZ m ((lg m a.val : Nat) : Int) := by rw [pwZ_nat m M.lo M.hi]; exact l2.symm
    rw [show fmul m a.val (pwZ m (-(lg m a.val : Int))) = fmul m (pwZ m ((lg m a.val : Nat) : Int)) (pwZ m (-(lg m a.val : Int))) by rw [← ha]]
    rw [pwZ_mul m M.lo M.hi, show ((lg m a.val : Nat) : Int) + -(lg m a.val : Int) = ((0 : Nat) : Int) by omega, pwZ_nat m M.lo M.hi]; rfl
  rw [← inv_unique this]; rfl
theorem RingAt.upd {x : Nat} {w w' : World} {g s be ce bl : Nat} (h : RingAt m w g s be ce bl) (U : Upd x w w') (n0 : g ≠ x) (n1 : s ≠ x) (n2 : be ≠ x) (n3 : bl ≠ x) : RingAt m w' g s be ce bl :=
  ⟨(U.block g (lt_of_block h.1) n0).trans h.1, fld_upd h.2 U n1 n2 n3⟩
/-- where the division stands, the quotient's coefficients from i on being there. -/
structure Divs (P Q A L : Ser (El m)) (e N i : Nat) : Prop where
  sum : P = padd (cv A Q) L
  low : Bd L (i + e)
  bd : Bd A N
  free : ∀ j, j < i → A j = 0
theorem Divs.next {P Q A L : Ser (El m)} {e N i : Nat} (h : Divs P Q A L e N (i + 1)) (hQ : Dg Q e) (hi : i < N) :
    Divs P Q (padd A (mono i (L (i + e) * (Q e)⁻¹))) (padd L (cv (mono i (L (i + e) * (Q e)⁻¹)) Q)) e N i := by
  refine ⟨?_, ?_, h.bd.add ((mono_bd _ _).mono (by omega)), fun j hj => ?_⟩
  · rw [cv_add, padd_xx, padd_comm, h.sum]
    have : padd (cv (mono i (L (i + e) * (Q e)⁻¹)) Q) (cv (mono i (L (i + e) * (Q e)⁻¹)) Q) = pz := padd_self _
    rw [this, zero_padd]
  · have := div_step (k := i + e) hQ (h.low.mono (by omega)) (by omega)
    rwa [show i + e - e = i by omega] at this
  · show A j + mono i _ j = 0
    rw [h.free j (by omega), show mono i (L (i + e) * (Q e)⁻¹) j = 0 from if_neg (by omega), Fl.add_zero]
theorem Divs.dv {P Q A L : Ser (El m)} {e N : Nat} (h : Divs P Q A L e N 0) : Dv2 P Q A L e := ⟨h.sum, ⟨N, h.bd⟩, by have := h.low; rwa [Nat.zero_add] at this⟩
theorem quo_top {P Q A L : Ser (El m)} {e d N : Nat} (h : Dv2 P Q A L e) (hA : Bd A N) (hQ : Dg Q e) (hP : Dg P d) (hN : d + 1 = e + N) (h0N : 1 ≤ N) : top A N = N := by
  have a0 : A ≠ pz := by
    intro h0
    have h1 := h.sum
    rw [h0, cv_zero, zero_padd] at h1
    rw [h1] at hP
    have := hP.lt h.low
    omega
  obtain ⟨x, hx, hd⟩ := (dg_or hA).resolve_left a0
  have h1 := hd.mul hQ
  have h2 : Dg P (x + e) := by
    rw [h.sum]
    refine ⟨?_, h1.2.add (h.low.mono (by omega))⟩
    show cv A Q (x + e) + L (x + e) ≠ 0
    rw [h.low (x + e) (by omega), Fl.add_zero]; exact h1.1
  have := h2.eq hP
  obtain rfl : N = x + 1 := by omega
  exact top_dg hd
set_option maxRecDepth 100000 in
set_option maxHeartbeats 2000000 in
theorem pdiv_zero {g s be ce bl : Nat} (a1 : Option Addr) (n1 c1 : Nat) (l1 : List Int) (a2 : Option Addr) (n2 c2 : Nat) (l2 : List Int) (w : World) (R : RingAt m w g s be ce bl) (h1 : RowZ w a1 n1 c1 l1) (h2 : RowZ w a2 n2 c2 l2) (k1 : n1 ≤ 100000) (k2 : n2 ≤ 100000) (hz : top (sr m l2) n2 = 0) (p : Addr) (E : ErrAt w 0 p) :
    Calls Tryd.prog 28 #[.pointer (some ⟨g, 0, none⟩), .slice a1 n1 c1, .slice a2 n2 c2] w
      fun e w' => e = .returned (.tuple #[.slice none 0 0, .slice none 0 0, errOf p]) ∧ Below w.heap.size w w' := by
  have HR := Lib.hid R
  have HP1 := Lib.hid h1
  have HP2 := Lib.hid h2
  have HZ := Lib.hid hz
  have HE := Lib.hid E
  clear R h1 h2 hz E
  go_enter Tryd.func28, Tryd.ntmps28
  go_wp2_with fail
  refine (trim_any a1 n1 c1 l1 w HR.out HP1.out (by omega)).mono ?_
  rintro e w1 ⟨rfl, hk1, b1⟩
  generalize top (sr m l1) n1 = N1 at hk1 ⊢
  go_wp2_with fail
  refine (trim_any a2 n2 c2 l2 w1 (HR.out.below b1) (HP2.out.below b1) (by omega)).mono ?_
  rintro e w2 ⟨rfl, hk2, b2⟩
  rw [HZ.out]
  have B2 := b1.trans (b2.mono b1.size)
  have e1 := (HE.out.below B2).1
  unfold Sent at e1
  clear hk1 hk2 b1 b2
  go_wp2_with fail
  go_quiet (fail)
  have hd2 := B2.trans ((Drawn.mk w2 nq).below w.heap.size)
  generalize w2.drewN nq = w5 at hd2 ⊢
  clear e1
  go_wp2_with fail
  go_ret3
  exact ⟨rfl, hd2⟩
set_option maxRecDepth 100000 in
set_option maxHeartbeats 2000000 in
theorem pdiv_any {g s be ce bl : Nat} (a1 : Option Addr) (n1 c1 : Nat) (l1 : List Int) (a2 : Option Addr) (n2 c2 : Nat) (l2 : List Int) (w : World) (R : RingAt m w g s be ce bl) (h1 : RowZ w a1 n1 c1 l1) (h2 : RowZ w a2 n2 c2 l2) (k1 : n1 ≤ 100000) (k2 : n2 ≤ 100000) (hz : top (sr m l2) n2 ≠ 0) :
    Calls Tryd.prog 28 #[.pointer (some ⟨g, 0, none⟩), .slice a1 n1 c1, .slice a2 n2 c2] w
      fun e w' => ∃ a' n' cap' b' k' cap2 A L, e = .returned (.tuple #[.slice a' n' cap', .slice b' k' cap2, .nilIface]) ∧ Out m w w' a' n' cap' A ∧ Out m w w' b' k' cap2 L ∧ Dv2 (sr m l1) (sr m l2) A L (top (sr m l2) n2 - 1) ∧ Below w.heap.size w w' := by
  have HR := Lib.hid R
  have HP1 := Lib.hid h1
  have HP2 := Lib.hid h2
  have hb1 : Bd (sr m l1) n1 := by have := sr_bd (m := m) l1; rwa [← h1.hlen] at this
  have hb2 : Bd (sr m l2) n2 := by have := sr_bd (m := m) l2; rwa [← h2.hlen] at this
  have ht1 := top_le (sr m l1) n1
  have ht2 := top_le (sr m l2) n2
  have HB1 : Hid (Bd (sr m l1) (top (sr m l1) n1)) := top_bd hb1
  have HB2 : Hid (Bd (sr m l2) (top (sr m l2) n2)) := top_bd hb2
  have HT1 : Hid (∀ N, N + 1 = top (sr m l1) n1 → Dg (sr m l1) N) := fun N h => dg_top hb1 h
  obtain ⟨N2, hN2⟩ : ∃ N, N + 1 = top (sr m l2) n2 := ⟨top (sr m l2) n2 - 1, by omega⟩
  have HD2 : Hid (Dg (sr m l2) N2) := dg_top hb2 hN2
  obtain ⟨N1, hN1⟩ : ∃ N, N = top (sr m l1) n1 := ⟨_, rfl⟩
  rw [← hN1] at HB1 HT1 ht1
  rw [← hN2] at HB2 ht2 ⊢
  rw [Nat.add_sub_cancel]
  have HN1 := Lib.hid hN1
  have HN2 := Lib.hid hN2
  clear R h1 h2 hb1 hb2 hN1 hN2 hz
  go_enter Tryd.func28, Tryd.ntmps28
  go_wp2_with fail
  refine (trim_any a1 n1 c1 l1 w HR.out HP1.out (by omega)).mono ?_
  rintro e w1 ⟨rfl, hk1, b1⟩
  rw [← HN1.out] at hk1 ⊢
  go_wp2_with fail
  refine (trim_any a2 n2 c2 l2 w1 (HR.out.below b1) (HP2.out.below b1) (by omega)).mono ?_
  rintro e w2 ⟨rfl, hk2, b2⟩
  rw [← HN2.out] at hk2 ⊢
  have hg2 : w.heap.size < w1.heap.size := hk1.lt
  replace hk1 : Blk64 w2 w.heap.size (nums (sr m l1) N1) := (b2.block _ hk1.lt).trans hk1
  have B2 := b1.trans (b2.mono b1.size)
  have R2 := (HR.out.below b1).below b2
  obtain ⟨q1, q2, q3⟩ := HR.out.2.lt M.lo
  have q4 : g < w.heap.size := World.block_lt_of_cell? _ _ HR.out.cell
  have hw2 := hk2.lt
  clear b1 b2 HP1 HP2
  have tz : (((N2 + 1 : Nat) : Int) == 0) = false := by rw [beq_eq_false_iff_ne]; omega
  have tz' : ((N2 : Int) + 1 == 0) = false := by rw [beq_eq_false_iff_ne]; omega
  have c0 := R2.cell
  have cT := hk2.cell (i := N2) (by rw [nums_length]; omega)
  have eT : nth64 (nums (sr m l2) (N2 + 1)) N2 = zn (sr m l2 N2) := nums_at _ _ _ (by omega)
  rw [eT] at cT
  have HI : Hid (∀ nn, Calls Tryd.prog 43 #[.pointer (some ⟨s, 0, none⟩), .int .i64 (zn (sr m l2 N2))] (w2.drewN nn) fun e w' => e = .returned (.tuple #[.int .i64 (zn (sr m l2 N2)⁻¹), .nilIface]) ∧ Drawn (w2.drewN nn) w') := fun nn => by
    have hne : el m (zn (sr m l2 N2)) ≠ 0 := fun e => HD2.out.1 (by
      have := congrArg Subtype.val (elm_zn (sr m l2 N2))
      exact El.ext (this.symm.trans e))
    have := inv_any M.lo M.hi (zn (sr m l2 N2)) (w2.drewN nn) (R2.2.drawn M.lo (Drawn.mk w2 nn)) hne
    rw [inv_zz _ HD2.out.1] at this
    exact this
  have i1 : IntKind.i64.wrap (((N2 + 1 : Nat) : Int) - 1) = (N2 : Int) := by rw [show ((N2 + 1 : Nat) : Int) - 1 = (N2 : Int) by omega]; exact IntWalk.i64_in _ (by omega)
  have i2 : IntKind.i64.wrap ((N2 : Int) + 1 - 1) = (N2 : Int) := by rw [show (N2 : Int) + 1 - 1 = (N2 : Int) by omega]; exact IntWalk.i64_in _ (by omega)
  have i3 : (N2 : Int) < (N2 : Int) + 1 := by omega
  have i4 : IntKind.i64.wrap (N2 : Int) = (N2 : Int) := IntWalk.i64_in _ (by omega)
  have HK1 := Lib.hid hk1
  have HK2 := Lib.hid hk2
  have HR2 := Lib.hid R2
  have HBB := Lib.hid B2
  have hbs := B2.size
  clear hk1 hk2 R2 B2 eT
  go_wp2_with fail
  go_quiet ((go_at_call 43; exact quiet_drawn (HI.out _)))
  have hd2 : Drawn w2 (w2.drewN nq) := Drawn.mk _ _
  have HW5 : Hid (Blk64 (w2.drewN nq) w.heap.size (nums (sr m l1) N1) ∧ Blk64 (w2.drewN nq) w1.heap.size (nums (sr m l2) (N2 + 1)) ∧ RingAt m (w2.drewN nq) g s be ce bl ∧ Below w.heap.size w (w2.drewN nq)) :=
    ⟨HK1.out, HK2.out, HR2.out.drawn hd2, HBB.out.trans (hd2.below _)⟩
  have hs5 : (w2.drewN nq).heap.size = w2.heap.size := rfl
  have hw5 : w1.heap.size < (w2.drewN nq).heap.size := by rw [hs5]; exact hw2
  clear c0 cT HI i1 i2 i3 i4 HK1 HK2 HR2 HBB hd2 hs5 hw2 hbs
  generalize w2.drewN nq = w5 at HW5 hw5 ⊢
  obtain ⟨hk1, hk2, R5, B5⟩ := HW5.out
  clear HW5 tz tz'
  have HTN : Hid (N1 = top (sr m l1) N1) := by
    show _ = _
    cases hN : N1 with
    | zero => rfl
    | succ k => rw [hN] at HT1; exact (top_dg (HT1.out k rfl)).symm
  by_cases hlt : N1 < N2 + 1
  · have t1 : decide ((N1 : Int) < (N2 : Int) + 1) = true := decide_eq_true (by omega)
    have HO : Hid (Out m w w5 (some ⟨w.heap.size, 0, none⟩) N1 N1 (sr m l1)) := Or.inr ⟨_, N1, rfl, Nat.le_refl _, by omega, rfl, hk1, HTN.out, HB1.out⟩
    have HDV : Hid (Dv2 (sr m l1) (sr m l2) pz (sr m l1) N2) := ⟨by rw [cv_zero, zero_padd], ⟨0, bd_pz 0⟩, HB1.out.mono (by omega)⟩
    clear hk1 hk2 R5 hlt
    go_wp2_with fail
    go_ret3
    exact ⟨none, 0, 0, _, _, _, pz, _, rfl, out_nil (m := m) w w5, HO.out, HDV.out, B5⟩
  · have t1 : decide ((N1 : Int) < (N2 : Int) + 1) = false := decide_eq_false (by omega)
    obtain ⟨Nq, hNq⟩ : ∃ Nq, N1 = N2 + Nq := ⟨N1 - N2, by omega⟩
    have hq1 : 1 ≤ Nq := by omega
    have eN : (N1 : Int) - ((N2 : Int) + 1) + 1 = (Nq : Int) := by omega
    have hmk := made64 w5 Nq (by omega)
    rw [nums_pz (m := m)] at hmk
    have bl : Below w5.heap.size w5 (w5.alloc (obj64 (nums (pz : Ser (El m)) Nq))) := (Below.refl _ _).alloc (Nat.le_refl _) _
    have HKq : Hid (Blk64 (w5.alloc (obj64 (nums (pz : Ser (El m)) Nq))) w5.heap.size (nums (pz : Ser (El m)) Nq)) := Blk64.new w5 _
    have HK1 : Hid (Blk64 (w5.alloc (obj64 (nums (pz : Ser (El m)) Nq))) w.heap.size (nums (sr m l1) N1)) := (bl.block _ hk1.lt).trans hk1
    have HK2 : Hid (Blk64 (w5.alloc (obj64 (nums (pz : Ser (El m)) Nq))) w1.heap.size (nums (sr m l2) (N2 + 1))) := (bl.block _ hk2.lt).trans hk2
    have HR5 := Lib.hid (R5.below bl)
    have HBB := Lib.hid (B5.trans (bl.mono B5.size))
    have HNq := Lib.hid hNq
    clear hk1 hk2 R5 B5 bl hlt hNq
    go_wp2_with fail
    clear hmk t1
    generalize w5.alloc (obj64 (nums (pz : Ser (El m)) Nq)) = w6 at HKq HK1 HK2 HR5 HBB ⊢
    generalize w5.heap.size = g3 at HKq hw5 ⊢
    generalize w1.heap.size = g2 at HK2 hw5 hg2 ⊢
    obtain ⟨T, hT⟩ : ∃ T, T = (sr m l2 N2)⁻¹ := ⟨_, rfl⟩
    rw [← hT]
    have HT := Lib.hid hT
    clear hT eN
    go_loopg [12] Nq (fun gh s12 wx => ∃ (j : Nat) (A L : Ser (El m)), gh = j ∧ j ≤ Nq ∧ s12 = .int .i64 ((j : Int) - 1) ∧ Blk64 wx w.heap.size (nums L N1) ∧ Blk64 wx g3 (nums A Nq) ∧ Blk64 wx g2 (nums (sr m l2) (N2 + 1)) ∧ RingAt m wx g s be ce bl ∧ Hid (Divs (sr m l1) (sr m l2) A L N2 Nq j ∧ Bd L N1) ∧ Below w.heap.size w wx)
    case atStart => exact ⟨Nq, pz, sr m l1, rfl, Nat.le_refl _, rfl, HK1.out, HKq.out, HK2.out, HR5.out, ⟨⟨by rw [cv_zero, zero_padd], by have := HB1.out; rw [HNq.out, Nat.add_comm] at this; exact this, bd_pz _, fun _ _ => rfl⟩, HB1.out⟩, HBB.out⟩
    case round =>
      clear HK1 HKq HK2 HR5 HBB
      obtain ⟨j, A, L, hg, hj, rfl, hk1, hkq, hk2, Rw, HD, hB⟩ := hrel
      have HG := Lib.hid hg
      clear hg
      rcases j with _ | i
      · have HDV := Lib.hid HD.out.1.dv
        have HOA : Hid (Out m w wr (some ⟨g3, 0, none⟩) Nq Nq A) := by
          have h := quo_top HD.out.1.dv HD.out.1.bd HD2.out (HT1.out (N1 - 1) (by have := HNq.out; omega)) (by have := HNq.out; omega) hq1
          exact Or.inr ⟨g3, Nq, rfl, by have := HNq.out; omega, by have := HNq.out; omega, rfl, hkq, h.symm, HD.out.1.bd⟩
        have HOL : Hid (Out m w wr (some ⟨w.heap.size, 0, none⟩) (top L N1) N1 L) := Or.inr ⟨_, N1, rfl, Nat.le_refl _, by omega, rfl, hk1, rfl, HD.out.2⟩
        have hrow := Blk64.row hk1 N1 (by rw [nums_length]; exact Nat.le_refl _) (by rw [nums_length]; omega)
        rw [nums_length, nums_take _ (Nat.le_refl _)] at hrow
        have HRow := Lib.hid hrow
        clear hk1 hkq hk2 Rw hrow HD
        go_wp2_with fail
        refine (cut_any _ N1 N1 _ wr HRow.out).mono ?_
        rintro e w7 ⟨rfl, rfl⟩
        go_wp2_with fail
        go_ret3
        exact ⟨_, _, _, _, _, _, A, L, rfl, HOA.out, HOL.out, HDV.out, hB⟩
      · have HDD := Lib.hid HD.out
        rw [show ((i + 1 : Nat) : Int) - 1 = (i : Int) by omega]
        have x0 : (0 : Int) ≤ (i : Int) := by omega
        have x1 : (i : Int) < (Nq : Int) := by omega
        have hiq : i < Nq := by omega
        have hiN : i + N2 < N1 := by have := HNq.out; omega
        obtain ⟨K, hK⟩ : ∃ K, K = i + N2 := ⟨_, rfl⟩
        have HKe := Lib.hid hK
        have hKN : K < N1 := by omega
        have y0 : (0 : Int) ≤ (K : Int) := by omega
        have y1 : (K : Int) < (N1 : Int) := by omega
        have y2 : IntKind.i64.wrap (IntKind.i64.wrap ((i : Int) + ((N2 : Int) + 1)) - 1) = (K : Int) := by rw [IntWalk.i64_in ((i : Int) + ((N2 : Int) + 1)) (by omega), show (i : Int) + ((N2 : Int) + 1) - 1 = (K : Int) by omega]; exact IntWalk.i64_in _ (by omega)
        have x2 : (i : Int) ≤ (N1 : Int) := by omega
        have x3 : ¬ N1 = i := by omega
        obtain ⟨c, hc⟩ : ∃ c, c = L K * T := ⟨_, rfl⟩
        have HC := Lib.hid hc
        have cL := hk1.cell (i := K) (by rw [nums_length]; exact hKN)
        have eL : nth64 (nums L N1) K = zn (L K) := nums_at _ _ _ hKN
        rw [eL] at cL
        have cR := Rw.cell
        have c4 := hkq.free i
        have c5 := hkq.cell (i := i) (by rw [nums_length]; exact hiq)
        generalize nth64 (nums A Nq) i = zo at c5
        have HMZ : Hid (h (fmul m (el m (zn (L K))) (el m (zn T))) = zn c) := by
          show _ = _
          rw [mul_zn, elm_zn, elm_zn, hc]
        have HRw := Lib.hid Rw
        have HM : Hid (∀ wx, (wx.cell? ⟨g, 0, none⟩ = some (.pointer (some ⟨s, 0, none⟩)) ∧ wx.cell? ⟨w.heap.size, K, none⟩ = some (.int .i64 (zn (L K))) ∧ wx.cell? ⟨g3, i, none⟩ = some (.int .i64 zo) ∧ wx.frozen? ⟨g3, i, none⟩ = false ∧ Drawn wr wx) → Calls Tryd.prog 38 #[.pointer (some ⟨s, 0, none⟩), .int .i64 (zn (L K)), .int .i64 (zn T)] wx
            fun e w' => e = .returned (.int .i64 (zn c)) ∧ (w'.cell? ⟨g, 0, none⟩ = some (.pointer (some ⟨s, 0, none⟩)) ∧ w'.cell? ⟨w.heap.size, K, none⟩ = some (.int .i64 (zn (L K))) ∧ w'.cell? ⟨g3, i, none⟩ = some (.int .i64 zo) ∧ w'.frozen? ⟨g3, i, none⟩ = false ∧ Drawn wr w')) := by
          rintro wx ⟨q0, q1, q8, q2, d⟩
          refine (mul_any M.lo M.hi (zn (L K)) (zn T) wx (HRw.out.2.drawn M.lo d)).mono ?_
          rintro e w' ⟨rfl, n, rfl⟩
          exact ⟨by rw [HMZ.out], q0, q1, q8, q2, d.trans (Drawn.mk _ n)⟩
        have HQ := Lib.hid (And.intro hk1 (And.intro hkq hk2))
        have HBw := Lib.hid hB
        clear hk1 hkq hk2 Rw hB HD hK eL hc
        go_wp2_with fail
        go_region_law (first | (go_simp; go_at_call 38; refine Calls.mono (HM.out _ ⟨cR, cL, c5, c4, Drawn.mk wr 1⟩) ?_; rintro e w' ⟨rfl, q0, q5, q8, q6, q7⟩))
        all_goals
          rename_i w' q0 q5 q8 q6 q7
          obtain ⟨hk1, hkq, hk2⟩ := HQ.out
          have hD7 := q7
          obtain ⟨nd, hnd⟩ := q7
          have hk1 : Blk64 w' w.heap.size (nums L N1) := by rw [hnd]; exact hk1
          have hkq : Blk64 w' g3 (nums A Nq) := by rw [hnd]; exact hkq
          have hk2 : Blk64 w' g2 (nums (sr m l2) (N2 + 1)) := by rw [hnd]; exact hk2
          have Rw := HRw.out.drawn hD7
          have hB := HBw.out.trans (hD7.below _)
          obtain ⟨A1, hA1⟩ : ∃ A1, A1 = padd A (mono i c) := ⟨_, rfl⟩
          have hA1i : A1 i = c := by
            rw [hA1]; show A i + mono i c i = c
            rw [HDD.out.1.free i (by omega), show mono i c i = c from if_pos rfl, zero_add]
          have hs := hkq.set i (zn c)
          have es : (nums A Nq).set i (zn c) = nums A1 Nq := by
            have := nums_set A A1 Nq i (fun j hj => by
              rw [hA1]; show A j + mono i c j = A j
              rw [show mono i c j = 0 from if_neg hj, Fl.add_zero])
            rwa [hA1i] at this
          rw [es] at hs
          have U8 : Upd g3 w' (w'.setCell ⟨g3, i, none⟩ (.int .i64 (zn c))) := (Upd.refl g3 w').only (Only.setCell _ ⟨g3, i, none⟩ _)
          have k8 := (U8.block w.heap.size hk1.lt (by omega)).trans hk1
          have k9 := (U8.block g2 hk2.lt (by omega)).trans hk2
          have R8 := Rw.upd U8 (by omega) (by omega) (by omega) (by omega)
          have B8 := hB.trans (U8.toBelow (by omega) hB.size)
          have HS := Lib.hid hs
          have HK8 : Hid (Blk64 _ _ _) := k8
          have HK9 : Hid (Blk64 _ _ _) := k9
          have HR8 := Lib.hid R8
          have HB8 := Lib.hid B8
          have HA1 := Lib.hid hA1
          clear q0 q5 q8 q6 hD7 hnd hk1 hkq hk2 Rw hB hA1 hA1i hs es U8 k8 k9 R8 B8 cR cL c4 c5 y2
          generalize w'.setCell ⟨g3, i, none⟩ (.int .i64 (zn c)) = w8 at HS HK8 HK9 HR8 HB8 ⊢
          go_wp2_with fail
          have d9 : Drawn w8 w8.drew := Drawn.mk w8 1
          have hs : Blk64 w8.drew g3 (nums A1 Nq) := HS.out
          have k8 : Blk64 w8.drew w.heap.size (nums L N1) := HK8.out
          have k9 : Blk64 w8.drew g2 (nums (sr m l2) (N2 + 1)) := HK9.out
          have R9 := HR8.out.drawn d9
          have B9 := HB8.out.trans (d9.below _)
          have cg := R9.cell
          have c3 := hs.cell (i := i) (by rw [nums_length]; exact hiq)
          have e3 : nth64 (nums A1 Nq) i = zn c := by
            have e := nums_at A1 Nq i hiq
            rw [HA1.out] at e ⊢
            refine e.trans ?_
            show zn (A i + mono i c i) = zn c
            rw [HDD.out.1.free i (by omega), show mono i c i = c from if_pos rfl, zero_add]
          rw [e3] at c3
          clear e3 d9 HS HK8 HK9 HR8 HB8
          refine wp_region_still_tail 13 (by kernel_rfl) (by kernel_rfl) ?_
          simp only [List.take_succ_cons, List.take_zero, List.drop_succ_cons, List.drop_zero]
          change wpStill _ _ w8.drew (fun a' => wpList _ _ _ _ a' w8.drew) _ _
          generalize w8.drew = w9 at hs k8 k9 R9 B9 cg c3 ⊢
          have HS := Lib.hid hs
          have HK8 := Lib.hid k8
          have HK9 := Lib.hid k9
          have HR9 := Lib.hid R9
          have HB9 := Lib.hid B9
          clear hs k8 k9 R9 B9
          repeat still_step
          refine wpStill_nil ?_
          go_wp2_with fail
          have row9 : RowZ w9 (some ⟨g2, 0, none⟩) (N2 + 1) (N2 + 1) (nums (sr m l2) (N2 + 1)) := by
            have h := Blk64.row HK9.out (N2 + 1) (by rw [nums_length]; exact Nat.le_refl _) (by rw [nums_length]; omega)
            rw [nums_length, nums_take _ (Nat.le_refl _)] at h
            exact h
          refine (times_any w.heap.size i (N1 - i) (N1 - i) N1 L (some ⟨g2, 0, none⟩) (N2 + 1) (N2 + 1) (nums (sr m l2) (N2 + 1)) (zn c) w9 HR9.out.2 HK8.out (by omega) row9 (by omega) (by omega) (by omega) (by omega) (by omega) (fun bb o e _ => by simp only [Option.some.injEq, Addr.mk.injEq] at e; omega)).mono ?_
          rintro e w5 ⟨rfl, hk, hU⟩
          rw [elm_zn, sr_nums HB2.out] at hk
          have hnx := HDD.out.1.next HD2.out hiq
          rw [← HT.out, ← HKe.out, ← HC.out, ← HA1.out] at hnx
          have hs := (hU.block g3 HS.out.lt (by omega)).trans HS.out
          have k9 := (hU.block g2 HK9.out.lt (by omega)).trans HK9.out
          have R9 := HR9.out.upd hU (by omega) (by omega) (by omega) (by omega)
          have B9 := HB9.out.trans (hU.toBelow (Nat.le_refl _) HB9.out.size)
          have HND : Hid (Divs (sr m l1) (sr m l2) A1 (padd L (cv (mono i c) (sr m l2))) N2 Nq i ∧ Bd (padd L (cv (mono i c) (sr m l2))) N1) := ⟨hnx, hnx.low.mono (by omega)⟩
          have HSs : Hid (Blk64 w5 g3 (nums A1 Nq)) := hs
          have HK9s : Hid (Blk64 w5 g2 (nums (sr m l2) (N2 + 1))) := k9
          have HR9s := Lib.hid R9
          have HB9s := Lib.hid B9
          have HKs := Lib.hid hk
          clear hnx hs k9 R9 B9 hk hU row9 cg c3
          go_wp2_with fail
          go_roundg i
          case measure => have := HG.out; omega
          case rel => exact ⟨i, A1, _, rfl, by omega, by go_num, HKs.out, HSs.out, HK9s.out, HR9s.out, HND.out, HB9s.out⟩
end
end Go.Proofs.YtgfaaaeechgjmaaDoor.Pl
