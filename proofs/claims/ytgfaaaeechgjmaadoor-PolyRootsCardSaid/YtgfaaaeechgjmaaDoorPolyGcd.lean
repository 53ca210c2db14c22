/- The walks over package fieldpoly's Mul where it is too long, and Gcd. By the verifier of shale. -/
import Derived.Test.YtgfaaaeechgjmaaDoorPolyDiv
namespace Go.Proofs.YtgfaaaeechgjmaaDoor.Pl
open Go Go.RowKit Fld Bits16
set_option linter.unusedVariables false
section
variable {m : Nat} [M : Mid m]
theorem out_dg {w0 w : World} {a : Option Addr} {n cap : Nat} {p : Ser (El m)} (h : Out m w0 w a (n + 1) cap p) : Dg p n := by
  rcases h with ⟨_, h0, _⟩ | ⟨g, N, _, _, _, _, _, hn, hb⟩
  · omega
  · exact dg_top hb hn
theorem out_top {w0 w : World} {a : Option Addr} {n cap : Nat} {p : Ser (El m)} (h : Out m w0 w a n cap p) : top p n = n := by
  cases n with
  | zero => rfl
  | succ k => exact top_dg (out_dg h)
theorem out_zero {w0 w : World} {a : Option Addr} {cap : Nat} {p : Ser (El m)} (h : Out m w0 w a 0 cap p) : p = pz := h.bd.zero
theorem out_le {w0 w : World} {a : Option Addr} {n cap k : Nat} {p : Ser (El m)} (h : Out m w0 w a n cap p) (hb : Bd p k) : n ≤ k := by
  cases n with
  | zero => exact Nat.zero_le _
  | succ j => exact (out_dg h).lt hb
theorem top_top (p : Ser (El m)) (n : Nat) (hb : Bd p n) : top p (top p n) = top p n := by
  cases hN : top p n with
  | zero => rfl
  | succ k => exact top_dg (dg_top hb hN.symm)
theorem out_trim {w w' : World} {p : Ser (El m)} {n : Nat} (hb : Bd p n) (hn : n ≤ 100000) (hk : Blk64 w' w.heap.size (nums p (top p n))) : Out m w w' (some ⟨w.heap.size, 0, none⟩) (top p n) (top p n) p :=
  Or.inr ⟨_, top p n, rfl, Nat.le_refl _, by have := top_le p n; omega, rfl, hk, (top_top p n hb).symm, top_bd hb⟩
set_option maxRecDepth 100000 in
set_option maxHeartbeats 2000000 in
theorem pmul_long {g s be ce bl : Nat} (a1 : Option Addr) (n1 c1 : Nat) (l1 : List Int) (a2 : Option Addr) (n2 c2 : Nat) (l2 : List Int) (w : World) (R : RingAt m w g s be ce bl) (h1 : RowZ w a1 n1 c1 l1) (h2 : RowZ w a2 n2 c2 l2) (k1 : n1 ≤ 100000) (k2 : n2 ≤ 100000) (hlong : 2048 < top (sr m l1) n1 + top (sr m l2) n2) (p : Addr) (E : ErrAt w 1 p) :
    Calls Tryd.prog 11 #[.pointer (some ⟨g, 0, none⟩), .slice a1 n1 c1, .slice a2 n2 c2] w
      fun e w' => e = .returned (.tuple #[.slice none 0 0, errOf p]) ∧ Below w.heap.size w w' := by
  have HR := Lib.hid R
  have HP1 := Lib.hid h1
  have HP2 := Lib.hid h2
  have HE := Lib.hid E
  have ht1 := top_le (sr m l1) n1
  have ht2 := top_le (sr m l2) n2
  obtain ⟨N1, hN1⟩ : ∃ N, N = top (sr m l1) n1 := ⟨_, rfl⟩
  obtain ⟨N2, hN2⟩ : ∃ N, N = top (sr m l2) n2 := ⟨_, rfl⟩
  rw [← hN1] at hlong ht1
  rw [← hN2] at hlong ht2
  have HN1 := Lib.hid hN1
  have HN2 := Lib.hid hN2
  have t1 : decide ((2048 : Int) < (N1 : Int) + (N2 : Int)) = true := decide_eq_true (by omega)
  clear R h1 h2 E hN1 hN2
  go_enter Tryd.func11, Tryd.ntmps11
  go_wp2_with fail
  refine (trim_any a1 n1 c1 l1 w HR.out HP1.out (by omega)).mono ?_
  rintro e w1 ⟨rfl, hk1, b1⟩
  rw [← HN1.out] at hk1 ⊢
  go_wp2_with fail
  refine (trim_any a2 n2 c2 l2 w1 (HR.out.below b1) (HP2.out.below b1) (by omega)).mono ?_
  rintro e w2 ⟨rfl, hk2, b2⟩
  rw [← HN2.out] at hk2 ⊢
  have B2 := b1.trans (b2.mono b1.size)
  have e1 := (HE.out.below B2).1
  unfold Sent at e1
  clear hk1 hk2 b1 b2
  go_wp2_with fail
  go_quiet (fail)
  have hd2 := B2.trans ((Drawn.mk w2 nq).below w.heap.size)
  generalize w2.drewN nq = w5 at hd2 ⊢
  clear e1
  go_wp2_with fail
  go_ret2
  exact ⟨rfl, hd2⟩
set_option maxRecDepth 100000 in
set_option maxHeartbeats 2000000 in
theorem pgcd_any {g s be ce bl : Nat} (a1 : Option Addr) (n1 c1 : Nat) (l1 : List Int) (a2 : Option Addr) (n2 c2 : Nat) (l2 : List Int) (w : World) (R : RingAt m w g s be ce bl) (h1 : RowZ w a1 n1 c1 l1) (h2 : RowZ w a2 n2 c2 l2) (k1 : n1 ≤ 100000) (k2 : n2 ≤ 100000) :
    Calls Tryd.prog 24 #[.pointer (some ⟨g, 0, none⟩), .slice a1 n1 c1, .slice a2 n2 c2] w
      fun e w' => ∃ a' n' cap' G, e = .returned (.slice a' n' cap') ∧ Out m w w' a' n' cap' G ∧ PG (sr m l1) (sr m l2) G ∧ (G = pz ∨ ∃ d, Dg G d ∧ G d = 1) ∧ Below w.heap.size w w' := by
  have HR := Lib.hid R
  have HP1 := Lib.hid h1
  have HP2 := Lib.hid h2
  have hb1 : Bd (sr m l1) n1 := by have := sr_bd (m := m) l1; rwa [← h1.hlen] at this
  have hb2 : Bd (sr m l2) n2 := by have := sr_bd (m := m) l2; rwa [← h2.hlen] at this
  have HB1 := Lib.hid hb1
  have HB2 := Lib.hid hb2
  have ht1 := top_le (sr m l1) n1
  have ht2 := top_le (sr m l2) n2
  clear R h1 h2 hb1 hb2
  go_enter Tryd.func24, Tryd.ntmps24
  go_wp2_with fail
  refine (trim_any a1 n1 c1 l1 w HR.out HP1.out (by omega)).mono ?_
  rintro e w1 ⟨rfl, hk1, b1⟩
  have O1 := out_trim HB1.out k1 hk1
  generalize top (sr m l1) n1 = N1 at O1 ht1 ⊢
  generalize (some ⟨w.heap.size, 0, none⟩ : Option Addr) = ap at O1 ⊢
  clear hk1
  go_wp2_with fail
  refine (trim_any a2 n2 c2 l2 w1 (HR.out.below b1) (HP2.out.below b1) (by omega)).mono ?_
  rintro e w2 ⟨rfl, hk2, b2⟩
  have O2 := (out_trim HB2.out k2 hk2).from b1.size
  generalize top (sr m l2) n2 = N2 at O2 ht2 ⊢
  generalize (some ⟨w1.heap.size, 0, none⟩ : Option Addr) = aq at O2 ⊢
  replace O1 := O1.since b2
  have B2 := b1.trans (b2.mono b1.size)
  clear b1 b2 hk2
  go_wp2_with fail
  go_loopg [1, 2] N2 (fun gh s1 s2 wx => ∃ (aa ab : Option Addr) (na nb ca cb : Nat) (A B : Ser (El m)), gh = nb ∧ s1 = .slice aa na ca ∧ s2 = .slice ab nb cb ∧ Out m w wx aa na ca A ∧ Out m w wx ab nb cb B ∧ na ≤ 100000 ∧ nb ≤ 100000 ∧ Below w.heap.size w wx ∧ Hid (∀ G, PG A B G → PG (sr m l1) (sr m l2) G))
  case atStart => exact ⟨ap, aq, N1, N2, N1, N2, _, _, rfl, rfl, rfl, O1, O2, by omega, by omega, B2, fun G h => h⟩
  case round =>
    clear O1 O2 B2 ht1 ht2
    obtain ⟨aa, ab, na, nb, ca, cb, A, B, hg, rfl, rfl, hA, hB, b1, b2, hW, HI⟩ := hrel
    have HG := Lib.hid hg
    clear hg
    rcases nb with _ | k
    · have hPG : PG (sr m l1) (sr m l2) A := HI.out A (by rw [out_zero hB]; exact PG.right_zero A)
      rcases na with _ | N
      · have HO : Hid (Out m w wr none 0 0 A) := Or.inl ⟨rfl, rfl, rfl, out_zero hA⟩
        have HZ : Hid (A = pz) := out_zero hA
        have HPG := Lib.hid hPG
        clear hA hB hPG
        go_wp2_with fail
        go_ret
        exact ⟨none, 0, 0, A, rfl, HO.out, HPG.out, Or.inl HZ.out, hW⟩
      · have HDG := Lib.hid (out_dg hA)
        have HBd := Lib.hid hA.bd
        have HRow := Lib.hid hA.row
        have HPG := Lib.hid hPG
        have HW := Lib.hid hW
        obtain ⟨ga, NN, rfl, hga, hNN, rfl, hk, hn, hbb⟩ : ∃ ga NN, aa = some ⟨ga, 0, none⟩ ∧ w.heap.size ≤ ga ∧ NN ≤ 1000000 ∧ ca = NN ∧ Blk64 wr ga (nums A NN) ∧ N + 1 = top A NN ∧ Bd A NN := by
          rcases hA with ⟨_, h0, _⟩ | h
          · omega
          · exact h
        have hNn : N < ca := by have := top_le A ca; omega
        have cT := hk.cell (i := N) (by rw [nums_length]; exact hNn)
        have eT : nth64 (nums A ca) N = zn (A N) := nums_at _ _ _ hNn
        rw [eT] at cT
        have R2 := HR.out.below hW
        have c0 := R2.cell
        have HI2 : Hid (∀ nn, Calls Tryd.prog 43 #[.pointer (some ⟨s, 0, none⟩), .int .i64 (zn (A N))] (wr.drewN nn) fun e w' => e = .returned (.tuple #[.int .i64 (zn (A N)⁻¹), .nilIface]) ∧ Drawn (wr.drewN nn) w') := fun nn => by
          have hne : el m (zn (A N)) ≠ 0 := fun e => HDG.out.1 (by
            have := congrArg Subtype.val (elm_zn (A N))
            exact El.ext (this.symm.trans e))
          have := inv_any M.lo M.hi (zn (A N)) (wr.drewN nn) (R2.2.drawn M.lo (Drawn.mk wr nn)) hne
          rw [inv_zz _ HDG.out.1] at this
          exact this
        have i1 : IntKind.i64.wrap (((N + 1 : Nat) : Int) - 1) = (N : Int) := by rw [show ((N + 1 : Nat) : Int) - 1 = (N : Int) by omega]; exact IntWalk.i64_in _ (by omega)
        have i2 : IntKind.i64.wrap ((N : Int) + 1 - 1) = (N : Int) := by rw [show (N : Int) + 1 - 1 = (N : Int) by omega]; exact IntWalk.i64_in _ (by omega)
        have i3 : (N : Int) < (N : Int) + 1 := by omega
        have i4 : IntKind.i64.wrap (N : Int) = (N : Int) := IntWalk.i64_in _ (by omega)
        have tz : (((N + 1 : Nat) : Int) == 0) = false := by rw [beq_eq_false_iff_ne]; omega
        have tz' : ((N : Int) + 1 == 0) = false := by rw [beq_eq_false_iff_ne]; omega
        have HR2 := Lib.hid R2
        clear hA hB hPG hW hk hn hbb eT R2 hga hNN HI
        go_wp2_with fail
        go_quiet ((go_at_call 43; exact quiet_drawn (HI2.out _)))
        have hd2 : Drawn wr (wr.drewN nq) := Drawn.mk _ _
        have HF : Hid (RingAt m (wr.drewN nq) g s be ce bl ∧ RowZ (wr.drewN nq) (some ⟨ga, 0, none⟩) (N + 1) ca (nums A (N + 1)) ∧ Below w.heap.size w (wr.drewN nq)) :=
          ⟨HR2.out.drawn hd2, HRow.out.below (hd2.below _), HW.out.trans (hd2.below _)⟩
        clear c0 cT HI2 i1 i2 i3 i4 HR2 HRow HW hd2
        generalize wr.drewN nq = w5 at HF ⊢
        go_wp2_with fail
        refine (scale_any _ (N + 1) ca (nums A (N + 1)) (zn (A N)⁻¹) w5 HF.out.1 HF.out.2.1 (by omega)).mono ?_
        rintro e w6 ⟨a6, n6, c6, rfl, h6, b6⟩
        rw [elm_zn, sr_nums HBd.out] at h6
        have HO := Lib.hid (h6.from HF.out.2.2.size)
        have HB := Lib.hid (HF.out.2.2.trans (b6.mono HF.out.2.2.size))
        clear h6 b6
        go_wp2_with fail
        go_ret
        have h1 : psm (A N)⁻¹ A N = 1 := by
          show (A N)⁻¹ * A N = 1
          rw [Fl.mul_comm, Fl.mul_inv _ HDG.out.1]
        refine ⟨a6, n6, c6, _, rfl, HO.out, HPG.out.unit (inv_ne HDG.out.1), Or.inr ⟨N, ⟨by rw [h1]; exact Fl.one_ne, HDG.out.2.sm _⟩, h1⟩, HB.out⟩
    · have x1 : (0 : Int) < ((k + 1 : Nat) : Int) := by omega
      have x2 : (0 : Int) < (k : Int) + 1 := by omega
      have tn : top (sr m (nums B (k + 1))) (k + 1) = k + 1 := by rw [sr_nums hB.bd]; exact out_top hB
      have HTN := Lib.hid tn
      have R2 := HR.out.below hW
      have HRA := Lib.hid hA.row
      have HRB := Lib.hid hB.row
      have HSA : Hid (sr m (nums A na) = A ∧ sr m (nums B (k + 1)) = B) := ⟨sr_nums hA.bd, sr_nums hB.bd⟩
      have HR2 := Lib.hid R2
      have HB := Lib.hid hB
      have HW := Lib.hid hW
      clear hA hB hW tn R2
      go_wp2_with fail
      refine (pdiv_any aa na ca (nums A na) ab (k + 1) cb (nums B (k + 1)) wr HR2.out HRA.out HRB.out b1 b2 (by rw [HTN.out]; omega)).mono ?_
      rintro e w5 ⟨aq5, nq5, cq5, ar5, nr5, cr5, Q, L, rfl, hQ, hL, hd, b5⟩
      rw [HTN.out, HSA.out.1, HSA.out.2, Nat.add_sub_cancel] at hd
      have HLE : Hid (nr5 ≤ k) := out_le hL hd.low
      have HF : Hid (Out m w w5 ab (k + 1) cb B ∧ Out m w w5 ar5 nr5 cr5 L ∧ Below w.heap.size w w5) := ⟨HB.out.since b5, hL.from HW.out.size, HW.out.trans (b5.mono HW.out.size)⟩
      have HI2 : Hid (∀ G, PG B L G → PG (sr m l1) (sr m l2) G) := fun G h => HI.out G (PG.step hd h)
      clear hQ hL hd b5
      go_wp2_with fail
      go_roundg nr5
      case measure => have := HG.out; have := HLE.out; omega
      case rel => exact ⟨ab, ar5, k + 1, nr5, cb, cr5, B, L, rfl, rfl, rfl, HF.out.1, HF.out.2.1, b2, by have := HLE.out; omega, HF.out.2.2, HI2.out⟩
end
end Go.Proofs.YtgfaaaeechgjmaaDoor.Pl
