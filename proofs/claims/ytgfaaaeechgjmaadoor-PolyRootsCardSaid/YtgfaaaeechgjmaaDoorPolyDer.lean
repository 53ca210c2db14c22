/- The walks over package fieldpoly: Derive, New. By the verifier of shale. -/
import Derived.Test.YtgfaaaeechgjmaaDoorPolyEval
namespace Go.Proofs.YtgfaaaeechgjmaaDoor.Pl
open Go Go.RowKit Fld Bits16
set_option linter.unusedVariables false
section
variable {m : Nat} [M : Mid m]
/-- the derivative. -/
def der (p : Ser (El m)) : Ser (El m) := fun i => if i % 2 = 0 then p (i + 1) else 0
theorem der_bd {p : Ser (El m)} {n : Nat} (h : Bd p (n + 1)) : Bd (der p) n := fun i hi => by
  unfold der
  split
  · exact h (i + 1) (by omega)
  · rfl
theorem der_step (p : Ser (El m)) (n k : Nat) : (nums (cutS (der p) (2 * k)) n).set (2 * k) (zn (p (2 * k + 1))) = nums (cutS (der p) (2 * (k + 1))) n := by
  have h := nums_set (cutS (der p) (2 * k)) (cutS (der p) (2 * (k + 1))) n (2 * k) (fun j hj => by
    unfold cutS
    by_cases h2 : j < 2 * k
    · rw [if_pos h2, if_pos (by omega)]
    · rw [if_neg h2]
      by_cases h3 : j < 2 * (k + 1)
      · rw [if_pos h3]
        unfold der
        rw [if_neg (by omega)]
      · rw [if_neg h3])
  have e : cutS (der p) (2 * (k + 1)) (2 * k) = p (2 * k + 1) := by
    unfold cutS
    rw [if_pos (by omega)]
    unfold der
    rw [if_pos (by omega)]
  rw [e] at h
  exact h
theorem cutS_wide {q : Ser (El m)} {n k : Nat} (h : Bd q n) (hk : n ≤ k) : cutS q k = q := cutS_all (h.mono hk)
theorem der_pz : der (pz : Ser (El m)) = pz := funext fun i => by unfold der; split <;> rfl
set_option maxRecDepth 100000 in
set_option maxHeartbeats 1000000 in
theorem der_any {g s be ce bl : Nat} (a : Option Addr) (n cap : Nat) (l : List Int) (w : World) (R : RingAt m w g s be ce bl) (h : RowZ w a n cap l) (hn : n ≤ 1000000) :
    Calls Tryd.prog 22 #[.pointer (some ⟨g, 0, none⟩), .slice a n cap] w
      fun e w' => ∃ a' n' cap', e = .returned (.slice a' n' cap') ∧ Out m w w' a' n' cap' (der (sr m l)) ∧ Below w.heap.size w w' := by
  have HR := Lib.hid R
  have HP := Lib.hid h
  have hb := sr_bd (m := m) l
  rw [← h.hlen] at hb
  clear R h
  cases n with
  | zero =>
    have HO : Hid (Out m w w none 0 0 (der (sr m l))) := by
      show Out _ _ _ _ _ _ _
      rw [hb.zero, der_pz]; exact out_nil w w
    clear hb
    go_enter Tryd.func22, Tryd.ntmps22
    go_wp2_with fail
    go_ret
    exact ⟨none, 0, 0, rfl, HO.out, Below.refl _ _⟩
  | succ N =>
    have HBd := Lib.hid (der_bd hb)
    have t0 : (((N + 1 : Nat) : Int) == 0) = false := by rw [beq_eq_false_iff_ne]; omega
    have t0' : (((N : Int) + 1) == 0) = false := by rw [beq_eq_false_iff_ne]; omega
    have hmk := made64 w N (by omega)
    rw [nums_pz (m := m)] at hmk
    have HB0 : Hid (Below w.heap.size w (w.alloc (obj64 (nums (pz : Ser (El m)) N)))) := (Below.refl _ _).alloc (Nat.le_refl _) _
    have HK0 : Hid (Blk64 (w.alloc (obj64 (nums (pz : Ser (El m)) N))) w.heap.size (nums (pz : Ser (El m)) N)) := Blk64.new w _
    clear hb
    go_enter Tryd.func22, Tryd.ntmps22
    go_wp2_with fail
    clear hmk t0 t0'
    go_loopg [6] (N + 1) (fun gh s6 wx => ∃ (k : Nat), gh = N + 1 - 2 * k ∧ 2 * k ≤ N + 1 ∧ s6 = .int .i64 ((2 * k : Nat) : Int) ∧ Blk64 wx w.heap.size (nums (cutS (der (sr m l)) (2 * k)) N) ∧ Below w.heap.size w wx)
    case atStart => exact ⟨0, rfl, by omega, rfl, by rw [Nat.mul_zero, cutS_zero]; exact HK0.out, HB0.out⟩
    case round =>
      clear HK0 HB0
      obtain ⟨k, hg, hkn, rfl, hk, hB⟩ := hrel
      have HG := Lib.hid hg
      clear hg
      by_cases hlt : 2 * k < N
      · have HS := Lib.hid (Blk64.lay hk (der_step (sr m l) N k))
        have HSB : Hid (Below w.heap.size w (wr.setCell ⟨w.heap.size, 2 * k, none⟩ (.int .i64 (zn (sr m l (2 * k + 1)))))) := hB.setCell (p := ⟨w.heap.size, 2 * k, none⟩) (Nat.le_refl _) _
        obtain ⟨j, hj⟩ : ∃ j, j = 2 * k := ⟨_, rfl⟩
        rw [← hj] at HS HSB ⊢
        have hjN : j < N := by omega
        have x1 : (j : Int) < (N : Int) := by omega
        have x0 : (0 : Int) ≤ (j : Int) := by omega
        have x2 : (j : Int) + 1 < (N : Int) + 1 := by omega
        obtain ⟨bb, off, rfl, c1, hb⟩ := (HP.out.below hB).row (j + 1) (by omega)
        have c3 := hk.cell (i := j) (by rw [nums_length]; exact hjN)
        have c4 := hk.free j
        have HRw := Lib.hid (HR.out.below hB)
        have HJ := Lib.hid hj
        clear hk hB hb hj
        go_wp2_with fail
        refine (elem_any (l.getD (j + 1) 0) wr HRw.out).mono ?_
        rintro e w1 ⟨rfl, rfl⟩
        rw [sr_at]
        go_wp2_with fail
        go_roundg (N + 1 - 2 * (k + 1))
        case measure => have := HG.out; omega
        case rel => exact ⟨k + 1, rfl, by omega, by rw [show ((2 * (k + 1) : Nat) : Int) = (j : Int) + 2 by have := HJ.out; omega], HS.out, HSB.out⟩
      · rw [cutS_wide HBd.out (by omega)] at hk
        have x1 : decide ((2 : Int) * (k : Int) < (N : Int)) = false := decide_eq_false (by omega)
        have x1' : decide (2 * k < N) = false := decide_eq_false (by omega)
        have hrow := Blk64.row hk N (by rw [nums_length]; exact Nat.le_refl _) (by rw [nums_length]; omega)
        rw [nums_length, nums_take _ (Nat.le_refl _)] at hrow
        have HK := Lib.hid hk
        have HRow := Lib.hid hrow
        clear hk hrow
        go_wp2_with fail
        refine (cut_any _ N N _ wr HRow.out).mono ?_
        rintro e w3 ⟨rfl, rfl⟩
        go_wp2_with fail
        go_ret
        exact ⟨_, _, _, rfl, Or.inr ⟨_, N, rfl, Nat.le_refl _, by omega, rfl, HK.out, rfl, HBd.out⟩, hB⟩
theorem pnew_any {s be ce bl : Nat} (w : World) (F : FldAt m w s be ce bl) :
    Calls Tryd.prog 36 #[.pointer (some ⟨s, 0, none⟩)] w fun e w' => ∃ g, e = .returned (.pointer (some ⟨g, 0, none⟩)) ∧ RingAt m w' g s be ce bl ∧ Below w.heap.size w w' := by
  have b0 : Below w.heap.size w (w.alloc (.cells #[.pointer (some ⟨s, 0, none⟩)] 60)) := (Below.refl _ _).alloc (Nat.le_refl _) _
  have HR : Hid (RingAt m (w.alloc (.cells #[.pointer (some ⟨s, 0, none⟩)] 60)) w.heap.size s be ce bl) := ⟨heap_alloc_new w _, F.below M.lo b0⟩
  have HB := Lib.hid b0
  clear F b0
  go_enter Tryd.func36, Tryd.ntmps36
  go_wp2_with fail
  go_ret
  exact ⟨_, rfl, HR.out, HB.out⟩
end
end Go.Proofs.YtgfaaaeechgjmaaDoor.Pl
