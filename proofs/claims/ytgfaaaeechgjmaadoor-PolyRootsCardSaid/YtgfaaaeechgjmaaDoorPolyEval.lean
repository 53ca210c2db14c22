/- The walks over package fieldpoly: Eval, Derive, New. By the verifier of shale. -/
import Derived.Test.YtgfaaaeechgjmaaDoorPolyMul
namespace Go.Proofs.YtgfaaaeechgjmaaDoor.Pl
open Go Go.RowKit Fld Bits16
set_option linter.unusedVariables false
/-- from the k-th on. -/
def dr {m : Nat} (p : Ser (El m)) (k : Nat) : Ser (El m) := fun i => p (k + i)
theorem dr_tl {m : Nat} (p : Ser (El m)) (k : Nat) : tl (dr p k) = dr p (k + 1) := funext fun i => by show p (k + (i + 1)) = p (k + 1 + i); congr 1; omega
section
variable {m : Nat} [M : Mid m]
theorem ev_dr (p : Ser (El m)) (k j : Nat) (x : El m) : ev (j + 1) (dr p k) x = ev j (dr p (k + 1)) x * x + p k := by
  show dr p k 0 + x * ev j (tl (dr p k)) x = _
  rw [dr_tl, Fl.mul_comm x, Fl.add_comm]; rfl
theorem mul_zz (a : El m) (x : Int) : h (fmul m (el m (zn a)) (el m x)) = zn (a * elm m x) := by
  have e1 : el m (zn a) = a.val := congrArg Subtype.val (elm_zn a)
  rw [e1]; rfl
theorem add_zz (a : El m) (x : Int) : h (el m (zn a) ^^^ el m x) = zn (a + elm m x) := by
  have e1 : el m (zn a) = a.val := congrArg Subtype.val (elm_zn a)
  rw [e1]; rfl
theorem drewn_cell {w : World} {p : Addr} {v : Option Value} (h : w.cell? p = v) (n : Nat) : (w.drewN n).cell? p = v := h
set_option maxRecDepth 100000 in
set_option maxHeartbeats 1000000 in
theorem value_any {s be ce bl : Nat} (a : Option Addr) (n cap : Nat) (l : List Int) (x : Int) (w : World) (F : FldAt m w s be ce bl) (h : RowZ w a n cap l) :
    Calls Tryd.prog 42 #[.slice a n cap, .int .i64 x, .func (.func 38) #[.pointer (some ⟨s, 0, none⟩)] #[], .func (.func 40) #[.pointer (some ⟨s, 0, none⟩)] #[]] w
      fun e w' => e = .returned (.int .i64 (zn (ev n (sr m l) (elm m x)))) ∧ Drawn w w' := by
  have HF := Lib.hid F
  have HP := Lib.hid h
  have hm : n ≤ maxLen := Nat.le_trans h.hcap h.hmost
  unfold maxLen at hm
  clear F h
  go_enter Tryd.func42, Tryd.ntmps42
  go_wp2_with fail
  go_loopg [9, 10] n (fun gh s9 s10 wx => ∃ k j : Nat, gh = k ∧ k + j = n ∧ s10 = .int .i64 ((k : Int) - 1) ∧ s9 = .int .i64 (zn (ev j (dr (sr m l) k) (elm m x))) ∧ Drawn w wx)
  case atStart => exact ⟨n, 0, rfl, by omega, rfl, rfl, Drawn.refl _⟩
  case round =>
    obtain ⟨k, j, hg, hkj, rfl, rfl, hD⟩ := hrel
    have HG := Lib.hid hg
    clear hg
    rcases k with _ | k
    · have HJ : Hid (j = n) := by show _ = _; omega
      have HE : Hid (zn (ev j (dr (sr m l) 0) (elm m x)) = zn (ev n (sr m l) (elm m x))) := by
        show _ = _
        rw [HJ.out]
        have : dr (sr m l) 0 = sr m l := funext fun i => by show sr m l (0 + i) = _; rw [Nat.zero_add]
        rw [this]
      clear hkj
      go_wp2_with fail
      go_ret
      exact ⟨ret_i64 HE.out, hD⟩
    · have x0 : (0 : Int) ≤ (k : Int) := by omega
      have x1 : (k : Int) < (n : Int) := by omega
      rw [show ((k + 1 : Nat) : Int) - 1 = (k : Int) by omega]
      obtain ⟨bb, off, rfl, c1, hb⟩ := (HP.out.below (hD.below _)).row k (by omega)
      have HFw := Lib.hid (HF.out.drawn M.lo hD)
      have HM : Hid (∀ nn, Calls Tryd.prog 38 #[.pointer (some ⟨s, 0, none⟩), .int .i64 (zn (ev j (dr (sr m l) (k + 1)) (elm m x))), .int .i64 x] (wr.drewN nn) fun e w' => e = .returned (.int .i64 (zn (ev j (dr (sr m l) (k + 1)) (elm m x) * elm m x))) ∧ Drawn (wr.drewN nn) w') := fun nn => by
        have := mul_any M.lo M.hi (zn (ev j (dr (sr m l) (k + 1)) (elm m x))) x (wr.drewN nn) (HFw.out.drawn M.lo (Drawn.mk wr nn))
        rw [mul_zz] at this
        exact this
      have HA : Hid (∀ nn, Calls Tryd.prog 40 #[.pointer (some ⟨s, 0, none⟩), .int .i64 (zn (ev j (dr (sr m l) (k + 1)) (elm m x) * elm m x)), .int .i64 (l.getD k 0)] (wr.drewN nn) fun e w' => e = .returned (.int .i64 (zn (ev (j + 1) (dr (sr m l) k) (elm m x)))) ∧ (wr.drewN nn) = w') := fun nn => by
        have := add_any M.lo M.hi (zn (ev j (dr (sr m l) (k + 1)) (elm m x) * elm m x)) (l.getD k 0) (wr.drewN nn) (HFw.out.drawn M.lo (Drawn.mk wr nn))
        rw [add_zz, sr_at, ← ev_dr] at this
        exact this
      generalize zn (ev j (dr (sr m l) (k + 1)) (elm m x)) = z1 at HM ⊢
      generalize zn (ev j (dr (sr m l) (k + 1)) (elm m x) * elm m x) = z2 at HM HA
      generalize hz3 : zn (ev (j + 1) (dr (sr m l) k) (elm m x)) = z3 at HA
      have HZ3 := Lib.hid hz3
      clear hz3 hb
      generalize l.getD k 0 = z4 at c1 HA
      go_wp2_with fail
      go_quiet ((first | (go_at_call 38; exact quiet_drawn (HM.out _)) | (go_at_call 40; exact quiet_same (HA.out _))))
      have hd2 : Drawn w (wr.drewN nq) := hD.trans (Drawn.mk _ _)
      generalize wr.drewN nq = w5 at hd2 ⊢
      clear c1
      go_wp2_with fail
      go_roundg k
      case measure => have := HG.out; omega
      case rel => exact ⟨k, j + 1, rfl, by omega, by go_num, by rw [HZ3.out], hd2⟩
set_option maxRecDepth 100000 in
set_option maxHeartbeats 1000000 in
theorem peval_any {g s be ce bl : Nat} (a : Option Addr) (n cap : Nat) (l : List Int) (x : Int) (w : World) (R : RingAt m w g s be ce bl) (h : RowZ w a n cap l) :
    Calls Tryd.prog 20 #[.pointer (some ⟨g, 0, none⟩), .slice a n cap, .int .i64 x] w
      fun e w' => e = .returned (.int .i64 (zn (ev n (sr m l) (elm m x)))) ∧ Drawn w w' := by
  have c0 := R.cell
  have HR := Lib.hid R
  have HP := Lib.hid h
  have HV : Hid (∀ nn, Calls Tryd.prog 42 #[.slice a n cap, .int .i64 x, .func (.func 38) #[.pointer (some ⟨s, 0, none⟩)] #[], .func (.func 40) #[.pointer (some ⟨s, 0, none⟩)] #[]] (w.drewN nn)
      fun e w' => e = .returned (.int .i64 (zn (ev n (sr m l) (elm m x)))) ∧ Drawn (w.drewN nn) w') := fun nn =>
    value_any a n cap l x (w.drewN nn) (HR.out.2.drawn M.lo (Drawn.mk w nn)) (HP.out.below ((Drawn.mk w nn).below _))
  clear R h
  go_enter Tryd.func20, Tryd.ntmps20
  go_wp2_with fail
  go_quiet ((go_at_call 42; exact quiet_drawn (HV.out _)))
  have hd2 : Drawn w (w.drewN nq) := Drawn.mk _ _
  generalize w.drewN nq = w5 at hd2 ⊢
  clear c0
  go_wp2_with fail
  go_ret
  exact ⟨rfl, hd2⟩
end
end Go.Proofs.YtgfaaaeechgjmaaDoor.Pl
