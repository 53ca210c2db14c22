/- The walks over package fieldpoly: element, Degree, Trim, cut. By the verifier of shale. -/
import Derived.Test.YtgfaaaeechgjmaaDoorPolyEl
import Derived.Test.YtgfaaaeechgjmaaDoorFldOps
import Derived.Test.YtgfaaaeechgjmaaDoorRow
import Derived.Deep.LoopGhost
import Derived.Deep.Cut
import Derived.Outline
import Derived.Laws.OwnMore
namespace Go.Proofs.YtgfaaaeechgjmaaDoor.Pl
open Go Go.RowKit Fld Bits16
set_option linter.unusedVariables false
/-- a ring over a field of m bits. -/
def RingAt (m : Nat) (w : World) (g s be ce bl : Nat) : Prop := w.heap[g]? = some (.cells #[.pointer (some ⟨s, 0, none⟩)] 60 (0, 0)) ∧ FldAt m w s be ce bl
theorem RingAt.below {m : Nat} [M : Mid m] {w w' : World} {g s be ce bl : Nat} (h : RingAt m w g s be ce bl) (b : Below w.heap.size w w') : RingAt m w' g s be ce bl :=
  ⟨(b.block g (lt_of_block h.1)).trans h.1, h.2.below M.lo b⟩
theorem RingAt.drawn {m : Nat} [M : Mid m] {w w' : World} {g s be ce bl : Nat} (h : RingAt m w g s be ce bl) (d : Drawn w w') : RingAt m w' g s be ce bl := h.below (d.below _)
theorem RingAt.cell {m : Nat} {w : World} {g s be ce bl : Nat} (h : RingAt m w g s be ce bl) : w.cell? ⟨g, 0, none⟩ = some (.pointer (some ⟨s, 0, none⟩)) := by
  unfold World.cell?
  simp only
  rw [h.1]; rfl
/-- numbers that stand in a row from an address on, or none. -/
structure RowZ (w : World) (a : Option Addr) (n cap : Nat) (l : List Int) : Prop where
  hlen : n = l.length
  hcap : n ≤ cap
  hmost : cap ≤ maxLen
  row : ∀ i, i < n → ∃ bb off, a = some ⟨bb, off, none⟩ ∧ w.cell? ⟨bb, off + i, none⟩ = some (.int .i64 (l.getD i 0)) ∧ bb < w.heap.size
theorem RowZ.below {w w' : World} {a : Option Addr} {n cap : Nat} {l : List Int} (h : RowZ w a n cap l) (b : Below w.heap.size w w') : RowZ w' a n cap l :=
  ⟨h.hlen, h.hcap, h.hmost, fun i hi => by
    obtain ⟨bb, off, e, hc, hb⟩ := h.row i hi
    exact ⟨bb, off, e, (b.cell (p := ⟨bb, off + i, none⟩) hb).trans hc, Nat.lt_of_lt_of_le hb b.size⟩⟩
theorem RowZ.take {w : World} {a : Option Addr} {n cap : Nat} {l : List Int} (h : RowZ w a n cap l) (k : Nat) (hk : k ≤ n) : RowZ w a k cap (l.take k) :=
  ⟨by rw [List.length_take]; have := h.hlen; omega, Nat.le_trans hk h.hcap, h.hmost, fun i hi => by
    obtain ⟨bb, off, e, hc, hb⟩ := h.row i (by omega)
    refine ⟨bb, off, e, ?_, hb⟩
    rw [hc, List.getD_eq_getElem?_getD, List.getD_eq_getElem?_getD, List.getElem?_take_of_lt hi]⟩
section
variable {m : Nat} [M : Mid m]
theorem add_val0 (a : Int) : h (el m a ^^^ el m 0) = zn (elm m a) := by
  have e : el m 0 = 0 := congrArg Subtype.val (elm_zero (m := m))
  rw [e]
  show h (el m a ^^^ 0#16) = _
  rw [BitVec.xor_zero]; rfl
set_option maxRecDepth 100000 in
theorem elem_any {g s be ce bl : Nat} (a : Int) (w : World) (R : RingAt m w g s be ce bl) :
    Calls Tryd.prog 39 #[.pointer (some ⟨g, 0, none⟩), .int .i64 a] w fun e w' => e = .returned (.int .i64 (zn (elm m a))) ∧ w = w' := by
  have c0 := R.cell
  have HF := Lib.hid R.2
  have HE := Lib.hid (add_val0 (m := m) a)
  clear R
  go_enter Tryd.func39, Tryd.ntmps39
  go_wp2_with fail
  refine (add_any M.lo M.hi a 0 w HF.out).mono ?_
  rintro e w1 ⟨rfl, rfl⟩
  rw [HE.out]
  go_wp2_with fail
  go_ret
  exact ⟨rfl, rfl⟩
theorem sr_at (l : List Int) (i : Nat) : elm m (l.getD i 0) = sr m l i := rfl
set_option maxRecDepth 100000 in
set_option maxHeartbeats 1000000 in
theorem deg_any {g s be ce bl : Nat} (a : Option Addr) (n cap : Nat) (l : List Int) (w : World) (R : RingAt m w g s be ce bl) (h : RowZ w a n cap l) :
    Calls Tryd.prog 15 #[.pointer (some ⟨g, 0, none⟩), .slice a n cap] w fun e w' => e = .returned (.int .i64 ((top (sr m l) n : Int) - 1)) ∧ w = w' := by
  have HR := Lib.hid R
  have HP := Lib.hid h
  have hm : n ≤ maxLen := Nat.le_trans h.hcap h.hmost
  unfold maxLen at hm
  clear R h
  go_enter Tryd.func15, Tryd.ntmps15
  go_wp2_with fail
  go_loopg [5] n (fun gh s5 wx => ∃ k : Nat, gh = k ∧ k ≤ n ∧ s5 = .int .i64 ((k : Int) - 1) ∧ Hid (top (sr m l) k = top (sr m l) n) ∧ w = wx)
  case atStart => exact ⟨n, rfl, Nat.le_refl _, rfl, rfl, rfl⟩
  case round =>
    obtain ⟨k, hg, hk, rfl, HT, rfl⟩ := hrel
    have HG := Lib.hid hg
    clear hg
    rcases k with _ | k
    · have HF : Hid ((top (sr m l) n : Int) - 1 = -1) := by show _ = _; rw [← HT.out]; rfl
      clear HT
      go_wp2_with fail
      go_ret
      exact ⟨ret_i64 HF.out.symm, rfl⟩
    · have x0 : (0 : Int) ≤ (k : Int) := by omega
      have x1 : (k : Int) < (n : Int) := by omega
      obtain ⟨bb, off, rfl, c1, hb⟩ := HP.out.row k (by omega)
      have hz := zn_eq0 (sr m l k)
      by_cases h0 : sr m l k = 0
      · rw [decide_eq_true h0] at hz
        have HN : Hid (top (sr m l) k = top (sr m l) n) := by
          show _ = _
          rw [← top_zero h0]; exact HT.out
        clear HT h0 hb
        go_wp2_with fail
        refine (elem_any (l.getD k 0) w HR.out).mono ?_
        rintro e w1 ⟨rfl, rfl⟩
        rw [sr_at]
        go_wp2_with fail
        go_roundg k
        case measure => have := HG.out; omega
        case rel => exact ⟨k, rfl, by omega, by go_num, HN.out, rfl⟩
      · rw [decide_eq_false h0] at hz
        have HN : Hid ((top (sr m l) n : Int) - 1 = (k : Int)) := by
          show _ = _
          rw [← HT.out, top_some h0]
          omega
        clear HT h0 hb
        go_wp2_with fail
        refine (elem_any (l.getD k 0) w HR.out).mono ?_
        rintro e w1 ⟨rfl, rfl⟩
        rw [sr_at]
        go_wp2_with fail
        go_ret
        exact ⟨ret_i64 HN.out.symm, rfl⟩
set_option maxRecDepth 100000 in
set_option maxHeartbeats 1000000 in
theorem cut_any (a : Option Addr) (n cap : Nat) (p : Ser (El m)) (w : World) (h : RowZ w a n cap (nums p n)) :
    Calls Tryd.prog 41 #[.slice a n cap] w fun e w' => e = .returned (.slice a (top p n) cap) ∧ w = w' := by
  have HP := Lib.hid h
  have hm : n ≤ maxLen := Nat.le_trans h.hcap h.hmost
  have hc : n ≤ cap := h.hcap
  have hcm : cap ≤ maxLen := h.hmost
  unfold maxLen at hm hcm
  clear h
  go_enter Tryd.func41, Tryd.ntmps41
  go_wp2_with fail
  go_loopg [3] n (fun gh s3 wx => ∃ k : Nat, gh = k ∧ k ≤ n ∧ s3 = .int .i64 (k : Int) ∧ Hid (top p k = top p n) ∧ w = wx)
  case atStart => exact ⟨n, rfl, Nat.le_refl _, rfl, rfl, rfl⟩
  case round =>
    obtain ⟨k, hg, hk, rfl, HT, rfl⟩ := hrel
    have HG := Lib.hid hg
    clear hg
    have y0 : (0 : Int) ≤ (k : Int) := by omega
    have y1 : (k : Int) ≤ (cap : Int) := by omega
    rcases k with _ | k
    · have HF : Hid (top p n = 0) := HT.out.symm
      clear HT
      go_wp2_with fail
      go_ret
      exact ⟨by rw [HF.out]; rfl, rfl⟩
    · have x0 : (0 : Int) ≤ (k : Int) := by omega
      have x1 : (k : Int) < (n : Int) := by omega
      obtain ⟨bb, off, rfl, c1, hb⟩ := HP.out.row k (by omega)
      rw [nums_at p n k (by omega)] at c1
      have hz := zn_eq0 (p k)
      by_cases h0 : p k = 0
      · rw [decide_eq_true h0] at hz
        have HN : Hid (top p k = top p n) := by
          show _ = _
          rw [← top_zero h0]; exact HT.out
        clear HT h0 hb
        go_wp2_with fail
        go_roundg k
        case measure => have := HG.out; omega
        case rel => exact ⟨k, rfl, by omega, by go_num, HN.out, rfl⟩
      · rw [decide_eq_false h0] at hz
        have HN : Hid (top p n = k + 1) := by
          show _ = _
          rw [← HT.out, top_some h0]
        clear HT h0 hb
        go_wp2_with fail
        go_ret
        exact ⟨by rw [HN.out]; rfl, rfl⟩
end
end Go.Proofs.YtgfaaaeechgjmaaDoor.Pl
