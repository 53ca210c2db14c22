/- Texts of the verifier of shale, laid into one: PolyOps, PolyTimes, PolyTrim, PolyAdd, PolyMul, PolyEval, PolyDer, PolyDiv, PolyGcd, PolyRoots, QuietTail, PolyFrom, FldRef, FldRef2, RefTrim, RefZ, PolyV, CosMath, SortShelf, MinCoset, BoolMem, MinCosets, RefTimes, RefPAdd, MinProd, MinNar, EncMath, EncMem, BinWord, BinFermat, RefSame, BinGcd, BinIrr. -/
import Derived.Test.YthmfneepnkgmgaaGreatDoorGreat1
import Derived.Deep.LoopGhost
import Derived.Deep.Cut
import Derived.Outline
import Derived.Laws.OwnMore
import Derived.Deep.RegionLaw
import Derived.StillTailTactics
import Derived.BigQuiet
import Derived.Shelf.Sort.Plain
import Derived.Test.YthmfneepnkgmgaaGreatDoorProg
import Derived.Sort.OwnSortedInts
import Derived.WalkKit
import Derived.Deep.AppendLies
import Derived.Maps.AppendAt
import Derived.Lib.QuietBelow
import Derived.Laws.MathBits
import Derived.Laws.BitsAllLaws
import Derived.WalkSpells
import Derived.WalkLawsBesides
import Derived.Laws.BytesArg
/- The walks over package fieldpoly: element, Degree, Trim, cut. By the verifier of shale. -/
namespace Go.Proofs.YthmfneepnkgmgaaGreatDoor.Pl
open Go Go.RowKit Fld Bits16
set_option linter.unusedVariables false
/-- a ring over a field of m bits. -/
def RingAt (m : Nat) (w : World) (g s be ce bl : Nat) : Prop := w.heap[g]? = some (.cells #[.pointer (some ⟨s, 0, none⟩)] 177 (0, 0)) ∧ FldAt m w s be ce bl
theorem RingAt.below {m : Nat} [M : Mid m] {w w' : World} {g s be ce bl : Nat} (h : RingAt m w g s be ce bl) (b : Below w.heap.size w w') : RingAt m w' g s be ce bl :=
  ⟨(b.block g (lt_of_block h.1)).trans h.1, h.2.below M.lo b⟩
theorem RingAt.drawn {m : Nat} [M : Mid m] {w w' : World} {g s be ce bl : Nat} (h : RingAt m w g s be ce bl) (d : Drawn w w') : RingAt m w' g s be ce bl := h.below (d.below _)
theorem RingAt.cell {m : Nat} {w : World} {g s be ce bl : Nat} (h : RingAt m w g s be ce bl) : w.cell? ⟨g, 0, none⟩ = some (.pointer (some ⟨s, 0, none⟩)) := by
  unfold World.cell?
  simp only
  rw [h.1]; rfl
/-- numbers that stand in a row from an address on, or none. -/
structure RowZ (w : World) (a : Option Addr) (n cap : Nat) (l : List Int) : Prop where
  hlen : n = l.length
  hcap : n ≤ cap
  hmost : cap ≤ maxLen
  row : ∀ i, i < n → ∃ bb off, a = some ⟨bb, off, none⟩ ∧ w.cell? ⟨bb, off + i, none⟩ = some (.int .i64 (l.getD i 0)) ∧ bb < w.heap.size
theorem RowZ.below {w w' : World} {a : Option Addr} {n cap : Nat} {l : List Int} (h : RowZ w a n cap l) (b : Below w.heap.size w w') : RowZ w' a n cap l :=
  ⟨h.hlen, h.hcap, h.hmost, fun i hi => by
    obtain ⟨bb, off, e, hc, hb⟩ := h.row i hi
    exact ⟨bb, off, e, (b.cell (p := ⟨bb, off + i, none⟩) hb).trans hc, Nat.lt_of_lt_of_le hb b.size⟩⟩
theorem RowZ.take {w : World} {a : Option Addr} {n cap : Nat} {l : List Int} (h : RowZ w a n cap l) (k : Nat) (hk : k ≤ n) : RowZ w a k cap (l.take k) :=
  ⟨by rw [List.length_take]; have := h.hlen; omega, Nat.le_trans hk h.hcap, h.hmost, fun i hi => by
    obtain ⟨bb, off, e, hc, hb⟩ := h.row i (by omega)
    refine ⟨bb, off, e, ?_, hb⟩
    rw [hc, List.getD_eq_getElem?_getD, List.getD_eq_getElem?_getD, List.getElem?_take_of_lt hi]⟩
section
variable {m : Nat} [M : Mid m]
theorem add_val0 (a : Int) : h (el m a ^^^ el m 0) = zn (elm m a) := by
  have e : el m 0 = 0 := congrArg Subtype.val (elm_zero (m := m))
  rw [e]
  show h (el m a ^^^ 0#16) = _
  rw [BitVec.xor_zero]; rfl
set_option maxRecDepth 100000 in
theorem elem_any {g s be ce bl : Nat} (a : Int) (w : World) (R : RingAt m w g s be ce bl) :
    Calls Tryz.prog 138 #[.pointer (some ⟨g, 0, none⟩), .int .i64 a] w fun e w' => e = .returned (.int .i64 (zn (elm m a))) ∧ w = w' := by
  have c0 := R.cell
  have HF := Lib.hid R.2
  have HE := Lib.hid (add_val0 (m := m) a)
  clear R
  go_enter Tryz.func138, Tryz.ntmps138
  go_wp2_with fail
  refine (add_any M.lo M.hi a 0 w HF.out).mono ?_
  rintro e w1 ⟨rfl, rfl⟩
  rw [HE.out]
  go_wp2_with fail
  go_ret
  exact ⟨rfl, rfl⟩
theorem sr_at (l : List Int) (i : Nat) : elm m (l.getD i 0) = sr m l i := rfl
set_option maxRecDepth 100000 in
set_option maxHeartbeats 1000000 in
theorem deg_any {g s be ce bl : Nat} (a : Option Addr) (n cap : Nat) (l : List Int) (w : World) (R : RingAt m w g s be ce bl) (h : RowZ w a n cap l) :
    Calls Tryz.prog 137 #[.pointer (some ⟨g, 0, none⟩), .slice a n cap] w fun e w' => e = .returned (.int .i64 ((top (sr m l) n : Int) - 1)) ∧ w = w' := by
  have HR := Lib.hid R
  have HP := Lib.hid h
  have hm : n ≤ maxLen := Nat.le_trans h.hcap h.hmost
  unfold maxLen at hm
  clear R h
  go_enter Tryz.func137, Tryz.ntmps137
  go_wp2_with fail
  go_loopg [5] n (fun gh s5 wx => ∃ k : Nat, gh = k ∧ k ≤ n ∧ s5 = .int .i64 ((k : Int) - 1) ∧ Hid (top (sr m l) k = top (sr m l) n) ∧ w = wx)
  case atStart => exact ⟨n, rfl, Nat.le_refl _, rfl, rfl, rfl⟩
  case round =>
    obtain ⟨k, hg, hk, rfl, HT, rfl⟩ := hrel
    have HG := Lib.hid hg
    clear hg
    rcases k with _ | k
    · have HF : Hid ((top (sr m l) n : Int) - 1 = -1) := by show _ = _; rw [← HT.out]; rfl
      clear HT
      go_wp2_with fail
      go_ret
      exact ⟨ret_i64 HF.out.symm, rfl⟩
    · have x0 : (0 : Int) ≤ (k : Int) := by omega
      have x1 : (k : Int) < (n : Int) := by omega
      obtain ⟨bb, off, rfl, c1, hb⟩ := HP.out.row k (by omega)
      have hz := zn_eq0 (sr m l k)
      by_cases h0 : sr m l k = 0
      · rw [decide_eq_true h0] at hz
        have HN : Hid (top (sr m l) k = top (sr m l) n) := by
          show _ = _
          rw [← top_zero h0]; exact HT.out
        clear HT h0 hb
        go_wp2_with fail
        refine (elem_any (l.getD k 0) w HR.out).mono ?_
        rintro e w1 ⟨rfl, rfl⟩
        rw [sr_at]
        go_wp2_with fail
        go_roundg k
        case measure => have := HG.out; omega
        case rel => exact ⟨k, rfl, by omega, by go_num, HN.out, rfl⟩
      · rw [decide_eq_false h0] at hz
        have HN : Hid ((top (sr m l) n : Int) - 1 = (k : Int)) := by
          show _ = _
          rw [← HT.out, top_some h0]
          omega
        clear HT h0 hb
        go_wp2_with fail
        refine (elem_any (l.getD k 0) w HR.out).mono ?_
        rintro e w1 ⟨rfl, rfl⟩
        rw [sr_at]
        go_wp2_with fail
        go_ret
        exact ⟨ret_i64 HN.out.symm, rfl⟩
set_option maxRecDepth 100000 in
set_option maxHeartbeats 1000000 in
theorem cut_any (a : Option Addr) (n cap : Nat) (p : Ser (El m)) (w : World) (h : RowZ w a n cap (nums p n)) :
    Calls Tryz.prog 146 #[.slice a n cap] w fun e w' => e = .returned (.slice a (top p n) cap) ∧ w = w' := by
  have HP := Lib.hid h
  have hm : n ≤ maxLen := Nat.le_trans h.hcap h.hmost
  have hc : n ≤ cap := h.hcap
  have hcm : cap ≤ maxLen := h.hmost
  unfold maxLen at hm hcm
  clear h
  go_enter Tryz.func146, Tryz.ntmps146
  go_wp2_with fail
  go_loopg [3] n (fun gh s3 wx => ∃ k : Nat, gh = k ∧ k ≤ n ∧ s3 = .int .i64 (k : Int) ∧ Hid (top p k = top p n) ∧ w = wx)
  case atStart => exact ⟨n, rfl, Nat.le_refl _, rfl, rfl, rfl⟩
  case round =>
    obtain ⟨k, hg, hk, rfl, HT, rfl⟩ := hrel
    have HG := Lib.hid hg
    clear hg
    have y0 : (0 : Int) ≤ (k : Int) := by omega
    have y1 : (k : Int) ≤ (cap : Int) := by omega
    rcases k with _ | k
    · have HF : Hid (top p n = 0) := HT.out.symm
      clear HT
      go_wp2_with fail
      go_ret
      exact ⟨by rw [HF.out]; rfl, rfl⟩
    · have x0 : (0 : Int) ≤ (k : Int) := by omega
      have x1 : (k : Int) < (n : Int) := by omega
      obtain ⟨bb, off, rfl, c1, hb⟩ := HP.out.row k (by omega)
      rw [nums_at p n k (by omega)] at c1
      have hz := zn_eq0 (p k)
      by_cases h0 : p k = 0
      · rw [decide_eq_true h0] at hz
        have HN : Hid (top p k = top p n) := by
          show _ = _
          rw [← top_zero h0]; exact HT.out
        clear HT h0 hb
        go_wp2_with fail
        go_roundg k
        case measure => have := HG.out; omega
        case rel => exact ⟨k, rfl, by omega, by go_num, HN.out, rfl⟩
      · rw [decide_eq_false h0] at hz
        have HN : Hid (top p n = k + 1) := by
          show _ = _
          rw [← HT.out, top_some h0]
        clear HT h0 hb
        go_wp2_with fail
        go_ret
        exact ⟨by rw [HN.out]; rfl, rfl⟩
end
end Go.Proofs.YthmfneepnkgmgaaGreatDoor.Pl
/- The walk over package fieldpoly's addTimes. By the verifier of shale. -/
namespace Go.Proofs.YthmfneepnkgmgaaGreatDoor.Pl
open Go Go.RowKit Fld Bits16
set_option linter.unusedVariables false
theorem RowZ.upd {s : Nat} {w w' : World} {a : Option Addr} {n cap : Nat} {l : List Int} (h : RowZ w a n cap l) (o : Upd s w w') (hne : ∀ bb off, a = some ⟨bb, off, none⟩ → n ≠ 0 → bb ≠ s) : RowZ w' a n cap l :=
  ⟨h.hlen, h.hcap, h.hmost, fun i hi => by
    obtain ⟨bb, off, e, hc, hb⟩ := h.row i hi
    exact ⟨bb, off, e, (o.cell (p := ⟨bb, off + i, none⟩) hb (hne bb off e (by omega))).trans hc, Nat.lt_of_lt_of_le hb o.size⟩⟩
theorem fld_upd {m : Nat} [M : Mid m] {x : Nat} {w w' : World} {s be ce bl : Nat} (f : FldAt m w s be ce bl) (o : Upd x w w') (n1 : s ≠ x) (n2 : be ≠ x) (n3 : bl ≠ x) : FldAt m w' s be ce bl := by
  obtain ⟨l1, l2, l3⟩ := f.lt M.lo
  exact ⟨(o.block s l1 n1).trans f.1, f.2.1, fun i hi => (o.cell (p := ⟨be, i, none⟩) l2 n2).trans (f.2.2.1 i hi), fun x hx => (o.cell (p := ⟨bl, _, none⟩) l3 n3).trans (f.2.2.2 x hx)⟩
theorem nums_set {m : Nat} (p q : Ser (El m)) (n i : Nat) (hi : ∀ j, j ≠ i → q j = p j) : (nums p n).set i (zn (q i)) = nums q n := by
  apply List.ext_getElem
  · simp [nums]
  · intro j h1 h2
    rw [List.getElem_set]
    simp only [nums, List.getElem_map, List.getElem_range]
    by_cases e : i = j
    · subst e; rw [if_pos rfl]
    · rw [if_neg e, hi j (Ne.symm e)]
section
variable {m : Nat} [M : Mid m]
/-- the first k of it. -/
def cutS (q : Ser (El m)) (k : Nat) : Ser (El m) := fun i => if i < k then q i else 0
theorem cutS_bd (q : Ser (El m)) (k : Nat) : Bd (cutS q k) k := fun i hi => if_neg (by omega)
theorem cutS_all {q : Ser (El m)} {k : Nat} (h : Bd q k) : cutS q k = q := funext fun i => by
  unfold cutS
  by_cases hi : i < k
  · rw [if_pos hi]
  · rw [if_neg hi, h i (by omega)]
theorem zn_add (a b : El m) : bits .xor .i64 (zn a) (zn b) = zn (a + b) := rxor a.val b.val
/-- one step of a times q, laid off places up. -/
theorem times_at (P q : Ser (El m)) (c : El m) (off k : Nat) : ∀ j, j ≠ off + k → padd P (cv (mono off c) (cutS q (k + 1))) j = padd P (cv (mono off c) (cutS q k)) j := by
  intro j hj
  show P j + cv _ _ j = P j + cv _ _ j
  rw [cv_mono, cv_mono]
  by_cases h : j < off
  · rw [if_pos h, if_pos h]
  · rw [if_neg h, if_neg h]
    have : cutS q (k + 1) (j - off) = cutS q k (j - off) := by
      unfold cutS
      by_cases h2 : j - off < k
      · rw [if_pos h2, if_pos (by omega)]
      · rw [if_neg h2, if_neg (by omega)]
    rw [this]
theorem times_new (P q : Ser (El m)) (c : El m) (off k : Nat) : padd P (cv (mono off c) (cutS q (k + 1))) (off + k) = padd P (cv (mono off c) (cutS q k)) (off + k) + q k * c := by
  show P _ + cv _ _ _ = (P _ + cv _ _ _) + _
  rw [cv_mono, cv_mono, if_neg (by omega), if_neg (by omega), show off + k - off = k by omega]
  have e1 : cutS q (k + 1) k = q k := if_pos (by omega)
  have e2 : cutS q k k = 0 := if_neg (by omega)
  rw [e1, e2, mul_zero, Fl.add_zero, Fl.mul_comm c]
theorem mul_zn (a b : Int) : h (fmul m (el m a) (el m b)) = zn (elm m a * elm m b) := rfl
set_option maxRecDepth 100000 in
set_option maxHeartbeats 2000000 in
theorem times_any {s be ce bl : Nat} (gs off ns cs N : Nat) (P : Ser (El m)) (a : Option Addr) (n cap : Nat) (l : List Int) (c : Int) (w : World) (F : FldAt m w s be ce bl) (hk : Blk64 w gs (nums P N)) (hN : off + ns ≤ N) (h : RowZ w a n cap l) (hn : n ≤ ns) (hm : N ≤ 1000000)
    (n1 : s ≠ gs) (n2 : be ≠ gs) (n3 : bl ≠ gs) (hne : ∀ bb o, a = some ⟨bb, o, none⟩ → n ≠ 0 → bb ≠ gs) :
    Calls Tryz.prog 135 #[.slice (some ⟨gs, off, none⟩) ns cs, .slice a n cap, .int .i64 c, .func (.func 121) #[.pointer (some ⟨s, 0, none⟩)] #[]] w
      fun e w' => e = .returned (.tuple #[]) ∧ Blk64 w' gs (nums (padd P (cv (mono off (elm m c)) (sr m l))) N) ∧ Upd gs w w' := by
  have HF := Lib.hid F
  have HK := Lib.hid hk
  have HP := Lib.hid h
  have HNE := Lib.hid hne
  have HL := Lib.hid h.hlen
  clear F hk h hne
  go_enter Tryz.func135, Tryz.ntmps135
  go_wp2_with fail
  go_loopg [12] n (fun gh s12 wx => ∃ k : Nat, gh = n - k ∧ k ≤ n ∧ s12 = .int .i64 (k : Int) ∧ Blk64 wx gs (nums (padd P (cv (mono off (elm m c)) (cutS (sr m l) k))) N) ∧ Upd gs w wx)
  case atStart =>
    refine ⟨0, rfl, by omega, rfl, ?_, Upd.refl _ _⟩
    have e : cutS (sr m l) 0 = pz := funext fun i => if_neg (by omega)
    rw [e, zero_cv, padd_zero]; exact HK.out
  case round =>
    clear HK
    obtain ⟨k, hg, hkn, rfl, hk, hU⟩ := hrel
    have HG := Lib.hid hg
    clear hg
    by_cases hlt : k < n
    · have x0 : (0 : Int) ≤ (k : Int) := by omega
      have x1 : (k : Int) < (n : Int) := by omega
      have x2 : (k : Int) < (ns : Int) := by omega
      obtain ⟨bb, o, rfl, c1, hb⟩ := (HP.out.upd hU HNE.out).row k hlt
      have c3 := hk.cell (i := off + k) (by rw [nums_length]; omega)
      have c4 := hk.free (off + k)
      have e3 : nth64 (nums (padd P (cv (mono off (elm m c)) (cutS (sr m l) k))) N) (off + k) = zn (padd P (cv (mono off (elm m c)) (cutS (sr m l) k)) (off + k)) := nums_at _ _ _ (by omega)
      rw [e3] at c3
      have ex := zn_add (padd P (cv (mono off (elm m c)) (cutS (sr m l) k)) (off + k)) (sr m l k * elm m c)
      rw [← times_new] at ex
      generalize zn (padd P (cv (mono off (elm m c)) (cutS (sr m l) k)) (off + k)) = z1 at c3 ex
      have HQ := Lib.hid (And.intro hk hU)
      have HMZ := Lib.hid (mul_zn (m := m) (l.getD k 0) c)
      rw [sr_at] at HMZ
      generalize hz2 : zn (sr m l k * elm m c) = z2 at ex HMZ
      generalize hz3 : zn (padd P (cv (mono off (elm m c)) (cutS (sr m l) (k + 1))) (off + k)) = z3 at ex
      have HZ3 := Lib.hid hz3
      have HM : Hid (∀ wx, (wx.cell? ⟨gs, off + k, none⟩ = some (.int .i64 z1) ∧ wx.frozen? ⟨gs, off + k, none⟩ = false ∧ Drawn wr wx) → Calls Tryz.prog 121 #[.pointer (some ⟨s, 0, none⟩), .int .i64 (l.getD k 0), .int .i64 c] wx
          fun e w' => e = .returned (.int .i64 z2) ∧ (w'.cell? ⟨gs, off + k, none⟩ = some (.int .i64 z1) ∧ w'.frozen? ⟨gs, off + k, none⟩ = false ∧ Drawn wr w')) := by
        rintro wx ⟨q1, q2, d⟩
        refine (mul_any M.lo M.hi (l.getD k 0) c wx ((fld_upd HF.out hU n1 n2 n3).drawn M.lo d)).mono ?_
        rintro e w' ⟨rfl, n, rfl⟩
        exact ⟨by rw [HMZ.out], q1, q2, d.trans (Drawn.mk _ n)⟩
      clear hk hU e3 hz2 hz3 HMZ hb
      go_wp2_with fail
      go_region_law (first | (go_simp; go_at_call 121; refine Calls.mono (HM.out _ ⟨c3, c4, Drawn.mk wr 1⟩) ?_; rintro e w' ⟨rfl, q1, q2, q3⟩))
      all_goals
        rename_i w' q1 q2 q3
        obtain ⟨hk, hU⟩ := HQ.out
        obtain ⟨nd, hnd⟩ := q3
        have hk : Blk64 w' gs (nums (padd P (cv (mono off (elm m c)) (cutS (sr m l) k))) N) := by rw [hnd]; exact hk
        have hU : Upd gs w w' := by rw [hnd]; exact ⟨hU.os, hU.tape, hU.output, hU.size, hU.block⟩
        have HN : Hid (Blk64 (w'.setCell ⟨gs, off + k, none⟩ (.int .i64 z3)) gs (nums (padd P (cv (mono off (elm m c)) (cutS (sr m l) (k + 1)))) N)) := by
          have h1 := hk.set (off + k) z3
          rw [← HZ3.out, nums_set _ _ N (off + k) (times_at P (sr m l) (elm m c) off k), HZ3.out] at h1
          exact h1
        have HU : Hid (Upd gs w (w'.setCell ⟨gs, off + k, none⟩ (.int .i64 z3))) := hU.only (Only.setCell _ ⟨gs, off + k, none⟩ _)
        clear hk hU hnd q1 q2 c3 c4 ex
        go_wp2_with fail
        go_roundg (n - (k + 1))
        case measure => have := HG.out; omega
        case rel => exact ⟨k + 1, rfl, by omega, by go_num, HN.out, HU.out⟩
    · obtain rfl : k = n := by omega
      rw [cutS_all (by have := sr_bd (m := m) l; rwa [← HL.out] at this)] at hk
      go_wp2_with fail
      go_end0
      exact ⟨rfl, hk, hU⟩
end
end Go.Proofs.YthmfneepnkgmgaaGreatDoor.Pl
/- The walks over package fieldpoly: Trim, Scale, Add. By the verifier of shale. -/
namespace Go.Proofs.YthmfneepnkgmgaaGreatDoor.Pl
open Go Go.RowKit Fld Bits16
set_option linter.unusedVariables false
theorem Blk64.row {w : World} {g : Nat} {l : List Int} (h : Blk64 w g l) (n : Nat) (hn : n ≤ l.length) (hm : l.length ≤ 1000000) : RowZ w (some ⟨g, 0, none⟩) n l.length (l.take n) :=
  ⟨by rw [List.length_take]; omega, hn, by unfold maxLen; omega, fun i hi => ⟨g, 0, rfl, by
    rw [Nat.zero_add, h.cell (by omega)]
    unfold nth64
    rw [List.getD_eq_getElem?_getD, List.getD_eq_getElem?_getD, List.getElem?_take_of_lt hi], h.lt⟩⟩
theorem nums_take {m : Nat} (p : Ser (El m)) {n N : Nat} (h : n ≤ N) : (nums p N).take n = nums p n := by
  unfold nums
  rw [← List.map_take, List.take_range, Nat.min_eq_left h]
theorem nums_pz {m : Nat} [M : Mid m] (n : Nat) : List.replicate n 0 = nums (pz : Ser (El m)) n := by
  apply List.ext_getElem
  · simp [nums]
  · intro i h1 h2
    simp [nums]; rfl
/-- a polynomial in new memory, or none; what is behind its end is 0. -/
def Out (m : Nat) [M : Mid m] (w0 w : World) (a : Option Addr) (n cap : Nat) (p : Ser (El m)) : Prop :=
  (a = none ∧ n = 0 ∧ cap = 0 ∧ p = pz) ∨ ∃ g N, a = some ⟨g, 0, none⟩ ∧ w0.heap.size ≤ g ∧ N ≤ 1000000 ∧ cap = N ∧ Blk64 w g (nums p N) ∧ n = top p N ∧ Bd p N
section
variable {m : Nat} [M : Mid m]
theorem Out.bd {w0 w : World} {a : Option Addr} {n cap : Nat} {p : Ser (El m)} (h : Out m w0 w a n cap p) : Bd p n := by
  rcases h with ⟨_, _, _, rfl⟩ | ⟨g, N, _, _, _, _, _, hn, hb⟩
  · exact bd_pz n
  · rw [hn]; exact top_bd hb
theorem Out.row {w0 w : World} {a : Option Addr} {n cap : Nat} {p : Ser (El m)} (h : Out m w0 w a n cap p) : RowZ w a n cap (nums p n) := by
  rcases h with ⟨rfl, rfl, rfl, rfl⟩ | ⟨g, N, rfl, _, hN, rfl, hk, hn, hb⟩
  · exact ⟨rfl, Nat.le_refl _, by decide, fun i hi => by omega⟩
  · have hle : n ≤ cap := by rw [hn]; exact top_le p cap
    have := Blk64.row hk n (by rw [nums_length]; exact hle) (by rw [nums_length]; exact hN)
    rw [nums_take p hle, nums_length] at this
    exact this
theorem Out.since {w0 w w' : World} {a : Option Addr} {n cap : Nat} {p : Ser (El m)} (h : Out m w0 w a n cap p) (b : Below w.heap.size w w') : Out m w0 w' a n cap p := by
  rcases h with h | ⟨g, N, e, hg, hN, hc, hk, hn, hb⟩
  · exact Or.inl h
  · exact Or.inr ⟨g, N, e, hg, hN, hc, (b.block _ hk.lt).trans hk, hn, hb⟩
theorem Out.from {w0 w1 w : World} {a : Option Addr} {n cap : Nat} {p : Ser (El m)} (h : Out m w1 w a n cap p) (b : w0.heap.size ≤ w1.heap.size) : Out m w0 w a n cap p := by
  rcases h with h | ⟨g, N, e, hg, r⟩
  · exact Or.inl h
  · exact Or.inr ⟨g, N, e, Nat.le_trans b hg, r⟩
theorem cutS_step (q : Ser (El m)) (n k : Nat) : (nums (cutS q k) n).set k (zn (q k)) = nums (cutS q (k + 1)) n := by
  have h := nums_set (cutS q k) (cutS q (k + 1)) n k (fun j hj => by
    unfold cutS
    by_cases h2 : j < k
    · rw [if_pos h2, if_pos (by omega)]
    · rw [if_neg h2, if_neg (by omega)])
  rw [show cutS q (k + 1) k = q k from if_pos (by omega)] at h
  exact h
theorem cutS_zero (q : Ser (El m)) : cutS q 0 = pz := funext fun i => if_neg (by omega)
theorem Blk64.lay {w : World} {g : Nat} {l k : List Int} {i : Nat} {z : Int} (h : Blk64 w g l) (e : l.set i z = k) : Blk64 (w.setCell ⟨g, i, none⟩ (.int .i64 z)) g k := e ▸ h.set i z
set_option maxRecDepth 100000 in
set_option maxHeartbeats 1000000 in
theorem trim_any {g s be ce bl : Nat} (a : Option Addr) (n cap : Nat) (l : List Int) (w : World) (R : RingAt m w g s be ce bl) (h : RowZ w a n cap l) (hn : n ≤ 1000000) :
    Calls Tryz.prog 124 #[.pointer (some ⟨g, 0, none⟩), .slice a n cap] w
      fun e w' => e = .returned (.slice (some ⟨w.heap.size, 0, none⟩) (top (sr m l) n) (top (sr m l) n)) ∧ Blk64 w' w.heap.size (nums (sr m l) (top (sr m l) n)) ∧ Below w.heap.size w w' := by
  have HR := Lib.hid R
  have HP := Lib.hid h
  have htn := top_le (sr m l) n
  have HB : Hid (Bd (sr m l) (top (sr m l) n)) := top_bd (by have := sr_bd (m := m) l; rwa [← h.hlen] at this)
  obtain ⟨N, hN⟩ : ∃ N, N = top (sr m l) n := ⟨_, rfl⟩
  rw [← hN] at htn HB ⊢
  have HN := Lib.hid hN
  have hmk := made64 w N (by omega)
  rw [nums_pz (m := m)] at hmk
  have HB0 : Hid (Below w.heap.size w (w.alloc (obj64 (nums (pz : Ser (El m)) N)))) := (Below.refl _ _).alloc (Nat.le_refl _) _
  have HK0 : Hid (Blk64 (w.alloc (obj64 (nums (pz : Ser (El m)) N))) w.heap.size (nums (pz : Ser (El m)) N)) := Blk64.new w _
  clear R h hN
  go_enter Tryz.func124, Tryz.ntmps124
  go_wp2_with fail
  refine (deg_any a n cap l w HR.out HP.out).mono ?_
  rintro e w1 ⟨rfl, rfl⟩
  rw [← HN.out]
  go_wp2_with fail
  clear hmk
  go_loopg [14] N (fun gh s14 wx => ∃ (k : Nat), gh = N - k ∧ k ≤ N ∧ s14 = .int .i64 (k : Int) ∧ Blk64 wx w.heap.size (nums (cutS (sr m l) k) N) ∧ Below w.heap.size w wx)
  case atStart => exact ⟨0, rfl, by omega, rfl, by rw [cutS_zero]; exact HK0.out, HB0.out⟩
  case round =>
    clear HK0 HB0
    obtain ⟨k, hg, hkn, rfl, hk, hB⟩ := hrel
    have HG := Lib.hid hg
    clear hg
    by_cases hlt : k < N
    · have x1 : (k : Int) < (N : Int) := by omega
      have x0 : (0 : Int) ≤ (k : Int) := by omega
      have x2 : (k : Int) < (n : Int) := by omega
      obtain ⟨bb, off, rfl, c1, hb⟩ := (HP.out.below hB).row k (by omega)
      have c3 := hk.cell (i := k) (by rw [nums_length]; exact hlt)
      have c4 := hk.free k
      have HS := Lib.hid (Blk64.lay hk (cutS_step (sr m l) N k))
      have HSB : Hid (Below w.heap.size w (wr.setCell ⟨w.heap.size, k, none⟩ (.int .i64 (zn (sr m l k))))) := hB.setCell (p := ⟨w.heap.size, k, none⟩) (Nat.le_refl _) _
      have HRw := Lib.hid (HR.out.below hB)
      clear hk hB hb
      go_wp2_with fail
      refine (elem_any (l.getD k 0) wr HRw.out).mono ?_
      rintro e w1 ⟨rfl, rfl⟩
      rw [sr_at]
      go_wp2_with fail
      go_roundg (N - (k + 1))
      case measure => have := HG.out; omega
      case rel => exact ⟨k + 1, rfl, by omega, by go_num, HS.out, HSB.out⟩
    · obtain rfl : k = N := by omega
      rw [cutS_all HB.out] at hk
      go_wp2_with fail
      go_ret
      exact ⟨rfl, hk, hB⟩
set_option maxRecDepth 100000 in
set_option maxHeartbeats 1000000 in
theorem scale_any {g s be ce bl : Nat} (a : Option Addr) (n cap : Nat) (l : List Int) (c : Int) (w : World) (R : RingAt m w g s be ce bl) (h : RowZ w a n cap l) (hn : n ≤ 1000000) :
    Calls Tryz.prog 141 #[.pointer (some ⟨g, 0, none⟩), .slice a n cap, .int .i64 c] w
      fun e w' => ∃ a' n' cap', e = .returned (.slice a' n' cap') ∧ Out m w w' a' n' cap' (psm (elm m c) (sr m l)) ∧ Below w.heap.size w w' := by
  have HR := Lib.hid R
  have HP := Lib.hid h
  have c0 := R.cell
  obtain ⟨l1, l2, l3⟩ := R.2.lt M.lo
  have HBd : Hid (Bd (psm (elm m c) (sr m l)) n) := (by have := sr_bd (m := m) l; rwa [← h.hlen] at this : Bd (sr m l) n).sm _
  have hmk := made64 w n (by omega)
  rw [nums_pz (m := m)] at hmk
  have b0 : Below w.heap.size w (w.alloc (obj64 (nums (pz : Ser (El m)) n))) := (Below.refl _ _).alloc (Nat.le_refl _) _
  have HB0 := Lib.hid b0
  have HK0 : Hid (Blk64 (w.alloc (obj64 (nums (pz : Ser (El m)) n))) w.heap.size (nums (pz : Ser (El m)) n)) := Blk64.new w _
  have c1 := (R.below b0).cell
  clear R h b0
  go_enter Tryz.func141, Tryz.ntmps141
  go_wp2_with fail
  generalize w.alloc (obj64 (nums (pz : Ser (El m)) n)) = w1 at HB0 HK0 c1 ⊢
  clear hmk
  go_wp2_with fail
  refine (times_any w.heap.size 0 n n n pz a n cap l c w1 (HR.out.below HB0.out).2 HK0.out (by omega) (HP.out.below HB0.out) (Nat.le_refl _) hn (by omega) (by omega) (by omega) (fun bb o e h0 => by
    obtain ⟨b2, o2, e2, _, hb⟩ := HP.out.row 0 (by omega)
    rw [e] at e2
    simp only [Option.some.injEq, Addr.mk.injEq] at e2
    omega)).mono ?_
  rintro e w2 ⟨rfl, hk, hU⟩
  have e1 : padd pz (cv (mono 0 (elm m c)) (sr m l)) = psm (elm m c) (sr m l) := by
    rw [zero_padd]
    funext i
    rw [cv_mono, if_neg (by omega)]; rfl
  rw [e1] at hk
  have hB2 := HB0.out.trans (hU.toBelow (Nat.le_refl _) HB0.out.size)
  have hrow := Blk64.row hk n (by rw [nums_length]; exact Nat.le_refl _) (by rw [nums_length]; exact hn)
  rw [nums_length, nums_take _ (Nat.le_refl _)] at hrow
  have HK := Lib.hid hk
  have HRow := Lib.hid hrow
  clear hk hU c0 c1 e1 hrow
  go_wp2_with fail
  refine (cut_any _ n n _ w2 HRow.out).mono ?_
  rintro e w3 ⟨rfl, rfl⟩
  go_wp2_with fail
  go_ret
  exact ⟨_, _, _, rfl, Or.inr ⟨_, n, rfl, Nat.le_refl _, hn, rfl, HK.out, rfl, HBd.out⟩, hB2⟩
end
end Go.Proofs.YthmfneepnkgmgaaGreatDoor.Pl
/- The walk over package fieldpoly's Add. By the verifier of shale. -/
namespace Go.Proofs.YthmfneepnkgmgaaGreatDoor.Pl
open Go Go.RowKit Fld Bits16
set_option linter.unusedVariables false
section
variable {m : Nat} [M : Mid m]
theorem add_step (P q : Ser (El m)) (n k : Nat) : (nums (padd P (cutS q k)) n).set k (zn (padd P (cutS q (k + 1)) k)) = nums (padd P (cutS q (k + 1))) n :=
  nums_set (padd P (cutS q k)) (padd P (cutS q (k + 1))) n k (fun j hj => by
    show P j + cutS q (k + 1) j = P j + cutS q k j
    unfold cutS
    by_cases h2 : j < k
    · rw [if_pos h2, if_pos (by omega)]
    · rw [if_neg h2, if_neg (by omega)])
theorem add_new (P : Ser (El m)) (l : List Int) (k : Nat) : h (el m (zn (padd P (cutS (sr m l) k) k)) ^^^ el m (l.getD k 0)) = zn (padd P (cutS (sr m l) (k + 1)) k) := by
  have e1 : el m (zn (padd P (cutS (sr m l) k) k)) = (padd P (cutS (sr m l) k) k).val := congrArg Subtype.val (elm_zn (padd P (cutS (sr m l) k) k))
  have e2 : padd P (cutS (sr m l) k) k = P k := by
    show P k + cutS (sr m l) k k = P k
    rw [show cutS (sr m l) k k = 0 from if_neg (by omega), Fl.add_zero]
  have e3 : padd P (cutS (sr m l) (k + 1)) k = P k + sr m l k := by
    show P k + cutS (sr m l) (k + 1) k = _
    rw [show cutS (sr m l) (k + 1) k = sr m l k from if_pos (by omega)]
  rw [e1, e2, e3]; rfl
set_option maxRecDepth 100000 in
set_option maxHeartbeats 2000000 in
theorem padd_any {g s be ce bl : Nat} (a1 : Option Addr) (n1 c1 : Nat) (l1 : List Int) (a2 : Option Addr) (n2 c2 : Nat) (l2 : List Int) (w : World) (R : RingAt m w g s be ce bl) (h1 : RowZ w a1 n1 c1 l1) (h2 : RowZ w a2 n2 c2 l2) (k1 : n1 ≤ 1000000) (k2 : n2 ≤ 1000000) :
    Calls Tryz.prog 140 #[.pointer (some ⟨g, 0, none⟩), .slice a1 n1 c1, .slice a2 n2 c2] w
      fun e w' => ∃ a' n' cap', e = .returned (.slice a' n' cap') ∧ Out m w w' a' n' cap' (padd (sr m l1) (sr m l2)) ∧ Below w.heap.size w w' := by
  have HR := Lib.hid R
  have HP1 := Lib.hid h1
  have HP2 := Lib.hid h2
  clear R h1 h2
  by_cases hc : n1 < n2
  · rw [padd_comm]
    have t : decide ((n1 : Int) < (n2 : Int)) = true := decide_eq_true (by omega)
    have hmk := made64 w n2 (by omega)
    rw [nums_pz (m := m)] at hmk
    have HB0 : Hid (Below w.heap.size w (w.alloc (obj64 (nums (pz : Ser (El m)) n2)))) := (Below.refl _ _).alloc (Nat.le_refl _) _
    have HK0 : Hid (Blk64 (w.alloc (obj64 (nums (pz : Ser (El m)) n2))) w.heap.size (nums (pz : Ser (El m)) n2)) := Blk64.new w _
    have HBP : Hid (Bd (sr m l2) n2) := by have := sr_bd (m := m) l2; rwa [← HP2.out.hlen] at this
    have HBQ : Hid (Bd (sr m l1) n1) := by have := sr_bd (m := m) l1; rwa [← HP1.out.hlen] at this
    go_enter Tryz.func140, Tryz.ntmps140
    go_wp2_with fail
    clear hmk
    go_loopg [24] n2 (fun gh s24 wx => ∃ (i : Nat), gh = n2 - i ∧ i ≤ n2 ∧ s24 = .int .i64 (i : Int) ∧ Blk64 wx w.heap.size (nums (cutS (sr m l2) i) n2) ∧ Below w.heap.size w wx)
    case atStart => exact ⟨0, rfl, by omega, rfl, by rw [cutS_zero]; exact HK0.out, HB0.out⟩
    case round =>
      clear HK0 HB0
      obtain ⟨i, hg, hin, rfl, hk, hB⟩ := hrel
      have HG := Lib.hid hg
      clear hg
      by_cases hlt : i < n2
      · have x1 : (i : Int) < (n2 : Int) := by omega
        have x0 : (0 : Int) ≤ (i : Int) := by omega
        obtain ⟨bb, off, rfl, c1, hb⟩ := (HP2.out.below hB).row i (by omega)
        have c3 := hk.cell (i := i) (by rw [nums_length]; exact hlt)
        have c4 := hk.free i
        have HS := Lib.hid (Blk64.lay hk (cutS_step (sr m l2) n2 i))
        have HSB : Hid (Below w.heap.size w (wr.setCell ⟨w.heap.size, i, none⟩ (.int .i64 (zn (sr m l2 i))))) := hB.setCell (p := ⟨w.heap.size, i, none⟩) (Nat.le_refl _) _
        have HRw := Lib.hid (HR.out.below hB)
        clear hk hB hb
        go_wp2_with fail
        refine (elem_any (l2.getD i 0) wr HRw.out).mono ?_
        rintro e w1 ⟨rfl, rfl⟩
        rw [sr_at]
        go_wp2_with fail
        go_roundg (n2 - (i + 1))
        case measure => have := HG.out; omega
        case rel => exact ⟨i + 1, rfl, by omega, by go_num, HS.out, HSB.out⟩
      · obtain rfl : i = n2 := by omega
        rw [cutS_all HBP.out] at hk
        go_wp2_with fail
        go_loopg [38] n1 (fun gh s38 wx => ∃ (j : Nat), gh = n1 - j ∧ j ≤ n1 ∧ s38 = .int .i64 (j : Int) ∧ Blk64 wx w.heap.size (nums (padd (sr m l2) (cutS (sr m l1) j)) i) ∧ Below w.heap.size w wx)
        case atStart => exact ⟨0, rfl, by omega, rfl, by rw [cutS_zero, padd_zero]; exact hk, hB⟩
        case round =>
          clear hk hB
          obtain ⟨j, hg, hjn, rfl, hk, hB⟩ := hrel
          have HG2 := Lib.hid hg
          clear hg
          by_cases hlt2 : j < n1
          · have y1 : (j : Int) < (n1 : Int) := by omega
            have y0 : (0 : Int) ≤ (j : Int) := by omega
            have y2 : (j : Int) < (i : Int) := by omega
            have hji : j < i := by omega
            obtain ⟨bb, off, rfl, c1, hb⟩ := (HP1.out.below hB).row j hlt2
            go_wp2_with fail
            have hk : Blk64 wr.drew w.heap.size (nums (padd (sr m l2) (cutS (sr m l1) j)) i) := hk
            have hB : Below w.heap.size w wr.drew := Below.drew hB
            refine wp_region_still_tail 13 (by kernel_rfl) (by kernel_rfl) ?_
            simp only [List.take_succ_cons, List.take_zero, List.drop_succ_cons, List.drop_zero]
            change wpStill _ _ wr.drew (fun a' => wpList _ _ _ _ a' wr.drew) _ _
            clear c1
            generalize wr.drew = w2 at hk hB ⊢
            have HRw := Lib.hid (HR.out.below hB).2
            have c0 := (HR.out.below hB).cell
            have c3 := hk.cell (i := j) (by rw [nums_length]; exact hji)
            have e3 : nth64 (nums (padd (sr m l2) (cutS (sr m l1) j)) i) j = zn (padd (sr m l2) (cutS (sr m l1) j) j) := nums_at _ _ _ hji
            rw [e3] at c3
            have c4 := hk.free j
            have HZ : Hid (h (el m (zn (padd (sr m l2) (cutS (sr m l1) j) j)) ^^^ el m (l1.getD j 0)) = zn (padd (sr m l2) (cutS (sr m l1) (j + 1)) j)) := add_new (sr m l2) l1 j
            have HS := Lib.hid (Blk64.lay hk (add_step (sr m l2) (sr m l1) i j))
            generalize zn (padd (sr m l2) (cutS (sr m l1) j) j) = z1 at c3 HZ
            generalize zn (padd (sr m l2) (cutS (sr m l1) (j + 1)) j) = z3 at HZ HS
            have HSB : Hid (Below w.heap.size w (w2.setCell ⟨w.heap.size, j, none⟩ (.int .i64 z3))) := hB.setCell (p := ⟨w.heap.size, j, none⟩) (Nat.le_refl _) _
            clear hk hB hb e3
            repeat still_step
            still_call ((add_any M.lo M.hi z1 (l1.getD j 0) w2 HRw.out).mono fun _ _ h => ⟨h.1, h.2.symm⟩)
            rw [HZ.out]
            repeat still_step
            refine wpStill_nil ?_
            go_wp2_with fail
            go_roundg (n1 - (j + 1))
            case measure => have := HG2.out; omega
            case rel => exact ⟨j + 1, rfl, by omega, by go_num, HS.out, HSB.out⟩
          · obtain rfl : j = n1 := by omega
            rw [cutS_all HBQ.out] at hk
            have hrow := Blk64.row hk i (by rw [nums_length]; exact Nat.le_refl _) (by rw [nums_length]; omega)
            rw [nums_length, nums_take _ (Nat.le_refl _)] at hrow
            have HK := Lib.hid hk
            have HRow := Lib.hid hrow
            clear hk hrow
            go_wp2_with fail
            refine (cut_any _ i i _ wr HRow.out).mono ?_
            rintro e w3 ⟨rfl, rfl⟩
            go_wp2_with fail
            go_ret
            exact ⟨_, _, _, rfl, Or.inr ⟨_, i, rfl, Nat.le_refl _, by omega, rfl, HK.out, rfl, (HBP.out.add (HBQ.out.mono (by omega)))⟩, hB⟩
  · have t : decide ((n1 : Int) < (n2 : Int)) = false := decide_eq_false (by omega)
    have hmk := made64 w n1 (by omega)
    rw [nums_pz (m := m)] at hmk
    have HB0 : Hid (Below w.heap.size w (w.alloc (obj64 (nums (pz : Ser (El m)) n1)))) := (Below.refl _ _).alloc (Nat.le_refl _) _
    have HK0 : Hid (Blk64 (w.alloc (obj64 (nums (pz : Ser (El m)) n1))) w.heap.size (nums (pz : Ser (El m)) n1)) := Blk64.new w _
    have HBP : Hid (Bd (sr m l1) n1) := by have := sr_bd (m := m) l1; rwa [← HP1.out.hlen] at this
    have HBQ : Hid (Bd (sr m l2) n2) := by have := sr_bd (m := m) l2; rwa [← HP2.out.hlen] at this
    go_enter Tryz.func140, Tryz.ntmps140
    go_wp2_with fail
    clear hmk
    go_loopg [24] n1 (fun gh s24 wx => ∃ (i : Nat), gh = n1 - i ∧ i ≤ n1 ∧ s24 = .int .i64 (i : Int) ∧ Blk64 wx w.heap.size (nums (cutS (sr m l1) i) n1) ∧ Below w.heap.size w wx)
    case atStart => exact ⟨0, rfl, by omega, rfl, by rw [cutS_zero]; exact HK0.out, HB0.out⟩
    case round =>
      clear HK0 HB0
      obtain ⟨i, hg, hin, rfl, hk, hB⟩ := hrel
      have HG := Lib.hid hg
      clear hg
      by_cases hlt : i < n1
      · have x1 : (i : Int) < (n1 : Int) := by omega
        have x0 : (0 : Int) ≤ (i : Int) := by omega
        obtain ⟨bb, off, rfl, c1, hb⟩ := (HP1.out.below hB).row i (by omega)
        have c3 := hk.cell (i := i) (by rw [nums_length]; exact hlt)
        have c4 := hk.free i
        have HS := Lib.hid (Blk64.lay hk (cutS_step (sr m l1) n1 i))
        have HSB : Hid (Below w.heap.size w (wr.setCell ⟨w.heap.size, i, none⟩ (.int .i64 (zn (sr m l1 i))))) := hB.setCell (p := ⟨w.heap.size, i, none⟩) (Nat.le_refl _) _
        have HRw := Lib.hid (HR.out.below hB)
        clear hk hB hb
        go_wp2_with fail
        refine (elem_any (l1.getD i 0) wr HRw.out).mono ?_
        rintro e w1 ⟨rfl, rfl⟩
        rw [sr_at]
        go_wp2_with fail
        go_roundg (n1 - (i + 1))
        case measure => have := HG.out; omega
        case rel => exact ⟨i + 1, rfl, by omega, by go_num, HS.out, HSB.out⟩
      · obtain rfl : i = n1 := by omega
        rw [cutS_all HBP.out] at hk
        go_wp2_with fail
        go_loopg [38] n2 (fun gh s38 wx => ∃ (j : Nat), gh = n2 - j ∧ j ≤ n2 ∧ s38 = .int .i64 (j : Int) ∧ Blk64 wx w.heap.size (nums (padd (sr m l1) (cutS (sr m l2) j)) i) ∧ Below w.heap.size w wx)
        case atStart => exact ⟨0, rfl, by omega, rfl, by rw [cutS_zero, padd_zero]; exact hk, hB⟩
        case round =>
          clear hk hB
          obtain ⟨j, hg, hjn, rfl, hk, hB⟩ := hrel
          have HG2 := Lib.hid hg
          clear hg
          by_cases hlt2 : j < n2
          · have y1 : (j : Int) < (n2 : Int) := by omega
            have y0 : (0 : Int) ≤ (j : Int) := by omega
            have y2 : (j : Int) < (i : Int) := by omega
            have hji : j < i := by omega
            obtain ⟨bb, off, rfl, c1, hb⟩ := (HP2.out.below hB).row j hlt2
            go_wp2_with fail
            have hk : Blk64 wr.drew w.heap.size (nums (padd (sr m l1) (cutS (sr m l2) j)) i) := hk
            have hB : Below w.heap.size w wr.drew := Below.drew hB
            refine wp_region_still_tail 13 (by kernel_rfl) (by kernel_rfl) ?_
            simp only [List.take_succ_cons, List.take_zero, List.drop_succ_cons, List.drop_zero]
            change wpStill _ _ wr.drew (fun a' => wpList _ _ _ _ a' wr.drew) _ _
            clear c1
            generalize wr.drew = w2 at hk hB ⊢
            have HRw := Lib.hid (HR.out.below hB).2
            have c0 := (HR.out.below hB).cell
            have c3 := hk.cell (i := j) (by rw [nums_length]; exact hji)
            have e3 : nth64 (nums (padd (sr m l1) (cutS (sr m l2) j)) i) j = zn (padd (sr m l1) (cutS (sr m l2) j) j) := nums_at _ _ _ hji
            rw [e3] at c3
            have c4 := hk.free j
            have HZ : Hid (h (el m (zn (padd (sr m l1) (cutS (sr m l2) j) j)) ^^^ el m (l2.getD j 0)) = zn (padd (sr m l1) (cutS (sr m l2) (j + 1)) j)) := add_new (sr m l1) l2 j
            have HS := Lib.hid (Blk64.lay hk (add_step (sr m l1) (sr m l2) i j))
            generalize zn (padd (sr m l1) (cutS (sr m l2) j) j) = z1 at c3 HZ
            generalize zn (padd (sr m l1) (cutS (sr m l2) (j + 1)) j) = z3 at HZ HS
            have HSB : Hid (Below w.heap.size w (w2.setCell ⟨w.heap.size, j, none⟩ (.int .i64 z3))) := hB.setCell (p := ⟨w.heap.size, j, none⟩) (Nat.le_refl _) _
            clear hk hB hb e3
            repeat still_step
            still_call ((add_any M.lo M.hi z1 (l2.getD j 0) w2 HRw.out).mono fun _ _ h => ⟨h.1, h.2.symm⟩)
            rw [HZ.out]
            repeat still_step
            refine wpStill_nil ?_
            go_wp2_with fail
            go_roundg (n2 - (j + 1))
            case measure => have := HG2.out; omega
            case rel => exact ⟨j + 1, rfl, by omega, by go_num, HS.out, HSB.out⟩
          · obtain rfl : j = n2 := by omega
            rw [cutS_all HBQ.out] at hk
            have hrow := Blk64.row hk i (by rw [nums_length]; exact Nat.le_refl _) (by rw [nums_length]; omega)
            rw [nums_length, nums_take _ (Nat.le_refl _)] at hrow
            have HK := Lib.hid hk
            have HRow := Lib.hid hrow
            clear hk hrow
            go_wp2_with fail
            refine (cut_any _ i i _ wr HRow.out).mono ?_
            rintro e w3 ⟨rfl, rfl⟩
            go_wp2_with fail
            go_ret
            exact ⟨_, _, _, rfl, Or.inr ⟨_, i, rfl, Nat.le_refl _, by omega, rfl, HK.out, rfl, (HBP.out.add (HBQ.out.mono (by omega)))⟩, hB⟩
end
end Go.Proofs.YthmfneepnkgmgaaGreatDoor.Pl
/- The walk over package fieldpoly's Mul. By the verifier of shale. -/
namespace Go.Proofs.YthmfneepnkgmgaaGreatDoor.Pl
open Go Go.RowKit Fld Bits16
set_option linter.unusedVariables false
section
variable {m : Nat} [M : Mid m]
theorem top_none {p : Ser (El m)} {n : Nat} (hb : Bd p n) (h0 : top p n = 0) : p = pz := by
  have := top_bd hb
  rw [h0] at this
  exact this.zero
theorem top_dg {p : Ser (El m)} {d : Nat} (h : Dg p d) : top p (d + 1) = d + 1 := top_some h.1
theorem dg_top {p : Ser (El m)} {n N : Nat} (hb : Bd p n) (hN : N + 1 = top p n) : Dg p N := by
  have := (top_ne (p := p) (n := n) (by omega)).resolve_right fun x => x hb
  rwa [← hN, Nat.add_sub_cancel] at this
theorem cutS_add (p : Ser (El m)) (k : Nat) : cutS p (k + 1) = padd (cutS p k) (mono k (p k)) := by
  funext i
  show (if i < k + 1 then p i else 0) = (if i < k then p i else 0) + (if i = k then p k else 0)
  by_cases h : i < k
  · rw [if_pos h, if_pos (by omega), if_neg (by omega), Fl.add_zero]
  · by_cases e : i = k
    · subst e; rw [if_neg h, if_pos (by omega), if_pos rfl, zero_add]
    · rw [if_neg h, if_neg (by omega), if_neg e, Fl.add_zero]
theorem mul_step (p q : Ser (El m)) (k : Nat) : padd (cv (cutS p k) q) (cv (mono k (p k)) q) = cv (cutS p (k + 1)) q := by rw [cutS_add, cv_add]
theorem out_nil (w w' : World) : Out m w w' none 0 0 pz := Or.inl ⟨rfl, rfl, rfl, rfl⟩
set_option maxRecDepth 100000 in
set_option maxHeartbeats 2000000 in
theorem pmul_any {g s be ce bl : Nat} (a1 : Option Addr) (n1 c1 : Nat) (l1 : List Int) (a2 : Option Addr) (n2 c2 : Nat) (l2 : List Int) (w : World) (R : RingAt m w g s be ce bl) (h1 : RowZ w a1 n1 c1 l1) (h2 : RowZ w a2 n2 c2 l2) (k1 : n1 ≤ 100000) (k2 : n2 ≤ 100000) (hlong : top (sr m l1) n1 + top (sr m l2) n2 ≤ 2048) :
    Calls Tryz.prog 113 #[.pointer (some ⟨g, 0, none⟩), .slice a1 n1 c1, .slice a2 n2 c2] w
      fun e w' => ∃ a' n' cap', e = .returned (.tuple #[.slice a' n' cap', .nilIface]) ∧ Out m w w' a' n' cap' (cv (sr m l1) (sr m l2)) ∧ Below w.heap.size w w' := by
  have HR := Lib.hid R
  have HP1 := Lib.hid h1
  have HP2 := Lib.hid h2
  have hb1 : Bd (sr m l1) n1 := by have := sr_bd (m := m) l1; rwa [← h1.hlen] at this
  have hb2 : Bd (sr m l2) n2 := by have := sr_bd (m := m) l2; rwa [← h2.hlen] at this
  have HB1 : Hid (Bd (sr m l1) (top (sr m l1) n1)) := top_bd hb1
  have HB2 : Hid (Bd (sr m l2) (top (sr m l2) n2)) := top_bd hb2
  obtain ⟨N1, hN1⟩ : ∃ N, N = top (sr m l1) n1 := ⟨_, rfl⟩
  obtain ⟨N2, hN2⟩ : ∃ N, N = top (sr m l2) n2 := ⟨_, rfl⟩
  rw [← hN1] at HB1 hlong
  rw [← hN2] at HB2 hlong
  have HN1 := Lib.hid hN1
  have HN2 := Lib.hid hN2
  have t1 : decide ((2048 : Int) < (N1 : Int) + (N2 : Int)) = false := decide_eq_false (by omega)
  have hz : (N1 = 0 ∨ N2 = 0) ∨ (N1 ≠ 0 ∧ N2 ≠ 0) := by omega
  have H0 : Hid ((N1 = 0 ∨ N2 = 0) → cv (sr m l1) (sr m l2) = pz) := fun h => by
    rcases h with h | h
    · rw [top_none hb1 (hN1.symm.trans h), cv_zero]
    · rw [top_none hb2 (hN2.symm.trans h), zero_cv]
  have HT : Hid (N1 ≠ 0 ∧ N2 ≠ 0 → Dg (cv (sr m l1) (sr m l2)) (N1 + N2 - 2)) := fun h => by
    have d1 := dg_top (N := N1 - 1) hb1 (by omega)
    have d2 := dg_top (N := N2 - 1) hb2 (by omega)
    have := d1.mul d2
    rwa [show N1 - 1 + (N2 - 1) = N1 + N2 - 2 by omega] at this
  clear R h1 h2 hb1 hb2 hN1 hN2
  go_enter Tryz.func113, Tryz.ntmps113
  go_wp2_with fail
  refine (trim_any a1 n1 c1 l1 w HR.out HP1.out (by omega)).mono ?_
  rintro e w1 ⟨rfl, hk1, b1⟩
  rw [← HN1.out] at hk1 ⊢
  go_wp2_with fail
  refine (trim_any a2 n2 c2 l2 w1 (HR.out.below b1) (HP2.out.below b1) (by omega)).mono ?_
  rintro e w2 ⟨rfl, hk2, b2⟩
  rw [← HN2.out] at hk2 ⊢
  have hg2 : w.heap.size < w1.heap.size := hk1.lt
  replace hk1 : Blk64 w2 w.heap.size (nums (sr m l1) N1) := (b2.block _ hk1.lt).trans hk1
  have B2 := b1.trans (b2.mono b1.size)
  have R2 := (HR.out.below b1).below b2
  obtain ⟨q1, q2, q3⟩ := HR.out.2.lt M.lo
  have hw2 := hk2.lt
  clear b1 b2 HP1 HP2
  rcases hz with hz | ⟨z1, z2⟩
  · have HZ := Lib.hid (H0.out hz)
    have tz : ((N1 : Int) == 0) = true ∨ (((N1 : Int) == 0) = false ∧ ((N2 : Int) == 0) = true) := by
      by_cases h : N1 = 0
      · exact Or.inl (by rw [h]; rfl)
      · exact Or.inr ⟨by rw [beq_eq_false_iff_ne]; omega, by rw [show N2 = 0 by omega]; rfl⟩
    clear hz hk1 hk2 R2
    rcases tz with t2 | ⟨t2, t3⟩
    all_goals
      go_wp2_with fail
      go_ret2
      exact ⟨none, 0, 0, rfl, by rw [HZ.out]; exact out_nil (m := m) w w2, B2⟩
  · have HTD := Lib.hid (HT.out ⟨z1, z2⟩)
    have t2 : ((N1 : Int) == 0) = false := by rw [beq_eq_false_iff_ne]; omega
    have t3 : ((N2 : Int) == 0) = false := by rw [beq_eq_false_iff_ne]; omega
    obtain ⟨N, hN⟩ : ∃ N, N = N1 + N2 - 1 := ⟨_, rfl⟩
    have eN : (N1 : Int) + (N2 : Int) - 1 = (N : Int) := by omega
    have hmk := made64 w2 N (by omega)
    rw [nums_pz (m := m)] at hmk
    have bl : Below w2.heap.size w2 (w2.alloc (obj64 (nums (pz : Ser (El m)) N))) := (Below.refl _ _).alloc (Nat.le_refl _) _
    have HK0 : Hid (Blk64 (w2.alloc (obj64 (nums (pz : Ser (El m)) N))) w2.heap.size (nums (pz : Ser (El m)) N)) := Blk64.new w2 _
    have HK1 : Hid (Blk64 (w2.alloc (obj64 (nums (pz : Ser (El m)) N))) w.heap.size (nums (sr m l1) N1)) := (bl.block _ hk1.lt).trans hk1
    have HK2 : Hid (Blk64 (w2.alloc (obj64 (nums (pz : Ser (El m)) N))) w1.heap.size (nums (sr m l2) N2)) := (bl.block _ hk2.lt).trans hk2
    have HR2 := Lib.hid (R2.below bl)
    have HBB := Lib.hid (B2.trans (bl.mono B2.size))
    have HNN := Lib.hid hN
    have hbs := B2.size
    have hN1 : N1 ≤ N := by omega
    have hN2 : N2 ≤ N := by omega
    have hNs : N1 + N2 = N + 1 := by omega
    clear hk1 hk2 R2 bl B2 hN H0 HT
    go_wp2_with fail
    clear hmk eN t1 t2 t3
    generalize w2.alloc (obj64 (nums (pz : Ser (El m)) N)) = w3 at HK0 HK1 HK2 HR2 HBB ⊢
    generalize hg3 : w2.heap.size = g3 at HK0 hw2 hbs ⊢
    have HG3 := Lib.hid hg3
    clear hg3
    generalize w1.heap.size = g2 at HK2 hw2 hg2 ⊢
    go_loopg [41] N1 (fun gh s41 wx => ∃ (i : Nat), gh = N1 - i ∧ i ≤ N1 ∧ s41 = .int .i64 (i : Int) ∧ Blk64 wx g3 (nums (cv (cutS (sr m l1) i) (sr m l2)) N) ∧ Upd g3 w3 wx)
    case atStart => exact ⟨0, rfl, by omega, rfl, by rw [cutS_zero, cv_zero]; exact HK0.out, Upd.refl _ _⟩
    case round =>
      clear HK0
      obtain ⟨i, hg, hin, rfl, hk, hU⟩ := hrel
      have HG := Lib.hid hg
      clear hg
      have hU : Upd g3 w3 wr := hU
      by_cases hlt : i < N1
      · have x1 : (i : Int) < (N1 : Int) := by omega
        have x0 : (0 : Int) ≤ (i : Int) := by omega
        have x2 : (i : Int) ≤ (N : Int) := by omega
        have x3 : ¬ N = i := by omega
        have c1 := (hU.cell (p := ⟨w.heap.size, i, none⟩) (by have := HK1.out.lt; exact this) (by show w.heap.size ≠ g3; omega)).trans (HK1.out.cell (i := i) (by rw [nums_length]; exact hlt))
        have e1 : nth64 (nums (sr m l1) N1) i = zn (sr m l1 i) := nums_at _ _ _ hlt
        rw [e1] at c1
        go_wp2_with fail
        have hk : Blk64 wr.drew g3 (nums (cv (cutS (sr m l1) i) (sr m l2)) N) := hk
        have hU : Upd g3 w3 wr.drew := hU.drew
        have c2 : wr.drew.cell? ⟨g, 0, none⟩ = some (.pointer (some ⟨s, 0, none⟩)) := (hU.cell (p := ⟨g, 0, none⟩) (World.block_lt_of_cell? _ _ HR2.out.cell) (by
          have h5 := World.block_lt_of_cell? _ _ HR.out.cell
          show g ≠ g3
          have h6 : g < w.heap.size := h5
          omega)).trans HR2.out.cell
        refine wp_region_still_tail 10 (by kernel_rfl) (by kernel_rfl) ?_
        simp only [List.take_succ_cons, List.take_zero, List.drop_succ_cons, List.drop_zero]
        change wpStill _ _ wr.drew (fun a' => wpList _ _ _ _ a' wr.drew) _ _
        clear c1 e1
        generalize wr.drew = w4 at hk hU c2 ⊢
        have HK := Lib.hid hk
        have HU := Lib.hid hU
        clear hk hU
        repeat still_step
        refine wpStill_nil ?_
        go_wp2_with fail
        have F4 := fld_upd HR2.out.2 HU.out (by omega) (by omega) (by omega)
        have row4 : RowZ w4 (some ⟨g2, 0, none⟩) N2 N2 (nums (sr m l2) N2) := by
          have h := Blk64.row HK2.out N2 (by rw [nums_length]; exact Nat.le_refl _) (by rw [nums_length]; omega)
          rw [nums_length, nums_take _ (Nat.le_refl _)] at h
          exact h.upd HU.out (fun bb o e _ => by simp only [Option.some.injEq, Addr.mk.injEq] at e; omega)
        refine (times_any g3 i (N - i) (N - i) N (cv (cutS (sr m l1) i) (sr m l2)) (some ⟨g2, 0, none⟩) N2 N2 (nums (sr m l2) N2) (zn (sr m l1 i)) w4 F4 HK.out (by omega) row4 (by omega) (by omega) (by omega) (by omega) (by omega) (fun bb o e _ => by simp only [Option.some.injEq, Addr.mk.injEq] at e; omega)).mono ?_
        rintro e w5 ⟨rfl, hk, hU⟩
        rw [elm_zn, sr_nums HB2.out, mul_step] at hk
        have hU5 : Upd g3 w3 w5 := HU.out.trans hU
        clear F4 row4 hU c2 HK HU
        go_wp2_with fail
        go_roundg (N1 - (i + 1))
        case measure => have := HG.out; omega
        case rel => exact ⟨i + 1, rfl, by omega, by go_num, hk, hU5⟩
      · obtain rfl : i = N1 := by omega
        rw [cutS_all HB1.out] at hk
        have HO : Hid (Out m w wr (some ⟨g3, 0, none⟩) N N (cv (sr m l1) (sr m l2))) := by
          have hd := HTD.out
          have e : i + N2 - 2 + 1 = N := by omega
          have h1 := top_dg hd
          have h2 := hd.2
          rw [e] at h1 h2
          exact Or.inr ⟨g3, N, rfl, by omega, by omega, rfl, hk, h1.symm, h2⟩
        have hB := HBB.out.trans (hU.toBelow (by omega) HBB.out.size)
        clear hk hU
        go_wp2_with fail
        go_ret2
        exact ⟨_, _, _, rfl, HO.out, hB⟩
end
end Go.Proofs.YthmfneepnkgmgaaGreatDoor.Pl
/- The walks over package fieldpoly: Eval, Derive, New. By the verifier of shale. -/
namespace Go.Proofs.YthmfneepnkgmgaaGreatDoor.Pl
open Go Go.RowKit Fld Bits16
set_option linter.unusedVariables false
/-- from the k-th on. -/
def dr {m : Nat} (p : Ser (El m)) (k : Nat) : Ser (El m) := fun i => p (k + i)
theorem dr_tl {m : Nat} (p : Ser (El m)) (k : Nat) : tl (dr p k) = dr p (k + 1) := funext fun i => by show p (k + (i + 1)) = p (k + 1 + i); congr 1; omega
section
variable {m : Nat} [M : Mid m]
theorem ev_dr (p : Ser (El m)) (k j : Nat) (x : El m) : ev (j + 1) (dr p k) x = ev j (dr p (k + 1)) x * x + p k := by
  show dr p k 0 + x * ev j (tl (dr p k)) x = _
  rw [dr_tl, Fl.mul_comm x, Fl.add_comm]; rfl
theorem mul_zz (a : El m) (x : Int) : h (fmul m (el m (zn a)) (el m x)) = zn (a * elm m x) := by
  have e1 : el m (zn a) = a.val := congrArg Subtype.val (elm_zn a)
  rw [e1]; rfl
theorem add_zz (a : El m) (x : Int) : h (el m (zn a) ^^^ el m x) = zn (a + elm m x) := by
  have e1 : el m (zn a) = a.val := congrArg Subtype.val (elm_zn a)
  rw [e1]; rfl
theorem drewn_cell {w : World} {p : Addr} {v : Option Value} (h : w.cell? p = v) (n : Nat) : (w.drewN n).cell? p = v := h
end
end Go.Proofs.YthmfneepnkgmgaaGreatDoor.Pl
/- The walks over package fieldpoly: Derive, New. By the verifier of shale. -/
namespace Go.Proofs.YthmfneepnkgmgaaGreatDoor.Pl
open Go Go.RowKit Fld Bits16
set_option linter.unusedVariables false
section
variable {m : Nat} [M : Mid m]
/-- the derivative. -/
def der (p : Ser (El m)) : Ser (El m) := fun i => if i % 2 = 0 then p (i + 1) else 0
theorem der_bd {p : Ser (El m)} {n : Nat} (h : Bd p (n + 1)) : Bd (der p) n := fun i hi => by
  unfold der
  split
  · exact h (i + 1) (by omega)
  · rfl
theorem der_step (p : Ser (El m)) (n k : Nat) : (nums (cutS (der p) (2 * k)) n).set (2 * k) (zn (p (2 * k + 1))) = nums (cutS (der p) (2 * (k + 1))) n := by
  have h := nums_set (cutS (der p) (2 * k)) (cutS (der p) (2 * (k + 1))) n (2 * k) (fun j hj => by
    unfold cutS
    by_cases h2 : j < 2 * k
    · rw [if_pos h2, if_pos (by omega)]
    · rw [if_neg h2]
      by_cases h3 : j < 2 * (k + 1)
      · rw [if_pos h3]
        unfold der
        rw [if_neg (by omega)]
      · rw [if_neg h3])
  have e : cutS (der p) (2 * (k + 1)) (2 * k) = p (2 * k + 1) := by
    unfold cutS
    rw [if_pos (by omega)]
    unfold der
    rw [if_pos (by omega)]
  rw [e] at h
  exact h
theorem cutS_wide {q : Ser (El m)} {n k : Nat} (h : Bd q n) (hk : n ≤ k) : cutS q k = q := cutS_all (h.mono hk)
theorem der_pz : der (pz : Ser (El m)) = pz := funext fun i => by unfold der; split <;> rfl
theorem pnew_any {s be ce bl : Nat} (w : World) (F : FldAt m w s be ce bl) :
    Calls Tryz.prog 123 #[.pointer (some ⟨s, 0, none⟩)] w fun e w' => ∃ g, e = .returned (.pointer (some ⟨g, 0, none⟩)) ∧ RingAt m w' g s be ce bl ∧ Below w.heap.size w w' := by
  have b0 : Below w.heap.size w (w.alloc (.cells #[.pointer (some ⟨s, 0, none⟩)] 177)) := (Below.refl _ _).alloc (Nat.le_refl _) _
  have HR : Hid (RingAt m (w.alloc (.cells #[.pointer (some ⟨s, 0, none⟩)] 177)) w.heap.size s be ce bl) := ⟨heap_alloc_new w _, F.below M.lo b0⟩
  have HB := Lib.hid b0
  clear F b0
  go_enter Tryz.func123, Tryz.ntmps123
  go_wp2_with fail
  go_ret
  exact ⟨_, rfl, HR.out, HB.out⟩
end
end Go.Proofs.YthmfneepnkgmgaaGreatDoor.Pl
/- The walk over package fieldpoly's DivMod. By the verifier of shale. -/
namespace Go.Proofs.YthmfneepnkgmgaaGreatDoor.Pl
open Go Go.RowKit Fld Bits16
set_option linter.unusedVariables false
section
variable {m : Nat} [M : Mid m]
theorem inv_zz (a : El m) (h0 : a ≠ 0) : h (pwZ m (-(lg m (el m (zn a)) : Int))) = zn a⁻¹ := by
  have e1 : el m (zn a) = a.val := congrArg Subtype.val (elm_zn a)
  rw [e1]
  have hv : a.val ≠ 0 := fun e => h0 (El.ext e)
  obtain ⟨l1, l2⟩ := lg_spec m M.lo M.hi a.val a.2 hv
  let b : El m := ⟨pwZ m (-(lg m a.val : Int)), pwZ_lt m M.lo M.hi _⟩
  have : a * b = 1 := by
    apply El.ext
    show fmul m a.val (pwZ m (-(lg m a.val : Int))) = 1
    have ha : a.val = pwZ m ((lg m a.val : Nat) : Int) := by rw [pwZ_nat m M.lo M.hi]; exact l2.symm
    rw [show fmul m a.val (pwZ m (-(lg m a.val : Int))) = fmul m (pwZ m ((lg m a.val : Nat) : Int)) (pwZ m (-(lg m a.val : Int))) by rw [← ha]]
    rw [pwZ_mul m M.lo M.hi, show ((lg m a.val : Nat) : Int) + -(lg m a.val : Int) = ((0 : Nat) : Int) by omega, pwZ_nat m M.lo M.hi]; rfl
  rw [← inv_unique this]; rfl
theorem RingAt.upd {x : Nat} {w w' : World} {g s be ce bl : Nat} (h : RingAt m w g s be ce bl) (U : Upd x w w') (n0 : g ≠ x) (n1 : s ≠ x) (n2 : be ≠ x) (n3 : bl ≠ x) : RingAt m w' g s be ce bl :=
  ⟨(U.block g (lt_of_block h.1) n0).trans h.1, fld_upd h.2 U n1 n2 n3⟩
/-- where the division stands, the quotient's coefficients from i on being there. -/
structure Divs (P Q A L : Ser (El m)) (e N i : Nat) : Prop where
  sum : P = padd (cv A Q) L
  low : Bd L (i + e)
  bd : Bd A N
  free : ∀ j, j < i → A j = 0
theorem Divs.next {P Q A L : Ser (El m)} {e N i : Nat} (h : Divs P Q A L e N (i + 1)) (hQ : Dg Q e) (hi : i < N) :
    Divs P Q (padd A (mono i (L (i + e) * (Q e)⁻¹))) (padd L (cv (mono i (L (i + e) * (Q e)⁻¹)) Q)) e N i := by
  refine ⟨?_, ?_, h.bd.add ((mono_bd _ _).mono (by omega)), fun j hj => ?_⟩
  · rw [cv_add, padd_xx, padd_comm, h.sum]
    have : padd (cv (mono i (L (i + e) * (Q e)⁻¹)) Q) (cv (mono i (L (i + e) * (Q e)⁻¹)) Q) = pz := padd_self _
    rw [this, zero_padd]
  · have := div_step (k := i + e) hQ (h.low.mono (by omega)) (by omega)
    rwa [show i + e - e = i by omega] at this
  · show A j + mono i _ j = 0
    rw [h.free j (by omega), show mono i (L (i + e) * (Q e)⁻¹) j = 0 from if_neg (by omega), Fl.add_zero]
theorem Divs.dv {P Q A L : Ser (El m)} {e N : Nat} (h : Divs P Q A L e N 0) : Dv2 P Q A L e := ⟨h.sum, ⟨N, h.bd⟩, by have := h.low; rwa [Nat.zero_add] at this⟩
theorem quo_top {P Q A L : Ser (El m)} {e d N : Nat} (h : Dv2 P Q A L e) (hA : Bd A N) (hQ : Dg Q e) (hP : Dg P d) (hN : d + 1 = e + N) (h0N : 1 ≤ N) : top A N = N := by
  have a0 : A ≠ pz := by
    intro h0
    have h1 := h.sum
    rw [h0, cv_zero, zero_padd] at h1
    rw [h1] at hP
    have := hP.lt h.low
    omega
  obtain ⟨x, hx, hd⟩ := (dg_or hA).resolve_left a0
  have h1 := hd.mul hQ
  have h2 : Dg P (x + e) := by
    rw [h.sum]
    refine ⟨?_, h1.2.add (h.low.mono (by omega))⟩
    show cv A Q (x + e) + L (x + e) ≠ 0
    rw [h.low (x + e) (by omega), Fl.add_zero]; exact h1.1
  have := h2.eq hP
  obtain rfl : N = x + 1 := by omega
  exact top_dg hd
end
end Go.Proofs.YthmfneepnkgmgaaGreatDoor.Pl
/- The walks over package fieldpoly's Mul where it is too long, and Gcd. By the verifier of shale. -/
namespace Go.Proofs.YthmfneepnkgmgaaGreatDoor.Pl
open Go Go.RowKit Fld Bits16
set_option linter.unusedVariables false
section
variable {m : Nat} [M : Mid m]
theorem out_dg {w0 w : World} {a : Option Addr} {n cap : Nat} {p : Ser (El m)} (h : Out m w0 w a (n + 1) cap p) : Dg p n := by
  rcases h with ⟨_, h0, _⟩ | ⟨g, N, _, _, _, _, _, hn, hb⟩
  · omega
  · exact dg_top hb hn
theorem out_top {w0 w : World} {a : Option Addr} {n cap : Nat} {p : Ser (El m)} (h : Out m w0 w a n cap p) : top p n = n := by
  cases n with
  | zero => rfl
  | succ k => exact top_dg (out_dg h)
theorem out_zero {w0 w : World} {a : Option Addr} {cap : Nat} {p : Ser (El m)} (h : Out m w0 w a 0 cap p) : p = pz := h.bd.zero
theorem out_le {w0 w : World} {a : Option Addr} {n cap k : Nat} {p : Ser (El m)} (h : Out m w0 w a n cap p) (hb : Bd p k) : n ≤ k := by
  cases n with
  | zero => exact Nat.zero_le _
  | succ j => exact (out_dg h).lt hb
theorem top_top (p : Ser (El m)) (n : Nat) (hb : Bd p n) : top p (top p n) = top p n := by
  cases hN : top p n with
  | zero => rfl
  | succ k => exact top_dg (dg_top hb hN.symm)
theorem out_trim {w w' : World} {p : Ser (El m)} {n : Nat} (hb : Bd p n) (hn : n ≤ 100000) (hk : Blk64 w' w.heap.size (nums p (top p n))) : Out m w w' (some ⟨w.heap.size, 0, none⟩) (top p n) (top p n) p :=
  Or.inr ⟨_, top p n, rfl, Nat.le_refl _, by have := top_le p n; omega, rfl, hk, (top_top p n hb).symm, top_bd hb⟩
set_option maxRecDepth 100000 in
set_option maxHeartbeats 2000000 in
theorem pmul_long {g s be ce bl : Nat} (a1 : Option Addr) (n1 c1 : Nat) (l1 : List Int) (a2 : Option Addr) (n2 c2 : Nat) (l2 : List Int) (w : World) (R : RingAt m w g s be ce bl) (h1 : RowZ w a1 n1 c1 l1) (h2 : RowZ w a2 n2 c2 l2) (k1 : n1 ≤ 100000) (k2 : n2 ≤ 100000) (hlong : 2048 < top (sr m l1) n1 + top (sr m l2) n2) (p : Addr) (E : ErrAt w 0 p) :
    Calls Tryz.prog 113 #[.pointer (some ⟨g, 0, none⟩), .slice a1 n1 c1, .slice a2 n2 c2] w
      fun e w' => e = .returned (.tuple #[.slice none 0 0, errOf p]) ∧ Below w.heap.size w w' := by
  have HR := Lib.hid R
  have HP1 := Lib.hid h1
  have HP2 := Lib.hid h2
  have HE := Lib.hid E
  have ht1 := top_le (sr m l1) n1
  have ht2 := top_le (sr m l2) n2
  obtain ⟨N1, hN1⟩ : ∃ N, N = top (sr m l1) n1 := ⟨_, rfl⟩
  obtain ⟨N2, hN2⟩ : ∃ N, N = top (sr m l2) n2 := ⟨_, rfl⟩
  rw [← hN1] at hlong ht1
  rw [← hN2] at hlong ht2
  have HN1 := Lib.hid hN1
  have HN2 := Lib.hid hN2
  have t1 : decide ((2048 : Int) < (N1 : Int) + (N2 : Int)) = true := decide_eq_true (by omega)
  clear R h1 h2 E hN1 hN2
  go_enter Tryz.func113, Tryz.ntmps113
  go_wp2_with fail
  refine (trim_any a1 n1 c1 l1 w HR.out HP1.out (by omega)).mono ?_
  rintro e w1 ⟨rfl, hk1, b1⟩
  rw [← HN1.out] at hk1 ⊢
  go_wp2_with fail
  refine (trim_any a2 n2 c2 l2 w1 (HR.out.below b1) (HP2.out.below b1) (by omega)).mono ?_
  rintro e w2 ⟨rfl, hk2, b2⟩
  rw [← HN2.out] at hk2 ⊢
  have B2 := b1.trans (b2.mono b1.size)
  have e1 := (HE.out.below B2).1
  unfold Sent at e1
  clear hk1 hk2 b1 b2
  go_wp2_with fail
  go_quiet (fail)
  have hd2 := B2.trans ((Drawn.mk w2 nq).below w.heap.size)
  generalize w2.drewN nq = w5 at hd2 ⊢
  clear e1
  go_wp2_with fail
  go_ret2
  exact ⟨rfl, hd2⟩
end
end Go.Proofs.YthmfneepnkgmgaaGreatDoor.Pl
/- The walk over package fieldpoly's Roots. By the verifier of shale. -/
namespace Go.Proofs.YthmfneepnkgmgaaGreatDoor.Pl
open Go Go.RowKit Fld Bits16
set_option linter.unusedVariables false
section
variable {m : Nat} [M : Mid m]
open Classical in
/-- the elements below j at which the first n of P are 0, rising. -/
noncomputable def rts (n : Nat) (P : Ser (El m)) : Nat → List Nat
  | 0 => []
  | j + 1 => rts n P j ++ if ev n P (elm m (j : Int)) = 0 then [j] else []
def intsN (l : List Nat) : List Int := List.map (fun e : Nat => (e : Int)) l
theorem rts_lt (n : Nat) (P : Ser (El m)) : ∀ j i, i ∈ rts n P j → i < j
  | 0, i, h => by simp [rts] at h
  | j + 1, i, h => by
    rw [rts, List.mem_append] at h
    rcases h with h | h
    · have := rts_lt n P j i h; omega
    · split at h
      · simp at h; omega
      · simp at h
theorem rts_root (n : Nat) (P : Ser (El m)) : ∀ j i, i ∈ rts n P j → ev n P (elm m (i : Int)) = 0
  | 0, i, h => by simp [rts] at h
  | j + 1, i, h => by
    rw [rts, List.mem_append] at h
    rcases h with h | h
    · exact rts_root n P j i h
    · split at h
      · rename_i h0
        simp at h; rw [h]; exact h0
      · simp at h
theorem rts_nodup (n : Nat) (P : Ser (El m)) : ∀ j, (rts n P j).Nodup
  | 0 => List.nodup_nil
  | j + 1 => by
    rw [rts]
    split
    · rw [List.nodup_append]
      refine ⟨rts_nodup n P j, by simp, fun a ha b hb => ?_⟩
      have := rts_lt n P j a ha
      simp at hb; omega
    · rw [List.append_nil]; exact rts_nodup n P j
theorem elm_inj {i j : Nat} (hi : i < 2 ^ m) (hj : j < 2 ^ m) (h : elm m (i : Int) = elm m (j : Int)) : i = j := by
  have h1 : el m (i : Int) = el m (j : Int) := congrArg Subtype.val h
  have h2 := congrArg BitVec.toNat h1
  rw [el_nat m M.hi, el_nat m M.hi] at h2
  have hp := pow14 m M.hi
  have e : ∀ k : Nat, k < 2 ^ m → (BitVec.ofInt 64 (k : Int)).toNat % 2 ^ m = k := fun k hk => by
    have : (BitVec.ofInt 64 (k : Int)).toNat = k := by rw [BitVec.toNat_ofInt]; omega
    rw [this, Nat.mod_eq_of_lt hk]
  rwa [e i hi, e j hj] at h2
theorem rts_len {d : Nat} {P : Ser (El m)} (hP : Dg P d) (j : Nat) (hj : j ≤ 2 ^ m) : (rts (d + 1) P j).length ≤ d := by
  have := roots_le d P ((rts (d + 1) P j).map fun i : Nat => elm m (i : Int)) hP (by
    rw [List.Nodup, List.pairwise_map]
    refine List.Pairwise.imp_of_mem (fun ha hb hne h => hne ?_) (rts_nodup (d + 1) P j)
    exact elm_inj (by have := rts_lt _ P j _ ha; omega) (by have := rts_lt _ P j _ hb; omega) h) (fun a ha => by
    obtain ⟨i, hi, rfl⟩ := List.mem_map.1 ha
    exact rts_root _ P j i hi)
  rwa [List.length_map] at this
theorem rts_stop {d : Nat} {P : Ser (El m)} (hP : Dg P d) (j : Nat) (hl : (rts (d + 1) P j).length = d) : ∀ k, j + k ≤ 2 ^ m → rts (d + 1) P (j + k) = rts (d + 1) P j
  | 0, _ => rfl
  | k + 1, h => by
    have ih := rts_stop hP j hl k (by omega)
    have hle := rts_len hP (j + k + 1) (by omega)
    rw [rts, ih] at hle
    show rts (d + 1) P (j + k + 1) = _
    rw [rts, ih]
    split
    · rename_i h0
      rw [if_pos h0, List.length_append, hl] at hle
      simp at hle
      exact absurd hle (by omega)
    · rw [List.append_nil]
theorem own_slice {w : World} {base n : Nat} {v : Value} {l : List Int} (e : Own64 w base v n l) : ∃ a c, v = .slice a n c := by
  rcases e.2 with ⟨h0, h1⟩ | ⟨g', cap', cur, hv, _⟩
  · exact ⟨none, 0, by rw [h0, h1]⟩
  · exact ⟨_, _, hv⟩
theorem own_from {w : World} {base base' n : Nat} {v : Value} {l : List Int} (e : Own64 w base v n l) (hb : base' ≤ base) : Own64 w base' v n l := by
  refine ⟨e.1, ?_⟩
  rcases e.2 with h0 | ⟨g', cap', cur, hv, hbg, r⟩
  · exact Or.inl h0
  · exact Or.inr ⟨g', cap', cur, hv, Nat.le_trans hb hbg, r⟩
end
end Go.Proofs.YthmfneepnkgmgaaGreatDoor.Pl
/- A region that draws its order, whose operations read or call quietly up to a tail in one forced order (a store): one walk of the text's order. By the verifier of shale. -/
namespace Go.Proofs.YthmfneepnkgmgaaGreatDoor
open Go
set_option linter.unusedVariables false
section
variable {P : Program} {ops : Array Oper} {md : Region.Mode} {C : World → Prop}
/-- f operations of the first n come up in whatever order, each quiet in the class; then L holds. -/
def HeadQ (P : Program) (md : Region.Mode) (ops : Array Oper) (C : World → Prop) (n : Nat) (L : Array Bool → Act → Prop) : Nat → Array Bool → Act → Prop
  | 0, s, a => L s a
  | f + 1, s, a => Region.ready md ops s ≠ [] ∧ ∀ i ∈ Region.ready md ops s, i < n ∧ qOp P ops C i (HeadQ P md ops C n L f (s.setIfInBounds i true)) a
theorem HeadQ.any {n g : Nat} {L : Array Bool → Act → Prop} {Q' : Exit → Act → World → Prop} (hL : ∀ s a w, C w → L s a → wpAny P md ops Q' g s a w) :
    ∀ (f : Nat) (s : Array Bool) (a : Act) (w : World), C w → HeadQ P md ops C n L f s a → wpAny P md ops Q' (f + g) s a w
  | 0, s, a, w, hw, h => by rw [Nat.zero_add]; exact hL s a w hw h
  | f + 1, s, a, w, hw, h => by
    rw [show f + 1 + g = (f + g) + 1 by omega]
    exact ⟨fun e => absurd e h.1, fun i hi => wpOp_of_qOp hw (fun a' w' hw' h' => HeadQ.any hL f _ a' w' hw' h') (h.2 i hi).2⟩
/-- what is ready and apart from the rest may be taken ahead of all. -/
theorem HeadQ.early {n i : Nat} {o : Oper} {v : Value} {L : Array Bool → Act → Prop} (hi : ops[i]? = some o) (hsel : ∀ (j : Nat) (o : Oper) cs b, ops[j]? = some o → o.op ≠ .select cs b)
    (hs : Region.sinkB md ops n = true) (hc : Region.chainB md ops n = true) (hn : n < ops.size) (hin : i < n) (hL : ∀ s a, L s a → ∀ j ∈ Region.ready md ops s, n ≤ j) (f : Nat) :
    ∀ (s : Array Bool) (a : Act), HeadInv md ops n s →
      (∀ j oj, ops[j]? = some oj → j ≠ i → s.getD j true = false → (∀ e ∈ oj.after, Region.binds md e = true → e.on ≠ i) → o.apart ops oj = true) →
      i ∈ Region.ready md ops s → YieldsIn P ops C o v a → HeadQ P md ops C n L f (s.setIfInBounds i true) (a.put o.dst v) → HeadQ P md ops C n L (f + 1) s a := by
  induction f with
  | zero =>
    intro s a inv hap hr hy h
    have hfr := (mem_ready.1 hr).1
    refine ⟨fun e => by simp [e] at hr, fun j hj => ?_⟩
    have hlt : j < n := Classical.byContradiction fun hge => absurd hj (tail_waits hs hc hn inv _ i rfl hin hfr j (by omega))
    by_cases e : j = i
    · exact ⟨hlt, by rw [e]; exact hy.qOp hi h⟩
    · have := hL _ _ h j (ready_mono hj e); omega
  | succ f ih =>
    intro s a inv hap hr hy h
    have hfr := (mem_ready.1 hr).1
    refine ⟨fun e => by simp [e] at hr, fun j hj => ?_⟩
    have hlt : j < n := Classical.byContradiction fun hge => absurd hj (tail_waits hs hc hn inv _ i rfl hin hfr j (by omega))
    refine ⟨hlt, ?_⟩
    by_cases e : j = i
    · rw [e]; exact hy.qOp hi h
    · obtain ⟨hjf, oj, hoj, haft⟩ := mem_ready.1 hj
      have hno : ∀ e ∈ oj.after, Region.binds md e = true → e.on ≠ i := by
        intro x hx hb he
        have h1 := haft x hx hb
        rw [he, getD_both hfr] at h1
        exact Bool.false_ne_true h1
      refine qOp_mono ?_ (qOp_put hoj (hap j oj hoj e hjf hno) (fun cs b => hsel i o cs b hi) (fun cs b => hsel j oj cs b hoj) hy (h.2 j (ready_mono hj e)).2)
      intro a' h3
      refine ih _ a' (inv.set hj hlt) ?_ (ready_mono hr (Ne.symm e)) h3.1 ?_
      · intro k ok hk hki hkf hkn
        refine hap k ok hk hki ?_ hkn
        by_cases ejk : j = k
        · rw [← ejk]; exact hjf
        · rwa [getD_set_ne true ejk] at hkf
      · rw [Array.setIfInBounds_comm _ _ e]; exact h3.2
/-- the text's order serves for the head. -/
theorem HeadQ.lex {n g : Nat} {T : Act → Prop} (hsel : Region.noSelect ops = true) (hs : Region.sinkB md ops n = true) (hc : Region.chainB md ops n = true) (hn : n < ops.size) :
    ∀ (l : List Oper) (k : Nat) (s : Array Bool) (a : Act), (∀ j, j < l.length → l[j]? = ops[k + j]?) → k + l.length = n → HeadInv md ops n s →
      Region.lexHead md ops g l.length k s = true → wpQuiet P ops C T l a → HeadQ P md ops C n (fun s' a' => Region.seqB md ops g n s' = true ∧ T a') l.length s a
  | [], k, s, a, _, hk, _, hB, h => by
    obtain rfl : k = n := by simpa using hk
    exact ⟨by simpa [Region.lexHead] using hB, h⟩
  | o :: l, k, s, a, hl, hk, inv, hB, h => by
    have h0 : ops[k]? = some o := by simpa using (hl 0 (by simp)).symm
    simp only [List.length_cons, Region.lexHead, Bool.and_eq_true] at hB
    have hk' : k + 1 + l.length = n := by simp only [List.length_cons] at hk; omega
    have hr : k ∈ Region.ready md ops s := by simpa using hB.1.1
    have hq : qOp P ops C k (wpQuiet P ops C T l) a := by unfold qOp; simp only [h0]; exact h
    obtain ⟨v, hy, hK⟩ := yieldsIn_of_qOp h0 hq
    refine HeadQ.early h0 (Region.noSelect_spec hsel) hs hc hn (by omega) (fun s' a' e => seqB_ready e.1) l.length s a inv (Region.free_spec h0 hB.1.2) hr hy ?_
    exact HeadQ.lex hsel hs hc hn l (k + 1) _ _ (fun j hj => by have := hl (j + 1) (by simp; omega); simpa [Nat.add_assoc, Nat.add_comm 1 j] using this) hk' (inv.set hr (by omega)) hB.2 hK
theorem wp_region_quiet_tail {id : Nat} {Q : Exit → Act → World → Prop} {a : Act} {w : World} {l : List Oper} (n : Nat) (hm : P.follows .mixedOrders = true) (hB : Region.lexTailB .any l.toArray n = true)
    (hC : C w.drew) (h : wpQuiet P l.toArray C (fun a' => ∀ w', C w' → wpList P l.toArray Q (l.drop n) a' w') (l.take n) a) : (Code.region id l.toArray true).wp P Q a w := by
  simp only [Region.lexTailB, Bool.and_eq_true, decide_eq_true_eq] at hB
  obtain ⟨⟨⟨⟨hsel, hn⟩, hs⟩, hc⟩, hlex⟩ := hB
  have hnl : n < l.length := by simpa using hn
  have htl : (l.take n).length = n := by simp; omega
  have inv0 : HeadInv .any l.toArray n (Array.replicate l.toArray.size false) :=
    ⟨by simp, fun j oj _ e => (by rw [getD_replicate_false] at e; cases e), fun t _ ht => getD_in (by simpa using ht) (getD_replicate_false _ _)⟩
  have H := HeadQ.lex (md := .any) (g := l.toArray.size - n) hsel hs hc hn (l.take n) 0 _ a (fun j hj => by
    have hj' : j < n := by rw [htl] at hj; exact hj
    simp [hj']) (by simpa using htl) inv0 (by rw [htl]; exact hlex) h
  refine wp_region_any hm ?_
  have hdl : (l.drop n).length = l.toArray.size - n := by simp
  have H2 := HeadQ.any (Q' := Q) (g := l.toArray.size - n) (fun s a' w' hw' hL => by
    have := wpAny_of_seq (md := .any) (Q' := Q) (l.drop n) n s a' w' (fun j => by simp [List.getElem?_drop]) (by rw [hdl]; exact hL.1) (hL.2 w' hw')
    rwa [hdl] at this) _ _ _ w.drew hC H
  rw [htl, show n + (l.toArray.size - n) = l.toArray.size by omega] at H2
  exact H2
end
end Go.Proofs.YthmfneepnkgmgaaGreatDoor
/- The walk over package fieldpoly's FromRoots. By the verifier of shale. -/
namespace Go.Proofs.YthmfneepnkgmgaaGreatDoor.Pl
open Go Go.RowKit Fld Bits16
set_option linter.unusedVariables false
section
variable {m : Nat} [M : Mid m]
set_option maxRecDepth 100000 in
theorem madeCap (w : World) (k n : Nat) (hk : k ≤ n) (hn : n ≤ 1000000) :
    (Instr.makeSlice 33 (.int .i64 (k : Int)) (.int .i64 (n : Int))).run Tryz.prog w = .ok (.slice (some ⟨w.heap.size, 0, none⟩) k n) (w.alloc (obj64 (List.replicate n 0))) := by
  obtain ⟨i0, hi, hz0, hz1, hz2⟩ := info64
  rw [run_make (P := Tryz.prog) w 33 3 i0 (.int .i64 0) Tryz.underlying33 hi hz0 .i64 .i64 (k : Int) (n : Int) (by omega) (by omega) (by rw [hz2]; omega) (by omega)]
  congr 2
  unfold obj64 madeCells
  rw [hz1]
  congr 1
  apply Array.ext
  · simp [cells64]
  · intro i h1 h2
    simp [Value.cells, Nat.mod_one, cells64]
/-- the product of x + a over the first k of l. -/
def pls (l : List Int) : Nat → Ser (El m)
  | 0 => pone
  | k + 1 => cv (pls l k) (lin (elm m (l.getD k 0)))
theorem lin_split (a : El m) : lin a = padd (mono 0 a) (mono 1 1) := by
  funext i
  show (if i = 0 then a else if i = 1 then 1 else 0) = (if i = 0 then a else 0) + (if i = 1 then 1 else 0)
  by_cases h0 : i = 0
  · subst h0; rw [if_pos rfl, if_pos rfl, if_neg (by omega), Fl.add_zero]
  · rw [if_neg h0, if_neg h0, zero_add]
theorem lin_succ (P : Ser (El m)) (a : El m) (i : Nat) : cv P (lin a) (i + 1) = P i + P (i + 1) * a := by
  rw [cv_comm, lin_split, cv_add]
  show cv (mono 0 a) P (i + 1) + cv (mono 1 1) P (i + 1) = _
  rw [cv_mono, cv_mono, if_neg (by omega), if_neg (by omega), Nat.sub_zero, Nat.add_sub_cancel, one_mul, Fl.add_comm, Fl.mul_comm a]
theorem lin_first (P : Ser (El m)) (a : El m) : cv P (lin a) 0 = P 0 * a := by
  rw [cv_comm, lin_split, cv_add]
  show cv (mono 0 a) P 0 + cv (mono 1 1) P 0 = _
  rw [cv_mono, cv_mono, if_neg (by omega), if_pos (by omega), Nat.sub_zero, Fl.add_zero, Fl.mul_comm a]
theorem pls_dg (l : List Int) : ∀ k, Dg (pls (m := m) l k) k
  | 0 => ⟨by show (if (0 : Nat) = 0 then (1 : El m) else 0) ≠ 0; rw [if_pos rfl]; exact Fl.one_ne, fun i hi => if_neg (by omega)⟩
  | k + 1 => (pls_dg l k).mul (lin_dg _)
/-- the new one above i, the old one from i down. -/
def mixS (P Q : Ser (El m)) (i : Nat) : Ser (El m) := fun j => if i < j then Q j else P j
omit M in
theorem mixS_step (P Q : Ser (El m)) (i : Nat) : ∀ j, j ≠ i + 1 → mixS P Q i j = mixS P Q (i + 1) j := by
  intro j hj
  unfold mixS
  by_cases h : i < j
  · rw [if_pos h, if_pos (by omega)]
  · rw [if_neg h, if_neg (by omega)]
omit M in
theorem mixS_new (P Q : Ser (El m)) (i : Nat) : mixS P Q i (i + 1) = Q (i + 1) := if_pos (by omega)
omit M in
theorem mixS_old (P Q : Ser (El m)) (i j : Nat) (h : j ≤ i) : mixS P Q i j = P j := if_neg (by omega)
theorem mixS_bd {P Q : Ser (El m)} {n : Nat} (hP : Bd P (n + 1)) (hQ : Bd Q (n + 1)) : mixS P Q n = P := funext fun j => by
  unfold mixS
  by_cases h : n < j
  · rw [if_pos h, hQ j (by omega), hP j (by omega)]
  · rw [if_neg h]
end
end Go.Proofs.YthmfneepnkgmgaaGreatDoor.Pl
/- The statements' own fields (shaleref2): what each function answers. By the verifier of shale. -/
namespace Go.Proofs.YthmfneepnkgmgaaGreatDoor.Fld
open Go Go.RowKit Bits16
set_option linter.unusedVariables false
set_option maxHeartbeats 400000 in
theorem low_any (m : Nat) (h1 : 3 ≤ m) (h2 : m ≤ 14) (a : Int) : Gives 70 #[.int .i64 (m : Int), .int .i64 a] (.int .i64 (h (el m a))) := by
  intro w
  have ho := shl_one m h2
  have ha := and_els m h2 a
  have e1 := els_lo m h1
  have e2 := els_hi m h2
  go_enter Tryz.func70, Tryz.ntmps70
  go_wp2
  go_ret
  exact ⟨rfl, rfl⟩
set_option maxRecDepth 100000 in
set_option maxHeartbeats 1000000 in
theorem rpoly_in (m : Nat) (h1 : 3 ≤ m) (h2 : m ≤ 14) (w : World) :
    Calls Tryz.prog 101 #[.int .i64 (m : Int)] w fun e w' => e = .returned (.int .i64 (h (poly m))) ∧ Below w.heap.size w w' := by
  have hc := poly_nth m h1 h2
  have a1 : (3 : Int) ≤ (m : Int) := by omega
  have a2 : (m : Int) ≤ 14 := by omega
  go_enter Tryz.func101, Tryz.ntmps101
  go_wp2
  go_ret
  exact ⟨rfl, (Below.refl _ _).alloc (Nat.le_refl _) _⟩
set_option maxHeartbeats 400000 in
theorem rpoly_out (m : Int) (hm : m < 3 ∨ 14 < m) : Gives 101 #[.int .i64 m] (.int .i64 0) := by
  intro w
  rcases hm with hm | hm
  · go_enter Tryz.func101, Tryz.ntmps101
    go_wp2
    go_ret
    exact ⟨rfl, rfl⟩
  · have hm' : ¬ m < 3 := by omega
    have hm2 : 3 ≤ m := by omega
    go_enter Tryz.func101, Tryz.ntmps101
    go_wp2
    go_ret
    exact ⟨rfl, rfl⟩
/-- the loop of the product, its state behind k rounds: a doubled k times, the rest of b, the sum so far. -/
theorem mulN_more (m : Nat) (h1 : 3 ≤ m) (h2 : m ≤ 14) : ∀ (n : Nat) (a b : BitVec 16), b.toNat < 2 ^ n → mulN m (n + 1) a b = mulN m n a b
  | 0, a, b, hb => by
    have : b = 0 := BitVec.eq_of_toNat_eq (by show _ = 0; omega)
    subst this
    rw [mulN_zero, mulN_zero]
  | n + 1, a, b, hb => by
    have e1 : (b >>> 1).toNat = b.toNat / 2 := by rw [BitVec.toNat_ushiftRight, Nat.shiftRight_eq_div_pow]
    have e2 : 2 ^ (n + 1) = 2 * 2 ^ n := by rw [Nat.pow_succ, Nat.mul_comm]
    rw [mulN, mulN_more m h1 h2 n _ _ (by omega)]; rfl
theorem low_bit (b : BitVec 16) : (bits .and .i64 (h b) 1 == 1) = b.getLsbD 0 := by
  rw [show bits .and .i64 (h b) 1 = h (b &&& 1#16) by
    show IntKind.i64.wrap ((BitVec.ofInt 64 (h b) &&& BitVec.ofInt 64 1).toNat : Int) = _
    rw [BitVec.toNat_and, e64, show (BitVec.ofInt 64 1).toNat = (1#16 : BitVec 16).toNat by decide, ← BitVec.toNat_and]; exact w64 _]
  have e : (b &&& 1#16).toNat = b.toNat % 2 := by rw [BitVec.toNat_and]; exact Nat.and_one_is_mod _
  unfold h
  rw [e, BitVec.getLsbD, Nat.testBit_zero, Bool.eq_iff_iff, beq_iff_eq, decide_eq_true_iff]
  omega
theorem half (b : BitVec 16) : h b / 2 = h (b >>> 1) := by
  unfold h
  rw [BitVec.toNat_ushiftRight, Nat.shiftRight_eq_div_pow]; omega
/-- one round of the product's loop. -/
theorem mul_step (m : Nat) (h1 : 3 ≤ m) (h2 : m ≤ 14) (A B : BitVec 16) : mulN m 16 A B = (if B.getLsbD 0 then A else 0) ^^^ mulN m 16 (dbl m A) (B >>> 1) := by
  have e1 : (B >>> 1).toNat = B.toNat / 2 := by rw [BitVec.toNat_ushiftRight, Nat.shiftRight_eq_div_pow]
  rw [mulN_more m h1 h2 15 (dbl m A) (B >>> 1) (by have := B.isLt; omega)]; rfl
theorem top_bit (m : Nat) (h1 : 3 ≤ m) (h2 : m ≤ 14) (A : BitVec 16) (hA : A.toNat < 2 ^ m) :
    (((A <<< 1) >>> m).getLsbD 0 = true ∧ dbl m A = (A <<< 1) ^^^ poly m) ∨ (((A <<< 1) >>> m).getLsbD 0 = false ∧ dbl m A = A <<< 1) := by
  have hm := pow14 m h2
  have e1 : (A <<< 1).toNat = A.toNat * 2 := by
    rw [BitVec.toNat_shiftLeft, Nat.shiftLeft_eq, Nat.pow_one]; omega
  have e2 : ((A <<< 1) >>> m).toNat = A.toNat * 2 / 2 ^ m := by
    rw [BitVec.toNat_ushiftRight, e1, Nat.shiftRight_eq_div_pow]
  have h3 : A.toNat * 2 / 2 ^ m < 2 := Nat.div_lt_of_lt_mul (by omega)
  have hb : ((A <<< 1) >>> m).getLsbD 0 = decide (((A <<< 1) >>> m).toNat % 2 = 1) := by
    rw [BitVec.getLsbD, Nat.testBit_zero]
  by_cases h : (A <<< 1) >>> m = 0
  · refine Or.inr ⟨by rw [h]; rfl, if_pos h⟩
  · refine Or.inl ⟨?_, if_neg h⟩
    rw [hb, e2, decide_eq_true_iff]
    have : A.toNat * 2 / 2 ^ m ≠ 0 := fun h4 => h (BitVec.eq_of_toNat_eq (by rw [e2]; exact h4))
    generalize A.toNat * 2 / 2 ^ m = q at this h3
    omega
section
attribute [local go_sem] rxor
set_option maxRecDepth 100000 in
set_option maxHeartbeats 2000000 in
theorem rmul_any (m : Nat) (h1 : 3 ≤ m) (h2 : m ≤ 14) (a b : Int) (w : World) :
    Calls Tryz.prog 67 #[.int .i64 (m : Int), .int .i64 a, .int .i64 b] w fun e w' => e = .returned (.int .i64 (h (fmul m (el m a) (el m b)))) ∧ Below w.heap.size w w' := by
  have hla := el_lt m h2 a
  have hlb := el_lt m h2 b
  have hpl := low_any m h1 h2
  have hp14 := pow14 m h2
  have a1 : (3 : Int) ≤ (m : Int) := by omega
  have a2 : (m : Int) ≤ 14 := by omega
  go_enter Tryz.func67, Tryz.ntmps67
  go_wp2_with fail
  refine (hpl a w).mono ?_
  rintro e w1 ⟨rfl, rfl⟩
  go_wp2_with fail
  refine (hpl b w).mono ?_
  rintro e w1 ⟨rfl, rfl⟩
  go_wp2_with fail
  refine (rpoly_in m h1 h2 w).mono ?_
  rintro e w1 ⟨rfl, b1⟩
  clear hpl
  go_wp2_with fail
  go_loopg [1, 2, 8] (el m b).toNat (fun g s1 s2 s8 wx => ∃ A B X : BitVec 16, g = B.toNat ∧ A.toNat < 2 ^ m ∧ B.toNat < 2 ^ m ∧ s1 = .int .i64 (h A) ∧ s2 = .int .i64 (h B) ∧ s8 = .int .i64 (h X) ∧ X ^^^ mulN m 16 A B = fmul m (el m a) (el m b) ∧ w1 = wx)
  case atStart => exact ⟨el m a, el m b, 0, rfl, hla, hlb, rfl, rfl, rfl, BitVec.zero_xor, rfl⟩
  case round =>
    obtain ⟨A, B, X, hg, hA, hB, rfl, rfl, rfl, hinv, rfl⟩ := hrel
    have HG := Lib.hid hg
    have HI := Lib.hid hinv
    clear hg hinv hla hlb
    by_cases h0 : B = 0
    · have t : ¬ (0 < h B) := by subst h0; decide
      have HR : Hid (X = fmul m (el m a) (el m b)) := by
        show _ = _
        rw [← HI.out, h0, mulN_zero]; simp
      clear h0
      go_wp2_with fail
      go_ret
      exact ⟨ret_i64 (by rw [HR.out]), b1⟩
    · have hB0 := nat_pos B h0
      have t : 0 < h B := by unfold h; omega
      have s1 := fun yk => twice yk A (by omega)
      have s2 := half B
      have s3 := low_bit B
      have s4 := down (A <<< 1) m
      have s5 := low_bit ((A <<< 1) >>> m)
      have hh : (B >>> 1).toNat = B.toNat / 2 := by rw [BitVec.toNat_ushiftRight, Nat.shiftRight_eq_div_pow]
      have hd := dbl_lt m h1 h2 A hA
      have HS := Lib.hid (mul_step m h1 h2 A B)
      rw [← s4] at s5
      clear s4 h0
      rcases top_bit m h1 h2 A hA with ⟨q1, q2⟩ | ⟨q1, q2⟩
      all_goals
        rw [q1] at s5
        have HQ := Lib.hid q2
        clear q1 q2
        rcases hbit : B.getLsbD 0 with _ | _
        all_goals
          have HBt := Lib.hid hbit
          rw [hbit] at s3
          clear hbit
          go_wp2_with fail
          go_roundg (B >>> 1).toNat
          case measure => have := HG.out; omega
          case rel =>
            first
              | exact ⟨dbl m A, B >>> 1, X ^^^ A, rfl, hd, by omega, by rw [HQ.out], rfl, rfl, by rw [← HI.out, HS.out, HBt.out, if_pos rfl, BitVec.xor_assoc], rfl⟩
              | exact ⟨dbl m A, B >>> 1, X, rfl, hd, by omega, by rw [HQ.out], rfl, rfl, by rw [← HI.out, HS.out, HBt.out, if_neg (by decide), show ∀ y : BitVec 16, 0 ^^^ y = y from fun y => BitVec.zero_xor], rfl⟩
theorem rmul_at (m : Nat) (h1 : 3 ≤ m) (h2 : m ≤ 14) (x y : BitVec 16) (hx : x.toNat < 2 ^ m) (hy : y.toNat < 2 ^ m) (w : World) :
    Calls Tryz.prog 67 #[.int .i64 (m : Int), .int .i64 (h x), .int .i64 (h y)] w fun e w' => e = .returned (.int .i64 (h (fmul m x y))) ∧ Below w.heap.size w w' := by
  have := rmul_any m h1 h2 (h x) (h y) w
  rwa [el_of m h2 x hx, el_of m h2 y hy] at this
end
/-- the power's loop: what is left to do. -/
theorem pow_step (m : Nat) (h1 : 3 ≤ m) (h2 : m ≤ 14) (a x : BitVec 16) (ha : a.toNat < 2 ^ m) (hx : x.toNat < 2 ^ m) (n : Nat) :
    fmul m x (fpow m a n) = fmul m (if n % 2 = 1 then fmul m x a else x) (fpow m (fmul m a a) (n / 2)) := by
  rw [fpow_sq m h1 h2 a ha]
  by_cases hn : n % 2 = 1
  · rw [if_pos hn]
    obtain ⟨k, rfl⟩ : ∃ k, n = 2 * k + 1 := ⟨n / 2, by omega⟩
    rw [show (2 * k + 1) / 2 = k by omega, fpow, fmul_comm m h1 h2 (fpow m a (2 * k)) a (fpow_lt m h1 h2 a ha _) ha, fmul_assoc m h1 h2 x a _ hx ha (fpow_lt m h1 h2 a ha _)]
  · rw [if_neg hn, show 2 * (n / 2) = n by omega]
theorem odd_test (n : Nat) (hn : n < 1000000) : (bits .and .i64 (n : Int) 1 == 1) = decide (n % 2 = 1) := by
  have e : bits .and .i64 (n : Int) 1 = ((n % 2 : Nat) : Int) := by
    show IntKind.i64.wrap ((BitVec.ofInt 64 (n : Int) &&& BitVec.ofInt 64 1).toNat : Int) = _
    rw [BitVec.toNat_and, show (BitVec.ofInt 64 (n : Int)).toNat = n by rw [BitVec.toNat_ofInt]; omega, show (BitVec.ofInt 64 1).toNat = 1 by decide, Nat.and_one_is_mod]
    exact IntWalk.i64_in _ (by omega)
  rw [e, Bool.eq_iff_iff, beq_iff_eq, decide_eq_true_iff]
  omega
end Go.Proofs.YthmfneepnkgmgaaGreatDoor.Fld
/- The statements' own fields (shaleref2): powers, inverses, logarithms, orders, traces. By the verifier of shale. -/
namespace Go.Proofs.YthmfneepnkgmgaaGreatDoor.Fld
open Go Go.RowKit Bits16
set_option linter.unusedVariables false
set_option maxRecDepth 100000 in
set_option maxHeartbeats 2000000 in
theorem rpower_any (m : Nat) (h1 : 3 ≤ m) (h2 : m ≤ 14) (a : Int) (n : Nat) (hn : n ≤ 16384) (w : World) :
    Calls Tryz.prog 103 #[.int .i64 (m : Int), .int .i64 a, .int .i64 (n : Int)] w fun e w' => e = .returned (.int .i64 (h (fpow m (el m a) n))) ∧ Below w.heap.size w w' := by
  have hla := el_lt m h2 a
  have hpl := low_any m h1 h2
  go_enter Tryz.func103, Tryz.ntmps103
  go_wp2_with fail
  refine (hpl a w).mono ?_
  rintro e w1 ⟨rfl, rfl⟩
  clear hpl
  go_wp2_with fail
  go_loopg [1, 2, 7] n (fun g s1 s2 s7 wx => ∃ (A X : BitVec 16) (k : Nat), g = k ∧ k ≤ 16384 ∧ A.toNat < 2 ^ m ∧ X.toNat < 2 ^ m ∧ s1 = .int .i64 (h A) ∧ s2 = .int .i64 (k : Int) ∧ s7 = .int .i64 (h X) ∧ fmul m X (fpow m A k) = fpow m (el m a) n ∧ Below w.heap.size w wx)
  case atStart => exact ⟨el m a, 1, n, rfl, hn, hla, one_lt m h1, rfl, rfl, rfl, one_fmul m h1 h2 _ (fpow_lt m h1 h2 _ hla n), Below.refl _ _⟩
  case round =>
    obtain ⟨A, X, k, hg, hk, hA, hX, rfl, rfl, rfl, hinv, hb⟩ := hrel
    have HG := Lib.hid hg
    have HI := Lib.hid hinv
    clear hg hinv hla
    by_cases h0 : k = 0
    · subst h0
      have HR : Hid (X = fpow m (el m a) n) := by
        show _ = _
        rw [← HI.out]; exact (fmul_one m h1 h2 X hX).symm
      go_wp2_with fail
      go_ret
      exact ⟨ret_i64 (by rw [HR.out]), hb⟩
    · have t : 0 < (k : Int) := by omega
      have t0 : 0 < k := by omega
      have s3 := odd_test k (by omega)
      have hh : Hid ((k : Int) / 2 = ((k / 2 : Nat) : Int)) := by show _ = _; omega
      have HS := Lib.hid (pow_step m h1 h2 A X hA hX k)
      clear h0
      by_cases ho : k % 2 = 1
      · have hmx := fmul_lt m h1 h2 X A hX
        have hma := fmul_lt m h1 h2 A A hA
        rw [show decide (k % 2 = 1) = true from decide_eq_true ho] at s3
        have HO := Lib.hid ho
        clear ho
        go_wp2_with fail
        refine (rmul_at m h1 h2 X A hX hA _).mono ?_
        rintro e w2 ⟨rfl, b2⟩
        have b2 := hb.trans (b2.mono hb.size)
        go_wp2_with fail
        refine (rmul_at m h1 h2 A A hA hA _).mono ?_
        rintro e w3 ⟨rfl, b3⟩
        have b3 := b2.trans (b3.mono b2.size)
        go_wp2_with fail
        go_roundg (k / 2)
        case measure => have := HG.out; omega
        case rel => exact ⟨fmul m A A, fmul m X A, k / 2, rfl, by omega, hma, hmx, rfl, by rw [hh.out], rfl, by rw [← HI.out, HS.out, if_pos HO.out], b3⟩
      · have hma := fmul_lt m h1 h2 A A hA
        rw [show decide (k % 2 = 1) = false from decide_eq_false ho] at s3
        have HO := Lib.hid ho
        clear ho
        go_wp2_with fail
        refine (rmul_at m h1 h2 A A hA hA _).mono ?_
        rintro e w3 ⟨rfl, b3⟩
        have b3 := hb.trans (b3.mono hb.size)
        go_wp2_with fail
        go_roundg (k / 2)
        case measure => have := HG.out; omega
        case rel => exact ⟨fmul m A A, X, k / 2, rfl, by omega, hma, hX, rfl, by rw [hh.out], rfl, by rw [← HI.out, HS.out, if_neg HO.out], b3⟩
theorem rpower_at (m : Nat) (h1 : 3 ≤ m) (h2 : m ≤ 14) (a x : Int) (n : Nat) (hx : x = (n : Int)) (hn : n ≤ 16384) (w : World) :
    Calls Tryz.prog 103 #[.int .i64 (m : Int), .int .i64 a, .int .i64 x] w fun e w' => e = .returned (.int .i64 (h (fpow m (el m a) n))) ∧ Below w.heap.size w w' := by
  subst hx; exact rpower_any m h1 h2 a n hn w
/-- an exponent brought into 0 .. size - 1 as the statements do. -/
theorem exp_norm (m : Nat) (h1 : 3 ≤ m) (h2 : m ≤ 14) (z : Int) : ∃ k : Nat, k < size m ∧ z.tmod (size m : Int) % (size m : Int) = (k : Int) ∧ z % (size m : Int) = (k : Int) := by
  have z1 := size_lo m h1
  have z2 := size_hi m h2
  have q1 := Int.tmod_lt_of_pos z (b := (size m : Int)) (by omega)
  have q2 : -(size m : Int) < z.tmod (size m : Int) := by
    have := Int.tmod_lt_of_pos (-z) (b := (size m : Int)) (by omega)
    rw [Int.neg_tmod] at this
    omega
  have hd : z % (size m : Int) = (z.tmod (size m : Int)) % (size m : Int) := by
    rw [Int.tmod_eq_emod]
    split
    · simp
    · rw [Int.natAbs_natCast, Int.sub_emod, Int.emod_self, Int.emod_emod, Int.sub_zero, Int.emod_emod]
  have n1 := Int.emod_nonneg z (b := (size m : Int)) (by omega)
  have n2 := Int.emod_lt_of_pos z (b := (size m : Int)) (by omega)
  refine ⟨(z % (size m : Int)).toNat, by omega, ?_, by omega⟩
  rw [← hd]
  omega
set_option maxHeartbeats 400000 in
theorem rpow_any (m : Nat) (h1 : 3 ≤ m) (h2 : m ≤ 14) (a z : Int) (w : World) :
    Calls Tryz.prog 102 #[.int .i64 (m : Int), .int .i64 a, .int .i64 z] w fun e w' => e = .returned (.int .i64 (h (powZ m (el m a) z))) ∧ Below w.heap.size w w' := by
  have hpl := low_any m h1 h2
  have ho := shl_one m h2
  have he : ((els m : Int) - 1) = (size m : Int) := by rw [els_eq]; omega
  have z1 := size_lo m h1
  have z2 := size_hi m h2
  have e1 := els_lo m h1
  have e2 := els_hi m h2
  by_cases h0 : el m a = 0
  · have t := h_zero h0
    by_cases hz : z = 0
    · subst hz
      have e : h (powZ m (el m a) 0) = 1 := by rw [h0]; rfl
      rw [e]
      clear e h0
      go_enter Tryz.func102, Tryz.ntmps102
      go_wp2_with fail
      refine (hpl a w).mono ?_
      rintro e w1 ⟨rfl, rfl⟩
      go_wp2_with fail
      go_ret
      exact ⟨rfl, Below.refl _ _⟩
    · have e : h (powZ m (el m a) z) = 0 := by rw [h0]; unfold powZ; rw [if_pos rfl, if_neg hz]; rfl
      rw [e]
      have tz : (z == 0) = false := beq_eq_false_iff_ne.2 hz
      clear e h0 hz
      go_enter Tryz.func102, Tryz.ntmps102
      go_wp2_with fail
      refine (hpl a w).mono ?_
      rintro e w1 ⟨rfl, rfl⟩
      go_wp2_with fail
      go_ret
      exact ⟨rfl, Below.refl _ _⟩
  · have t := h_not h0
    obtain ⟨k, hk, hke, hkz⟩ := exp_norm m h1 h2 z
    have q1 := Int.tmod_lt_of_pos z (b := (size m : Int)) (by omega)
    have q2 : -(size m : Int) < z.tmod (size m : Int) := by
      have := Int.tmod_lt_of_pos (-z) (b := (size m : Int)) (by omega)
      rw [Int.neg_tmod] at this
      omega
    have HR : Hid (fpow m (el m a) k = powZ m (el m a) z) := by
      show _ = _
      rw [← powZ_nat m h1 h2 _ (el_lt m h2 a)]
      unfold powZ
      rw [if_neg h0, if_neg h0]
      apply pwZ_congr
      rw [← hkz, Int.mul_emod, Int.emod_emod, ← Int.mul_emod]
    clear h0 hkz
    have HK := Lib.hid hke
    clear hke
    go_enter Tryz.func102, Tryz.ntmps102
    go_wp2_with fail
    refine (hpl a w).mono ?_
    rintro e w1 ⟨rfl, rfl⟩
    go_wp2_with fail
    refine (rpower_at m h1 h2 a _ k HK.out (by omega) _).mono ?_
    rintro e w1 ⟨rfl, b1⟩
    rw [HR.out]
    go_wp2_with fail
    go_ret
    exact ⟨rfl, b1⟩
theorem el_two (m : Nat) (h1 : 3 ≤ m) (h2 : m ≤ 14) : el m 2 = pw m 1 := by
  have h8 := two_le m h1
  have e1 : pw m 1 = dbl m 1 := rfl
  have e2 : dbl m 1 = 2 := by
    rw [dbl_bit m h1 h2 1 (one_lt m h1)]
    have : (1 : BitVec 16).getLsbD (m - 1) = false := by
      rw [BitVec.getLsbD]
      exact Nat.testBit_lt_two_pow (show 1 < 2 ^ (m - 1) from Nat.one_lt_two_pow (by omega))
    rw [this, if_neg Bool.false_ne_true]; decide
  rw [e1, e2]
  exact el_of m h2 2 (by show 2 < _; omega)
set_option maxHeartbeats 400000 in
theorem rexp_any (m : Nat) (h1 : 3 ≤ m) (h2 : m ≤ 14) (z : Int) (w : World) :
    Calls Tryz.prog 68 #[.int .i64 (m : Int), .int .i64 z] w fun e w' => e = .returned (.int .i64 (h (pwZ m z))) ∧ Below w.heap.size w w' := by
  have HR : Hid (powZ m (el m 2) z = pwZ m z) := by
    show _ = _
    rw [el_two m h1 h2, powZ_pw m h1 h2, Int.natCast_one, Int.one_mul]
  go_enter Tryz.func68, Tryz.ntmps68
  go_wp2_with fail
  refine (rpow_any m h1 h2 2 z _).mono ?_
  rintro e w1 ⟨rfl, b1⟩
  rw [HR.out]
  go_wp2_with fail
  go_ret
  exact ⟨rfl, b1⟩
set_option maxHeartbeats 400000 in
theorem rinv_any (m : Nat) (h1 : 3 ≤ m) (h2 : m ≤ 14) (a : Int) (h0 : el m a ≠ 0) (w : World) :
    Calls Tryz.prog 71 #[.int .i64 (m : Int), .int .i64 a] w fun e w' => e = .returned (.int .i64 (h (pwZ m (-(lg m (el m a) : Int))))) ∧ Below w.heap.size w w' := by
  have HR : Hid (fpow m (el m a) (els m - 2) = pwZ m (-(lg m (el m a) : Int))) := by
    show _ = _
    obtain ⟨l1, l2⟩ := lg_spec m h1 h2 _ (el_lt m h2 a) h0
    have z1 := size_lo m h1
    rw [← powZ_nat m h1 h2 _ (el_lt m h2 a)]
    unfold powZ
    rw [if_neg h0]
    apply pwZ_congr
    rw [els_eq, show size m + 1 - 2 = size m - 1 by omega, show ((size m - 1 : Nat) : Int) = (size m : Int) - 1 by omega, Int.mul_sub, Int.mul_one, Int.sub_emod, Int.mul_emod_left, ← Int.zero_emod (size m : Int), ← Int.sub_emod]
    simp
  have ho := shl_one m h2
  have e1 := els_lo m h1
  have e2 := els_hi m h2
  clear h0
  go_enter Tryz.func71, Tryz.ntmps71
  go_wp2_with fail
  refine (rpower_at m h1 h2 a _ (els m - 2) (by omega) (by omega) _).mono ?_
  rintro e w1 ⟨rfl, b1⟩
  rw [HR.out]
  go_wp2_with fail
  go_ret
  exact ⟨rfl, b1⟩
theorem rmul_two (m : Nat) (h1 : 3 ≤ m) (h2 : m ≤ 14) (k : Nat) (w : World) :
    Calls Tryz.prog 67 #[.int .i64 (m : Int), .int .i64 (h (pw m k)), .int .i64 2] w fun e w' => e = .returned (.int .i64 (h (pw m (k + 1)))) ∧ Below w.heap.size w w' := by
  have := rmul_any m h1 h2 (h (pw m k)) 2 w
  rwa [el_of m h2 _ (pw_ne m h1 h2 k).2, el_two m h1 h2, fmul_pw m h1 h2] at this
theorem h_ne {x y : BitVec 16} (e : x ≠ y) : (h x != h y) = true := by
  rw [bne_iff_ne]; exact fun e2 => e (h_inj _ _ e2)
theorem h_same {x y : BitVec 16} (e : x = y) : (h x != h y) = false := by subst e; simp
section
attribute [local go_sem] rxor
end
end Go.Proofs.YthmfneepnkgmgaaGreatDoor.Fld
/- The statements' own polynomials (shaleref2): Trim, Eval. By the verifier of shale. -/
namespace Go.Proofs.YthmfneepnkgmgaaGreatDoor.Pl
open Go Go.RowKit Fld Bits16
set_option linter.unusedVariables false
theorem own_rowz {w : World} {base n cap : Nat} {a : Option Addr} {l : List Int} (e : Own64 w base (.slice a n cap) n l) : RowZ w a n cap l ∧ ∀ bb off, a = some ⟨bb, off, none⟩ → base ≤ bb := by
  have hl := e.len
  rcases e.2 with ⟨h0, h1⟩ | ⟨g', cap', cur, hv, hbg, hh, hnc, hm, hs, ht⟩
  · simp only [Value.slice.injEq] at h0
    obtain ⟨rfl, rfl, rfl⟩ := h0
    exact ⟨⟨by omega, Nat.le_refl _, by decide, fun i hi => by omega⟩, fun bb off e => by cases e⟩
  · simp only [Value.slice.injEq] at hv
    obtain ⟨rfl, _, rfl⟩ := hv
    refine ⟨⟨hl.symm, hnc, hm, fun i hi => ⟨g', 0, rfl, ?_, lt_of_block hh⟩⟩, fun bb off e => by simp only [Option.some.injEq, Addr.mk.injEq] at e; omega⟩
    obtain ⟨g2, c2, e2, _, _, _, hc⟩ := e.cells (by omega : 0 < n)
    simp only [Value.slice.injEq, Option.some.injEq, Addr.mk.injEq] at e2
    obtain ⟨⟨rfl, _⟩, _⟩ := e2
    rw [Nat.zero_add]; exact hc i hi
/-- a polynomial in memory that is not older, its last coefficient not 0. -/
structure ROut (m : Nat) [M : Mid m] (w0 w : World) (a : Option Addr) (n cap : Nat) (p : Ser (El m)) : Prop where
  row : RowZ w a n cap (nums p n)
  bd : Bd p n
  top : top p n = n
  fresh : ∀ bb off, a = some ⟨bb, off, none⟩ → w0.heap.size ≤ bb
section
variable {m : Nat} [M : Mid m]
theorem ROut.since {w0 w w' : World} {a : Option Addr} {n cap : Nat} {p : Ser (El m)} (h : ROut m w0 w a n cap p) (b : Below w.heap.size w w') : ROut m w0 w' a n cap p :=
  ⟨h.row.below b, h.bd, h.top, h.fresh⟩
theorem ROut.from {w0 w1 w : World} {a : Option Addr} {n cap : Nat} {p : Ser (El m)} (h : ROut m w1 w a n cap p) (b : w0.heap.size ≤ w1.heap.size) : ROut m w0 w a n cap p :=
  ⟨h.row, h.bd, h.top, fun bb off e => Nat.le_trans b (h.fresh bb off e)⟩
omit M in
theorem nums_succ (p : Ser (El m)) (k : Nat) : nums p (k + 1) = nums p k ++ [zn (p k)] := by
  unfold nums; rw [List.range_succ, List.map_append]; rfl
theorem rlow_any (z : Int) (w : World) : Calls Tryz.prog 70 #[.int .i64 (m : Int), .int .i64 z] w fun e w' => e = .returned (.int .i64 (zn (elm m z))) ∧ w = w' := by
  refine (low_any m M.lo M.hi z w).mono ?_
  rintro e w' ⟨rfl, rfl⟩
  exact ⟨rfl, rfl⟩
set_option maxRecDepth 100000 in
set_option maxHeartbeats 1000000 in
theorem rtrim_any (a : Option Addr) (n cap : Nat) (l : List Int) (w : World) (h : RowZ w a n cap l) (hn : n ≤ 1000000) :
    Calls Tryz.prog 74 #[.int .i64 (m : Int), .slice a n cap] w
      fun e w' => ∃ a' n' cap', e = .returned (.slice a' n' cap') ∧ ROut m w w' a' n' cap' (sr m l) ∧ Below w.heap.size w w' := by
  obtain ⟨i0, hi, hz0, hz1, hz2⟩ := info64
  have HP := Lib.hid h
  have HBn : Hid (Bd (sr m l) n) := by have := sr_bd (m := m) l; rwa [← h.hlen] at this
  clear h
  go_enter Tryz.func74, Tryz.ntmps74
  go_wp2_with fail
  go_loopg [5, 6] n (fun gh s5 s6 wx => ∃ (k : Nat), gh = n - k ∧ k ≤ n ∧ s6 = .int .i64 (k : Int) ∧ Own64 wx w.heap.size s5 k (nums (sr m l) k) ∧ Below w.heap.size w wx)
  case atStart => exact ⟨0, rfl, Nat.zero_le _, rfl, Own64.nil w w.heap.size, Below.refl _ _⟩
  case round =>
    obtain ⟨k, hg, hkn, rfl, hown, hB⟩ := hrel
    have HG := Lib.hid hg
    clear hg
    obtain ⟨av, cv, rfl⟩ := own_slice hown
    by_cases hlt : k < n
    · have x0 : (0 : Int) ≤ (k : Int) := by omega
      have x1 : (k : Int) < (n : Int) := by omega
      obtain ⟨bb, off, rfl, c1, hb⟩ := (HP.out.below hB).row k hlt
      have hbs := hB.size
      have HOwn := Lib.hid hown
      have HBB := Lib.hid hB
      have HF : Hid (nums (sr m l) (k + 1) = nums (sr m l) k ++ [zn (sr m l k)]) := nums_succ _ _
      clear hown hB hb
      go_wp2_with fail
      refine (rlow_any (l.getD k 0) wr).mono ?_
      rintro e w1 ⟨rfl, rfl⟩
      rw [sr_at]
      go_wp2_with (at_builtin; refine wpList_append_own _ rfl _ _ 33 rfl w.heap.size 3 i0 (.int .i64 0) 1 8 Tryz.underlying33 hi hz0 hz1 hz2 rfl (by decide) _ k _ rfl (World.ownsRow.alloc HOwn.out _) ⟨wr.heap.size, 0, none⟩ 1 1 [.int .i64 (zn (sr m l k))] rfl rfl (cell_one_new _ _ _) (ints_oneCell .i64 [_]) (by unfold maxLen; omega) (by omega) (by simp; omega) ?_; intro v7 w7 hown7 hgrow _)
      have ho7 : Own64 w7 w.heap.size v7 (k + 1) (nums (sr m l) (k + 1)) := by
        unfold Own64
        rw [HF.out, ← cells64_append]
        exact hown7
      have b7 : Below w.heap.size w w7 := (HBB.out.alloc hbs _).grown hgrow (by simp; omega) (fun g hg => (HOwn.out.block g hg).1)
      clear hown7 hgrow c1
      go_wp2_with fail
      go_roundg (n - (k + 1))
      case measure => have := HG.out; omega
      case rel => exact ⟨k + 1, rfl, by omega, by go_num, ho7, b7⟩
    · obtain rfl : k = n := by omega
      obtain ⟨hrow, hfr⟩ := own_rowz hown
      have HR := Lib.hid hrow
      have HFr := Lib.hid hfr
      have hcap := hrow.hcap
      have hmost := hrow.hmost
      unfold maxLen at hmost
      have HBB := Lib.hid hB
      clear hown hrow hfr hB
      go_wp2_with fail
      go_loopg [5] k (fun gh s5 wx => ∃ j : Nat, gh = j ∧ j ≤ k ∧ s5 = .slice av j cv ∧ Hid (top (sr m l) j = top (sr m l) k) ∧ wr = wx)
      case atStart => exact ⟨k, rfl, Nat.le_refl _, rfl, rfl, rfl⟩
      case round =>
        obtain ⟨j, hg, hj, rfl, HT, rfl⟩ := hrel
        have HG2 := Lib.hid hg
        clear hg
        have y0 : (0 : Int) ≤ (j : Int) := by omega
        have y1 : (j : Int) ≤ (cv : Int) := by omega
        rcases j with _ | j
        · have HF : Hid (ROut m w wr av 0 cv (sr m l)) := by
            have h0 : top (sr m l) k = 0 := HT.out.symm
            exact ⟨HR.out.take 0 (Nat.zero_le _) |> fun h => by rwa [nums_take _ (Nat.zero_le _)] at h, by have := top_bd HBn.out; rwa [h0] at this, rfl, HFr.out⟩
          clear HT
          go_wp2_with fail
          go_ret
          exact ⟨_, _, _, rfl, HF.out, HBB.out⟩
        · have x0 : (0 : Int) ≤ (j : Int) := by omega
          have x1 : (j : Int) < (k : Int) := by omega
          have x2 : (j : Int) ≤ (cv : Int) := by omega
          have x3 : (j : Int) < (j : Int) + 1 := by omega
          have i1 : IntKind.i64.wrap (((j + 1 : Nat) : Int) - 1) = (j : Int) := by rw [show ((j + 1 : Nat) : Int) - 1 = (j : Int) by omega]; exact IntWalk.i64_in _ (by omega)
          have i2 : IntKind.i64.wrap ((j : Int) + 1 - 1) = (j : Int) := by rw [show (j : Int) + 1 - 1 = (j : Int) by omega]; exact IntWalk.i64_in _ (by omega)
          obtain ⟨bb, off, rfl, c1, hb⟩ := HR.out.row j (by omega)
          rw [nums_at (sr m l) k j (by omega)] at c1
          have hz := zn_eq0 (sr m l j)
          by_cases h0 : sr m l j = 0
          · rw [decide_eq_true h0] at hz
            have HN : Hid (top (sr m l) j = top (sr m l) k) := by
              show _ = _
              rw [← top_zero h0]; exact HT.out
            clear HT h0 hb
            go_wp2_with fail
            go_roundg j
            case measure => have := HG2.out; omega
            case rel => exact ⟨j, rfl, by omega, rfl, HN.out, rfl⟩
          · rw [decide_eq_false h0] at hz
            have HN : Hid (j + 1 = top (sr m l) k) := by
              show _ = _
              rw [← HT.out, top_some h0]
            have HF : Hid (ROut m w wr (some ⟨bb, off, none⟩) (j + 1) cv (sr m l)) :=
              ⟨HR.out.take (j + 1) hj |> fun h => by rwa [nums_take _ hj] at h, by have := top_bd HBn.out; rwa [← HN.out] at this, top_some h0, HFr.out⟩
            clear HT h0 hb
            go_wp2_with fail
            go_ret
            exact ⟨_, _, _, rfl, HF.out, HBB.out⟩
theorem ROut.len {w0 w : World} {a : Option Addr} {n cap k : Nat} {p : Ser (El m)} (h : ROut m w0 w a n cap p) (hb : Bd p k) : n = Pl.top p k := h.top.symm.trans (top_same h.bd hb)
end
end Go.Proofs.YthmfneepnkgmgaaGreatDoor.Pl
/- shaleref.SameInts over any two lists of ints. By the verifier of shale. -/
namespace Go.Proofs.YthmfneepnkgmgaaGreatDoor.Pl
open Go Go.RowKit Fld Bits16
set_option linter.unusedVariables false
theorem RowZ.drawn {w w' : World} {a : Option Addr} {n cap : Nat} {l : List Int} (h : RowZ w a n cap l) (d : Drawn w w') : RowZ w' a n cap l := h.below (d.below _)
theorem listz_eq {l k : List Int} (hl : l.length = k.length) (h : ∀ i, i < l.length → l.getD i 0 = k.getD i 0) : l = k := by
  apply List.ext_getElem hl
  intro i h1 h2
  have := h i h1
  rw [List.getD_eq_getElem?_getD, List.getD_eq_getElem?_getD, List.getElem?_eq_getElem h1, List.getElem?_eq_getElem h2] at this
  exact this
set_option maxRecDepth 100000 in
set_option maxHeartbeats 1000000 in
theorem sameZ_any (a1 : Option Addr) (n1 c1 : Nat) (l : List Int) (a2 : Option Addr) (n2 c2 : Nat) (k : List Int) (w : World) (h1 : RowZ w a1 n1 c1 l) (h2 : RowZ w a2 n2 c2 k) :
    Calls Tryz.prog 18 #[.slice a1 n1 c1, .slice a2 n2 c2] w fun e w' => e = .returned (.bool (decide (l = k))) ∧ Drawn w w' := by
  have H1 := Lib.hid h1
  have H2 := Lib.hid h2
  have hm : n1 ≤ maxLen := Nat.le_trans h1.hcap h1.hmost
  unfold maxLen at hm
  clear h1 h2
  by_cases hn : n1 = n2
  · subst hn
    go_enter Tryz.func18, Tryz.ntmps18
    go_wp2_with fail
    go_loopg [5] n1 (fun gh s5 wx => ∃ j : Nat, gh = n1 - j ∧ j ≤ n1 ∧ s5 = .int .i64 (j : Int) ∧ Hid (∀ i, i < j → l.getD i 0 = k.getD i 0) ∧ Drawn w wx)
    case atStart => exact ⟨0, rfl, by omega, rfl, fun i hi => by omega, Drawn.refl _⟩
    case round =>
      obtain ⟨j, hg, hk, rfl, HA, hD⟩ := hrel
      have HG := Lib.hid hg
      clear hg
      by_cases hlt : j < n1
      · have x1 : (j : Int) < (n1 : Int) := by omega
        have x0 : (0 : Int) ≤ (j : Int) := by omega
        obtain ⟨bb, off, rfl, d1, _⟩ := (H1.out.drawn hD).row j hlt
        obtain ⟨bb', off', rfl, d2, _⟩ := (H2.out.drawn hD).row j hlt
        by_cases he : l.getD j 0 = k.getD j 0
        · have HA2 : Hid (∀ i, i < j + 1 → l.getD i 0 = k.getD i 0) := fun i hi => by
            by_cases e : i = j
            · rw [e]; exact he
            · exact HA.out i (by omega)
          rw [he] at d1
          generalize k.getD j 0 = q at d1 d2
          clear he HA
          go_wp2_with fail
          go_quiet (fail)
          have hd2 : Drawn w (wr.drewN nq) := hD.trans (Drawn.mk _ _)
          generalize wr.drewN nq = w5 at hd2 ⊢
          go_wp2_with fail
          go_roundg (n1 - (j + 1))
          case measure => have := HG.out; omega
          case rel => exact ⟨j + 1, rfl, by omega, by go_num, HA2.out, hd2⟩
        · have HF : Hid (decide (l = k) = false) := decide_eq_false fun h => he (by rw [h])
          have t1 : (l.getD j 0 == k.getD j 0) = false := by rw [beq_eq_false_iff_ne]; exact he
          generalize l.getD j 0 = q at d1 t1
          generalize k.getD j 0 = r at d2 t1
          clear he HA
          go_wp2_with fail
          go_quiet (fail)
          have hd2 : Drawn w (wr.drewN nq) := hD.trans (Drawn.mk _ _)
          generalize wr.drewN nq = w5 at hd2 ⊢
          go_wp2_with fail
          go_ret
          exact ⟨ret_bool HF.out.symm, hd2⟩
      · obtain rfl : j = n1 := by omega
        have HF : Hid (decide (l = k) = true) := decide_eq_true (listz_eq (by have := H1.out.hlen; have := H2.out.hlen; omega) fun i hi => HA.out i (by have := H1.out.hlen; omega))
        clear HA
        go_wp2_with fail
        go_ret
        exact ⟨ret_bool HF.out.symm, hD⟩
  · have HF : Hid (decide (l = k) = false) := decide_eq_false fun h => hn (by rw [H1.out.hlen, H2.out.hlen, h])
    have t1 : ((n1 : Int) == (n2 : Int)) = false := by rw [beq_eq_false_iff_ne]; omega
    clear hn
    go_enter Tryz.func18, Tryz.ntmps18
    go_wp2_with fail
    go_ret
    exact ⟨ret_bool HF.out.symm, Drawn.refl _⟩
end Go.Proofs.YthmfneepnkgmgaaGreatDoor.Pl
/- The contracts of package fieldpoly, and of its reference, in terms of the polynomials alone. By the verifier of shale. -/
namespace Go.Proofs.YthmfneepnkgmgaaGreatDoor.Pl
open Go Go.RowKit Fld Bits16
set_option linter.unusedVariables false
section
variable {m : Nat} [M : Mid m]
/-- numbers handed in that are this polynomial, at most K. -/
def PV (m : Nat) [M : Mid m] (w : World) (K : Nat) (a : Option Addr) (n c : Nat) (p : Ser (El m)) : Prop := ∃ l, RowZ w a n c l ∧ sr m l = p ∧ n ≤ K
/-- a polynomial written as it should be. -/
structure NV (m : Nat) [M : Mid m] (w : World) (K : Nat) (a : Option Addr) (n c : Nat) (p : Ser (El m)) : Prop where
  row : RowZ w a n c (nums p n)
  bd : Bd p n
  top : top p n = n
  le : n ≤ K
theorem PV.below {w w' : World} {K : Nat} {a : Option Addr} {n c : Nat} {p : Ser (El m)} (h : PV m w K a n c p) (b : Below w.heap.size w w') : PV m w' K a n c p := by
  obtain ⟨l, h1, h2, h3⟩ := h
  exact ⟨l, h1.below b, h2, h3⟩
theorem NV.below {w w' : World} {K : Nat} {a : Option Addr} {n c : Nat} {p : Ser (El m)} (h : NV m w K a n c p) (b : Below w.heap.size w w') : NV m w' K a n c p := ⟨h.row.below b, h.bd, h.top, h.le⟩
theorem NV.pol {w : World} {K : Nat} {a : Option Addr} {n c : Nat} {p : Ser (El m)} (h : NV m w K a n c p) : PV m w K a n c p := ⟨_, h.row, sr_nums h.bd, h.le⟩
theorem PV.bdn {w : World} {K : Nat} {a : Option Addr} {n c : Nat} {p : Ser (El m)} (h : PV m w K a n c p) : Bd p n := by
  obtain ⟨l, h1, rfl, _⟩ := h
  have := sr_bd (m := m) l
  rwa [← h1.hlen] at this
theorem PV.bd {w : World} {K : Nat} {a : Option Addr} {n c : Nat} {p : Ser (El m)} (h : PV m w K a n c p) : Bd p K := h.bdn.mono (by obtain ⟨_, _, _, h3⟩ := h; exact h3)
theorem top_full {p : Ser (El m)} {n N : Nat} (h : Bd p N) (hn : n = Pl.top p N) : Pl.top p n = n := by
  have hb : Bd p n := by rw [hn]; exact top_bd h
  rw [hn]; exact (top_same (by rw [hn] at hb; exact hb) h)
theorem outV {w0 w : World} {a : Option Addr} {n c K : Nat} {p : Ser (El m)} (h : Out m w0 w a n c p) (hK : Bd p K) : NV m w K a n c p := by
  have ht : Pl.top p n = n := by
    rcases h with ⟨_, rfl, _, rfl⟩ | ⟨g, N, _, _, _, _, _, hn, hb⟩
    · rfl
    · exact top_full hb hn
  exact ⟨h.row, h.bd, ht, by rw [← ht, top_same h.bd hK]; exact top_le p K⟩
theorem routV {w0 w : World} {a : Option Addr} {n c K : Nat} {p : Ser (El m)} (h : ROut m w0 w a n c p) (hK : Bd p K) : NV m w K a n c p :=
  ⟨h.row, h.bd, h.top, by rw [← h.top, top_same h.bd hK]; exact top_le p K⟩
theorem top_of {w : World} {K : Nat} {a : Option Addr} {n c : Nat} {p : Ser (El m)} (h : PV m w K a n c p) : Pl.top p n = Pl.top p K := top_same h.bdn h.bd
theorem der_bdK {p : Ser (El m)} {K : Nat} (h : Bd p K) : Bd (der p) K := fun i hi => by
  show (if i % 2 = 0 then p (i + 1) else 0) = 0
  split
  · exact h _ (by omega)
  · rfl
theorem top_pz : ∀ K, Pl.top (pz : Ser (El m)) K = 0
  | 0 => rfl
  | K + 1 => by rw [top_zero (rfl : (pz : Ser (El m)) K = 0)]; exact top_pz K
theorem top_nz {p : Ser (El m)} {K : Nat} (h : Bd p K) (h0 : p ≠ pz) : Pl.top p K ≠ 0 := fun e => h0 (by have := top_bd h; rw [e] at this; exact this.zero)
theorem top_deg {p : Ser (El m)} {K : Nat} (h : Bd p K) (h0 : p ≠ pz) : Dg p (Pl.top p K - 1) := (top_ne (top_nz h h0)).resolve_right fun x => x h
theorem top_dg' {p : Ser (El m)} {K d : Nat} (h : Bd p K) (hd : Dg p d) : Pl.top p K = d + 1 := by
  have h0 := top_deg h hd.ne
  have h1 := top_nz h hd.ne
  have := h0.eq hd
  omega
theorem cvK {p q : Ser (El m)} {k k' K : Nat} (hp : Bd p k) (hq : Bd q k') (h : k + k' ≤ K) : Bd (cv p q) K := (bd_cv hp hq).mono (by omega)
theorem div_bd {p q A L : Ser (El m)} {K e : Nat} (hp : Bd p K) (hq : Dg q e) (he : e < K) (h : Dv2 p q A L e) : Bd A K ∧ Bd L K := by
  have hL : Bd L K := h.low.mono (by omega)
  refine ⟨?_, hL⟩
  obtain ⟨n, hn⟩ := h.fin
  rcases dg_or hn with h0 | ⟨d, _, hd⟩
  · rw [h0]; exact bd_pz K
  · have h1 := hd.mul hq
    have h2 : cv A q = padd p L := by rw [h.sum, padd_back]
    rw [h2] at h1
    have := h1.lt (hp.add hL)
    exact hd.2.mono (by omega)
theorem PD.le {g p : Ser (El m)} {K : Nat} (h : PD g p) (h0 : p ≠ pz) (hp : Bd p K) {d : Nat} (hg : Dg g d) : d < K := by
  obtain ⟨a, n, ha, rfl⟩ := h
  rcases dg_or ha with h1 | ⟨x, _, hx⟩
  · rw [h1, cv_zero] at h0; exact absurd rfl h0
  · have := (hx.mul hg).lt hp; omega
/-- a greatest common divisor as the chapter wants it. -/
def IsG (p q G : Ser (El m)) : Prop := PG p q G ∧ (G = pz ∨ ∃ d, Dg G d ∧ G d = 1)
theorem pd_pz {p : Ser (El m)} (h : PD pz p) : p = pz := by
  obtain ⟨a, n, _, rfl⟩ := h
  exact zero_cv a
theorem IsG.zero {p q G : Ser (El m)} (h : IsG p q G) : G = pz ↔ p = pz ∧ q = pz := by
  constructor
  · rintro rfl
    exact ⟨pd_pz h.1.1, pd_pz h.1.2.1⟩
  · rintro ⟨rfl, rfl⟩
    exact pd_pz (h.1.2.2 pz (PD.zero _) (PD.zero _))
theorem IsG.unique {p q G G' : Ser (El m)} (h : IsG p q G) (k : IsG p q G') : G = G' := by
  by_cases h0 : G = pz
  · rw [h0]; exact (k.zero.2 (h.zero.1 h0)).symm
  · have h1 : G' ≠ pz := fun e => h0 (h.zero.2 (k.zero.1 e))
    obtain ⟨d, hd, e1⟩ := h.2.resolve_left h0
    obtain ⟨e, he, e2⟩ := k.2.resolve_left h1
    exact PG.unique hd he h.1 k.1 e1 e2
theorem IsG.bd {p q G : Ser (El m)} {K : Nat} (h : IsG p q G) (hp : Bd p K) (hq : Bd q K) : Bd G K := by
  rcases h.2 with rfl | ⟨d, hd, _⟩
  · exact bd_pz K
  · by_cases h0 : p = pz
    · by_cases h1 : q = pz
      · exact absurd (h.zero.2 ⟨h0, h1⟩) hd.ne
      · have := h.1.2.1.le h1 hq hd; exact hd.2.mono (by omega)
    · have := h.1.1.le h0 hp hd; exact hd.2.mono (by omega)
theorem IsG.comm {p q G : Ser (El m)} (h : IsG p q G) : IsG q p G := ⟨h.1.comm, h.2⟩
theorem nilV (w : World) : PV m w 0 none 0 0 pz := ⟨[], ⟨rfl, Nat.le_refl _, by decide, fun i hi => by omega⟩, by funext i; exact elm_zero, Nat.le_refl _⟩
theorem PV.more {w : World} {K K' : Nat} {a : Option Addr} {n c : Nat} {p : Ser (El m)} (h : PV m w K a n c p) (hK : K ≤ K') : PV m w K' a n c p := by
  obtain ⟨l, h1, h2, h3⟩ := h
  exact ⟨l, h1, h2, by omega⟩
section
variable {g s be ce bl : Nat} {w : World}
theorem mulV {k k' : Nat} {a a' : Option Addr} {n c n' c' : Nat} {p q : Ser (El m)} (R : RingAt m w g s be ce bl) (K : Nat) (h1 : PV m w k a n c p) (h2 : PV m w k' a' n' c' q) (hK : k + k' ≤ K) (hK2 : K ≤ 2048) :
    Calls Tryz.prog 113 #[.pointer (some ⟨g, 0, none⟩), .slice a n c, .slice a' n' c'] w fun e w' => ∃ a n c, e = .returned (.tuple #[.slice a n c, .nilIface]) ∧ NV m w' K a n c (cv p q) ∧ Below w.heap.size w w' := by
  have hb := cvK h1.bd h2.bd hK
  obtain ⟨l1, r1, rfl, n1⟩ := h1
  obtain ⟨l2, r2, rfl, n2⟩ := h2
  have t1 := top_le (sr m l1) n
  have t2 := top_le (sr m l2) n'
  refine (pmul_any a n c l1 a' n' c' l2 w R r1 r2 (by omega) (by omega) (by omega)).mono ?_
  rintro e w1 ⟨a3, n3, c3, rfl, hO, b⟩
  exact ⟨a3, n3, c3, rfl, outV hO hb, b⟩
theorem addV {k k' : Nat} {a a' : Option Addr} {n c n' c' : Nat} {p q : Ser (El m)} (R : RingAt m w g s be ce bl) (K : Nat) (h1 : PV m w k a n c p) (h2 : PV m w k' a' n' c' q) (hK : k ≤ K) (hK' : k' ≤ K) (hK2 : K ≤ 2048) :
    Calls Tryz.prog 140 #[.pointer (some ⟨g, 0, none⟩), .slice a n c, .slice a' n' c'] w fun e w' => ∃ a n c, e = .returned (.slice a n c) ∧ NV m w' K a n c (padd p q) ∧ Below w.heap.size w w' := by
  have hb : Bd (padd p q) K := (h1.bd.mono hK).add (h2.bd.mono hK')
  obtain ⟨l1, r1, rfl, n1⟩ := h1
  obtain ⟨l2, r2, rfl, n2⟩ := h2
  refine (padd_any a n c l1 a' n' c' l2 w R r1 r2 (by omega) (by omega)).mono ?_
  rintro e w1 ⟨a3, n3, c3, rfl, hO, b⟩
  exact ⟨a3, n3, c3, rfl, outV hO hb, b⟩
theorem scaleV {k : Nat} {a : Option Addr} {n c : Nat} {p : Ser (El m)} (z : Int) (R : RingAt m w g s be ce bl) (h1 : PV m w k a n c p) (hK2 : k ≤ 2048) :
    Calls Tryz.prog 141 #[.pointer (some ⟨g, 0, none⟩), .slice a n c, .int .i64 z] w fun e w' => ∃ a n c, e = .returned (.slice a n c) ∧ NV m w' k a n c (psm (elm m z) p) ∧ Below w.heap.size w w' := by
  have hb := h1.bd.sm (elm m z)
  obtain ⟨l1, r1, rfl, n1⟩ := h1
  refine (scale_any a n c l1 z w R r1 (by omega)).mono ?_
  rintro e w1 ⟨a3, n3, c3, rfl, hO, b⟩
  exact ⟨a3, n3, c3, rfl, outV hO hb, b⟩
theorem trimV {k : Nat} {a : Option Addr} {n c : Nat} {p : Ser (El m)} (R : RingAt m w g s be ce bl) (h1 : PV m w k a n c p) (hK2 : k ≤ 2048) :
    Calls Tryz.prog 124 #[.pointer (some ⟨g, 0, none⟩), .slice a n c] w fun e w' => ∃ a n c, e = .returned (.slice a n c) ∧ NV m w' k a n c p ∧ Below w.heap.size w w' := by
  have hb := h1.bd
  have hn := h1.bdn
  have ht := top_of h1
  have hle := top_le p k
  obtain ⟨l1, r1, rfl, n1⟩ := h1
  refine (trim_any a n c l1 w R r1 (by omega)).mono ?_
  rintro e w1 ⟨rfl, hB, b⟩
  refine ⟨_, _, _, rfl, ⟨?_, top_bd hn, top_full hn rfl, by rw [ht]; exact hle⟩, b⟩
  have hr := Blk64.row hB _ (by rw [nums_length]; exact Nat.le_refl _) (by rw [nums_length]; omega)
  rw [nums_take _ (Nat.le_refl _), nums_length] at hr
  exact hr
theorem degV {k : Nat} {a : Option Addr} {n c : Nat} {p : Ser (El m)} (R : RingAt m w g s be ce bl) (h1 : PV m w k a n c p) :
    Calls Tryz.prog 137 #[.pointer (some ⟨g, 0, none⟩), .slice a n c] w fun e w' => e = .returned (.int .i64 ((Pl.top p k : Int) - 1)) ∧ w = w' := by
  have ht := top_of h1
  obtain ⟨l1, r1, rfl, n1⟩ := h1
  have := deg_any a n c l1 w R r1
  rwa [ht] at this
/-- all the roots of p, rising. -/
noncomputable def rootsV (k : Nat) (p : Ser (El m)) : List Int := if Pl.top p k = 0 then [] else intsN (rts (Pl.top p k) p (2 ^ m))
theorem pls_bd (l : List Int) (n : Nat) : Bd (pls (m := m) l n) (n + 1) := (pls_dg l n).2
end
section
variable {w : World}
theorem sameV {k k' : Nat} {a a' : Option Addr} {n c n' c' : Nat} {p q : Ser (El m)} (h1 : NV m w k a n c p) (h2 : NV m w k' a' n' c' q) (e : p = q) :
    Calls Tryz.prog 18 #[.slice a n c, .slice a' n' c'] w fun e w' => e = .returned (.bool true) ∧ Drawn w w' := by
  subst e
  have hn : n = n' := by rw [← h1.top, ← h2.top]; exact top_same h1.bd h2.bd
  refine (sameZ_any a n c _ a' n' c' _ w h1.row h2.row).mono ?_
  rintro e w1 ⟨rfl, d⟩
  exact ⟨by rw [decide_eq_true (by rw [hn])], d⟩
end
end
end Go.Proofs.YthmfneepnkgmgaaGreatDoor.Pl
/- Cosets of a number under doubling, by their remainders. No program is named here. By the verifier of shale. -/
namespace Go.Proofs.YthmfneepnkgmgaaGreatDoor.Cos
set_option linter.unusedVariables false
def sz (m : Nat) : Nat := 2 ^ m - 1
def orb (N f j : Nat) : Nat := f * 2 ^ j % N
/-- the coset, rising. -/
def cos (m f : Nat) : List Nat := (List.range (sz m)).filter fun k => (List.range m).any fun j => orb (sz m) f j == k
theorem sz_lo {m : Nat} (h : 3 ≤ m) : 7 ≤ sz m := by
  have := Nat.pow_le_pow_right (by decide : 0 < 2) h
  unfold sz; omega
theorem sz_hi {m : Nat} (h : m ≤ 14) : sz m ≤ 16383 := by
  have := Nat.pow_le_pow_right (by decide : 0 < 2) h
  unfold sz; omega
theorem sz_odd {m : Nat} (h : 3 ≤ m) : ∃ q, sz m = 2 * q + 1 := by
  obtain ⟨k, rfl⟩ : ∃ k, m = k + 1 := ⟨m - 1, by omega⟩
  have hp := Nat.two_pow_pos k
  exact ⟨2 ^ k - 1, by unfold sz; rw [Nat.pow_succ]; omega⟩
theorem orb_lt {N : Nat} (hN : 0 < N) (f j : Nat) : orb N f j < N := Nat.mod_lt _ hN
theorem orb_zero {N f : Nat} (h : f < N) : orb N f 0 = f := by unfold orb; rw [Nat.pow_zero, Nat.mul_one, Nat.mod_eq_of_lt h]
theorem orb_comp (N f i j : Nat) : orb N (orb N f i) j = orb N f (i + j) := by
  unfold orb
  rw [Nat.mod_mul_mod, Nat.mul_assoc, ← Nat.pow_add]
theorem orb_succ (N f j : Nat) : orb N f (j + 1) = 2 * orb N f j % N := by
  rw [← orb_comp]
  unfold orb
  rw [Nat.pow_one, Nat.mul_comm]
theorem orb_m {m f : Nat} (h : f < sz m) : orb (sz m) f m = f := by
  have hp := Nat.two_pow_pos m
  have e : 2 ^ m = sz m + 1 := by unfold sz; omega
  unfold orb
  rw [e, Nat.mul_add, Nat.mul_one, Nat.mul_comm, Nat.mul_add_mod, Nat.mod_eq_of_lt h]
theorem dbl_case {N a : Nat} (h : a < N) : (2 * a % N = 2 * a ∧ 2 * a < N) ∨ (2 * a % N = 2 * a - N ∧ N ≤ 2 * a) := by
  by_cases h1 : 2 * a < N
  · exact Or.inl ⟨Nat.mod_eq_of_lt h1, h1⟩
  · exact Or.inr ⟨by rw [Nat.mod_eq_sub_mod (by omega), Nat.mod_eq_of_lt (by omega)], by omega⟩
theorem dbl_inj {N a b : Nat} (ho : ∃ q, N = 2 * q + 1) (ha : a < N) (hb : b < N) (h : 2 * a % N = 2 * b % N) : a = b := by
  obtain ⟨q, hq⟩ := ho
  rcases dbl_case ha with ⟨h1, h2⟩ | ⟨h1, h2⟩ <;> rcases dbl_case hb with ⟨h3, h4⟩ | ⟨h3, h4⟩ <;> omega
theorem orb_back {N f : Nat} (ho : ∃ q, N = 2 * q + 1) (hf : f < N) : ∀ i k, orb N f i = orb N f (i + k) → f = orb N f k
  | 0, k, h => by rw [orb_zero hf, Nat.zero_add] at h; exact h
  | i + 1, k, h => by
    rw [show i + 1 + k = i + k + 1 by omega, orb_succ, orb_succ] at h
    exact orb_back ho hf i k (dbl_inj ho (orb_lt (by omega) _ _) (orb_lt (by omega) _ _) h)
/-- d is how long the coset is. -/
structure IsPer (N f d : Nat) : Prop where
  pos : 1 ≤ d
  fin : orb N f d = f
  min : ∀ i, 1 ≤ i → i < d → orb N f i ≠ f
def lst (N f d : Nat) : List Nat := (List.range d).map (orb N f)
theorem lst_succ (N f d : Nat) : lst N f (d + 1) = lst N f d ++ [orb N f d] := by unfold lst; rw [List.range_succ, List.map_append]; rfl
theorem lst_length (N f d : Nat) : (lst N f d).length = d := by simp [lst]
theorem lst_nodup {N f d : Nat} (ho : ∃ q, N = 2 * q + 1) (hf : f < N) (h : IsPer N f d) : (lst N f d).Nodup := by
  unfold lst
  rw [List.Nodup, List.pairwise_map]
  refine List.Pairwise.imp_of_mem (R := (· < ·)) (fun {i j} hi hj hlt he => ?_) List.pairwise_lt_range
  have hj' := List.mem_range.1 hj
  have := orb_back ho hf i (j - i) (by rw [show i + (j - i) = j by omega]; exact he)
  exact h.min (j - i) (by omega) (by omega) this.symm
theorem orb_period {N f d : Nat} (h : IsPer N f d) : ∀ q r, orb N f (d * q + r) = orb N f r
  | 0, r => by rw [Nat.mul_zero, Nat.zero_add]
  | q + 1, r => by
    rw [show d * (q + 1) + r = d + (d * q + r) by rw [Nat.mul_add]; omega, ← orb_comp, h.fin, orb_period h q r]
theorem orb_mod {N f d : Nat} (h : IsPer N f d) (j : Nat) : orb N f j = orb N f (j % d) := by
  have := orb_period h (j / d) (j % d)
  rwa [Nat.div_add_mod] at this
theorem mem_lst {N f d : Nat} (h : IsPer N f d) (k : Nat) : k ∈ lst N f d ↔ ∃ j, orb N f j = k := by
  unfold lst
  rw [List.mem_map]
  constructor
  · rintro ⟨j, _, e⟩; exact ⟨j, e⟩
  · rintro ⟨j, e⟩
    exact ⟨j % d, List.mem_range.2 (Nat.mod_lt _ h.pos), by rw [← orb_mod h, e]⟩
theorem per_le {m f d : Nat} (hm : 3 ≤ m) (hf : f < sz m) (h : IsPer (sz m) f d) : d ≤ m := by
  refine Classical.byContradiction fun h0 => ?_
  exact h.min m (by omega) (by omega) (orb_m hf)
theorem per_exists {m f : Nat} (hm : 3 ≤ m) (hf : f < sz m) : ∃ d, IsPer (sz m) f d := by
  have key : ∀ k j, 1 ≤ j → j + k = m → (∀ i, 1 ≤ i → i < j → orb (sz m) f i ≠ f) → ∃ d, IsPer (sz m) f d := by
    intro k
    induction k with
    | zero =>
      intro j h1 h2 h3
      obtain rfl : j = m := by omega
      exact ⟨j, h1, orb_m hf, h3⟩
    | succ k ih =>
      intro j h1 h2 h3
      by_cases he : orb (sz m) f j = f
      · exact ⟨j, h1, he, h3⟩
      · refine ih (j + 1) (by omega) (by omega) fun i a b => ?_
        by_cases e : i = j
        · rw [e]; exact he
        · exact h3 i a (by omega)
  exact key (m - 1) 1 (Nat.le_refl _) (by omega) fun i a b => by omega
theorem mem_cos {m f : Nat} (k : Nat) : k ∈ cos m f ↔ k < sz m ∧ ∃ j, j < m ∧ orb (sz m) f j = k := by
  unfold cos
  rw [List.mem_filter, List.mem_range, List.any_eq_true]
  constructor
  · rintro ⟨h1, j, hj, he⟩
    exact ⟨h1, j, List.mem_range.1 hj, by simpa using he⟩
  · rintro ⟨h1, j, hj, he⟩
    exact ⟨h1, j, List.mem_range.2 hj, by simpa using he⟩
theorem cos_nodup (m f : Nat) : (cos m f).Nodup := List.Pairwise.filter _ List.nodup_range
theorem cos_rise (m f : Nat) : List.Pairwise (· < ·) (cos m f) := List.Pairwise.filter _ List.pairwise_lt_range
theorem lst_perm {m f d : Nat} (hm : 3 ≤ m) (hf : f < sz m) (h : IsPer (sz m) f d) : (lst (sz m) f d).Perm (cos m f) := by
  refine (List.perm_ext_iff_of_nodup (lst_nodup (sz_odd hm) hf h) (cos_nodup m f)).2 fun k => ?_
  rw [mem_lst h, mem_cos]
  constructor
  · rintro ⟨j, e⟩
    refine ⟨by rw [← e]; exact orb_lt (by omega) _ _, j % d, Nat.lt_of_lt_of_le (Nat.mod_lt _ h.pos) (per_le hm hf h), by rw [← orb_mod h, e]⟩
  · rintro ⟨_, j, _, e⟩; exact ⟨j, e⟩
theorem cos_length {m f d : Nat} (hm : 3 ≤ m) (hf : f < sz m) (h : IsPer (sz m) f d) : (cos m f).length = d := by
  rw [← (lst_perm hm hf h).length_eq, lst_length]
def ints (l : List Nat) : List Int := l.map fun e => ((e : Nat) : Int)
theorem sorted_cos {m f d : Nat} (hm : 3 ≤ m) (hf : f < sz m) (h : IsPer (sz m) f d) : (ints (lst (sz m) f d)).mergeSort (fun x y => decide (x ≤ y)) = ints (cos m f) := by
  refine List.Perm.eq_of_pairwise (le := fun x y => decide (x ≤ y) = true) ?_ ?_ ?_ ?_
  · intro a b _ _ h1 h2
    have := of_decide_eq_true h1
    have := of_decide_eq_true h2
    omega
  · refine List.pairwise_mergeSort ?_ ?_ _
    · intro a b c h1 h2
      have := of_decide_eq_true h1
      have := of_decide_eq_true h2
      exact decide_eq_true (by omega)
    · intro a b
      rw [Bool.or_eq_true, decide_eq_true_iff, decide_eq_true_iff]
      omega
  · refine List.Pairwise.map _ (fun a b hab => ?_) (cos_rise m f)
    exact decide_eq_true (by have : a < b := hab; omega)
  · exact (List.mergeSort_perm _ _).trans ((lst_perm hm hf h).map _)
theorem cos_first {m f : Nat} (hm : 3 ≤ m) (hf : f < sz m) : f ∈ cos m f := (mem_cos f).2 ⟨hf, 0, by omega, orb_zero hf⟩
theorem cos_dbl {m f k : Nat} (hm : 3 ≤ m) (hf : f < sz m) (h : k ∈ cos m f) : 2 * k % sz m ∈ cos m f := by
  obtain ⟨d, hd⟩ := per_exists hm hf
  rw [← (lst_perm hm hf hd).mem_iff, mem_lst hd] at h ⊢
  obtain ⟨j, e⟩ := h
  exact ⟨j + 1, by rw [orb_succ, e]⟩
theorem cos_same {m f k : Nat} (hm : 3 ≤ m) (hf : f < sz m) (h : k ∈ cos m f) : cos m k = cos m f := by
  obtain ⟨hk, j, hj, e⟩ := (mem_cos k).1 h
  have h2 : ∀ x, x ∈ cos m k ↔ x ∈ cos m f := fun x => by
    obtain ⟨d, hd⟩ := per_exists hm hf
    obtain ⟨d', hd'⟩ := per_exists hm hk
    rw [← (lst_perm hm hf hd).mem_iff, mem_lst hd, ← (lst_perm hm hk hd').mem_iff, mem_lst hd']
    constructor
    · rintro ⟨i, ei⟩; exact ⟨j + i, by rw [← orb_comp, e, ei]⟩
    · rintro ⟨i, ei⟩
      refine ⟨m * j - j + i, ?_⟩
      rw [← e, orb_comp, show j + (m * j - j + i) = m * j + i by have : j ≤ m * j := Nat.le_mul_of_pos_left j (by omega); omega, ← ei]
      have : ∀ q, orb (sz m) f (m * q + i) = orb (sz m) f i := by
        intro q
        induction q with
        | zero => rw [Nat.mul_zero, Nat.zero_add]
        | succ q ih => rw [show m * (q + 1) + i = m + (m * q + i) by rw [Nat.mul_add]; omega, ← orb_comp, orb_m hf, ih]
      exact this j
  refine List.Perm.eq_of_pairwise (le := (· < ·)) (fun a b _ _ h1 h2 => by omega) (cos_rise m k) (cos_rise m f) ?_
  exact (List.perm_ext_iff_of_nodup (cos_nodup m k) (cos_nodup m f)).2 h2
end Go.Proofs.YthmfneepnkgmgaaGreatDoor.Cos
/- The library's sort of ints, at this program's numbers. By the verifier of shale, with the shelf's own commands. -/
namespace Go.Proofs
open Go.Shelf
def Tryz.lays189_ren : Go.Shelf.Ren := ⟨fun | 189 => 134 | 125 => 145 | 257 => 144 | 128 => 156 | 129 => 157 | 294 => 147 | 295 => 148 | 296 => 149 | 297 => 150 | 298 => 151 | 299 => 152 | 216 => 153 | 300 => 154 | 301 => 155 | 328 => 158 | 329 => 159 | 330 => 160 | 331 => 161 | 332 => 162 | 215 => 163 | 343 => 164 | n => n, fun | 28 => 33 | 3 => 3 | 46 => 32 | 0 => 0 | 51 => 194 | 53 => 128 | 4 => 4 | 183 => 187 | 182 => 186 | 131 => 191 | 5 => 5 | 9 => 9 | 218 => 196 | 222 => 200 | 228 => 203 | 229 => 204 | n => n, fun | n => n⟩
theorem Tryz.lays189 : Go.Proofs.Lays.n189 Tryz.prog Tryz.lays189_ren := {
  mixed := by kernel_rfl
  f125 := Tryz.func145.trans (congrArg some (by kernel_rfl))
  f128 := Tryz.func156.trans (congrArg some (by kernel_rfl))
  f129 := Tryz.func157.trans (congrArg some (by kernel_rfl))
  f189 := Tryz.func134.trans (congrArg some (by kernel_rfl))
  f215 := Tryz.func163.trans (congrArg some (by kernel_rfl))
  f216 := Tryz.func153.trans (congrArg some (by kernel_rfl))
  f257 := Tryz.func144.trans (congrArg some (by kernel_rfl))
  f294 := Tryz.func147.trans (congrArg some (by kernel_rfl))
  f295 := Tryz.func148.trans (congrArg some (by kernel_rfl))
  f296 := Tryz.func149.trans (congrArg some (by kernel_rfl))
  f297 := Tryz.func150.trans (congrArg some (by kernel_rfl))
  f298 := Tryz.func151.trans (congrArg some (by kernel_rfl))
  f299 := Tryz.func152.trans (congrArg some (by kernel_rfl))
  f300 := Tryz.func154.trans (congrArg some (by kernel_rfl))
  f301 := Tryz.func155.trans (congrArg some (by kernel_rfl))
  f328 := Tryz.func158.trans (congrArg some (by kernel_rfl))
  f329 := Tryz.func159.trans (congrArg some (by kernel_rfl))
  f330 := Tryz.func160.trans (congrArg some (by kernel_rfl))
  f331 := Tryz.func161.trans (congrArg some (by kernel_rfl))
  f332 := Tryz.func162.trans (congrArg some (by kernel_rfl))
  f343 := Tryz.func164.trans (congrArg some (by kernel_rfl))
  t0 := Tryz.underlying0
  a0 := Tryz.isAgg0
  z0 := Tryz.sizeOf0
  v0 := Tryz.zeroValue0
  t3 := Tryz.underlying3
  a3 := Tryz.isAgg3
  z3 := Tryz.sizeOf3
  v3 := Tryz.zeroValue3
  t4 := Tryz.underlying4
  a4 := Tryz.isAgg4
  z4 := Tryz.sizeOf4
  v4 := Tryz.zeroValue4
  t5 := Tryz.underlying5
  a5 := Tryz.isAgg5
  z5 := Tryz.sizeOf5
  v5 := Tryz.zeroValue5
  t9 := Tryz.underlying9
  a9 := Tryz.isAgg9
  z9 := Tryz.sizeOf9
  v9 := Tryz.zeroValue9
  t28 := Tryz.underlying33
  a28 := Tryz.isAgg33
  z28 := Tryz.sizeOf33
  v28 := Tryz.zeroValue33
  t46 := Tryz.underlying32
  a46 := Tryz.isAgg32
  z46 := Tryz.sizeOf32
  v46 := Tryz.zeroValue32
  t51 := Tryz.underlying194
  a51 := Tryz.isAgg194
  z51 := Tryz.sizeOf194
  v51 := Tryz.zeroValue194
  t53 := Tryz.underlying128
  a53 := Tryz.isAgg128
  z53 := Tryz.sizeOf128
  v53 := Tryz.zeroValue128
  t131 := Tryz.underlying191
  a131 := Tryz.isAgg191
  z131 := Tryz.sizeOf191
  v131 := Tryz.zeroValue191
  t182 := Tryz.underlying186
  a182 := Tryz.isAgg186
  z182 := Tryz.sizeOf186
  v182 := Tryz.zeroValue186
  t183 := Tryz.underlying187
  a183 := Tryz.isAgg187
  z183 := Tryz.sizeOf187
  v183 := Tryz.zeroValue187
  t218 := Tryz.underlying196
  a218 := Tryz.isAgg196
  z218 := Tryz.sizeOf196
  v218 := Tryz.zeroValue196
  t222 := Tryz.underlying200
  a222 := Tryz.isAgg200
  z222 := Tryz.sizeOf200
  v222 := Tryz.zeroValue200
  t228 := Tryz.underlying203
  a228 := Tryz.isAgg203
  z228 := Tryz.sizeOf203
  v228 := Tryz.zeroValue203
  t229 := Tryz.underlying204
  a229 := Tryz.isAgg204
  z229 := Tryz.sizeOf204
  v229 := Tryz.zeroValue204 }
open Go.Sort Go.RowKit in
theorem YthmfneepnkgmgaaGreatDoor.sort_ints (blk off cap : Nat) (zs : List Int) (w : World) (hH : Holds (Value.int .i64) w blk off zs.toArray) (hblk : blk < w.heap.size) (hsz : zs.length < 4611686018427387904) :
    Calls Tryz.prog 134 #[.slice (some ⟨blk, off, none⟩) zs.length cap] w fun e w' =>
      e = .returned (.tuple #[]) ∧ ∃ n os, w' = grow (putRow (Value.int .i64) (Sort.ahead w n) blk off (zs.mergeSort fun x y => decide (x ≤ y)).toArray) os := Any.slices_Sort_int Tryz.lays189 blk off cap zs w hH hblk hsz
end Go.Proofs
/- The walk over package minimal's Coset. By the verifier of shale. -/
namespace Go.Proofs.YthmfneepnkgmgaaGreatDoor.Cos
open Go Go.RowKit
set_option linter.unusedVariables false
/-- the remainder that a number has. -/
def rs (m : Nat) (i : Int) : Nat := (i % (sz m : Int)).toNat
theorem rs_lt {m : Nat} (hm : 3 ≤ m) (i : Int) : rs m i < sz m := by
  have h := sz_lo hm
  have h1 := Int.emod_lt_of_pos i (by omega : (0 : Int) < (sz m : Int))
  have h2 := Int.emod_nonneg i (by omega : (sz m : Int) ≠ 0)
  unfold rs; omega
theorem rs_go {m : Nat} (hm : 3 ≤ m) (i : Int) : (i.tmod (sz m : Int) + (sz m : Int)).tmod (sz m : Int) = (rs m i : Int) := by
  have h := sz_lo hm
  have h1 := Int.emod_lt_of_pos i (by omega : (0 : Int) < (sz m : Int))
  have h2 := Int.emod_nonneg i (by omega : (sz m : Int) ≠ 0)
  have e : (rs m i : Int) = i % (sz m : Int) := by unfold rs; omega
  have a1 := Int.tmod_lt_of_pos i (by omega : (0 : Int) < (sz m : Int))
  have a2 : -(sz m : Int) < i.tmod (sz m : Int) := by
    have := Int.tmod_lt_of_pos (-i) (by omega : (0 : Int) < (sz m : Int))
    rw [Int.neg_tmod] at this
    omega
  rw [Int.tmod_eq_emod_of_nonneg (by omega), Int.add_emod_right, e, Int.tmod_eq_emod]
  split
  · rw [show ((0 : Nat) : Int) = 0 from rfl, Int.sub_zero, Int.emod_emod_of_dvd _ (Int.dvd_refl _)]
  · rw [show (((sz m : Int).natAbs : Nat) : Int) = (sz m : Int) by omega, Int.sub_emod_right, Int.emod_emod_of_dvd _ (Int.dvd_refl _)]
theorem dbl_go {N x : Nat} (hN : 7 ≤ N) (hN2 : N ≤ 16383) (h : x < N) : wrap64 (2 * (x : Int)) = 2 * (x : Int) ∧ (2 * (x : Int)).tmod (N : Int) = ((2 * x % N : Nat) : Int) := by
  constructor
  · exact IntWalk.wrap64_in _ (by omega)
  · rw [Int.tmod_eq_emod_of_nonneg (by omega), Int.natCast_emod, Int.natCast_mul]; rfl
theorem own_slice {w : World} {base n : Nat} {v : Value} {l : List Int} (e : Own64 w base v n l) : ∃ a c, v = .slice a n c := by
  rcases e.2 with ⟨h0, h1⟩ | ⟨g', cap', cur, hv, _⟩
  · exact ⟨none, 0, by rw [h0, h1]⟩
  · exact ⟨_, _, hv⟩
theorem ints_length (l : List Nat) : (ints l).length = l.length := by simp [ints]
theorem ints_snoc (l : List Nat) (x : Nat) : ints (l ++ [x]) = ints l ++ [(x : Int)] := by simp [ints]
/-- the library's sort of a slice of the call's own. -/
theorem sorted_own {w : World} {base n : Nat} {a : Option Addr} {c : Nat} {l k : List Int} (h : Own64 w base (.slice a n c) n l) (hn : 0 < n) (hn2 : n ≤ 1000000) (hs : l.mergeSort (fun x y => decide (x ≤ y)) = k) (hb : base ≤ w.heap.size) :
    Calls Tryz.prog 134 #[.slice a n c] w fun e w' => e = .returned (.tuple #[]) ∧ Own64 w' base (.slice a n c) n k ∧ Below base w w' := by
  have hl := h.len
  rcases h.2 with ⟨h0, h1⟩ | ⟨g, cap, cur, hv, hbg, hh, hnc, hm, hsz, ht⟩
  · omega
  · simp only [Value.slice.injEq] at hv
    obtain ⟨rfl, _, rfl⟩ := hv
    subst hl
    rw [Nat.mul_one] at ht hsz
    have hlm : l.length ≤ maxLen := by omega
    unfold maxLen at hlm hm
    have hts : (k.map (Value.int .i64)) = cells64 k := rfl
    refine (YthmfneepnkgmgaaGreatDoor.sort_ints g 0 c l w (Go.holds_of_blockI hh ht) (lt_of_block hh) ?_).mono ?_
    · omega
    · rintro e w' ⟨rfl, nn, os, rfl⟩
      have hkl : k.length = l.length := by rw [← hs]; exact (List.mergeSort_perm _ _).length_eq
      rw [hs]
      refine ⟨rfl, ?_, ?_⟩
      · have := Go.ownsRow_sortedI (n := nn) (os := os) (ss := l) (ts := k) hkl hbg hh hnc hm (by rw [Nat.mul_one]; exact hsz)
        exact this
      · exact (Below.refl base w).grown (Go.grownBy_sortedI k.toArray) hb (fun g' hg' => by simp only [Option.some.injEq] at hg'; omega)
set_option maxRecDepth 100000 in
set_option maxHeartbeats 1000000 in
theorem coset_any (m : Nat) (hm : 3 ≤ m) (hm2 : m ≤ 14) (i : Int) (w : World) :
    Calls Tryz.prog 110 #[.int .i64 (m : Int), .int .i64 i] w
      fun e w' => ∃ a n c, e = .returned (.tuple #[.slice a n c, .nilIface]) ∧ Own64 w' w.heap.size (.slice a n c) n (ints (cos m (rs m i))) ∧ Below w.heap.size w w' := by
  have h1 : ¬ (m : Int) < 3 := by omega
  have h2 : ¬ (14 : Int) < (m : Int) := by omega
  have hm14 : (m : Int) ≤ 14 := by omega
  have ho := Fld.shl_one m hm2
  have hn := sz_lo hm
  have hn2 := sz_hi hm2
  have hw : IntKind.i64.wrap ((Fld.els m : Int) - 1) = (sz m : Int) := by
    have : (Fld.els m : Int) - 1 = (sz m : Int) := by unfold Fld.els sz; have := Nat.two_pow_pos m; omega
    rw [this]; exact IntWalk.i64_in _ (by omega)
  have hr := rs_go hm i
  have hf := rs_lt hm i
  obtain ⟨i0, hi, hz0, hz1, hz2⟩ := info64
  have hA : wrap64 (i.tmod (sz m : Int) + (sz m : Int)) = i.tmod (sz m : Int) + (sz m : Int) := by
    have a1 := Int.tmod_lt_of_pos i (by omega : (0 : Int) < (sz m : Int))
    have a2 := Int.tmod_lt_of_pos (-i) (by omega : (0 : Int) < (sz m : Int))
    rw [Int.neg_tmod] at a2
    exact IntWalk.wrap64_in _ (by omega)
  obtain ⟨N, hN⟩ : ∃ N, N = sz m := ⟨_, rfl⟩
  obtain ⟨f, hfe⟩ : ∃ f, f = rs m i := ⟨_, rfl⟩
  rw [← hN] at hn hn2 hw hr hf hA
  rw [← hfe] at hr hf ⊢
  have HN := Lib.hid hN
  clear hN hfe
  obtain ⟨hB, hC⟩ := dbl_go hn hn2 hf
  have e1 : 2 * f % N = orb N f 1 := by rw [show 1 = 0 + 1 from rfl, orb_succ, orb_zero hf]
  rw [e1] at hC
  go_enter Tryz.func110, Tryz.ntmps110
  go_wp2_with fail
  have hb1 : Below w.heap.size w (w.alloc (.cells #[.int .i64 (f : Int)] 3 (0, 0))) := (Below.refl _ _).alloc (Nat.le_refl _) _
  have ho1 : Own64 (w.alloc (.cells #[.int .i64 (f : Int)] 3 (0, 0))) w.heap.size (.slice (some ⟨w.heap.size, 0, none⟩) 1 1) 1 (ints (lst N f 1)) := by
    have e : ints (lst N f 1) = [(f : Int)] := by
      show [((orb N f 0 : Nat) : Int)] = _
      rw [orb_zero hf]
    rw [e]
    exact ⟨rfl, Or.inr ⟨w.heap.size, 1, _, rfl, Nat.le_refl _, heap_alloc_new w _, Nat.le_refl _, by decide, rfl, rfl⟩⟩
  generalize w.alloc (.cells #[.int .i64 (f : Int)] 3 (0, 0)) = w1 at hb1 ho1 ⊢
  clear hA hB hC e1 hr hw
  go_loopg [8, 9] (m - 1) (fun gh s8 s9 wx => ∃ (j : Nat), gh = m - j ∧ 1 ≤ j ∧ j ≤ m ∧ s9 = .int .i64 ((orb N f j : Nat) : Int) ∧ Own64 wx w.heap.size s8 j (ints (lst N f j)) ∧ Hid (∀ k, 1 ≤ k → k < j → orb N f k ≠ f) ∧ Below w.heap.size w wx)
  case atStart => exact ⟨1, rfl, Nat.le_refl _, by omega, rfl, ho1, fun k a b => by omega, hb1⟩
  case round =>
    clear ho1 hb1
    obtain ⟨j, hg, hj1, hjm, rfl, ho5, HA, hB5⟩ := hrel
    have HG := Lib.hid hg
    clear hg
    obtain ⟨av, cv, rfl⟩ := own_slice ho5
    have hbs := hB5.size
    by_cases he : orb N f j = f
    · have HP : IsPer N f j := ⟨hj1, he, HA.out⟩
      have hs := by have := sorted_cos (d := j) hm (by rw [← HN.out]; exact hf) (by rw [← HN.out]; exact HP); rw [← HN.out] at this; exact this
      have t1 : (((orb N f j : Nat) : Int) == (f : Int)) = true := by rw [beq_iff_eq, he]
      clear HA he HP
      generalize ((orb N f j : Nat) : Int) = z at t1
      go_wp2_with fail
      refine (sorted_own ho5 hj1 (by omega) hs hbs).mono ?_
      rintro e w2 ⟨rfl, ho6, b6⟩
      have HB := Lib.hid (hB5.trans b6)
      have HO := Lib.hid ho6
      clear ho5 hB5 ho6 b6
      go_wp2_with fail
      go_ret2
      exact ⟨av, j, cv, rfl, HO.out, HB.out⟩
    · have hjm' : j ≠ m := fun e => he (by rw [e, HN.out]; exact orb_m (by rw [← HN.out]; exact hf))
      have t1 : (((orb N f j : Nat) : Int) == (f : Int)) = false := by rw [beq_eq_false_iff_ne]; omega
      have HA2 : Hid (∀ k, 1 ≤ k → k < j + 1 → orb N f k ≠ f) := fun k a b => by
        by_cases e : k = j
        · rw [e]; exact he
        · exact HA.out k a (by omega)
      obtain ⟨hB, hC⟩ := dbl_go hn hn2 (orb_lt (by omega : 0 < N) f j)
      rw [← orb_succ] at hC
      have HF : Hid (ints (lst N f (j + 1)) = ints (lst N f j) ++ [((orb N f j : Nat) : Int)]) := by
        show _ = _
        rw [lst_succ, ints_snoc]
      clear HA he
      generalize ((orb N f j : Nat) : Int) = z at t1 hB hC HF ⊢
      go_wp2_with (at_builtin; refine wpList_append_own _ rfl _ _ 33 rfl w.heap.size 3 i0 (.int .i64 0) 1 8 Tryz.underlying33 hi hz0 hz1 hz2 rfl (by decide) _ j _ rfl (World.ownsRow.alloc ho5 _) ⟨wr.heap.size, 0, none⟩ 1 1 [.int .i64 z] rfl rfl (cell_one_new _ _ _) (ints_oneCell .i64 [_]) (by unfold maxLen; omega) (by omega) (by simp; omega) ?_; intro v7 w7 hown7 hgrow _)
      have ho7 : Own64 w7 w.heap.size v7 (j + 1) (ints (lst N f (j + 1))) := by
        unfold Own64
        rw [HF.out, ← cells64_append]
        exact hown7
      have b7 : Below w.heap.size w w7 := (hB5.alloc hbs _).grown hgrow (by simp; omega) (fun g hg => (ho5.block g hg).1)
      clear hown7 hgrow ho5 hB5
      go_wp2_with fail
      go_roundg (m - (j + 1))
      case measure => have := HG.out; omega
      case rel => exact ⟨j + 1, rfl, by omega, by omega, rfl, ho7, HA2, b7⟩
end Go.Proofs.YthmfneepnkgmgaaGreatDoor.Cos
/- Blocks of bools that the call itself makes. By the verifier of shale. -/
namespace Go.Proofs.YthmfneepnkgmgaaGreatDoor
open Go Go.RowKit
set_option linter.unusedVariables false
def objB (l : List Bool) : Obj := .cells (l.map Value.bool).toArray 4 (0, 0)
/-- block g is the first N values of p. -/
def BF (w : World) (g N : Nat) (p : Nat → Bool) : Prop := w.heap[g]? = some (objB ((List.range N).map p))
theorem BF.lt {w : World} {g N : Nat} {p : Nat → Bool} (h : BF w g N p) : g < w.heap.size := lt_of_block h
theorem BF.cell {w : World} {g N : Nat} {p : Nat → Bool} (h : BF w g N p) {i : Nat} (hi : i < N) : w.cell? ⟨g, i, none⟩ = some (.bool (p i)) := by
  unfold World.cell?
  simp only
  rw [show w.heap[g]? = some (objB ((List.range N).map p)) from h]
  simp [objB, hi]
theorem BF.free {w : World} {g N : Nat} {p : Nat → Bool} (h : BF w g N p) (i : Nat) : w.frozen? ⟨g, i, none⟩ = false := by
  unfold World.frozen?
  simp only
  rw [show w.heap[g]? = some (objB ((List.range N).map p)) from h]
  rfl
theorem BF.of {w : World} {g N : Nat} {p q : Nat → Bool} (h : BF w g N p) (e : ∀ i, i < N → p i = q i) : BF w g N q := by
  unfold BF at h ⊢
  rw [h]
  congr 2
  exact List.map_congr_left fun i hi => e i (List.mem_range.1 hi)
theorem BF.set {w : World} {g N : Nat} {p : Nat → Bool} (h : BF w g N p) (k : Nat) : BF (w.setCell ⟨g, k, none⟩ (.bool true)) g N (fun i => p i || decide (i = k)) := by
  unfold BF
  rw [heap_setCell_same w g k _ _ _ h]
  congr 2
  apply Array.ext
  · simp
  · intro i h1 h2
    simp at h1 h2
    by_cases e : i = k
    · subst e; simp
    · simp [e, Ne.symm e]
set_option maxRecDepth 100000 in
theorem infoB : ∃ i, Tryz.prog.info? 4 = some i ∧ i.zero = some (.bool false) ∧ i.size = 1 ∧ i.bytes = 1 :=
  info_parts (show (Tryz.prog.info? 4).map (fun i => (i.zero, i.size, i.bytes)) = some (some (.bool false), 1, 1) by kernel_rfl)
set_option maxRecDepth 100000 in
theorem madeB (w : World) (n : Nat) (hn : n ≤ 1000000) :
    (Instr.makeSlice 50 (.int .i64 (n : Int)) (.int .i64 (n : Int))).run Tryz.prog w = .ok (.slice (some ⟨w.heap.size, 0, none⟩) n n) (w.alloc (objB (List.replicate n false))) := by
  obtain ⟨i0, hi, hz0, hz1, hz2⟩ := infoB
  rw [run_make (P := Tryz.prog) w 50 4 i0 (.bool false) Tryz.underlying50 hi hz0 .i64 .i64 (n : Int) (n : Int) (by omega) (by omega) (by rw [hz2]; omega) (by omega)]
  congr 2
  unfold objB madeCells
  rw [hz1]
  congr 1
  apply Array.ext
  · simp
  · intro i h1 h2
    simp [Value.cells, Nat.mod_one]
theorem BF.new (w : World) (n : Nat) : BF (w.alloc (objB (List.replicate n false))) w.heap.size n (fun _ => false) := by
  unfold BF
  rw [heap_alloc_new]
  congr 2
  apply List.ext_getElem
  · simp
  · intro i h1 h2; simp
end Go.Proofs.YthmfneepnkgmgaaGreatDoor
/- The walk over package minimal's cosets. By the verifier of shale. -/
namespace Go.Proofs.YthmfneepnkgmgaaGreatDoor.Cos
open Go Go.RowKit
set_option linter.unusedVariables false
/-- is x in a coset of one of these? -/
def cov (m : Nat) (fs : List Nat) (x : Nat) : Bool := fs.any fun f => (cos m f).contains x
/-- the unlike cosets of a, a + s, .. (k numbers), each by the remainder that it is met at. -/
def leads (m a s : Nat) : Nat → List Nat
  | 0 => []
  | k + 1 => if cov m (leads m a s k) ((a + s * k) % sz m) then leads m a s k else leads m a s k ++ [(a + s * k) % sz m]
theorem cov_snoc (m : Nat) (fs : List Nat) (f x : Nat) : cov m (fs ++ [f]) x = (cov m fs x || (cos m f).contains x) := by simp [cov]
theorem leads_lt {m : Nat} (hm : 3 ≤ m) (a s : Nat) : ∀ k f, f ∈ leads m a s k → f < sz m
  | 0, f, h => by simp [leads] at h
  | k + 1, f, h => by
    have hp := sz_lo hm
    simp only [leads] at h
    split at h
    · exact leads_lt hm a s k f h
    · rcases List.mem_append.1 h with h | h
      · exact leads_lt hm a s k f h
      · simp at h; rw [h]; exact Nat.mod_lt _ (by omega)
theorem leads_le (m a s : Nat) : ∀ k, (leads m a s k).length ≤ k
  | 0 => Nat.le_refl _
  | k + 1 => by
    have := leads_le m a s k
    simp only [leads]
    split
    · omega
    · simp; omega
/-- a list of cosets that the call itself makes. -/
structure CRow (w : World) (sb m : Nat) (v : Value) (n : Nat) (fs : List Nat) (vs : List Value) : Prop where
  own : w.ownsRow (sb + 1) 33 1 v n vs
  len : fs.length = n
  each : ∀ k, k < n → ∃ g c, vs[k]? = some (.slice (some ⟨g, 0, none⟩) (cos m (fs.getD k 0)).length c) ∧ Pl.RowZ w (some ⟨g, 0, none⟩) (cos m (fs.getD k 0)).length c (ints (cos m (fs.getD k 0))) ∧ sb < g ∧ v.ownBlock ≠ some g
theorem own_block {w : World} {base n : Nat} {v : Value} {vs : List Value} {e : TypeId} (h : w.ownsRow base e 1 v n vs) : ∀ g, v.ownBlock = some g → base ≤ g ∧ g < w.heap.size := by
  intro g hg
  rcases h.2 with ⟨h0, _⟩ | ⟨g', cap', cur, hv, hbg, hh, _⟩
  · rw [h0] at hg; cases hg
  · rw [hv] at hg
    simp only [Value.ownBlock, Option.some.injEq] at hg
    subst hg
    exact ⟨hbg, lt_of_block hh⟩
theorem row_keep {w w' : World} {g n c : Nat} {l : List Int} (h : Pl.RowZ w (some ⟨g, 0, none⟩) n c l) (hk : w'.heap[g]? = w.heap[g]?) (hs : w.heap.size ≤ w'.heap.size) : Pl.RowZ w' (some ⟨g, 0, none⟩) n c l :=
  ⟨h.hlen, h.hcap, h.hmost, fun i hi => by
    obtain ⟨bb, off, e, hc, hb⟩ := h.row i hi
    simp only [Option.some.injEq, Addr.mk.injEq] at e
    obtain ⟨rfl, rfl, _⟩ := e
    exact ⟨g, 0, rfl, (World.cell?_of_block (w := w) hk).trans hc, Nat.lt_of_lt_of_le hb hs⟩⟩
theorem CRow.keep {w w' : World} {sb m n : Nat} {v : Value} {fs : List Nat} {vs : List Value} (h : CRow w sb m v n fs vs) (hk : ∀ g, sb < g → g < w.heap.size → w'.heap[g]? = w.heap[g]?) (hs : w.heap.size ≤ w'.heap.size) (hne : ∀ k, k < n → cos m (fs.getD k 0) ≠ []) : CRow w' sb m v n fs vs := by
  refine ⟨⟨h.own.1, ?_⟩, h.len, fun k hkn => ?_⟩
  · rcases h.own.2 with h0 | ⟨g', cap', cur, hv, hbg, hh, r⟩
    · exact Or.inl h0
    · exact Or.inr ⟨g', cap', cur, hv, hbg, by rw [hk g' (by omega) (lt_of_block hh)]; exact hh, r⟩
  · obtain ⟨g, c, e, hr, hg, ho⟩ := h.each k hkn
    have hlt : g < w.heap.size := by
      have : 0 < (cos m (fs.getD k 0)).length := List.length_pos_iff.2 (hne k hkn)
      obtain ⟨bb, off, e2, _, hb⟩ := hr.row 0 this
      simp only [Option.some.injEq, Addr.mk.injEq] at e2
      omega
    exact ⟨g, c, e, row_keep hr (hk g hg hlt) hs, hg, ho⟩
theorem cos_ne {m f : Nat} (hm : 3 ≤ m) (hf : f < sz m) : cos m f ≠ [] := fun e => by have := cos_first hm hf; rw [e] at this; simp at this
theorem cos_len_le {m f : Nat} (hm : 3 ≤ m) (hf : f < sz m) : (cos m f).length ≤ m := by
  obtain ⟨d, hd⟩ := per_exists hm hf
  rw [cos_length hm hf hd]; exact per_le hm hf hd
set_option maxRecDepth 100000 in
theorem infoS : ∃ i, Tryz.prog.info? 33 = some i ∧ i.zero = some (.slice none 0 0) ∧ i.size = 1 ∧ i.bytes = 24 :=
  info_parts (show (Tryz.prog.info? 33).map (fun i => (i.zero, i.size, i.bytes)) = some (some (.slice none 0 0), 1, 24) by kernel_rfl)
theorem getD_lt {l : List Nat} {k : Nat} (h : k < l.length) : l.getD k 0 ∈ l := by
  rw [List.getD_eq_getElem?_getD, List.getElem?_eq_getElem h]; exact List.getElem_mem h
theorem getD_snoc_lt {l : List Nat} {x k : Nat} (h : k < l.length) : (l ++ [x]).getD k 0 = l.getD k 0 := by
  rw [List.getD_eq_getElem?_getD, List.getD_eq_getElem?_getD, List.getElem?_append_left h]
theorem getD_snoc_eq (l : List Nat) (x : Nat) : (l ++ [x]).getD l.length 0 = x := by
  rw [List.getD_eq_getElem?_getD, List.getElem?_append_right (Nat.le_refl _), Nat.sub_self]; rfl
set_option maxRecDepth 100000 in
set_option maxHeartbeats 1000000 in
theorem cosets_any (m a s cnt : Nat) (b : Int) (hm : 3 ≤ m) (hm2 : m ≤ 14) (hs1 : s ≤ 1000) (hc1 : ∀ k, k < cnt → ((a + s * k : Nat) : Int) ≤ b) (hc2 : b < ((a + s * cnt : Nat) : Int)) (hbig : a + s * cnt ≤ 100000) (hcnt : cnt ≤ 100000) (w : World) :
    Calls Tryz.prog 106 #[.int .i64 (m : Int), .int .i64 (a : Int), .int .i64 b, .int .i64 (s : Int)] w
      fun e w' => ∃ v n vs, e = .returned v ∧ CRow w' w.heap.size m v n (leads m a s cnt) vs ∧ Below w.heap.size w w' := by
  have hm14 : (m : Int) ≤ 14 := by omega
  have ho := Fld.shl_one m hm2
  have hn := sz_lo hm
  have hn2 := sz_hi hm2
  have hw : IntKind.i64.wrap ((Fld.els m : Int) - 1) = (sz m : Int) := by
    have : (Fld.els m : Int) - 1 = (sz m : Int) := by unfold Fld.els sz; have := Nat.two_pow_pos m; omega
    rw [this]; exact IntWalk.i64_in _ (by omega)
  obtain ⟨iS, hiS, hzS0, hzS1, hzS2⟩ := infoS
  obtain ⟨N, hN⟩ : ∃ N, N = sz m := ⟨_, rfl⟩
  rw [← hN] at hn hn2 hw
  have HN := Lib.hid hN
  clear hN
  have hmk := madeB w N (by omega)
  go_enter Tryz.func106, Tryz.ntmps106
  go_wp2_with fail
  have hb1 : Below w.heap.size w (w.alloc (objB (List.replicate N false))) := (Below.refl _ _).alloc (Nat.le_refl _) _
  have hf1 : BF (w.alloc (objB (List.replicate N false))) w.heap.size N (cov m (leads m a s 0)) := (BF.new w N).of fun i hi => by simp [leads, cov]
  have hc0 : CRow (w.alloc (objB (List.replicate N false))) w.heap.size m (.slice none 0 0) 0 (leads m a s 0) [] := ⟨⟨rfl, Or.inl ⟨rfl, rfl⟩⟩, rfl, fun k hk => by omega⟩
  clear hmk hw ho
  generalize w.alloc (objB (List.replicate N false)) = w1 at hb1 hf1 hc0 ⊢
  have HC1 := Lib.hid hc1
  have HC2 := Lib.hid hc2
  clear hc1 hc2
  go_loopg [9, 11] cnt (fun gh s9 s11 wx => ∃ (k n : Nat) (vs : List Value), gh = cnt - k ∧ k ≤ cnt ∧ s11 = .int .i64 ((a + s * k : Nat) : Int) ∧ CRow wx w.heap.size m s9 n (leads m a s k) vs ∧ BF wx w.heap.size N (cov m (leads m a s k)) ∧ Below w.heap.size w wx)
  case atStart => exact ⟨0, 0, [], rfl, Nat.zero_le _, by rw [Nat.mul_zero, Nat.add_zero], hc0, hf1, hb1⟩
  case round =>
    clear hc0 hf1 hb1
    obtain ⟨k, n, vs, hg, hk, rfl, hC, hF, hB⟩ := hrel
    have HG := Lib.hid hg
    clear hg
    obtain ⟨I, hI⟩ : ∃ I, I = a + s * k := ⟨_, rfl⟩
    rw [← hI]
    have hnk : n ≤ k := by have := leads_le m a s k; have := hC.len; omega
    have hbs := hB.size
    have hIb : I ≤ 100000 := by
      have : s * k ≤ s * cnt := Nat.mul_le_mul_left s hk
      omega
    by_cases hlt : k < cnt
    · have t1 : decide ((I : Int) ≤ b) = true := decide_eq_true (by rw [hI]; exact HC1.out k hlt)
      have hI2 : a + s * (k + 1) = I + s := by rw [hI, Nat.mul_add]; omega
      have e1 : (I : Int).tmod (N : Int) = ((I % N : Nat) : Int) := by rw [Int.tmod_eq_emod_of_nonneg (by omega), Int.natCast_emod]
      have hx : I % N < N := Nat.mod_lt _ (by omega)
      have d1 := hF.cell hx
      have hrs : rs m (I : Int) = I % N := by unfold rs; rw [← HN.out, ← Int.natCast_emod]; rfl
      have HL : Hid (leads m a s (k + 1) = if cov m (leads m a s k) (I % N) then leads m a s k else leads m a s k ++ [I % N]) := by
        show _ = _
        rw [leads, ← hI, ← HN.out]
      have HI := Lib.hid hI
      have HI2 := Lib.hid hI2
      obtain ⟨x, hxe⟩ : ∃ x, x = I % N := ⟨_, rfl⟩
      rw [← hxe] at e1 hx d1 hrs HL
      clear hI hI2 hxe
      have x0 : (0 : Int) ≤ (x : Int) := by omega
      have x1 : (x : Int) < (N : Int) := by omega
      by_cases hcv : cov m (leads m a s k) x = true
      · rw [hcv] at d1
        have HL2 : Hid (leads m a s (k + 1) = leads m a s k) := by show _ = _; rw [HL.out, if_pos hcv]
        clear hcv HL
        have HCC := Lib.hid hC
        have HFF := Lib.hid hF
        clear hC hF
        go_wp2_with fail
        go_roundg (cnt - (k + 1))
        case measure => have := HG.out; omega
        case rel => exact ⟨k + 1, n, vs, rfl, by omega, by rw [HI2.out]; go_num, by rw [HL2.out]; exact HCC.out, by rw [HL2.out]; exact HFF.out, hB⟩
      · have hcv' : cov m (leads m a s k) x = false := by cases h : cov m (leads m a s k) x <;> simp_all
        rw [hcv'] at d1
        have HL2 : Hid (leads m a s (k + 1) = leads m a s k ++ [x]) := by show _ = _; rw [HL.out, if_neg hcv]
        clear hcv HL hcv'
        have HCC := Lib.hid hC
        have HFF := Lib.hid hF
        clear hC hF
        go_wp2_with fail
        refine (coset_any m hm hm2 (I : Int) wr).mono ?_
        rintro e w5 ⟨a5, n5, c5, rfl, hO, b5⟩
        rw [hrs] at hO
        have hxs : x < sz m := by rw [← HN.out]; exact hx
        have hlen := hO.len
        rw [ints_length] at hlen
        have hpos : 0 < (cos m x).length := List.length_pos_iff.2 (cos_ne hm hxs)
        have hle := cos_len_le hm hxs
        obtain ⟨hrow, hfr⟩ := Pl.own_rowz hO
        obtain ⟨bb, off, rfl, _, hbb⟩ := hrow.row 0 (by omega)
        have hgb : wr.heap.size ≤ bb := hfr bb off rfl
        obtain rfl : off = 0 := by
          rcases hO.2 with ⟨h0, h1⟩ | ⟨g', cap', cur, hv, _⟩
          · simp at h0
          · simp only [Value.slice.injEq, Option.some.injEq, Addr.mk.injEq] at hv; exact hv.1.2.1
        obtain rfl : n5 = (cos m x).length := hlen.symm
        have hFs : w.heap.size < wr.heap.size := HFF.out.lt
        have hF5 : BF w5 w.heap.size N (fun y => cov m (leads m a s k) y || ((cos m x).take 0).contains y) := by
          refine BF.of (p := cov m (leads m a s k)) ((b5.block _ hFs).trans HFF.out) fun i hi => by simp
        have hne : ∀ j, j < n → cos m ((leads m a s k).getD j 0) ≠ [] := fun j hj => cos_ne hm (leads_lt hm a s k _ (getD_lt (by rw [HCC.out.len]; exact hj)))
        have HNE := Lib.hid hne
        have hC5 : CRow w5 w.heap.size m u9 n (leads m a s k) vs := HCC.out.keep (fun g h1 h2 => b5.block g h2) b5.size hne
        have hB5 := hB.trans (b5.mono hbs)
        have hO9 : ∀ g, u9.ownBlock = some g → g < wr.heap.size := fun g hg => (own_block HCC.out.own g hg).2
        have HO9 := Lib.hid hO9
        have HXS := Lib.hid hxs
        have HFS := Lib.hid hFs
        have HHB := Lib.hid hgb
        clear hO hlen hfr hbb b5 hne hO9 HCC HFF hB hxs d1 hgb hFs
        go_wp2_with fail
        go_loopg [44] (cos m x).length (fun gh s44 wx => ∃ (j : Nat), gh = (cos m x).length - j ∧ j ≤ (cos m x).length ∧ s44 = .int .i64 (j : Int) ∧ BF wx w.heap.size N (fun y => cov m (leads m a s k) y || ((cos m x).take j).contains y) ∧ CRow wx w.heap.size m u9 n (leads m a s k) vs ∧ Pl.RowZ wx (some ⟨bb, 0, none⟩) (cos m x).length c5 (ints (cos m x)) ∧ Below w.heap.size w wx ∧ bb < wx.heap.size)
        case atStart => exact ⟨0, rfl, Nat.zero_le _, rfl, hF5, hC5, hrow, hB5, by
          obtain ⟨b', o', e', _, hb'⟩ := hrow.row 0 hpos
          simp only [Option.some.injEq, Addr.mk.injEq] at e'
          omega⟩
        case round =>
          clear hF5 hC5 hrow hB5
          obtain ⟨j, hg, hj, rfl, hF, hC, hrow, hB, hbw⟩ := hrel
          have HG2 := Lib.hid hg
          clear hg
          by_cases hlt2 : j < (cos m x).length
          · have v1 : (j : Int) < ((cos m x).length : Int) := by omega
            have v0 : (0 : Int) ≤ (j : Int) := by omega
            obtain ⟨y, hy⟩ : ∃ y, y = (cos m x).getD j 0 := ⟨_, rfl⟩
            have hyc : y ∈ cos m x := by rw [hy]; exact getD_lt hlt2
            have hyN : y < N := by rw [HN.out]; exact ((mem_cos y).1 hyc).1
            have d1 : wr.cell? ⟨bb, j, none⟩ = some (.int .i64 (y : Int)) := by
              obtain ⟨b', o', e', hc', _⟩ := hrow.row j hlt2
              simp only [Option.some.injEq, Addr.mk.injEq] at e'
              obtain ⟨rfl, rfl, _⟩ := e'
              rw [Nat.zero_add] at hc'
              rw [hc', hy]
              unfold ints
              rw [List.getD_eq_getElem?_getD, List.getElem?_map, List.getD_eq_getElem?_getD, List.getElem?_eq_getElem hlt2]
              rfl
            have d2 := hF.cell hyN
            have d3 := hF.free y
            have y0 : (0 : Int) ≤ (y : Int) := by omega
            have y1 : (y : Int) < (N : Int) := by omega
            have HNF : Hid (BF (wr.setCell ⟨w.heap.size, y, none⟩ (.bool true)) w.heap.size N (fun z => cov m (leads m a s k) z || ((cos m x).take (j + 1)).contains z)) := by
              refine (hF.set y).of fun i hi => ?_
              have e : (cos m x).take (j + 1) = (cos m x).take j ++ [y] := by rw [List.take_add_one, hy, List.getD_eq_getElem?_getD, List.getElem?_eq_getElem hlt2]; rfl
              rw [e]
              simp [Bool.or_assoc]
            have HNC : Hid (CRow (wr.setCell ⟨w.heap.size, y, none⟩ (.bool true)) w.heap.size m u9 n (leads m a s k) vs) := hC.keep (fun g h1 h2 => Below.heap_setCell _ _ _ _ (by show g ≠ w.heap.size; omega)) (by show wr.heap.size ≤ (wr.heap.modify _ _).size; rw [Array.size_modify]; exact Nat.le_refl _) HNE.out
            have HNR : Hid (Pl.RowZ (wr.setCell ⟨w.heap.size, y, none⟩ (.bool true)) (some ⟨bb, 0, none⟩) (cos m x).length c5 (ints (cos m x))) := row_keep hrow (Below.heap_setCell _ _ _ _ (by show bb ≠ w.heap.size; have := HFS.out; have := HHB.out; omega)) (by show wr.heap.size ≤ (wr.heap.modify _ _).size; rw [Array.size_modify]; exact Nat.le_refl _)
            have HNB : Hid (Below w.heap.size w (wr.setCell ⟨w.heap.size, y, none⟩ (.bool true))) := hB.setCell (p := ⟨w.heap.size, y, none⟩) (Nat.le_refl _) _
            have HBW : Hid (bb < (wr.setCell ⟨w.heap.size, y, none⟩ (.bool true)).heap.size) := by show bb < (wr.heap.modify _ _).size; rw [Array.size_modify]; exact hbw
            generalize (cov m (leads m a s k) y || ((cos m x).take j).contains y) = bv at d2
            clear hF hC hrow hB hbw hyc hy hyN
            go_wp2_with fail
            go_roundg ((cos m x).length - (j + 1))
            case measure => have := HG2.out; omega
            case rel => exact ⟨j + 1, rfl, by omega, by go_num, HNF.out, HNC.out, HNR.out, HNB.out, HBW.out⟩
          · obtain rfl : j = (cos m x).length := by omega
            have hFF : BF wr w.heap.size N (cov m (leads m a s (k + 1))) := hF.of fun i hi => by rw [HL2.out, cov_snoc, List.take_length]
            have HFF := Lib.hid hFF
            have HC := Lib.hid hC
            have HRow := Lib.hid hrow
            have hbs2 := hB.size
            have hown := hC.own
            clear hF hFF hC hrow HG2 hlt2
            go_wp2_with (at_builtin; refine wpList_append_own_at _ rfl _ _ 120 rfl (w.heap.size + 1) 33 iS (.slice none 0 0) 1 24 Tryz.underlying120 hiS hzS0 hzS1 hzS2 rfl (by decide) _ n _ rfl (World.ownsRow.alloc hown _) ⟨wr.heap.size, 0, none⟩ 1 1 [.slice (some ⟨bb, 0, none⟩) (cos m x).length c5] rfl rfl (cell_one_new _ _ _) (by intro u hu; simp at hu; subst hu; rfl) (by unfold maxLen; omega) (by omega) (by simp; have := HFS.out; omega) ?_; intro v7 w7 hown7 hgrow _ hob)
            have hsz : (wr.alloc (.cells #[.slice (some ⟨bb, 0, none⟩) (cos m x).length c5] 33 (0, 0))).heap.size = wr.heap.size + 1 := Array.size_push _
            have hk7 : ∀ g, g < wr.heap.size → u9.ownBlock ≠ some g → w7.heap[g]? = wr.heap[g]? := fun g h1 h2 => by
              rw [hgrow.block g (by rw [hsz]; omega) (fun e => h2 e.symm)]
              exact ((Below.refl wr.heap.size wr).alloc (Nat.le_refl _) _).block g h1
            have hs7 : wr.heap.size ≤ w7.heap.size := by have := hgrow.size; rw [hsz] at this; omega
            have hB7 : Below w.heap.size w w7 := (hB.alloc hbs2 _).grown hgrow (by rw [hsz]; omega) (fun g hg => by have := (own_block HC.out.own g hg).1; omega)
            have hb7 : BF w7 w.heap.size N (cov m (leads m a s (k + 1))) := (hk7 _ HFF.out.lt (fun e => by have := (own_block HC.out.own _ e).1; omega)).trans HFF.out
            have hv7 : ∀ g, g < wr.heap.size → u9.ownBlock ≠ some g → v7.ownBlock ≠ some g := fun g h1 h2 => by
              rcases hob with h | h
              · rw [h]; exact h2
              · rw [h, hsz]
                intro e
                simp only [Option.some.injEq] at e
                omega
            have hu9 : u9.ownBlock ≠ some bb := fun e => by have := HO9.out bb e; have := HHB.out; omega
            have hC7 : CRow w7 w.heap.size m v7 (n + 1) (leads m a s (k + 1)) (vs ++ [.slice (some ⟨bb, 0, none⟩) (cos m x).length c5]) := by
              have hvl : vs.length = n := by have := HC.out.own.1; omega
              refine ⟨hown7, by rw [HL2.out, List.length_append, HC.out.len]; rfl, fun i hi => ?_⟩
              rw [HL2.out]
              by_cases hin : i < n
              · obtain ⟨g, c, e, hr, hg, ho⟩ := HC.out.each i hin
                rw [getD_snoc_lt (by rw [HC.out.len]; exact hin), List.getElem?_append_left (by rw [hvl]; exact hin)]
                have hgl : g < wr.heap.size := by
                  obtain ⟨b', o', e', _, hb'⟩ := hr.row 0 (List.length_pos_iff.2 (HNE.out i hin))
                  simp only [Option.some.injEq, Addr.mk.injEq] at e'
                  omega
                exact ⟨g, c, e, row_keep hr (hk7 g hgl ho) hs7, hg, hv7 g hgl ho⟩
              · obtain rfl : i = n := by omega
                have hx : (leads m a s k ++ [x]).getD i 0 = x := by
                  have := getD_snoc_eq (leads m a s k) x
                  rwa [HC.out.len] at this
                rw [hx]
                exact ⟨bb, c5, by rw [List.getElem?_append_right (by omega), hvl, Nat.sub_self]; rfl, row_keep HRow.out (hk7 bb hbw hu9) hs7, by have := HFS.out; have := HHB.out; omega, hv7 bb hbw hu9⟩
            clear hown7 hgrow hob hk7 hv7 hown hB HC HRow HFF
            have HC7 := Lib.hid hC7
            have Hb7 := Lib.hid hb7
            clear hC7 hb7
            go_wp2_with fail
            go_roundg (cnt - (k + 1))
            case measure => have := HG.out; omega
            case rel => exact ⟨k + 1, n + 1, _, rfl, by omega, by rw [HI2.out]; go_num, HC7.out, Hb7.out, hB7⟩
    · obtain rfl : k = cnt := by omega
      have t1 : decide ((I : Int) ≤ b) = false := decide_eq_false (by have := HC2.out; rw [← hI] at this; omega)
      have HCC := Lib.hid hC
      clear hC hF hI
      go_wp2_with fail
      go_ret
      exact ⟨_, n, vs, rfl, HCC.out, hB⟩
end Go.Proofs.YthmfneepnkgmgaaGreatDoor.Cos
/- The statements' own polynomials (shaleref2): Eval, Add, Times. By the verifier of shale. -/
namespace Go.Proofs.YthmfneepnkgmgaaGreatDoor.Pl
open Go Go.RowKit Fld Bits16
set_option linter.unusedVariables false
theorem regrown0 (w : World) : ∃ p : Regrown, w.drew = Sort.grow (redrawn w p.d) p.os := ⟨⟨w.drawn + 1, #[]⟩, by rw [Sort.grow_empty]; rfl⟩
section
variable {m : Nat} [M : Mid m]
theorem rmul_zz (a b : El m) (w : World) : Calls Tryz.prog 67 #[.int .i64 (m : Int), .int .i64 (zn a), .int .i64 (zn b)] w fun e w' => e = .returned (.int .i64 (zn (a * b))) ∧ Below w.heap.size w w' := by
  have := rmul_any m M.lo M.hi (zn a) (zn b) w
  rwa [mul_zn, elm_zn, elm_zn] at this
theorem rmul_zx (a : El m) (x : Int) (w : World) : Calls Tryz.prog 67 #[.int .i64 (m : Int), .int .i64 (zn a), .int .i64 x] w fun e w' => e = .returned (.int .i64 (zn (a * elm m x))) ∧ Below w.heap.size w w' := by
  have := rmul_any m M.lo M.hi (zn a) x w
  rwa [mul_zn, elm_zn] at this
set_option maxRecDepth 100000 in
set_option maxHeartbeats 1000000 in
theorem reval_any (a : Option Addr) (n cap : Nat) (l : List Int) (x : Int) (w : World) (h : RowZ w a n cap l) :
    Calls Tryz.prog 75 #[.int .i64 (m : Int), .slice a n cap, .int .i64 x] w
      fun e w' => e = .returned (.int .i64 (zn (ev n (sr m l) (elm m x)))) ∧ Below w.heap.size w w' := by
  have HP := Lib.hid h
  have hm : n ≤ maxLen := Nat.le_trans h.hcap h.hmost
  unfold maxLen at hm
  clear h
  go_enter Tryz.func75, Tryz.ntmps75
  go_wp2_with fail
  go_loopg [7, 8] n (fun gh s9 s10 wx => ∃ k j : Nat, gh = k ∧ k + j = n ∧ s10 = .int .i64 ((k : Int) - 1) ∧ s9 = .int .i64 (zn (ev j (dr (sr m l) k) (elm m x))) ∧ Below w.heap.size w wx)
  case atStart => exact ⟨n, 0, rfl, by omega, rfl, rfl, Below.refl _ _⟩
  case round =>
    obtain ⟨k, j, hg, hkj, rfl, rfl, hD⟩ := hrel
    have HG := Lib.hid hg
    clear hg
    rcases k with _ | k
    · have HJ : Hid (j = n) := by show _ = _; omega
      have HE : Hid (zn (ev j (dr (sr m l) 0) (elm m x)) = zn (ev n (sr m l) (elm m x))) := by
        show _ = _
        rw [HJ.out]
        have : dr (sr m l) 0 = sr m l := funext fun i => by show sr m l (0 + i) = _; rw [Nat.zero_add]
        rw [this]
      clear hkj
      go_wp2_with fail
      go_ret
      exact ⟨ret_i64 HE.out, hD⟩
    · have x0 : (0 : Int) ≤ (k : Int) := by omega
      have x1 : (k : Int) < (n : Int) := by omega
      rw [show ((k + 1 : Nat) : Int) - 1 = (k : Int) by omega]
      obtain ⟨bb, off, rfl, c1, hb⟩ := (HP.out.below hD).row k (by omega)
      have c1 := cell_regrown c1
      have HM : Hid (∀ q os, Calls Tryz.prog 67 #[.int .i64 (m : Int), .int .i64 (zn (ev j (dr (sr m l) (k + 1)) (elm m x))), .int .i64 x] (Sort.grow (redrawn wr q) os) fun e w'' => e = .returned (.int .i64 (zn (ev j (dr (sr m l) (k + 1)) (elm m x) * elm m x))) ∧ ∃ p : Regrown, w'' = Sort.grow (redrawn wr p.d) p.os) := fun q os => Calls.regrown_of (rmul_zx _ x _)
      have HL : Hid (∀ q os, Calls Tryz.prog 70 #[.int .i64 (m : Int), .int .i64 (l.getD k 0)] (Sort.grow (redrawn wr q) os) fun e w'' => e = .returned (.int .i64 (zn (elm m (l.getD k 0)))) ∧ ∃ p : Regrown, w'' = Sort.grow (redrawn wr p.d) p.os) := fun q os => Calls.regrown_of ((rlow_any _ _).mono fun _ _ ⟨h1, h2⟩ => ⟨h1, by rw [← h2]; exact Below.refl _ _⟩)
      have hz3 : bits .xor .i64 (zn (ev j (dr (sr m l) (k + 1)) (elm m x) * elm m x)) (zn (elm m (l.getD k 0))) = zn (ev (j + 1) (dr (sr m l) k) (elm m x)) := by
        rw [zn_add, sr_at, ev_dr]
      generalize zn (ev j (dr (sr m l) (k + 1)) (elm m x)) = z1 at HM ⊢
      generalize zn (ev j (dr (sr m l) (k + 1)) (elm m x) * elm m x) = z2 at HM hz3
      generalize zn (elm m (l.getD k 0)) = z5 at HL hz3
      generalize l.getD k 0 = z4 at c1 HL
      have HD := Lib.hid hD
      clear hD hb
      go_wp2_with fail
      refine wp_region_quiet_below (by kernel_rfl) (by kernel_rfl) ?_
      repeat (go_big_quiet_step (first | (go_at_call 67; with_reducible exact HM.out _ _) | (go_at_call 70; with_reducible exact HL.out _ _)))
      refine wpQuiet_nil ?_
      intro _ hw'
      obtain ⟨⟨dq, osq⟩, hw''⟩ := hw'
      subst hw''
      have hD2 : Below w.heap.size w (Sort.grow (redrawn wr dq) osq) := HD.out.trans ((below_regrown wr dq osq).mono HD.out.size)
      generalize Sort.grow (redrawn wr dq) osq = w5 at hD2 ⊢
      clear c1
      go_wp2_with fail
      go_roundg k
      case measure => have := HG.out; omega
      case rel => exact ⟨k, j + 1, rfl, by omega, by go_num, rfl, hD2⟩
/-- the first k numbers of f, and 0 up to N. -/
def upN (f : Nat → Int) (N k : Nat) : List Int := (List.range N).map fun i => if i < k then f i else 0
omit M in
theorem upN_length (f : Nat → Int) (N k : Nat) : (upN f N k).length = N := by simp [upN]
omit M in
theorem upN_set (f : Nat → Int) (N k : Nat) : (upN f N k).set k (f k) = upN f N (k + 1) := by
  apply List.ext_getElem
  · simp [upN]
  · intro i h1 h2
    simp only [upN, List.getElem_set, List.getElem_map, List.getElem_range]
    by_cases h : k = i
    · rw [if_pos h, if_pos (by omega), h]
    · rw [if_neg h]
      by_cases h3 : i < k
      · rw [if_pos h3, if_pos (by omega)]
      · rw [if_neg h3, if_neg (by omega)]
omit M in
theorem upN_at (f : Nat → Int) (N k i : Nat) (hi : i < N) (hk : k ≤ i) : nth64 (upN f N k) i = 0 := by
  unfold nth64
  rw [List.getD_eq_getElem?_getD, List.getElem?_eq_getElem (by rw [upN_length]; exact hi)]
  simp only [upN, List.getElem_map, List.getElem_range, Option.getD_some]
  rw [if_neg (by omega)]
omit M in
theorem upN_zero (f : Nat → Int) (N : Nat) : List.replicate N 0 = upN f N 0 := by
  apply List.ext_getElem
  · simp [upN]
  · intro i h1 h2; simp [upN]
/-- what Add lays at i: the numbers' own bits. -/
def rawN (l1 l2 : List Int) (i : Nat) : Int :=
  if i < l1.length then (if i < l2.length then bits .xor .i64 (l1.getD i 0) (l2.getD i 0) else l1.getD i 0) else bits .xor .i64 0 (l2.getD i 0)
theorem elm_xor (x y : Int) : elm m (bits .xor .i64 x y) = elm m x + elm m y := El.ext (el_xor m M.hi x y)
theorem sr_raw (l1 l2 : List Int) (N : Nat) (h1 : l1.length ≤ N) (h2 : l2.length ≤ N) : sr m (upN (rawN l1 l2) N N) = padd (sr m l1) (sr m l2) := by
  funext i
  show elm m ((upN (rawN l1 l2) N N).getD i 0) = elm m (l1.getD i 0) + elm m (l2.getD i 0)
  by_cases hi : i < N
  · rw [List.getD_eq_getElem?_getD, List.getElem?_eq_getElem (by rw [upN_length]; exact hi)]
    simp only [upN, List.getElem_map, List.getElem_range, Option.getD_some]
    rw [if_pos hi]
    unfold rawN
    by_cases a1 : i < l1.length
    · rw [if_pos a1]
      by_cases a2 : i < l2.length
      · rw [if_pos a2, elm_xor]
      · rw [if_neg a2, show l2.getD i 0 = 0 by rw [List.getD_eq_getElem?_getD, List.getElem?_eq_none (by omega)]; rfl, elm_zero, Fl.add_zero]
    · rw [if_neg a1, elm_xor, show l1.getD i 0 = 0 by rw [List.getD_eq_getElem?_getD, List.getElem?_eq_none (by omega)]; rfl]
  · rw [show (upN (rawN l1 l2) N N).getD i 0 = 0 by rw [List.getD_eq_getElem?_getD, List.getElem?_eq_none (by rw [upN_length]; omega)]; rfl,
      show l1.getD i 0 = 0 by rw [List.getD_eq_getElem?_getD, List.getElem?_eq_none (by omega)]; rfl, show l2.getD i 0 = 0 by rw [List.getD_eq_getElem?_getD, List.getElem?_eq_none (by omega)]; rfl, elm_zero, Fl.add_zero]
end
end Go.Proofs.YthmfneepnkgmgaaGreatDoor.Pl
/- The statements' own polynomials (shaleref2): Add. By the verifier of shale. -/
namespace Go.Proofs.YthmfneepnkgmgaaGreatDoor.Pl
open Go Go.RowKit Fld Bits16
set_option linter.unusedVariables false
section
variable {m : Nat} [M : Mid m]
theorem Blk64.rowz {w : World} {g : Nat} {l : List Int} (h : Blk64 w g l) (hm : l.length ≤ 1000000) : RowZ w (some ⟨g, 0, none⟩) l.length l.length l := by
  have := Blk64.row h l.length (Nat.le_refl _) hm
  rwa [List.take_length] at this
set_option maxRecDepth 100000 in
set_option maxHeartbeats 1000000 in
theorem radd_any (a1 : Option Addr) (n1 c1 : Nat) (l1 : List Int) (a2 : Option Addr) (n2 c2 : Nat) (l2 : List Int) (w : World) (h1 : RowZ w a1 n1 c1 l1) (h2 : RowZ w a2 n2 c2 l2) (k1 : n1 ≤ 1000000) (k2 : n2 ≤ 1000000) :
    Calls Tryz.prog 73 #[.int .i64 (m : Int), .slice a1 n1 c1, .slice a2 n2 c2] w
      fun e w' => ∃ a' n' cap', e = .returned (.slice a' n' cap') ∧ ROut m w w' a' n' cap' (padd (sr m l1) (sr m l2)) ∧ Below w.heap.size w w' := by
  have HP1 := Lib.hid h1
  have HP2 := Lib.hid h2
  have e1 := h1.hlen
  have e2 := h2.hlen
  obtain ⟨N, hN⟩ : ∃ N, N = max n1 n2 := ⟨_, rfl⟩
  have hN1 : n1 ≤ N := by omega
  have hN2 : n2 ≤ N := by omega
  have hNN : N = n1 ∨ N = n2 := by omega
  have hNm : N ≤ 1000000 := by omega
  have hS : sr m (upN (rawN l1 l2) N N) = padd (sr m l1) (sr m l2) := sr_raw l1 l2 N (by omega) (by omega)
  have HS := Lib.hid hS
  have hmk := made64 w N hNm
  rw [upN_zero (rawN l1 l2)] at hmk
  have hmk1 : Hid (¬ n1 < n2 → (Instr.makeSlice 33 (.int .i64 (n1 : Int)) (.int .i64 (n1 : Int))).run Tryz.prog w = .ok (.slice (some ⟨w.heap.size, 0, none⟩) N N) (w.alloc (obj64 (upN (rawN l1 l2) N 0)))) := fun h => by
    have e : n1 = N := by omega
    rw [e]; exact hmk
  have hmk2 : Hid (n1 < n2 → (Instr.makeSlice 33 (.int .i64 (n2 : Int)) (.int .i64 (n2 : Int))).run Tryz.prog w = .ok (.slice (some ⟨w.heap.size, 0, none⟩) N N) (w.alloc (obj64 (upN (rawN l1 l2) N 0)))) := fun h => by
    have e : n2 = N := by omega
    rw [e]; exact hmk
  have HK0 : Hid (Blk64 (w.alloc (obj64 (upN (rawN l1 l2) N 0))) w.heap.size (upN (rawN l1 l2) N 0)) := Blk64.new w _
  have HB0 : Hid (Below w.heap.size w (w.alloc (obj64 (upN (rawN l1 l2) N 0)))) := (Below.refl _ _).alloc (Nat.le_refl _) _
  have HE1 := Lib.hid e1
  have HE2 := Lib.hid e2
  have HNN := Lib.hid hNN
  clear h1 h2 e1 e2 hN hNN hS
  clear hmk
  by_cases hcase : n1 < n2
  all_goals
    first | have hmk := hmk2.out hcase | have hmk := hmk1.out hcase
    clear hmk1 hmk2
    go_enter Tryz.func73, Tryz.ntmps73
    go_wp2_with fail
    clear hmk hcase
    generalize w.alloc (obj64 (upN (rawN l1 l2) N 0)) = w0 at HK0 HB0 ⊢
    go_loopg [8] N (fun gh s8 wx => ∃ (k : Nat), gh = N - k ∧ k ≤ N ∧ s8 = .int .i64 (k : Int) ∧ Blk64 wx w.heap.size (upN (rawN l1 l2) N k) ∧ Below w.heap.size w wx)
    case atStart => exact ⟨0, rfl, Nat.zero_le _, rfl, HK0.out, HB0.out⟩
    case round =>
      clear HK0 HB0
      obtain ⟨k, hg, hkn, rfl, hk, hB⟩ := hrel
      have HG := Lib.hid hg
      clear hg
      by_cases hlt : k < N
      · have x0 : (0 : Int) ≤ (k : Int) := by omega
        have x1 : (k : Int) < (N : Int) := by omega
        have hc := hk.cell (i := k) (by rw [upN_length]; exact hlt)
        rw [upN_at _ _ _ _ hlt (Nat.le_refl _)] at hc
        have hf := hk.free k
        have hset := upN_set (rawN l1 l2) N k
        have HK := Lib.hid hk
        have HB := Lib.hid hB
        have HSET := Lib.hid hset
        by_cases ha : k < n1
        · have t1 : decide ((k : Int) < (n1 : Int)) = true := decide_eq_true (by omega)
          have x2 : (k : Int) < (n1 : Int) := by omega
          obtain ⟨bb, off, rfl, d1, hb⟩ := (HP1.out.below hB).row k ha
          generalize hz1 : l1.getD k 0 = z1 at d1
          have HZ1 := Lib.hid hz1
          clear hz1
          have hs := hk.set k (z1)
          have U8 : Upd w.heap.size wr (wr.setCell ⟨w.heap.size, k, none⟩ (.int .i64 (z1))) := (Upd.refl _ wr).only (Only.setCell _ ⟨w.heap.size, k, none⟩ _)
          have hB8 := hB.trans (U8.toBelow (Nat.le_refl _) hB.size)
          have HS8 := Lib.hid hs
          have HB8 := Lib.hid hB8
          clear hk hB hb hset hs hB8 U8
          by_cases hc2 : k < n2
          · have t2 : decide ((k : Int) < (n2 : Int)) = true := decide_eq_true (by omega)
            have x3 : (k : Int) < (n2 : Int) := by omega
            go_wp2_with fail
            clear hc hf d1
            generalize wr.setCell ⟨w.heap.size, k, none⟩ (.int .i64 (z1)) = w8 at HS8 HB8 ⊢
            obtain ⟨b2, o2, rfl, d2, hb2⟩ := (HP2.out.below HB8.out).row k hc2
            have hc := HS8.out.cell (i := k) (by rw [List.length_set, upN_length]; exact hlt)
            have hf := HS8.out.free k
            have hv : nth64 ((upN (rawN l1 l2) N k).set k (z1)) k = z1 := by
              unfold nth64
              rw [List.getD_eq_getElem?_getD, List.getElem?_set_self (by rw [upN_length]; exact hlt)]; rfl
            rw [hv] at hc
            have HV : Hid (bits .xor .i64 (z1) (l2.getD k 0) = rawN l1 l2 k) := by
              show _ = _
              unfold rawN
              rw [if_pos (by rw [← HE1.out]; exact ha), if_pos (by rw [← HE2.out]; exact hc2), HZ1.out]
            have hs := HS8.out.set k (rawN l1 l2 k)
            rw [List.set_set, HSET.out] at hs
            have U8 : Upd w.heap.size w8 (w8.setCell ⟨w.heap.size, k, none⟩ (.int .i64 (rawN l1 l2 k))) := (Upd.refl _ w8).only (Only.setCell _ ⟨w.heap.size, k, none⟩ _)
            have hB9 := HB8.out.trans (U8.toBelow (Nat.le_refl _) HB8.out.size)
            have HS9 : Hid (Blk64 (w8.drew.setCell ⟨w.heap.size, k, none⟩ (.int .i64 (rawN l1 l2 k))) w.heap.size (upN (rawN l1 l2) N (k + 1))) := hs
            have HB9 : Hid (Below w.heap.size w (w8.drew.setCell ⟨w.heap.size, k, none⟩ (.int .i64 (rawN l1 l2 k)))) := ⟨hB9.os, hB9.tape, hB9.output, hB9.size, hB9.block⟩
            have d2' : w8.drew.cell? ⟨b2, o2 + k, none⟩ = some (.int .i64 (l2.getD k 0)) := d2
            have hc' : w8.drew.cell? ⟨w.heap.size, k, none⟩ = some (.int .i64 (z1)) := hc
            have hf' : w8.drew.frozen? ⟨w.heap.size, k, none⟩ = false := hf
            clear hs hB9 U8 hv hb2 d2 hc hf
            have hvx := HV.out
            clear HV
            generalize l2.getD k 0 = z2 at d2' hvx
            clear HS8
            go_wp2_with fail
            refine wp_region_still_tail 11 (by kernel_rfl) (by kernel_rfl) ?_
            simp only [List.take_succ_cons, List.take_zero, List.drop_succ_cons, List.drop_zero]
            change wpStill _ _ w8.drew (fun a' => wpList _ _ _ _ a' w8.drew) _ _
            generalize w8.drew = w9 at HS9 HB9 d2' hc' hf' ⊢
            repeat still_step
            refine wpStill_nil ?_
            go_wp2_with fail
            clear d2' hc' hf' hvx
            generalize w9.setCell ⟨w.heap.size, k, none⟩ (.int .i64 (rawN l1 l2 k)) = wq at HS9 HB9 ⊢
            go_wp2_with fail
            go_roundg (N - (k + 1))
            case measure => have := HG.out; omega
            case rel => exact ⟨k + 1, rfl, by omega, by go_num, HS9.out, HB9.out⟩
          · have t2 : decide ((k : Int) < (n2 : Int)) = false := decide_eq_false (by omega)
            go_wp2_with fail
            clear hc hf d1
            generalize wr.setCell ⟨w.heap.size, k, none⟩ (.int .i64 (z1)) = w8 at HS8 HB8 ⊢
            have hs := HS8.out
            have e : z1 = rawN l1 l2 k := by
              unfold rawN
              rw [if_pos (by rw [← HE1.out]; exact ha), if_neg (by rw [← HE2.out]; exact hc2), HZ1.out]
            rw [e, HSET.out] at hs
            have HS9 := Lib.hid hs
            clear hs e HS8
            go_roundg (N - (k + 1))
            case measure => have := HG.out; omega
            case rel => exact ⟨k + 1, rfl, by omega, by go_num, HS9.out, HB8.out⟩
        · have t1 : decide ((k : Int) < (n1 : Int)) = false := decide_eq_false (by omega)
          have hc2 : k < n2 := by have := HNN.out; omega
          have t2 : decide ((k : Int) < (n2 : Int)) = true := decide_eq_true (by omega)
          have x3 : (k : Int) < (n2 : Int) := by omega
          obtain ⟨b2, o2, rfl, d2, hb2⟩ := (HP2.out.below hB).row k hc2
          have hvx : bits .xor .i64 0 (l2.getD k 0) = rawN l1 l2 k := by
            unfold rawN
            rw [if_neg (by rw [← HE1.out]; exact ha)]
          have hs := hk.set k (rawN l1 l2 k)
          rw [hset] at hs
          have U8 : Upd w.heap.size wr (wr.setCell ⟨w.heap.size, k, none⟩ (.int .i64 (rawN l1 l2 k))) := (Upd.refl _ wr).only (Only.setCell _ ⟨w.heap.size, k, none⟩ _)
          have hB9 := hB.trans (U8.toBelow (Nat.le_refl _) hB.size)
          have HS9 : Hid (Blk64 (wr.drew.setCell ⟨w.heap.size, k, none⟩ (.int .i64 (rawN l1 l2 k))) w.heap.size (upN (rawN l1 l2) N (k + 1))) := hs
          have HB9 : Hid (Below w.heap.size w (wr.drew.setCell ⟨w.heap.size, k, none⟩ (.int .i64 (rawN l1 l2 k)))) := ⟨hB9.os, hB9.tape, hB9.output, hB9.size, hB9.block⟩
          have d2' : wr.drew.cell? ⟨b2, o2 + k, none⟩ = some (.int .i64 (l2.getD k 0)) := d2
          have hc' : wr.drew.cell? ⟨w.heap.size, k, none⟩ = some (.int .i64 0) := hc
          have hf' : wr.drew.frozen? ⟨w.heap.size, k, none⟩ = false := hf
          clear hs hB9 U8 hb2 d2 hc hf hk hB hset
          generalize l2.getD k 0 = z2 at d2' hvx
          clear HK HB
          go_wp2_with fail
          refine wp_region_still_tail 11 (by kernel_rfl) (by kernel_rfl) ?_
          simp only [List.take_succ_cons, List.take_zero, List.drop_succ_cons, List.drop_zero]
          change wpStill _ _ wr.drew (fun a' => wpList _ _ _ _ a' wr.drew) _ _
          generalize wr.drew = w9 at HS9 HB9 d2' hc' hf' ⊢
          repeat still_step
          refine wpStill_nil ?_
          go_wp2_with fail
          clear d2' hc' hf' hvx
          generalize w9.setCell ⟨w.heap.size, k, none⟩ (.int .i64 (rawN l1 l2 k)) = wq at HS9 HB9 ⊢
          go_wp2_with fail
          go_roundg (N - (k + 1))
          case measure => have := HG.out; omega
          case rel => exact ⟨k + 1, rfl, by omega, by go_num, HS9.out, HB9.out⟩
      · obtain rfl : k = N := by omega
        have hrow := Blk64.rowz hk (by rw [upN_length]; exact hNm)
        rw [upN_length] at hrow
        have HRow := Lib.hid hrow
        have HB := Lib.hid hB
        clear hk hrow hB
        go_wp2_with fail
        refine (rtrim_any (m := m) _ k k _ wr HRow.out hNm).mono ?_
        rintro e w5 ⟨a', n', cap', rfl, hO, hb⟩
        rw [HS.out] at hO
        have HO := Lib.hid (hO.from HB.out.size)
        have HB5 := Lib.hid (HB.out.trans (hb.mono HB.out.size))
        clear hO hb
        go_wp2_with fail
        go_ret
        exact ⟨_, _, _, rfl, HO.out, HB5.out⟩
end
end Go.Proofs.YthmfneepnkgmgaaGreatDoor.Pl
/- The walk over package minimal's product: the product of x + a^j. By the verifier of shale. -/
namespace Go.Proofs.YthmfneepnkgmgaaGreatDoor.Cos
open Go Go.RowKit Fld Bits16 Pl
set_option linter.unusedVariables false
section
variable {m : Nat} [M : Mid m]
/-- a to the j-th, as an element. -/
def xe (m : Nat) [M : Mid m] (j : Nat) : El m := ⟨pwZ m (j : Int), pwZ_lt m M.lo M.hi _⟩
/-- the powers that a list of exponents names, as numbers. -/
def exl (m : Nat) [M : Mid m] (l : List Nat) : List Int := l.map fun j => zn (xe m j)
theorem exl_at (l : List Nat) (k : Nat) (h : k < l.length) : elm m ((exl m l).getD k 0) = xe m (l.getD k 0) := by
  unfold exl
  rw [List.getD_eq_getElem?_getD, List.getElem?_map, List.getD_eq_getElem?_getD, List.getElem?_eq_getElem h]
  exact elm_zn _
theorem sr_lin (e : El m) : sr m [zn e, 1] = lin e := by
  funext i
  show elm m (([zn e, 1] : List Int).getD i 0) = if i = 0 then e else if i = 1 then 1 else 0
  rcases i with _ | _ | i
  · exact elm_zn e
  · rw [if_neg (by omega), if_pos rfl]; exact elm_zn (1 : El m)
  · rw [if_neg (by omega), if_neg (by omega)]; exact elm_zero
theorem lit_row (w W : World) (l : List Int) (n : Nat) (hn : n = l.length) (hm : n ≤ 1000) (hW : W = w.alloc (obj64 l)) : RowZ W (some ⟨w.heap.size, 0, none⟩) n n l ∧ Below w.heap.size w W := by
  subst hW
  refine ⟨?_, (Below.refl _ _).alloc (Nat.le_refl _) _⟩
  subst hn
  exact Pl.Blk64.rowz (Blk64.new w l) (by omega)
theorem sr_unit : sr m [1] = pone := by
  funext i
  show elm m (([1] : List Int).getD i 0) = if i = 0 then 1 else 0
  rcases i with _ | i
  · rw [if_pos rfl]; exact elm_zn (1 : El m)
  · rw [if_neg (by omega)]; exact elm_zero
set_option maxRecDepth 100000 in
set_option maxHeartbeats 1000000 in
theorem product_any {s be ce bl : Nat} (a : Option Addr) (n cap : Nat) (l : List Nat) (w : World) (F : FldAt m w s be ce bl) (h : RowZ w a n cap (ints l)) (hn : n ≤ 20) :
    Calls Tryz.prog 112 #[.pointer (some ⟨s, 0, none⟩), .slice a n cap, .func (.func 113) #[] #[]] w
      fun e w' => ∃ a' n' c', e = .returned (.slice a' n' c') ∧ NV m w' (n + 1) a' n' c' (pls (exl m l) n) ∧ Below w.heap.size w w' := by
  have HLen : Hid (n = l.length) := by have := h.hlen; rwa [ints_length] at this
  go_enter Tryz.func112, Tryz.ntmps112
  go_wp2_with fail
  refine (pnew_any w F).mono ?_
  rintro e w1 ⟨g, rfl, R, B⟩
  replace h := h.below B
  clear F
  go_wp2_with fail
  generalize hw : w1.alloc (.cells #[.int .i64 1] 3 (0, 0)) = w2
  obtain ⟨hr, b⟩ := lit_row w1 w2 [1] 1 rfl (by decide) hw.symm
  clear hw
  replace h := h.below b
  replace R := R.below b
  replace B := B.trans (b.mono B.size)
  have e0 : nums (pls (m := m) (exl m l) 0) 1 = [1] := by
    show [zn (pls (m := m) (exl m l) 0 0)] = [1]
    have e : pls (m := m) (exl m l) 0 0 = 1 := by show (if (0 : Nat) = 0 then (1 : El m) else 0) = 1; rw [if_pos rfl]
    rw [e]; rfl
  have P : NV m w2 1 (some ⟨w1.heap.size, 0, none⟩) 1 1 (pls (exl m l) 0) := ⟨by rw [e0]; exact hr, pls_bd _ 0, top_dg' (pls_bd _ 0) (pls_dg _ 0), Nat.le_refl _⟩
  clear hr b e0
  generalize (some ⟨w1.heap.size, 0, none⟩ : Option Addr) = ap at P ⊢
  have HS : Hid (RingAt m w2 g s be ce bl ∧ RowZ w2 a n cap (ints l) ∧ Below w.heap.size w w2) := ⟨R, h, B⟩
  have HP := Lib.hid P
  clear R h B P
  go_wp2_with fail
  go_loopg [8, 18] n (fun gh s8 s18 wx => ∃ (k : Nat) (ax : Option Addr) (nx cx : Nat), gh = n - k ∧ k ≤ n ∧ s18 = .int .i64 (k : Int) ∧ s8 = .slice ax nx cx ∧ Hid (NV m wx (k + 1) ax nx cx (pls (exl m l) k)) ∧ Hid (RingAt m wx g s be ce bl ∧ RowZ wx a n cap (ints l) ∧ Below w.heap.size w wx))
  case atStart => exact ⟨0, ap, 1, 1, rfl, Nat.zero_le _, rfl, rfl, HP, HS⟩
  case round =>
    clear HP HS
    obtain ⟨k, ax, nx, cx, hg, hk, rfl, rfl, HP, HS⟩ := hrel
    have HG := Lib.hid hg
    clear hg
    by_cases hlt : k < n
    · have x1 : (k : Int) < (n : Int) := by omega
      have x0 : (0 : Int) ≤ (k : Int) := by omega
      obtain ⟨bb, off, rfl, d1, _⟩ := HS.out.2.1.row k hlt
      have hkl : k < l.length := by rw [← HLen.out]; exact hlt
      have d2 : (ints l).getD k 0 = ((l.getD k 0 : Nat) : Int) := by
        unfold ints
        rw [List.getD_eq_getElem?_getD, List.getElem?_map, List.getD_eq_getElem?_getD, List.getElem?_eq_getElem hkl]; rfl
      rw [d2] at d1
      have HX : Hid (elm m ((exl m l).getD k 0) = xe m (l.getD k 0)) := exl_at l k hkl
      generalize l.getD k 0 = j at d1 HX
      have R := HS.out.1
      have Hr := HS.out.2.1
      have B := HS.out.2.2
      have P := HP.out.pol
      clear d2 HS HP
      go_wp2_with fail
      refine (fexp_any M.lo M.hi (j : Int) wr R.2).mono ?_
      rintro e w' ⟨rfl, rfl⟩
      rw [show Bits16.h (pwZ m (j : Int)) = zn (xe m j) from rfl]
      clear d1
      go_wp2_with fail
      generalize hw : wr.alloc (.cells #[.int .i64 (zn (xe m j)), .int .i64 1] 3 (0, 0)) = w4
      obtain ⟨hr, b⟩ := lit_row wr w4 [zn (xe m j), 1] 2 rfl (by decide) hw.symm
      clear hw
      replace Hr := Hr.below b
      replace R := R.below b
      replace B := B.trans (b.mono B.size)
      replace P := P.below b
      have Q : PV m w4 2 (some ⟨wr.heap.size, 0, none⟩) 2 2 (lin (xe m j)) := ⟨_, hr, sr_lin _, Nat.le_refl _⟩
      clear hr b
      refine (mulV R (k + 1 + 2) P Q (Nat.le_refl _) (by omega)).mono ?_
      rintro e w5 ⟨a5, n5, c5, rfl, h5, b⟩
      have HP5 : Hid (NV m w5 (k + 1 + 1) a5 n5 c5 (pls (exl m l) (k + 1))) := by
        have e : pls (exl m l) (k + 1) = cv (pls (exl m l) k) (lin (xe m j)) := by show cv _ (lin (elm m ((exl m l).getD k 0))) = _; rw [HX.out]
        rw [e]
        refine ⟨h5.row, h5.bd, h5.top, ?_⟩
        rw [← h5.top, top_same h5.bd (e ▸ pls_bd (exl m l) (k + 1))]
        exact top_le _ _
      have HS5 : Hid (RingAt m w5 g s be ce bl ∧ RowZ w5 (some ⟨bb, off, none⟩) n cap (ints l) ∧ Below w.heap.size w w5) := ⟨R.below b, Hr.below b, B.trans (b.mono B.size)⟩
      clear h5 b R Hr B P Q
      go_wp2_with fail
      go_roundg (n - (k + 1))
      case measure => have := HG.out; omega
      case rel => exact ⟨k + 1, a5, n5, c5, rfl, by omega, by go_num, rfl, HP5, HS5⟩
    · obtain rfl : k = n := by omega
      go_wp2_with fail
      go_ret
      exact ⟨ax, nx, cx, rfl, HP.out, HS.out.2.2⟩
end
end Go.Proofs.YthmfneepnkgmgaaGreatDoor.Cos
/- The walk over package minimal's narrow: coefficients that are 0 or 1, as bits. By the verifier of shale. -/
namespace Go.Proofs.YthmfneepnkgmgaaGreatDoor.Cos
open Go Go.RowKit Bin
set_option linter.unusedVariables false
/-- a number's lowest bits as n bytes. -/
def byN (V n : Nat) : List (BitVec 8) := (List.range n).map fun i => BitVec.ofNat 8 (V >>> (8 * i))
theorem byN_length (V n : Nat) : (byN V n).length = n := by simp [byN]
theorem byN_at (V n i : Nat) (h : i < n) : nth8 (byN V n) i = BitVec.ofNat 8 (V >>> (8 * i)) := nth8_map n _ i h
theorem byN_bit (V n i j : Nat) (h : i < n) (hj : j < 8) : (nth8 (byN V n) i).getLsbD j = V.testBit (8 * i + j) := by
  rw [byN_at V n i h, BitVec.getLsbD_ofNat, Nat.testBit_shiftRight]
  simp [hj]
theorem val_byN {V n : Nat} (h : V < 2 ^ (8 * n)) : val (byN V n) = V := by
  apply Nat.eq_of_testBit_eq
  intro i
  rw [val_bit]
  by_cases hi : i / 8 < n
  · rw [byN_bit V n (i / 8) (i % 8) hi (Nat.mod_lt _ (by decide)), Nat.div_add_mod]
  · rw [nth8_far _ _ (by rw [byN_length]; omega)]
    rw [Nat.testBit_lt_two_pow (Nat.lt_of_lt_of_le h (Nat.pow_le_pow_right (by decide) (by omega)))]
    simp
theorem byN_zero (n : Nat) : List.replicate n 0 = byN 0 n := by
  apply List.ext_getElem
  · simp [byN]
  · intro i h1 h2; simp [byN]
/-- the first k bits that c says. -/
def nb (c : Nat → Bool) : Nat → Nat
  | 0 => 0
  | k + 1 => nb c k + if c k then 2 ^ k else 0
theorem nb_lt (c : Nat → Bool) : ∀ k, nb c k < 2 ^ k
  | 0 => Nat.one_pos
  | k + 1 => by
    have := nb_lt c k
    rw [Nat.pow_succ]
    simp only [nb]
    split <;> omega
theorem nb_bit (c : Nat → Bool) : ∀ k i, (nb c k).testBit i = (decide (i < k) && c i)
  | 0, i => by simp [nb]
  | k + 1, i => by
    have hl := nb_lt c k
    simp only [nb]
    by_cases hc : c k
    · rw [if_pos hc, Nat.add_comm, ← Nat.mul_one (2 ^ k), Nat.testBit_two_pow_mul_add _ hl, nb_bit c k i]
      by_cases h1 : i < k
      · rw [if_pos h1]; simp [h1, show i < k + 1 by omega]
      · rw [if_neg h1]
        by_cases h2 : i = k
        · subst h2; simp [hc]
        · have h3 : Nat.testBit 1 (i - k) = false := Nat.testBit_lt_two_pow (Nat.one_lt_two_pow (by omega))
          rw [h3]; simp [show ¬ i < k + 1 by omega]
    · rw [if_neg hc, Nat.add_zero, nb_bit c k i]
      by_cases h1 : i < k
      · simp [h1, show i < k + 1 by omega]
      · by_cases h2 : i = k
        · subst h2; simp [hc]
        · simp [h1, show ¬ i < k + 1 by omega]
theorem nar_step (c : Nat → Bool) (n k : Nat) (hk : k / 8 < n) : (byN (nb c k) n).set (k / 8) (nth8 (byN (nb c k) n) (k / 8) ||| (if c k then 1#8 <<< (k % 8) else 0)) = byN (nb c (k + 1)) n := by
  refine nth8_ext (by simp [byN]) fun i hi => ?_
  have hin : i < n := by simpa [byN] using hi
  have e : nth8 ((byN (nb c k) n).set (k / 8) (nth8 (byN (nb c k) n) (k / 8) ||| (if c k then 1#8 <<< (k % 8) else 0))) i = if i = k / 8 then (nth8 (byN (nb c k) n) (k / 8) ||| (if c k then 1#8 <<< (k % 8) else 0)) else nth8 (byN (nb c k) n) i := by
    unfold nth8
    rw [List.getD_eq_getElem?_getD, List.getElem?_set]
    by_cases h : i = k / 8
    · subst h
      simp [byN_length, hk]
    · rw [if_neg (Ne.symm h), if_neg h, List.getD_eq_getElem?_getD]
  rw [e]
  apply BitVec.eq_of_getLsbD_eq
  intro j hj
  rw [byN_bit _ _ _ _ hin hj, nb_bit]
  by_cases h : i = k / 8
  · rw [if_pos h, BitVec.getLsbD_or, byN_bit _ _ _ _ hk hj, nb_bit, h]
    by_cases hc : c k
    · rw [if_pos hc]
      by_cases h2 : 8 * (k / 8) + j = k
      · rw [h2]
        have : k % 8 = j := by omega
        simp [hc, this, hj]
      · have h3 : (1#8 <<< (k % 8)).getLsbD j = false := by
          simp [BitVec.getLsbD_shiftLeft, BitVec.getLsbD_one]
          omega
        rw [h3, Bool.or_false]
        congr 1
        simp only [decide_eq_decide]
        omega
    · rw [if_neg hc]
      by_cases h2 : 8 * (k / 8) + j = k
      · rw [h2]; simp [hc]
      · rw [show (0 : BitVec 8).getLsbD j = false by simp, Bool.or_false]
        congr 1
        simp only [decide_eq_decide]
        omega
  · rw [if_neg h, byN_bit _ _ _ _ hin hj, nb_bit]
    congr 1
    simp only [decide_eq_decide]
    omega
theorem b_ofInt8 (x : BitVec 8) : BitVec.ofInt 8 (Bits32.b x) = x := by
  unfold Bits32.b
  rw [BitVec.ofInt_natCast, BitVec.ofNat_toNat, BitVec.setWidth_eq]
theorem or_u8 (x y : BitVec 8) : bits .or .u8 (Bits32.b x) (Bits32.b y) = Bits32.b (x ||| y) := by
  show IntKind.u8.wrap ((BitVec.ofInt 8 (Bits32.b x) ||| BitVec.ofInt 8 (Bits32.b y)).toNat : Int) = _
  rw [b_ofInt8, b_ofInt8]
  have := (x ||| y).isLt
  unfold Bits32.b
  exact IntWalk.u8_in _ (by omega)
theorem shl_u8 : ∀ r : Fin 8, IntKind.u8.wrap (IntKind.u8.wrap 1 * 2 ^ r.val) = Bits32.b (1#8 <<< r.val) := by decide +kernel
theorem or_one (x : BitVec 8) (r : Nat) (h : r < 8) : bits .or .u8 (Bits32.b x) (IntKind.u8.wrap (IntKind.u8.wrap 1 * 2 ^ r)) = Bits32.b (x ||| 1#8 <<< r) := by
  rw [shl_u8 ⟨r, h⟩, or_u8]
theorem or_none (x : BitVec 8) (r : Nat) : bits .or .u8 (Bits32.b x) (IntKind.u8.wrap (IntKind.u8.wrap 0 * 2 ^ r)) = Bits32.b x := by
  have e : IntKind.u8.wrap (IntKind.u8.wrap 0 * 2 ^ r) = Bits32.b 0#8 := by
    rw [show IntKind.u8.wrap 0 = 0 from rfl, Int.zero_mul]; rfl
  rw [e, or_u8]
  congr 1
  exact BitVec.or_zero
set_option maxRecDepth 100000 in
set_option maxHeartbeats 1000000 in
theorem narrow_any (a : Option Addr) (n cap : Nat) (l : List Int) (c : Nat → Bool) (w : World) (h : Pl.RowZ w a n cap l) (hn : n ≤ 1000) (hc : ∀ i, i < n → l.getD i 0 = if c i then 1 else 0) :
    Calls Tryz.prog 111 #[.slice a n cap] w
      fun e w' => e = .returned (.slice (some ⟨w.heap.size, 0, none⟩) ((n + 7) / 8) ((n + 7) / 8)) ∧ Blk8 w' w.heap.size (byN (nb c n) ((n + 7) / 8)) ∧ Below w.heap.size w w' := by
  have HC := Lib.hid hc
  have HP := Lib.hid h
  clear hc h
  obtain ⟨N, hN⟩ : ∃ N, N = (n + 7) / 8 := ⟨_, rfl⟩
  rw [← hN]
  have q0 : ((n : Int) + 7).tdiv 8 = (N : Int) := by rw [Int.tdiv_eq_ediv_of_nonneg (by omega), hN]; omega
  have q00 : ((n : Int) + 7) / 8 = (N : Int) := by omega
  have hmk := made8P w N (by omega)
  have HN := Lib.hid hN
  clear hN
  go_enter Tryz.func111, Tryz.ntmps111
  go_wp2_with fail
  have hb1 : Below w.heap.size w (w.alloc (obj8 (List.replicate N 0))) := (Below.refl _ _).alloc (Nat.le_refl _) _
  have hk1 : Blk8 (w.alloc (obj8 (List.replicate N 0))) w.heap.size (byN (nb c 0) N) := by rw [byN_zero]; exact Blk8.new w _
  clear hmk q0 q00
  generalize w.alloc (obj8 (List.replicate N 0)) = w1 at hb1 hk1 ⊢
  go_loopg [13] n (fun gh s13 wx => ∃ (k : Nat), gh = n - k ∧ k ≤ n ∧ s13 = .int .i64 (k : Int) ∧ Blk8 wx w.heap.size (byN (nb c k) N) ∧ Below w.heap.size w wx)
  case atStart => exact ⟨0, rfl, Nat.zero_le _, rfl, hk1, hb1⟩
  case round =>
    clear hk1 hb1
    obtain ⟨k, hg, hk, rfl, hB8, hB⟩ := hrel
    have HG := Lib.hid hg
    clear hg
    by_cases hlt : k < n
    · have x1 : (k : Int) < (n : Int) := by omega
      have x0 : (0 : Int) ≤ (k : Int) := by omega
      obtain ⟨bb, off, rfl, d1, _⟩ := (HP.out.below hB).row k hlt
      rw [HC.out k hlt] at d1
      have hkN : k / 8 < N := by rw [HN.out]; omega
      have HST := Lib.hid (nar_step c N k hkN)
      obtain ⟨Q, hQ⟩ : ∃ Q, Q = k / 8 := ⟨_, rfl⟩
      obtain ⟨Rm, hRm⟩ : ∃ Rm, Rm = k % 8 := ⟨_, rfl⟩
      rw [← hQ] at hkN HST
      rw [← hRm] at HST
      have q1 : (k : Int).tdiv 8 = (Q : Int) := by rw [Int.tdiv_eq_ediv_of_nonneg (by omega), hQ]; omega
      have q2 : (k : Int) / 8 = (Q : Int) := by omega
      have r1 : (k : Int).tmod 8 = (Rm : Int) := by rw [Int.tmod_eq_emod_of_nonneg (by omega), hRm]; omega
      have r2 : (k : Int) % 8 = (Rm : Int) := by omega
      have y0 : (0 : Int) ≤ (Q : Int) := by omega
      have y1 : (Q : Int) < (N : Int) := by omega
      have y2 : Rm < 8 := by omega
      have i1 : IntKind.i64.wrap (Q : Int) = (Q : Int) := IntWalk.i64_in _ (by omega)
      have i2 : IntKind.i64.wrap (Rm : Int) = (Rm : Int) := IntWalk.i64_in _ (by omega)
      have y3 : (0 : Int) ≤ (Rm : Int) := by omega
      clear hQ hRm
      by_cases hc : c k = true
      · rw [if_pos hc] at d1
        have HSC : Hid ((byN (nb c k) N).set Q (nth8 (byN (nb c k) N) Q ||| 1#8 <<< Rm) = byN (nb c (k + 1)) N) := by
          have := HST.out
          rwa [if_pos hc] at this
        clear HST hc
        go_wp2_with fail
        refine wp_region_still_tail 12 (by kernel_rfl) (by kernel_rfl) ?_
        simp only [List.take_succ_cons, List.take_zero, List.drop_succ_cons, List.drop_zero]
        change wpStill _ _ wr.drew (fun a' => wpList _ _ _ _ a' wr.drew) _ _
        replace hB8 : Blk8 wr.drew w.heap.size (byN (nb c k) N) := hB8
        replace hB : Below w.heap.size w wr.drew := Below.drew hB
        generalize wr.drew = w2 at hB8 hB ⊢
        have c1 := hB8.cell (i := Q) (by rw [byN_length]; exact hkN)
        have c2 := hB8.free Q
        generalize nth8 (byN (nb c k) N) Q = bx at c1 HSC
        have ov := or_one bx Rm y2
        have HN2 := Lib.hid (hB8.set Q (bx ||| 1#8 <<< Rm))
        have HNB : Hid (Below w.heap.size w (w2.setCell ⟨w.heap.size, Q, none⟩ (.int .u8 (Bits32.b (bx ||| 1#8 <<< Rm))))) := hB.setCell (p := ⟨w.heap.size, Q, none⟩) (Nat.le_refl _) _
        generalize Bits32.b (bx ||| 1#8 <<< Rm) = nv at ov HN2 HNB
        clear hB8 hB
        repeat still_step
        refine wpStill_nil ?_
        go_wp2_with fail
        go_roundg (n - (k + 1))
        case measure => have := HG.out; omega
        case rel => exact ⟨k + 1, rfl, by omega, by go_num, by rw [← HSC.out]; exact HN2.out, HNB.out⟩
      · rw [if_neg hc] at d1
        have HSC : Hid ((byN (nb c k) N).set Q (nth8 (byN (nb c k) N) Q) = byN (nb c (k + 1)) N) := by
          have := HST.out
          rw [if_neg hc] at this
          rwa [show nth8 (byN (nb c k) N) Q ||| 0 = nth8 (byN (nb c k) N) Q from BitVec.or_zero] at this
        clear HST hc
        go_wp2_with fail
        refine wp_region_still_tail 12 (by kernel_rfl) (by kernel_rfl) ?_
        simp only [List.take_succ_cons, List.take_zero, List.drop_succ_cons, List.drop_zero]
        change wpStill _ _ wr.drew (fun a' => wpList _ _ _ _ a' wr.drew) _ _
        replace hB8 : Blk8 wr.drew w.heap.size (byN (nb c k) N) := hB8
        replace hB : Below w.heap.size w wr.drew := Below.drew hB
        generalize wr.drew = w2 at hB8 hB ⊢
        have c1 := hB8.cell (i := Q) (by rw [byN_length]; exact hkN)
        have c2 := hB8.free Q
        generalize nth8 (byN (nb c k) N) Q = bx at c1 HSC
        have ov := or_none bx Rm
        have HN2 := Lib.hid (hB8.set Q bx)
        have HNB : Hid (Below w.heap.size w (w2.setCell ⟨w.heap.size, Q, none⟩ (.int .u8 (Bits32.b bx)))) := hB.setCell (p := ⟨w.heap.size, Q, none⟩) (Nat.le_refl _) _
        generalize Bits32.b bx = nv at c1 ov HN2 HNB
        clear hB8 hB
        repeat still_step
        refine wpStill_nil ?_
        go_wp2_with fail
        go_roundg (n - (k + 1))
        case measure => have := HG.out; omega
        case rel => exact ⟨k + 1, rfl, by omega, by go_num, by rw [← HSC.out]; exact HN2.out, HNB.out⟩
    · obtain rfl : k = n := by omega
      go_wp2_with fail
      go_ret
      exact ⟨rfl, hB8, hB⟩
end Go.Proofs.YthmfneepnkgmgaaGreatDoor.Cos
/- The rest by the generator, as the encoders reckon it, and numbers as words of 64 bits. No program is named here. By the verifier of shale. -/
namespace Go.Proofs.YthmfneepnkgmgaaGreatDoor.Enc
open Go Bin
set_option linter.unusedVariables false
theorem pmod_xor {g D : Nat} (hg : Deg g D) (a b : Nat) : pmod (a ^^^ b) g = pmod a g ^^^ pmod b g := by
  obtain ⟨⟨q, h1⟩, l1⟩ := pmod_eq a hg
  obtain ⟨⟨p, h2⟩, l2⟩ := pmod_eq b hg
  refine (pmod_of hg (q := q ^^^ p) ?_ (Nat.xor_lt_two_pow l1 l2)).symm
  rw [pm_xor_left, xx, ← h1, ← h2]
theorem pmod_lt {g D : Nat} (hg : Deg g D) (a : Nat) : pmod a g < 2 ^ D := (pmod_eq a hg).2
theorem pmod_small {g D a : Nat} (hg : Deg g D) (h : a < 2 ^ D) : pmod a g = a := (pmod_of hg (q := 0) (by rw [zero_pm, Nat.zero_xor]) h).symm
theorem pmod_pm {g D : Nat} (hg : Deg g D) (q : Nat) : pmod (pm q g) g = 0 := (pmod_of hg (q := q) (by rw [Nat.xor_zero]) (Nat.two_pow_pos D)).symm
theorem shl_xor (a b k : Nat) : (a ^^^ b) <<< k = a <<< k ^^^ b <<< k := by
  apply Nat.eq_of_testBit_eq
  intro i
  simp only [Nat.testBit_xor, Nat.testBit_shiftLeft]
  cases decide (i ≥ k) <;> simp
theorem pmod_shl {g D : Nat} (hg : Deg g D) (a k : Nat) : pmod (a <<< k) g = pmod (pmod a g <<< k) g := by
  obtain ⟨⟨q, h1⟩, _⟩ := pmod_eq a hg
  have e : a <<< k = pm (q <<< k) g ^^^ (pmod a g <<< k) := by
    rw [← pow_pm k q, pm_assoc, pow_pm k (pm q g), ← shl_xor, ← h1]
  rw [e, pmod_xor hg, pmod_pm hg, Nat.zero_xor]
/-- the parity of a: the rest of a, moved up by the degree. -/
def prt (g D a : Nat) : Nat := pmod (a <<< D) g
theorem prt_lt {g D : Nat} (hg : Deg g D) (a : Nat) : prt g D a < 2 ^ D := pmod_lt hg _
theorem prt_xor {g D : Nat} (hg : Deg g D) (a b : Nat) : prt g D (a ^^^ b) = prt g D a ^^^ prt g D b := by
  unfold prt; rw [shl_xor, pmod_xor hg]
theorem prt_zero {g D : Nat} (hg : Deg g D) : prt g D 0 = 0 := by
  unfold prt; rw [Nat.zero_shiftLeft]; exact pmod_small hg (Nat.two_pow_pos D)
theorem split_at (x D : Nat) : x = (x % 2 ^ D) ^^^ ((x >>> D) <<< D) := by
  apply Nat.eq_of_testBit_eq
  intro i
  rw [Nat.testBit_xor, Nat.testBit_mod_two_pow, Nat.testBit_shiftLeft, Nat.testBit_shiftRight]
  by_cases h : i < D
  · simp [h, show ¬ D ≤ i by omega]
  · simp [h, show D ≤ i by omega]
theorem shl_shl (a j k : Nat) : (a <<< j) <<< k = a <<< (j + k) := (Nat.shiftLeft_add a j k).symm
/-- going on with k bits of data. -/
theorem prt_step {g D : Nat} (hg : Deg g D) (A b k : Nat) : prt g D (A <<< k ^^^ b) = ((prt g D A <<< k) % 2 ^ D) ^^^ prt g D (((prt g D A <<< k) >>> D) ^^^ b) := by
  obtain ⟨r, hr⟩ : ∃ r, r = prt g D A := ⟨_, rfl⟩
  have e1 : prt g D (A <<< k) = pmod (r <<< k) g := by
    unfold prt
    rw [shl_shl, Nat.add_comm, ← shl_shl, pmod_shl hg, hr]
    rfl
  rw [prt_xor hg, e1, prt_xor hg, ← hr]
  have e2 : pmod (r <<< k) g = ((r <<< k) % 2 ^ D) ^^^ prt g D ((r <<< k) >>> D) := by
    have h : pmod (r <<< k) g = pmod ((r <<< k % 2 ^ D) ^^^ ((r <<< k) >>> D) <<< D) g := congrArg (fun z => pmod z g) (split_at (r <<< k) D)
    rw [pmod_xor hg, pmod_small hg (Nat.mod_lt _ (Nat.two_pow_pos D))] at h
    exact h
  rw [e2, Nat.xor_assoc]
/-- the generator without its highest bit. -/
def low (g D : Nat) : Nat := g % 2 ^ D
theorem low_eq {g D : Nat} (hg : Deg g D) : low g D = g ^^^ 2 ^ D := by
  unfold low
  apply Nat.eq_of_testBit_eq
  intro i
  rw [Nat.testBit_mod_two_pow, Nat.testBit_xor]
  by_cases h : i < D
  · rw [Nat.testBit_two_pow_of_ne (by omega)]; simp [h]
  · by_cases e : i = D
    · subst e; rw [deg_bit hg, Nat.testBit_two_pow_self]; simp
    · rw [Nat.testBit_two_pow_of_ne (by omega), Nat.testBit_lt_two_pow (lt_of_deg hg (by omega))]; simp
theorem prt_one {g D : Nat} (hg : Deg g D) : prt g D 1 = low g D := by
  unfold prt
  refine (pmod_of hg (q := 1) ?_ (Nat.mod_lt _ (Nat.two_pow_pos D))).symm
  rw [one_pm]
  have := low_eq hg
  unfold low at this
  rw [this, ← Nat.xor_assoc, Nat.xor_self, Nat.zero_xor, Nat.shiftLeft_eq, Nat.one_mul]
/-- one bit more. -/
theorem prt_bit {g D : Nat} (hg : Deg g D) (hD : 0 < D) (A b : Nat) (hb : b < 2) :
    prt g D (A <<< 1 ^^^ b) = ((prt g D A <<< 1) % 2 ^ D) ^^^ (if ((prt g D A) >>> (D - 1)) ^^^ b = 0 then 0 else low g D) := by
  rw [prt_step hg]
  have hl := prt_lt hg A
  generalize prt g D A = r at hl ⊢
  have e : (r <<< 1) >>> D = r >>> (D - 1) := by
    apply Nat.eq_of_testBit_eq
    intro i
    rw [Nat.testBit_shiftRight, Nat.testBit_shiftRight, Nat.testBit_shiftLeft]
    simp [show D + i ≥ 1 by omega, show D + i - 1 = D - 1 + i by omega]
  rw [e]
  have h2 : r >>> (D - 1) < 2 := by
    rw [Nat.shiftRight_eq_div_pow]
    apply Nat.div_lt_of_lt_mul
    rw [← Nat.pow_succ, show (D - 1).succ = D by omega]; exact hl
  have h3 : (r >>> (D - 1)) ^^^ b < 2 := Nat.xor_lt_two_pow (n := 1) h2 hb
  rcases (by omega : (r >>> (D - 1)) ^^^ b = 0 ∨ (r >>> (D - 1)) ^^^ b = 1) with h | h
  · rw [h, if_pos rfl, prt_zero hg]
  · rw [h, if_neg (by decide), prt_one hg]
/-- word i of a number. -/
def wd (R i : Nat) : Nat := (R >>> (64 * i)) % 2 ^ 64
theorem wd_lt (R i : Nat) : wd R i < 2 ^ 64 := Nat.mod_lt _ (Nat.two_pow_pos 64)
theorem wd_bit (R i j : Nat) : (wd R i).testBit j = (decide (j < 64) && R.testBit (64 * i + j)) := by
  unfold wd
  rw [Nat.testBit_mod_two_pow, Nat.testBit_shiftRight]
/-- the values of a function, in a list. -/
def wf (n : Nat) (f : Nat → Nat) : List Nat := (List.range n).map f
theorem wf_length (n : Nat) (f : Nat → Nat) : (wf n f).length = n := by simp [wf]
theorem wf_set (n : Nat) (f : Nat → Nat) (i v : Nat) : (wf n f).set i v = wf n (fun j => if j = i then v else f j) := by
  apply List.ext_getElem
  · simp [wf]
  · intro j h1 h2
    rw [List.getElem_set]
    simp only [wf, List.getElem_map, List.getElem_range]
    by_cases h : i = j
    · subst h; simp
    · rw [if_neg h, if_neg (Ne.symm h)]
theorem wf_ext {n : Nat} {f g : Nat → Nat} (h : ∀ j, j < n → f j = g j) : wf n f = wf n g := by
  apply List.ext_getElem
  · simp [wf]
  · intro j h1 h2
    simp only [wf, List.getElem_map, List.getElem_range]
    exact h j (by simpa [wf] using h1)
theorem wf_getD {n : Nat} (f : Nat → Nat) {i : Nat} (h : i < n) : (wf n f).getD i 0 = f i := by
  unfold wf
  rw [List.getD_eq_getElem?_getD, List.getElem?_map, List.getElem?_range h]; rfl
/-- the words of a number. -/
def wl (n R : Nat) : List Nat := wf n (wd R)
theorem wl_length (n R : Nat) : (wl n R).length = n := wf_length _ _
theorem wl_zero (n : Nat) : List.replicate n 0 = wl n 0 := by
  apply List.ext_getElem
  · simp [wl, wf]
  · intro i h1 h2; simp [wl, wf, wd]
theorem wd_xor (R S i : Nat) : wd (R ^^^ S) i = wd R i ^^^ wd S i := by
  apply Nat.eq_of_testBit_eq
  intro j
  rw [Nat.testBit_xor, wd_bit, wd_bit, wd_bit, Nat.testBit_xor]
  cases decide (j < 64) <;> simp
theorem wd_shl (R i k : Nat) (h1 : 1 ≤ k) (h2 : k ≤ 63) (hi : 0 < i) : wd (R <<< k) i = ((wd R i * 2 ^ k) % 2 ^ 64) ||| (wd R (i - 1) / 2 ^ (64 - k)) := by
  rw [← Nat.shiftLeft_eq, ← Nat.shiftRight_eq_div_pow]
  apply Nat.eq_of_testBit_eq
  intro j
  rw [Nat.testBit_or, wd_bit, Nat.testBit_shiftLeft, Nat.testBit_mod_two_pow, Nat.testBit_shiftLeft, Nat.testBit_shiftRight, wd_bit, wd_bit]
  by_cases hj : j < 64
  · by_cases hk : k ≤ j
    · rw [show 64 * i + j - k = 64 * i + (j - k) by omega]
      simp [hj, hk, show k ≤ 64 * i + j by omega, show j - k < 64 by omega, show ¬ 64 - k + j < 64 by omega]
    · rw [show 64 * i + j - k = 64 * (i - 1) + (64 - k + j) by omega]
      simp [hj, hk, show k ≤ 64 * i + j by omega, show 64 - k + j < 64 by omega]
  · simp [hj, show ¬ 64 - k + j < 64 by omega]
theorem wd_shl0 (R k : Nat) : wd (R <<< k) 0 = (wd R 0 * 2 ^ k) % 2 ^ 64 := by
  rw [← Nat.shiftLeft_eq]
  apply Nat.eq_of_testBit_eq
  intro j
  rw [wd_bit, Nat.testBit_shiftLeft, Nat.testBit_mod_two_pow, Nat.testBit_shiftLeft, wd_bit]
  by_cases hj : j < 64
  · by_cases hk : k ≤ j
    · simp [hj, hk, show j - k < 64 by omega]
    · simp [hj, hk]
  · simp [hj]
theorem wd_mod (R D i : Nat) (hi : i < (D + 63) / 64) : wd (R % 2 ^ D) i = if D % 64 ≠ 0 ∧ i = (D + 63) / 64 - 1 then wd R i % 2 ^ (D % 64) else wd R i := by
  apply Nat.eq_of_testBit_eq
  intro j
  rw [wd_bit, Nat.testBit_mod_two_pow]
  by_cases h : D % 64 ≠ 0 ∧ i = (D + 63) / 64 - 1
  · rw [if_pos h, Nat.testBit_mod_two_pow, wd_bit]
    by_cases hj : j < 64
    · by_cases hk : 64 * i + j < D
      · simp [hj, hk, show j < D % 64 by omega]
      · simp [hj, hk, show ¬ j < D % 64 by omega]
    · simp [hj]
  · rw [if_neg h, wd_bit]
    by_cases hj : j < 64
    · simp [hj, show 64 * i + j < D by omega]
    · simp [hj]
/-- the n bits from at on. -/
theorem wd_top (R a n : Nat) (hn : n ≤ 8) :
    (wd R (a / 64) / 2 ^ (a % 64)) % 2 ^ n = (R >>> a) % 2 ^ n ∨ 64 < a % 64 + n := by
  by_cases h : 64 < a % 64 + n
  · exact Or.inr h
  · left
    rw [← Nat.shiftRight_eq_div_pow]
    apply Nat.eq_of_testBit_eq
    intro j
    rw [Nat.testBit_mod_two_pow, Nat.testBit_mod_two_pow, Nat.testBit_shiftRight, Nat.testBit_shiftRight, wd_bit]
    by_cases hj : j < n
    · rw [show 64 * (a / 64) + (a % 64 + j) = a + j by omega]
      simp [hj, show a % 64 + j < 64 by omega]
    · simp [hj]
theorem wd_top2 (R a n : Nat) (hn : n ≤ 8) (h : 64 < a % 64 + n) :
    ((wd R (a / 64) / 2 ^ (a % 64)) ||| ((wd R (a / 64 + 1) * 2 ^ (64 - a % 64)) % 2 ^ 64)) % 2 ^ n = (R >>> a) % 2 ^ n := by
  rw [← Nat.shiftRight_eq_div_pow, ← Nat.shiftLeft_eq]
  apply Nat.eq_of_testBit_eq
  intro j
  rw [Nat.testBit_mod_two_pow, Nat.testBit_mod_two_pow, Nat.testBit_or, Nat.testBit_shiftRight, Nat.testBit_shiftRight, Nat.testBit_mod_two_pow, Nat.testBit_shiftLeft, wd_bit, wd_bit]
  by_cases hj : j < n
  · by_cases hk : a % 64 + j < 64
    · rw [show 64 * (a / 64) + (a % 64 + j) = a + j by omega]
      simp [hj, hk, show ¬ 64 - a % 64 ≤ j by omega]
    · rw [show 64 * (a / 64 + 1) + (j - (64 - a % 64)) = a + j by omega]
      simp [hj, hk, show 64 - a % 64 ≤ j by omega, show j < 64 by omega, show j - (64 - a % 64) < 64 by omega]
  · simp [hj]
theorem wd_byte (R i : Nat) : (wd R (i / 8) / 2 ^ (i % 8 * 8)) % 256 = (R >>> (8 * i)) % 256 := by
  have h := wd_top R (8 * i) 8 (Nat.le_refl _)
  rcases h with h | h
  · rw [show 8 * i / 64 = i / 8 by omega, show 8 * i % 64 = i % 8 * 8 by omega] at h
    exact h
  · omega
theorem wl_low (V n i : Nat) (hi : i / 64 < n) : (wl n (V % 2 ^ i)).set (i / 64) (wd (V % 2 ^ i) (i / 64) ||| (((if V.testBit i then 1 else 0) * 2 ^ (i % 64)) % 2 ^ 64)) = wl n (V % 2 ^ (i + 1)) := by
  unfold wl
  rw [wf_set]
  refine wf_ext fun j hj => ?_
  have hb : ∀ p, (((if V.testBit i then 1 else 0) * 2 ^ (i % 64)) % 2 ^ 64).testBit p = (decide (p = i % 64) && V.testBit i) := by
    intro p
    rw [Nat.testBit_mod_two_pow]
    cases hv : V.testBit i
    · simp
    · simp only [if_true, Nat.one_mul, Nat.testBit_two_pow]
      by_cases e : i % 64 = p
      · simp [e, show p < 64 by omega]
      · simp [e, Ne.symm e]
  by_cases h : j = i / 64
  · rw [if_pos h]
    apply Nat.eq_of_testBit_eq
    intro p
    rw [Nat.testBit_or, hb, wd_bit, wd_bit, Nat.testBit_mod_two_pow, Nat.testBit_mod_two_pow, h]
    by_cases hp : p < 64
    · by_cases e : p = i % 64
      · rw [show 64 * (i / 64) + p = i by omega]
        simp [e]
        intro _
        omega
      · by_cases hl : 64 * (i / 64) + p < i
        · simp [hp, e, hl, show 64 * (i / 64) + p < i + 1 by omega]
        · simp [hp, e, hl, show ¬ 64 * (i / 64) + p < i + 1 by omega]
    · simp [hp, show ¬ p = i % 64 by omega]
  · rw [if_neg h]
    apply Nat.eq_of_testBit_eq
    intro p
    rw [wd_bit, wd_bit, Nat.testBit_mod_two_pow, Nat.testBit_mod_two_pow]
    by_cases hp : p < 64
    · by_cases hl : 64 * j + p < i
      · simp [hp, hl, show 64 * j + p < i + 1 by omega]
      · simp [hp, hl, show ¬ 64 * j + p < i + 1 by omega]
    · simp [hp]
end Go.Proofs.YthmfneepnkgmgaaGreatDoor.Enc
/- Blocks of words of 64 bits; the registers of package encode. By the verifier of shale. -/
namespace Go.Proofs.YthmfneepnkgmgaaGreatDoor.Enc
open Go Go.RowKit Bin
set_option linter.unusedVariables false
/-- a block of words. -/
def objU (l : List Nat) : Obj := .cells (l.map fun (c : Nat) => Value.int .u64 (Int.ofNat c)).toArray 128 (0, 0)
def BlkU (w : World) (g : Nat) (l : List Nat) : Prop := w.heap[g]? = some (objU l)
theorem BlkU.cell {w : World} {g : Nat} {l : List Nat} (h : BlkU w g l) {i : Nat} (hi : i < l.length) : w.cell? ⟨g, i, none⟩ = some (.int .u64 ((l.getD i 0 : Nat) : Int)) := by
  unfold World.cell?
  simp only
  rw [show w.heap[g]? = _ from h]
  unfold objU
  simp [hi]
theorem BlkU.free {w : World} {g : Nat} {l : List Nat} (h : BlkU w g l) (i : Nat) : w.frozen? ⟨g, i, none⟩ = false := by
  unfold World.frozen?
  simp only
  rw [show w.heap[g]? = _ from h]
  unfold objU
  simp
theorem BlkU.lt {w : World} {g : Nat} {l : List Nat} (h : BlkU w g l) : g < w.heap.size := lt_of_block h
theorem BlkU.set {w : World} {g : Nat} {l : List Nat} (h : BlkU w g l) (i : Nat) (c : Nat) : BlkU (w.setCell ⟨g, i, none⟩ (.int .u64 (c : Int))) g (l.set i c) := by
  have hlt := lt_of_block h
  have h' : w.heap[g] = objU l := by simpa [BlkU, Array.getElem?_eq_getElem hlt] using h
  show (w.heap.modify g _)[g]? = _
  rw [Array.getElem?_eq_getElem (by simpa using hlt), Array.getElem_modify_self, h']
  simp [objU, List.map_set]
theorem BlkU.new (w : World) (l : List Nat) : BlkU (w.alloc (objU l)) w.heap.size l := heap_alloc_new w _
theorem BlkU.drew {w : World} {g : Nat} {l : List Nat} (h : BlkU w g l) : BlkU w.drew g l := h
theorem BlkU.below {w w' : World} {g B : Nat} {l : List Nat} (h : BlkU w g l) (b : Below B w w') (hg : g < B) : BlkU w' g l := (b.block g hg).trans h
theorem BlkU.only {w w' : World} {g s : Nat} {l : List Nat} (h : BlkU w g l) (b : Only s w w') (hg : g ≠ s) : BlkU w' g l := (b.block g hg).trans h
set_option maxRecDepth 100000 in
theorem madeU (w : World) (n : Nat) (hn : n ≤ 100000) :
    (Instr.makeSlice 86 (.int .i64 (n : Int)) (.int .i64 (n : Int))).run Tryz.prog w = .ok (.slice (some ⟨w.heap.size, 0, none⟩) n n) (w.alloc (objU (List.replicate n 0))) := by
  obtain ⟨i0, hi, hz0, hz1, hz2⟩ := info_parts (show (Tryz.prog.info? 128).map (fun i => (i.zero, i.size, i.bytes)) = some (some (.int .u64 0), 1, 8) by kernel_rfl)
  rw [run_make (P := Tryz.prog) w 86 128 i0 (.int .u64 0) Tryz.underlying86 hi hz0 .i64 .i64 (n : Int) (n : Int) (by omega) (by omega) (by rw [hz2]; omega) (by omega)]
  congr 2
  unfold objU madeCells
  rw [hz1]
  congr 1
  apply Array.ext
  · simp
  · intro i h1 h2
    simp [Value.cells, Nat.mod_one]
/-- block g is a register of n words that holds R. -/
def Reg (w : World) (g n R : Nat) : Prop := BlkU w g (wl n R)
theorem Reg.cell {w : World} {g n R : Nat} (h : Reg w g n R) {i : Nat} (hi : i < n) : w.cell? ⟨g, i, none⟩ = some (.int .u64 ((wd R i : Nat) : Int)) := by
  have := BlkU.cell h (i := i) (by rw [wl_length]; exact hi)
  unfold wl at this
  rwa [wf_getD _ hi] at this
/-- laws on words. -/
theorem toNat64 (n : Nat) (h : n < 2 ^ 64) : (BitVec.ofInt 64 (n : Int)).toNat = n := by
  rw [BitVec.toNat_ofInt]; omega
theorem u64_in (n : Nat) (h : n < 2 ^ 64) : IntKind.u64.wrap (n : Int) = (n : Int) := by
  rw [IntKind.wrap_u64]; omega
theorem uor (a c : Nat) (ha : a < 2 ^ 64) (hc : c < 2 ^ 64) : bits .or .u64 (a : Int) (c : Int) = ((a ||| c : Nat) : Int) := by
  show IntKind.u64.wrap ((BitVec.ofInt 64 (a : Int) ||| BitVec.ofInt 64 (c : Int)).toNat : Int) = _
  rw [BitVec.toNat_or, toNat64 a ha, toNat64 c hc]
  exact u64_in _ (Nat.or_lt_two_pow ha hc)
theorem uxor (a c : Nat) (ha : a < 2 ^ 64) (hc : c < 2 ^ 64) : bits .xor .u64 (a : Int) (c : Int) = ((a ^^^ c : Nat) : Int) := by
  show IntKind.u64.wrap ((BitVec.ofInt 64 (a : Int) ^^^ BitVec.ofInt 64 (c : Int)).toNat : Int) = _
  rw [BitVec.toNat_xor, toNat64 a ha, toNat64 c hc]
  exact u64_in _ (Nat.xor_lt_two_pow ha hc)
theorem uand (a c : Nat) (ha : a < 2 ^ 64) (hc : c < 2 ^ 64) : bits .and .u64 (a : Int) (c : Int) = ((a &&& c : Nat) : Int) := by
  show IntKind.u64.wrap ((BitVec.ofInt 64 (a : Int) &&& BitVec.ofInt 64 (c : Int)).toNat : Int) = _
  rw [BitVec.toNat_and, toNat64 a ha, toNat64 c hc]
  exact u64_in _ (Nat.lt_of_le_of_lt Nat.and_le_left ha)
theorem ushr (yk : IntKind) (a k : Nat) (hk : k ≤ 64) (y : Int) (hy : y = (k : Int)) : Op.shift .shr .u64 (a : Int) yk y = pure (.int .u64 ((a / 2 ^ k : Nat) : Int)) := by
  subst hy
  rw [shift_shr .u64 yk (a : Int) _ (by omega) (by show _ ≤ (64 : Int); omega)]
  refine congrArg (fun n => pure (Value.int .u64 n)) ?_
  rw [Int.toNat_natCast, Int.natCast_ediv, Int.natCast_pow]; rfl
theorem ushl (yk : IntKind) (a k : Nat) (hk : k ≤ 63) (y : Int) (hy : y = (k : Int)) : Op.shift .shl .u64 (a : Int) yk y = pure (.int .u64 (((a * 2 ^ k) % 2 ^ 64 : Nat) : Int)) := by
  subst hy
  rw [shift_shl .u64 yk (a : Int) _ (by omega) (by show _ ≤ (64 : Int); omega)]
  refine congrArg (fun n => pure (Value.int .u64 n)) ?_
  rw [IntKind.wrap_u64, Int.toNat_natCast, Int.natCast_emod, Int.natCast_mul, Int.natCast_pow]; rfl
end Go.Proofs.YthmfneepnkgmgaaGreatDoor.Enc
/- The walks over package binpoly's words: Len64, rest, common, product. By the verifier of shale. -/
namespace Go.Proofs.YthmfneepnkgmgaaGreatDoor.Bin
open Go Go.RowKit
set_option linter.unusedVariables false
theorem bitLen_log2 (n : Nat) (h0 : n ≠ 0) (h : n < 8589934592) : Lib.bitLen n = n.log2 + 1 := by
  have hd := deg_of h0
  rw [Lib.bitLen_shift n.log2 n hd.1 (Nat.lt_trans h (by decide))]
  have h3 : n / 2 ^ n.log2 = 1 := by
    have h1 := hd.1; have h2 := hd.2
    rw [Nat.pow_succ] at h2
    apply Nat.div_eq_of_lt_le <;> omega
  rw [h3]; rfl
theorem bitLen_zero : Lib.bitLen 0 = 0 := rfl
set_option maxRecDepth 100000 in
set_option maxHeartbeats 1000000 in
theorem len64_any (n : Nat) (w : World) (h : n < 8589934592) :
    Calls Tryz.prog 157 #[.int .u64 (n : Int)] w fun e w' => e = .returned (.int .i64 (Lib.bitLen n : Int)) ∧ w = w' := by
  have h0 : (0 : Int) ≤ (n : Int) := by omega
  have h1 : (n : Int) < 8589934592 := by omega
  obtain ⟨x, hx⟩ : ∃ x : Int, x = (n : Int) := ⟨_, rfl⟩
  rw [← hx] at h0 h1 ⊢
  have hn : n = x.toNat := by omega
  subst hn
  clear hx h
  go_enter Tryz.func157, Tryz.ntmps157
  go_wp2
  all_goals first
    | (exfalso; rename_i h; rw [Lib.len8tab_size] at h; omega)
    | go_ret
  all_goals refine ⟨congrArg Ending.returned (congrArg (Value.int IntKind.i64) ?_), rfl⟩
  all_goals rw [len8_val]
  · have l := Lib.bitLen_le8' (x / 4294967296) (by omega) (by omega)
    have s := Lib.bitLen_shift32 x.toNat (by omega) (by omega)
    rw [show x.toNat / 4294967296 = (x / 4294967296).toNat by omega] at s
    rw [IntWalk.wrap64_in _ (by omega)]
    omega
  · have l := Lib.bitLen_le8' (x / 65536 / 256) (by omega) (by omega)
    have s := Lib.bitLen_shift24 x.toNat (by omega) (by omega)
    rw [show x.toNat / 16777216 = (x / 65536 / 256).toNat by omega] at s
    rw [IntWalk.wrap64_in _ (by omega)]
    omega
  · have l := Lib.bitLen_le8' (x / 65536) (by omega) (by omega)
    have s := Lib.bitLen_shift16 x.toNat (by omega) (by omega)
    rw [show x.toNat / 65536 = (x / 65536).toNat by omega] at s
    rw [IntWalk.wrap64_in _ (by omega)]
    omega
  · have l := Lib.bitLen_le8' (x / 256) (by omega) (by omega)
    have s := Lib.bitLen_shift8 x.toNat (by omega) (by omega)
    rw [show x.toNat / 256 = (x / 256).toNat by omega] at s
    rw [IntWalk.wrap64_in _ (by omega)]
    omega
  · have l := Lib.bitLen_le8' x (by omega) (by omega)
    rw [IntWalk.wrap64_in _ (by omega)]
theorem rest_lt' {a b q r : Nat} (h : IsDiv a b q r) (hb : b ≠ 0) : r < b := by
  rcases h.2 with rfl | ⟨i, j, hi, hj, hij⟩
  · omega
  · have h1 := lt_of_deg hi hij
    have h2 := hj.1
    omega
theorem ret_u64 {x y : Nat} (h : x = y) : Ending.returned (Value.int .u64 (x : Int)) = .returned (.int .u64 (y : Int)) := by rw [h]
theorem xor_trick (r x z : Nat) : r ^^^ x = z ^^^ (r ^^^ (x ^^^ z)) := by rw [Nat.xor_comm z, Nat.xor_assoc, Nat.xor_assoc, Nat.xor_self, Nat.xor_zero]
theorem lt33 {A d : Nat} (h : A < 2 ^ d) (hd : d ≤ 33) : A < 8589934592 := Nat.lt_of_lt_of_le h (Nat.pow_le_pow_right (n := 2) (by decide) hd)
theorem deg33 {b d : Nat} (h : Deg b d) (hb : b < 8589934592) : d ≤ 32 := by
  apply Classical.byContradiction
  intro h0
  have h1 := h.1
  have h2 := Nat.pow_le_pow_right (n := 2) (by decide) (show 33 ≤ d by omega)
  omega
theorem u64_and_one (x : Nat) (h : x < 18446744073709551616) : bits .and .u64 (x : Int) 1 = ((x % 2 : Nat) : Int) := by
  rw [show (1 : Int) = ((1 : Nat) : Int) by rfl, u64_and_nat x 1 h (by decide), Nat.and_one_is_mod]
end Go.Proofs.YthmfneepnkgmgaaGreatDoor.Bin
/- Fermat over two elements: the test of irreducible polynomials finds each product. No program is named here. By the verifier of shale. -/
namespace Go.Proofs.YthmfneepnkgmgaaGreatDoor.Bin
set_option linter.unusedVariables false
/-- two polynomials and one divisor: a sum of multiples is the greatest. -/
theorem bezout : ∀ n a b, b < 2 ^ n → ∃ u v, IsGcd a b (pm u a ^^^ pm v b)
  | 0, a, b, h => by
    have : b = 0 := by simpa using h
    subst this
    exact ⟨1, 0, by rw [one_pm, pm_zero, Nat.xor_zero]; exact IsGcd.right_zero a⟩
  | n + 1, a, b, h => by
    by_cases hb : b = 0
    · subst hb
      exact ⟨1, 0, by rw [one_pm, pm_zero, Nat.xor_zero]; exact IsGcd.right_zero a⟩
    · obtain ⟨q, hd⟩ := pmod_div a hb
      have hl := (pmod_eq a (deg_of hb)).2
      obtain ⟨u, v, hg⟩ := bezout n b (pmod a b) (Nat.lt_of_lt_of_le hl (Nat.pow_le_pow_right (by decide) (by have := (Nat.log2_lt hb).2 h; omega)))
      refine ⟨v, u ^^^ pm v q, ?_⟩
      have e : pm v a ^^^ pm (u ^^^ pm v q) b = pm u b ^^^ pm v (pmod a b) := by
        have h1 := hd.1
        rw [pm_xor_left, pm_assoc]
        have : pm v a = pm v (pm q b) ^^^ pm v (pmod a b) := by rw [← pm_xor_right, ← h1]
        rw [this, Nat.xor_comm (pm u b), xx, Nat.xor_self, Nat.zero_xor, Nat.xor_comm]
      rw [e]
      exact IsGcd.step hd hg
/-- a polynomial that only 1 and itself divide. -/
def Irr (f : Nat) : Prop := 2 ≤ f ∧ ∀ c, Dvd c f → c = 1 ∨ c = f
theorem Dvd.comm_mul {c a : Nat} (h : Dvd c a) (b : Nat) : Dvd c (pm a b) := by rw [pm_comm]; exact h.mul b
theorem Irr.euclid {f a b : Nat} (hf : Irr f) (h : Dvd f (pm a b)) : Dvd f a ∨ Dvd f b := by
  obtain ⟨u, v, hg⟩ := bezout (f.log2 + 1) a f Nat.lt_log2_self
  rcases hf.2 _ hg.2.1 with h1 | h1
  · right
    have e : b = pm u (pm a b) ^^^ pm (pm v b) f := by
      have : pm (pm u a ^^^ pm v f) b = pm 1 b := by rw [h1]
      rw [one_pm, pm_xor_left, pm_assoc, pm_assoc] at this
      have e2 : pm b f = pm f b := pm_comm f b
      rw [pm_assoc v b f, e2]
      exact this.symm
    rw [e]
    exact (h.mul u).xor ((Dvd.refl f).mul _)
  · left
    rw [h1] at hg
    exact hg.1
theorem dvd_le {f a : Nat} (ha : a ≠ 0) (h : Dvd f a) : f.log2 ≤ a.log2 := by
  obtain ⟨q, rfl⟩ := h
  have hq : q ≠ 0 := by intro h0; rw [h0, zero_pm] at ha; exact ha rfl
  have hf : f ≠ 0 := by intro h0; rw [h0, pm_zero] at ha; exact ha rfl
  have := (deg_pm (deg_of hq) _ f (deg_of hf)).log2
  omega
theorem Irr.deg {f : Nat} (hf : Irr f) : 1 ≤ f.log2 := by
  have := (Nat.le_log2 (n := f) (k := 1) (by have := hf.1; omega)).2 hf.1
  omega
theorem not_dvd_small {f r : Nat} (h0 : r ≠ 0) (h : r < 2 ^ f.log2) : ¬ Dvd f r := by
  intro hd
  have h1 := dvd_le h0 hd
  have := (Nat.log2_lt h0).2 h
  omega
/-- the same rest. -/
theorem dvd_pmod {f : Nat} (hf : f ≠ 0) (a : Nat) : Dvd f (a ^^^ pmod a f) := by
  obtain ⟨⟨q, hq⟩, _⟩ := pmod_eq a (deg_of hf)
  refine ⟨q, ?_⟩
  have : (pm q f ^^^ pmod a f) ^^^ pmod a f = pm q f := xor_back _ _
  rwa [← hq] at this
def prodL : List Nat → Nat
  | [] => 1
  | a :: l => pm a (prodL l)
theorem prodL_perm {l m : List Nat} (h : l.Perm m) : prodL l = prodL m := by
  induction h with
  | nil => rfl
  | cons x _ ih => simp only [prodL, ih]
  | swap x y l => simp only [prodL]; rw [← pm_assoc, ← pm_assoc, show pm y x = pm x y from pm_comm x y]
  | trans _ _ ih1 ih2 => exact ih1.trans ih2
def pw (c : Nat) : Nat → Nat
  | 0 => 1
  | n + 1 => pm c (pw c n)
theorem pw_add (c a : Nat) : ∀ b, pw c (a + b) = pm (pw c a) (pw c b)
  | 0 => by rw [Nat.add_zero]; show _ = pm _ 1; rw [pm_one]
  | b + 1 => by
    show pm c (pw c (a + b)) = pm (pw c a) (pm c (pw c b))
    rw [pw_add c a b, ← pm_assoc, show pm c (pw c a) = pm (pw c a) c from pm_comm _ _, pm_assoc]
theorem Dvd.swap {f a b : Nat} (h : Dvd f (a ^^^ b)) : Dvd f (b ^^^ a) := by rwa [Nat.xor_comm]
theorem Dvd.chain {f a b c : Nat} (h : Dvd f (a ^^^ b)) (k : Dvd f (b ^^^ c)) : Dvd f (a ^^^ c) := by
  have := h.xor k
  rwa [Nat.xor_assoc, ← Nat.xor_assoc b b c, Nat.xor_self, Nat.zero_xor] at this
theorem Dvd.times {f a b c d : Nat} (h : Dvd f (a ^^^ b)) (k : Dvd f (c ^^^ d)) : Dvd f (pm a c ^^^ pm b d) := by
  refine Dvd.chain (b := pm b c) ?_ ?_
  · rw [← pm_xor_left]; exact h.comm_mul c
  · rw [← pm_xor_right]; exact k.mul b
theorem xor_ne {a b : Nat} (h : a ≠ b) : a ^^^ b ≠ 0 := fun h0 => h (xor_eq_zero h0)
theorem xor_lt' {a b n : Nat} (h : a < 2 ^ n) (k : b < 2 ^ n) : a ^^^ b < 2 ^ n := Nat.xor_lt_two_pow h k
theorem nodup_map {f : Nat → Nat} : ∀ {l : List Nat}, l.Nodup → (∀ a, a ∈ l → ∀ b, b ∈ l → f a = f b → a = b) → (l.map f).Nodup
  | [], _, _ => List.nodup_nil
  | x :: l, h, hi => by
    rw [List.map_cons, List.nodup_cons]
    rw [List.nodup_cons] at h
    refine ⟨fun hm => ?_, nodup_map h.2 fun a ha b hb => hi a (List.mem_cons_of_mem _ ha) b (List.mem_cons_of_mem _ hb)⟩
    obtain ⟨y, hy, he⟩ := List.mem_map.1 hm
    have := hi y (List.mem_cons_of_mem _ hy) x (List.mem_cons_self ..) he
    rw [this] at hy
    exact h.1 hy
/-- as many of one list as the other has, all of them: all of the other. -/
theorem perm_of_sub {l m : List Nat} (hl : l.Nodup) (hm : m.Nodup) (hs : ∀ a, a ∈ l → a ∈ m) (hc : m.length ≤ l.length) : l.Perm m := by
  rw [List.perm_ext_iff_of_nodup hl hm]
  intro a
  refine ⟨hs a, fun ha => Classical.byContradiction fun hn => ?_⟩
  have h1 : (a :: l).Nodup := List.nodup_cons.2 ⟨hn, hl⟩
  have h2 := List.Nodup.length_le_of_subset h1 (l₂ := m) (fun x hx => by
    rcases List.mem_cons.1 hx with rfl | hx
    · exact ha
    · exact hs x hx)
  rw [List.length_cons] at h2
  omega
/-- the rests that are not 0. -/
def units (d : Nat) : List Nat := List.range' 1 (2 ^ d - 1)
theorem mem_units {d a : Nat} : a ∈ units d ↔ a ≠ 0 ∧ a < 2 ^ d := by
  unfold units
  rw [List.mem_range'_1]
  have := Nat.two_pow_pos d
  omega
theorem units_perm {f c : Nat} (hf : Irr f) (hc : ¬ Dvd f c) : ((units f.log2).map fun r => pmod (pm c r) f).Perm (units f.log2) := by
  have h0 : f ≠ 0 := by have := hf.1; omega
  have hn : (units f.log2).Nodup := List.nodup_range' ..
  refine perm_of_sub (nodup_map hn ?_) hn ?_ (by rw [List.length_map]; exact Nat.le_refl _)
  · intro a ha b hb e
    obtain ⟨_, ha⟩ := mem_units.1 ha
    obtain ⟨_, hb⟩ := mem_units.1 hb
    apply Classical.byContradiction
    intro hne
    have h1 := (dvd_pmod h0 (pm c a)).chain (by rw [e]; exact (dvd_pmod h0 (pm c b)).swap)
    rw [← pm_xor_right] at h1
    rcases hf.euclid h1 with h2 | h2
    · exact hc h2
    · exact not_dvd_small (xor_ne hne) (xor_lt' ha hb) h2
  · intro x hx
    obtain ⟨a, ha, rfl⟩ := List.mem_map.1 hx
    obtain ⟨ha0, ha⟩ := mem_units.1 ha
    refine mem_units.2 ⟨fun e => ?_, (pmod_eq _ (deg_of h0)).2⟩
    have h1 := dvd_pmod h0 (pm c a)
    rw [e, Nat.xor_zero] at h1
    rcases hf.euclid h1 with h2 | h2
    · exact hc h2
    · exact not_dvd_small ha0 ha h2
theorem prod_map {f c : Nat} (h0 : f ≠ 0) : ∀ l : List Nat, Dvd f (prodL (l.map fun r => pmod (pm c r) f) ^^^ pm (pw c l.length) (prodL l))
  | [] => by
    show Dvd f (1 ^^^ pm 1 1)
    rw [pm_one, Nat.xor_self]; exact Dvd.zero f
  | r :: l => by
    have ih := prod_map (c := c) h0 l
    have h1 := (dvd_pmod h0 (pm c r)).swap
    have := h1.times ih
    show Dvd f (pm (pmod (pm c r) f) (prodL (l.map fun r => pmod (pm c r) f)) ^^^ pm (pm c (pw c l.length)) (pm r (prodL l)))
    have e : pm (pm c (pw c l.length)) (pm r (prodL l)) = pm (pm c r) (pm (pw c l.length) (prodL l)) := by
      rw [pm_assoc c (pw c l.length), ← pm_assoc (pw c l.length) r, show pm (pw c l.length) r = pm r (pw c l.length) from pm_comm _ _, pm_assoc r, ← pm_assoc c r]
    rw [e]
    exact this
theorem prodL_not {f : Nat} (hf : Irr f) : ∀ l : List Nat, (∀ a, a ∈ l → ¬ Dvd f a) → ¬ Dvd f (prodL l)
  | [], _, h => by
    have h1 := dvd_le (a := 1) (by decide) h
    have h2 := hf.deg
    rw [show (1 : Nat).log2 = 0 by decide] at h1
    omega
  | a :: l, h, hd => by
    rcases hf.euclid hd with h1 | h1
    · exact h a (List.mem_cons_self ..) h1
    · exact prodL_not hf l (fun b hb => h b (List.mem_cons_of_mem _ hb)) h1
/-- Fermat: modulo f, which is irreducible, of degree d: the 2^d-th power of any polynomial is itself. -/
theorem fermat {f : Nat} (hf : Irr f) (c : Nat) : Dvd f (pw c (2 ^ f.log2) ^^^ c) := by
  have h0 : f ≠ 0 := by have := hf.1; omega
  have h2 := Nat.two_pow_pos f.log2
  obtain ⟨n, hn⟩ : ∃ n, 2 ^ f.log2 = n + 1 := ⟨2 ^ f.log2 - 1, by omega⟩
  have key : Dvd f c ∨ Dvd f (pw c n ^^^ 1) := by
    by_cases hc : Dvd f c
    · exact Or.inl hc
    · right
      have h1 := prod_map (f := f) (c := c) h0 (units f.log2)
      rw [prodL_perm (units_perm hf hc)] at h1
      have hl : (units f.log2).length = n := by unfold units; rw [List.length_range']; omega
      rw [hl] at h1
      have e : prodL (units f.log2) ^^^ pm (pw c n) (prodL (units f.log2)) = pm (1 ^^^ pw c n) (prodL (units f.log2)) := by rw [pm_xor_left, one_pm]
      rw [e] at h1
      rcases hf.euclid h1 with h3 | h3
      · exact h3.swap
      · exact absurd h3 (prodL_not hf _ fun a ha => by obtain ⟨ha0, ha1⟩ := mem_units.1 ha; exact not_dvd_small ha0 ha1)
  rw [hn]
  have e : pw c (n + 1) ^^^ c = pm c (pw c n ^^^ 1) := by
    show pm c (pw c n) ^^^ c = _
    rw [pm_xor_right, pm_one]
  rw [e]
  rcases key with h | h
  · exact h.comm_mul _
  · exact h.mul _
/-- squared so often. -/
def sqn : Nat → Nat → Nat
  | 0, c => c
  | i + 1, c => pm (sqn i c) (sqn i c)
theorem sqn_pw (c : Nat) : ∀ i, sqn i c = pw c (2 ^ i)
  | 0 => by show c = pm c 1; rw [pm_one]
  | i + 1 => by
    show pm (sqn i c) (sqn i c) = _
    rw [sqn_pw c i, ← pw_add, Nat.pow_succ]; congr 1; omega
/-- each polynomial but 1 and 0 has an irreducible divisor. -/
theorem exists_irr (a : Nat) (h : 2 ≤ a) : ∃ f, Irr f ∧ Dvd f a := by
  have : ∃ c, 2 ≤ c ∧ Dvd c a ∧ ∀ e, 2 ≤ e → Dvd e a → c ≤ e := by
    have key : ∀ n, ∀ c, c ≤ n → 2 ≤ c → Dvd c a → ∃ c, 2 ≤ c ∧ Dvd c a ∧ ∀ e, 2 ≤ e → Dvd e a → c ≤ e := by
      intro n
      induction n with
      | zero => intro c h1 h2; omega
      | succ n ih =>
        intro c h1 h2 h3
        by_cases hx : ∃ e, 2 ≤ e ∧ Dvd e a ∧ e < c
        · obtain ⟨e, e1, e2, e3⟩ := hx
          exact ih e (by omega) e1 e2
        · exact ⟨c, h2, h3, fun e e1 e2 => Classical.byContradiction fun hlt => hx ⟨e, e1, e2, by omega⟩⟩
    exact key a a (Nat.le_refl _) h (Dvd.refl a)
  obtain ⟨c, h2, hd, hm⟩ := this
  refine ⟨c, ⟨h2, fun e he => ?_⟩, hd⟩
  have hc0 : c ≠ 0 := by omega
  have he0 : e ≠ 0 := by
    intro h0
    rw [h0] at he
    obtain ⟨q, hq⟩ := he
    rw [pm_zero] at hq; omega
  by_cases h1 : e = 1
  · exact Or.inl h1
  · right
    have hle := hm e (by omega) (Dvd.trans he hd)
    obtain ⟨q, hq⟩ := he
    have hq0 : q ≠ 0 := by intro h0; rw [h0, zero_pm] at hq; omega
    by_cases hq1 : q = 1
    · rw [hq, hq1, one_pm]
    · exfalso
      have dq := deg_of hq0
      have de := deg_of he0
      have dc := deg_pm dq _ e de
      rw [← hq] at dc
      have h5 : 1 ≤ q.log2 := (Nat.le_log2 hq0).2 (by omega)
      have h6 := dc.1
      have h7 := de.2
      have := Nat.pow_le_pow_right (n := 2) (by decide) (show e.log2 + 1 ≤ q.log2 + e.log2 by omega)
      omega
/-- a product of two polynomials that are not 1 does not stand the test. -/
theorem irrF_false {w f : Nat} (hw : 2 ≤ w) (hf : Irr f) (hd : Dvd f w) (hdeg : 2 * f.log2 ≤ w.log2) :
    ∀ fuel i y, 1 ≤ i → i ≤ f.log2 → f.log2 < fuel + i → Dvd f (y ^^^ sqn (i - 1) 2) → irrF fuel i y w = false
  | 0, i, y, _, h1, h2, _ => by omega
  | fuel + 1, i, y, h0, h1, h2, hy => by
    have w0 : w ≠ 0 := by omega
    rw [irrF, if_pos (by omega)]
    have hy2 : Dvd f (pmod (pmul y y) w ^^^ sqn i 2) := by
      obtain ⟨k, rfl⟩ : ∃ k, i = k + 1 := ⟨i - 1, by omega⟩
      have a1 := (dvd_pmod w0 (pmul y y)).swap
      have a2 : Dvd f (pmod (pmul y y) w ^^^ pmul y y) := Dvd.trans hd a1
      refine a2.chain ?_
      rw [pmul_pm]
      exact Dvd.times hy hy
    by_cases hlt : i < f.log2
    · split
      · exact irrF_false hw hf hd hdeg fuel (i + 1) _ (by omega) (by omega) (by omega) hy2
      · rfl
    · obtain rfl : i = f.log2 := by omega
      have h3 : Dvd f (sqn f.log2 2 ^^^ 2) := by rw [sqn_pw]; exact fermat hf 2
      have h4 := hy2.chain h3
      have hg := pgcd_is w (pmod (pmul y y) w ^^^ 2)
      have h5 := hg.2.2 f hd h4
      rw [if_neg]
      intro e
      rw [e] at h5
      have h6 := dvd_le (a := 1) (by decide) h5
      have h7 := hf.deg
      rw [show (1 : Nat).log2 = 0 by decide] at h6
      omega
theorem irrC_product {a b : Nat} (ha : 2 ≤ a) (hb : 2 ≤ b) : irrC (pm a b) = false := by
  have da := deg_of (a := a) (by omega)
  have db := deg_of (a := b) (by omega)
  have dw := deg_pm da _ b db
  have la : 1 ≤ a.log2 := (Nat.le_log2 (by omega)).2 ha
  have lb : 1 ≤ b.log2 := (Nat.le_log2 (by omega)).2 hb
  have hw : 2 ≤ pm a b := by
    have h1 := dw.1
    have := Nat.pow_le_pow_right (n := 2) (by decide) (show 1 ≤ a.log2 + b.log2 by omega)
    omega
  have hl := dw.log2
  unfold irrC
  split
  · rfl
  · rename_i h32
    have key : ∀ c, 2 ≤ c → Dvd c (pm a b) → 2 * c.log2 ≤ (pm a b).log2 → irrF 17 1 2 (pm a b) = false := by
      intro c hc hcd hcl
      obtain ⟨f, hf, hfc⟩ := exists_irr c hc
      have hfl := dvd_le (by omega) hfc
      exact irrF_false hw hf (Dvd.trans hfc hcd) (by omega) 17 1 2 (Nat.le_refl _) hf.deg (by omega) (by show Dvd f (2 ^^^ sqn 0 2); show Dvd f (2 ^^^ 2); rw [Nat.xor_self]; exact Dvd.zero f)
    by_cases hle : a.log2 ≤ b.log2
    · exact key a ha ((Dvd.refl a).comm_mul b) (by omega)
    · exact key b hb ((Dvd.refl b).mul a) (by omega)
end Go.Proofs.YthmfneepnkgmgaaGreatDoor.Bin
/- shaleref.SameBytes: are two lists of bytes the same? By the verifier of shale. -/
namespace Go.Proofs.YthmfneepnkgmgaaGreatDoor
open Go Go.RowKit
set_option linter.unusedVariables false
/-- bytes as a string. -/
def strOf (l : List (BitVec 8)) : ByteArray := strOfNums (l.map Bits32.b)
theorem strOf_inj (l m : List (BitVec 8)) (h : strOf l = strOf m) : l = m := by
  have e := congrArg (fun s : ByteArray => s.data.toList) h
  simp only [strOf, strOfNums_data, List.map_map] at e
  have key : ∀ (l m : List (BitVec 8)), l.map ((fun n : Int => UInt8.ofNat n.toNat) ∘ Bits32.b) = m.map ((fun n : Int => UInt8.ofNat n.toNat) ∘ Bits32.b) → l = m := by
    intro l
    induction l with
    | nil => intro m h; cases m with | nil => rfl | cons _ _ => simp at h
    | cons a l ih =>
      intro m h
      cases m with
      | nil => simp at h
      | cons b m =>
        simp only [List.map_cons, List.cons.injEq, Function.comp] at h
        rw [ih m h.2]
        congr 1
        have e := congrArg UInt8.toNat h.1
        unfold Bits32.b at e
        simp at e
        have := a.isLt
        have := b.isLt
        apply BitVec.eq_of_toNat_eq
        omega
  exact key l m e
/-- bytes in a slice, as SameBytes reads them. -/
def Str8 (w : World) (v : Value) (l : List (BitVec 8)) : Prop := ∀ w', (∀ b, b < w.heap.size → w'.heap[b]? = w.heap[b]?) → (convert 22 9 v).run Tryz.prog w' = .ok (.string (strOf l)) w'
theorem Str8.nil (w : World) (p : Option Addr) (c : Nat) : Str8 w (.slice p 0 c) [] := by
  intro w' h
  rw [run_convert_bytes_string w' 22 9 5 p 0 c Tryz.underlying22 Tryz.underlying5 Tryz.underlying9]
  cases p with
  | none => simp [Conv.bytesToString]; rfl
  | some a =>
    have hl : (loadCells a 0).run Tryz.prog w' = .ok #[] w' := by
      have := run_loadCells_list (P := Tryz.prog) w' a [] (fun j v hj => by simp at hj)
      simpa using this
    rw [run_bytesToString w' a 0 c [] (by simpa using hl)]
    rfl
theorem Str8.of {w : World} {v : Value} {l : List (BitVec 8)} (h : IsBytes w v l) : Str8 w v l := by
  rcases h with ⟨rfl, p, c, rfl⟩ | ⟨bb, off, cap, rfl, hr, hb⟩
  · exact Str8.nil w p c
  · intro w' hw
    have := run_convert_bytes_arg (P := Tryz.prog) w' 22 5 Tryz.underlying22 Tryz.underlying5 bb off l.length cap (l.map Bits32.b) (by simp)
      (fun i hi => by
        rw [World.cell?_of_block (w := w) (hw bb hb), hr i hi]
        unfold nth8
        simp [hi]) 9 Tryz.underlying9
    exact this
set_option maxHeartbeats 400000 in
theorem same_any (l m : List (BitVec 8)) (v u : Value) (w : World) (hv : Str8 w v l) (hu : Str8 w u m) :
    Calls Tryz.prog 17 #[v, u] w fun e w' => e = .returned (.bool (decide (l = m))) ∧ w = w' := by
  have h1 := hv w (fun _ _ => rfl)
  have h2 := hu w (fun _ _ => rfl)
  go_enter Tryz.func17, Tryz.ntmps17
  go_wp2
  go_ret
  refine ⟨?_, rfl⟩
  have e : ((strOf l).toList == (strOf m).toList) = decide (l = m) := by
    rw [Bool.eq_iff_iff, beq_iff_eq, decide_eq_true_iff]
    constructor
    · intro h
      rw [ByteArray.toList_eq, ByteArray.toList_eq] at h
      exact strOf_inj l m (by
        have : (strOf l).data = (strOf m).data := Array.toList_inj.1 h
        cases hl : strOf l; cases hm : strOf m
        simp_all)
    · intro h; rw [h]
  rw [← e]; rfl
/-- the same memory, but for draws. -/
def SameHeap (W w : World) : Prop := w.heap = W.heap
theorem SameHeap.refl (W : World) : SameHeap W W := rfl
theorem SameHeap.drew {W w : World} (h : SameHeap W w) : SameHeap W w.drew := h
theorem Str8.since {W w : World} {v : Value} {l : List (BitVec 8)} (h : Str8 W v l) (o : ∀ b, b < W.heap.size → w.heap[b]? = W.heap[b]?) (hs : W.heap.size ≤ w.heap.size) : Str8 w v l :=
  fun w' hw => h w' (fun b hb => (hw b (Nat.lt_of_lt_of_le hb hs)).trans (o b hb))
theorem same_since {l m : List (BitVec 8)} {v u : Value} {W w : World} (hv : Str8 W v l) (hu : Str8 W u m) (h : SameHeap W w) :
    Calls Tryz.prog 17 #[v, u] w fun e w' => e = .returned (.bool (decide (l = m))) ∧ w = w' :=
  same_any l m v u w (hv.since (fun b _ => by rw [show w.heap = W.heap from h]) (by rw [show w.heap = W.heap from h]; exact Nat.le_refl _)) (hu.since (fun b _ => by rw [show w.heap = W.heap from h]) (by rw [show w.heap = W.heap from h]; exact Nat.le_refl _))
/-- SameBytes answers c of these two, in whatever world that has W's memory. -/
def Sames (W : World) (v u : Value) (c : Bool) : Prop := ∀ w, SameHeap W w → Calls Tryz.prog 17 #[v, u] w fun e w' => e = .returned (.bool c) ∧ w = w'
theorem Sames.mk {W : World} {v u : Value} {l m : List (BitVec 8)} {c : Bool} (hv : Str8 W v l) (hu : Str8 W u m) (hc : decide (l = m) = c) : Sames W v u c := by
  intro w h; rw [← hc]; exact same_since hv hu h
theorem sames_run {W w : World} {v u : Value} {c : Bool} (h : Sames W v u c) (hs : SameHeap W w) : Calls Tryz.prog 17 #[v, u] w fun e w' => e = .returned (.bool c) ∧ w = w' := h w hs
end Go.Proofs.YthmfneepnkgmgaaGreatDoor
/- The walks over package binpoly's Gcd and Same. By the verifier of shale. -/
namespace Go.Proofs.YthmfneepnkgmgaaGreatDoor.Bin
open Go Go.RowKit
set_option linter.unusedVariables false
theorem val_lt (l : List (BitVec 8)) : val l < 2 ^ (8 * l.length) := by
  apply Nat.lt_pow_two_of_testBit
  intro i hi
  rw [val_bit, nth8_far l (i / 8) (by omega)]; simp
def room (k : Nat) : Nat := 2 ^ (8 * k)
theorem val_room {l : List (BitVec 8)} {k : Nat} (h : l.length ≤ k) : val l < room k := Nat.lt_of_lt_of_le (val_lt l) (Nat.pow_le_pow_right (by decide) (by omega))
theorem bare_len {X : List (BitVec 8)} (h : Bare X) {k : Nat} (hv : val X < room k) : X.length ≤ k := by
  unfold room at hv
  apply Classical.byContradiction
  intro h0
  have h1 := (deg_bare h (by omega)).1
  have := Nat.pow_le_pow_right (n := 2) (by decide) (show 8 * k ≤ 8 * (X.length - 1) + (nth8 X (X.length - 1)).toNat.log2 by omega)
  omega
theorem Buf8.since {w w' : World} {g : Nat} {X : List (BitVec 8)} (h : Buf8 w g X) (b : Below w.heap.size w w') : Buf8 w' g X := h.below b h.lt
theorem NewP.since {w w1 w2 : World} {a : Option Addr} {n cap : Nat} {X : List (BitVec 8)} (h : NewP w w1 a n cap X) (b : Below w1.heap.size w1 w2) : NewP w w2 a n cap X :=
  ⟨h.hlen, h.hcap, h.hmost, by
    rcases h.own with h1 | ⟨g, e, hg, hb⟩
    · exact Or.inl h1
    · exact Or.inr ⟨g, e, hg, Buf8.since hb b⟩⟩
theorem NewP.from {w0 w w' : World} {a : Option Addr} {n cap : Nat} {X : List (BitVec 8)} (h : NewP w w' a n cap X) (b : w0.heap.size ≤ w.heap.size) : NewP w0 w' a n cap X :=
  ⟨h.hlen, h.hcap, h.hmost, by
    rcases h.own with h1 | ⟨g, e, hg, hb⟩
    · exact Or.inl h1
    · exact Or.inr ⟨g, e, Nat.le_trans b hg, hb⟩⟩
theorem pol_nil (w : World) : Pol w none 0 0 [] := ⟨rfl, Nat.le_refl _, by decide, fun _ => rfl, Or.inl rfl⟩
theorem rest_lt {a b q r : Nat} (h : IsDiv a b q r) (hb : b ≠ 0) : r < b := by
  rcases h.2 with rfl | ⟨i, j, hi, hj, hij⟩
  · omega
  · have h1 := lt_of_deg hi hij
    have h2 := hj.1
    omega
set_option maxHeartbeats 400000 in
theorem equal_any (l m : List (BitVec 8)) (v u : Value) (w : World) (hv : Str8 w v l) (hu : Str8 w u m) :
    Calls Tryz.prog 51 #[v, u] w fun e w' => e = .returned (.bool (decide (l = m))) ∧ w = w' := by
  have h1 := hv w (fun _ _ => rfl)
  have h2 := hu w (fun _ _ => rfl)
  go_enter Tryz.func51, Tryz.ntmps51
  go_wp2
  go_ret
  refine ⟨?_, rfl⟩
  have e : ((strOf l).toList == (strOf m).toList) = decide (l = m) := by
    rw [Bool.eq_iff_iff, beq_iff_eq, decide_eq_true_iff]
    constructor
    · intro h
      rw [ByteArray.toList_eq, ByteArray.toList_eq] at h
      exact strOf_inj l m (by
        have : (strOf l).data = (strOf m).data := Array.toList_inj.1 h
        cases hl : strOf l; cases hm : strOf m
        simp_all)
    · intro h; rw [h]
  rw [← e]; rfl
theorem trim_same (l m : List (BitVec 8)) : decide (trimL l = trimL m) = decide (val l = val m) := by
  rw [decide_eq_decide]
  exact ⟨fun h => by rw [← val_trim l, ← val_trim m, h], trim_eq⟩
end Go.Proofs.YthmfneepnkgmgaaGreatDoor.Bin
/- The walks over package binpoly's word and Irreducible. By the verifier of shale. -/
namespace Go.Proofs.YthmfneepnkgmgaaGreatDoor.Bin
open Go Go.RowKit
set_option linter.unusedVariables false
theorem or_xor {a b k : Nat} (ha : a < 2 ^ k) : a ||| (b <<< k) = a ^^^ (b <<< k) := by
  apply Nat.eq_of_testBit_eq
  intro i
  rw [Nat.testBit_or, Nat.testBit_xor, Nat.testBit_shiftLeft]
  by_cases h : k ≤ i
  · rw [Nat.testBit_lt_two_pow (Nat.lt_of_lt_of_le ha (Nat.pow_le_pow_right (by decide) h))]; simp
  · rw [decide_eq_false h]; simp
theorem u64_or_nat (a b : Nat) (ha : a < 18446744073709551616) (hb : b < 18446744073709551616) : bits .or .u64 (a : Int) (b : Int) = ((a ||| b : Nat) : Int) := by
  show IntKind.u64.wrap ((BitVec.ofInt 64 (a : Int) ||| BitVec.ofInt 64 (b : Int)).toNat : Int) = _
  have e1 : BitVec.ofInt 64 (a : Int) = BitVec.ofNat 64 a := by rw [BitVec.ofInt_natCast]
  have e2 : BitVec.ofInt 64 (b : Int) = BitVec.ofNat 64 b := by rw [BitVec.ofInt_natCast]
  rw [e1, e2, BitVec.toNat_or, BitVec.toNat_ofNat, BitVec.toNat_ofNat, Nat.mod_eq_of_lt ha, Nat.mod_eq_of_lt hb]
  have h : a ||| b < 2 ^ 64 := Nat.or_lt_two_pow ha hb
  generalize a ||| b = x at h
  show (x : Int) % 18446744073709551616 = _
  omega
theorem val_take_lt (l : List (BitVec 8)) (k : Nat) : val (l.take k) < 2 ^ (8 * k) :=
  Nat.lt_of_lt_of_le (val_lt _) (Nat.pow_le_pow_right (by decide) (by rw [List.length_take]; omega))
theorem degZ_small {v : Nat} (h : v < 2) : decide (degZ v < 1) = true := by
  rcases (by omega : v = 0 ∨ v = 1) with rfl | rfl <;> decide
theorem irrC_small' {v : Nat} (h : v < 2) : irrC v = false := by unfold irrC; rw [if_pos (Or.inl h)]
theorem irrC_wide {v : Nat} (h : 32 < v.log2) : irrC v = false := by unfold irrC; rw [if_pos (Or.inr h)]
end Go.Proofs.YthmfneepnkgmgaaGreatDoor.Bin
