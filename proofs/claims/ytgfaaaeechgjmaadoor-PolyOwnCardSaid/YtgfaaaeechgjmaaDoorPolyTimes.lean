/- The walk over package fieldpoly's addTimes. By the verifier of shale. -/
import Derived.Test.YtgfaaaeechgjmaaDoorPolyOps
import Derived.Deep.RegionLaw
namespace Go.Proofs.YtgfaaaeechgjmaaDoor.Pl
open Go Go.RowKit Fld Bits16
set_option linter.unusedVariables false
theorem RowZ.upd {s : Nat} {w w' : World} {a : Option Addr} {n cap : Nat} {l : List Int} (h : RowZ w a n cap l) (o : Upd s w w') (hne : ∀ bb off, a = some ⟨bb, off, none⟩ → n ≠ 0 → bb ≠ s) : RowZ w' a n cap l :=
  ⟨h.hlen, h.hcap, h.hmost, fun i hi => by
    obtain ⟨bb, off, e, hc, hb⟩ := h.row i hi
    exact ⟨bb, off, e, (o.cell (p := ⟨bb, off + i, none⟩) hb (hne bb off e (by omega))).trans hc, Nat.lt_of_lt_of_le hb o.size⟩⟩
theorem fld_upd {m : Nat} [M : Mid m] {x : Nat} {w w' : World} {s be ce bl : Nat} (f : FldAt m w s be ce bl) (o : Upd x w w') (n1 : s ≠ x) (n2 : be ≠ x) (n3 : bl ≠ x) : FldAt m w' s be ce bl := by
  obtain ⟨l1, l2, l3⟩ := f.lt M.lo
  exact ⟨(o.block s l1 n1).trans f.1, f.2.1, fun i hi => (o.cell (p := ⟨be, i, none⟩) l2 n2).trans (f.2.2.1 i hi), fun x hx => (o.cell (p := ⟨bl, _, none⟩) l3 n3).trans (f.2.2.2 x hx)⟩
theorem nums_set {m : Nat} (p q : Ser (El m)) (n i : Nat) (hi : ∀ j, j ≠ i → q j = p j) : (nums p n).set i (zn (q i)) = nums q n := by
  apply List.ext_getElem
  · simp [nums]
  · intro j h1 h2
    rw [List.getElem_set]
    simp only [nums, List.getElem_map, List.getElem_range]
    by_cases e : i = j
    · subst e; rw [if_pos rfl]
    · rw [if_neg e, hi j (Ne.symm e)]
section
variable {m : Nat} [M : Mid m]
/-- the first k of it. -/
def cutS (q : Ser (El m)) (k : Nat) : Ser (El m) := fun i => if i < k then q i else 0
theorem cutS_bd (q : Ser (El m)) (k : Nat) : Bd (cutS q k) k := fun i hi => if_neg (by omega)
theorem cutS_all {q : Ser (El m)} {k : Nat} (h : Bd q k) : cutS q k = q := funext fun i => by
  unfold cutS
  by_cases hi : i < k
  · rw [if_pos hi]
  · rw [if_neg hi, h i (by omega)]
theorem zn_add (a b : El m) : bits .xor .i64 (zn a) (zn b) = zn (a + b) := rxor a.val b.val
/-- one step of a times q, laid off places up. -/
theorem times_at (P q : Ser (El m)) (c : El m) (off k : Nat) : ∀ j, j ≠ off + k → padd P (cv (mono off c) (cutS q (k + 1))) j = padd P (cv (mono off c) (cutS q k)) j := by
  intro j hj
  show P j + cv _ _ j = P j + cv _ _ j
  rw [cv_mono, cv_mono]
  by_cases h : j < off
  · rw [if_pos h, if_pos h]
  · rw [if_neg h, if_neg h]
    have : cutS q (k + 1) (j - off) = cutS q k (j - off) := by
      unfold cutS
      by_cases h2 : j - off < k
      · rw [if_pos h2, if_pos (by omega)]
      · rw [if_neg h2, if_neg (by omega)]
    rw [this]
theorem times_new (P q : Ser (El m)) (c : El m) (off k : Nat) : padd P (cv (mono off c) (cutS q (k + 1))) (off + k) = padd P (cv (mono off c) (cutS q k)) (off + k) + q k * c := by
  show P _ + cv _ _ _ = (P _ + cv _ _ _) + _
  rw [cv_mono, cv_mono, if_neg (by omega), if_neg (by omega), show off + k - off = k by omega]
  have e1 : cutS q (k + 1) k = q k := if_pos (by omega)
  have e2 : cutS q k k = 0 := if_neg (by omega)
  rw [e1, e2, mul_zero, Fl.add_zero, Fl.mul_comm c]
theorem mul_zn (a b : Int) : h (fmul m (el m a) (el m b)) = zn (elm m a * elm m b) := rfl
set_option maxRecDepth 100000 in
set_option maxHeartbeats 2000000 in
theorem times_any {s be ce bl : Nat} (gs off ns cs N : Nat) (P : Ser (El m)) (a : Option Addr) (n cap : Nat) (l : List Int) (c : Int) (w : World) (F : FldAt m w s be ce bl) (hk : Blk64 w gs (nums P N)) (hN : off + ns ≤ N) (h : RowZ w a n cap l) (hn : n ≤ ns) (hm : N ≤ 1000000)
    (n1 : s ≠ gs) (n2 : be ≠ gs) (n3 : bl ≠ gs) (hne : ∀ bb o, a = some ⟨bb, o, none⟩ → n ≠ 0 → bb ≠ gs) :
    Calls Tryd.prog 37 #[.slice (some ⟨gs, off, none⟩) ns cs, .slice a n cap, .int .i64 c, .func (.func 38) #[.pointer (some ⟨s, 0, none⟩)] #[]] w
      fun e w' => e = .returned (.tuple #[]) ∧ Blk64 w' gs (nums (padd P (cv (mono off (elm m c)) (sr m l))) N) ∧ Upd gs w w' := by
  have HF := Lib.hid F
  have HK := Lib.hid hk
  have HP := Lib.hid h
  have HNE := Lib.hid hne
  have HL := Lib.hid h.hlen
  clear F hk h hne
  go_enter Tryd.func37, Tryd.ntmps37
  go_wp2_with fail
  go_loopg [12] n (fun gh s12 wx => ∃ k : Nat, gh = n - k ∧ k ≤ n ∧ s12 = .int .i64 (k : Int) ∧ Blk64 wx gs (nums (padd P (cv (mono off (elm m c)) (cutS (sr m l) k))) N) ∧ Upd gs w wx)
  case atStart =>
    refine ⟨0, rfl, by omega, rfl, ?_, Upd.refl _ _⟩
    have e : cutS (sr m l) 0 = pz := funext fun i => if_neg (by omega)
    rw [e, zero_cv, padd_zero]; exact HK.out
  case round =>
    clear HK
    obtain ⟨k, hg, hkn, rfl, hk, hU⟩ := hrel
    have HG := Lib.hid hg
    clear hg
    by_cases hlt : k < n
    · have x0 : (0 : Int) ≤ (k : Int) := by omega
      have x1 : (k : Int) < (n : Int) := by omega
      have x2 : (k : Int) < (ns : Int) := by omega
      obtain ⟨bb, o, rfl, c1, hb⟩ := (HP.out.upd hU HNE.out).row k hlt
      have c3 := hk.cell (i := off + k) (by rw [nums_length]; omega)
      have c4 := hk.free (off + k)
      have e3 : nth64 (nums (padd P (cv (mono off (elm m c)) (cutS (sr m l) k))) N) (off + k) = zn (padd P (cv (mono off (elm m c)) (cutS (sr m l) k)) (off + k)) := nums_at _ _ _ (by omega)
      rw [e3] at c3
      have ex := zn_add (padd P (cv (mono off (elm m c)) (cutS (sr m l) k)) (off + k)) (sr m l k * elm m c)
      rw [← times_new] at ex
      generalize zn (padd P (cv (mono off (elm m c)) (cutS (sr m l) k)) (off + k)) = z1 at c3 ex
      have HQ := Lib.hid (And.intro hk hU)
      have HMZ := Lib.hid (mul_zn (m := m) (l.getD k 0) c)
      rw [sr_at] at HMZ
      generalize hz2 : zn (sr m l k * elm m c) = z2 at ex HMZ
      generalize hz3 : zn (padd P (cv (mono off (elm m c)) (cutS (sr m l) (k + 1))) (off + k)) = z3 at ex
      have HZ3 := Lib.hid hz3
      have HM : Hid (∀ wx, (wx.cell? ⟨gs, off + k, none⟩ = some (.int .i64 z1) ∧ wx.frozen? ⟨gs, off + k, none⟩ = false ∧ Drawn wr wx) → Calls Tryd.prog 38 #[.pointer (some ⟨s, 0, none⟩), .int .i64 (l.getD k 0), .int .i64 c] wx
          fun e w' => e = .returned (.int .i64 z2) ∧ (w'.cell? ⟨gs, off + k, none⟩ = some (.int .i64 z1) ∧ w'.frozen? ⟨gs, off + k, none⟩ = false ∧ Drawn wr w')) := by
        rintro wx ⟨q1, q2, d⟩
        refine (mul_any M.lo M.hi (l.getD k 0) c wx ((fld_upd HF.out hU n1 n2 n3).drawn M.lo d)).mono ?_
        rintro e w' ⟨rfl, n, rfl⟩
        exact ⟨by rw [HMZ.out], q1, q2, d.trans (Drawn.mk _ n)⟩
      clear hk hU e3 hz2 hz3 HMZ hb
      go_wp2_with fail
      go_region_law (first | (go_simp; go_at_call 38; refine Calls.mono (HM.out _ ⟨c3, c4, Drawn.mk wr 1⟩) ?_; rintro e w' ⟨rfl, q1, q2, q3⟩))
      all_goals
        rename_i w' q1 q2 q3
        obtain ⟨hk, hU⟩ := HQ.out
        obtain ⟨nd, hnd⟩ := q3
        have hk : Blk64 w' gs (nums (padd P (cv (mono off (elm m c)) (cutS (sr m l) k))) N) := by rw [hnd]; exact hk
        have hU : Upd gs w w' := by rw [hnd]; exact ⟨hU.os, hU.tape, hU.output, hU.size, hU.block⟩
        have HN : Hid (Blk64 (w'.setCell ⟨gs, off + k, none⟩ (.int .i64 z3)) gs (nums (padd P (cv (mono off (elm m c)) (cutS (sr m l) (k + 1)))) N)) := by
          have h1 := hk.set (off + k) z3
          rw [← HZ3.out, nums_set _ _ N (off + k) (times_at P (sr m l) (elm m c) off k), HZ3.out] at h1
          exact h1
        have HU : Hid (Upd gs w (w'.setCell ⟨gs, off + k, none⟩ (.int .i64 z3))) := hU.only (Only.setCell _ ⟨gs, off + k, none⟩ _)
        clear hk hU hnd q1 q2 c3 c4 ex
        go_wp2_with fail
        go_roundg (n - (k + 1))
        case measure => have := HG.out; omega
        case rel => exact ⟨k + 1, rfl, by omega, by go_num, HN.out, HU.out⟩
    · obtain rfl : k = n := by omega
      rw [cutS_all (by have := sr_bd (m := m) l; rwa [← HL.out] at this)] at hk
      go_wp2_with fail
      go_end0
      exact ⟨rfl, hk, hU⟩
end
end Go.Proofs.YtgfaaaeechgjmaaDoor.Pl
