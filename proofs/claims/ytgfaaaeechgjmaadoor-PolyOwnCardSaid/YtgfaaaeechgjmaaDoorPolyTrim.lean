/- The walks over package fieldpoly: Trim, Scale, Add. By the verifier of shale. -/
import Derived.Test.YtgfaaaeechgjmaaDoorPolyTimes
import Derived.StillTailTactics
namespace Go.Proofs.YtgfaaaeechgjmaaDoor.Pl
open Go Go.RowKit Fld Bits16
set_option linter.unusedVariables false
theorem Blk64.row {w : World} {g : Nat} {l : List Int} (h : Blk64 w g l) (n : Nat) (hn : n ≤ l.length) (hm : l.length ≤ 1000000) : RowZ w (some ⟨g, 0, none⟩) n l.length (l.take n) :=
  ⟨by rw [List.length_take]; omega, hn, by unfold maxLen; omega, fun i hi => ⟨g, 0, rfl, by
    rw [Nat.zero_add, h.cell (by omega)]
    unfold nth64
    rw [List.getD_eq_getElem?_getD, List.getD_eq_getElem?_getD, List.getElem?_take_of_lt hi], h.lt⟩⟩
theorem nums_take {m : Nat} (p : Ser (El m)) {n N : Nat} (h : n ≤ N) : (nums p N).take n = nums p n := by
  unfold nums
  rw [← List.map_take, List.take_range, Nat.min_eq_left h]
theorem nums_pz {m : Nat} [M : Mid m] (n : Nat) : List.replicate n 0 = nums (pz : Ser (El m)) n := by
  apply List.ext_getElem
  · simp [nums]
  · intro i h1 h2
    simp [nums]; rfl
/-- a polynomial in new memory, or none; what is behind its end is 0. -/
def Out (m : Nat) [M : Mid m] (w0 w : World) (a : Option Addr) (n cap : Nat) (p : Ser (El m)) : Prop :=
  (a = none ∧ n = 0 ∧ cap = 0 ∧ p = pz) ∨ ∃ g N, a = some ⟨g, 0, none⟩ ∧ w0.heap.size ≤ g ∧ N ≤ 1000000 ∧ cap = N ∧ Blk64 w g (nums p N) ∧ n = top p N ∧ Bd p N
section
variable {m : Nat} [M : Mid m]
theorem Out.bd {w0 w : World} {a : Option Addr} {n cap : Nat} {p : Ser (El m)} (h : Out m w0 w a n cap p) : Bd p n := by
  rcases h with ⟨_, _, _, rfl⟩ | ⟨g, N, _, _, _, _, _, hn, hb⟩
  · exact bd_pz n
  · rw [hn]; exact top_bd hb
theorem Out.row {w0 w : World} {a : Option Addr} {n cap : Nat} {p : Ser (El m)} (h : Out m w0 w a n cap p) : RowZ w a n cap (nums p n) := by
  rcases h with ⟨rfl, rfl, rfl, rfl⟩ | ⟨g, N, rfl, _, hN, rfl, hk, hn, hb⟩
  · exact ⟨rfl, Nat.le_refl _, by decide, fun i hi => by omega⟩
  · have hle : n ≤ cap := by rw [hn]; exact top_le p cap
    have := Blk64.row hk n (by rw [nums_length]; exact hle) (by rw [nums_length]; exact hN)
    rw [nums_take p hle, nums_length] at this
    exact this
theorem Out.since {w0 w w' : World} {a : Option Addr} {n cap : Nat} {p : Ser (El m)} (h : Out m w0 w a n cap p) (b : Below w.heap.size w w') : Out m w0 w' a n cap p := by
  rcases h with h | ⟨g, N, e, hg, hN, hc, hk, hn, hb⟩
  · exact Or.inl h
  · exact Or.inr ⟨g, N, e, hg, hN, hc, (b.block _ hk.lt).trans hk, hn, hb⟩
theorem Out.from {w0 w1 w : World} {a : Option Addr} {n cap : Nat} {p : Ser (El m)} (h : Out m w1 w a n cap p) (b : w0.heap.size ≤ w1.heap.size) : Out m w0 w a n cap p := by
  rcases h with h | ⟨g, N, e, hg, r⟩
  · exact Or.inl h
  · exact Or.inr ⟨g, N, e, Nat.le_trans b hg, r⟩
theorem cutS_step (q : Ser (El m)) (n k : Nat) : (nums (cutS q k) n).set k (zn (q k)) = nums (cutS q (k + 1)) n := by
  have h := nums_set (cutS q k) (cutS q (k + 1)) n k (fun j hj => by
    unfold cutS
    by_cases h2 : j < k
    · rw [if_pos h2, if_pos (by omega)]
    · rw [if_neg h2, if_neg (by omega)])
  rw [show cutS q (k + 1) k = q k from if_pos (by omega)] at h
  exact h
theorem cutS_zero (q : Ser (El m)) : cutS q 0 = pz := funext fun i => if_neg (by omega)
theorem Blk64.lay {w : World} {g : Nat} {l k : List Int} {i : Nat} {z : Int} (h : Blk64 w g l) (e : l.set i z = k) : Blk64 (w.setCell ⟨g, i, none⟩ (.int .i64 z)) g k := e ▸ h.set i z
set_option maxRecDepth 100000 in
set_option maxHeartbeats 1000000 in
theorem trim_any {g s be ce bl : Nat} (a : Option Addr) (n cap : Nat) (l : List Int) (w : World) (R : RingAt m w g s be ce bl) (h : RowZ w a n cap l) (hn : n ≤ 1000000) :
    Calls Tryd.prog 14 #[.pointer (some ⟨g, 0, none⟩), .slice a n cap] w
      fun e w' => e = .returned (.slice (some ⟨w.heap.size, 0, none⟩) (top (sr m l) n) (top (sr m l) n)) ∧ Blk64 w' w.heap.size (nums (sr m l) (top (sr m l) n)) ∧ Below w.heap.size w w' := by
  have HR := Lib.hid R
  have HP := Lib.hid h
  have htn := top_le (sr m l) n
  have HB : Hid (Bd (sr m l) (top (sr m l) n)) := top_bd (by have := sr_bd (m := m) l; rwa [← h.hlen] at this)
  obtain ⟨N, hN⟩ : ∃ N, N = top (sr m l) n := ⟨_, rfl⟩
  rw [← hN] at htn HB ⊢
  have HN := Lib.hid hN
  have hmk := made64 w N (by omega)
  rw [nums_pz (m := m)] at hmk
  have HB0 : Hid (Below w.heap.size w (w.alloc (obj64 (nums (pz : Ser (El m)) N)))) := (Below.refl _ _).alloc (Nat.le_refl _) _
  have HK0 : Hid (Blk64 (w.alloc (obj64 (nums (pz : Ser (El m)) N))) w.heap.size (nums (pz : Ser (El m)) N)) := Blk64.new w _
  clear R h hN
  go_enter Tryd.func14, Tryd.ntmps14
  go_wp2_with fail
  refine (deg_any a n cap l w HR.out HP.out).mono ?_
  rintro e w1 ⟨rfl, rfl⟩
  rw [← HN.out]
  go_wp2_with fail
  clear hmk
  go_loopg [14] N (fun gh s14 wx => ∃ (k : Nat), gh = N - k ∧ k ≤ N ∧ s14 = .int .i64 (k : Int) ∧ Blk64 wx w.heap.size (nums (cutS (sr m l) k) N) ∧ Below w.heap.size w wx)
  case atStart => exact ⟨0, rfl, by omega, rfl, by rw [cutS_zero]; exact HK0.out, HB0.out⟩
  case round =>
    clear HK0 HB0
    obtain ⟨k, hg, hkn, rfl, hk, hB⟩ := hrel
    have HG := Lib.hid hg
    clear hg
    by_cases hlt : k < N
    · have x1 : (k : Int) < (N : Int) := by omega
      have x0 : (0 : Int) ≤ (k : Int) := by omega
      have x2 : (k : Int) < (n : Int) := by omega
      obtain ⟨bb, off, rfl, c1, hb⟩ := (HP.out.below hB).row k (by omega)
      have c3 := hk.cell (i := k) (by rw [nums_length]; exact hlt)
      have c4 := hk.free k
      have HS := Lib.hid (Blk64.lay hk (cutS_step (sr m l) N k))
      have HSB : Hid (Below w.heap.size w (wr.setCell ⟨w.heap.size, k, none⟩ (.int .i64 (zn (sr m l k))))) := hB.setCell (p := ⟨w.heap.size, k, none⟩) (Nat.le_refl _) _
      have HRw := Lib.hid (HR.out.below hB)
      clear hk hB hb
      go_wp2_with fail
      refine (elem_any (l.getD k 0) wr HRw.out).mono ?_
      rintro e w1 ⟨rfl, rfl⟩
      rw [sr_at]
      go_wp2_with fail
      go_roundg (N - (k + 1))
      case measure => have := HG.out; omega
      case rel => exact ⟨k + 1, rfl, by omega, by go_num, HS.out, HSB.out⟩
    · obtain rfl : k = N := by omega
      rw [cutS_all HB.out] at hk
      go_wp2_with fail
      go_ret
      exact ⟨rfl, hk, hB⟩
set_option maxRecDepth 100000 in
set_option maxHeartbeats 1000000 in
theorem scale_any {g s be ce bl : Nat} (a : Option Addr) (n cap : Nat) (l : List Int) (c : Int) (w : World) (R : RingAt m w g s be ce bl) (h : RowZ w a n cap l) (hn : n ≤ 1000000) :
    Calls Tryd.prog 18 #[.pointer (some ⟨g, 0, none⟩), .slice a n cap, .int .i64 c] w
      fun e w' => ∃ a' n' cap', e = .returned (.slice a' n' cap') ∧ Out m w w' a' n' cap' (psm (elm m c) (sr m l)) ∧ Below w.heap.size w w' := by
  have HR := Lib.hid R
  have HP := Lib.hid h
  have c0 := R.cell
  obtain ⟨l1, l2, l3⟩ := R.2.lt M.lo
  have HBd : Hid (Bd (psm (elm m c) (sr m l)) n) := (by have := sr_bd (m := m) l; rwa [← h.hlen] at this : Bd (sr m l) n).sm _
  have hmk := made64 w n (by omega)
  rw [nums_pz (m := m)] at hmk
  have b0 : Below w.heap.size w (w.alloc (obj64 (nums (pz : Ser (El m)) n))) := (Below.refl _ _).alloc (Nat.le_refl _) _
  have HB0 := Lib.hid b0
  have HK0 : Hid (Blk64 (w.alloc (obj64 (nums (pz : Ser (El m)) n))) w.heap.size (nums (pz : Ser (El m)) n)) := Blk64.new w _
  have c1 := (R.below b0).cell
  clear R h b0
  go_enter Tryd.func18, Tryd.ntmps18
  go_wp2_with fail
  generalize w.alloc (obj64 (nums (pz : Ser (El m)) n)) = w1 at HB0 HK0 c1 ⊢
  clear hmk
  go_wp2_with fail
  refine (times_any w.heap.size 0 n n n pz a n cap l c w1 (HR.out.below HB0.out).2 HK0.out (by omega) (HP.out.below HB0.out) (Nat.le_refl _) hn (by omega) (by omega) (by omega) (fun bb o e h0 => by
    obtain ⟨b2, o2, e2, _, hb⟩ := HP.out.row 0 (by omega)
    rw [e] at e2
    simp only [Option.some.injEq, Addr.mk.injEq] at e2
    omega)).mono ?_
  rintro e w2 ⟨rfl, hk, hU⟩
  have e1 : padd pz (cv (mono 0 (elm m c)) (sr m l)) = psm (elm m c) (sr m l) := by
    rw [zero_padd]
    funext i
    rw [cv_mono, if_neg (by omega)]; rfl
  rw [e1] at hk
  have hB2 := HB0.out.trans (hU.toBelow (Nat.le_refl _) HB0.out.size)
  have hrow := Blk64.row hk n (by rw [nums_length]; exact Nat.le_refl _) (by rw [nums_length]; exact hn)
  rw [nums_length, nums_take _ (Nat.le_refl _)] at hrow
  have HK := Lib.hid hk
  have HRow := Lib.hid hrow
  clear hk hU c0 c1 e1 hrow
  go_wp2_with fail
  refine (cut_any _ n n _ w2 HRow.out).mono ?_
  rintro e w3 ⟨rfl, rfl⟩
  go_wp2_with fail
  go_ret
  exact ⟨_, _, _, rfl, Or.inr ⟨_, n, rfl, Nat.le_refl _, hn, rfl, HK.out, rfl, HBd.out⟩, hB2⟩
end
end Go.Proofs.YtgfaaaeechgjmaaDoor.Pl
