/- The statements' own polynomials (shaleref2): Roots. By the verifier of shale. -/
import Derived.Test.YtgfaaaeechgjmaaDoorRefTimes
namespace Go.Proofs.YtgfaaaeechgjmaaDoor.Pl
open Go Go.RowKit Fld Bits16
set_option linter.unusedVariables false
section
variable {m : Nat} [M : Mid m]
open Classical in
/-- the roots of a list of numbers, rising; none of 0. -/
noncomputable def rootsL (m : Nat) [M : Mid m] (l : List Int) : List Int := if top (sr m l) l.length = 0 then [] else intsN (rts (top (sr m l) l.length) (sr m l) (2 ^ m))
theorem rts_mono (n : Nat) (P : Ser (El m)) (j : Nat) : (rts n P j).length ≤ j := by
  induction j with
  | zero => exact Nat.le_refl _
  | succ j ih => rw [rts, List.length_append]; split <;> simp <;> omega
set_option maxRecDepth 100000 in
set_option maxHeartbeats 1000000 in
theorem rroots_any (a : Option Addr) (n cap : Nat) (l : List Int) (w : World) (h : RowZ w a n cap l) (hn : n ≤ 100000) :
    Calls Tryd.prog 27 #[.int .i64 (m : Int), .slice a n cap] w
      fun e w' => ∃ a' n' cap', e = .returned (.slice a' n' cap') ∧ RowZ w' a' n' cap' (rootsL m l) ∧ Below w.heap.size w w' := by
  obtain ⟨i0, hi, hz0, hz1, hz2⟩ := info64
  have HP := Lib.hid h
  have hb : Bd (sr m l) n := by have := sr_bd (m := m) l; rwa [← h.hlen] at this
  have HBd := Lib.hid hb
  have HLen := Lib.hid h.hlen
  have ht := top_le (sr m l) n
  have hp14 := pow14 m M.hi
  have a1 : (m : Int) ≤ 14 := by have := M.hi; omega
  have ho := shl_one m M.hi
  have e1 := els_lo m M.lo
  have e2 := els_hi m M.hi
  obtain ⟨S, hS⟩ : ∃ S, S = els m := ⟨_, rfl⟩
  have hS2 : Hid (S = 2 ^ m) := hS
  rw [← hS] at ho e1 e2
  have hp14 : S ≤ 16384 := by rw [hS]; exact hp14
  clear h hb hS
  go_enter Tryd.func27, Tryd.ntmps27
  go_wp2_with fail
  refine (rtrim_any (m := m) a n cap l w HP.out (by omega)).mono ?_
  rintro e w1 ⟨p1, N, d1, rfl, hO, b1⟩
  have hN : N = top (sr m l) n := hO.len HBd.out
  have hNn : N ≤ n := by omega
  have HN := Lib.hid hN
  have HO := Lib.hid hO
  have HB1 := Lib.hid b1
  have hb1 := b1.size
  clear hN hO b1
  have HLst : Hid (∀ R : List Int, (0 < N → R = intsN (rts N (sr m l) (2 ^ m))) → (N = 0 → R = []) → R = rootsL m l) := by
    show ∀ _, _
    intro R hr hr0
    unfold rootsL
    rw [← HLen.out, ← HN.out]
    split
    · rename_i h0; exact hr0 h0
    · rename_i h0; exact hr (by omega)
  go_wp2_with fail
  go_loopg [5, 6] S (fun gh s5 s6 wx => ∃ (j k : Nat), gh = S - j ∧ j ≤ S ∧ k ≤ j ∧ s6 = .int .i64 (j : Int) ∧ Own64 wx w1.heap.size s5 k (intsN (rts N (sr m l) j)) ∧ (N = 0 → j = 0) ∧ Below w1.heap.size w1 wx)
  case atStart => exact ⟨0, 0, rfl, Nat.zero_le _, Nat.le_refl _, rfl, Own64.nil w1 w1.heap.size, fun _ => rfl, Below.refl _ _⟩
  case round =>
    obtain ⟨j, k, hg, hj, hkj, rfl, hown, hz, hB⟩ := hrel
    have HG := Lib.hid hg
    have HZ := Lib.hid hz
    clear hg hz
    obtain ⟨av, cv, rfl⟩ := own_slice hown
    have hbs := hB.size
    have HOwn := Lib.hid hown
    have HBB := Lib.hid hB
    clear hown hB
    by_cases hgo : j < S ∧ 0 < N
    · obtain ⟨h1, h2⟩ := hgo
      have t1 : decide ((j : Int) < (S : Int)) = true := decide_eq_true (by omega)
      have t2 : decide ((0 : Int) < (N : Int)) = true := decide_eq_true (by omega)
      have x1 : (j : Int) < (S : Int) := by omega
      have x2 : (0 : Int) < (N : Int) := by omega
      go_wp2_with fail
      refine (reval_any (m := m) p1 N d1 _ (j : Int) wr (HO.out.row.below HBB.out)).mono ?_
      rintro e w5 ⟨rfl, hD5⟩
      rw [sr_nums HO.out.bd]
      have ho5 : Own64 w5 w1.heap.size (.slice av k cv) k (intsN (rts N (sr m l) j)) := HOwn.out.keep fun g hg => hD5.block g (HOwn.out.block g hg).2
      have hB5 : Below w1.heap.size w1 w5 := HBB.out.trans (hD5.mono hbs)
      have hbs5 := hB5.size
      have hze := zn_eq0 (ev N (sr m l) (elm m (j : Int)))
      clear hD5
      by_cases h0 : ev N (sr m l) (elm m (j : Int)) = 0
      · have hze : (zn (ev N (sr m l) (elm m (j : Int))) == 0) = true := hze.trans (decide_eq_true h0)
        have HF : Hid (intsN (rts N (sr m l) (j + 1)) = intsN (rts N (sr m l) j) ++ [(j : Int)]) := by
          show _ = _
          rw [rts, if_pos h0]; simp [intsN]
        clear h0
        generalize zn (ev N (sr m l) (elm m (j : Int))) = z1 at hze ⊢
        go_wp2_with (at_builtin; refine wpList_append_own _ rfl _ _ 22 rfl w1.heap.size 3 i0 (.int .i64 0) 1 8 Tryd.underlying22 hi hz0 hz1 hz2 rfl (by decide) _ k _ rfl (World.ownsRow.alloc ho5 _) ⟨w5.heap.size, 0, none⟩ 1 1 [.int .i64 (j : Int)] rfl rfl (cell_one_new _ _ _) (ints_oneCell .i64 [_]) (by unfold maxLen; omega) (by omega) (by simp; omega) ?_; intro v7 w7 hown7 hgrow _)
        have ho7 : Own64 w7 w1.heap.size v7 (k + 1) (intsN (rts N (sr m l) (j + 1))) := by
          unfold Own64
          rw [HF.out, ← cells64_append]
          exact hown7
        have b7 : Below w1.heap.size w1 w7 := (hB5.alloc hbs5 _).grown hgrow (by simp; omega) (fun g hg => (ho5.block g hg).1)
        clear hown7 hgrow ho5 hB5 hze
        go_wp2_with fail
        go_roundg (S - (j + 1))
        case measure => have := HG.out; omega
        case rel => exact ⟨j + 1, k + 1, rfl, by omega, by omega, by go_num, ho7, fun h => by omega, b7⟩
      · have hze : (zn (ev N (sr m l) (elm m (j : Int))) == 0) = false := hze.trans (decide_eq_false h0)
        have ho6 : Own64 w5 w1.heap.size (.slice av k cv) k (intsN (rts N (sr m l) (j + 1))) := by
          rw [rts, if_neg h0, List.append_nil]; exact ho5
        have HO6 := Lib.hid ho6
        clear h0 ho5 ho6
        generalize zn (ev N (sr m l) (elm m (j : Int))) = z1 at hze ⊢
        go_wp2_with fail
        go_roundg (S - (j + 1))
        case measure => have := HG.out; omega
        case rel => exact ⟨j + 1, k, rfl, by omega, by omega, by go_num, HO6.out, fun h => by omega, hB5⟩
    · have HF : Hid (RowZ wr av k cv (rootsL m l)) := by
        have hrow := (own_rowz HOwn.out).1
        have e := HLst.out (intsN (rts N (sr m l) j)) (fun h => by
          have e2 : j = S := by omega
          rw [e2, hS2.out]) (fun h => by rw [HZ.out h]; rfl)
        rw [e] at hrow
        exact hrow
      have HBf := Lib.hid (HB1.out.trans (HBB.out.mono hb1))
      by_cases h1 : j < S
      · have x1 : (j : Int) < (S : Int) := by omega
        have t1 : decide ((j : Int) < (S : Int)) = true := decide_eq_true (by omega)
        have x3 : N = 0 := by omega
        have t2 : decide ((0 : Int) < (N : Int)) = false := decide_eq_false (by omega)
        clear hgo
        go_wp2_with fail
        go_ret
        exact ⟨_, _, _, rfl, HF.out, HBf.out⟩
      · have x1 : ¬ (j : Int) < (S : Int) := by omega
        have t1 : decide ((j : Int) < (S : Int)) = false := decide_eq_false (by omega)
        clear hgo
        go_wp2_with fail
        go_ret
        exact ⟨_, _, _, rfl, HF.out, HBf.out⟩
end
end Go.Proofs.YtgfaaaeechgjmaaDoor.Pl
