/- The walk over package binpoly's Exponents. By the verifier of shale. -/
import Derived.Test.YtcdhjmmkeiomaaaDoorRefInts
import Derived.Test.YtcdhjmmkeiomaaaDoorOwn64
namespace Go.Proofs.YtcdhjmmkeiomaaaDoor.Bin
open Go Go.RowKit
set_option linter.unusedVariables false
/-- the exponents below k, falling. -/
def exps (v : Nat) : Nat → List Nat
  | 0 => []
  | k + 1 => (if v.testBit k then [k] else []) ++ exps v k
def topE (v : Nat) : Nat := if v = 0 then 0 else v.log2 + 1
theorem degZ_top (v : Nat) : degZ v = (topE v : Int) - 1 := by
  unfold degZ topE
  split <;> omega
def ints (l : List Nat) : List Int := List.map (fun e : Nat => (e : Int)) l
set_option maxRecDepth 100000 in
set_option maxHeartbeats 1000000 in
theorem exponents_any (a : Option Addr) (n cap : Nat) (l : List (BitVec 8)) (w : World) (h : Pol w a n cap l) (hn : n ≤ 1000) :
    Calls Tryd.prog 19 #[.slice a n cap] w fun e w' => ∃ v' k, e = .returned v' ∧ Own64 w' w.heap.size v' k (ints (exps (val l) (topE (val l)))) ∧ Below w.heap.size w w' := by
  obtain ⟨i0, hi, hz0, hz1, hz2⟩ := info64
  have HP := Lib.hid h
  have hD := degZ_top (val l)
  have hb : topE (val l) ≤ 8000 := by
    unfold topE
    split
    · omega
    · rename_i h0
      have := deg_len h0
      have := h.hlen
      omega
  obtain ⟨D, hDe⟩ : ∃ D, D = topE (val l) := ⟨_, rfl⟩
  rw [← hDe] at hD hb ⊢
  have HO0 := Lib.hid (show Own64 w w.heap.size (.slice none 0 0) 0 (ints []) from Own64.nil w w.heap.size)
  clear h hDe
  go_enter Tryd.func19, Tryd.ntmps19
  go_wp2_with fail
  refine (degree_any a n cap l w HP.out (by omega)).mono ?_
  rintro e w1 ⟨rfl, rfl⟩
  rw [hD]
  clear hD
  go_wp2_with fail
  go_loopg [3, 4] D (fun gh s3 s4 wx => ∃ (k m : Nat) (R : List Nat), gh = k ∧ k ≤ D ∧ s4 = .int .i64 ((k : Int) - 1) ∧ Own64 wx w.heap.size s3 m (ints R) ∧ m + k ≤ D ∧ Hid (R ++ exps (val l) k = exps (val l) D) ∧ Below w.heap.size w wx)
  case atStart => exact ⟨D, 0, [], rfl, Nat.le_refl _, rfl, HO0.out, by omega, rfl, Below.refl _ _⟩
  case round =>
    obtain ⟨k, m, R, hg, hk, rfl, hown, hmk, HR, hB⟩ := hrel
    have HG := Lib.hid hg
    have hbs := hB.size
    clear hg
    rcases k with _ | k
    · have HF : Hid (exps (val l) D = R) := by have := HR.out; simp only [exps, List.append_nil] at this; exact this.symm
      clear HR
      go_wp2_with fail
      go_ret
      exact ⟨_, m, rfl, by rw [HF.out]; exact hown, hB⟩
    · have x0 : (0 : Int) ≤ (k : Int) := by omega
      have hbz : bitZ l (k : Int) = if (val l).testBit k then 1 else 0 := by unfold bitZ; rw [if_neg (by omega)]; rfl
      rcases Bool.eq_false_or_eq_true ((val l).testBit k) with hb1 | hb1
      · rw [hb1] at hbz
        have HF : Hid ((R ++ [k]) ++ exps (val l) k = exps (val l) D) := by
          have h7 : R ++ exps (val l) (k + 1) = exps (val l) D := HR.out
          rw [exps, hb1, if_pos rfl] at h7
          show _ = _
          rw [List.append_assoc]
          exact h7
        clear HR hb1
        go_wp2_with fail
        refine (bit_any a n cap l (k : Int) wr (HP.out.below hB) (by omega)).mono ?_
        rintro e w1 ⟨rfl, rfl⟩
        rw [hbz]
        go_wp2_with (at_builtin; refine wpList_append_own _ rfl _ _ 36 rfl w.heap.size 3 i0 (.int .i64 0) 1 8 Tryd.underlying36 hi hz0 hz1 hz2 rfl (by decide) _ m _ rfl (World.ownsRow.alloc hown _) ⟨wr.heap.size, 0, none⟩ 1 1 [.int .i64 (k : Int)] rfl rfl (cell_one_new _ _ _) (ints_oneCell .i64 [_]) (by unfold maxLen; omega) (by omega) (by simp; omega) ?_; intro v7 w7 hown7 hgrow _)
        have ho7 : Own64 w7 w.heap.size v7 (m + 1) (ints (R ++ [k])) := by
          unfold Own64
          have e : ints (R ++ [k]) = ints R ++ [(k : Int)] := by simp [ints]
          rw [e, ← cells64_append]
          exact hown7
        have b7 : Below w.heap.size w w7 := (hB.alloc hbs _).grown hgrow (by simp; omega) (fun g hg => (hown.block g hg).1)
        clear hown7 hgrow hown hB
        go_wp2_with fail
        go_roundg k
        case measure => have := HG.out; omega
        case rel => exact ⟨k, m + 1, R ++ [k], rfl, by omega, rfl, ho7, by omega, HF.out, b7⟩
      · rw [hb1] at hbz
        have HF : Hid (R ++ exps (val l) k = exps (val l) D) := by
          have h7 : R ++ exps (val l) (k + 1) = exps (val l) D := HR.out
          rw [exps, hb1, if_neg (by decide), List.nil_append] at h7
          exact h7
        clear HR hb1
        go_wp2_with fail
        refine (bit_any a n cap l (k : Int) wr (HP.out.below hB) (by omega)).mono ?_
        rintro e w1 ⟨rfl, rfl⟩
        rw [hbz]
        go_wp2_with fail
        go_roundg k
        case measure => have := HG.out; omega
        case rel => exact ⟨k, m, R, rfl, by omega, rfl, hown, by omega, HF.out, hB⟩
end Go.Proofs.YtcdhjmmkeiomaaaDoor.Bin
