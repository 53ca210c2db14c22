/- shaleref2.bits: a polynomial of a list of noughts and ones. By the verifier of shale. -/
import Derived.Test.YtcdhjmmkeiomaaaDoorRefBit
import Derived.RangeFuncBox
namespace Go.Proofs.YtcdhjmmkeiomaaaDoor.Bin
open Go Go.RowKit
set_option linter.unusedVariables false
theorem Own8.slice {w : World} {base m : Nat} {v : Value} {l : List (BitVec 8)} (h : Own8 w base v (m + 1) l) : ∃ g cap, v = .slice (some ⟨g, 0, none⟩) (m + 1) cap := ownsRow_succ h
theorem Own8.cellA {w : World} {base g n cap : Nat} {l : List (BitVec 8)} (h : Own8 w base (.slice (some ⟨g, 0, none⟩) n cap) n l) (j : Nat) (hj : j < n) : w.cell? ⟨g, j, none⟩ = some (.int .u8 (Bits32.b (nth8 l j))) := by
  have hl := h.len
  have := World.ownsRow.cellAt h j (by omega)
  rw [this]
  unfold cells8 nth8
  simp [show j < l.length by omega]
theorem Own8.freeA {w : World} {base g n cap : Nat} {l : List (BitVec 8)} (h : Own8 w base (.slice (some ⟨g, 0, none⟩) n cap) n l) (j : Nat) : w.frozen? ⟨g, j, none⟩ = false := World.ownsRow.frozenAt h j
theorem own_len {X : List (BitVec 8)} {i V : Nat} (hb : Bare X) (hv : val X = V % 2 ^ i) : X.length ≤ (i + 7) / 8 :=
  bare_len hb (by rw [hv]; exact Nat.lt_of_lt_of_le (Nat.mod_lt _ (Nat.two_pow_pos i)) (Nat.pow_le_pow_right (by decide) (by omega)))
set_option maxRecDepth 100000 in
set_option maxHeartbeats 4000000 in
theorem bits_own (g n cap V : Nat) (w : World) (h : Blk64 w g (bitL V n)) (hn : n ≤ 100000) :
    Calls Tryd.prog 42 #[.slice (some ⟨g, 0, none⟩) n cap] w fun e w' => ∃ v m X, e = .returned v ∧ Own8 w' w.heap.size v m X ∧ Bare X ∧ val X = V % 2 ^ n ∧ Below w.heap.size w w' := by
  obtain ⟨i0, hi, hz0, hz1, hz2⟩ := info8
  have HK := Lib.hid h
  have hgl := h.lt
  have HO0 : Hid (Own8 w w.heap.size (.slice none 0 0) 0 []) := Own8.nil w w.heap.size
  clear h
  go_enter Tryd.func42, Tryd.ntmps42
  go_wp2_with fail
  go_loopg [3, 4] n (fun gh s3 s4 wx => ∃ (i m : Nat) (X : List (BitVec 8)), gh = n - i ∧ i ≤ n ∧ s4 = .int .i64 (i : Int) ∧ Own8 wx w.heap.size s3 m X ∧ Hid (Bare X ∧ val X = V % 2 ^ i) ∧ Below w.heap.size w wx)
  case atStart => exact ⟨0, 0, [], rfl, by omega, rfl, HO0.out, ⟨bare_nil, by rw [Nat.pow_zero, Nat.mod_one]; rfl⟩, Below.refl _ _⟩
  case round =>
    clear HO0
    obtain ⟨i, m, X, hg, hin, rfl, hown, HX, hB⟩ := hrel
    have HG := Lib.hid hg
    clear hg
    have hbs := hB.size
    by_cases hlt : i < n
    · have x1 : (i : Int) < (n : Int) := by omega
      have x0 : (0 : Int) ≤ (i : Int) := by omega
      have c1 := (hB.cell (p := ⟨g, i, none⟩) hgl).trans (HK.out.cell (i := i) (by rw [bitL_length]; exact hlt))
      rw [nth_bitL V n i hlt] at c1
      have hmod := mod_succ V i
      rcases Bool.eq_false_or_eq_true (V.testBit i) with hb | hb
      · rw [hb] at c1 hmod
        have c1 : wr.cell? ⟨g, i, none⟩ = some (.int .i64 1) := c1
        have HM : Hid (V % 2 ^ (i + 1) = V % 2 ^ i ^^^ 2 ^ i) := hmod
        have hm0 : m ≤ i / 8 + 1 := by have := own_len HX.out.1 HX.out.2; have := hown.len; omega
        have HV : Hid (val X = V % 2 ^ i) := HX.out.2
        clear hmod hb HX
        go_wp2_with fail
        go_loopg [3] (i / 8 + 1 - m) (fun gh s3 wx => ∃ (m' : Nat) (X' : List (BitVec 8)), gh = i / 8 + 1 - m' ∧ m' ≤ i / 8 + 1 ∧ Own8 wx w.heap.size s3 m' X' ∧ Hid (val X' = V % 2 ^ i) ∧ Below w.heap.size w wx)
        case atStart => exact ⟨m, X, rfl, hm0, hown, HV.out, hB⟩
        case round =>
          clear hown HV hB c1 hm0 hbs
          obtain ⟨m', X', hg', hm', hown, HV, hB⟩ := hrel
          have HG' := Lib.hid hg'
          clear hg'
          have hbs := hB.size
          by_cases hle : m' ≤ i / 8
          · have t : decide ((m' : Int) ≤ (i : Int) / 8) = true := decide_eq_true (by omega)
            obtain ⟨a', cap', hs', hN'⟩ := own_newP (w := w) hown
            subst hs'
            have HV2 : Hid (val (X' ++ [0]) = V % 2 ^ i) := by show _ = _; rw [val_zero_end]; exact HV.out
            clear HV hN'
            go_wp2_with (at_builtin; refine wpList_append_own _ rfl _ _ 22 rfl w.heap.size 5 i0 (.int .u8 0) 1 1 Tryd.underlying22 hi hz0 hz1 hz2 rfl (by decide) _ m' _ rfl (World.ownsRow.alloc hown _) ⟨_, 0, none⟩ 1 1 [.int .u8 (Bits32.b 0)] rfl rfl (cell_one_new _ _ _) (ints_oneCell .u8 [_]) (by unfold maxLen; omega) (by omega) (by simp; omega) ?_; intro v8 w8 hown8 hgrow _)
            have ho8 : Own8 w8 w.heap.size v8 (m' + 1) (X' ++ [0]) := by
              unfold Own8
              have e : cells8 (X' ++ [0]) = cells8 X' ++ [.int .u8 (Bits32.b 0)] := by simp [cells8]
              rw [e]
              exact hown8
            have b8 : Below w.heap.size w w8 := (hB.alloc hbs _).grown hgrow (by simp; omega) (fun g hg => (hown.block g hg).1)
            clear hown8 hgrow hown hB hbs t
            go_wp2_with fail
            go_roundg (i / 8 + 1 - (m' + 1))
            case measure => have := HG'.out; omega
            case rel => exact ⟨m' + 1, X' ++ [0], rfl, by omega, ho8, HV2.out, b8⟩
          · have t : decide ((m' : Int) ≤ (i : Int) / 8) = false := decide_eq_false (by omega)
            obtain ⟨j, hj⟩ : ∃ j, m' = j + 1 := ⟨i / 8, by omega⟩
            have hji : j = i / 8 := by omega
            subst hj
            obtain ⟨g8, cap8, rfl⟩ := Own8.slice hown
            have hl := hown.len
            have d1 := Own8.cellA hown (i / 8) (by omega)
            have d2 := Own8.freeA hown (i / 8)
            have hlow : (val X').testBit i = false := by rw [HV.out]; exact Nat.testBit_lt_two_pow (Nat.mod_lt _ (Nat.two_pow_pos i))
            rw [val_bit] at hlow
            have e1 := bor_bit (nth8 X' (i / 8)) (i % 8) (by omega) hlow
            have hst := Own8.stored hown (i / 8) (nth8 X' (i / 8) ^^^ BitVec.twoPow 8 (i % 8))
            have HS := Lib.hid hst.1
            have HGR : Hid (Below w.heap.size w (wr.setCell ⟨g8, i / 8, none⟩ (.int .u8 (Bits32.b (nth8 X' (i / 8) ^^^ BitVec.twoPow 8 (i % 8)))))) := hB.setCell (p := ⟨g8, i / 8, none⟩) (hown.block g8 rfl).1 _
            have HF : Hid (Bare (X'.set (i / 8) (nth8 X' (i / 8) ^^^ BitVec.twoPow 8 (i % 8))) ∧ val (X'.set (i / 8) (nth8 X' (i / 8) ^^^ BitVec.twoPow 8 (i % 8))) = V % 2 ^ (i + 1)) := by
              refine ⟨bare_set X' (i / 8) (i % 8) (by omega) (by omega) hlow, ?_⟩
              rw [val_turn X' i (by omega), HM.out, HV.out]
            have x2 : (i : Int) / 8 < (j : Int) + 1 := by omega
            have HH := Lib.hid hown
            clear hst hlow hl HV hB hbs hji hm' hle t HG' hown
            go_wp2_with fail
            go_roundg (n - (i + 1))
            case measure => have := HG.out; omega
            case rel => exact ⟨i + 1, j + 1, _, rfl, by omega, by go_num, HS.out, HF.out, HGR.out⟩
      · rw [hb] at c1 hmod
        have c1 : wr.cell? ⟨g, i, none⟩ = some (.int .i64 0) := c1
        have HF : Hid (Bare X ∧ val X = V % 2 ^ (i + 1)) := ⟨HX.out.1, by rw [HX.out.2, hmod]; simp⟩
        clear hmod hb HX
        go_wp2_with fail
        go_roundg (n - (i + 1))
        case measure => have := HG.out; omega
        case rel => exact ⟨i + 1, m, X, rfl, by omega, by go_num, hown, HF.out, hB⟩
    · obtain rfl : i = n := by omega
      go_wp2_with fail
      go_ret
      exact ⟨_, m, X, rfl, hown, HX.out.1, HX.out.2, hB⟩
end Go.Proofs.YtcdhjmmkeiomaaaDoor.Bin
