/- The document's pool: its Remove. By the verifier of shale. -/
import Derived.Test.YtaaegkjbmomjbaaDoorPoRef3
import Derived.Test.YtaaegkjbmomjbaaDoorAppRun
import Derived.Deep.RegionHeld3
namespace Go.Proofs.YtaaegkjbmomjbaaDoor.Po
open Go Go.RowKit Hp
set_option linter.unusedVariables false
set_option linter.unusedSimpArgs false
def RRem (w : World) (base xb : Nat) (a : Option Addr) (R : List It) (b : Int) (e : Ending) (w' : World) : Prop := (idx? R b = none ∧ e = .returned (.bool false) ∧ w = w') ∨ (∃ i, idx? R b = some i ∧ ROut w base xb a (R.eraseIdx i) (.bool true) e w')
set_option maxRecDepth 100000 in
set_option maxHeartbeats 4000000 in
theorem rremove_any {w : World} {base xb c : Nat} {a : Option Addr} {R : List It} (Q : RefP w base xb a c R) (hL : R.length ≤ 1000) (b : Int) :
    Calls Tryd.prog 12 #[.pointer (some ⟨xb, 0, none⟩), .int .i64 b] w (RRem w base xb a R b) := by
  obtain ⟨n, hn⟩ : ∃ n, n = R.length := ⟨_, rfl⟩
  have HQ := Lib.hid (And.intro Q (And.intro hn hL))
  have hkw : ∀ W, Below w.heap.size w W → W.cell? ⟨xb, 0, none⟩ = some (.slice a n c) := fun W d => by rw [hn]; exact (Q.below d).cell.1
  have HK := Lib.hid hkw
  have HFz : Hid (∀ W, Below w.heap.size w W → W.frozen? ⟨xb, 0, none⟩ = false) := fun W d => (Q.below d).cell.2 0
  have hcap := Q.cap
  rw [← hn] at hL hcap
  unfold maxLen at hcap
  have k0 := hkw w (Below.refl _ _)
  clear Q hn hkw
  go_enter Tryd.func12, Tryd.ntmps12
  go_wp2_with fail
  go_loop [5] (fun s5 => ∃ i : Nat, i ≤ n ∧ s5 = .int .i64 (i : Int) ∧ Hid (∀ j, j < i → (R[j]!).b ≠ b)) (fun s5 => n - (intOf s5).toNat)
  case atStart => exact ⟨0, Nat.zero_le _, rfl, fun j hj => absurd hj (Nat.not_lt_zero _)⟩
  case round =>
    obtain ⟨i, hin, rfl, HX⟩ := hrel
    have x0 : (0 : Int) ≤ (i : Int) := by omega
    have x2 : (i : Int) ≤ 1000 := by omega
    by_cases hlt : i < n
    · have x1 : (i : Int) < (n : Int) := by omega
      obtain ⟨g, o, ha, hgx, c0, _⟩ := HQ.out.1.item (i := i) (by rw [← HQ.out.2.1]; exact hlt)
      obtain ⟨x, hx⟩ : ∃ x, x = R[i]! := ⟨_, rfl⟩
      rw [← hx] at c0
      have HXX := Lib.hid hx
      have HA := Lib.hid (And.intro ha hgx)
      clear hx hgx
      cases hb : (x.b == b)
      · have HNE : Hid (x.b ≠ b) := by show x.b ≠ b; simpa using hb
        subst ha
        go_wp2_with fail
        go_round
        case rel => exact ⟨i + 1, by omega, by go_num, fun j hj => by
          by_cases e : j = i
          · rw [e, ← HXX.out]; exact HNE.out
          · exact HX.out j (by omega)⟩
        case measure => simp [intOf]; omega
      · have HNE : Hid (x.b = b) := by show x.b = b; simpa using hb
        have HF1 : Hid (idx? R b = some i) := idx_some (i := i) (by rw [← HQ.out.2.1]; exact hlt) (by rw [← HXX.out]; exact HNE.out) HX.out
        obtain ⟨R'', hR''⟩ : ∃ R'', R'' = R.eraseIdx i := ⟨_, rfl⟩
        obtain ⟨j, hj⟩ : ∃ j, j = i + 1 := ⟨_, rfl⟩
        have HRR : Hid (R'' = R.take i ++ R.drop j ∧ R''.length = n - 1) := ⟨by rw [hR'', hj]; exact List.eraseIdx_eq_take_drop_succ R i, by rw [hR'', List.length_eraseIdx_of_lt (by rw [← HQ.out.2.1]; exact hlt), ← HQ.out.2.1]⟩
        have HRE := Lib.hid hR''
        have hmk := madeF w.drew n (by omega)
        have hmk2 : (Instr.makeSlice 27 (.int .i64 0) (.int .i64 (n : Int))).run Tryd.prog w.drew = .ok (.slice (some ⟨w.heap.size, 0, none⟩) 0 n) ((w.alloc (freeObj n)).drew) := hmk
        have b3 : Below w.heap.size w ((w.alloc (freeObj n)).drew) := ((Below.refl w.heap.size w).alloc (Nat.le_refl _) _).drew
        have hap := app_items (W := (w.alloc (freeObj n)).drew) (base := w.heap.size) (h := w.heap.size) (n := 0) (cap := n) (xs := []) (madeF_own w n (by omega)) b3.size (R := R.take i) (m := i) (c := c) (a := a) (by rw [List.length_take, ← HQ.out.2.1]; omega) ((src_take HQ.out.1.row i).same fun p hp => by
          obtain ⟨g', o', rfl, _, h2, _⟩ := HQ.out.1.row.2 p hp
          exact b3.block g' h2) (by omega) 27
        rw [Nat.zero_add, List.nil_append] at hap
        obtain ⟨g1, cap1, w4, hr1, hown1, hg1, hor1⟩ := hap
        have HBW : Hid (Below w.heap.size w w4) := b3.grown hg1 b3.size fun k hk => by cases hk; exact Nat.le_refl _
        have HB1 : Hid (w.heap.size ≤ w4.heap.size) := HBW.out.size
        have HGE : Hid (w.heap.size ≤ g1) := by
          rcases hor1 with h | h
          · rw [h]; exact Nat.le_refl _
          · rw [h]; exact b3.size
        have k3 := HK.out _ b3
        have kd : w.drew.cell? ⟨xb, 0, none⟩ = some (.slice a n c) := HK.out w.drew (Below.refl w.heap.size w).drew
        have y1 : i ≤ c := by omega
        have y2 : (i : Int) ≤ (c : Int) := by omega
        have y3 : (i : Int) ≤ (n : Int) := by omega
        have HLT := Lib.hid hlt
        have q1 : (i : Int) + 1 = (j : Int) := by omega
        have q2 : (j : Int) ≤ (n : Int) := by omega
        have q3 : (0 : Int) ≤ (j : Int) := by omega
        have q4 : (n : Int) ≤ (c : Int) := by omega
        have q5 : (j : Int) ≤ (c : Int) := by omega
        have q6 : j ≤ n := by omega
        have q7 : j ≤ c := by omega
        clear hmk hR'' hg1 hor1 b3 hj
        subst ha
        go_upto_region 5 with (fail)
        clear hb
        have HR1 := Lib.hid hr1
        clear hr1
        have k4 := HK.out w4 HBW.out
        go_region_held3 (fun w' => w'.cell? ⟨xb, 0, none⟩ = some (.slice (some ⟨g, o, none⟩) n c))
          (first | go_keep | exact k4)
          (refine step_app_run (by rfl) _ _ _ (by rfl) _ _ _ (by rfl) (by rfl) _ HR1.out ?_)
        clear hmk2 kd k3 k4
        rename_i hheld
        clear hheld
        by_cases hcj : c = j
        · have q8 : (c : Int) = (j : Int) := by omega
          have HJ := Lib.hid (show n = j by omega)
          have HCJ := Lib.hid hcj
          clear hcj
          have hsrc : SrcP w4 (some ⟨g, o, none⟩) (R.drop j) := by rw [List.drop_eq_nil_of_le (by rw [← HQ.out.2.1, HJ.out]; exact Nat.le_refl _)]; exact src_none fun p hp => by cases hp; exact ⟨g, o, rfl⟩
          have hap2 := app_items hown1 HB1.out (R := R.drop j) (m := n - j) (c := c - j) (a := some ⟨g, o, none⟩) (by rw [List.length_drop, ← HQ.out.2.1]) hsrc (by omega) 27
          obtain ⟨g2, cap2, w5, hr2, hown2, hg2, hor2⟩ := hap2
          have HR2 := Lib.hid hr2
          have bb : Below w.heap.size w w5 := HBW.out.grown hg2 HB1.out fun k hk => by cases hk; exact HGE.out
          have HF : Hid (RRem w base xb (some ⟨g, o, none⟩) R b (.returned (.bool true)) (w5.setCell ⟨xb, 0, none⟩ (.slice (some ⟨g2, 0, none⟩) (i + (n - j)) cap2))) := by
            have hown3 := hown2
            rw [← icells_append, ← HRR.out.1] at hown3
            have h := ref_new (W := w) (W2 := w) (r := .bool true) HQ.out.1 bb hown3 (by rw [HRR.out.2]; omega)
            rw [HRE.out] at h
            exact .inr ⟨i, HF1.out, h⟩
          have k4 : w4.cell? ⟨xb, 0, none⟩ = some (.slice (some ⟨g, o, none⟩) n c) := HK.out w4 HBW.out
          have k5 : w5.cell? ⟨xb, 0, none⟩ = some (.slice (some ⟨g, o, none⟩) n c) := HK.out w5 bb
          have f5 : w5.frozen? ⟨xb, 0, none⟩ = false := HFz.out w5 bb
          clear hown1 hown2 hg2 hor2 hr2 bb hsrc
          go_wp2_with (at_builtin; refine list_app_run rfl _ _ _ rfl _ _ _ rfl rfl _ HR2.out ?_)
          go_ret
          exact HF.out
        · have q8 : ¬ ((c : Int) = (j : Int)) := by omega
          have q9 : ¬ (c = j) := hcj
          have hsrc : SrcP w4 (some ⟨g, o + j * 2, none⟩) (R.drop j) := (src_drop HQ.out.1.row j).same fun p hp => by cases hp; obtain ⟨g1, o1, e, _, h2, _⟩ := HQ.out.1.row.2 _ rfl; cases e; exact HBW.out.block g h2
          have hap2 := app_items hown1 HB1.out (R := R.drop j) (m := n - j) (c := c - j) (a := some ⟨g, o + j * 2, none⟩) (by rw [List.length_drop, ← HQ.out.2.1]) hsrc (by omega) 27
          obtain ⟨g2, cap2, w5, hr2, hown2, hg2, hor2⟩ := hap2
          have HR2 := Lib.hid hr2
          have bb : Below w.heap.size w w5 := HBW.out.grown hg2 HB1.out fun k hk => by cases hk; exact HGE.out
          have HF : Hid (RRem w base xb (some ⟨g, o, none⟩) R b (.returned (.bool true)) (w5.setCell ⟨xb, 0, none⟩ (.slice (some ⟨g2, 0, none⟩) (i + (n - j)) cap2))) := by
            have hown3 := hown2
            rw [← icells_append, ← HRR.out.1] at hown3
            have h := ref_new (W := w) (W2 := w) (r := .bool true) HQ.out.1 bb hown3 (by rw [HRR.out.2]; omega)
            rw [HRE.out] at h
            exact .inr ⟨i, HF1.out, h⟩
          have k4 : w4.cell? ⟨xb, 0, none⟩ = some (.slice (some ⟨g, o, none⟩) n c) := HK.out w4 HBW.out
          have k5 : w5.cell? ⟨xb, 0, none⟩ = some (.slice (some ⟨g, o, none⟩) n c) := HK.out w5 bb
          have f5 : w5.frozen? ⟨xb, 0, none⟩ = false := HFz.out w5 bb
          clear hown1 hown2 hg2 hor2 hr2 bb hsrc
          go_wp2_with (at_builtin; refine list_app_run rfl _ _ _ rfl _ _ _ rfl rfl _ HR2.out ?_)
          go_ret
          exact HF.out
    · obtain rfl : n = i := by omega
      have HF : Hid (idx? R b = none) := idx_none (by rw [← HQ.out.2.1]; exact HX.out)
      go_wp2_with fail
      go_ret
      exact .inl ⟨HF.out, rfl, rfl⟩
end Go.Proofs.YtaaegkjbmomjbaaDoor.Po
