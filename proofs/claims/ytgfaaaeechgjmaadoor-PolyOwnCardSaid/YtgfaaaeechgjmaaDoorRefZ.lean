/- shaleref.SameInts over any two lists of ints. By the verifier of shale. -/
import Derived.Test.YtgfaaaeechgjmaaDoorRefTrim
namespace Go.Proofs.YtgfaaaeechgjmaaDoor.Pl
open Go Go.RowKit Fld Bits16
set_option linter.unusedVariables false
theorem RowZ.drawn {w w' : World} {a : Option Addr} {n cap : Nat} {l : List Int} (h : RowZ w a n cap l) (d : Drawn w w') : RowZ w' a n cap l := h.below (d.below _)
theorem listz_eq {l k : List Int} (hl : l.length = k.length) (h : ∀ i, i < l.length → l.getD i 0 = k.getD i 0) : l = k := by
  apply List.ext_getElem hl
  intro i h1 h2
  have := h i h1
  rw [List.getD_eq_getElem?_getD, List.getD_eq_getElem?_getD, List.getElem?_eq_getElem h1, List.getElem?_eq_getElem h2] at this
  exact this
set_option maxRecDepth 100000 in
set_option maxHeartbeats 1000000 in
theorem sameZ_any (a1 : Option Addr) (n1 c1 : Nat) (l : List Int) (a2 : Option Addr) (n2 c2 : Nat) (k : List Int) (w : World) (h1 : RowZ w a1 n1 c1 l) (h2 : RowZ w a2 n2 c2 k) :
    Calls Tryd.prog 13 #[.slice a1 n1 c1, .slice a2 n2 c2] w fun e w' => e = .returned (.bool (decide (l = k))) ∧ Drawn w w' := by
  have H1 := Lib.hid h1
  have H2 := Lib.hid h2
  have hm : n1 ≤ maxLen := Nat.le_trans h1.hcap h1.hmost
  unfold maxLen at hm
  clear h1 h2
  by_cases hn : n1 = n2
  · subst hn
    go_enter Tryd.func13, Tryd.ntmps13
    go_wp2_with fail
    go_loopg [5] n1 (fun gh s5 wx => ∃ j : Nat, gh = n1 - j ∧ j ≤ n1 ∧ s5 = .int .i64 (j : Int) ∧ Hid (∀ i, i < j → l.getD i 0 = k.getD i 0) ∧ Drawn w wx)
    case atStart => exact ⟨0, rfl, by omega, rfl, fun i hi => by omega, Drawn.refl _⟩
    case round =>
      obtain ⟨j, hg, hk, rfl, HA, hD⟩ := hrel
      have HG := Lib.hid hg
      clear hg
      by_cases hlt : j < n1
      · have x1 : (j : Int) < (n1 : Int) := by omega
        have x0 : (0 : Int) ≤ (j : Int) := by omega
        obtain ⟨bb, off, rfl, d1, _⟩ := (H1.out.drawn hD).row j hlt
        obtain ⟨bb', off', rfl, d2, _⟩ := (H2.out.drawn hD).row j hlt
        by_cases he : l.getD j 0 = k.getD j 0
        · have HA2 : Hid (∀ i, i < j + 1 → l.getD i 0 = k.getD i 0) := fun i hi => by
            by_cases e : i = j
            · rw [e]; exact he
            · exact HA.out i (by omega)
          rw [he] at d1
          generalize k.getD j 0 = q at d1 d2
          clear he HA
          go_wp2_with fail
          go_quiet (fail)
          have hd2 : Drawn w (wr.drewN nq) := hD.trans (Drawn.mk _ _)
          generalize wr.drewN nq = w5 at hd2 ⊢
          go_wp2_with fail
          go_roundg (n1 - (j + 1))
          case measure => have := HG.out; omega
          case rel => exact ⟨j + 1, rfl, by omega, by go_num, HA2.out, hd2⟩
        · have HF : Hid (decide (l = k) = false) := decide_eq_false fun h => he (by rw [h])
          have t1 : (l.getD j 0 == k.getD j 0) = false := by rw [beq_eq_false_iff_ne]; exact he
          generalize l.getD j 0 = q at d1 t1
          generalize k.getD j 0 = r at d2 t1
          clear he HA
          go_wp2_with fail
          go_quiet (fail)
          have hd2 : Drawn w (wr.drewN nq) := hD.trans (Drawn.mk _ _)
          generalize wr.drewN nq = w5 at hd2 ⊢
          go_wp2_with fail
          go_ret
          exact ⟨ret_bool HF.out.symm, hd2⟩
      · obtain rfl : j = n1 := by omega
        have HF : Hid (decide (l = k) = true) := decide_eq_true (listz_eq (by have := H1.out.hlen; have := H2.out.hlen; omega) fun i hi => HA.out i (by have := H1.out.hlen; omega))
        clear HA
        go_wp2_with fail
        go_ret
        exact ⟨ret_bool HF.out.symm, hD⟩
  · have HF : Hid (decide (l = k) = false) := decide_eq_false fun h => hn (by rw [H1.out.hlen, H2.out.hlen, h])
    have t1 : ((n1 : Int) == (n2 : Int)) = false := by rw [beq_eq_false_iff_ne]; omega
    clear hn
    go_enter Tryd.func13, Tryd.ntmps13
    go_wp2_with fail
    go_ret
    exact ⟨ret_bool HF.out.symm, Drawn.refl _⟩
end Go.Proofs.YtgfaaaeechgjmaaDoor.Pl
