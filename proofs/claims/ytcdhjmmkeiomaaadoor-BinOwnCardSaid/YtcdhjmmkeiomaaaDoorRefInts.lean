/- shaleref.SameInts: are two lists of ints the same? By the verifier of shale. -/
import Derived.Test.YtcdhjmmkeiomaaaDoorBinOfBad
namespace Go.Proofs.YtcdhjmmkeiomaaaDoor.Bin
open Go Go.RowKit
set_option linter.unusedVariables false
theorem RowN.drawn {w w' : World} {a : Option Addr} {n : Nat} {es : List Nat} (h : RowN w a n es) (d : Drawn w w') : RowN w' a n es := h.below (d.below _)
theorem lists_eq {l m : List Nat} (hl : l.length = m.length) (h : ∀ i, i < l.length → l.getD i 0 = m.getD i 0) : l = m := by
  apply List.ext_getElem hl
  intro i h1 h2
  have := h i h1
  rw [List.getD_eq_getElem?_getD, List.getD_eq_getElem?_getD, List.getElem?_eq_getElem h1, List.getElem?_eq_getElem h2] at this
  exact this
set_option maxRecDepth 100000 in
set_option maxHeartbeats 1000000 in
theorem sameInts_any (a1 : Option Addr) (n1 c1 : Nat) (l : List Nat) (a2 : Option Addr) (n2 c2 : Nat) (m : List Nat) (w : World) (h1 : RowN w a1 n1 l) (h2 : RowN w a2 n2 m) (k1 : n1 ≤ 100000) :
    Calls Tryd.prog 18 #[.slice a1 n1 c1, .slice a2 n2 c2] w fun e w' => e = .returned (.bool (decide (l = m))) ∧ Drawn w w' := by
  have H1 := Lib.hid h1
  have H2 := Lib.hid h2
  clear h1 h2
  by_cases hn : n1 = n2
  · subst hn
    go_enter Tryd.func18, Tryd.ntmps18
    go_wp2_with fail
    go_loopg [5] n1 (fun gh s5 wx => ∃ k : Nat, gh = n1 - k ∧ k ≤ n1 ∧ s5 = .int .i64 (k : Int) ∧ Hid (∀ i, i < k → l.getD i 0 = m.getD i 0) ∧ Drawn w wx)
    case atStart => exact ⟨0, rfl, by omega, rfl, fun i hi => by omega, Drawn.refl _⟩
    case round =>
      obtain ⟨k, hg, hk, rfl, HA, hD⟩ := hrel
      have HG := Lib.hid hg
      clear hg
      by_cases hlt : k < n1
      · have x1 : (k : Int) < (n1 : Int) := by omega
        have x0 : (0 : Int) ≤ (k : Int) := by omega
        obtain ⟨bb, off, rfl, d1, _⟩ := (H1.out.drawn hD).row k hlt
        obtain ⟨bb', off', rfl, d2, _⟩ := (H2.out.drawn hD).row k hlt
        by_cases he : l.getD k 0 = m.getD k 0
        · have HA2 : Hid (∀ i, i < k + 1 → l.getD i 0 = m.getD i 0) := fun i hi => by
            by_cases e : i = k
            · rw [e]; exact he
            · exact HA.out i (by omega)
          rw [he] at d1
          generalize m.getD k 0 = q at d1 d2
          clear he HA
          go_wp2_with fail
          go_quiet (fail)
          have hd2 : Drawn w (wr.drewN nq) := hD.trans (Drawn.mk _ _)
          generalize wr.drewN nq = w5 at hd2 ⊢
          go_wp2_with fail
          go_roundg (n1 - (k + 1))
          case measure => have := HG.out; omega
          case rel => exact ⟨k + 1, rfl, by omega, by go_num, HA2.out, hd2⟩
        · have HF : Hid (decide (l = m) = false) := decide_eq_false fun h => he (by rw [h])
          have t1 : (((l.getD k 0 : Nat) : Int) == ((m.getD k 0 : Nat) : Int)) = false := by rw [beq_eq_false_iff_ne]; omega
          generalize l.getD k 0 = q at d1 t1
          generalize m.getD k 0 = r at d2 t1
          clear he HA
          go_wp2_with fail
          go_quiet (fail)
          have hd2 : Drawn w (wr.drewN nq) := hD.trans (Drawn.mk _ _)
          generalize wr.drewN nq = w5 at hd2 ⊢
          go_wp2_with fail
          go_ret
          exact ⟨ret_bool HF.out.symm, hd2⟩
      · obtain rfl : k = n1 := by omega
        have HF : Hid (decide (l = m) = true) := decide_eq_true (lists_eq (by have := H1.out.hlen; have := H2.out.hlen; omega) fun i hi => HA.out i (by have := H1.out.hlen; omega))
        clear HA
        go_wp2_with fail
        go_ret
        exact ⟨ret_bool HF.out.symm, hD⟩
  · have HF : Hid (decide (l = m) = false) := decide_eq_false fun h => hn (by rw [H1.out.hlen, H2.out.hlen, h])
    have t1 : ((n1 : Int) == (n2 : Int)) = false := by rw [beq_eq_false_iff_ne]; omega
    clear hn
    go_enter Tryd.func18, Tryd.ntmps18
    go_wp2_with fail
    go_ret
    exact ⟨ret_bool HF.out.symm, Drawn.refl _⟩
end Go.Proofs.YtcdhjmmkeiomaaaDoor.Bin
