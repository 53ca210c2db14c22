/- Lists of rows, held against one another by the document; two models side by side. By the verifier of shale. -/
import Derived.Test.YtbngkmlipmhgdaaDoorMoSetl
import Derived.BigQuiet
namespace Go.Proofs.YtbngkmlipmhgdaaDoor.Mo
open Go Go.RowKit Bin
set_option linter.unusedVariables false
set_option linter.unusedSimpArgs false
set_option maxHeartbeats 2000000 in
theorem sameLists_any {w : World} {a1 a2 : Option Addr} {n1 n2 c1 c2 : Nat} {M1 M2 : Nat → Bs} (h1 : LstAt w a1 n1 M1) (h2 : LstAt w a2 n2 M2) (hn1 : n1 ≤ 1048576) (hn2 : n2 ≤ maxLen) :
    Calls Tryd.prog 16 #[.slice a1 n1 c1, .slice a2 n2 c2] w fun e w' => e = .returned (.bool (decide (n1 = n2 ∧ eqN M1 M2 n1))) ∧ Below w.heap.size w w' := by
  unfold maxLen at hn2
  by_cases hl : n1 = n2
  · subst hl
    have t : ((n1 : Int) == (n1 : Int)) = true := by simp
    have HH := Lib.hid (And.intro h1 h2)
    have HB0 : Hid (Below w.heap.size w w ∧ eqN M1 M2 0) := ⟨Below.refl _ _, fun j hj => absurd hj (Nat.not_lt_zero _)⟩
    clear h1 h2 hn2
    go_enter Tryd.func16, Tryd.ntmps16
    go_wp2_with fail
    go_loopg [5] n1 (fun gh s5 wx => ∃ i : Nat, gh = n1 - i ∧ i ≤ n1 ∧ s5 = .int .i64 (i : Int) ∧ Hid (Below w.heap.size w wx ∧ eqN M1 M2 i))
    case atStart => exact ⟨0, rfl, Nat.zero_le _, rfl, HB0⟩
    case round =>
      clear HB0
      obtain ⟨i, hg, hin, rfl, HJ⟩ := hrel
      have HI := Lib.hid hg
      clear hg
      by_cases hlt : i < n1
      · have x1 : (i : Int) < (n1 : Int) := by omega
        have x0 : (0 : Int) ≤ (i : Int) := by omega
        have x2 : (i : Int) ≤ 1048576 := by omega
        obtain ⟨g1, o1, s1, rfl, hg1, d1, e1⟩ := HH.out.1 i hlt
        obtain ⟨g2, o2, s2, rfl, hg2, d2, e2⟩ := HH.out.2 i hlt
        replace d1 := (HJ.out.1.cell (p := ⟨g1, o1 + i, none⟩) hg1).trans d1
        replace d2 := (HJ.out.1.cell (p := ⟨g2, o2 + i, none⟩) hg2).trans d2
        have HE : Hid (∀ nn, Calls Tryd.prog 14 #[sdV s1, sdV s2] (wr.drewN nn) fun e w' => e = .returned (.bool (decide (M1 i = M2 i))) ∧ wr.drewN nn = w') := fun nn =>
          same_any (M1 i) (M2 i) _ _ _ (Dat.str (s := s1) ((e1.below HJ.out.1).below ((Drawn.mk wr nn).below _))) (Dat.str (s := s2) ((e2.below HJ.out.1).below ((Drawn.mk wr nn).below _)))
        have HL := Lib.hid hlt
        by_cases he : M1 i = M2 i
        · rw [decide_eq_true he] at HE
          have HN : Hid (eqN M1 M2 (i + 1)) := fun j hj => by
            by_cases hji : j = i
            · rw [hji]; exact he
            · exact HJ.out.2 j (by omega)
          clear he hlt hin e1 e2 hg1 hg2
          go_wp2_with fail
          go_quiet (first | (go_at_call 14; exact quiet_same (HE.out _)) | fail)
          have HNx := Lib.hid (And.intro (HJ.out.1.trans (((Drawn.mk wr nq).below wr.heap.size).mono HJ.out.1.size)) HN.out)
          generalize wr.drewN nq = w7 at HNx ⊢
          clear HE d1 d2 HJ HN
          go_wp2_with fail
          go_roundg (n1 - (i + 1))
          case measure => have := HI.out; have := HL.out; omega
          case rel => exact ⟨i + 1, rfl, HL.out, by go_num, HNx⟩
        · rw [decide_eq_false he] at HE
          have HN : Hid (decide (n1 = n1 ∧ eqN M1 M2 n1) = false) := decide_eq_false fun h => he (h.2 i hlt)
          clear he hlt hin e1 e2 hg1 hg2
          go_wp2_with fail
          go_quiet (first | (go_at_call 14; exact quiet_same (HE.out _)) | fail)
          have HNx := Lib.hid (HJ.out.1.trans (((Drawn.mk wr nq).below wr.heap.size).mono HJ.out.1.size))
          generalize wr.drewN nq = w7 at HNx ⊢
          clear HE d1 d2 HJ
          go_wp2_with fail
          go_ret
          rw [HN.out]
          exact ⟨rfl, HNx.out⟩
      · obtain rfl : i = n1 := by omega
        have x1 : ¬ (i : Int) < (i : Int) := by omega
        have HN : Hid (decide (eqN M1 M2 i) = true) := decide_eq_true HJ.out.2
        have HB := Lib.hid HJ.out.1
        clear HJ hin hlt
        go_wp2_with fail
        go_ret
        rw [HN.out]
        exact ⟨rfl, HB.out⟩
  · have t : ((n1 : Int) == (n2 : Int)) = false := by rw [beq_eq_false_iff_ne]; omega
    have t' : ¬ ((n1 : Int) = (n2 : Int)) := by omega
    have t2 : (n1 == n2) = false := by rw [beq_eq_false_iff_ne]; exact hl
    have HN : Hid (decide (n1 = n2 ∧ eqN M1 M2 n1) = false) := decide_eq_false fun h => hl h.1
    clear hl h1 h2
    go_enter Tryd.func16, Tryd.ntmps16
    go_wp2_with fail
    go_ret
    rw [HN.out]
    exact ⟨rfl, Below.refl _ _⟩
/-- two models of the call's own, apart from one another. -/
structure Two (w wx : World) (m1 m2 n sz : Nat) (T1 T2 : Nat → Bs) (L1 L2 : List (Nat × Bs)) (b1 d1 b2 d2 : List Nat) (c1 c2 : Nat) : Prop where
  b : Below w.heap.size w wx
  x : MoAt wx m1 n sz T1 L1 b1 d1 c1
  y : MoAt wx m2 n sz T2 L2 b2 d2 c2
  g1 : ∀ k ∈ b1, w.heap.size ≤ k
  g2 : ∀ k ∈ b2, w.heap.size ≤ k
  s1 : ∀ k ∈ b1, k ∉ b2 ∧ k ∉ d2
  s2 : ∀ k ∈ b2, k ∉ b1 ∧ k ∉ d1
section
variable {w wx wy : World} {m1 m2 n sz : Nat} {T1 T2 T' : Nat → Bs} {L1 L2 L' : List (Nat × Bs)} {b1 d1 b2 d2 b' d' : List Nat} {c1 c2 c' : Nat}
theorem Two.below (h : Two w wx m1 m2 n sz T1 T2 L1 L2 b1 d1 b2 d2 c1 c2) (b : Below wx.heap.size wx wy) : Two w wy m1 m2 n sz T1 T2 L1 L2 b1 d1 b2 d2 c1 c2 :=
  ⟨h.b.trans (b.mono h.b.size), h.x.below b, h.y.below b, h.g1, h.g2, h.s1, h.s2⟩
theorem Two.flip (h : Two w wx m1 m2 n sz T1 T2 L1 L2 b1 d1 b2 d2 c1 c2) : Two w wx m2 m1 n sz T2 T1 L2 L1 b2 d2 b1 d1 c2 c1 := ⟨h.b, h.y, h.x, h.g2, h.g1, h.s2, h.s1⟩
theorem Two.turn (h : Two w wx m1 m2 n sz T1 T2 L1 L2 b1 d1 b2 d2 c1 c2) (m : MoAt wy m1 n sz T' L' b' d' c') (t : Tn b1 wx wy b') (hd : ∀ k ∈ d', k ∈ d1 ∨ wx.heap.size ≤ k) : Two w wy m1 m2 n sz T' T2 L' L2 b' d' b2 d2 c' c2 := by
  have hlt := h.y.lt
  have hs := h.b.size
  refine ⟨h.b.trans ⟨t.os, t.tape, t.output, t.size, fun k hk => t.same k (by omega) fun hm => ?_⟩, m, h.y.tn t fun k hk hm => ?_, fun k hk => ?_, h.g2, fun k hk => ?_, fun k hk => ⟨fun hm => ?_, fun hm => ?_⟩⟩
  · have := h.g1 k hm; omega
  · rcases hk with hk | hk
    · exact (h.s1 k hm).1 hk
    · exact (h.s1 k hm).2 hk
  · rcases t.new k hk with hm | hm
    · exact h.g1 k hm
    · omega
  · rcases t.new k hk with hm | hm
    · exact h.s1 k hm
    · exact ⟨fun h2 => by have := hlt k (.inl h2); omega, fun h2 => by have := hlt k (.inr h2); omega⟩
  · rcases t.new k hm with hm | hm
    · exact (h.s2 k hk).1 hm
    · have := hlt k (.inl hk); omega
  · rcases hd k hm with hm | hm
    · exact (h.s2 k hk).2 hm
    · have := hlt k (.inl hk); omega
end
end Go.Proofs.YtbngkmlipmhgdaaDoor.Mo
