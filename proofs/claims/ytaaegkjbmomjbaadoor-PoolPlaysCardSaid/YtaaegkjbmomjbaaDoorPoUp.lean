/- Package heap's up over a queue. By the verifier of shale. -/
import Derived.Test.YtaaegkjbmomjbaaDoorPoDown
namespace Go.Proofs.YtaaegkjbmomjbaaDoor.Po
open Go Go.RowKit Hp
set_option linter.unusedVariables false
set_option linter.unusedSimpArgs false
def UpPost (w : World) (base qb : Nat) (ty : TypeId) (g N c : Nat) (L : List It) (n : Nat) (e : Ending) (w' : World) : Prop := ∃ m, e = .returned (.tuple #[]) ∧ UpEnd L n m ∧ HpAt w' base qb ty g N c m ∧ Only g w w'
def UpI (w : World) (base qb : Nat) (ty : TypeId) (g N c : Nat) (L : List It) (n : Nat) (m : List It) (j : Nat) (wx : World) : Prop := Up L n m j ∧ HpAt wx base qb ty g N c m ∧ Only g w wx
set_option maxHeartbeats 1000000 in
theorem up_any {w : World} {base qb : Nat} {ty : TypeId} {g N c : Nat} {L : List It} (H : HpAt w base qb ty g N c L) {n j0 : Nat} (hn : n ≤ N) (hN : N ≤ 1000000) (hU : Up L n L j0) :
    Calls Tryd.prog 36 #[.iface 62 (.pointer (some ⟨qb, 0, none⟩)), .int .i64 (j0 : Int)] w (UpPost w base qb ty g N c L n) := by
  have HS : Hid (UpI w base qb ty g N c L n L j0 w) := ⟨hU, H, Only.refl _ _⟩
  have HN := Lib.hid (And.intro hn hN)
  clear H hU hn hN
  go_enter Tryd.func36, Tryd.ntmps36
  go_wp2_with fail
  go_loopg [1] j0 (fun gh s1 wx => ∃ (j : Nat) (m : List It), gh = j ∧ s1 = .int .i64 (j : Int) ∧ Hid (UpI w base qb ty g N c L n m j wx))
  case atStart => exact ⟨j0, L, rfl, rfl, HS⟩
  case round =>
    clear HS
    obtain ⟨j, m, hg, rfl, HX⟩ := hrel
    have HG := Lib.hid hg
    have hjn := HX.out.1.lt
    have hnn := HN.out
    have b0 : (0 : Int) ≤ (j : Int) := by omega
    have b1 : (j : Int) ≤ 1000000 := by omega
    have HJ := Lib.hid hjn
    clear hg hjn hnn
    by_cases h0 : j = 0
    · subst h0
      have hF : UpPost w base qb ty g N c L n (.returned (.tuple #[])) wr := ⟨m, rfl, HX.out.1.stop (fun h => absurd h (by omega)), HX.out.2⟩
      have HF := Lib.hid hF
      clear hF
      go_wp2_with fail
      go_end0
      exact HF.out
    · obtain ⟨i, hi⟩ : ∃ i, i = (j - 1) / 2 := ⟨_, rfl⟩
      have e1 : ((j : Int) - 1).tdiv 2 = (i : Int) := by rw [Int.tdiv_eq_ediv_of_nonneg (by omega)]; omega
      have e3 : ((j : Int) - 1) / 2 = (i : Int) := by omega
      have b2 : (0 : Int) ≤ (j : Int) - 1 := by omega
      have HI := Lib.hid (And.intro hi h0)
      have d1 : ((i : Int) == (j : Int)) = false := by rw [beq_eq_false_iff_ne]; omega
      have d2 : (i == j) = false := by rw [beq_eq_false_iff_ne]; omega
      have d3 : ¬ (i = j) := by omega
      clear hi h0
      have HL2 := Lib.hid (qless HX.out.2.1 (i := j) (j := i) (by have := HN.out; have := HJ.out; omega) (by have := HN.out; have := HJ.out; have := HI.out; omega))
      have hm := mLess HX.out.2.1.cell
      cases hb : Lt.lt (m[j]!) (m[i]!)
      · rw [hb] at HL2
        have HB := Lib.hid hb
        clear hb
        go_wp2_with fail
        refine HL2.out.mono ?_
        rintro e' w' ⟨rfl, hq, ho⟩
        have HF : Hid (UpPost w base qb ty g N c L n (.returned (.tuple #[])) w') := ⟨m, rfl, HX.out.1.stop (fun _ => by unfold ok; rw [← HI.out.1]; exact HB.out), hq, HX.out.2.2.trans ho⟩
        clear hq ho hm HL2
        go_wp2_with fail
        go_end0
        exact HF.out
      · rw [hb] at HL2
        have HB := Lib.hid hb
        clear hb
        go_wp2_with fail
        refine HL2.out.mono ?_
        rintro e' w' ⟨rfl, hq, ho⟩
        have HX2 := Lib.hid (And.intro hq (HX.out.2.2.trans ho))
        have HS := Lib.hid (qswap hq (i := i) (j := j) (by have := HN.out; have := HJ.out; have := HI.out; omega) (by have := HN.out; have := HJ.out; omega))
        clear hm HL2
        have hm := mSwap hq.cell
        clear hq ho
        go_wp2_with fail
        refine HS.out.mono ?_
        rintro e' w' ⟨rfl, hq, ho⟩
        have HN2 : Hid (UpI w base qb ty g N c L n (swapL m i j) i w') := by
          have hs := HX.out.1.step (by have := HI.out; omega) (by rw [← HI.out.1]; exact HB.out)
          rw [← HI.out.1] at hs
          exact ⟨hs, hq, HX2.out.2.trans ho⟩
        clear hm hq ho HS
        go_wp2_with fail
        go_roundg i
        case measure => have := HG.out; have := HI.out; omega
        case rel => exact ⟨i, _, rfl, rfl, HN2⟩
end Go.Proofs.YtaaegkjbmomjbaaDoor.Po
