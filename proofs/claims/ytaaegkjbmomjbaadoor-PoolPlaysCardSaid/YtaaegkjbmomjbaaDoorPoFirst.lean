/- The chapter's examples on a pool. By the verifier of shale. -/
import Derived.Test.YtaaegkjbmomjbaaDoorPoIs
namespace Go.Proofs.YtaaegkjbmomjbaaDoor.Po
open Go Go.RowKit Hp
set_option linter.unusedVariables false
set_option linter.unusedSimpArgs false
theorem qbl_nil (qb : Nat) : qbl qb (.slice none 0 0) = [qb] := rfl
/-- what was new when the pool was made is the pool's alone. -/
theorem tn_below {w w1 w' : World} {B qb : Nat} {v v' : Value} (b : Below B w w1) (hq : ∀ k ∈ qbl qb v, B ≤ k) (hB : B ≤ w1.heap.size) (t : Tn (qbl qb v) w1 w' (qbl qb v')) : Below B w w' ∧ ∀ k ∈ qbl qb v', B ≤ k :=
  ⟨⟨t.os.trans b.os, t.tape.trans b.tape, t.output.trans b.output, Nat.le_trans b.size t.size, fun k hk => (t.same k (by omega) fun hm => by have := hq k hm; omega).trans (b.block k hk)⟩, fun k hk => by
    rcases t.new k hk with h | h
    · exact hq k h
    · omega⟩
/-- the pool, and that all else is as it was. -/
def St (w : World) (B qb : Nat) (v : Value) (M : List It) (W : World) : Prop := PoolIs W B qb v M ∧ Below B w W ∧ (∀ k ∈ qbl qb v, B ≤ k) ∧ B ≤ W.heap.size
theorem St.out {w W W' : World} {B qb : Nat} {v : Value} {M M' : List It} {r : Value} {e : Ending} (S : St w B qb v M W) (h : OutIs W B qb v M' r e W') : ∃ v', e = .returned r ∧ St w B qb v' M' W' ∧ Tn (qbl qb v) W W' (qbl qb v') := by
  obtain ⟨v', rfl, p1, p2⟩ := h
  obtain ⟨h1, h2⟩ := tn_below S.2.1 S.2.2.1 S.2.2.2 p2
  exact ⟨v', rfl, ⟨p1, h1, h2, Nat.le_trans S.2.2.2 p2.size⟩, p2⟩
theorem St.below {w W W' : World} {B qb : Nat} {v : Value} {M : List It} (S : St w B qb v M W) (b : Below W.heap.size W W') : St w B qb v M W' := ⟨S.1.below b, S.2.1.trans (b.mono S.2.2.2), S.2.2.1, Nat.le_trans S.2.2.2 b.size⟩
set_option maxHeartbeats 2000000 in
set_option maxRecDepth 100000 in
theorem first_any (w : World) : Calls Tryd.prog 6 #[] w fun e w' => e = .returned (.bool true) ∧ Below w.heap.size w w' := by
  go_enter Tryd.func6, Tryd.ntmps6
  go_wp2_with fail
  refine (new_is w).mono ?_
  rintro e w0 ⟨rfl, p0, b0⟩
  obtain ⟨B, hB⟩ : ∃ B, B = w.heap.size := ⟨_, rfl⟩
  rw [← hB] at p0 b0
  have HS0 : Hid (St w B B (.slice none 0 0) [] w0) := ⟨p0, b0, by intro k hk; rw [qbl_nil] at hk; simp at hk; omega, by have := b0.size; omega⟩
  obtain ⟨v0, hv0⟩ : ∃ v0, v0 = Value.slice none 0 0 := ⟨_, rfl⟩
  rw [← hv0] at HS0
  rw [← hB]
  have HBB := Lib.hid hB
  clear p0 b0 hB hv0
  have HC1 := Lib.hid (add_is HS0.out.1 (by decide) ⟨3, 5⟩ (by decide) (by decide) (by decide) (by decide) (by simp))
  go_wp2_with fail
  refine HC1.out.mono ?_
  intro e w1 h
  obtain ⟨v1, rfl, s1, _⟩ := HS0.out.out h
  have HS1 := Lib.hid s1
  clear h s1 HC1
  have HC2 := Lib.hid (add_is HS1.out.1 (by decide) ⟨1, 5⟩ (by decide) (by decide) (by decide) (by decide) (by decide))
  go_wp2_with fail
  refine HC2.out.mono ?_
  intro e w2 h
  obtain ⟨v2, rfl, s2, _⟩ := HS1.out.out h
  have HS2 := Lib.hid s2
  clear h s2 HC2
  have HC3 := Lib.hid (add_is HS2.out.1 (by decide) ⟨2, 0⟩ (by decide) (by decide) (by decide) (by decide) (by decide))
  go_wp2_with fail
  refine HC3.out.mono ?_
  intro e w3 h
  obtain ⟨v3, rfl, s3, _⟩ := HS2.out.out h
  have HS3 := Lib.hid s3
  clear h s3 HC3
  have HC4 := Lib.hid (take_is (x := ⟨2, 0⟩) HS3.out.1 (by decide) (by decide) (by decide))
  go_wp2_with fail
  refine HC4.out.mono ?_
  intro e w4 h
  obtain ⟨v4, rfl, s4, _⟩ := HS3.out.out h
  have HS4 := Lib.hid s4
  clear h s4 HC4
  rw [show ([⟨2, 0⟩, ⟨1, 5⟩, ⟨3, 5⟩] : List It).erase ⟨2, 0⟩ = [⟨1, 5⟩, ⟨3, 5⟩] from by decide] at HS4
  have HC5 := Lib.hid (take_is (x := ⟨1, 5⟩) HS4.out.1 (by decide) (by decide) (by decide))
  go_wp2_with fail
  refine HC5.out.mono ?_
  intro e w5 h
  obtain ⟨v5, rfl, s5, _⟩ := HS4.out.out h
  have HS5 := Lib.hid s5
  clear h s5 HC5
  rw [show ([⟨1, 5⟩, ⟨3, 5⟩] : List It).erase ⟨1, 5⟩ = [⟨3, 5⟩] from by decide] at HS5
  have HC6 := Lib.hid (most_is (x := ⟨3, 5⟩) HS5.out.1 (by decide) (by decide) (by decide) (by intro y hy; simp at hy; subst hy; unfold more; omega))
  go_wp2_with fail
  refine HC6.out.mono ?_
  intro e w6 h
  obtain ⟨v6, rfl, s6, _⟩ := HS5.out.out h
  have HS6 := Lib.hid s6
  clear h s6 HC6
  rw [show ([⟨3, 5⟩] : List It).erase ⟨3, 5⟩ = [] from by decide] at HS6
  have HC7 := Lib.hid (take_nil HS6.out.1)
  go_wp2_with fail
  refine HC7.out.mono ?_
  rintro e w7 ⟨rfl, rfl⟩
  clear HC7
  have HF : Hid (Below w.heap.size w w6) := by rw [← HBB.out]; exact HS6.out.2.1
  go_wp2_with fail
  go_ret
  exact ⟨rfl, HF.out⟩
end Go.Proofs.YtaaegkjbmomjbaaDoor.Po
