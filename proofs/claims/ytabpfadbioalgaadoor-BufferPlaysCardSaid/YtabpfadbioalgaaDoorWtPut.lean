/- A buffer's Put, Drop. By the verifier of shale. -/
import Derived.Test.YtabpfadbioalgaaDoorWtLastW
namespace Go.Proofs.YtabpfadbioalgaaDoor.Wt
open Go Go.RowKit Bin
set_option linter.unusedVariables false
set_option linter.unusedSimpArgs false
/-- what last leaves. -/
def LastPost (base bb : Nat) (sz mo sc : Int) (v : Value) (L : List Ent) (e : Ent) (y : Addr) (w : World) (en : Ending) (w' : World) : Prop :=
  (at? L e.key = none ∧ mo ≤ (L.length : Int) ∧ en = .returned (errOf y) ∧ Below w.heap.size w w') ∨
  ((at? L e.key ≠ none ∨ (L.length : Int) < mo) ∧ AppPost base bb sz mo sc v (lastL L e) w en w')
theorem LastPost.since {base bb : Nat} {sz mo sc : Int} {v : Value} {L : List Ent} {e : Ent} {y : Addr} {w w1 : World} {en : Ending} {w' : World} (h : LastPost base bb sz mo sc v L e y w1 en w') (b : Below w.heap.size w w1) : LastPost base bb sz mo sc v L e y w en w' := by
  rcases h with ⟨h1, h2, h3, h4⟩ | ⟨h1, h2, v', h3, h4⟩
  · exact .inl ⟨h1, h2, h3, b.trans (h4.mono b.size)⟩
  · exact .inr ⟨h1, h2, v', h3, (Tn.below b).trans h4⟩
theorem newP_ge {w w' : World} {a : Option Addr} {n c : Nat} {l : List (BitVec 8)} (N : NewP w w' a n c l) : ∀ q, a = some q → w.heap.size ≤ q.block := by
  intro q hq
  rcases N.own with ⟨h, _⟩ | ⟨g, ha, hg, hb⟩
  · rw [h] at hq; cases hq
  · rw [ha] at hq; cases hq; exact hg
theorem LastPost.ok {base bb : Nat} {sz mo sc : Int} {v : Value} {L : List Ent} {e : Ent} {y : Addr} {w : World} {en : Ending} {w' : World} (h : LastPost base bb sz mo sc v L e y w en w') (hc : at? L e.key ≠ none ∨ (L.length : Int) < mo) : AppPost base bb sz mo sc v (lastL L e) w en w' := by
  rcases h with ⟨h1, h2, _⟩ | ⟨_, h⟩
  · rcases hc with hc | hc
    · exact absurd h1 hc
    · omega
  · exact h
theorem LastPost.full {base bb : Nat} {sz mo sc : Int} {v : Value} {L : List Ent} {e : Ent} {y : Addr} {w : World} {en : Ending} {w' : World} (h : LastPost base bb sz mo sc v L e y w en w') (h1 : at? L e.key = none) (h2 : mo ≤ (L.length : Int)) : en = .returned (errOf y) ∧ Below w.heap.size w w' := by
  rcases h with ⟨_, _, h⟩ | ⟨h | h, _⟩
  · exact h
  · exact absurd h1 h
  · omega
theorem newP_ok {w w' : World} {base bb : Nat} {v : Value} {sz mo sc : Int} {L : List Ent} {e : Ent} (B : BufAt w base bb sz mo sc v L) (N : NewP w w' e.a e.n e.c e.l) : EntOK w' base bb v e := by
  refine ⟨N.pol, fun q hq => ?_⟩
  rcases N.own with ⟨h, _⟩ | ⟨g, ha, hg, hb⟩
  · rw [h] at hq; cases hq
  · rw [ha] at hq
    cases hq
    have h1 := B.lt
    have h2 := B.bb0
    refine ⟨by show base ≤ g; omega, hb.lt, by show g ≠ bb; omega, fun e => ?_⟩
    have := (B.row.lt g e.symm).2
    omega
section
variable {w : World} {base bb : Nat} {sz mo sc : Int} {v : Value} {L : List Ent}
set_option maxHeartbeats 1000000 in
theorem put_range (B : BufAt w base bb sz mo sc v L) (key : Int) (h : (decide (0 ≤ key) && decide (key < sc)) = false) (d : Value) {y : Addr} (E : ErrAt w 2 y) :
    Calls Tryd.prog 12 #[.pointer (some ⟨bb, 0, none⟩), .int .i64 key, d] w fun en w' => en = .returned (errOf y) ∧ w = w' := by
  have HI := Lib.hid (is_any B key)
  rw [h] at HI
  have q0 : w.cell? ⟨2, 0, none⟩ = some (errOf y) := E.1
  clear B E h
  go_enter Tryd.func12, Tryd.ntmps12
  go_wp2_with (go_at_call 22; (with_reducible refine HI.out.mono ?_); rintro e' w' ⟨rfl, rfl⟩)
  go_ret
  exact ⟨rfl, rfl⟩
set_option maxHeartbeats 1000000 in
theorem drop_range (B : BufAt w base bb sz mo sc v L) (key : Int) (h : (decide (0 ≤ key) && decide (key < sc)) = false) {y : Addr} (E : ErrAt w 2 y) :
    Calls Tryd.prog 9 #[.pointer (some ⟨bb, 0, none⟩), .int .i64 key] w fun en w' => en = .returned (errOf y) ∧ w = w' := by
  have HI := Lib.hid (is_any B key)
  rw [h] at HI
  have q0 : w.cell? ⟨2, 0, none⟩ = some (errOf y) := E.1
  clear B E h
  go_enter Tryd.func9, Tryd.ntmps9
  go_wp2_with (go_at_call 22; (with_reducible refine HI.out.mono ?_); rintro e' w' ⟨rfl, rfl⟩)
  go_ret
  exact ⟨rfl, rfl⟩
set_option maxHeartbeats 1000000 in
theorem put_size (B : BufAt w base bb sz mo sc v L) (key : Int) (h : (decide (0 ≤ key) && decide (key < sc)) = true) (a : Option Addr) (n c : Nat) (hn : (n : Int) ≠ sz) {y : Addr} (E : ErrAt w 3 y) :
    Calls Tryd.prog 12 #[.pointer (some ⟨bb, 0, none⟩), .int .i64 key, .slice a n c] w fun en w' => en = .returned (errOf y) ∧ w = w' := by
  have HI := Lib.hid (is_any B key)
  rw [h] at HI
  have q0 : w.cell? ⟨3, 0, none⟩ = some (errOf y) := E.1
  have q1 : ((n : Int) == sz) = false := by rw [beq_eq_false_iff_ne]; exact hn
  obtain ⟨k0, k1, k2, k3, _⟩ := B.cells
  clear B E h
  go_enter Tryd.func12, Tryd.ntmps12
  go_wp2_with (go_at_call 22; (with_reducible refine HI.out.mono ?_); rintro e' w' ⟨rfl, rfl⟩)
  go_ret
  exact ⟨rfl, rfl⟩
set_option maxHeartbeats 1000000 in
theorem put_any {n : Nat} (B : BufAt w base bb (n : Int) mo sc v L) (hL : L.length ≤ 1000) (key : Int) (h : (decide (0 ≤ key) && decide (key < sc)) = true) {a : Option Addr} {c : Nat} {l : List (BitVec 8)} (hd : Pol w a n c l) (hn : n ≤ 100000) {y : Addr} (E : ErrAt w 1 y) :
    Calls Tryd.prog 12 #[.pointer (some ⟨bb, 0, none⟩), .int .i64 key, .slice a n c] w fun en w' => ∃ e : Ent, e.key = key ∧ e.trim = false ∧ e.n = n ∧ e.l = l ∧ (∀ q, e.a = some q → w.heap.size ≤ q.block) ∧ LastPost base bb (n : Int) mo sc v L e y w en w' := by
  have HI := Lib.hid (is_any B key)
  rw [h] at HI
  have HC := Lib.hid (clone_any a n c l w hd hn)
  obtain ⟨k0, k1, k2, k3, _⟩ := B.cells
  have HB := Lib.hid (And.intro B (And.intro hL E))
  clear B E h hd hL
  go_enter Tryd.func12, Tryd.ntmps12
  go_wp2_with (go_at_call 22; (with_reducible refine HI.out.mono ?_); rintro e' w' ⟨rfl, rfl⟩)
  refine HC.out.mono ?_
  rintro e' w1 ⟨a1, c1, rfl, N1, b1⟩
  have HL := Lib.hid (last_any (e := ⟨key, false, a1, n, c1, l⟩) (HB.out.1.below b1) (newP_ok (e := ⟨key, false, a1, n, c1, l⟩) HB.out.1 N1) HB.out.2.1 (HB.out.2.2.below b1))
  have HB1 := Lib.hid b1
  have HN1 : Hid (∀ q, a1 = some q → w.heap.size ≤ q.block) := newP_ge N1
  clear N1 b1 HC HI k0 k1 k2 k3
  go_wp2_with fail
  refine HL.out.mono ?_
  rintro e' w2 h2
  have HP : LastPost base bb (n : Int) mo sc v L ⟨key, false, a1, n, c1, l⟩ y w e' w2 := LastPost.since h2 HB1.out
  have hret : e' = .returned (errOf y) ∨ e' = .returned .nilIface := by
    rcases h2 with ⟨_, _, h3, _⟩ | ⟨_, h3, _⟩
    · exact .inl h3
    · exact .inr h3
  have HPP := Lib.hid HP
  clear HP h2 HL
  rcases hret with rfl | rfl
  · go_wp2_with fail
    go_ret
    exact ⟨_, rfl, rfl, rfl, rfl, HN1.out, HPP.out⟩
  · go_wp2_with fail
    go_ret
    exact ⟨_, rfl, rfl, rfl, rfl, HN1.out, HPP.out⟩
set_option maxHeartbeats 1000000 in
theorem drop_any (B : BufAt w base bb sz mo sc v L) (hL : L.length ≤ 1000) (key : Int) (h : (decide (0 ≤ key) && decide (key < sc)) = true) {y : Addr} (E : ErrAt w 1 y) :
    Calls Tryd.prog 9 #[.pointer (some ⟨bb, 0, none⟩), .int .i64 key] w fun en w' => LastPost base bb sz mo sc v L ⟨key, true, none, 0, 0, []⟩ y w en w' := by
  have HI := Lib.hid (is_any B key)
  rw [h] at HI
  have HL := Lib.hid (last_any (e := ⟨key, true, none, 0, 0, []⟩) B ⟨⟨rfl, Nat.le_refl _, Nat.zero_le _, fun _ => rfl, .inl rfl⟩, fun q hq => by cases hq⟩ hL E)
  clear B E h hL
  go_enter Tryd.func9, Tryd.ntmps9
  go_wp2_with (go_at_call 22; (with_reducible refine HI.out.mono ?_); rintro e' w' ⟨rfl, rfl⟩)
  refine HL.out.mono ?_
  rintro e' w2 h2
  have hret : e' = .returned (errOf y) ∨ e' = .returned .nilIface := by
    rcases h2 with ⟨_, _, h3, _⟩ | ⟨_, h3, _⟩
    · exact .inl h3
    · exact .inr h3
  have HP : LastPost base bb sz mo sc v L ⟨key, true, none, 0, 0, []⟩ y w e' w2 := h2
  have HPP := Lib.hid HP
  clear h2 HL HP
  rcases hret with rfl | rfl
  · go_wp2_with fail
    go_ret
    exact HPP.out
  · go_wp2_with fail
    go_ret
    exact HPP.out
end
end Go.Proofs.YtabpfadbioalgaaDoor.Wt
