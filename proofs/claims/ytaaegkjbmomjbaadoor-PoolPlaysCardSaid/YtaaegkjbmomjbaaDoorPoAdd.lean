/- A pool's New, Add, Remove, Least, Take. By the verifier of shale. -/
import Derived.Test.YtaaegkjbmomjbaaDoorPoFind
namespace Go.Proofs.YtaaegkjbmomjbaaDoor.Po
open Go Go.RowKit Hp
set_option linter.unusedVariables false
set_option linter.unusedSimpArgs false
abbrev PoolAt (w : World) (base qb : Nat) (v : Value) (L : List It) : Prop := Heaped w base qb 56 v L
theorem new_any (w : World) : Calls Tryd.prog 7 #[] w fun e w' => e = .returned (.pointer (some ⟨w.heap.size, 0, none⟩)) ∧ PoolAt w' w.heap.size w.heap.size (.slice none 0 0) [] ∧ Below w.heap.size w w' := by
  have HF : Hid (PoolAt (w.alloc (.cells #[.slice none 0 0] 56 (0, 0))) w.heap.size w.heap.size (.slice none 0 0) [] ∧ Below w.heap.size w (w.alloc (.cells #[.slice none 0 0] 56 (0, 0)))) :=
    ⟨⟨⟨Nat.le_refl _, heap_alloc_new w _, World.ownsRow_nil _ _ _ _, by simp [Value.ownBlock]⟩, fun c h0 hc => absurd hc (by simp)⟩, (Below.refl _ _).alloc (Nat.le_refl _) _⟩
  go_enter Tryd.func7, Tryd.ntmps7
  go_wp2_with fail
  go_ret
  exact ⟨rfl, HF.out⟩
def AddPost (w : World) (base qb : Nat) (v : Value) (L : List It) (x : It) (e : Ending) (w' : World) : Prop := ∃ v' m, e = .returned .nilIface ∧ PoolAt w' base qb v' m ∧ List.Perm m (L ++ [x]) ∧ Tn (qbl qb v) w w' (qbl qb v')
section
variable {w : World} {base qb : Nat} {v : Value} {L : List It}
set_option maxHeartbeats 1000000 in
theorem add_yes (Q : PoolAt w base qb v L) (hL : L.length ≤ 1000) (x : It) (h0 : 0 ≤ x.b) (h1 : x.b < 64) (h2 : 0 ≤ x.w) (h3 : x.w ≤ 1073741824) (hno : idx? L x.b = none) :
    Calls Tryd.prog 9 #[.pointer (some ⟨qb, 0, none⟩), .int .i64 x.b, .int .i64 x.w] w (AddPost w base qb v L x) := by
  have HH := Lib.hid (has_any Q.q hL x.b)
  rw [hno] at HH
  have HQ := Lib.hid (And.intro Q hL)
  have d0 : decide (x.b < 0) = false := decide_eq_false (by omega)
  have d1 : decide (64 ≤ x.b) = false := decide_eq_false (by omega)
  have d2 : decide (x.w < 0) = false := decide_eq_false (by omega)
  have d3 : decide (1073741824 < x.w) = false := decide_eq_false (by omega)
  clear Q hL hno h0 h1 h2 h3
  go_enter Tryd.func9, Tryd.ntmps9
  go_wp2_with fail
  refine HH.out.mono ?_
  rintro e w1 ⟨rfl, b1⟩
  have HQ1 := Lib.hid (HQ.out.1.below b1)
  have HP := Lib.hid (hpush_any HQ1.out HQ.out.2 x)
  have HB := Lib.hid b1
  have HTN : Hid (Tn (qbl qb v) w w1 (qbl qb v)) := Tn.below b1
  clear b1 HH
  go_wp2_with fail
  refine HP.out.mono ?_
  rintro e w2 ⟨v', m, rfl, p1, p2, p3⟩
  have HF : Hid (AddPost w base qb v L x (.returned .nilIface) w2) := ⟨v', m, rfl, p1, p2, HTN.out.trans p3⟩
  clear p1 p2 p3 HP
  go_wp2_with fail
  go_ret
  exact HF.out
set_option maxHeartbeats 1000000 in
theorem add_has (Q : PoolAt w base qb v L) (hL : L.length ≤ 1000) (b u : Int) (h0 : 0 ≤ b) (h1 : b < 64) (h2 : 0 ≤ u) (h3 : u ≤ 1073741824) (hno : (idx? L b).isSome = true) {y : Addr} (E : ErrAt w 1 y) :
    Calls Tryd.prog 9 #[.pointer (some ⟨qb, 0, none⟩), .int .i64 b, .int .i64 u] w fun e w' => e = .returned (errOf y) ∧ Below w.heap.size w w' := by
  have HH := Lib.hid (has_any Q.q hL b)
  rw [hno] at HH
  have HE := Lib.hid E
  have d0 : decide (b < 0) = false := decide_eq_false (by omega)
  have d1 : decide (64 ≤ b) = false := decide_eq_false (by omega)
  have d2 : decide (u < 0) = false := decide_eq_false (by omega)
  have d3 : decide (1073741824 < u) = false := decide_eq_false (by omega)
  clear Q hL hno h0 h1 h2 h3 E
  go_enter Tryd.func9, Tryd.ntmps9
  go_wp2_with fail
  refine HH.out.mono ?_
  rintro e w1 ⟨rfl, b1⟩
  have q0 : w1.cell? ⟨1, 0, none⟩ = some (errOf y) := (HE.out.below b1).1
  have HB := Lib.hid b1
  clear b1 HH
  go_wp2_with fail
  go_ret
  exact ⟨rfl, HB.out⟩
set_option maxHeartbeats 1000000 in
theorem add_bad (b u : Int) (h : ¬ (0 ≤ b ∧ b < 64 ∧ 0 ≤ u ∧ u ≤ 1073741824)) (a : Value) {y : Addr} (E : ErrAt w 0 y) :
    Calls Tryd.prog 9 #[a, .int .i64 b, .int .i64 u] w fun e w' => e = .returned (errOf y) ∧ Below w.heap.size w w' := by
  have q0 : w.cell? ⟨0, 0, none⟩ = some (errOf y) := E.1
  have HB : Hid (Below w.heap.size w w) := Below.refl _ _
  have go : ∀ d0 d1 d2 d3 : Bool, decide (b < 0) = d0 → decide (64 ≤ b) = d1 → decide (u < 0) = d2 → decide (1073741824 < u) = d3 → (d0 || d1 || d2 || d3) = true → Calls Tryd.prog 9 #[a, .int .i64 b, .int .i64 u] w fun e w' => e = .returned (errOf y) ∧ Below w.heap.size w w' := by
    intro d0 d1 d2 d3 e0 e1 e2 e3 hh
    clear h E
    cases d0
    · cases d1
      · cases d2
        · cases d3
          · exact absurd hh (by decide)
          · clear hh
            go_enter Tryd.func9, Tryd.ntmps9
            go_wp2_with fail
            go_ret
            exact ⟨rfl, HB.out⟩
        · clear hh
          go_enter Tryd.func9, Tryd.ntmps9
          go_wp2_with fail
          go_ret
          exact ⟨rfl, HB.out⟩
      · clear hh
        go_enter Tryd.func9, Tryd.ntmps9
        go_wp2_with fail
        go_ret
        exact ⟨rfl, HB.out⟩
    · clear hh
      go_enter Tryd.func9, Tryd.ntmps9
      go_wp2_with fail
      go_ret
      exact ⟨rfl, HB.out⟩
  refine go _ _ _ _ rfl rfl rfl rfl ?_
  rw [Bool.eq_iff_iff]
  simp only [Bool.or_eq_true, decide_eq_true_eq, iff_true]
  omega
/-- behind a block that was taken out. -/
def OutPost (w : World) (base qb : Nat) (v : Value) (L : List It) (x : It) (r : Value) (e : Ending) (w' : World) : Prop := ∃ v' m, e = .returned r ∧ PoolAt w' base qb v' m ∧ List.Perm (x :: m) L ∧ Tn (qbl qb v) w w' (qbl qb v')
theorem PoolAt.hp (Q : PoolAt w base qb v L) (hne : 0 < L.length) : ∃ g c, v = .slice (some ⟨g, 0, none⟩) L.length c ∧ HpAt w base qb 56 g L.length c L := by
  obtain ⟨a, c, rfl, _, _, h1, h2⟩ := row_sliceP Q.q.row
  cases a with
  | none => exact absurd rfl (h2 hne)
  | some a =>
    obtain ⟨g, rfl, _⟩ := h1 a rfl
    exact ⟨g, c, rfl, Q.q, rfl⟩
set_option maxHeartbeats 1000000 in
theorem remove_yes (Q : PoolAt w base qb v L) (hL : L.length ≤ 1000) {b : Int} {i : Nat} (hi : idx? L b = some i) :
    Calls Tryd.prog 11 #[.pointer (some ⟨qb, 0, none⟩), .int .i64 b] w (OutPost w base qb v L (L[i]!) (.bool true)) := by
  have hlt := (idx_lt hi).1
  obtain ⟨g, c, rfl, H⟩ := Q.hp (by omega)
  have HF := Lib.hid (find_any Q.q hL b)
  rw [show idxI L b = (i : Int) from by unfold idxI; rw [hi]] at HF
  obtain ⟨n, hn⟩ : ∃ n, L.length = n + 1 := ⟨L.length - 1, by omega⟩
  obtain ⟨x, hx⟩ : ∃ x, x = L[i]! := ⟨_, rfl⟩
  rw [← hx]
  have HQ := Lib.hid (And.intro H (And.intro Q.h (And.intro hn (And.intro hL (And.intro hlt hx)))))
  have x0 : (0 : Int) ≤ (i : Int) := by omega
  clear Q hL hi hlt H hn hx
  go_enter Tryd.func11, Tryd.ntmps11
  go_wp2_with fail
  refine HF.out.mono ?_
  rintro e w1 ⟨rfl, b1⟩
  have HR := Lib.hid (hrem_any (HQ.out.1.below b1) HQ.out.2.1 HQ.out.2.2.1 HQ.out.2.2.2.1 HQ.out.2.2.2.2.1)
  have HB := Lib.hid b1
  clear b1 HF
  go_wp2_with fail
  refine HR.out.mono ?_
  rintro e w2 ⟨m, rfl, p1, p2, p3⟩
  have HF : Hid (OutPost w base qb (.slice (some ⟨g, 0, none⟩) L.length c) L x (.bool true) (.returned (.bool true)) w2) := ⟨_, m, rfl, p1, by rw [HQ.out.2.2.2.2.2]; exact p2, (Tn.below HB.out).trans p3⟩
  clear p1 p2 p3 HR
  go_wp2_with fail
  go_ret
  exact HF.out
set_option maxHeartbeats 1000000 in
theorem remove_no (Q : PoolAt w base qb v L) (hL : L.length ≤ 1000) {b : Int} (hi : idx? L b = none) :
    Calls Tryd.prog 11 #[.pointer (some ⟨qb, 0, none⟩), .int .i64 b] w fun e w' => e = .returned (.bool false) ∧ Below w.heap.size w w' := by
  have HF := Lib.hid (find_any Q.q hL b)
  rw [show idxI L b = -1 from by unfold idxI; rw [hi]] at HF
  clear Q hL hi
  go_enter Tryd.func11, Tryd.ntmps11
  go_wp2_with fail
  refine HF.out.mono ?_
  rintro e w1 ⟨rfl, b1⟩
  have HB := Lib.hid b1
  clear b1 HF
  go_wp2_with fail
  go_ret
  exact ⟨rfl, HB.out⟩
set_option maxHeartbeats 1000000 in
theorem least_some {x : It} (Q : PoolAt w base qb v L) (hne : 0 < L.length) (hx : L[0]! = x) :
    Calls Tryd.prog 17 #[.pointer (some ⟨qb, 0, none⟩)] w fun e w' => e = .returned (.tuple #[.int .i64 x.b, .int .i64 x.w, .bool true]) ∧ Drawn w w' := by
  obtain ⟨g, c, rfl, H⟩ := Q.hp hne
  have k0 := H.cell
  obtain ⟨c0, c1⟩ := H.item hne
  rw [hx] at c0 c1
  rw [Nat.zero_mul] at c0 c1
  have HW : Hid (∀ k, Drawn w (w.drewN k)) := fun k => Drawn.mk w k
  have d1 : ((L.length : Int) == 0) = false := by rw [beq_eq_false_iff_ne]; omega
  have d2 : ¬ (L.length = 0) := by omega
  have d3 : 0 < L.length := hne
  generalize L.length = n at k0 d1 d2 d3
  clear Q hne hx H
  go_enter Tryd.func17, Tryd.ntmps17
  go_wp2_with fail
  go_quiet (fail)
  go_wp2_with fail
  go_ret3
  exact ⟨rfl, HW.out _⟩
theorem least_none (Q : PoolAt w base qb v []) :
    Calls Tryd.prog 17 #[.pointer (some ⟨qb, 0, none⟩)] w fun e w' => e = .returned (.tuple #[.int .i64 0, .int .i64 0, .bool false]) ∧ w = w' := by
  obtain ⟨a, c, rfl, _⟩ := row_sliceP Q.q.row
  have k0 := Q.q.cell.1
  clear Q
  go_enter Tryd.func17, Tryd.ntmps17
  go_wp2_with fail
  go_ret3
  exact ⟨rfl, rfl⟩
set_option maxHeartbeats 1000000 in
theorem take_some {x : It} (Q : PoolAt w base qb v L) (hL : L.length ≤ 1000) (hne : 0 < L.length) (hx : L[0]! = x) :
    Calls Tryd.prog 13 #[.pointer (some ⟨qb, 0, none⟩)] w (OutPost w base qb v L x (.tuple #[.int .i64 x.b, .bool true])) := by
  have HL := Lib.hid (least_some Q hne hx)
  obtain ⟨g, c, rfl, H⟩ := Q.hp hne
  obtain ⟨n, hn⟩ : ∃ n, L.length = n + 1 := ⟨L.length - 1, by omega⟩
  have HQ := Lib.hid (And.intro H (And.intro Q.h (And.intro hn (And.intro hL hx))))
  clear Q hL hne hx H hn
  go_enter Tryd.func13, Tryd.ntmps13
  go_wp2_with fail
  refine HL.out.mono ?_
  rintro e w1 ⟨rfl, d1⟩
  have HR := Lib.hid (hpop_any (HQ.out.1.drawn d1) HQ.out.2.1 HQ.out.2.2.1 HQ.out.2.2.2.1)
  have HB := Lib.hid (d1.below w.heap.size)
  clear d1 HL
  go_wp2_with fail
  refine HR.out.mono ?_
  rintro e w2 ⟨m, rfl, p1, p2, p3⟩
  have HF : Hid (OutPost w base qb (.slice (some ⟨g, 0, none⟩) L.length c) L x (.tuple #[.int .i64 x.b, .bool true]) (.returned (.tuple #[.int .i64 x.b, .bool true])) w2) := ⟨_, m, rfl, p1, by rw [← HQ.out.2.2.2.2]; exact p2, (Tn.below HB.out).trans p3⟩
  clear p1 p2 p3 HR
  go_wp2_with fail
  go_ret2
  exact HF.out
theorem take_none (Q : PoolAt w base qb v []) :
    Calls Tryd.prog 13 #[.pointer (some ⟨qb, 0, none⟩)] w fun e w' => e = .returned (.tuple #[.int .i64 0, .bool false]) ∧ w = w' := by
  have HL := Lib.hid (least_none Q)
  clear Q
  go_enter Tryd.func13, Tryd.ntmps13
  go_wp2_with fail
  refine HL.out.mono ?_
  rintro e w1 ⟨rfl, rfl⟩
  go_wp2_with fail
  go_ret2
  exact ⟨rfl, rfl⟩
end
end Go.Proofs.YtaaegkjbmomjbaaDoor.Po
