/- What a pool is told, at both pools. By the verifier of shale. -/
import Derived.Test.YtaaegkjbmomjbaaDoorPoPlay
import Derived.Test.YtaaegkjbmomjbaaDoorSee
namespace Go.Proofs.YtaaegkjbmomjbaaDoor.Po
open Go Go.RowKit Hp
set_option linter.unusedVariables false
set_option linter.unusedSimpArgs false
/-- both hold the same. -/
def PP (w : World) (B xb xp : Nat) (W : World) : Prop := ∃ v a c M R, PC w B B xb xp v M a c R W ∧ PM M R
section
variable {w : World} {B xb xp c : Nat} {v : Value} {M R : List It} {a : Option Addr} {f : Nat → Addr} {S : World → Prop}
theorem PP.of {W : World} (P : PC w B B xb xp v M a c R W) (h : PM M R) : PP w B xb xp W := ⟨v, a, c, M, R, P, h⟩
theorem PP.below {W W' : World} (P : PP w B xb xp W) (b : Below W.heap.size W W') : PP w B xb xp W' := by
  obtain ⟨v, a, c, M, R, P, h⟩ := P
  exact ⟨v, a, c, M, R, P.below b, h⟩
theorem trip_add (hS : ∀ W, PP w B xb xp W → S W) (hS1 : ∀ W v M a c R, PC w B B xb xp v M a c R W → S W) (hE : ∀ W, Below B w W → AllErrs W f) (h : PM M R) (b u : Int) :
    ∃ (V : Value) (k : Int) (Z2 : World → Prop),
      (∀ W, PC w B B xb xp v M a c R W → Calls Tryd.prog 9 #[.pointer (some ⟨B, 0, none⟩), .int .i64 b, .int .i64 u] W fun e W' => e = .returned V ∧ S W' ∧ Z2 W') ∧
      (∀ W, Z2 W → Calls Tryd.prog 10 #[.pointer (some ⟨xb, 0, none⟩), .int .i64 b, .int .i64 u] W fun e W' => e = .returned (.int .i64 k) ∧ S W' ∧ PP w B xb xp W') ∧
      (∀ W, PP w B xb xp W → Calls Tryd.prog 8 #[V, .int .i64 k] W fun e W' => e = .returned (.bool true) ∧ S W' ∧ PP w B xb xp W') := by
  have hL := h.small
  have hR := h.smallR
  by_cases hr : 0 ≤ b ∧ b < 64 ∧ 0 ≤ u ∧ u ≤ 1073741824
  · obtain ⟨h0, h1, h2, h3⟩ := hr
    cases hi : idx? R b with
    | none =>
      refine ⟨.nilIface, 0, fun W => ∃ v', PC w B B xb xp v' (⟨b, u⟩ :: M) a c R W, fun W P => ?_, fun W ⟨v', P⟩ => ?_, fun W P => ?_⟩
      · refine (add_is P.s.1 (by omega) ⟨b, u⟩ h0 h1 h2 h3 (h.none hi)).mono ?_
        intro e W' ho
        obtain ⟨v', rfl, P'⟩ := P.prog ho
        exact ⟨rfl, hS1 _ _ _ _ _ _ P', v', P'⟩
      · refine (radd_yes P.r P.nil (by omega) ⟨b, u⟩ h0 h1 h2 h3 hi).mono ?_
        rintro e W' ⟨k, hk, ho⟩
        obtain ⟨a', c', rfl, P'⟩ := P.ref ho
        have hp := PP.of P' (h.add (x := ⟨b, u⟩) ⟨h0, h1, h2, h3⟩ (h.none hi) hk)
        exact ⟨rfl, hS _ hp, hp⟩
      · refine (see_nil W).mono ?_
        rintro e W' ⟨rfl, b⟩
        exact ⟨rfl, hS _ (P.below b), P.below b⟩
    | some i =>
      refine ⟨errOf (f 9), 110, fun W => PC w B B xb xp v M a c R W, fun W P => ?_, fun W P => ?_, fun W P => ?_⟩
      · obtain ⟨L, Q, hp⟩ := P.s.1
        refine (add_has Q (by rw [hp.length_eq]; omega) b u h0 h1 h2 h3 (by rw [idx_isSome hp, h.any, hi]; rfl) (hE W P.s.2.1).1.2.2.2.2.2.2.2.2.2.1).mono ?_
        rintro e W' ⟨rfl, bb⟩
        exact ⟨rfl, hS1 _ _ _ _ _ _ (P.below bb), P.below bb⟩
      · refine (radd_has P.r (by omega) b u h0 h1 h2 h3 (by rw [hi]; rfl)).mono ?_
        rintro e W' ⟨rfl, rfl⟩
        exact ⟨rfl, hS1 _ _ _ _ _ _ P, PP.of P h⟩
      · refine (see_err W f (hE W (by obtain ⟨_, _, _, _, _, P, _⟩ := P; exact P.s.2.1)) 9 (by decide) 110 (by decide)).mono ?_
        rintro e W' ⟨rfl, b⟩
        exact ⟨rfl, hS _ (P.below b), P.below b⟩
  · refine ⟨errOf (f 1), 102, fun W => PC w B B xb xp v M a c R W, fun W P => ?_, fun W P => ?_, fun W P => ?_⟩
    · refine (add_bad b u hr _ (hE W P.s.2.1).1.2.1).mono ?_
      rintro e W' ⟨rfl, bb⟩
      exact ⟨rfl, hS1 _ _ _ _ _ _ (P.below bb), P.below bb⟩
    · refine (radd_bad b u hr _ W).mono ?_
      rintro e W' ⟨rfl, rfl⟩
      exact ⟨rfl, hS1 _ _ _ _ _ _ P, PP.of P h⟩
    · refine (see_err W f (hE W (by obtain ⟨_, _, _, _, _, P, _⟩ := P; exact P.s.2.1)) 1 (by decide) 102 (by decide)).mono ?_
      rintro e W' ⟨rfl, b⟩
      exact ⟨rfl, hS _ (P.below b), P.below b⟩
theorem trip_rem (hS : ∀ W, PP w B xb xp W → S W) (hS1 : ∀ W v M a c R, PC w B B xb xp v M a c R W → S W) (h : PM M R) (b : Int) :
    ∃ (r : Bool) (Z2 : World → Prop),
      (∀ W, PC w B B xb xp v M a c R W → Calls Tryd.prog 11 #[.pointer (some ⟨B, 0, none⟩), .int .i64 b] W fun e W' => e = .returned (.bool r) ∧ S W' ∧ Z2 W') ∧
      (∀ W, Z2 W → Calls Tryd.prog 12 #[.pointer (some ⟨xb, 0, none⟩), .int .i64 b] W fun e W' => e = .returned (.bool r) ∧ S W' ∧ PP w B xb xp W') := by
  have hL := h.small
  have hR := h.smallR
  cases hi : idx? R b with
  | none =>
    refine ⟨false, fun W => PC w B B xb xp v M a c R W, fun W P => ?_, fun W P => ?_⟩
    · refine (remove_not P.s.1 (by omega) (h.none hi)).mono ?_
      rintro e W' ⟨rfl, bb⟩
      exact ⟨rfl, hS1 _ _ _ _ _ _ (P.below bb), P.below bb⟩
    · refine (rremove_any P.r (by omega) b).mono ?_
      rintro e W' (⟨_, rfl, rfl⟩ | ⟨i, hi2, _⟩)
      · exact ⟨rfl, hS1 _ _ _ _ _ _ P, PP.of P h⟩
      · rw [hi] at hi2; cases hi2
  | some i =>
    obtain ⟨hlt, hb⟩ := idx_lt hi
    obtain ⟨hm, hPM⟩ := h.erase hlt
    obtain ⟨x, hx⟩ : ∃ x, x = R[i]! := ⟨_, rfl⟩
    rw [← hx] at hb hm hPM
    refine ⟨true, fun W => ∃ v', PC w B B xb xp v' (M.erase x) a c R W, fun W P => ?_, fun W ⟨v', P⟩ => ?_⟩
    · have hc := remove_is P.s.1 (by omega) h.nd hm
      rw [hb] at hc
      refine hc.mono ?_
      intro e W' ho
      obtain ⟨v', rfl, P'⟩ := P.prog ho
      exact ⟨rfl, hS1 _ _ _ _ _ _ P', v', P'⟩
    · refine (rremove_any P.r (by omega) b).mono ?_
      rintro e W' (⟨hi2, _⟩ | ⟨j, hi2, ho⟩)
      · rw [hi] at hi2; cases hi2
      · rw [hi] at hi2
        cases hi2
        obtain ⟨a', c', rfl, P'⟩ := P.ref ho
        have hp := PP.of P' hPM
        exact ⟨rfl, hS _ hp, hp⟩
theorem trip_take (h : PM M R) :
    ∃ (n : Int) (r : Bool) (Z2 : World → Prop),
      (∀ W, PC w B B xb xp v M a c R W → Calls Tryd.prog 13 #[.pointer (some ⟨B, 0, none⟩)] W fun e W' => e = .returned (.tuple #[.int .i64 n, .bool r]) ∧ W'.cell? ⟨xp, 0, none⟩ = some (.pointer (some ⟨xb, 0, none⟩)) ∧ Z2 W') ∧
      (∀ W, Z2 W → Calls Tryd.prog 14 #[.pointer (some ⟨xb, 0, none⟩)] W fun e W' => e = .returned (.tuple #[.int .i64 n, .bool r]) ∧ PP w B xb xp W') := by
  have hL := h.small
  have hR := h.smallR
  cases R with
  | nil =>
    cases h.empty
    refine ⟨0, false, fun W => PC w B B xb xp v [] a c [] W, fun W P => ?_, fun W P => ?_⟩
    · refine (take_nil P.s.1).mono ?_
      rintro e W' ⟨rfl, rfl⟩
      exact ⟨rfl, P.ptr.1, P⟩
    · refine (rtake_none P.r).mono ?_
      rintro e W' ⟨rfl, rfl⟩
      exact ⟨rfl, PP.of P h⟩
  | cons x R =>
    obtain ⟨hx, hmin, hPM⟩ := h.tail
    rw [List.length_cons] at hR
    refine ⟨x.b, true, fun W => ∃ v', PC w B B xb xp v' (M.erase x) a c (x :: R) W, fun W P => ?_, fun W ⟨v', P⟩ => ?_⟩
    · refine (take_is P.s.1 (by omega) hx hmin).mono ?_
      intro e W' ho
      obtain ⟨v', rfl, P'⟩ := P.prog ho
      exact ⟨rfl, P'.ptr.1, v', P'⟩
    · refine (rtake_some P.r (by omega)).mono ?_
      intro e W' ho
      obtain ⟨a', c', rfl, P'⟩ := P.ref ho
      exact ⟨rfl, PP.of P' hPM⟩
theorem top_same {x y : It} (h : PM M R) (hx : x ∈ M) (hy : y ∈ M) (h1 : ¬ more y x) (h2 : ¬ more x y) : x = y := by
  unfold more at h1 h2
  obtain ⟨xb, xw⟩ := x
  obtain ⟨yb, yw⟩ := y
  simp only at h1 h2
  have e1 : xw = yw := by omega
  have e2 : xb = yb := by omega
  rw [e1, e2]
/-- the most worn, at both. -/
theorem trip_most (h : PM M R) (hne : R ≠ []) (W : World) (P : PC w B B xb xp v M a c R W) :
    Calls Tryd.prog 15 #[.pointer (some ⟨B, 0, none⟩)] W fun e W' => ∃ x v', e = .returned (.tuple #[.int .i64 x.b, .bool true]) ∧ PC w B B xb xp v' (M.erase x) a c R W' ∧
      Calls Tryd.prog 16 #[.pointer (some ⟨xb, 0, none⟩)] W' fun e W2 => ∃ k, e = .returned (.int .i64 (k : Nat)) ∧ k < R.length ∧ R[k]! = x ∧ PC w B B xb xp v' (M.erase x) a c R W2 ∧
        Calls Tryd.prog 12 #[.pointer (some ⟨xb, 0, none⟩), .int .i64 x.b] W2 fun e W3 => e = .returned (.bool true) ∧ PP w B xb xp W3 := by
  have hL := h.small
  have hR := h.smallR
  refine (most_some_is P.s.1 (by omega) h.nd (fun e => hne (by subst e; exact h.empty'))).mono ?_
  rintro e W' ⟨x, hx, htop, ho⟩
  obtain ⟨v', rfl, P'⟩ := P.prog ho
  refine ⟨x, v', rfl, P', (rmost_any P'.r (by omega)).mono ?_⟩
  rintro e W2 ⟨l, hl, rfl, b⟩
  cases l with
  | none =>
    exact absurd (List.length_eq_zero_iff.1 hl) hne
  | some k =>
    obtain ⟨hk, hm, htop2⟩ := h.top hl
    have e := top_same h hx hm (htop _ hm) (htop2 _ hx)
    have P2 := P'.below b
    refine ⟨k, rfl, hk, e.symm, P2, (rremove_any P2.r (by omega) x.b).mono ?_⟩
    have hat := h.at hk
    rw [← e] at hat
    have hPM := (h.erase hk).2
    rw [← e] at hPM
    rintro e W3 (⟨hi2, _⟩ | ⟨j, hi2, ho⟩)
    · rw [hat] at hi2; cases hi2
    · rw [hat] at hi2
      cases hi2
      obtain ⟨a', c', rfl, P3⟩ := P2.ref ho
      exact ⟨rfl, PP.of P3 hPM⟩
end
end Go.Proofs.YtaaegkjbmomjbaaDoor.Po
