/- Two tables side by side. By the verifier of shale. -/
import Derived.Test.YtpbckjagiebmjaaDoorTbGet
import Derived.Test.YtpbckjagiebmjaaDoorTbLen
namespace Go.Proofs.YtpbckjagiebmjaaDoor.Tb
open Go Go.RowKit
set_option linter.unusedVariables false
set_option linter.unusedSimpArgs false
section
variable {w W W' : World} {base lb tb mb ob cO tb2 mb2 ob2 cO2 : Nat} {kb kb2 : Nat → Nat}
theorem tab_low {kf : Nat → Nat → Int} {m : Int → Option Sl} {cnt nb : Nat} (T : TabAt W base tb mb ob 8 8 cO kb kf m cnt nb) (U : Under tb mb ob lb kb) (o : ∀ k, k < lb → W'.heap[k]? = W.heap[k]?) : TabAt W' base tb mb ob 8 8 cO kb kf m cnt nb := by
  obtain ⟨h1, h2, h3, h4⟩ := U
  exact ⟨(o tb h1).trans T.blk, T.map.keep (o mb h3), fun b hb => (cell_heapT (o ob h2)).trans (T.outer b hb), fun b hb => (o (kb b) (h4 b hb)).trans (T.rows b hb), T.inj, T.apart, T.pos, T.here, T.there⟩
/-- the first lies below lb, the second from lb on. -/
structure TwoT (w : World) (base lb tb mb ob cO : Nat) (kb : Nat → Nat) (tb2 mb2 ob2 cO2 : Nat) (kb2 : Nat → Nat) (c1 c2 : Nat) (W : World) : Prop where
  bel : Below base w W
  one : OkT W base tb mb ob cO kb c1
  und : Under tb mb ob lb kb
  two : OkT W lb tb2 mb2 ob2 cO2 kb2 c2
  le : base ≤ lb
theorem TwoT.below {c1 c2 : Nat} (h : TwoT w base lb tb mb ob cO kb tb2 mb2 ob2 cO2 kb2 c1 c2 W) (q : Below W.heap.size W W') : TwoT w base lb tb mb ob cO kb tb2 mb2 ob2 cO2 kb2 c1 c2 W' :=
  ⟨h.bel.trans (q.mono h.one.size), h.one.below q, h.und, h.two.below q, h.le⟩
theorem TwoT.set1 {c1 c2 : Nat} (h : TwoT w base lb tb mb ob cO kb tb2 mb2 ob2 cO2 kb2 c1 c2 W) (hc : c1 < 1000) (key b p m0 m1 m2 m3 m4 m5 : Int) {yo yn : Addr} (EO : ErrAt W 1 yo) (EN : ErrAt W 2 yn) :
    Calls Tryd.prog 10 #[.pointer (some ⟨tb, 0, none⟩), .int .i64 key, .agg #[.int .i64 b, .int .i64 p], .agg #[.int .i64 m0, .int .i64 m1, .int .i64 m2, .int .i64 m3, .int .i64 m4, .int .i64 m5]] W fun e w' => (∃ v, e = .returned v) ∧ TwoT w base lb tb mb ob cO kb tb2 mb2 ob2 cO2 kb2 (c1 + 1) c2 w' := by
  refine (h.one.set hc key b p m0 m1 m2 m3 m4 m5 EO EN).mono ?_
  rintro e w' ⟨hv, ok, t, q⟩
  refine ⟨hv, h.bel.trans q, ok, h.und, h.two.keep fun k hk hks => t.same k hks ?_, h.le⟩
  obtain ⟨u1, u2, u3, u4⟩ := h.und
  exact Under.not (tb := tb) (ob := ob) ⟨by omega, by omega, by omega, fun b hb => by have := u4 b hb; omega⟩
theorem TwoT.set2 {c1 c2 : Nat} (h : TwoT w base lb tb mb ob cO kb tb2 mb2 ob2 cO2 kb2 c1 c2 W) (hc : c2 < 1000) (key b p m0 m1 m2 m3 m4 m5 : Int) {yo yn : Addr} (EO : ErrAt W 1 yo) (EN : ErrAt W 2 yn) :
    Calls Tryd.prog 10 #[.pointer (some ⟨tb2, 0, none⟩), .int .i64 key, .agg #[.int .i64 b, .int .i64 p], .agg #[.int .i64 m0, .int .i64 m1, .int .i64 m2, .int .i64 m3, .int .i64 m4, .int .i64 m5]] W fun e w' => (∃ v, e = .returned v) ∧ TwoT w base lb tb mb ob cO kb tb2 mb2 ob2 cO2 kb2 c1 (c2 + 1) w' := by
  refine (h.two.set hc key b p m0 m1 m2 m3 m4 m5 EO EN).mono ?_
  rintro e w' ⟨hv, ok, t, q⟩
  refine ⟨hv, h.bel.trans (q.mono h.le), ?_, h.und, ok, h.le⟩
  obtain ⟨kf, m, cnt, nb, T, r⟩ := h.one
  exact ⟨kf, m, cnt, nb, tab_low T h.und fun k hk => q.block k hk, r⟩
theorem tot0 : ∀ B, totN (fun _ _ => -1) 8 B = 0
  | 0 => rfl
  | B + 1 => by
    unfold totN
    rw [tot0 B]
    decide
theorem ok_made {w3 : World} {base : Nat} (hb : base ≤ w3.heap.size) (T : TabAt W w3.heap.size tb mb ob 8 8 cO kb (fun _ _ => -1) (fun _ => none) 0 0) : OkT W base tb mb ob cO kb 0 := by
  obtain ⟨a1, a2, a3, a4, a5, a6, a7⟩ := T.apart
  exact ⟨_, _, 0, 0, ⟨T.blk, T.map, T.outer, T.rows, T.inj, ⟨by omega, by omega, by omega, a4, a5, a6, fun b hb => ⟨by have := (a7 b hb).1; omega, (a7 b hb).2⟩⟩, T.pos, T.here, T.there⟩, Nat.le_refl _, Nat.le_refl _, tot0 8⟩
end
/-- whether the other table says the same of the first i slots, being as long. -/
noncomputable def goodN (m' : Int → Option Sl) (b : Bool) (L : List Sl) (i : Nat) : Bool := by
  classical
  exact b && decide (∀ j, j < i → goodS m' (L[j]!))
theorem goodN_zero (m' : Int → Option Sl) (b : Bool) (L : List Sl) : goodN m' b L 0 = b := by unfold goodN; simp
theorem goodN_step {m' : Int → Option Sl} {b : Bool} {L : List Sl} {i : Nat} (h : goodN m' b L i = true) {r : Bool} (hr : r = true ↔ goodS m' (L[i]!)) : goodN m' b L (i + 1) = r := by
  unfold goodN at h ⊢
  simp only [Bool.and_eq_true, decide_eq_true_eq] at h
  rw [Bool.eq_iff_iff, hr]
  simp only [Bool.and_eq_true, decide_eq_true_eq]
  constructor
  · rintro ⟨_, g⟩
    exact g i (Nat.lt_succ_self i)
  · intro g
    refine ⟨h.1, fun j hj => ?_⟩
    by_cases e : j = i
    · rw [e]; exact g
    · exact h.2 j (by omega)
theorem goodN_false {m' : Int → Option Sl} {b : Bool} {L : List Sl} {i n : Nat} (h : goodN m' b L i = false) (hi : i ≤ n) : goodN m' b L n = false := by
  unfold goodN at h ⊢
  cases b with
  | false => rfl
  | true =>
    simp only [Bool.true_and, decide_eq_false_iff_not] at h ⊢
    exact fun g => h fun j hj => g j (by omega)
theorem goodN_eq {m m' : Int → Option Sl} {L M : List Sl} {cnt' : Nat} (h : ListOf m L) (k : ListOf m' M) (hk' : ∀ j s, m' j = some s → s.k = j) (hM : M.length = cnt') : goodN m' (decide (L.length = cnt')) L L.length = eqL L M := by
  rw [Bool.eq_iff_iff, eqL_iff h k hk', hM]
  unfold goodN
  simp only [Bool.and_eq_true, decide_eq_true_eq]
end Go.Proofs.YtpbckjagiebmjaaDoor.Tb
