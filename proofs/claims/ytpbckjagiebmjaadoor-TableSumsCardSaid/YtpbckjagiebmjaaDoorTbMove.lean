/- A table that holds one key: its steps. By the verifier of shale. -/
import Derived.Test.YtpbckjagiebmjaaDoorTbFirst
import Derived.Test.YtpbckjagiebmjaaDoorRowPl
namespace Go.Proofs.YtpbckjagiebmjaaDoor.Tb
open Go Go.RowKit
set_option linter.unusedVariables false
set_option linter.unusedSimpArgs false
theorem and1023 (z : Int) : bits .and .i64 z 1023 = (((z % 1024).toNat : Nat) : Int) := by
  show IntKind.i64.wrap ((BitVec.ofInt 64 z &&& BitVec.ofInt 64 1023).toNat : Int) = _
  rw [BitVec.toNat_and, show (BitVec.ofInt 64 1023).toNat = 2 ^ 10 - 1 by decide, Nat.and_two_pow_sub_one_eq_mod, BitVec.toNat_ofInt]
  rw [show (((z % ((2 ^ 64 : Nat) : Int)).toNat % 2 ^ 10 : Nat) : Int) = ((z % 1024).toNat : Int) by omega]
  exact IntWalk.i64_in _ (by omega)
theorem and7 (z : Int) : bits .and .i64 z 7 = (((z % 8).toNat : Nat) : Int) := by
  show IntKind.i64.wrap ((BitVec.ofInt 64 z &&& BitVec.ofInt 64 7).toNat : Int) = _
  rw [BitVec.toNat_and, show (BitVec.ofInt 64 7).toNat = 2 ^ 3 - 1 by decide, Nat.and_two_pow_sub_one_eq_mod, BitVec.toNat_ofInt]
  rw [show (((z % ((2 ^ 64 : Nat) : Int)).toNat % 2 ^ 3 : Nat) : Int) = ((z % 8).toNat : Int) by omega]
  exact IntWalk.i64_in _ (by omega)
theorem liveN_one {f : Nat → Int} {p : Nat} (hp : f p ≠ -1) (ho : ∀ j, j < 8 → j ≠ p → f j = -1) : ∀ n, n ≤ 8 → liveN f n = if p < n then 1 else 0
  | 0, _ => by simp [liveN]
  | n + 1, h => by
    rw [liveN_succ, liveN_one hp ho n (by omega)]
    by_cases e : n = p
    · subst e
      rw [if_pos hp, if_neg (by omega), if_pos (by omega)]
    · rw [if_neg (show ¬ f n ≠ -1 from fun h' => h' (ho n (by omega) e))]
      by_cases hpn : p < n
      · rw [if_pos hpn, if_pos (by omega)]
      · rw [if_neg hpn, if_neg (by omega)]
def PlB (w : World) (lb : Nat) (b p : Int) : Prop := w.heap[lb]? = some (.cells #[.int .i64 b, .int .i64 p] 24 (0, 0))
/-- the table's own blocks lie below lb. -/
def Under (tb mb ob lb : Nat) (kb : Nat → Nat) : Prop := tb < lb ∧ ob < lb ∧ mb < lb ∧ ∀ b, b < 8 → kb b < lb
theorem Under.not {tb mb ob lb : Nat} {kb : Nat → Nat} (h : Under tb mb ob lb kb) : lb ∉ mb :: (List.range 8).map kb := by
  intro hm
  obtain ⟨_, _, h3, h4⟩ := h
  rcases List.mem_cons.1 hm with e | hm
  · omega
  · obtain ⟨c, hc, e⟩ := List.mem_map.1 hm
    have := h4 c (List.mem_range.1 hc)
    omega
section
variable {w W W' : World} {base tb mb ob cO lb : Nat} {kb : Nat → Nat}
theorem tab_only {kf : Nat → Nat → Int} {m : Int → Option Sl} {cnt nb : Nat} (T : TabAt W base tb mb ob 8 8 cO kb kf m cnt nb) (U : Under tb mb ob lb kb) (o : Only lb W W') : TabAt W' base tb mb ob 8 8 cO kb kf m cnt nb := by
  obtain ⟨h1, h2, h3, h4⟩ := U
  exact ⟨(o.block tb (by omega)).trans T.blk, T.map.keep (o.block mb (by omega)), fun b hb => (cell_heapT (o.block ob (by omega))).trans (T.outer b hb), fun b hb => (o.block (kb b) (by have := h4 b hb; omega)).trans (T.rows b hb), T.inj, T.apart, T.pos, T.here, T.there⟩
/-- the table holds one key K, at the page p of the block b. -/
def One (W : World) (base tb mb ob cO : Nat) (kb : Nat → Nat) (K : Int) (i b p : Nat) : Prop := ∃ kf m s, TabAt W base tb mb ob 8 8 cO kb kf m 1 i ∧ m K = some s ∧ s.b = (b : Int) ∧ s.p = (p : Int) ∧ (∀ j, j ≠ K → m j = none) ∧ b < 8 ∧ p < 8 ∧ kf b p = K ∧ ∀ b' p' : Nat, b' < 8 → p' < 8 → ¬ (b' = b ∧ p' = p) → kf b' p' = -1
theorem one_of {kf : Nat → Nat → Int} {m : Int → Option Sl} {s : Sl} {K : Int} {i b p : Nat} (T : TabAt W base tb mb ob 8 8 cO kb kf m 1 i) (hs : m K = some s) (hb : s.b = (b : Int)) (hp : s.p = (p : Int)) (ho : ∀ j, j ≠ K → m j = none) : One W base tb mb ob cO kb K i b p := by
  obtain ⟨_, _, _, b1, p1, e1, e2, l1, l2, hk⟩ := T.here K s hs
  obtain rfl : b1 = b := by omega
  obtain rfl : p1 = p := by omega
  refine ⟨kf, m, s, T, hs, hb, hp, ho, l1, l2, hk, fun b' p' hb' hp' hn => ?_⟩
  by_cases e : kf b' p' = -1
  · exact e
  · obtain ⟨s', h1, h2, h3⟩ := T.there b' p' hb' hp' e
    by_cases eK : kf b' p' = K
    · rw [eK, hs] at h1
      cases h1
      exact absurd ⟨by omega, by omega⟩ hn
    · rw [ho _ eK] at h1
      cases h1
theorem One.below {K : Int} {i b p : Nat} (h : One W base tb mb ob cO kb K i b p) (q : Below W.heap.size W W') : One W' base tb mb ob cO kb K i b p := by
  obtain ⟨kf, m, s, T, r⟩ := h
  exact ⟨kf, m, s, T.below q, r⟩
theorem One.only {K : Int} {i b p : Nat} (h : One W base tb mb ob cO kb K i b p) (U : Under tb mb ob lb kb) (o : Only lb W W') : One W' base tb mb ob cO kb K i b p := by
  obtain ⟨kf, m, s, T, r⟩ := h
  exact ⟨kf, m, s, tab_only T U o, r⟩
/-- the blocks that a Set may write. -/
abbrev tbl (mb : Nat) (kb : Nat → Nat) : List Nat := mb :: (List.range 8).map kb
/-- what one Set more leaves. -/
def Moved (W : World) (base tb mb ob cO : Nat) (kb : Nat → Nat) (K : Int) (i b p : Nat) (w' : World) : Prop := One w' base tb mb ob cO kb K i b p ∧ Tn (tbl mb kb) W w' (tbl mb kb) ∧ Below base W w'
theorem One.set {K : Int} {i b p : Nat} (h : One W base tb mb ob cO kb K i b p) (h0 : 0 ≤ K) (h1 : K ≤ 1073741824) (hi : i < maxLen) {b' p' : Nat} (hb' : b' < 8) (hp' : p' < 8) (m0 m1 m2 m3 m4 m5 : Int) :
    Calls Tryd.prog 10 #[.pointer (some ⟨tb, 0, none⟩), .int .i64 K, .agg #[.int .i64 (b' : Int), .int .i64 (p' : Int)], .agg #[.int .i64 m0, .int .i64 m1, .int .i64 m2, .int .i64 m3, .int .i64 m4, .int .i64 m5]] W fun e w' => e = .returned (.tuple #[.agg #[.int .i64 (b : Int), .int .i64 (p : Int)], .bool true, .nilIface]) ∧ Moved W base tb mb ob cO kb K (i + 1) b' p' w' := by
  obtain ⟨kf, m, s, T, hs, hb, hp, ho, hb8, hp8, hk, hf⟩ := h
  have fin : ∀ {kf'} (e : Ending) (w' : World), (e = .returned (.tuple #[.agg #[.int .i64 s.b, .int .i64 s.p], .bool true, .nilIface]) ∧ SetAt W base tb mb ob 8 8 cO kb kf' (mS (mD m K) K ⟨K, b', p', m0, m1, m2, m3, m4, m5⟩) ((1 - 1) + 1) (i + 1) w') → e = .returned (.tuple #[.agg #[.int .i64 (b : Int), .int .i64 (p : Int)], .bool true, .nilIface]) ∧ Moved W base tb mb ob cO kb K (i + 1) b' p' w' := by
    rintro kf' e w' ⟨rfl, S⟩
    refine ⟨by rw [hb, hp], one_of (s := ⟨K, b', p', m0, m1, m2, m3, m4, m5⟩) S.1 (by simp [mS]) rfl rfl (fun j hj => by simp [mS, mD, hj, ho]), S.2, SetAt.bel T S⟩
  by_cases e : kf b' p' = -1
  · exact (set_hadF T h0 h1 hi hb' hp' m0 m1 m2 m3 m4 m5 hs e).mono fin
  · have eK : kf b' p' = K := by
      by_cases hbp : b' = b ∧ p' = p
      · rw [hbp.1, hbp.2]; exact hk
      · exact absurd (hf b' p' hb' hp' hbp) e
    exact (set_hadO T h0 h1 hi hb' hp' m0 m1 m2 m3 m4 m5 hs eK).mono fin
theorem none_set {K : Int} (T : TabAt W base tb mb ob 8 8 cO kb (fun _ _ => -1) (fun _ => none) 0 0) (h0 : 0 ≤ K) (h1 : K ≤ 1073741824) {b' p' : Nat} (hb' : b' < 8) (hp' : p' < 8) (m0 m1 m2 m3 m4 m5 : Int) :
    Calls Tryd.prog 10 #[.pointer (some ⟨tb, 0, none⟩), .int .i64 K, .agg #[.int .i64 (b' : Int), .int .i64 (p' : Int)], .agg #[.int .i64 m0, .int .i64 m1, .int .i64 m2, .int .i64 m3, .int .i64 m4, .int .i64 m5]] W fun e w' => e = .returned (.tuple #[.agg #[.int .i64 0, .int .i64 0], .bool false, .nilIface]) ∧ Moved W base tb mb ob cO kb K 1 b' p' w' := by
  refine (set_new T h0 h1 (by simp [maxLen]) hb' hp' m0 m1 m2 m3 m4 m5 rfl rfl).mono ?_
  rintro e w' ⟨rfl, S⟩
  exact ⟨rfl, one_of (s := ⟨K, b', p', m0, m1, m2, m3, m4, m5⟩) S.1 (by simp [mS]) rfl rfl (fun j hj => by simp [mS, hj]), S.2, SetAt.bel T S⟩
theorem One.at_ {K : Int} {i b p : Nat} (h : One W base tb mb ob cO kb K i b p) (h0 : 0 ≤ K) : Calls Tryd.prog 15 #[.pointer (some ⟨tb, 0, none⟩), .agg #[.int .i64 (b : Int), .int .i64 (p : Int)]] W fun e w' => e = .returned (.tuple #[.int .i64 K, .bool true]) ∧ Below W.heap.size W w' := by
  obtain ⟨kf, m, s, T, hs, hb, hp, ho, hb8, hp8, hk, hf⟩ := h
  have := at_yes T hb8 hp8 (by rw [hk]; omega)
  rwa [hk] at this
theorem One.len {K : Int} {i b p : Nat} (h : One W base tb mb ob cO kb K i b p) : Calls Tryd.prog 18 #[.pointer (some ⟨tb, 0, none⟩)] W fun e w' => e = .returned (.int .i64 1) ∧ W = w' := by
  obtain ⟨kf, m, s, T, r⟩ := h
  exact len_any T
theorem One.live {K : Int} {i b p : Nat} (h : One W base tb mb ob cO kb K i b p) (h0 : 0 ≤ K) : Calls Tryd.prog 19 #[.pointer (some ⟨tb, 0, none⟩), .int .i64 (b : Int)] W fun e w' => e = .returned (.int .i64 1) ∧ W = w' := by
  obtain ⟨kf, m, s, T, hs, hb, hp, ho, hb8, hp8, hk, hf⟩ := h
  have := live_any T hb8
  rw [liveN_one (p := p) (by rw [hk]; omega) (fun j hj hjp => hf b j hb8 hj fun h => hjp h.2) 8 (by omega), if_pos hp8] at this
  exact this
theorem One.other {K : Int} {i b p : Nat} (h : One W base tb mb ob cO kb K i b p) (h0 : 0 ≤ K) {O : Int} (hO : K < O) (hO1 : O ≤ 1073741824) (m0 m1 m2 m3 m4 m5 : Int) {y : Addr} (E : ErrAt W 1 y) :
    Calls Tryd.prog 10 #[.pointer (some ⟨tb, 0, none⟩), .int .i64 O, .agg #[.int .i64 (b : Int), .int .i64 (p : Int)], .agg #[.int .i64 m0, .int .i64 m1, .int .i64 m2, .int .i64 m3, .int .i64 m4, .int .i64 m5]] W fun e w' => e = .returned (.tuple #[.agg #[.int .i64 0, .int .i64 0], .bool false, errOf y]) ∧ Below W.heap.size W w' := by
  obtain ⟨kf, m, s, T, hs, hb, hp, ho, hb8, hp8, hk, hf⟩ := h
  exact set_ord T (by omega) hO1 hb8 hp8 (by rw [hk]; omega) (by rw [hk]; omega) m0 m1 m2 m3 m4 m5 E
/-- the table holds two keys, K at the page p of the block b. -/
def Two (W : World) (base tb mb ob cO : Nat) (kb : Nat → Nat) (K : Int) (b p : Nat) : Prop := ∃ kf m s nb, TabAt W base tb mb ob 8 8 cO kb kf m 2 nb ∧ m K = some s ∧ s.b = (b : Int) ∧ s.p = (p : Int) ∧ b < 8 ∧ p < 8 ∧ kf b p = K ∧ 0 ≤ K ∧ K ≤ 1073741824
theorem Two.below {K : Int} {b p : Nat} (h : Two W base tb mb ob cO kb K b p) (q : Below W.heap.size W W') : Two W' base tb mb ob cO kb K b p := by
  obtain ⟨kf, m, s, nb, T, r⟩ := h
  exact ⟨kf, m, s, nb, T.below q, r⟩
theorem One.more {K : Int} {i b p b' p' : Nat} (h : One W base tb mb ob cO kb K i b p) (h0 : 0 ≤ K) (hi : i < maxLen) {O : Int} (hO : K < O) (hO1 : O ≤ 1073741824) (hb' : b' < 8) (hp' : p' < 8) (hn : b' ≠ b) (m0 m1 m2 m3 m4 m5 : Int) :
    Calls Tryd.prog 10 #[.pointer (some ⟨tb, 0, none⟩), .int .i64 O, .agg #[.int .i64 (b' : Int), .int .i64 (p' : Int)], .agg #[.int .i64 m0, .int .i64 m1, .int .i64 m2, .int .i64 m3, .int .i64 m4, .int .i64 m5]] W fun e w' => e = .returned (.tuple #[.agg #[.int .i64 0, .int .i64 0], .bool false, .nilIface]) ∧ Two w' base tb mb ob cO kb K b p ∧ Below base W w' := by
  obtain ⟨kf, m, s, T, hs, hb, hp, ho, hb8, hp8, hk, hf⟩ := h
  refine (set_new T (by omega) hO1 hi hb' hp' m0 m1 m2 m3 m4 m5 (ho O (by omega)) (hf b' p' hb' hp' fun h => hn h.1)).mono ?_
  rintro e w' ⟨rfl, S⟩
  refine ⟨rfl, ⟨_, _, s, _, S.1, by simp only [mS]; rw [if_neg (by omega)]; exact hs, hb, hp, hb8, hp8, by simp only [kfS]; rw [if_neg (fun h => hn h.1.symm)]; exact hk, h0, by omega⟩, SetAt.bel T S⟩
theorem Two.len {K : Int} {b p : Nat} (h : Two W base tb mb ob cO kb K b p) : Calls Tryd.prog 18 #[.pointer (some ⟨tb, 0, none⟩)] W fun e w' => e = .returned (.int .i64 2) ∧ W = w' := by
  obtain ⟨kf, m, s, nb, T, r⟩ := h
  exact len_any T
/-- what is left when K is gone. -/
def Gone (W : World) (base tb mb ob cO : Nat) (kb : Nat → Nat) (K : Int) : Prop := ∃ kf m nb, TabAt W base tb mb ob 8 8 cO kb kf m 1 nb ∧ m K = none ∧ (Lit.int .i64 K).wf = true
theorem Two.drop {K : Int} {b p : Nat} (h : Two W base tb mb ob cO kb K b p) : Calls Tryd.prog 8 #[.pointer (some ⟨tb, 0, none⟩), .int .i64 K] W fun e w' => e = .returned (.bool true) ∧ Gone w' base tb mb ob cO kb K ∧ Below base W w' := by
  obtain ⟨kf, m, s, nb, T, hs, hb, hp, hb8, hp8, hk, k0, k1⟩ := h
  refine (drop_yes T (wf_key k0 k1) hs hb hp hb8 hp8 hk).mono ?_
  rintro e w' ⟨rfl, S⟩
  exact ⟨rfl, ⟨_, _, _, S.1, by simp [mD], wf_key k0 k1⟩, SetAt.bel T S⟩
theorem Gone.len {K : Int} (h : Gone W base tb mb ob cO kb K) : Calls Tryd.prog 18 #[.pointer (some ⟨tb, 0, none⟩)] W fun e w' => e = .returned (.int .i64 1) ∧ W = w' := by
  obtain ⟨kf, m, nb, T, r⟩ := h
  exact len_any T
theorem Gone.drop {K : Int} (h : Gone W base tb mb ob cO kb K) : Calls Tryd.prog 8 #[.pointer (some ⟨tb, 0, none⟩), .int .i64 K] W fun e w' => e = .returned (.bool false) ∧ Below W.heap.size W w' := by
  obtain ⟨kf, m, nb, T, hg, wf⟩ := h
  exact drop_no T wf hg
end
end Go.Proofs.YtpbckjagiebmjaaDoor.Tb
