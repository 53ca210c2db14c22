/- A table that is told anything: how many pages are some key's. By the verifier of shale. -/
import Derived.Test.YtpbckjagiebmjaaDoorTbBad
import Derived.Test.YtpbckjagiebmjaaDoorTbMove
namespace Go.Proofs.YtpbckjagiebmjaaDoor.Tb
open Go Go.RowKit
set_option linter.unusedVariables false
set_option linter.unusedSimpArgs false
theorem liveN_cong {f g : Nat → Int} : ∀ n, (∀ j, j < n → f j = g j) → liveN f n = liveN g n
  | 0, _ => rfl
  | n + 1, h => by rw [liveN_succ, liveN_succ, liveN_cong n fun j hj => h j (by omega), h n (by omega)]
theorem liveN_put {f : Nat → Int} {p : Nat} {v : Int} (hv : v ≠ -1) (hf : f p = -1) : ∀ n, liveN (fun j => if j = p then v else f j) n = liveN f n + if p < n then 1 else 0
  | 0 => by simp [liveN]
  | n + 1 => by
    rw [liveN_succ, liveN_succ, liveN_put hv hf n]
    by_cases e : n = p
    · subst e
      simp [hv, hf]
    · simp only [if_neg e]
      by_cases h1 : p < n
      · rw [if_pos h1, if_pos (show p < n + 1 by omega)]; omega
      · rw [if_neg h1, if_neg (show ¬ p < n + 1 by omega)]; omega
theorem liveN_cut {f : Nat → Int} {p : Nat} (hf : f p ≠ -1) : ∀ n, liveN (fun j => if j = p then -1 else f j) n + (if p < n then 1 else 0) = liveN f n
  | 0 => by simp [liveN]
  | n + 1 => by
    have ih := liveN_cut hf n
    rw [liveN_succ, liveN_succ]
    by_cases e : n = p
    · subst e
      simp [hf] at ih ⊢
      omega
    · simp only [if_neg e]
      by_cases h1 : p < n
      · rw [if_pos h1] at ih; rw [if_pos (show p < n + 1 by omega)]; omega
      · rw [if_neg h1] at ih; rw [if_neg (show ¬ p < n + 1 by omega)]; omega
/-- so many pages of the first B blocks are some key's. -/
def totN (kf : Nat → Nat → Int) (P : Nat) : Nat → Nat
  | 0 => 0
  | B + 1 => totN kf P B + liveN (kf B) P
theorem tot_put {kf : Nat → Nat → Int} {P b p : Nat} {k : Int} (hk : k ≠ -1) (hf : kf b p = -1) (hp : p < P) : ∀ B, totN (kfS kf b p k) P B = totN kf P B + if b < B then 1 else 0
  | 0 => by simp [totN]
  | B + 1 => by
    have ih := tot_put hk hf hp B
    unfold totN
    rw [ih]
    by_cases e : B = b
    · subst e
      have : kfS kf B p k B = fun j => if j = p then k else kf B j := by funext j; simp [kfS]
      rw [this, liveN_put hk hf P, if_pos hp]
      simp
      omega
    · have : kfS kf b p k B = kf B := by funext j; simp [kfS, e]
      rw [this]
      by_cases h1 : b < B
      · rw [if_pos h1, if_pos (show b < B + 1 by omega)]; omega
      · rw [if_neg h1, if_neg (show ¬ b < B + 1 by omega)]; omega
theorem tot_cut {kf : Nat → Nat → Int} {P b p : Nat} (hf : kf b p ≠ -1) (hp : p < P) : ∀ B, totN (kfD kf b p) P B + (if b < B then 1 else 0) = totN kf P B
  | 0 => by simp [totN]
  | B + 1 => by
    have ih := tot_cut hf hp B
    unfold totN
    by_cases e : B = b
    · subst e
      have : kfD kf B p B = fun j => if j = p then -1 else kf B j := by funext j; simp [kfD]
      have h2 := liveN_cut hf P
      rw [if_pos hp] at h2
      rw [this]
      simp at ih ⊢
      omega
    · have : kfD kf b p B = kf B := by funext j; simp [kfD, e]
      rw [this]
      by_cases h1 : b < B
      · rw [if_pos h1] at ih; rw [if_pos (show b < B + 1 by omega)]; omega
      · rw [if_neg h1] at ih; rw [if_neg (show ¬ b < B + 1 by omega)]; omega
/-- a table that was told at most c things. -/
def OkT (W : World) (base tb mb ob cO : Nat) (kb : Nat → Nat) (c : Nat) : Prop := ∃ kf m cnt nb, TabAt W base tb mb ob 8 8 cO kb kf m cnt nb ∧ cnt ≤ c ∧ nb ≤ c ∧ totN kf 8 8 = cnt
section
variable {w W W' : World} {base tb mb ob cO lb : Nat} {kb : Nat → Nat}
theorem OkT.keep {c : Nat} (h : OkT W base tb mb ob cO kb c) (o : ∀ k, base ≤ k → k < W.heap.size → W'.heap[k]? = W.heap[k]?) : OkT W' base tb mb ob cO kb c := by
  obtain ⟨kf, m, cnt, nb, T, r⟩ := h
  exact ⟨kf, m, cnt, nb, T.far o, r⟩
theorem OkT.below {c : Nat} (h : OkT W base tb mb ob cO kb c) (q : Below W.heap.size W W') : OkT W' base tb mb ob cO kb c := h.keep fun k _ hk => q.block k hk
theorem OkT.size {c : Nat} (h : OkT W base tb mb ob cO kb c) : base ≤ W.heap.size := by
  obtain ⟨kf, m, cnt, nb, T, r⟩ := h
  have := T.lt
  have := T.apart.1
  omega
theorem OkT.set {c : Nat} (h : OkT W base tb mb ob cO kb c) (hc : c < 1000) (key b p m0 m1 m2 m3 m4 m5 : Int) {yo yn : Addr} (EO : ErrAt W 1 yo) (EN : ErrAt W 2 yn) :
    Calls Tryd.prog 10 #[.pointer (some ⟨tb, 0, none⟩), .int .i64 key, .agg #[.int .i64 b, .int .i64 p], .agg #[.int .i64 m0, .int .i64 m1, .int .i64 m2, .int .i64 m3, .int .i64 m4, .int .i64 m5]] W fun e w' => (∃ v, e = .returned v) ∧ OkT w' base tb mb ob cO kb (c + 1) ∧ Tn (tbl mb kb) W w' (tbl mb kb) ∧ Below base W w' := by
  have hsz := h.size
  have bad : ∀ (e : Ending) (w' : World) (v : Value), (e = .returned v ∧ Below W.heap.size W w') → (∃ v, e = .returned v) ∧ OkT w' base tb mb ob cO kb (c + 1) ∧ Tn (tbl mb kb) W w' (tbl mb kb) ∧ Below base W w' := by
    rintro e w' v ⟨rfl, q⟩
    obtain ⟨kf, m, cnt, nb, T, h1, h2, h3⟩ := h
    exact ⟨⟨_, rfl⟩, ⟨kf, m, cnt, nb, T.below q, by omega, by omega, h3⟩, Tn.below q, q.mono hsz⟩
  by_cases hk : key < 0 ∨ 1073741824 < key
  · obtain ⟨kf, m, cnt, nb, T, _⟩ := h
    exact (set_badK T hk m0 m1 m2 m3 m4 m5 EN).mono fun e w' h => bad e w' _ h
  have h0 : 0 ≤ key := by omega
  have h1 : key ≤ 1073741824 := by omega
  by_cases hp : 0 ≤ b ∧ b < ((8 : Nat) : Int) ∧ 0 ≤ p ∧ p < ((8 : Nat) : Int)
  · obtain ⟨b', rfl⟩ : ∃ b' : Nat, b = (b' : Int) := ⟨b.toNat, by omega⟩
    obtain ⟨p', rfl⟩ : ∃ p' : Nat, p = (p' : Int) := ⟨p.toNat, by omega⟩
    have hb8 : b' < 8 := by omega
    have hp8 : p' < 8 := by omega
    obtain ⟨kf, m, cnt, nb, T, c1, c2, c3⟩ := h
    by_cases e1 : kf b' p' = -1
    · cases hg : m key with
      | none =>
        refine (set_new T h0 h1 (by unfold maxLen; omega) hb8 hp8 m0 m1 m2 m3 m4 m5 hg e1).mono ?_
        rintro e w' ⟨rfl, S⟩
        refine ⟨⟨_, rfl⟩, ⟨_, _, _, _, S.1, by omega, by omega, ?_⟩, S.2, SetAt.bel T S⟩
        rw [tot_put (by omega) e1 hp8 8, c3, if_pos hb8]
      | some s =>
        obtain ⟨_, _, _, b1, p1, s1, s2, l1, l2, hkk⟩ := T.here key s hg
        refine (set_hadF T h0 h1 (by unfold maxLen; omega) hb8 hp8 m0 m1 m2 m3 m4 m5 hg e1).mono ?_
        rintro e w' ⟨rfl, S⟩
        have hb1 : s.b.toNat = b1 := by omega
        have hp1 : s.p.toNat = p1 := by omega
        rw [hb1, hp1] at S
        have ht := tot_cut (kf := kf) (P := 8) (b := b1) (p := p1) (by rw [hkk]; omega) l2 8
        rw [if_pos l1] at ht
        refine ⟨⟨_, rfl⟩, ⟨_, _, _, _, S.1, by omega, by omega, ?_⟩, S.2, SetAt.bel T S⟩
        rw [tot_put (by omega) (by unfold kfD; split <;> first | rfl | exact e1) hp8 8, if_pos hb8]
        omega
    · by_cases e2 : kf b' p' = key
      · obtain ⟨s, hg, sb, sp⟩ := T.there b' p' hb8 hp8 e1
        rw [e2] at hg
        refine (set_hadO T h0 h1 (by unfold maxLen; omega) hb8 hp8 m0 m1 m2 m3 m4 m5 hg e2).mono ?_
        rintro e w' ⟨rfl, S⟩
        have hb1 : s.b.toNat = b' := by omega
        have hp1 : s.p.toNat = p' := by omega
        rw [hb1, hp1] at S
        have ht := tot_cut (kf := kf) (P := 8) (b := b') (p := p') e1 hp8 8
        rw [if_pos hb8] at ht
        refine ⟨⟨_, rfl⟩, ⟨_, _, _, _, S.1, by omega, by omega, ?_⟩, S.2, SetAt.bel T S⟩
        rw [tot_put (by omega) (by unfold kfD; rw [if_pos ⟨rfl, rfl⟩]) hp8 8, if_pos hb8]
        omega
      · exact (set_ord T h0 h1 hb8 hp8 e1 e2 m0 m1 m2 m3 m4 m5 EO).mono fun e w' h => bad e w' _ h
  · obtain ⟨kf, m, cnt, nb, T, _⟩ := h
    exact (set_badP T h0 h1 hp m0 m1 m2 m3 m4 m5 EN).mono fun e w' h => bad e w' _ h
end
end Go.Proofs.YtpbckjagiebmjaaDoor.Tb
