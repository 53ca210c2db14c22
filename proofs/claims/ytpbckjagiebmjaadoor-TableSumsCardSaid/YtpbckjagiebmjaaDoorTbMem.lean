/- A table in memory. By the verifier of shale. -/
import Derived.Test.YtpbckjagiebmjaaDoorTbMap
namespace Go.Proofs.YtpbckjagiebmjaaDoor.Tb
open Go Go.RowKit
set_option linter.unusedVariables false
set_option linter.unusedSimpArgs false
theorem row_set {f : Nat → Int} {P p : Nat} {v : Int} (hp : p < P) : ((List.range P).map f).set p v = (List.range P).map (fun j => if j = p then v else f j) := by
  apply List.ext_getElem?
  intro j
  rw [List.getElem?_set]
  by_cases hj : j < P
  · by_cases e : p = j
    · subst e
      rw [if_pos rfl, if_pos (by simpa using hj)]
      simp [hj]
    · rw [if_neg e]
      simp [hj, Ne.symm e]
  · rw [if_neg (by omega)]
    simp [hj]
theorem row_nth {f : Nat → Int} {P p : Nat} (hp : p < P) : nth64 ((List.range P).map f) p = f p := by
  unfold nth64
  simp [hp]
structure TabAt (w : World) (base tb mb ob B P cO : Nat) (kb : Nat → Nat) (kf : Nat → Nat → Int) (m : Int → Option Sl) (cnt nb : Nat) : Prop where
  blk : w.heap[tb]? = some (.cells #[.map (some mb), .slice (some ⟨ob, 0, none⟩) B cO] 72 (0, 0))
  map : MapAt w mb m cnt nb
  outer : ∀ b, b < B → w.cell? ⟨ob, b, none⟩ = some (.slice (some ⟨kb b, 0, none⟩) P P)
  rows : ∀ b, b < B → Blk64 w (kb b) ((List.range P).map (kf b))
  inj : ∀ a b, a < B → b < B → kb a = kb b → a = b
  apart : base ≤ tb ∧ base ≤ mb ∧ base ≤ ob ∧ mb ≠ tb ∧ ob ≠ tb ∧ ob ≠ mb ∧ ∀ b, b < B → base ≤ kb b ∧ kb b ≠ tb ∧ kb b ≠ mb ∧ kb b ≠ ob
  pos : 0 < B ∧ B ≤ 64 ∧ 0 < P ∧ P ≤ 64 ∧ B ≤ cO ∧ cO ≤ maxLen
  here : ∀ k s, m k = some s → s.k = k ∧ 0 ≤ k ∧ k ≤ 1073741824 ∧ ∃ b p : Nat, s.b = (b : Int) ∧ s.p = (p : Int) ∧ b < B ∧ p < P ∧ kf b p = k
  there : ∀ b p : Nat, b < B → p < P → kf b p ≠ -1 → ∃ s, m (kf b p) = some s ∧ s.b = (b : Int) ∧ s.p = (p : Int)
section
variable {w : World} {base tb mb ob B P cO : Nat} {kb : Nat → Nat} {kf : Nat → Nat → Int} {m : Int → Option Sl} {cnt nb : Nat}
theorem TabAt.cells (h : TabAt w base tb mb ob B P cO kb kf m cnt nb) : w.cell? ⟨tb, 0, none⟩ = some (.map (some mb)) ∧ w.cell? ⟨tb, 1, none⟩ = some (.slice (some ⟨ob, 0, none⟩) B cO) ∧ ∀ i, w.frozen? ⟨tb, i, none⟩ = false := by
  have e := h.blk
  refine ⟨?_, ?_, fun i => ?_⟩
  · unfold World.cell?; simp only; rw [e]; rfl
  · unfold World.cell?; simp only; rw [e]; rfl
  · unfold World.frozen?; simp only; rw [e]; rfl
theorem TabAt.lt (h : TabAt w base tb mb ob B P cO kb kf m cnt nb) : tb < w.heap.size := lt_of_block h.blk
theorem cell_heapT {W X : World} {g i : Nat} (h : W.heap[g]? = X.heap[g]?) : W.cell? ⟨g, i, none⟩ = X.cell? ⟨g, i, none⟩ := by
  unfold World.cell?
  simp only
  rw [h]
theorem TabAt.far {w' : World} (h : TabAt w base tb mb ob B P cO kb kf m cnt nb) (o : ∀ k, base ≤ k → k < w.heap.size → w'.heap[k]? = w.heap[k]?) : TabAt w' base tb mb ob B P cO kb kf m cnt nb := by
  obtain ⟨a1, a2, a3, a4, a5, a6, a7⟩ := h.apart
  exact ⟨(o tb a1 h.lt).trans h.blk, h.map.keep (o mb a2 h.map.lt), fun b hb => (cell_heapT (o ob a3 (World.block_lt_of_cell? w _ (h.outer b hb)))).trans (h.outer b hb), fun b hb => (o (kb b) (a7 b hb).1 (lt_of_block (h.rows b hb))).trans (h.rows b hb), h.inj, h.apart, h.pos, h.here, h.there⟩
theorem TabAt.below {w' : World} (h : TabAt w base tb mb ob B P cO kb kf m cnt nb) (b : Below w.heap.size w w') : TabAt w' base tb mb ob B P cO kb kf m cnt nb := h.far fun k _ hk => b.block k hk
theorem TabAt.wf (h : TabAt w base tb mb ob B P cO kb kf m cnt nb) {b p : Nat} (hb : b < B) (hp : p < P) : kf b p = -1 ∨ (0 ≤ kf b p ∧ kf b p ≤ 1073741824) := by
  by_cases e : kf b p = -1
  · exact .inl e
  · obtain ⟨s, hs, _⟩ := h.there b p hb hp e
    obtain ⟨_, h1, h2, _⟩ := h.here _ s hs
    exact .inr ⟨h1, h2⟩
/-- a page's cell. -/
theorem TabAt.page (h : TabAt w base tb mb ob B P cO kb kf m cnt nb) {b p : Nat} (hb : b < B) (hp : p < P) : w.cell? ⟨kb b, p, none⟩ = some (.int .i64 (kf b p)) ∧ w.frozen? ⟨kb b, p, none⟩ = false := by
  have h1 := (h.rows b hb).cell (i := p) (by simp; exact hp)
  rw [row_nth hp] at h1
  exact ⟨h1, (h.rows b hb).free p⟩
theorem uniq_page (h : TabAt w base tb mb ob B P cO kb kf m cnt nb) {b p b' p' : Nat} (hb : b < B) (hp : p < P) (hb' : b' < B) (hp' : p' < P) (he : kf b p = kf b' p') (hn : kf b p ≠ -1) : b = b' ∧ p = p' := by
  obtain ⟨s, h1, h2, h3⟩ := h.there b p hb hp hn
  obtain ⟨s', h1', h2', h3'⟩ := h.there b' p' hb' hp' (by rw [← he]; exact hn)
  rw [← he, h1] at h1'
  cases h1'
  exact ⟨by omega, by omega⟩
/-- a key's page is taken from it. -/
def kfD (kf : Nat → Nat → Int) (b p : Nat) : Nat → Nat → Int := fun b' p' => if b' = b ∧ p' = p then -1 else kf b' p'
def mD (m : Int → Option Sl) (k : Int) : Int → Option Sl := fun j => if j = k then none else m j
theorem TabAt.dropped {w2 : World} (h : TabAt w base tb mb ob B P cO kb kf m cnt nb) {k : Int} {s : Sl} {b p : Nat} (hs : m k = some s) (hb : s.b = (b : Int)) (hp : s.p = (p : Int)) (hbB : b < B) (hpP : p < P) (hk : kf b p = k)
    (hm : MapAt w2 mb (mD m k) (cnt - 1) nb) (t : Turned (w.setCell ⟨kb b, p, none⟩ (.int .i64 (-1))) w2 mb) :
    TabAt w2 base tb mb ob B P cO kb (kfD kf b p) (mD m k) (cnt - 1) nb ∧ Tn (mb :: (List.range B).map kb) w w2 (mb :: (List.range B).map kb) := by
  obtain ⟨a1, a2, a3, a4, a5, a6, a7⟩ := h.apart
  have o := Only.setCell w ⟨kb b, p, none⟩ (.int .i64 (-1))
  have hkb := a7 b hbB
  obtain ⟨t1, t2, t3, t4, t5⟩ := t
  have keep : ∀ z, z ≠ mb → z ≠ kb b → w2.heap[z]? = w.heap[z]? := fun z z1 z2 => (t5 z z1).trans (o.block z z2)
  refine ⟨⟨(keep tb (Ne.symm a4) (Ne.symm hkb.2.1)).trans h.blk, hm, fun c hc => (cell_heapT (keep ob a6 (Ne.symm hkb.2.2.2))).trans (h.outer c hc), fun c hc => ?_, h.inj, h.apart, h.pos, fun j t hj => ?_, fun c q hc hq hne => ?_⟩, ⟨t1.trans o.os, t2.trans o.tape, t3.trans o.output, by rw [t4, o.size]; exact Nat.le_refl _, fun z _ hz => ?_, fun _ h => .inl h⟩⟩
  · by_cases e : c = b
    · subst e
      have h1 := (h.rows c hbB).set p (-1)
      rw [row_set hpP] at h1
      have h2 : (w2.heap[kb c]?) = _ := (t5 (kb c) hkb.2.2.1).trans h1
      have : (fun j => if j = p then (-1 : Int) else kf c j) = kfD kf c p c := by funext j; unfold kfD; simp
      rw [this] at h2
      exact h2
    · have hne : kb c ≠ kb b := fun e' => e (h.inj c b hc hbB e')
      have h2 : w2.heap[kb c]? = _ := (keep (kb c) (a7 c hc).2.2.1 hne).trans (h.rows c hc)
      have : kfD kf b p c = kf c := by funext j; unfold kfD; simp [e]
      rw [this]
      exact h2
  · unfold mD at hj
    by_cases e : j = k
    · rw [if_pos e] at hj; cases hj
    · rw [if_neg e] at hj
      obtain ⟨h1, h2, h3, c, q, h4, h5, h6, h7, h8⟩ := h.here j t hj
      refine ⟨h1, h2, h3, c, q, h4, h5, h6, h7, ?_⟩
      unfold kfD
      rw [if_neg (fun e' => e (by rw [← h8, e'.1, e'.2, hk]))]
      exact h8
  · unfold kfD at hne ⊢
    by_cases e : c = b ∧ q = p
    · rw [if_pos e] at hne; exact absurd rfl hne
    · rw [if_neg e] at hne ⊢
      obtain ⟨t, h1, h2, h3⟩ := h.there c q hc hq hne
      refine ⟨t, ?_, h2, h3⟩
      unfold mD
      rw [if_neg (fun e' => e (by
        have := uniq_page h hc hq hbB hpP (by rw [e', hk]) hne
        exact this))]
      exact h1
  · rw [List.mem_cons, not_or] at hz
    exact keep z hz.1 fun e => hz.2 (List.mem_map.2 ⟨b, List.mem_range.2 hbB, e.symm⟩)
/-- a free page is given to a key that has none. -/
def kfS (kf : Nat → Nat → Int) (b p : Nat) (k : Int) : Nat → Nat → Int := fun b' p' => if b' = b ∧ p' = p then k else kf b' p'
def mS (m : Int → Option Sl) (k : Int) (s : Sl) : Int → Option Sl := fun j => if j = k then some s else m j
theorem TabAt.stored {w1 : World} (h : TabAt w base tb mb ob B P cO kb kf m cnt nb) {k : Int} {s : Sl} {b p : Nat} (hg : m k = none) (hsk : s.k = k) (h0 : 0 ≤ k) (h1 : k ≤ 1073741824) (hb : s.b = (b : Int)) (hp : s.p = (p : Int)) (hbB : b < B) (hpP : p < P) (hk : kf b p = -1)
    (hm : MapAt w1 mb (mS m k s) (cnt + 1) (nb + 1)) (t : Turned w w1 mb) :
    TabAt (w1.setCell ⟨kb b, p, none⟩ (.int .i64 k)) base tb mb ob B P cO kb (kfS kf b p k) (mS m k s) (cnt + 1) (nb + 1) ∧ Tn (mb :: (List.range B).map kb) w (w1.setCell ⟨kb b, p, none⟩ (.int .i64 k)) (mb :: (List.range B).map kb) := by
  obtain ⟨a1, a2, a3, a4, a5, a6, a7⟩ := h.apart
  have o := Only.setCell w1 ⟨kb b, p, none⟩ (.int .i64 k)
  have hkb := a7 b hbB
  obtain ⟨t1, t2, t3, t4, t5⟩ := t
  have keep : ∀ z, z ≠ mb → z ≠ kb b → (w1.setCell ⟨kb b, p, none⟩ (.int .i64 k)).heap[z]? = w.heap[z]? := fun z z1 z2 => (o.block z z2).trans (t5 z z1)
  refine ⟨⟨(keep tb (Ne.symm a4) (Ne.symm hkb.2.1)).trans h.blk, hm.keep (o.block mb (Ne.symm hkb.2.2.1)), fun c hc => (cell_heapT (keep ob a6 (Ne.symm hkb.2.2.2))).trans (h.outer c hc), fun c hc => ?_, h.inj, h.apart, h.pos, fun j t hj => ?_, fun c q hc hq hne => ?_⟩, ⟨o.os.trans t1, o.tape.trans t2, o.output.trans t3, by rw [o.size, t4]; exact Nat.le_refl _, fun z _ hz => ?_, fun _ h => .inl h⟩⟩
  · by_cases e : c = b
    · subst e
      have hw1 : Blk64 w1 (kb c) ((List.range P).map (kf c)) := (t5 (kb c) hkb.2.2.1).trans (h.rows c hbB)
      have h1 := hw1.set p k
      rw [row_set hpP] at h1
      have : (fun j => if j = p then k else kf c j) = kfS kf c p k c := by funext j; unfold kfS; simp
      rw [this] at h1
      exact h1
    · have hne : kb c ≠ kb b := fun e' => e (h.inj c b hc hbB e')
      have h2 := (keep (kb c) (a7 c hc).2.2.1 hne).trans (h.rows c hc)
      have : kfS kf b p k c = kf c := by funext j; unfold kfS; simp [e]
      rw [this]
      exact h2
  · unfold mS at hj
    by_cases e : j = k
    · rw [if_pos e] at hj
      cases hj
      subst e
      refine ⟨hsk, h0, h1, b, p, hb, hp, hbB, hpP, ?_⟩
      unfold kfS
      rw [if_pos ⟨rfl, rfl⟩]
    · rw [if_neg e] at hj
      obtain ⟨h1', h2, h3, c, q, h4, h5, h6, h7, h8⟩ := h.here j t hj
      refine ⟨h1', h2, h3, c, q, h4, h5, h6, h7, ?_⟩
      unfold kfS
      rw [if_neg (fun e' => by rw [e'.1, e'.2, hk] at h8; omega)]
      exact h8
  · unfold kfS at hne ⊢
    unfold mS
    by_cases e : c = b ∧ q = p
    · rw [if_pos e, if_pos rfl]
      exact ⟨s, rfl, by rw [e.1]; exact hb, by rw [e.2]; exact hp⟩
    · rw [if_neg e] at hne ⊢
      obtain ⟨t, h1, h2, h3⟩ := h.there c q hc hq hne
      rw [if_neg (fun e' => by rw [e', hg] at h1; cases h1)]
      exact ⟨t, h1, h2, h3⟩
  · rw [List.mem_cons, not_or] at hz
    exact keep z hz.1 fun e => hz.2 (List.mem_map.2 ⟨b, List.mem_range.2 hbB, e.symm⟩)
end
end Go.Proofs.YtpbckjagiebmjaaDoor.Tb
