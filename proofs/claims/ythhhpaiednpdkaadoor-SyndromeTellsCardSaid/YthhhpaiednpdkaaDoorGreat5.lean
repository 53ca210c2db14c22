/- Texts of the verifier of shale, laid into one: SynTurn. -/
import Derived.Test.YthhhpaiednpdkaaDoorGreat1
import Derived.Test.YthhhpaiednpdkaaDoorGreat2
import Derived.Test.YthhhpaiednpdkaaDoorGreat3
import Derived.Test.YthhhpaiednpdkaaDoorGreat4
import Derived.Maps.RangeWalk
/- Words with some places turned: for the walk over SyndromeTells. By the verifier of shale. -/
namespace Go.Proofs.YthhhpaiednpdkaaDoor.Syn
open Go Go.RowKit Bin Cos Enc Bits16
set_option linter.unusedVariables false
theorem bf_put {w : World} {g N : Nat} {p : Nat → Bool} (h : BF w g N p) (k : Nat) (b : Bool) : BF (w.setCell ⟨g, k, none⟩ (.bool b)) g N (fun i => if i = k then b else p i) := by
  unfold BF
  rw [heap_setCell_same w g k _ _ _ h]
  congr 2
  apply Array.ext
  · simp
  · intro i h1 h2
    simp at h1 h2
    by_cases e : i = k
    · subst e; simp
    · simp [e, Ne.symm e]
theorem flip_bit (v k q : Nat) : (if q = k then !v.testBit k else v.testBit q) = (v ^^^ 2 ^ k).testBit q := by
  rw [Nat.testBit_xor, Nat.testBit_two_pow]
  by_cases h : q = k
  · subst h; simp
  · have : decide (k = q) = false := decide_eq_false fun e => h e.symm
    rw [this, if_neg h, Bool.xor_false]
theorem xs_snoc (l : List Nat) (k : Nat) : xs (l ++ [k]) = xs l ^^^ 2 ^ k := by unfold xs; rw [List.foldl_append]; rfl
/-- a block apart from gb, and from the slice v's own. -/
def Apart7 (gb : Nat) (v : Value) (a : Option Addr) : Prop := ∀ q, a = some q → q.block ≠ gb ∧ v.ownBlock ≠ some q.block
theorem pol_keep {w w' : World} {a : Option Addr} {n c : Nat} {X : List (BitVec 8)} (h : Pol w a n c X) (hk : ∀ q, a = some q → q.block < w.heap.size → w'.heap[q.block]? = w.heap[q.block]?) (hs : w.heap.size ≤ w'.heap.size) : Pol w' a n c X :=
  ⟨h.hlen, h.hcap, h.hmost, h.hnil, by
    rcases h.hrow with h0 | ⟨bb, off, e, hr, hb⟩
    · exact Or.inl h0
    · exact Or.inr ⟨bb, off, e, fun i hi => (World.cell?_of_block (w := w) (a := ⟨bb, off + i, none⟩) (show _ from hk ⟨bb, off, none⟩ e hb)).trans (hr i hi), Nat.lt_of_lt_of_le hb hs⟩⟩
theorem newP_aside {w w' : World} {a : Option Addr} {n c gb : Nat} {X : List (BitVec 8)} {v : Value} (h : NewP w w' a n c X) (hg : gb < w.heap.size) (hv : ∀ g, v.ownBlock = some g → g < w.heap.size) : Apart7 gb v a := by
  intro q hq
  rcases h.own with ⟨h0, _⟩ | ⟨g, h1, h2, _⟩
  · rw [h0] at hq; cases hq
  · rw [h1] at hq
    simp only [Option.some.injEq] at hq
    subst hq
    refine ⟨by show g ≠ gb; omega, fun e => ?_⟩
    have : g < w.heap.size := hv _ e
    omega
section
variable {m : Nat} [M : Pl.Mid m]
theorem syn_ext {a b n : Nat} (h : ∀ j, 1 ≤ j → j ≤ n → sv m a j = sv m b j) : syn m a n = syn m b n := by
  unfold syn
  refine List.map_congr_left fun i hi => ?_
  rw [List.mem_range] at hi
  rw [h (i + 1) (by omega) (by omega)]
/-- a right word with e turned has e's values. -/
theorem syn_turned {t X X' Y' e : Nat} (hY : Y' < 2 ^ deg m t) (hw : wrd (deg m t) X' Y' = wrd (deg m t) X (prt (gen m t) (deg m t) X) ^^^ e) :
    syn m (ev m t X' Y' % 2 ^ deg m t) (2 * t) = syn m e (2 * t) := by
  have hg := gen_deg (m := m) t
  refine syn_ext fun j h1 h2 => ?_
  have hlt : ev m t X' Y' < 2 ^ deg m t := Nat.xor_lt_two_pow (prt_lt hg X') hY
  rw [Nat.mod_eq_of_lt hlt]
  have h := sv_word (m := m) (t := t) (X := X') hY h1 h2
  show sv m (prt (gen m t) (deg m t) X' ^^^ Y') j = _
  rw [← h, hw, sv_xor, sv_dvd (m := m) (wrd_dvd hg X) h1 h2]
  exact BitVec.zero_xor
/-- few places: clean where none is turned. -/
theorem clean_few {t v N : Nat} (hv : v < 2 ^ N) (hN : N ≤ sz m) (hp : pop v N ≤ 2 * t) : decide (∀ j, j < 2 * t → sv m v (j + 1) = 0) = decide (pop v N = 0) := by
  apply decide_eq_decide.2
  constructor
  · intro h
    rcases sv_few (m := m) (t := t) hv hN (fun j h1 h2 => by have := h (j - 1) (by omega); rwa [show j - 1 + 1 = j by omega] at this) with h0 | h0
    · rw [h0, pop_zero]
    · omega
  · intro h j hj
    rw [pop_pos hv h]; rfl
end
end Go.Proofs.YthhhpaiednpdkaaDoor.Syn
