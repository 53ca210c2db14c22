/- Two entries alike, as the reference tells. By the verifier of shale. -/
import Derived.Test.YtabpfadbioalgaaDoorWtKeys
import Derived.Test.YtabpfadbioalgaaDoorRefSame
namespace Go.Proofs.YtabpfadbioalgaaDoor.Wt
open Go Go.RowKit Bin
set_option linter.unusedVariables false
set_option linter.unusedSimpArgs false
theorem pol_bytesW {w : World} {a : Option Addr} {n cap : Nat} {l : List (BitVec 8)} (h : Pol w a n cap l) : IsBytes w (.slice a n cap) l := by
  rcases h.hrow with h0 | ⟨bb, off, e, hr, hb⟩
  · have := h.hlen
    have hl : l = [] := List.eq_nil_of_length_eq_zero (by omega)
    subst hl
    rw [h0]
    exact .inl ⟨rfl, _, _, rfl⟩
  · refine .inr ⟨bb, off, cap, ?_, hr, hb⟩
    rw [e, h.hlen]
theorem pol_b {w w' : World} {a : Option Addr} {n c : Nat} {l : List (BitVec 8)} (h : Pol w a n c l) (b : Below w.heap.size w w') : Pol w' a n c l := h.below b
set_option maxHeartbeats 1000000 in
theorem sameE_any {w : World} {key : Int} {t : Bool} {a a' : Option Addr} {n n' c c' : Nat} {l : List (BitVec 8)} (h1 : Pol w a n c l) (h2 : Pol w a' n' c' l) :
    Calls Tryd.prog 15 #[.agg #[.int .i64 key, .bool t, .slice a n c], .agg #[.int .i64 key, .bool t, .slice a' n' c']] w fun e w' => e = .returned (.bool true) ∧ Below w.heap.size w w' := by
  have HP := Lib.hid (And.intro h1 h2)
  have hkk : (key == key) = true := by simp
  clear h1 h2
  go_enter Tryd.func15, Tryd.ntmps15
  go_wp2_with fail
  generalize hw : w.alloc (.cells #[.int .i64 key, .bool t, .slice a n c] 35 (0, 0)) = w1
  obtain ⟨k1, b1⟩ := newE w w1 ⟨key, t, a, n, c, l⟩ hw
  have hs1 : w1.heap.size = w.heap.size + 1 := by rw [← hw]; simp
  clear hw
  rw [← hs1]
  generalize hw : w1.alloc (.cells #[.int .i64 key, .bool t, .slice a' n' c'] 35 (0, 0)) = w2
  obtain ⟨k2, b2⟩ := newE w1 w2 ⟨key, t, a', n', c', l⟩ hw
  clear hw
  have k3 := (b2.block _ (lt_of_block k1)).trans k1
  have b := b1.trans (b2.mono b1.size)
  obtain ⟨x0, x1, x2, _⟩ := ent3 k3
  obtain ⟨z0, z1, z2, _⟩ := ent3 k2
  have HB := Lib.hid b
  obtain ⟨xb, hxb⟩ : ∃ xb, xb = w.heap.size := ⟨_, rfl⟩
  obtain ⟨zb, hzb⟩ : ∃ zb, zb = w1.heap.size := ⟨_, rfl⟩
  have HX := Lib.hid hxb
  rw [← hxb] at x0 x1 x2 ⊢
  rw [← hzb] at z0 z1 z2 ⊢
  clear k1 k2 k3 b1 b2 b hs1 hxb hzb
  refine (same_any l l _ _ w2 (Str8.of (pol_bytesW (HP.out.1.below HB.out))) (Str8.of (pol_bytesW (HP.out.2.below HB.out)))).mono ?_
  rintro e w' ⟨rfl, rfl⟩
  rw [decide_eq_true rfl]
  clear HP
  cases t
  · go_wp2_with fail
    go_ret
    exact ⟨rfl, HB.out⟩
  · go_wp2_with fail
    go_ret
    exact ⟨rfl, HB.out⟩
end Go.Proofs.YtabpfadbioalgaaDoor.Wt
