/- The walk over package binpoly's turn. By the verifier of shale. -/
import Derived.Test.YtbngkmlipmhgdaaDoorBinMul
import Derived.Lib.SliceRun
namespace Go.Proofs.YtbngkmlipmhgdaaDoor.Bin
open Go Go.RowKit
set_option linter.unusedVariables false
theorem buf_drew {w : World} {g : Nat} {l : List (BitVec 8)} (h : Buf8 w g l) : Buf8 w.drew g l := by
  obtain ⟨cur, t, h1, h2⟩ := h
  exact ⟨cur, t, h1, h2⟩
section
attribute [local go_sem] Bits32.bxor Bits32.bxor_bit
theorem val_turn (X : List (BitVec 8)) (i : Nat) (h : i / 8 < X.length) : val (X.set (i / 8) (nth8 X (i / 8) ^^^ BitVec.twoPow 8 (i % 8))) = val X ^^^ 2 ^ i := by
  rw [val_set X (i / 8) _ h]
  congr 1
  have : (BitVec.twoPow 8 (i % 8)).toNat = 2 ^ (i % 8) := by
    rw [BitVec.toNat_twoPow]
    exact Nat.mod_eq_of_lt (Nat.pow_lt_pow_right (by decide) (by omega))
  rw [this, Nat.shiftLeft_eq, ← Nat.pow_add]
  congr 1
  omega
end
theorem own_newP {w w' : World} {v : Value} {n : Nat} {l : List (BitVec 8)} (h : Own8 w' w.heap.size v n l) : ∃ a cap, v = .slice a n cap ∧ NewP w w' a n cap l := by
  have hl := h.len
  rcases h.2 with ⟨h0, h1⟩ | ⟨g', cap', cur, hv, hbg, hh, hn, hm, hs, ht⟩
  · refine ⟨none, 0, by rw [h0, h1], ⟨hl.symm, by omega, by decide, Or.inl ⟨rfl, h1, rfl⟩⟩⟩
  · subst hv
    exact ⟨_, cap', rfl, ⟨hl.symm, hn, hm, Or.inr ⟨g', rfl, hbg, (Own8.buf h).1⟩⟩⟩
set_option maxRecDepth 100000 in
set_option maxHeartbeats 2000000 in
theorem clone_any (a : Option Addr) (n cap : Nat) (l : List (BitVec 8)) (w : World) (h : Pol w a n cap l) (hn : n ≤ 100000) :
    Calls Tryd.prog 24 #[.slice a n cap] w fun e w' => ∃ a' cap', e = .returned (.slice a' n cap') ∧ NewP w w' a' n cap' l ∧ Below w.heap.size w w' := by
  obtain ⟨i0, hi, hz0, hz1, hz2⟩ := info8
  have HP := Lib.hid h
  have q22 : ∀ (w : World) (a : Option Addr) (n c n' c' : Nat), (binOp .eql 31 (.slice a n c) (.slice none n' c')).run Tryd.prog w = .ok (.bool a.isNone) w := fun w a n c n' c' => Lib.run_eql_slice_nil w _ _ a n c n' c' Tryd.underlying31
  cases a with
  | none =>
    obtain rfl : cap = 0 := h.hnil rfl
    obtain rfl : n = 0 := by have := h.hcap; omega
    have hl : l = [] := List.eq_nil_of_length_eq_zero h.hlen.symm
    subst hl
    have HN : Hid (NewP w w none 0 0 []) := ⟨rfl, Nat.le_refl _, by decide, Or.inl ⟨rfl, rfl, rfl⟩⟩
    clear h
    go_enter Tryd.func24, Tryd.ntmps24
    go_wp2_with fail
    go_ret
    exact ⟨none, 0, rfl, HN.out, Below.refl _ _⟩
  | some ad =>
    have b0 : Below w.heap.size w (w.alloc (.cells #[] 5)) := (Below.refl _ _).alloc (Nat.le_refl _) _
    have ho : (w.alloc (.cells #[] 5)).ownsRow w.heap.size 5 1 (.slice (some ⟨w.heap.size, 0, none⟩) 0 0) 0 [] := World.ownsRow_made w #[] 0 (Nat.le_refl _) (Nat.zero_le _) rfl
    have hnews : ∀ j u, (cells8 l)[j]? = some u → (w.alloc (.cells #[] 5)).cell? (ad.add j) = some u := by
      intro j u hu
      have hj : 0 < (cells8 l).length := Nat.lt_of_le_of_lt (Nat.zero_le _) (List.getElem?_eq_some_iff.1 hu).1
      obtain ⟨ad', e, h2⟩ := arg_src h _ b0 hj
      obtain rfl := Option.some.inj e
      exact h2 j u hu
    have HL := Lib.hid h.hlen
    clear h
    go_enter Tryd.func24, Tryd.ntmps24
    go_wp2_with (at_builtin; refine wpList_append_own _ rfl _ _ 31 rfl w.heap.size 5 i0 (.int .u8 0) 1 1 Tryd.underlying31 hi hz0 hz1 hz2 rfl (by decide) (.slice (some ⟨w.heap.size, 0, none⟩) 0 0) 0 _ rfl ho ad n cap (cells8 l) rfl (by rw [cells8_length, ← HL.out, Nat.mul_one]) hnews (cells8_one _) (by unfold maxLen; omega) (by omega) (by simp) ?_; intro v9 w9 hown9 hgrow _)
    have ho9 : Own8 w9 w.heap.size v9 n l := by
      unfold Own8
      have := hown9
      rw [Nat.zero_add] at this
      exact this
    have b9 : Below w.heap.size w w9 := b0.grown hgrow (by simp) (fun k hk => by simp only [Value.ownBlock, Option.some.injEq] at hk; omega)
    obtain ⟨a', cap', rfl, hN⟩ := own_newP ho9
    clear hown9 hgrow ho9
    go_wp2_with fail
    go_ret
    exact ⟨a', cap', rfl, hN, b9⟩
end Go.Proofs.YtbngkmlipmhgdaaDoor.Bin
