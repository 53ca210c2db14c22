/- Where a block stands in a pool. By the verifier of shale. -/
import Derived.Test.YtaaegkjbmomjbaaDoorPoTake
namespace Go.Proofs.YtaaegkjbmomjbaaDoor.Po
open Go Go.RowKit Hp
set_option linter.unusedVariables false
set_option linter.unusedSimpArgs false
/-- where the block stands. -/
def idx? (L : List It) (b : Int) : Option Nat := L.findIdx? fun x => decide (x.b = b)
def idxI (L : List It) (b : Int) : Int := match idx? L b with | some i => (i : Int) | none => -1
theorem idx_some {L : List It} {b : Int} {i : Nat} (hi : i < L.length) (h : (L[i]!).b = b) (hn : ∀ k, k < i → (L[k]!).b ≠ b) : idx? L b = some i := by
  unfold idx?
  rw [List.findIdx?_eq_some_iff_getElem]
  rw [getElem!_pos L i hi] at h
  refine ⟨hi, by simpa using h, fun j hj => ?_⟩
  have := hn j hj
  rw [getElem!_pos L j (by omega)] at this
  simpa using this
theorem idx_none {L : List It} {b : Int} (hn : ∀ k, k < L.length → (L[k]!).b ≠ b) : idx? L b = none := by
  unfold idx?
  rw [List.findIdx?_eq_none_iff]
  intro x hx
  obtain ⟨i, hi, rfl⟩ := List.mem_iff_getElem.1 hx
  have := hn i hi
  rw [getElem!_pos L i hi] at this
  simpa using this
theorem idx_lt {L : List It} {b : Int} {i : Nat} (h : idx? L b = some i) : i < L.length ∧ (L[i]!).b = b := by
  unfold idx? at h
  rw [List.findIdx?_eq_some_iff_getElem] at h
  obtain ⟨h1, h2, _⟩ := h
  exact ⟨h1, by rw [getElem!_pos L i h1]; simpa using h2⟩
theorem idx_not {L : List It} {b : Int} (h : idx? L b = none) : ∀ x ∈ L, x.b ≠ b := by
  unfold idx? at h
  rw [List.findIdx?_eq_none_iff] at h
  intro x hx
  simpa using h x hx
theorem it_cells {w : World} {g : Nat} {x : It} {t : TypeId} (e : w.heap[g]? = some (.cells #[.int .i64 x.b, .int .i64 x.w] t (0, 0))) : w.cell? ⟨g, 0, none⟩ = some (.int .i64 x.b) ∧ w.cell? ⟨g, 1, none⟩ = some (.int .i64 x.w) ∧ ∀ i, w.frozen? ⟨g, i, none⟩ = false := by
  refine ⟨?_, ?_, fun i => ?_⟩
  · unfold World.cell?; simp only; rw [e]; rfl
  · unfold World.cell?; simp only; rw [e]; rfl
  · unfold World.frozen?; simp only; rw [e]; rfl
theorem isb_any (x : It) (b : Int) {w : World} {bb : Nat} (hb : w.cell? ⟨bb, 0, none⟩ = some (.int .i64 b)) : Calls Tryd.prog 38 #[itV x, .pointer (some ⟨bb, 0, none⟩)] w fun e w' => e = .returned (.bool (x.b == b)) ∧ Below w.heap.size w w' := by
  have HB := Lib.hid hb
  go_enter Tryd.func38, Tryd.ntmps38
  go_upto_region 1 with (fail)
  generalize hw : w.alloc (.cells #[.int .i64 x.b, .int .i64 x.w] 64 (0, 0)) = w1
  obtain ⟨J1, b1, _⟩ := newIt w w1 x hw
  clear hw
  obtain ⟨zb, hzb⟩ : ∃ zb, zb = w.heap.size := ⟨_, rfl⟩
  have hb1 : w1.cell? ⟨bb, 0, none⟩ = some (.int .i64 b) := (World.cell?_of_block (a := ⟨bb, 0, none⟩) (b1.block bb (World.block_lt_of_cell? w _ hb))).trans hb
  rw [← hzb] at J1 ⊢
  obtain ⟨z0, z1, _⟩ := it_cells J1
  have HW := Lib.hid b1
  clear hzb hb b1 J1
  go_wp2_with fail
  go_ret
  exact ⟨rfl, HW.out⟩
set_option maxHeartbeats 1000000 in
theorem index_any {w : World} {base qb bb : Nat} {ty : TypeId} {v : Value} {L : List It} (Q : QAt w base qb ty v L) (hL : L.length ≤ 1000) (b : Int) (hb : w.cell? ⟨bb, 0, none⟩ = some (.int .i64 b)) :
    Calls Tryd.prog 37 #[v, .func (.func 38) #[] #[.pointer (some ⟨bb, 0, none⟩)]] w fun e w' => e = .returned (.int .i64 (idxI L b)) ∧ Below w.heap.size w w' := by
  obtain ⟨a, c, rfl, hnc, hm, hcell, hne⟩ := row_sliceP Q.row
  obtain ⟨n, hn⟩ : ∃ n, n = L.length := ⟨_, rfl⟩
  have HN := Lib.hid hn
  have hcw : ∀ W, Below w.heap.size w W → ∀ k, k < n → ∃ g, a = some ⟨g, 0, none⟩ ∧ W.cell? ⟨g, k * 2, none⟩ = some (.int .i64 (L[k]!).b) ∧ W.cell? ⟨g, k * 2 + 1, none⟩ = some (.int .i64 (L[k]!).w) := by
    intro W b2 k hk
    cases a with
    | none => exact absurd rfl (hne (by omega))
    | some a =>
      obtain ⟨g, rfl, _, hg, _, h2⟩ := hcell a rfl
      obtain ⟨h3, h4⟩ := h2 k (by omega)
      exact ⟨g, rfl, (World.cell?_of_block (a := ⟨g, _, none⟩) (b2.block g hg)).trans h3, (World.cell?_of_block (a := ⟨g, _, none⟩) (b2.block g hg)).trans h4⟩
  have HC := Lib.hid hcw
  have HBB : Hid (∀ W, Below w.heap.size w W → W.cell? ⟨bb, 0, none⟩ = some (.int .i64 b)) := fun W b2 => (World.cell?_of_block (a := ⟨bb, 0, none⟩) (b2.block bb (World.block_lt_of_cell? w _ hb))).trans hb
  rw [← hn] at hL ⊢
  clear Q hnc hm hcell hne hcw hn hb
  have HB0 : Hid (Below w.heap.size w w) := Below.refl _ _
  go_enter Tryd.func37, Tryd.ntmps37
  go_wp2_with fail
  go_loopg [8] n (fun gh s8 wx => ∃ k : Nat, gh = n - k ∧ k ≤ n ∧ s8 = .int .i64 (k : Int) ∧ Hid (Below w.heap.size w wx ∧ ∀ j, j < k → (L[j]!).b ≠ b))
  case atStart => exact ⟨0, rfl, Nat.zero_le _, rfl, HB0.out, fun j hj => absurd hj (Nat.not_lt_zero _)⟩
  case round =>
    clear HB0
    obtain ⟨k, hg, hkn, rfl, HX⟩ := hrel
    have HG := Lib.hid (And.intro hg hkn)
    have x0 : (0 : Int) ≤ (k : Int) := by omega
    have x2 : (k : Int) ≤ 1000 := by omega
    clear hg hkn
    by_cases hlt : k < n
    · have x1 : (k : Int) < (n : Int) := by omega
      obtain ⟨g, rfl, c0, c1⟩ := HC.out wr HX.out.1 k hlt
      obtain ⟨x, hx⟩ : ∃ x, x = L[k]! := ⟨_, rfl⟩
      rw [← hx] at c0 c1
      have HXX := Lib.hid hx
      have HL := Lib.hid hlt
      have HI := Lib.hid (isb_any x b (HBB.out wr HX.out.1))
      clear hx
      cases hb : (x.b == b)
      · rw [hb] at HI
        have hne : x.b ≠ b := by simpa using hb
        have HNE := Lib.hid hne
        clear hb hne
        go_wp2_with fail
        refine HI.out.mono ?_
        rintro e w1 ⟨rfl, b1⟩
        have HX1 : Hid (Below w.heap.size w w1 ∧ ∀ j, j < k + 1 → (L[j]!).b ≠ b) := ⟨HX.out.1.trans (b1.mono HX.out.1.size), fun j hj => by
          by_cases e : j = k
          · rw [e, ← HXX.out]; exact HNE.out
          · exact HX.out.2 j (by omega)⟩
        clear b1 HI
        go_wp2_with fail
        go_roundg (n - (k + 1))
        case measure => have := HG.out; have := HL.out; omega
        case rel => exact ⟨k + 1, rfl, HL.out, by go_num, HX1⟩
      · rw [hb] at HI
        have hne : x.b = b := by simpa using hb
        have HNE := Lib.hid hne
        clear hb hne
        go_wp2_with fail
        refine HI.out.mono ?_
        rintro e w1 ⟨rfl, b1⟩
        have HF : Hid (idxI L b = (k : Int) ∧ Below w.heap.size w w1) := ⟨by unfold idxI; rw [idx_some (by rw [← HN.out]; exact HL.out) (by rw [← HXX.out]; exact HNE.out) HX.out.2], HX.out.1.trans (b1.mono HX.out.1.size)⟩
        clear b1 HI
        go_wp2_with fail
        go_ret
        exact ⟨by rw [HF.out.1]; rfl, HF.out.2⟩
    · obtain rfl : n = k := by have := HG.out.2; omega
      have HF : Hid (idxI L b = -1 ∧ Below w.heap.size w wr) := ⟨by unfold idxI; rw [idx_none (by rw [← HN.out]; exact HX.out.2)], HX.out.1⟩
      go_wp2_with fail
      go_ret
      exact ⟨by rw [HF.out.1]; rfl, HF.out.2⟩
set_option maxHeartbeats 1000000 in
theorem find_any {w : World} {base qb : Nat} {v : Value} {L : List It} (Q : QAt w base qb 56 v L) (hL : L.length ≤ 1000) (b : Int) :
    Calls Tryd.prog 27 #[.pointer (some ⟨qb, 0, none⟩), .int .i64 b] w fun e w' => e = .returned (.int .i64 (idxI L b)) ∧ Below w.heap.size w w' := by
  have HQ := Lib.hid Q
  clear Q
  go_enter Tryd.func27, Tryd.ntmps27
  go_upto_region 1 with (fail)
  generalize hw : w.alloc (.cells #[.int .i64 b] 3 (0, 0)) = w1
  have J1 : w1.heap[w.heap.size]? = some (.cells #[.int .i64 b] 3 (0, 0)) := by rw [← hw]; exact heap_alloc_new w _
  have b1 : Below w.heap.size w w1 := by rw [← hw]; exact (Below.refl _ _).alloc (Nat.le_refl _) _
  clear hw
  obtain ⟨cb, hcb⟩ : ∃ cb, cb = w.heap.size := ⟨_, rfl⟩
  rw [← hcb] at J1 ⊢
  have hcc : w1.cell? ⟨cb, 0, none⟩ = some (.int .i64 b) := by unfold World.cell?; simp only; rw [J1]; rfl
  have HQ1 := Lib.hid (HQ.out.below b1)
  have HI := Lib.hid (index_any HQ1.out hL b hcc)
  have k0 := HQ1.out.cell.1
  have HB1 := Lib.hid b1
  have HCB := Lib.hid hcb
  clear J1 b1 hcb hcc
  go_wp2_with fail
  refine HI.out.mono ?_
  rintro e w2 ⟨rfl, b2⟩
  have HF : Hid (Below w.heap.size w w2) := HB1.out.trans (b2.mono HB1.out.size)
  obtain ⟨r, hr⟩ : ∃ r, r = idxI L b := ⟨_, rfl⟩
  rw [← hr]
  have HR := Lib.hid hr
  clear b2 HI hr
  go_wp2_with fail
  go_ret
  exact ⟨by rw [← HR.out]; rfl, HF.out⟩
theorem idxI_nn {L : List It} {b : Int} : (decide (0 ≤ idxI L b)) = (idx? L b).isSome := by
  unfold idxI
  cases h : idx? L b with
  | none => rfl
  | some i => simp
theorem has_any {w : World} {base qb : Nat} {v : Value} {L : List It} (Q : QAt w base qb 56 v L) (hL : L.length ≤ 1000) (b : Int) :
    Calls Tryd.prog 18 #[.pointer (some ⟨qb, 0, none⟩), .int .i64 b] w fun e w' => e = .returned (.bool (idx? L b).isSome) ∧ Below w.heap.size w w' := by
  have HF := Lib.hid (find_any Q hL b)
  rw [← idxI_nn]
  generalize idxI L b = r at HF ⊢
  clear Q hL
  go_enter Tryd.func18, Tryd.ntmps18
  go_wp2_with fail
  refine HF.out.mono ?_
  rintro e w2 ⟨rfl, b2⟩
  have HB := Lib.hid b2
  clear b2 HF
  go_wp2_with fail
  go_ret
  exact ⟨rfl, HB.out⟩
theorem len_any {w : World} {base qb : Nat} {v : Value} {L : List It} (Q : QAt w base qb 56 v L) :
    Calls Tryd.prog 20 #[.pointer (some ⟨qb, 0, none⟩)] w fun e w' => e = .returned (.int .i64 (L.length : Int)) ∧ w = w' := by
  obtain ⟨a, c, rfl, _⟩ := row_sliceP Q.row
  have k0 := Q.cell.1
  generalize L.length = n at k0 ⊢
  clear Q
  go_enter Tryd.func20, Tryd.ntmps20
  go_wp2_with fail
  go_ret
  exact ⟨rfl, rfl⟩
end Go.Proofs.YtaaegkjbmomjbaaDoor.Po
