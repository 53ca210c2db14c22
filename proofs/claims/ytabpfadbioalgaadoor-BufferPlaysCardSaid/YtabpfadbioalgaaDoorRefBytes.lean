/- shaleref.Bytes: a copy of bytes in new memory. By the verifier of shale. -/
import Derived.Test.YtabpfadbioalgaaDoorMem
import Derived.Test.YtabpfadbioalgaaDoorRow
namespace Go.Proofs.YtabpfadbioalgaaDoor
open Go Go.RowKit
theorem own_all {w : World} {base g n : Nat} {l : List (BitVec 8)} (h : w.ownsRow base 5 1 (.slice (some ⟨g, 0, none⟩) n n) n (l.map fun c => Value.int .u8 (Bits32.b c))) : Blk8 w g l := by
  obtain ⟨hl, h2⟩ := h
  rcases h2 with ⟨h0, _⟩ | ⟨g', cap', cur, hv, hbg, hg, hnc, hcm, hcs, htake⟩
  · cases h0
  · simp only [Value.slice.injEq, Option.some.injEq, Addr.mk.injEq] at hv
    obtain ⟨⟨rfl, _⟩, _, rfl⟩ := hv
    unfold Blk8 obj8
    rw [hg]
    congr 2
    rw [← htake]
    rw [List.take_of_length_le (by simp; omega)]
set_option maxRecDepth 100000 in
set_option maxHeartbeats 1000000 in
theorem copy_all (p : Option Addr) (n cap : Nat) (l : List (BitVec 8)) (w : World) (hp : p = none → n = 0 ∧ cap = 0) (hr : n = 0 ∨ ∃ bb off, p = some ⟨bb, off, none⟩ ∧ Row8 w bb off l ∧ bb < w.heap.size) (hn : n = l.length) (hm : n ≤ 1000000) :
    Calls Tryd.prog 11 #[.slice p n cap] w fun e w' => e = .returned (.slice (some ⟨w.heap.size, 0, none⟩) n n) ∧ Blk8 w' w.heap.size l ∧ Below w.heap.size w w' := by
  obtain ⟨i0, hi, hz0, hz1, hz2⟩ := info_parts (show (Tryd.prog.info? 5).map (fun i => (i.zero, i.size, i.bytes)) = some (some (.int .u8 0), 1, 1) by kernel_rfl)
  have HN := Lib.hid hn
  have hnews : (l.map fun c => Value.int .u8 (Bits32.b c)).length = n * 1 := by simp; omega
  have h1c : ∀ u ∈ (l.map fun c => Value.int .u8 (Bits32.b c)), u.oneCell' = true := by
    intro u hu
    obtain ⟨_, _, rfl⟩ := List.mem_map.1 hu
    rfl
  have hcell : ∀ w0 : World, (∀ k, k < w.heap.size → w0.heap[k]? = w.heap[k]?) → ∀ ad, p = some ad → ∀ j u, (l.map fun c => Value.int .u8 (Bits32.b c))[j]? = some u → w0.cell? (ad.add j) = some u := by
    intro w0 h0 ad had j u hu
    have hj : j < l.length := by
      have := (List.getElem?_eq_some_iff.1 hu).1
      simpa using this
    rcases hr with hr | ⟨bb, off, hpp, hr, hb⟩
    · omega
    · rw [hpp] at had
      obtain rfl := Option.some.inj had
      have e : (⟨bb, off, none⟩ : Addr).add j = ⟨bb, off + j, none⟩ := by by_cases h : j = 0 <;> simp [Addr.add, h]
      rw [e, World.cell?_of_block (w := w) (h0 bb hb), hr j hj]
      rw [List.getElem?_map, List.getElem?_eq_getElem hj] at hu
      rw [← hu]
      unfold nth8
      rw [List.getD_eq_getElem?_getD, List.getElem?_eq_getElem hj]
      rfl
  have HC := Lib.hid hcell
  have HL := Lib.hid hnews
  have H1 := Lib.hid h1c
  have HP := Lib.hid hp
  clear hn hr hcell hnews h1c hp
  go_enter Tryd.func11, Tryd.ntmps11
  go_wp2_with (first
    | (at_make; refine wpList_make_own _ rfl _ _ 33 rfl w.heap.size 5 i0 (.int .u8 0) 1 Tryd.underlying33 hi hz0 hz1 .i64 .i64 _ n rfl rfl (by omega) (by rw [hz2]; omega) (by unfold maxLen; omega) (Nat.le_refl _) ?_; intro w0 hown0 hgrow0)
    | (at_builtin; refine wpList_append_fits_any _ rfl _ _ 33 rfl w.heap.size 5 i0 1 Tryd.underlying33 hi hz1 w.heap.size 0 n [] rfl hown0 p n cap (l.map fun c => Value.int .u8 (Bits32.b c)) rfl HL.out HP.out (HC.out _ (fun k hk => hgrow0.block k hk (by simp))) H1.out (by omega) ?_; intro w1 hown1 hgrow1))
  go_ret
  refine ⟨by simp, ?_, ?_⟩
  · rw [Nat.zero_add] at hown1
    exact own_all hown1
  · exact ((Below.refl _ _).grown hgrow0 (Nat.le_refl _) (by simp)).grown hgrow1 hgrow0.size (by intro k hk; simp at hk; omega)
theorem copy_any (bb off n cap : Nat) (l : List (BitVec 8)) (w : World) (hr : Row8 w bb off l) (hn : n = l.length) (hm : n ≤ 1000000) :
    Calls Tryd.prog 11 #[.slice (some ⟨bb, off, none⟩) n cap] w fun e w' => e = .returned (.slice (some ⟨w.heap.size, 0, none⟩) n n) ∧ Blk8 w' w.heap.size l ∧ Below w.heap.size w w' := by
  refine copy_all _ n cap l w (fun h => by cases h) ?_ hn hm
  by_cases h0 : n = 0
  · exact Or.inl h0
  · exact Or.inr ⟨bb, off, rfl, hr, World.block_lt_of_cell? w _ (hr 0 (by omega))⟩
end Go.Proofs.YtabpfadbioalgaaDoor
