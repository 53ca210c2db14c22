/- A table made anew. By the verifier of shale. -/
import Derived.Test.YtpbckjagiebmjaaDoorTbRep
import Derived.Test.YtpbckjagiebmjaaDoorTbOps
import Derived.Deep.AppendLies
namespace Go.Proofs.YtpbckjagiebmjaaDoor.Tb
open Go Go.RowKit
set_option linter.unusedVariables false
set_option linter.unusedSimpArgs false
theorem infoR : ∃ i, Tryd.prog.info? 73 = some i ∧ i.zero = some (.slice none 0 0) ∧ i.size = 1 ∧ i.bytes = 24 :=
  info_parts (show (Tryd.prog.info? 73).map (fun i => (i.zero, i.size, i.bytes)) = some (some (.slice none 0 0), 1, 24) by kernel_rfl)
def rowsV (kb : Nat → Nat) (P i : Nat) : List Value := (List.range i).map fun b => .slice (some ⟨kb b, 0, none⟩) P P
theorem rowsV_succ (kb : Nat → Nat) (P i : Nat) : rowsV kb P (i + 1) = rowsV kb P i ++ [.slice (some ⟨kb i, 0, none⟩) P P] := by unfold rowsV; rw [List.range_succ, List.map_append]; rfl
theorem rowsV_more (kb : Nat → Nat) (P i g : Nat) : rowsV (fun b => if b = i then g else kb b) P i = rowsV kb P i := by
  unfold rowsV
  apply List.map_congr_left
  intro b hb
  have := List.mem_range.1 hb
  dsimp only
  rw [if_neg (by omega)]
theorem rowsV_len (kb : Nat → Nat) (P i : Nat) : (rowsV kb P i).length = i := by unfold rowsV; simp
/-- the table so far. -/
structure NewI (w : World) (tb mb P i : Nat) (v : Value) (kb : Nat → Nat) (wx : World) : Prop where
  blk : wx.heap[tb]? = some (.cells #[.map (some mb), v] 72 (0, 0))
  map : wx.heap[mb]? = some (.map #[] 0)
  row : wx.ownsRow (tb + 1) 73 1 v i (rowsV kb P i)
  rows : ∀ b, b < i → Blk64 wx (kb b) (List.replicate P (-1)) ∧ tb < kb b ∧ v.ownBlock ≠ some (kb b)
  inj : ∀ a b, a < i → b < i → kb a = kb b → a = b
  wx : Below w.heap.size w wx
/-- what the region of a round wants to know. -/
structure RoundT (tb P i gL gR : Nat) (v : Value) (kb : Nat → Nat) (w5 : World) : Prop where
  c5 : w5.cell? ⟨tb, 1, none⟩ = some v
  c6 : (w5.alloc (.cells #[.slice (some ⟨gR, 0, none⟩) P P] 73 (0, 0))).cell? ⟨tb, 1, none⟩ = some v
  own : (w5.alloc (.cells #[.slice (some ⟨gR, 0, none⟩) P P] 73 (0, 0))).ownsRow (tb + 1) 73 1 v i (rowsV kb P i)
  news : ∀ j u, [Value.slice (some ⟨gR, 0, none⟩) P P][j]? = some u → (w5.alloc (.cells #[.slice (some ⟨gR, 0, none⟩) P P] 73 (0, 0))).cell? ((⟨w5.heap.size, 0, none⟩ : Addr).add j) = some u
  base : tb + 1 ≤ (w5.alloc (.cells #[.slice (some ⟨gR, 0, none⟩) P P] 73 (0, 0))).heap.size
  q3 : ∀ w9, (w5.alloc (.cells #[.slice (some ⟨gR, 0, none⟩) P P] 73 (0, 0))).grownBy w9 v.ownBlock → w9.cell? ⟨tb, 1, none⟩ = some v ∧ w9.frozen? ⟨tb, 1, none⟩ = false
theorem newI_round {w wr w5 : World} {tb mb P i gL : Nat} {v : Value} {kb : Nat → Nat} (h : NewI w tb mb P i v kb wr) (b5 : Below wr.heap.size wr w5) (gR : Nat) : RoundT tb P i gL gR v kb w5 := by
  have ht := lt_of_block h.blk
  have hvt : v.ownBlock ≠ some tb := fun e => by have := (h.row.lt tb e).1; omega
  have e5 := (b5.block tb ht).trans h.blk
  have e6 : (w5.alloc (.cells #[.slice (some ⟨gR, 0, none⟩) P P] 73 (0, 0))).heap[tb]? = _ := (Below.heap_alloc w5 _ _ (lt_of_block e5)).trans e5
  refine ⟨(pl_cells e5).2.1, (pl_cells e6).2.1, ?_, World.news_of_block (cs := #[.slice (some ⟨gR, 0, none⟩) P P]) (fr := (0, 0)) (t := 73) (heap_alloc_new w5 _), ?_, fun w9 hg => ?_⟩
  · refine World.ownsRow.alloc ?_ _
    refine ⟨h.row.1, ?_⟩
    rcases h.row.2 with h0 | ⟨g', cap', cur, hv, hbg, hh, r⟩
    · exact .inl h0
    · exact .inr ⟨g', cap', cur, hv, hbg, (b5.block g' (lt_of_block hh)).trans hh, r⟩
  · rw [World.size_alloc]; have := b5.size; omega
  · have e9 := (hg.block tb (lt_of_block e6) (Ne.symm hvt)).trans e6
    exact ⟨(pl_cells e9).2.1, (pl_cells e9).2.2 1⟩
theorem newI_next {w wr w5 w9 : World} {tb mb P i gR g1 cap1 : Nat} {v : Value} {kb : Nat → Nat} (h : NewI w tb mb P i v kb wr) (hm : mb < tb) (b5 : Below wr.heap.size wr w5) (hgR : wr.heap.size ≤ gR) (hR : Blk64 w5 gR (List.replicate P (-1)))
    (hown : w9.ownsRow (tb + 1) 73 1 (.slice (some ⟨g1, 0, none⟩) (i + 1) cap1) (i + 1) (rowsV kb P i ++ [.slice (some ⟨gR, 0, none⟩) P P])) (hg : (w5.alloc (.cells #[.slice (some ⟨gR, 0, none⟩) P P] 73 (0, 0))).grownBy w9 v.ownBlock) (hor : v.ownBlock = some g1 ∨ g1 = w5.heap.size + 1) (hw : w.heap.size ≤ mb) :
    NewI w tb mb P (i + 1) (.slice (some ⟨g1, 0, none⟩) (i + 1) cap1) (fun b => if b = i then gR else kb b) (w9.setCell ⟨tb, 1, none⟩ (.slice (some ⟨g1, 0, none⟩) (i + 1) cap1)) := by
  have ht := lt_of_block h.blk
  have hvt : v.ownBlock ≠ some tb := fun e => by have := (h.row.lt tb e).1; omega
  have h5 := b5.size
  have hRl := lt_of_block hR
  have hvl : ∀ z, v.ownBlock = some z → tb < z ∧ z < wr.heap.size := fun z hz => by have := h.row.lt z hz; omega
  have hg1 := hown.lt g1 rfl
  have hal : ∀ z, z < w5.heap.size → v.ownBlock ≠ some z → w9.heap[z]? = w5.heap[z]? := fun z hz hn => (hg.block z (by rw [World.size_alloc]; omega) (Ne.symm hn)).trans (Below.heap_alloc w5 _ _ hz)
  have o := Only.setCell w9 ⟨tb, 1, none⟩ (.slice (some ⟨g1, 0, none⟩) (i + 1) cap1)
  have old : ∀ z, z < wr.heap.size → v.ownBlock ≠ some z → w9.heap[z]? = wr.heap[z]? := fun z hz hn => (hal z (by omega) hn).trans (b5.block z hz)
  refine ⟨heap_setCell_same _ _ 1 _ _ _ ((old tb ht hvt).trans h.blk), ?_, ?_, fun b hb => ?_, fun a b ha hb e => ?_, ?_⟩
  · have hml := lt_of_block h.map
    exact (o.block mb (by show mb ≠ tb; omega)).trans ((old mb hml (fun e => by have := hvl mb e; omega)).trans h.map)
  · rw [rowsV_succ, rowsV_more]
    simp only [if_true]
    refine ⟨hown.1, ?_⟩
    rcases hown.2 with h0 | ⟨g', cap', cur, hv, hbg, hh, r⟩
    · exact .inl h0
    · refine .inr ⟨g', cap', cur, hv, hbg, (o.block g' ?_).trans hh, r⟩
      show g' ≠ tb
      omega
  · by_cases e : b = i
    · rw [if_pos e]
      refine ⟨(o.block gR (by show gR ≠ tb; omega)).trans ((hal gR hRl (fun e' => by have := hvl gR e'; omega)).trans hR), by omega, fun e' => ?_⟩
      have e2 : g1 = gR := Option.some.inj e'
      rcases hor with hor | hor
      · have := hvl g1 hor; omega
      · omega
    · rw [if_neg e]
      obtain ⟨r1, r2, r3⟩ := h.rows b (by omega)
      have hl := lt_of_block r1
      refine ⟨(o.block (kb b) (by show kb b ≠ tb; omega)).trans ((old (kb b) hl r3).trans r1), r2, fun e' => ?_⟩
      have e2 : g1 = kb b := Option.some.inj e'
      rcases hor with hor | hor
      · exact r3 (by rw [hor, e2])
      · omega
  · have hlk : ∀ c, c < i → kb c < wr.heap.size := fun c hc => lt_of_block (h.rows c hc).1
    by_cases ea : a = i
    · by_cases eb : b = i
      · omega
      · simp only [if_pos ea, if_neg eb] at e
        have := hlk b (by omega); omega
    · by_cases eb : b = i
      · simp only [if_neg ea, if_pos eb] at e
        have := hlk a (by omega); omega
      · simp only [if_neg ea, if_neg eb] at e
        exact h.inj a b (by omega) (by omega) e
  · have hws := h.wx.size
    have b9 : Below w.heap.size w w9 := ⟨hg.os.trans (b5.os.trans h.wx.os), hg.tape.trans (b5.tape.trans h.wx.tape), hg.output.trans (b5.output.trans h.wx.output), by have := hg.size; rw [World.size_alloc] at this; omega, fun k hk => (old k (by omega) (fun e => by have := hvl k e; omega)).trans (h.wx.block k hk)⟩
    exact b9.setCell (by show w.heap.size ≤ tb; omega) _
end Go.Proofs.YtpbckjagiebmjaaDoor.Tb
