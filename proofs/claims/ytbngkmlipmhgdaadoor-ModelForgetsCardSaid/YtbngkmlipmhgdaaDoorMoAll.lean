/- All of a model's sectors, in new memory. By the verifier of shale. -/
import Derived.Test.YtbngkmlipmhgdaaDoorMoOps
namespace Go.Proofs.YtbngkmlipmhgdaaDoor.Mo
open Go Go.RowKit Bin
set_option linter.unusedVariables false
set_option linter.unusedSimpArgs false
def outV (kb : Nat → Nat) (sz i n : Nat) : List Value := (List.range n).map fun j => if j < i then .slice (some ⟨kb j, 0, none⟩) sz sz else .slice none 0 0
theorem outV_len (kb : Nat → Nat) (sz i n : Nat) : (outV kb sz i n).length = n := by simp [outV]
theorem outV_step (kb : Nat → Nat) (sz i n g : Nat) (hi : i < n) : (outV kb sz i n).toArray.setIfInBounds i (.slice (some ⟨g, 0, none⟩) sz sz) = (outV (fun j => if j = i then g else kb j) sz (i + 1) n).toArray := by
  apply Array.ext
  · simp [outV]
  · intro j h1 h2
    simp only [outV, Array.size_setIfInBounds, List.size_toArray, List.length_map, List.length_range] at h1 h2
    rw [Array.getElem_setIfInBounds (by simpa [outV] using h1)]
    simp only [outV, List.getElem_toArray, List.getElem_map, List.getElem_range]
    by_cases e : i = j
    · subst e
      simp
    · rw [if_neg e, if_neg (Ne.symm e)]
      by_cases h : j < i
      · rw [if_pos h, if_pos (by omega)]
      · rw [if_neg h, if_neg (by omega)]
theorem outV_at (kb : Nat → Nat) (sz i n : Nat) {j : Nat} (hj : j < n) : (outV kb sz i n)[j]? = some (if j < i then .slice (some ⟨kb j, 0, none⟩) sz sz else .slice none 0 0) := by
  unfold outV
  rw [List.getElem?_map, List.getElem?_range hj]
  rfl
theorem cell_list {w : World} {g : Nat} {cs : List Value} {t : TypeId} (h : w.heap[g]? = some (.cells cs.toArray t (0, 0))) (j : Nat) : w.cell? ⟨g, j, none⟩ = cs[j]? ∧ w.frozen? ⟨g, j, none⟩ = false := by
  refine ⟨?_, ?_⟩
  · rw [cell_of_row w g j _ t (0, 0) h]; simp
  · unfold World.frozen?; simp only; rw [h]; rfl
set_option maxRecDepth 100000 in
theorem madeL (w : World) (n : Nat) (hn : n ≤ 1048576) :
    (Instr.makeSlice 36 (.int .i64 (n : Int)) (.int .i64 (n : Int))).run Tryd.prog w = .ok (.slice (some ⟨w.heap.size, 0, none⟩) n n) (w.alloc (.cells (outV (fun _ => 0) 0 0 n).toArray 31 (0, 0))) := by
  obtain ⟨i0, hi, hz0, hz1, hz2⟩ := info_parts (show (Tryd.prog.info? 31).map (fun i => (i.zero, i.size, i.bytes)) = some (some (.slice none 0 0), 1, 24) by kernel_rfl)
  rw [run_make (P := Tryd.prog) w 36 31 i0 (.slice none 0 0) Tryd.underlying36 hi hz0 .i64 .i64 (n : Int) (n : Int) (by omega) (by omega) (by rw [hz2]; omega) (by omega)]
  congr 2
  unfold madeCells
  rw [hz1]
  congr 1
  apply Array.ext
  · simp [outV]
  · intro i h1 h2
    simp [Value.cells, outV, Nat.mod_one]
/-- all sectors so far. -/
structure AllI (w : World) (og n sz i : Nat) (kb : Nat → Nat) (T : Nat → Bs) (wx : World) : Prop where
  blk : wx.heap[og]? = some (.cells (outV kb sz i n).toArray 31 (0, 0))
  rows : ∀ j, j < i → Blk8 wx (kb j) (T j) ∧ og < kb j
  inj : ∀ a b, a < i → b < i → kb a = kb b → a = b
  wx : Below w.heap.size w wx
theorem outV_zero (kb kb' : Nat → Nat) (sz sz' n : Nat) : outV kb sz 0 n = outV kb' sz' 0 n := by simp [outV]
theorem AllI.next {w wx w5 : World} {og n sz i : Nat} {kb : Nat → Nat} {T : Nat → Bs} (h : AllI w og n sz i kb T wx) (hi : i < n) (ho : w.heap.size ≤ og) (hr : Blk8 w5 wx.heap.size (T i)) (b : Below wx.heap.size wx w5) :
    AllI w og n sz (i + 1) (fun j => if j = i then wx.heap.size else kb j) T (w5.setCell ⟨og, i, none⟩ (.slice (some ⟨wx.heap.size, 0, none⟩) sz sz)) := by
  have hl := lt_of_block h.blk
  have h5 := (b.block og hl).trans h.blk
  have o := Only.setCell w5 ⟨og, i, none⟩ (.slice (some ⟨wx.heap.size, 0, none⟩) sz sz)
  refine ⟨?_, fun j hj => ?_, fun a c ha hc e => ?_, ?_⟩
  · rw [heap_setCell_same _ _ i _ _ _ h5, outV_step kb sz i n _ hi]
  · by_cases e : j = i
    · subst e
      simp only [if_pos]
      exact ⟨(o.block _ (by show wx.heap.size ≠ og; omega)).trans hr, hl⟩
    · rw [if_neg e]
      obtain ⟨h1, h2⟩ := h.rows j (by omega)
      exact ⟨(o.block _ (by show kb j ≠ og; omega)).trans ((b.block _ (lt_of_block h1)).trans h1), h2⟩
  · have lt : ∀ j, j < i → kb j < wx.heap.size := fun j hj => lt_of_block (h.rows j hj).1
    try simp only at e
    by_cases ea : a = i <;> by_cases ec : c = i
    · omega
    · rw [if_pos ea, if_neg ec] at e
      have := lt c (by omega); omega
    · rw [if_neg ea, if_pos ec] at e
      have := lt a (by omega); omega
    · rw [if_neg ea, if_neg ec] at e
      exact h.inj a c (by omega) (by omega) e
  · exact (h.wx.trans (b.mono h.wx.size)).trans (o.below ho)
/-- a list of rows: what they are. -/
def AllS (w : World) (og n sz : Nat) (kb : Nat → Nat) (T : Nat → Bs) : Prop := w.heap[og]? = some (.cells (outV kb sz n n).toArray 31 (0, 0)) ∧ (∀ j, j < n → Blk8 w (kb j) (T j) ∧ og < kb j) ∧ ∀ a b, a < n → b < n → kb a = kb b → a = b
theorem AllS.below {w w' : World} {og n sz : Nat} {kb : Nat → Nat} {T : Nat → Bs} (h : AllS w og n sz kb T) (b : Below w.heap.size w w') : AllS w' og n sz kb T :=
  ⟨(b.block og (lt_of_block h.1)).trans h.1, fun j hj => ⟨(b.block _ (lt_of_block (h.2.1 j hj).1)).trans (h.2.1 j hj).1, (h.2.1 j hj).2⟩, h.2.2⟩
def LstAt (w : World) (a : Option Addr) (n : Nat) (M : Nat → Bs) : Prop := ∀ i, i < n → ∃ g o s, a = some ⟨g, o, none⟩ ∧ g < w.heap.size ∧ w.cell? ⟨g, o + i, none⟩ = some (sdV s) ∧ Dat w s (M i)
theorem dat_of_blk {w : World} {g sz : Nat} {l : Bs} (h : Blk8 w g l) (hl : l.length = sz) (hs : sz ≤ 1024) : Dat w ⟨some (g, 0), sz, sz⟩ l :=
  ⟨hl.symm, Nat.le_refl _, by show sz ≤ maxLen; unfold maxLen; omega, (fun e => by cases e), .inr ⟨g, 0, rfl, h.row, h.lt⟩⟩
theorem AllS.lst {w : World} {og n sz : Nat} {kb : Nat → Nat} {T : Nat → Bs} (h : AllS w og n sz kb T) (hl : ∀ k, (T k).length = sz) (hs : sz ≤ 1024) : LstAt w (some ⟨og, 0, none⟩) n T := fun i hi =>
  ⟨og, 0, ⟨some (kb i, 0), sz, sz⟩, rfl, lt_of_block h.1, by rw [Nat.zero_add, (cell_list h.1 i).1, outV_at kb sz n n hi, if_pos hi]; rfl, dat_of_blk (h.2.1 i hi).1 (hl i) hs⟩
theorem LstAt.below {w w' : World} {a : Option Addr} {n : Nat} {M : Nat → Bs} (h : LstAt w a n M) (b : Below w.heap.size w w') : LstAt w' a n M := fun i hi => by
  obtain ⟨g, o, s, h1, h2, h3, h4⟩ := h i hi
  exact ⟨g, o, s, h1, Nat.lt_of_lt_of_le h2 b.size, (b.cell (p := ⟨g, o + i, none⟩) h2).trans h3, h4.below b⟩
set_option maxHeartbeats 2000000 in
theorem all_any {w : World} {mo n sz sm nb : Nat} {m : Int → Option Sd} {T : Nat → Bs} {dl : List Nat} (h0 : w.cell? ⟨mo, 0, none⟩ = some (.int .i64 (n : Int))) (h1 : w.cell? ⟨mo, 1, none⟩ = some (.int .i64 (sz : Int))) (hn : n ≤ 1048576) (hs : sz ≤ 1024) (hm : MapS w sm m nb)
    (hi : MIn dl m) (hd : ∀ k ∈ dl, k < w.heap.size) (hh : Holds w n sz T m) (hl : ∀ k, (T k).length = sz) :
    Calls Tryd.prog 27 #[.pointer (some ⟨mo, 0, none⟩), .map (some sm)] w fun e w' => ∃ kb, e = .returned (.slice (some ⟨w.heap.size, 0, none⟩) n n) ∧ AllS w' w.heap.size n sz kb T ∧ Below w.heap.size w w' := by
  have hmk := madeL w n hn
  have hmol := World.block_lt_of_cell? w _ h0
  have HS : Hid (∀ W (k : Nat), Below w.heap.size w W → k < n → Calls Tryd.prog 26 #[.pointer (some ⟨mo, 0, none⟩), .map (some sm), .int .i64 (k : Int)] W fun e w' => e = .returned (.slice (some ⟨W.heap.size, 0, none⟩) sz sz) ∧ Blk8 w' W.heap.size (T k) ∧ Below W.heap.size W w') := fun W k b hk =>
    sector_any ((b.cell (p := ⟨mo, 1, none⟩) hmol).trans h1) hs (hm.keep (b.block sm hm.lt)) k (by omega) (hl k) (hh.same hi b.size (fun z hz => b.block z (hd z hz)) k hk)
  have HA0 : Hid (AllI w w.heap.size n sz 0 (fun _ => 0) T (w.alloc (.cells (outV (fun _ => 0) 0 0 n).toArray 31 (0, 0)))) := by
    refine ⟨?_, fun j hj => absurd hj (Nat.not_lt_zero j), fun a b ha => absurd ha (Nat.not_lt_zero a), (Below.refl _ _).alloc (Nat.le_refl _) _⟩
    rw [heap_alloc_new, outV_zero (fun _ => 0) (fun _ => 0) 0 sz n]
  obtain ⟨w1, hw1⟩ : ∃ w1, w1 = w.alloc (.cells (outV (fun _ => 0) 0 0 n).toArray 31 (0, 0)) := ⟨_, rfl⟩
  rw [← hw1] at hmk HA0
  obtain ⟨og, hog⟩ : ∃ og, og = w.heap.size := ⟨_, rfl⟩
  rw [← hog] at hmk HA0 HS ⊢
  have HOG := Lib.hid hog
  clear hw1 hog hm hi hd hh hl h1 hmol hs
  go_enter Tryd.func27, Tryd.ntmps27
  go_wp2_with fail
  clear hmk h0
  go_loopg [14] n (fun gh s14 wx => ∃ i : Nat, gh = n - i ∧ i ≤ n ∧ s14 = .int .i64 (i : Int) ∧ ∃ kb, Hid (AllI w og n sz i kb T wx))
  case atStart => exact ⟨0, rfl, Nat.zero_le _, rfl, _, HA0⟩
  case round =>
    clear HA0
    obtain ⟨i, hg, hin, rfl, kb, HX⟩ := hrel
    have HI := Lib.hid hg
    clear hg
    by_cases hlt : i < n
    · have x1 : (i : Int) < (n : Int) := by omega
      have x0 : (0 : Int) ≤ (i : Int) := by omega
      have x2 : (i : Int) ≤ 1048576 := by omega
      have HC := Lib.hid (HS.out wr i (by rw [HOG.out]; exact HX.out.wx) hlt)
      have HL := Lib.hid hlt
      clear hlt hin
      go_wp2_with fail
      refine HC.out.mono ?_
      rintro e w5 ⟨rfl, hr, hb⟩
      have h5 := (hb.block og (lt_of_block HX.out.blk)).trans HX.out.blk
      have c5 : w5.cell? ⟨og, i, none⟩ = some (.slice none 0 0) := by rw [(cell_list h5 i).1, outV_at kb sz i n HL.out, if_neg (Nat.lt_irrefl i)]
      have c6 := (cell_list h5 i).2
      have HN := Lib.hid (HX.out.next HL.out (by rw [HOG.out]; exact Nat.le_refl _) hr hb)
      clear hr hb h5 HC
      go_wp2_with fail
      go_roundg (n - (i + 1))
      case measure => have := HI.out; have := HL.out; omega
      case rel => exact ⟨i + 1, rfl, HL.out, by go_num, _, HN⟩
    · obtain rfl : i = n := by omega
      have x1 : ¬ (i : Int) < (i : Int) := by omega
      go_wp2_with fail
      go_ret
      exact ⟨rfl, ⟨kb, HX.out.blk, HX.out.rows, HX.out.inj⟩, by first | exact HX.out.wx | (rw [HOG.out]; exact HX.out.wx)⟩
set_option maxHeartbeats 1000000 in
theorem sectors_any {w : World} {mo n sz : Nat} {T : Nat → Bs} {L : List (Nat × Bs)} {bl dl : List Nat} {cb : Nat} (h : MoAt w mo n sz T L bl dl cb) :
    Calls Tryd.prog 17 #[.pointer (some ⟨mo, 0, none⟩)] w fun e w' => ∃ kb, e = .returned (.slice (some ⟨w.heap.size, 0, none⟩) n n) ∧ AllS w' w.heap.size n sz kb (app T L) ∧ Below w.heap.size w w' := by
  have hlens := h.lens
  obtain ⟨tm, nm, mT, mN, bT, bN, v, E, h⟩ := h
  obtain ⟨q0, q1, _, q3, _, _⟩ := mo_cells h.blk
  have HA := Lib.hid (all_any q0 q1 h.num.2.1 h.num.2.2.2 h.mapN h.inN h.dlt h.holN (app_len L T hlens.1 (fun p hp => (hlens.2.1 p hp).2)))
  clear h hlens q0 q1
  go_enter Tryd.func17, Tryd.ntmps17
  go_wp2_with fail
  refine HA.out.mono ?_
  rintro e w' ⟨kb, rfl, h1, h2⟩
  have HE := Lib.hid (And.intro h1 h2)
  clear h1 h2 HA q3
  go_wp2_with fail
  go_ret
  exact ⟨kb, rfl, HE.out⟩
end Go.Proofs.YtbngkmlipmhgdaaDoor.Mo
