/- The maker of a field: what it lays. By the verifier of shale. -/
import Derived.Test.YtgfaaaeechgjmaaDoorFldWalks
import Derived.Test.YtgfaaaeechgjmaaDoorFldPoly
namespace Go.Proofs.YtgfaaaeechgjmaaDoor.Fld
open Go Go.RowKit Bits16
set_option linter.unusedVariables false
/-- the first k powers of 2. -/
def exL (m k : Nat) : List Int := (List.range k).map fun i => h (pw m i)
theorem exL_length (m k : Nat) : (exL m k).length = k := by simp [exL]
theorem exL_succ (m k : Nat) : exL m (k + 1) = exL m k ++ [h (pw m k)] := by simp [exL, List.range_succ]
theorem exL_at (m k i : Nat) (hi : i < k) : nth64 (exL m k) i = h (pw m i) := by simp [nth64, exL, hi]
/-- the logarithms below k, 0 elsewhere. -/
def lgL (m k : Nat) : List Int := (List.range (els m)).map fun a => if a ≠ 0 ∧ lg m (BitVec.ofNat 16 a) < k then (lg m (BitVec.ofNat 16 a) : Int) else 0
theorem lgL_length (m k : Nat) : (lgL m k).length = els m := by simp [lgL]
theorem lgL_zero (m : Nat) : lgL m 0 = List.replicate (els m) 0 := by
  apply List.ext_getElem
  · simp [lgL]
  · intro i h1 h2
    simp [lgL]
theorem lgL_set (m : Nat) (h1 : 3 ≤ m) (h2 : m ≤ 14) (k : Nat) (hk : k < size m) : (lgL m k).set (h (pw m k)).toNat (k : Int) = lgL m (k + 1) := by
  have e : (h (pw m k)).toNat = (pw m k).toNat := by unfold h; omega
  rw [e]
  obtain ⟨p1, p2⟩ := pw_ne m h1 h2 k
  have hp := nat_pos _ p1
  have hm := pow14 m h2
  apply List.ext_getElem
  · simp [lgL]
  · intro i a b
    have hi : i < els m := by simpa [lgL] using b
    have hi2 : i < 2 ^ m := hi
    by_cases hc : (pw m k).toNat = i
    · have e2 : BitVec.ofNat 16 i = pw m k := by rw [← hc]; simp
      rw [List.getElem_set, if_pos hc]
      simp only [lgL, List.getElem_map, List.getElem_range, e2, lg_pw m h1 h2 k hk]
      rw [if_pos ⟨by omega, by omega⟩]
    · rw [List.getElem_set, if_neg hc]
      simp only [lgL, List.getElem_map, List.getElem_range]
      by_cases h0 : i = 0
      · subst h0; simp
      · have hn : (BitVec.ofNat 16 i).toNat = i := by rw [BitVec.toNat_ofNat]; exact Nat.mod_eq_of_lt (by omega)
        have hne : BitVec.ofNat 16 i ≠ 0 := by
          intro e3
          rw [e3] at hn
          exact h0 hn.symm
        obtain ⟨l1, l2⟩ := lg_spec m h1 h2 (BitVec.ofNat 16 i) (by omega) hne
        have hlk : lg m (BitVec.ofNat 16 i) ≠ k := by
          intro e3
          rw [e3] at l2
          apply hc
          rw [l2, hn]
        by_cases hlt : lg m (BitVec.ofNat 16 i) < k
        · rw [if_pos ⟨h0, hlt⟩, if_pos ⟨h0, by omega⟩]
        · rw [if_neg (fun e => hlt e.2), if_neg (fun e => by have := e.2; omega)]
theorem lgL_at (m : Nat) (h1 : 3 ≤ m) (h2 : m ≤ 14) (x : BitVec 16) (hx : x.toNat < 2 ^ m) : nth64 (lgL m (size m)) (h x).toNat = (lg m x : Int) := by
  have e : (h x).toNat = x.toNat := by unfold h; omega
  have hx2 : x.toNat < els m := hx
  rw [e]
  unfold nth64
  simp only [lgL, List.getD_eq_getElem?_getD]
  rw [List.getElem?_map, List.getElem?_range hx2]
  simp only [Option.map_some, Option.getD_some, BitVec.ofNat_toNat, BitVec.setWidth_eq]
  by_cases h0 : x = 0
  · subst h0
    rw [lg_zero m h1 h2]; simp
  · obtain ⟨l1, l2⟩ := lg_spec m h1 h2 x hx h0
    rw [if_pos ⟨by have := nat_pos x h0; omega, l1⟩]
/-- Block s is the field of m, its tables in blocks be and bl. -/
def FldAt (m : Nat) (w : World) (s be ce bl : Nat) : Prop :=
  w.heap[s]? = some (.cells #[.int .i64 (m : Int), .slice (some ⟨be, 0, none⟩) (size m) ce, .slice (some ⟨bl, 0, none⟩) (els m) (els m)] 67 (0, 0)) ∧ size m ≤ ce ∧
  (∀ i, i < size m → w.cell? ⟨be, i, none⟩ = some (.int .i64 (h (pw m i)))) ∧ (∀ x : BitVec 16, x.toNat < 2 ^ m → w.cell? ⟨bl, (h x).toNat, none⟩ = some (.int .i64 (lg m x : Int)))
theorem FldAt.lt {m : Nat} {w : World} {s be ce bl : Nat} (f : FldAt m w s be ce bl) (h1 : 3 ≤ m) : s < w.heap.size ∧ be < w.heap.size ∧ bl < w.heap.size :=
  ⟨lt_of_block f.1, World.block_lt_of_cell? w _ (f.2.2.1 0 (by have := size_pos m h1; omega)), World.block_lt_of_cell? w _ (f.2.2.2 1 (one_lt m h1))⟩
theorem FldAt.below {m : Nat} {w w' : World} {s be ce bl : Nat} (f : FldAt m w s be ce bl) (h1 : 3 ≤ m) (b : Below w.heap.size w w') : FldAt m w' s be ce bl := by
  obtain ⟨l1, l2, l3⟩ := f.lt h1
  exact ⟨(b.block s l1).trans f.1, f.2.1, fun i hi => (b.cell (p := ⟨be, i, none⟩) l2).trans (f.2.2.1 i hi), fun x hx => (b.cell (p := ⟨bl, _, none⟩) l3).trans (f.2.2.2 x hx)⟩
theorem FldAt.since {m : Nat} {w w' : World} {s be ce bl B : Nat} (f : FldAt m w s be ce bl) (h1 : 3 ≤ m) (hB : w.heap.size ≤ B) (b : Below B w w') : FldAt m w' s be ce bl := f.below h1 (b.mono hB)
theorem FldAt.drawn {m : Nat} {w w' : World} {s be ce bl : Nat} (f : FldAt m w s be ce bl) (h1 : 3 ≤ m) (d : Drawn w w') : FldAt m w' s be ce bl := f.below h1 (d.below _)
theorem FldAt.cells {m : Nat} {w : World} {s be ce bl : Nat} (f : FldAt m w s be ce bl) :
    w.cell? ⟨s, 0, none⟩ = some (.int .i64 (m : Int)) ∧ w.cell? ⟨s, 1, none⟩ = some (.slice (some ⟨be, 0, none⟩) (size m) ce) ∧ w.cell? ⟨s, 2, none⟩ = some (.slice (some ⟨bl, 0, none⟩) (els m) (els m)) := by
  have e := f.1
  refine ⟨?_, ?_, ?_⟩ <;> (unfold World.cell?; simp only; rw [e]; rfl)
/-- what the maker's loop has laid behind k rounds. -/
def Laying (m B k : Nat) (w wx : World) (v : Value) : Prop :=
  Own64 wx (B + 2) v k (exL m k) ∧ wx.heap[B + 1]? = some (.cells #[.int .i64 (m : Int), v, .slice (some ⟨B, 0, none⟩) (els m) (els m)] 67 (0, 0)) ∧ Blk64 wx B (lgL m k) ∧ Below B w wx
end Go.Proofs.YtgfaaaeechgjmaaDoor.Fld
