/- An entry taken out of a row. By the verifier of shale. -/
import Derived.Test.YtabpfadbioalgaaDoorWtFind
import Derived.Deep.RegionLaw
import Derived.Laws.IdiomCopy
import Derived.Lib.SliceRun
namespace Go.Proofs.YtabpfadbioalgaaDoor.Wt
open Go Go.RowKit Bin
set_option linter.unusedVariables false
set_option linter.unusedSimpArgs false
theorem set_take {α : Type} (l : List α) (o : Nat) (v : α) (h : o < l.length) : (l.set o v).take (o + 1) = l.take o ++ [v] := by
  rw [List.set_eq_take_append_cons_drop, if_pos h, List.take_append, List.length_take, Nat.min_eq_left (by omega), show o + 1 - o = 1 by omega, List.take_of_length_le (by rw [List.length_take]; omega)]
  rfl
theorem set_drop {α : Type} (l : List α) (o m : Nat) (v : α) (h : o < l.length) : (l.set o v).drop (o + 1 + m) = l.drop (o + 1 + m) := by
  rw [List.drop_set, if_pos (by omega)]
theorem heap_setCells (g : Nat) (e : TypeId) : ∀ (vs : List Value) (o : Nat) (w : World) (cur : Array Value), w.heap[g]? = some (.cells cur e (0, 0)) → o + vs.length ≤ cur.size → ∃ cur', (w.setCells g o vs).heap[g]? = some (.cells cur' e (0, 0)) ∧ cur'.toList = cur.toList.take o ++ vs ++ cur.toList.drop (o + vs.length)
  | [], o, w, cur, h, ho => ⟨cur, h, by simp⟩
  | v :: r, o, w, cur, h, ho => by
    rw [List.length_cons] at ho
    have h1 := heap_setCell_same w g o cur e v h
    obtain ⟨cur', h2, h3⟩ := heap_setCells g e r (o + 1) _ _ h1 (by simp; omega)
    refine ⟨cur', h2, ?_⟩
    have hl : o < cur.toList.length := by simp; omega
    rw [h3, Array.toList_setIfInBounds, set_take _ _ _ hl, set_drop _ _ _ _ hl, List.length_cons, List.append_assoc (cur.toList.take o), show o + (r.length + 1) = o + 1 + r.length by omega]
    rfl
theorem only_setCells (g : Nat) : ∀ (vs : List Value) (o : Nat) (w : World), Only g w (w.setCells g o vs)
  | [], o, w => Only.refl _ _
  | v :: r, o, w => (Only.setCell w ⟨g, o, none⟩ v).trans (only_setCells g r (o + 1) _)
set_option maxRecDepth 100000 in
theorem infoE : ∃ i, Tryd.prog.info? 35 = some i ∧ i.zero = some (.agg #[.int .i64 0, .bool false, .slice none 0 0]) ∧ i.size = 3 ∧ i.bytes = 40 :=
  info_parts (show (Tryd.prog.info? 35).map (fun i => (i.zero, i.size, i.bytes)) = some (some (.agg #[.int .i64 0, .bool false, .slice none 0 0]), 3, 40) by kernel_rfl)
theorem zeroE : ∀ w, (zeroValue 35).run Tryd.prog w = .ok (.agg #[.int .i64 0, .bool false, .slice none 0 0]) w := fun w => by kernel_rfl
/-- the cells of no entry. -/
abbrev noE : List Value := [.int .i64 0, .bool false, .slice none 0 0]
theorem clearE (w : World) (ty : TypeId) (b o c : Nat) (hc : ∀ j, j < 3 → (w.cell? ⟨b, o + j, none⟩).isSome = true) (hf : ∀ j, j < 3 → w.frozen? ⟨b, o + j, none⟩ = false) :
    (Builtin.clear_ #[30] ty #[.slice (some ⟨b, o, none⟩) 1 c]).run Tryd.prog w = .ok (.tuple #[]) (w.setCells b o noE) := by
  have hst := run_storeCells_cells (P := Tryd.prog) b o noE 0 w (by simpa using hc) (by simpa using hf) (by decide)
  simp only [Nat.add_zero] at hst
  simp [Builtin.clear_, run_underlying Tryd.underlying30, zeroE, Builtin.zeroCells, Value.cells]
  show (Sem.run Tryd.prog (storeCells { block := b, off := o } noE) w).andThen _ = _
  rw [hst]
  rfl
set_option maxRecDepth 100000 in
set_option maxHeartbeats 2000000 in
theorem delete_any {w : World} {base g c : Nat} {L : List Ent} (hr : Row w base (.slice (some ⟨g, 0, none⟩) L.length c) L) {i : Nat} (hi : i < L.length) (j : Nat) (hj : j = i + 1) :
    Calls Tryd.prog 32 #[.slice (some ⟨g, 0, none⟩) L.length c, .int .i64 (i : Int), .int .i64 (j : Int)] w fun e w' =>
      e = .returned (.slice (some ⟨g, 0, none⟩) (L.length - 1) c) ∧ Row w' base (.slice (some ⟨g, 0, none⟩) (L.length - 1) c) (L.eraseIdx i) ∧ Only g w w' := by
  obtain ⟨i0, hi0, hz0, hz1, hz2⟩ := infoE
  rcases hr.2 with ⟨h1, h2⟩ | ⟨g', cap, cur, hv, hb, hh, hnc, hcm, hsz, htk⟩
  · omega
  cases hv
  unfold maxLen at hcm
  obtain ⟨n, hn⟩ : ∃ n, n = L.length := ⟨_, rfl⟩
  have HN := Lib.hid hn
  rw [← hn] at hi hnc htk ⊢
  obtain ⟨n1, hn1⟩ : ∃ n1, n1 = n - 1 := ⟨_, rfl⟩
  rw [← hn1]
  obtain ⟨news, hnews⟩ : ∃ news, news = ecells (L.drop j) := ⟨_, rfl⟩
  have hlen : news.length = (n - j) * 3 := by rw [hnews, ecells_length, List.length_drop, ← hn]
  have hcell : ∀ t, t < c * 3 → (w.cell? ⟨g, t, none⟩).isSome = true ∧ w.frozen? ⟨g, t, none⟩ = false := by
    intro t ht
    refine ⟨?_, ?_⟩
    · rw [cell_of_row w g t cur _ (0, 0) hh]
      rw [Array.getElem?_eq_getElem (by omega)]; rfl
    · unfold World.frozen?; simp only; rw [hh]; simp
  have hat : ∀ t u, (ecells L)[t]? = some u → w.cell? ⟨g, t, none⟩ = some u := by
    intro t u hu
    rw [cell_of_row w g t cur _ (0, 0) hh]
    rw [← htk, List.getElem?_take] at hu
    split at hu
    · simpa using hu
    · cases hu
  obtain ⟨A, hA, hsrc⟩ : ∃ A : Addr, (if c = j then some (⟨g, 0, none⟩ : Addr) else some ⟨g, j * 3, none⟩) = some A ∧ Hid (∀ t u, news[t]? = some u → w.drew.cell? (A.add t) = some u) := by
    by_cases h : c = j
    · refine ⟨⟨g, 0, none⟩, by simp [h], fun t u hu => ?_⟩
      have h0 : news.length = 0 := by rw [hlen, show n - j = 0 by omega]
      rw [List.length_eq_zero_iff.1 h0] at hu
      simp at hu
    · refine ⟨⟨g, j * 3, none⟩, by simp [h], fun t u hu => ?_⟩
      rw [hnews, ← ecells_drop, List.getElem?_drop] at hu
      rw [Addr.add_lit]
      exact hat _ _ hu
  have s2 : Hid (∀ u ∈ news, u.oneCell' = true) := by rw [hnews]; exact ecells_one _
  have s3 : Hid (∀ t, t < news.length → (w.drew.cell? ⟨g, 0 + i * 3 + t, none⟩).isSome = true ∧ w.drew.frozen? ⟨g, 0 + i * 3 + t, none⟩ = false) := fun t ht => by
    have := hcell (0 + i * 3 + t) (by rw [hlen] at ht; omega)
    exact this
  obtain ⟨W1, hW1⟩ : ∃ W1, W1 = w.drew.setCells g (0 + i * 3) news := ⟨_, rfl⟩
  obtain ⟨cur1, hh1, hl1⟩ := heap_setCells g _ news (0 + i * 3) w.drew cur hh (by rw [hlen]; omega)
  have o1 : Only g w W1 := by rw [hW1]; exact (Only.drew (Only.refl g w)).trans (only_setCells g news _ _)
  have hh1' : W1.heap[g]? = some (.cells cur1 35 (0, 0)) := by rw [hW1]; exact hh1
  have hsz1 : cur1.size = c * 3 := by
    have := congrArg List.length hl1
    rw [List.length_append, List.length_append, List.length_take, List.length_drop, hlen] at this
    simp only [Array.length_toList] at this
    omega
  have hcl : ∀ ty, (Builtin.clear_ #[30] ty #[.slice (some ⟨g, n1 * 3, none⟩) 1 (c - n1)]).run Tryd.prog W1 = .ok (.tuple #[]) (W1.setCells g (n1 * 3) noE) := fun ty => clearE W1 ty g (n1 * 3) (c - n1) (fun t ht => by
    rw [cell_of_row W1 g _ cur1 _ (0, 0) hh1', Array.getElem?_eq_getElem (by omega)]; rfl) (fun t ht => by unfold World.frozen?; simp only; rw [hh1']; simp)
  obtain ⟨cur2, hh2, hl2⟩ := heap_setCells g _ noE (n1 * 3) W1 cur1 hh1' (by show n1 * 3 + 3 ≤ _; omega)
  have o2 := o1.trans (only_setCells g noE (n1 * 3) W1)
  have hE : L.eraseIdx i = L.take i ++ L.drop j := by rw [List.eraseIdx_eq_take_drop_succ, hj]
  have hel : (L.eraseIdx i).length = n1 := by rw [List.length_eraseIdx_of_lt (by omega), ← hn, hn1]
  have hRow : Row (W1.setCells g (n1 * 3) noE) base (.slice (some ⟨g, 0, none⟩) n1 c) (L.eraseIdx i) := by
    refine ⟨by rw [ecells_length], .inr ⟨g, c, cur2, by rw [hel], hb, hh2, by omega, by unfold maxLen; omega, ?_, ?_⟩⟩
    · have := congrArg List.length hl2
      rw [List.length_append, List.length_append, List.length_take, List.length_drop] at this
      simp only [Array.length_toList, List.length_cons, List.length_nil] at this
      omega
    · have q1 : cur.toList.take (0 + i * 3) = ecells (L.take i) := by
        rw [← ecells_take, ← htk, List.take_take, Nat.min_eq_left (by omega), Nat.zero_add]
      have q2 : (ecells (L.take i) ++ news).length = n1 * 3 := by
        rw [List.length_append, ecells_length, hlen, List.length_take, ← hn, Nat.min_eq_left (by omega)]
        omega
      rw [hel, hl2, List.append_assoc, List.take_append, List.length_take, Array.length_toList, hsz1, Nat.min_eq_left (by omega), Nat.sub_self, List.take_zero, List.append_nil, List.take_take, Nat.min_self, hl1, q1, hE, ecells_append, ← hnews]
      rw [List.take_append_of_le_length (by rw [q2]; exact Nat.le_refl _), List.take_of_length_le (by rw [q2]; exact Nat.le_refl _)]
  have HE := Lib.hid (And.intro hRow o2)
  have hW : Hid (W1 = w.drew.setCells g (0 + i * 3) news) := hW1
  have HL := Lib.hid hlen
  have e1 : i + (n - j) = n1 := by omega
  have HE1 := Lib.hid e1
  have x1 : ((i : Int) == (j : Int)) = false := by rw [beq_eq_false_iff_ne]; omega
  have x2 : ¬ (i : Int) = (j : Int) := by omega
  have x3 : ¬ i = j := by omega
  have x4 : (i == j) = false := by rw [beq_eq_false_iff_ne]; omega
  have y0 : (0 : Int) ≤ (i : Int) := by omega
  have y1 : (i : Int) ≤ (j : Int) := by omega
  have y2 : (j : Int) ≤ (n : Int) := by omega
  have y3 : (n : Int) ≤ (c : Int) := by omega
  have y4 : (j : Int) ≤ (c : Int) := by omega
  have y5 : (i : Int) ≤ (c : Int) := by omega
  have y6 : (0 : Int) ≤ (j : Int) := by omega
  have y7 : (n1 : Int) ≤ (n : Int) := by omega
  have y8 : (n1 : Int) ≤ (c : Int) := by omega
  have y9 : ¬ c = n1 := by omega
  have ya : n - n1 = 1 := by omega
  have yb : (0 : Int) ≤ (n1 : Int) := by omega
  clear hn hr hh hnc htk hnews hcell hat hW1 hh1 hl1 o1 hh1' hsz1 hh2 hl2 o2 hE hel hRow hlen e1 hj hn1 hsz
  go_enter Tryd.func32, Tryd.ntmps32
  go_wp2_with fail
  go_region_law (refine step_append_room rfl (.tmp 22) (.tmp 25) 30 rfl 35 i0 3 Tryd.underlying30 hi0 hz1 g 0 i c (by simp [Act.eval, Act.put]) A (n - j) (c - j) news (by simp [Act.eval, Act.put, hA]) HL.out hsrc.out s2.out (by omega) s3.out ?_; rw [← hW.out, HE1.out])
  go_wp2_with fail
  go_ret
  exact ⟨rfl, HE.out⟩
end Go.Proofs.YtabpfadbioalgaaDoor.Wt
