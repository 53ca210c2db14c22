/- Where a key waits. By the verifier of shale. -/
import Derived.Test.YtabpfadbioalgaaDoorWtOps
import Derived.Deep.LoopGhost
namespace Go.Proofs.YtabpfadbioalgaaDoor.Wt
open Go Go.RowKit Bin
set_option linter.unusedVariables false
set_option linter.unusedSimpArgs false
/-- the first place of a key. -/
def at? (L : List Ent) (key : Int) : Option Nat := L.findIdx? fun e => e.key == key
theorem at_some {L : List Ent} {key : Int} {i : Nat} (h : at? L key = some i) : ∃ e, L[i]? = some e ∧ e.key = key := by
  unfold at? at h
  rw [List.findIdx?_eq_some_iff_getElem] at h
  obtain ⟨hi, h1, _⟩ := h
  exact ⟨L[i], List.getElem?_eq_getElem hi, by simpa using h1⟩
theorem at_none {L : List Ent} {key : Int} (h : at? L key = none) : ∀ e ∈ L, e.key ≠ key := by
  unfold at? at h
  rw [List.findIdx?_eq_none_iff] at h
  intro e he
  have := h e he
  simpa using this
theorem at_here {L : List Ent} {key : Int} {i : Nat} {e : Ent} (h : L[i]? = some e) (hk : e.key = key) (hb : ∀ j, j < i → ∀ d, L[j]? = some d → d.key ≠ key) : at? L key = some i := by
  unfold at?
  rw [List.findIdx?_eq_some_iff_getElem]
  obtain ⟨hi, he⟩ := List.getElem?_eq_some_iff.1 h
  refine ⟨hi, by rw [he]; simpa using hk, fun j hj => ?_⟩
  have := hb j hj _ (List.getElem?_eq_getElem (by omega))
  simpa using this
theorem at_gone {L : List Ent} {key : Int} (hb : ∀ j, j < L.length → ∀ d, L[j]? = some d → d.key ≠ key) : at? L key = none := by
  unfold at?
  rw [List.findIdx?_eq_none_iff]
  intro e he
  obtain ⟨j, hj, rfl⟩ := List.mem_iff_getElem.1 he
  have := hb j hj _ (List.getElem?_eq_getElem hj)
  simpa using this
/-- .. as a number: -1 for none. -/
def idx (L : List Ent) (key : Int) : Int := match at? L key with
  | none => -1
  | some i => (i : Int)
set_option maxHeartbeats 400000 in
theorem key_any (w : World) (kb : Nat) (key k : Int) (b : Bool) (s : Value) (h : w.cell? ⟨kb, 0, none⟩ = some (.int .i64 key)) :
    Calls Tryd.prog 34 #[.agg #[.int .i64 k, .bool b, s], .pointer (some ⟨kb, 0, none⟩)] w fun e w' => e = .returned (.bool (k == key)) ∧ Below w.heap.size w w' := by
  have hlt := World.block_lt_of_cell? _ _ h
  have hB : Below w.heap.size w (w.alloc (.cells #[.int .i64 k, .bool b, s] 35 (0, 0))) := (Below.refl _ _).alloc (Nat.le_refl _) _
  have h2 : (w.alloc (.cells #[.int .i64 k, .bool b, s] 35 (0, 0))).cell? ⟨kb, 0, none⟩ = some (.int .i64 key) := (hB.cell (p := ⟨kb, 0, none⟩) hlt).trans h
  have HB := Lib.hid hB
  clear h hlt hB
  go_enter Tryd.func34, Tryd.ntmps34
  go_wp2_with fail
  go_ret
  exact ⟨rfl, HB.out⟩
set_option maxRecDepth 100000 in
set_option maxHeartbeats 1000000 in
theorem index_any {w : World} {base : Nat} {a : Option Addr} {c : Nat} {L : List Ent} (hr : Row w base (.slice a L.length c) L) (kb : Nat) (key : Int) (h : w.cell? ⟨kb, 0, none⟩ = some (.int .i64 key)) :
    Calls Tryd.prog 33 #[.slice a L.length c, .func (.func 34) #[] #[.pointer (some ⟨kb, 0, none⟩)]] w fun e w' => e = .returned (.int .i64 (idx L key)) ∧ Below w.heap.size w w' := by
  have hlt := World.block_lt_of_cell? _ _ h
  obtain ⟨_, c', e', hc1, hc2, _⟩ := row_slice hr
  cases e'
  unfold maxLen at hc2
  have HR := Lib.hid (And.intro hr (And.intro h hlt))
  obtain ⟨n, hn⟩ : ∃ n, n = L.length := ⟨_, rfl⟩
  have HN := Lib.hid hn
  have hn2 : n ≤ 9223372036854775807 := by omega
  rw [← hn]
  have HB0 : Hid (Below w.heap.size w w ∧ ∀ j, j < 0 → ∀ d, L[j]? = some d → d.key ≠ key) := ⟨Below.refl _ _, fun j hj => by omega⟩
  clear hr h hlt hn hc1 hc2
  go_enter Tryd.func33, Tryd.ntmps33
  go_wp2_with fail
  obtain ⟨w0, hw0⟩ : ∃ w', w' = w := ⟨_, rfl⟩
  have HB1 : Hid (Below w.heap.size w w0 ∧ ∀ j, j < 0 → ∀ d, L[j]? = some d → d.key ≠ key) := by rw [hw0]; exact HB0.out
  rw [← hw0]
  clear HB0 hw0
  go_loopg [8] n (fun gh s8 wx => ∃ i : Nat, gh = n - i ∧ i ≤ n ∧ s8 = .int .i64 (i : Int) ∧ Hid (Below w.heap.size w wx ∧ ∀ j, j < i → ∀ d, L[j]? = some d → d.key ≠ key))
  case atStart => exact ⟨0, rfl, Nat.zero_le _, rfl, HB1⟩
  case round =>
    clear HB1
    obtain ⟨i, hg, hin, rfl, HX⟩ := hrel
    have HI := Lib.hid (And.intro hg hin)
    clear hg
    obtain ⟨w4, rfl⟩ : ∃ w', w' = wr := ⟨_, rfl⟩
    by_cases hlt : i < n
    · have x1 : (i : Int) < (n : Int) := by omega
      have x0 : (0 : Int) ≤ (i : Int) := by omega
      obtain ⟨e, he⟩ : ∃ e, L[i]? = some e := ⟨L[i]'(by rw [← HN.out]; exact hlt), List.getElem?_eq_getElem _⟩
      have hb := HX.out.1
      obtain ⟨g, rfl, hgb, d0, d1, d2⟩ := row_cells HR.out.1 he
      have y0 : w4.cell? ⟨g, i * 3, none⟩ = some (.int .i64 e.key) := (hb.cell (p := ⟨g, i * 3, none⟩) (World.block_lt_of_cell? _ _ d0)).trans d0
      have y1 : w4.cell? ⟨g, i * 3 + 1, none⟩ = some (.bool e.trim) := (hb.cell (p := ⟨g, i * 3 + 1, none⟩) (World.block_lt_of_cell? _ _ d1)).trans d1
      have y2 : w4.cell? ⟨g, i * 3 + 2, none⟩ = some (.slice e.a e.n e.c) := (hb.cell (p := ⟨g, i * 3 + 2, none⟩) (World.block_lt_of_cell? _ _ d2)).trans d2
      have hk : w4.cell? ⟨kb, 0, none⟩ = some (.int .i64 key) := (hb.cell (p := ⟨kb, 0, none⟩) HR.out.2.2).trans HR.out.2.1
      have HE := Lib.hid (And.intro he hlt)
      clear he hlt hb d0 d1 d2 hin
      cases hkk : (e.key == key)
      · have HNx : ∀ w6, Below w4.heap.size w4 w6 → Hid (Below w.heap.size w w6 ∧ ∀ j, j < i + 1 → ∀ d, L[j]? = some d → d.key ≠ key) := fun w6 b => ⟨HX.out.1.trans (b.mono HX.out.1.size), fun j hj d hd => by
          by_cases h1 : j < i
          · exact HX.out.2 j h1 d hd
          · obtain rfl : j = i := by omega
            rw [HE.out.1] at hd
            cases hd
            simpa using hkk⟩
        have HNy := Lib.hid HNx
        have HK := Lib.hid hkk
        clear HNx hkk
        go_wp2_with (go_at_call 34; (with_reducible refine (key_any _ _ _ _ _ _ hk).mono ?_); rintro e6 w6 ⟨rfl, b6⟩; rw [HK.out]; replace HNy := HNy.out w6 b6; clear b6)
        go_roundg (n - (i + 1))
        case measure => have := HI.out; have := HE.out; omega
        case rel => exact ⟨i + 1, rfl, HE.out.2, by go_num, HNy⟩
      · have hat : idx L key = (i : Int) := by
          unfold idx
          rw [at_here HE.out.1 (by simpa using hkk) HX.out.2]
        have HA := Lib.hid hat
        have HK := Lib.hid hkk
        clear hat hkk
        go_wp2_with (go_at_call 34; (with_reducible refine (key_any _ _ _ _ _ _ hk).mono ?_); rintro e6 w6 ⟨rfl, b6⟩; rw [HK.out]; replace b6 := Lib.hid b6)
        go_ret
        exact ⟨by rw [HA.out]; rfl, HX.out.1.trans (b6.out.mono HX.out.1.size)⟩
    · have x1 : ¬ (i : Int) < (n : Int) := by omega
      obtain rfl : n = i := by omega
      have hat : idx L key = -1 := by
        unfold idx
        rw [at_gone (by rw [← HN.out]; exact HX.out.2)]
      have HA := Lib.hid hat
      clear hat hlt hin
      go_wp2_with fail
      go_ret
      exact ⟨by rw [HA.out]; rfl, HX.out.1⟩
/-- find: where the key waits. -/
theorem find_any {w : World} {base bb : Nat} {sz mo sc : Int} {v : Value} {L : List Ent} (B : BufAt w base bb sz mo sc v L) (key : Int) :
    Calls Tryd.prog 25 #[.pointer (some ⟨bb, 0, none⟩), .int .i64 key] w fun e w' => e = .returned (.int .i64 (idx L key)) ∧ Below w.heap.size w w' := by
  obtain ⟨w1, hw1⟩ : ∃ w1, w1 = w.alloc (.cells #[.int .i64 key] 3 (0, 0)) := ⟨_, rfl⟩
  have b1 : Below w.heap.size w w1 := by rw [hw1]; exact (Below.refl _ _).alloc (Nat.le_refl _) _
  have hk : w1.cell? ⟨w.heap.size, 0, none⟩ = some (.int .i64 key) := by
    rw [hw1]; exact cell_of_one (heap_alloc_new w _)
  obtain ⟨a, c, rfl, h1, h2, _⟩ := row_slice B.row
  have B1 := B.below b1
  have HX := Lib.hid (index_any B1.row w.heap.size key hk)
  obtain ⟨k0, k1, k2, k3, _⟩ := B1.cells
  obtain ⟨kb, hkb⟩ : ∃ kb, kb = w.heap.size := ⟨_, rfl⟩
  have HB1 := Lib.hid b1
  clear B B1 b1 hk
  go_enter Tryd.func25, Tryd.ntmps25
  go_upto_region 1 with (fail)
  rw [← hw1]
  clear hw1 hkb
  go_wp2_with fail
  refine HX.out.mono ?_
  rintro e6 w6 ⟨rfl, b6⟩
  replace b6 := Lib.hid b6
  go_wp2_with fail
  go_ret
  exact ⟨rfl, HB1.out.trans (b6.out.mono HB1.out.size)⟩
end Go.Proofs.YtabpfadbioalgaaDoor.Wt
