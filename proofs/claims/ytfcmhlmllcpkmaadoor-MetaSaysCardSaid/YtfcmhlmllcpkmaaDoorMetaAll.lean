/- The walks over package meta's Open, whatever the bytes; shaleref.SameMeta. By the verifier of shale. -/
import Derived.Test.YtfcmhlmllcpkmaaDoorMetaOpenB
import Derived.Test.YtfcmhlmllcpkmaaDoorMetaOpenC
import Derived.Test.YtfcmhlmllcpkmaaDoorMetaOpenD
import Derived.Test.YtfcmhlmllcpkmaaDoorMetaNewer
namespace Go.Proofs.YtfcmhlmllcpkmaaDoor.Meta
open Go Go.RowKit Crc
set_option linter.unusedVariables false
theorem open_any (l d : List (BitVec 8)) (a : Option Addr) (n cap : Nat) (v : Value) (w : World) (ht : Tab w) (h1 : IsBytes w (.slice a n cap) l) (hn : n = l.length) (hc : n ≤ cap) (p : Addr) (E : ErrAt w 0 p) (hv : Arg8 w v d) :
    Calls Tryd.prog 11 #[.slice a n cap, v] w (OpenAt l d p w) := by
  by_cases h32 : n = 32
  · rcases h1 with ⟨rfl, _⟩ | ⟨bb, off, cap', e, hr, hb⟩
    · rw [h32] at hn; cases hn
    · simp only [Value.slice.injEq] at e
      obtain ⟨rfl, _, rfl⟩ := e
      subst h32
      by_cases hx : un32 (l.drop 28) = Bits32.u (crc (l.take 28))
      · by_cases hy : un32 (l.drop 24) = Bits32.u (crc d)
        · exact open_sums l d bb off cap v w ht hr hb hn.symm hc p E hv hx hy
        · exact open_data l d bb off cap v w ht hr hb hn.symm hc p E hv hx hy
      · exact open_own l d bb off cap v w ht hr hb hn.symm hc p E hx
  · exact open_far l d a n cap v w hn h32 p E
/-- are two records the same? -/
def sameM (a b : M6) : Bool := (List.range 6).all fun i => fld a i == fld b i
theorem sameM_iff (a b : M6) : sameM a b = true ↔ ∀ i, i < 6 → fld a i = fld b i := by
  unfold sameM
  rw [List.all_eq_true]
  exact ⟨fun h i hi => by simpa using h i (List.mem_range.2 hi), fun h i hi => by simpa using h i (List.mem_range.1 hi)⟩
theorem sameM_eq (a b : M6) : sameM a b = true ↔ a = b := by
  rw [sameM_iff]
  constructor
  · intro h
    have h0 := h 0 (by omega); have h1 := h 1 (by omega); have h2 := h 2 (by omega); have h3 := h 3 (by omega); have h4 := h 4 (by omega); have h5 := h 5 (by omega)
    cases a; cases b
    simp only [fld] at h0 h1 h2 h3 h4 h5
    subst h0; subst h1; subst h2; subst h3; subst h4; subst h5
    rfl
  · rintro rfl i _; rfl
set_option maxRecDepth 100000 in
set_option maxHeartbeats 1000000 in
theorem sameMeta_any (a b : M6) (w : World) : Calls Tryd.prog 12 #[metaV a, metaV b] w fun e w' => e = .returned (.bool (sameM a b)) ∧ Below w.heap.size w w' := by
  obtain ⟨h1, h2, B⟩ := rec_two w a b
  have HL := Lib.hid (And.intro h1 (And.intro h2 B))
  clear h1 h2 B
  have no : ∀ i, i < 6 → (fld a i == fld b i) = false → sameM a b = false := by
    intro i hi h
    rw [Bool.eq_false_iff]
    intro g
    rw [beq_eq_false_iff_ne] at h
    exact h ((sameM_iff a b).1 g i hi)
  have yes : (∀ i, i < 6 → (fld a i == fld b i) = true) → sameM a b = true := by
    intro h
    rw [sameM_iff]
    intro i hi
    exact beq_iff_eq.1 (h i hi)
  have cs : ((fld a 0 == fld b 0) = false ∧ sameM a b = false) ∨ ((fld a 0 == fld b 0) = true ∧ (fld a 1 == fld b 1) = false ∧ sameM a b = false) ∨ ((fld a 0 == fld b 0) = true ∧ (fld a 1 == fld b 1) = true ∧ (fld a 2 == fld b 2) = false ∧ sameM a b = false) ∨
      ((fld a 0 == fld b 0) = true ∧ (fld a 1 == fld b 1) = true ∧ (fld a 2 == fld b 2) = true ∧ (fld a 3 == fld b 3) = false ∧ sameM a b = false) ∨
      ((fld a 0 == fld b 0) = true ∧ (fld a 1 == fld b 1) = true ∧ (fld a 2 == fld b 2) = true ∧ (fld a 3 == fld b 3) = true ∧ (fld a 4 == fld b 4) = false ∧ sameM a b = false) ∨
      ((fld a 0 == fld b 0) = true ∧ (fld a 1 == fld b 1) = true ∧ (fld a 2 == fld b 2) = true ∧ (fld a 3 == fld b 3) = true ∧ (fld a 4 == fld b 4) = true ∧ (fld a 5 == fld b 5) = sameM a b) := by
    rcases Bool.eq_false_or_eq_true (fld a 0 == fld b 0) with e0 | e0
    · rcases Bool.eq_false_or_eq_true (fld a 1 == fld b 1) with e1 | e1
      · rcases Bool.eq_false_or_eq_true (fld a 2 == fld b 2) with e2 | e2
        · rcases Bool.eq_false_or_eq_true (fld a 3 == fld b 3) with e3 | e3
          · rcases Bool.eq_false_or_eq_true (fld a 4 == fld b 4) with e4 | e4
            · refine Or.inr (Or.inr (Or.inr (Or.inr (Or.inr ⟨e0, e1, e2, e3, e4, ?_⟩))))
              rcases Bool.eq_false_or_eq_true (fld a 5 == fld b 5) with e5 | e5
              · rw [e5, yes]
                intro i hi
                rcases (by omega : i = 0 ∨ i = 1 ∨ i = 2 ∨ i = 3 ∨ i = 4 ∨ i = 5) with rfl | rfl | rfl | rfl | rfl | rfl <;> assumption
              · rw [e5, no 5 (by omega) e5]
            · exact Or.inr (Or.inr (Or.inr (Or.inr (Or.inl ⟨e0, e1, e2, e3, e4, no 4 (by omega) e4⟩))))
          · exact Or.inr (Or.inr (Or.inr (Or.inl ⟨e0, e1, e2, e3, no 3 (by omega) e3⟩)))
        · exact Or.inr (Or.inr (Or.inl ⟨e0, e1, e2, no 2 (by omega) e2⟩))
      · exact Or.inr (Or.inl ⟨e0, e1, no 1 (by omega) e1⟩)
    · exact Or.inl ⟨e0, no 0 (by omega) e0⟩
  clear no yes
  go_enter Tryd.func12, Tryd.ntmps12
  go_upto_region 1 with (fail)
  obtain ⟨h1, h2, B⟩ := HL.out
  clear HL
  generalize (w.alloc (.cells #[.int .i64 (fld a 0), .int .i64 (fld a 1), .int .i64 (fld a 2), .int .i64 (fld a 3), .int .i64 (fld a 4), .int .i64 (fld a 5)] 23)).alloc (.cells #[.int .i64 (fld b 0), .int .i64 (fld b 1), .int .i64 (fld b 2), .int .i64 (fld b 3), .int .i64 (fld b 4), .int .i64 (fld b 5)] 23) = w1 at h1 h2 B ⊢
  have c0 := h1.cell 0 (by omega); have c1 := h1.cell 1 (by omega); have c2 := h1.cell 2 (by omega); have c3 := h1.cell 3 (by omega); have c4 := h1.cell 4 (by omega); have c5 := h1.cell 5 (by omega)
  have d0 := h2.cell 0 (by omega); have d1 := h2.cell 1 (by omega); have d2 := h2.cell 2 (by omega); have d3 := h2.cell 3 (by omega); have d4 := h2.cell 4 (by omega); have d5 := h2.cell 5 (by omega)
  rcases cs with ⟨o0, o⟩ | ⟨o0, o1, o⟩ | ⟨o0, o1, o2, o⟩ | ⟨o0, o1, o2, o3, o⟩ | ⟨o0, o1, o2, o3, o4, o⟩ | ⟨o0, o1, o2, o3, o4, o⟩
  all_goals
    have HO := Lib.hid o
    clear o
    go_wp2_with fail
    go_ret
    exact ⟨ret_bool (by rw [HO.out]), B⟩
/-- Bytes, whatever the record. -/
theorem rec_inj {m n : M6} (hm : May m) (hn : May n) (d : List (BitVec 8)) : decide (rec32 m d = rec32 n d) = sameM m n := by
  rw [Bool.eq_iff_iff, decide_eq_true_iff, sameM_eq]
  constructor
  · intro h
    have := congrArg parse h
    rwa [parse_rec m hm, parse_rec n hn] at this
  · rintro rfl; rfl
theorem rec_cut (m : M6) (d : List (BitVec 8)) : ((rec32 m d).drop 24).take 4 = le32 (Bits32.u (crc d)) := by
  have : rec32 m d = flds m 6 ++ (le32 (Bits32.u (crc d)) ++ le32 (Bits32.u (crc (body m d)))) := by unfold rec32 body; rw [List.append_assoc]
  rw [this, List.drop_left' (flds_length m 6), List.take_left' (le32_length _)]
theorem le32_inj {a b : Int} (ha : 0 ≤ a) (ha' : a < 4294967296) (hb : 0 ≤ b) (hb' : b < 4294967296) (h : le32 a = le32 b) : a = b := by
  have := congrArg un32 h
  have e1 := un32_le32 a ha ha' []
  have e2 := un32_le32 b hb hb' []
  rw [List.append_nil] at e1 e2
  rwa [e1, e2] at this
theorem cut_same (m k : M6) (d o : List (BitVec 8)) : decide (((rec32 m d).drop 24).take 4 = ((rec32 k o).drop 24).take 4) = decide (Bits32.u (crc d) = Bits32.u (crc o)) := by
  rw [rec_cut, rec_cut, decide_eq_decide]
  exact ⟨le32_inj (Bits32.u_lo _) (Bits32.u_hi _) (Bits32.u_lo _) (Bits32.u_hi _), fun h => by rw [h]⟩
theorem good_other {m : M6} (hm : May m) (d o : List (BitVec 8)) : Good (rec32 m d) o ↔ Bits32.u (crc d) = Bits32.u (crc o) := by
  constructor
  · intro h
    have := h.2.2.1
    rwa [rec_sum] at this
  · intro h
    have := rec_good m hm d
    exact ⟨this.1, this.2.1, by rw [rec_sum]; exact h, this.2.2.2⟩
end Go.Proofs.YtfcmhlmllcpkmaaDoor.Meta
