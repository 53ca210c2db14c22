/- Texts of the verifier of shale, laid into one: BoolMem, RefLoc, RefLoc2. -/
import Derived.Test.YtjpaihnnljpaeaaDoorGreat1
import Derived.Test.YtjpaihnnljpaeaaDoorGreat2
import Derived.WalkKit
import Derived.Deep.AppendLies
import Derived.Deep.RegionLaw
/- Blocks of bools that the call itself makes. By the verifier of shale. -/
namespace Go.Proofs.YtjpaihnnljpaeaaDoor
open Go Go.RowKit
set_option linter.unusedVariables false
def objB (l : List Bool) : Obj := .cells (l.map Value.bool).toArray 4 (0, 0)
/-- block g is the first N values of p. -/
def BF (w : World) (g N : Nat) (p : Nat → Bool) : Prop := w.heap[g]? = some (objB ((List.range N).map p))
theorem BF.lt {w : World} {g N : Nat} {p : Nat → Bool} (h : BF w g N p) : g < w.heap.size := lt_of_block h
theorem BF.cell {w : World} {g N : Nat} {p : Nat → Bool} (h : BF w g N p) {i : Nat} (hi : i < N) : w.cell? ⟨g, i, none⟩ = some (.bool (p i)) := by
  unfold World.cell?
  simp only
  rw [show w.heap[g]? = some (objB ((List.range N).map p)) from h]
  simp [objB, hi]
theorem BF.free {w : World} {g N : Nat} {p : Nat → Bool} (h : BF w g N p) (i : Nat) : w.frozen? ⟨g, i, none⟩ = false := by
  unfold World.frozen?
  simp only
  rw [show w.heap[g]? = some (objB ((List.range N).map p)) from h]
  rfl
theorem BF.of {w : World} {g N : Nat} {p q : Nat → Bool} (h : BF w g N p) (e : ∀ i, i < N → p i = q i) : BF w g N q := by
  unfold BF at h ⊢
  rw [h]
  congr 2
  exact List.map_congr_left fun i hi => e i (List.mem_range.1 hi)
theorem BF.set {w : World} {g N : Nat} {p : Nat → Bool} (h : BF w g N p) (k : Nat) : BF (w.setCell ⟨g, k, none⟩ (.bool true)) g N (fun i => p i || decide (i = k)) := by
  unfold BF
  rw [heap_setCell_same w g k _ _ _ h]
  congr 2
  apply Array.ext
  · simp
  · intro i h1 h2
    simp at h1 h2
    by_cases e : i = k
    · subst e; simp
    · simp [e, Ne.symm e]
set_option maxRecDepth 100000 in
theorem infoB : ∃ i, Tryd.prog.info? 4 = some i ∧ i.zero = some (.bool false) ∧ i.size = 1 ∧ i.bytes = 1 :=
  info_parts (show (Tryd.prog.info? 4).map (fun i => (i.zero, i.size, i.bytes)) = some (some (.bool false), 1, 1) by kernel_rfl)
set_option maxRecDepth 100000 in
theorem madeB (w : World) (n : Nat) (hn : n ≤ 1000000) :
    (Instr.makeSlice 45 (.int .i64 (n : Int)) (.int .i64 (n : Int))).run Tryd.prog w = .ok (.slice (some ⟨w.heap.size, 0, none⟩) n n) (w.alloc (objB (List.replicate n false))) := by
  obtain ⟨i0, hi, hz0, hz1, hz2⟩ := infoB
  rw [run_make (P := Tryd.prog) w 45 4 i0 (.bool false) Tryd.underlying45 hi hz0 .i64 .i64 (n : Int) (n : Int) (by omega) (by omega) (by rw [hz2]; omega) (by omega)]
  congr 2
  unfold objB madeCells
  rw [hz1]
  congr 1
  apply Array.ext
  · simp
  · intro i h1 h2
    simp [Value.cells, Nat.mod_one]
theorem BF.new (w : World) (n : Nat) : BF (w.alloc (objB (List.replicate n false))) w.heap.size n (fun _ => false) := by
  unfold BF
  rw [heap_alloc_new]
  congr 2
  apply List.ext_getElem
  · simp
  · intro i h1 h2; simp
end Go.Proofs.YtjpaihnnljpaeaaDoor
/- The reference's Places and Makes, the refusals of Makes. By the verifier of shale. -/
namespace Go.Proofs.YtjpaihnnljpaeaaDoor.Loc
open Go Go.RowKit Pl Fld Bits16
set_option linter.unusedVariables false
section
variable {m : Nat} [M : Mid m]
set_option maxRecDepth 100000 in
set_option maxHeartbeats 1000000 in
theorem rplaces_any (a : Option Addr) (n c : Nat) (l : List Int) (w : World) (r : RowZ w a n c l) (hn : n ≤ 100) :
    Calls Tryd.prog 18 #[.int .i64 (m : Int), .slice a n c] w fun e w' => ∃ a' n' c', e = .returned (.slice a' n' c') ∧ NV m w' (n + 1) a' n' c' (lamZ m l) ∧ Below w.heap.size w w' := by
  have HR := Lib.hid r
  have hz1 := row_one w
  have b2 : Below w.heap.size w (w.alloc (.cells #[.int .i64 1] 3 (0, 0))) := (Below.refl _ _).alloc (Nat.le_refl _) _
  have H0 : Hid (NV m (w.alloc (.cells #[.int .i64 1] 3 (0, 0))) 1 (some ⟨w.heap.size, 0, none⟩) 1 1 pone ∧ Below w.heap.size w (w.alloc (.cells #[.int .i64 1] 3 (0, 0)))) := ⟨nv_one hz1, b2⟩
  clear hz1 b2 r
  go_enter Tryd.func18, Tryd.ntmps18
  go_wp2_with fail
  go_loopg [5, 6] n (fun gh s5 s6 wx => ∃ (j : Nat) (a1 : Option Addr) (n1 c1 : Nat), gh = n - j ∧ j ≤ n ∧ s6 = .int .i64 (j : Int) ∧ s5 = .slice a1 n1 c1 ∧ NV m wx (j + 1) a1 n1 c1 (lamZ m (l.take j)) ∧ Below w.heap.size w wx)
  case atStart => exact ⟨0, _, _, _, rfl, Nat.zero_le _, rfl, rfl, H0.out.1, H0.out.2⟩
  case round =>
    clear H0
    obtain ⟨j, a1, n1, c1, hg, hj, rfl, rfl, nv, B⟩ := hrel
    have HG := Lib.hid hg
    clear hg
    by_cases hlt : j < n
    · have x0 : (j : Int) < (n : Int) := by omega
      have x1 : (0 : Int) ≤ (j : Int) := by omega
      obtain ⟨bb, off, rfl, cc, _⟩ := (HR.out.below B).row j hlt
      have HL : Hid (lamZ m (l.take (j + 1)) = cv (lamZ m (l.take j)) (two (exK m (l.getD j 0))) ∧ Bd (lamZ m (l.take (j + 1))) (j + 1 + 1)) := by
        refine ⟨by rw [Loc.take_snoc l j (by have := HR.out.hlen; omega), lamZ_snoc], ?_⟩
        have := lamZ_bd (m := m) (l.take (j + 1))
        rwa [List.length_take, show min (j + 1) l.length = j + 1 by have := HR.out.hlen; omega] at this
      have HV := Lib.hid (And.intro nv B)
      generalize l.getD j 0 = z at cc HL
      clear nv B
      go_wp2_with fail
      refine (rexp_any m M.lo M.hi z wr).mono ?_
      rintro e w3 ⟨rfl, b3⟩
      have HV3 : Hid (NV m w3 (j + 1) a1 n1 c1 (lamZ m (l.take j)) ∧ Below w.heap.size w w3) := ⟨HV.out.1.below b3, HV.out.2.trans (b3.mono HV.out.2.size)⟩
      clear cc HV b3
      go_wp2_with fail
      generalize hw : w3.alloc (.cells #[.int .i64 1, .int .i64 (h (pwZ m z))] 3 (0, 0)) = w4
      obtain ⟨hl, b4, hs⟩ := lit_new w3 w4 [1, h (pwZ m z)] 2 rfl (by decide) hw.symm
      clear hw hs
      have hp : PV m w4 2 (some ⟨w3.heap.size, 0, none⟩) 2 2 (two (exK m z)) := hl.pv _ (sr_two (exK m z)) 2 (Nat.le_refl _)
      have B4 := HV3.out.2.trans (b4.mono HV3.out.2.size)
      refine (rtimesV (j + 3) (HV3.out.1.below b4).pol hp (by omega) (by omega)).mono ?_
      rintro e w5 ⟨a5, n5, c5, rfl, nv5, b5⟩
      rw [← HL.out.1] at nv5
      have HN : Hid (NV m w5 (j + 1 + 1) a5 n5 c5 (lamZ m (l.take (j + 1))) ∧ Below w.heap.size w w5) := ⟨NV.tight nv5 HL.out.2, B4.trans (b5.mono B4.size)⟩
      clear hl b4 hp B4 nv5 b5 HL HV3
      go_wp2_with fail
      go_roundg (n - (j + 1))
      case measure => have := HG.out; omega
      case rel => exact ⟨j + 1, a5, n5, c5, rfl, hlt, by go_num, rfl, HN.out.1, HN.out.2⟩
    · obtain rfl : j = n := by omega
      have e1 : l.take j = l := List.take_of_length_le (by have := HR.out.hlen; omega)
      rw [e1] at nv
      have HN := Lib.hid (And.intro nv B)
      clear nv B e1
      go_wp2_with fail
      go_ret
      exact ⟨_, _, _, rfl, HN.out.1, HN.out.2⟩
/-- where Makes says no at once. -/
def MakesNo (m : Nat) [M : Mid m] (l : List Int) (n : Nat) (L : Int) (n2 : Nat) : Prop := n = 0 ∨ sr m l 0 = 0 ∨ L < 0 ∨ (n2 : Int) < L
theorem makes_no {s be ce bl : Nat} (a : Option Addr) (n c : Nat) (l : List Int) (b : Option Addr) (n2 c2 : Nat) (L : Int) (w : World) (F : FldAt m w s be ce bl) (r : RowZ w a n c l) (h : MakesNo m l n L n2) :
    Calls Tryd.prog 19 #[.pointer (some ⟨s, 0, none⟩), .slice a n c, .int .i64 L, .slice b n2 c2] w fun e w' => e = .returned (.bool false) ∧ w = w' := by
  by_cases h0 : n = 0
  · have x1 : ((n : Int) == 0) = true := by rw [beq_iff_eq]; omega
    clear h F r
    go_enter Tryd.func19, Tryd.ntmps19
    go_wp2_with fail
    go_ret
    exact ⟨rfl, rfl⟩
  · have h := h.resolve_left h0
    obtain ⟨bb, off, rfl, cc, _⟩ := r.row 0 (by omega)
    rw [Nat.add_zero] at cc
    have hsr := sr_at (m := m) l 0
    have x1 : ((n : Int) == 0) = false := by rw [beq_eq_false_iff_ne]; omega
    have x4 : (0 : Int) < (n : Int) := by omega
    have hze := zn_eq0 (sr m l 0)
    have HA : Hid (Calls Tryd.prog 39 #[.pointer (some ⟨s, 0, none⟩), .int .i64 (l.getD 0 0), .int .i64 0] w fun e w' => e = .returned (.int .i64 (zn (sr m l 0))) ∧ w = w') := by
      have h1 := add_any M.lo M.hi (l.getD 0 0) 0 w F
      rw [add_val0, hsr] at h1
      exact h1
    have t : (zn (sr m l 0) == 0) = true ∨ ((zn (sr m l 0) == 0) = false ∧ decide (L < 0) = true) ∨ ((zn (sr m l 0) == 0) = false ∧ decide (L < 0) = false ∧ decide ((n2 : Int) < L) = true) := by
      by_cases h1 : sr m l 0 = 0
      · exact .inl (hze.trans (decide_eq_true h1))
      · by_cases h2 : L < 0
        · exact .inr (.inl ⟨hze.trans (decide_eq_false h1), decide_eq_true h2⟩)
        · exact .inr (.inr ⟨hze.trans (decide_eq_false h1), decide_eq_false h2, decide_eq_true ((h.resolve_left h1).resolve_left h2)⟩)
    clear F r hsr hze h
    generalize zn (sr m l 0) = z0 at t HA
    generalize l.getD 0 0 = u0 at cc HA
    rcases t with t1 | ⟨t1, t2⟩ | ⟨t1, t2, t3⟩
    all_goals
      go_enter Tryd.func19, Tryd.ntmps19
      go_wp2_with fail
      refine HA.out.mono ?_
      rintro e w1 ⟨rfl, rfl⟩
      clear cc HA
      go_wp2_with fail
      go_ret
      exact ⟨rfl, rfl⟩
theorem rmakes_no (a : Option Addr) (n c : Nat) (l : List Int) (b : Option Addr) (n2 c2 : Nat) (L : Int) (w : World) (r : RowZ w a n c l) (h : MakesNo m l n L n2) :
    Calls Tryd.prog 20 #[.int .i64 (m : Int), .slice a n c, .int .i64 L, .slice b n2 c2] w fun e w' => e = .returned (.bool false) ∧ w = w' := by
  by_cases h0 : n = 0
  · have x1 : ((n : Int) == 0) = true := by rw [beq_iff_eq]; omega
    clear h r
    go_enter Tryd.func20, Tryd.ntmps20
    go_wp2_with fail
    go_ret
    exact ⟨rfl, rfl⟩
  · have h := h.resolve_left h0
    obtain ⟨bb, off, rfl, cc, _⟩ := r.row 0 (by omega)
    rw [Nat.add_zero] at cc
    have x1 : ((n : Int) == 0) = false := by rw [beq_eq_false_iff_ne]; omega
    have x4 : (0 : Int) < (n : Int) := by omega
    have hze := zn_eq0 (sr m l 0)
    have HA : Hid (Calls Tryd.prog 23 #[.int .i64 (m : Int), .int .i64 (l.getD 0 0)] w fun e w' => e = .returned (.int .i64 (zn (sr m l 0))) ∧ w = w') := rlow_any (m := m) (l.getD 0 0) w
    have t : (zn (sr m l 0) == 0) = true ∨ ((zn (sr m l 0) == 0) = false ∧ decide (L < 0) = true) ∨ ((zn (sr m l 0) == 0) = false ∧ decide (L < 0) = false ∧ decide ((n2 : Int) < L) = true) := by
      by_cases h1 : sr m l 0 = 0
      · exact .inl (hze.trans (decide_eq_true h1))
      · by_cases h2 : L < 0
        · exact .inr (.inl ⟨hze.trans (decide_eq_false h1), decide_eq_true h2⟩)
        · exact .inr (.inr ⟨hze.trans (decide_eq_false h1), decide_eq_false h2, decide_eq_true ((h.resolve_left h1).resolve_left h2)⟩)
    clear r hze h
    generalize zn (sr m l 0) = z0 at t HA
    generalize l.getD 0 0 = u0 at cc HA
    rcases t with t1 | ⟨t1, t2⟩ | ⟨t1, t2, t3⟩
    all_goals
      go_enter Tryd.func20, Tryd.ntmps20
      go_wp2_with fail
      refine HA.out.mono ?_
      rintro e w1 ⟨rfl, rfl⟩
      clear cc HA
      go_wp2_with fail
      go_ret
      exact ⟨rfl, rfl⟩
set_option maxRecDepth 100000 in
set_option maxHeartbeats 2000000 in
theorem rmakes_any (a : Option Addr) (n c : Nat) (l : List Int) (b : Option Addr) (n2 c2 : Nat) (l2 : List Int) (L : Nat) (w : World) (r : RowZ w a n c l) (r2 : RowZ w b n2 c2 l2) (h0 : 0 < n) (hp : sr m l 0 ≠ 0) (hL : L ≤ n2) (hn2 : n2 ≤ 1000000) (hn9 : n ≤ 1000000) :
    Calls Tryd.prog 20 #[.int .i64 (m : Int), .slice a n c, .int .i64 (L : Int), .slice b n2 c2] w fun e w' => e = .returned (.bool (makesB (sr m l) (sr m l2) L n2)) ∧ Below w.heap.size w w' := by
  have HR := Lib.hid r
  have HR2 := Lib.hid r2
  obtain ⟨bb, off, rfl, cc, _⟩ := r.row 0 h0
  rw [Nat.add_zero] at cc
  have x1 : ((n : Int) == 0) = false := by rw [beq_eq_false_iff_ne]; omega
  have x2 : decide ((L : Int) < 0) = false := decide_eq_false (by omega)
  have x3 : decide (n2 < L) = false := decide_eq_false (by omega)
  have x4 : (0 : Int) < (n : Int) := by omega
  have x5 := (zn_eq0 (sr m l 0)).trans (decide_eq_false hp)
  have HA : Hid (Calls Tryd.prog 23 #[.int .i64 (m : Int), .int .i64 (l.getD 0 0)] w fun e w' => e = .returned (.int .i64 (zn (sr m l 0))) ∧ w = w') := rlow_any (m := m) (l.getD 0 0) w
  clear r r2 hp
  generalize zn (sr m l 0) = z0 at x5 HA
  generalize l.getD 0 0 = u0 at cc HA
  go_enter Tryd.func20, Tryd.ntmps20
  go_wp2_with fail
  refine HA.out.mono ?_
  rintro e w1 ⟨rfl, rfl⟩
  clear cc HA x1
  go_wp2_with fail
  clear x5 x2 x3
  go_loopg [9] (n2 - L) (fun gh s9 wx => ∃ k : Nat, gh = n2 - k ∧ L ≤ k ∧ k ≤ n2 ∧ s9 = .int .i64 (k : Int) ∧ Hid (∀ i, L ≤ i → i < k → Loc.part (sr m l) (sr m l2) i (L + 1) = 0) ∧ Below w.heap.size w wx)
  case atStart => exact ⟨L, rfl, Nat.le_refl _, hL, rfl, fun i h1 h2 => by omega, Below.refl _ _⟩
  case round =>
    obtain ⟨k, hg, hk1, hk, rfl, HPP, hB⟩ := hrel
    have HG := Lib.hid hg
    clear hg
    obtain ⟨W, hW⟩ : ∃ W, W = wr := ⟨_, rfl⟩
    rw [← hW] at hB ⊢
    clear hW
    by_cases hlt : k < n2
    · have y1 : (k : Int) < (n2 : Int) := by omega
      obtain ⟨t1, t2, t3, t4⟩ := rounds_spec L k n
      obtain ⟨T, hT⟩ : ∃ T, T = rounds L k n := ⟨_, rfl⟩
      have HTT : Hid (Loc.part (sr m l) (sr m l2) k T = Loc.part (sr m l) (sr m l2) k (L + 1)) := by
        show _ = _
        rw [hT]
        exact part_rounds _ _ _ _ _ (by rw [HR.out.hlen]; exact sr_bd _)
      rw [← hT] at t1 t2 t3 t4
      have t5 : T = L + 1 ∨ T = n := by
        rcases t4 with h | h | h
        · exact .inl h
        · exact .inl (by omega)
        · exact .inr h
      have HT5 := Lib.hid t5
      have HB5 := Lib.hid hB
      have HK1 := Lib.hid hlt
      clear hT t4 t5 hB hlt
      go_wp2_with fail
      go_loopg [10, 11] T (fun gh s10 s11 wx => ∃ j : Nat, gh = T - j ∧ j ≤ T ∧ s11 = .int .i64 (j : Int) ∧ s10 = .int .i64 (zn (Loc.part (sr m l) (sr m l2) k j)) ∧ Below W.heap.size W wx)
      case atStart => exact ⟨0, rfl, Nat.zero_le _, rfl, by rw [part_zero]; rfl, Below.refl _ _⟩
      case round =>
        obtain ⟨j, hg, hj, rfl, rfl, hB⟩ := hrel
        have HG2 := Lib.hid hg
        clear hg
        have hBW := HB5.out.trans (hB.mono HB5.out.size)
        by_cases hjt : j < T
        · have u1 : (j : Int) ≤ (L : Int) := by omega
          have u2 : j ≤ L := by omega
          have u3 : (j : Int) < (n : Int) := by omega
          have u4 : (0 : Int) ≤ (j : Int) := by omega
          have u5 : (0 : Int) ≤ (k : Int) - (j : Int) := by omega
          have u6 : (k : Int) - (j : Int) < (n2 : Int) := by omega
          have u7 : ((k : Int) - (j : Int)).toNat = k - j := by omega
          have u8 : IntKind.i64.wrap ((k : Int) - (j : Int)) = (k : Int) - (j : Int) := IntWalk.i64_in _ (by omega)
          obtain ⟨b1, o1, e1, cc1, _⟩ := (HR.out.below hBW).row j (by omega)
          simp only [Option.some.injEq, Addr.mk.injEq] at e1
          obtain ⟨rfl, rfl, _⟩ := e1
          obtain ⟨b2, o2, rfl, cc2, _⟩ := (HR2.out.below hBW).row (k - j) (by have := HK1.out; omega)
          have hx := zn_add (Loc.part (sr m l) (sr m l2) k j) (sr m l j * sr m l2 (k - j))
          rw [← part_succ _ _ _ _ (by omega)] at hx
          have HM : Hid (∀ q os, Calls Tryd.prog 16 #[.int .i64 (m : Int), .int .i64 (l.getD j 0), .int .i64 (l2.getD (k - j) 0)] (Sort.grow (redrawn wr q) os) fun e w'' => e = .returned (.int .i64 (zn (sr m l j * sr m l2 (k - j)))) ∧ ∃ p : Regrown, w'' = Sort.grow (redrawn wr p.d) p.os) := fun q os => Calls.regrown_of (rmul_any m M.lo M.hi (l.getD j 0) (l2.getD (k - j) 0) (Sort.grow (redrawn wr q) os))
          generalize zn (sr m l j * sr m l2 (k - j)) = z1 at HM hx
          generalize zn (Loc.part (sr m l) (sr m l2) k j) = z2 at hx ⊢
          generalize hz3 : zn (Loc.part (sr m l) (sr m l2) k (j + 1)) = z3 at hx
          have HZ3 := Lib.hid hz3
          generalize l.getD j 0 = z4 at cc1 HM
          generalize l2.getD (k - j) 0 = z5 at cc2 HM
          have HBk := Lib.hid hB
          replace cc1 := cell_regrown cc1
          replace cc2 := cell_regrown cc2
          clear hz3 hB hBW
          go_wp2_with fail
          refine wp_region_quiet_below (by kernel_rfl) (by kernel_rfl) ?_
          repeat (go_big_quiet_step (first | (go_at_call 16; with_reducible exact HM.out _ _)))
          refine wpQuiet_nil ?_
          intro _ hw'
          obtain ⟨⟨dq, osq⟩, hw''⟩ := hw'
          subst hw''
          have hB2 : Below W.heap.size W (Sort.grow (redrawn wr dq) osq) := HBk.out.trans ((below_regrown wr dq osq).mono HBk.out.size)
          generalize Sort.grow (redrawn wr dq) osq = w9 at hB2 ⊢
          clear cc1 cc2 HM hx
          go_wp2_with fail
          go_roundg (T - (j + 1))
          case measure => have := HG2.out; omega
          case rel => exact ⟨j + 1, rfl, hjt, by go_num, by rw [HZ3.out], hB2⟩
        · obtain rfl : j = T := by omega
          rw [HTT.out]
          have w1 : ((j : Int) ≤ (L : Int) ∧ j ≤ L ∧ decide ((j : Int) < (n : Int)) = false ∧ decide (j < n) = false) ∨ (decide ((j : Int) ≤ (L : Int)) = false ∧ decide (j ≤ L) = false) := by
            have := HT5.out
            by_cases h : j ≤ L
            · exact .inl ⟨by omega, h, decide_eq_false (by omega), decide_eq_false (by omega)⟩
            · exact .inr ⟨decide_eq_false (by omega), decide_eq_false h⟩
          obtain ⟨A, hA⟩ : ∃ A, A = Loc.part (sr m l) (sr m l2) k (L + 1) := ⟨_, rfl⟩
          rw [← hA]
          have HAE := Lib.hid hA
          have hze := zn_eq0 A
          have HB7 := Lib.hid hBW
          clear hA hB hBW HTT HT5 HG2 hjt hj
          by_cases hz : A = 0
          · replace hze : (zn A == 0) = true := hze.trans (decide_eq_true hz)
            have HPN : Hid (∀ i, L ≤ i → i < k + 1 → Loc.part (sr m l) (sr m l2) i (L + 1) = 0) := by
              intro i h1 h2
              by_cases h3 : i = k
              · subst h3; rw [← HAE.out]; exact hz
              · exact HPP.out i h1 (by omega)
            have hzz : zn A = 0 := by rw [hz]; rfl
            rw [hzz]
            clear hz hze hzz
            rcases w1 with ⟨e1, e2, e3, e4⟩ | ⟨e1, e2⟩
            all_goals
              go_wp2_with fail
              go_roundg (n2 - (k + 1))
              case measure => have := HG.out; have := HK1.out; omega
              case rel => exact ⟨k + 1, rfl, by omega, HK1.out, by go_num, HPN, HB7.out⟩
          · replace hze : (zn A == 0) = false := hze.trans (decide_eq_false hz)
            have HRR : Hid (makesB (sr m l) (sr m l2) L n2 = false) := by
              show _ = _
              unfold makesB
              refine @decide_eq_false _ (Classical.propDecidable _) fun h => hz ?_
              rw [HAE.out]; exact h k hk1 HK1.out
            clear hz
            generalize zn A = zA at hze ⊢
            rcases w1 with ⟨e1, e2, e3, e4⟩ | ⟨e1, e2⟩
            all_goals
              go_wp2_with fail
              go_ret
              exact ⟨by rw [HRR.out]; rfl, HB7.out⟩
    · obtain rfl : k = n2 := by omega
      have HRR : Hid (makesB (sr m l) (sr m l2) L k = true) := by
        show _ = _
        unfold makesB
        exact @decide_eq_true _ (Classical.propDecidable _) HPP.out
      go_wp2_with fail
      go_ret
      exact ⟨by rw [HRR.out]; rfl, hB⟩
end
end Go.Proofs.YtjpaihnnljpaeaaDoor.Loc
/- The reference's Locate. By the verifier of shale. -/
namespace Go.Proofs.YtjpaihnnljpaeaaDoor.Loc
open Go Go.RowKit Pl Fld Bits16
set_option linter.unusedVariables false
section
variable {m : Nat} [M : Mid m]
/-- c but for its first. -/
def tlS (c : Ser (El m)) : Ser (El m) := fun i => if i = 0 then 0 else c i
theorem tl_all {c S : Ser (El m)} {n : Nat} (h1 : c 0 = 1) : S n + cv (tlS c) S n = cv c S n := by
  have e : c = padd (mono 0 1) (tlS c) := funext fun i => by
    show c i = (if i = 0 then 1 else 0) + (if i = 0 then 0 else c i)
    by_cases hi : i = 0
    · rw [if_pos hi, if_pos hi, Fl.add_zero, hi, h1]
    · rw [if_neg hi, if_neg hi, zero_add]
  conv => rhs; rw [e]
  rw [cv_add_left, cv_mono, if_neg (by omega), one_mul, Nat.sub_zero]
theorem tl_bd {c : Ser (El m)} {n : Nat} (h : Bd c n) : Bd (tlS c) n := fun i hi => by
  unfold tlS
  split
  · rfl
  · exact h i hi
theorem lit_psm (b : Ser (El m)) (q : El m) : cv b (sr m [zn q]) = psm q b := by
  have e : sr m [zn q] = mono 0 q := funext fun i => by
    show elm m (([zn q] : List Int).getD i 0) = if i = 0 then q else 0
    cases i with
    | zero => exact elm_zn q
    | succ i => rw [if_neg (by omega)]; exact elm_zero
  rw [e, cv_comm]
  funext i
  rw [cv_mono, if_neg (by omega)]; rfl
theorem psm_nz {x : El m} (hx : x ≠ 0) {p : Ser (El m)} (hp : p ≠ pz) : psm x p ≠ pz := fun e => hp (funext fun i => by
  have : x * p i = 0 := congrFun e i
  exact Classical.byContradiction fun h => mul_ne hx h this)
/-- the search as the reference has it. -/
structure RSt (m : Nat) [M : Mid m] (w : World) (t : St (El m)) (a : Option Addr) (n c : Nat) (a' : Option Addr) (n' c' : Nat) : Prop where
  pc : NV m w 100 a n c t.c
  pb : NV m w 100 a' n' c' t.b
theorem RSt.below {w w' : World} {t : St (El m)} {a : Option Addr} {n c : Nat} {a' : Option Addr} {n' c' : Nat} (h : RSt m w t a n c a' n' c') (b : Below w.heap.size w w') : RSt m w' t a n c a' n' c' := ⟨h.pc.below b, h.pb.below b⟩
set_option maxRecDepth 100000 in
set_option maxHeartbeats 4000000 in
theorem rlocate_any (a : Option Addr) (n c : Nat) (l : List Int) (w : World) (r : RowZ w a n c l) (N : Nat) (hN : N = min n 80) :
    Calls Tryd.prog 14 #[.int .i64 (m : Int), .slice a n c] w fun e w' => ∃ a n c, e = .returned (.tuple #[.slice a n c, .int .i64 ((bm (sr m l) N).L : Int)]) ∧ NV m w' 100 a n c (bm (sr m l) N).c ∧ Below w.heap.size w w' := by
  obtain ⟨i0, hi, hz0, hz1, hz2⟩ := info64
  have HS := Lib.hid (steps_bm (sr m l))
  have HONE : Hid (∀ k, (bm (sr m l) k).c 0 = 1) := fun k => (bm_inv (sr m l) k).one
  have HR := Lib.hid r
  have hcap := r.hcap
  have hmost := r.hmost
  unfold maxLen at hmost
  have hN1 : N ≤ n := by omega
  have hN2 : N ≤ 80 := by omega
  have eN : (if (80 : Int) < (n : Int) then (80 : Int) else (n : Int)) = (N : Int) := by split <;> omega
  have y1 : (0 : Int) ≤ (N : Int) := by omega
  have y2 : (N : Int) ≤ (c : Int) := by omega
  have r1 := row_one w
  have b1 : Below w.heap.size w (w.alloc (.cells #[.int .i64 1] 3 (0, 0))) := (Below.refl _ _).alloc (Nat.le_refl _) _
  have r2 := row_one (w.alloc (.cells #[.int .i64 1] 3 (0, 0)))
  have b2 : Below (w.alloc (.cells #[.int .i64 1] 3 (0, 0))).heap.size (w.alloc (.cells #[.int .i64 1] 3 (0, 0))) ((w.alloc (.cells #[.int .i64 1] 3 (0, 0))).alloc (.cells #[.int .i64 1] 3 (0, 0))) := (Below.refl _ _).alloc (Nat.le_refl _) _
  have hs1 : (w.alloc (.cells #[.int .i64 1] 3 (0, 0))).heap.size = w.heap.size + 1 := Array.size_push _
  rw [hs1] at r2
  have H0 : Hid (RSt m ((w.alloc (.cells #[.int .i64 1] 3 (0, 0))).alloc (.cells #[.int .i64 1] 3 (0, 0))) st0 (some ⟨w.heap.size, 0, none⟩) 1 1 (some ⟨w.heap.size + 1, 0, none⟩) 1 1 ∧ Below w.heap.size w ((w.alloc (.cells #[.int .i64 1] 3 (0, 0))).alloc (.cells #[.int .i64 1] 3 (0, 0)))) := by
    have n1 := nv_one (m := m) (r1.below b2)
    have n2 := nv_one (m := m) r2
    exact ⟨⟨⟨n1.row, n1.bd, n1.top, by omega⟩, ⟨n2.row, n2.bd, n2.top, by omega⟩⟩, b1.trans (b2.mono b1.size)⟩
  clear r r1 r2 b1 b2 hs1 hN
  go_enter Tryd.func14, Tryd.ntmps14
  go_wp2_with fail
  clear eN
  generalize (w.alloc (.cells #[.int .i64 1] 3 (0, 0))).alloc (.cells #[.int .i64 1] 3 (0, 0)) = W0 at H0 ⊢
  go_loopg [6, 7, 8, 9, 10, 11] N (fun gh s6 s7 s8 s9 s10 s11 wx => ∃ (k : Nat) (a1 : Option Addr) (n1 c1 : Nat) (a2 : Option Addr) (n2 c2 : Nat), gh = N - k ∧ k ≤ N ∧ s11 = .int .i64 (k : Int) ∧ s6 = .slice a1 n1 c1 ∧ s7 = .slice a2 n2 c2 ∧ s8 = .int .i64 ((bm (sr m l) k).L : Int) ∧ s9 = .int .i64 ((bm (sr m l) k).k : Int) ∧ s10 = .int .i64 (zn (bm (sr m l) k).d) ∧ RSt m wx (bm (sr m l) k) a1 n1 c1 a2 n2 c2 ∧ Below w.heap.size w wx)
  case atStart => exact ⟨0, _, _, _, _, _, _, rfl, Nat.zero_le _, rfl, rfl, rfl, rfl, rfl, rfl, H0.out.1, H0.out.2⟩
  case round =>
    clear H0
    obtain ⟨k, a1, n1, c1, a2, n2, c2, hg, hk, rfl, rfl, rfl, rfl, rfl, rfl, hA, hB⟩ := hrel
    have HG := Lib.hid hg
    clear hg
    obtain ⟨W, hW⟩ : ∃ W, W = wr := ⟨_, rfl⟩
    rw [← hW] at hA hB ⊢
    clear hW
    have hLk : (bm (sr m l) k).L ≤ k := HS.out.len k
    have hkk : (bm (sr m l) k).k ≤ k + 1 := HS.out.kk k
    by_cases hlt : k < N
    · have x0 : (k : Int) < (N : Int) := by omega
      have x1 : (0 : Int) ≤ (k : Int) := by omega
      obtain ⟨t, ht⟩ : ∃ t, t = bm (sr m l) k := ⟨_, rfl⟩
      have HTE := Lib.hid ht
      rw [← ht] at hA hLk hkk ⊢
      have HFC : Hid (Bd t.c (t.L + 1) ∧ t.c 0 = 1 ∧ t.b ≠ pz ∧ t.d ≠ 0) := by rw [ht]; exact ⟨HS.out.bd k, HONE.out k, HS.out.bne k, HS.out.dne k⟩
      have HA := Lib.hid (And.intro hA hB)
      have rs := (HR.out.take N hN1).below hB
      obtain ⟨bb, off, rfl, cc, _⟩ := rs.row k hlt
      have hn1 : n1 ≤ 100 := hA.pc.le
      have hS0 : (l.take N).getD k 0 = l.getD k 0 := by rw [List.getD_eq_getElem?_getD, List.getD_eq_getElem?_getD, List.getElem?_take_of_lt hlt]
      rw [hS0] at cc
      have HLo : Hid (Calls Tryd.prog 23 #[.int .i64 (m : Int), .int .i64 (l.getD k 0)] W fun e w' => e = .returned (.int .i64 (zn (sr m l k))) ∧ W = w') := rlow_any (m := m) (l.getD k 0) W
      generalize l.getD k 0 = u at cc HLo
      have HK1 := Lib.hid hlt
      clear ht hA hB rs hS0 hlt
      go_wp2_with fail
      refine HLo.out.mono ?_
      rintro e w1 ⟨rfl, rfl⟩
      clear HLo cc
      go_wp2_with fail
      have hp0 : zn (sr m l k) = zn (sr m l k + Loc.part (tlS t.c) (sr m l) k 1) := by
        rw [part_succ _ _ _ _ (Nat.zero_le _), part_zero, show tlS t.c 0 = 0 from if_pos rfl, zero_mul, Fl.add_zero, Fl.add_zero]
      rw [hp0]
      clear hp0
      go_loopg [12, 13] (t.L + 1) (fun gh s12 s13 wx => ∃ j : Nat, gh = t.L + 2 - j ∧ 1 ≤ j ∧ j ≤ t.L + 1 ∧ s13 = .int .i64 (j : Int) ∧ s12 = .int .i64 (zn (sr m l k + Loc.part (tlS t.c) (sr m l) k j)) ∧ Below W.heap.size W wx)
      case atStart => exact ⟨1, by omega, Nat.le_refl _, by omega, rfl, rfl, Below.refl _ _⟩
      case round =>
        obtain ⟨j, hg, hj1, hj, rfl, rfl, hB⟩ := hrel
        have HG2 := Lib.hid hg
        clear hg
        have hBW := HA.out.2.trans (hB.mono HA.out.2.size)
        by_cases hjt : j ≤ t.L
        · have u1 : (j : Int) ≤ (t.L : Int) := by omega
          by_cases hjn : j < n1
          · have u3 : (j : Int) < (n1 : Int) := by omega
            have u4 : (0 : Int) ≤ (j : Int) := by omega
            have u5 : (0 : Int) ≤ (k : Int) - (j : Int) := by omega
            have u6 : (k : Int) - (j : Int) < (N : Int) := by omega
            have u7 : ((k : Int) - (j : Int)).toNat = k - j := by omega
            have u8 : IntKind.i64.wrap ((k : Int) - (j : Int)) = (k : Int) - (j : Int) := IntWalk.i64_in _ (by omega)
            obtain ⟨b1, o1, rfl, cc1, _⟩ := (HA.out.1.pc.row.below hB).row j hjn
            obtain ⟨b2, o2, e2, cc2, _⟩ := ((HR.out.take N hN1).below hBW).row (k - j) (by have := HK1.out; omega)
            simp only [Option.some.injEq, Addr.mk.injEq] at e2
            obtain ⟨rfl, rfl, _⟩ := e2
            have hS2 : (l.take N).getD (k - j) 0 = l.getD (k - j) 0 := by rw [List.getD_eq_getElem?_getD, List.getD_eq_getElem?_getD, List.getElem?_take_of_lt (by have := HK1.out; omega)]
            rw [hS2] at cc2
            rw [nums_at _ _ _ hjn] at cc1
            have hx := zn_add (sr m l k + Loc.part (tlS t.c) (sr m l) k j) (t.c j * sr m l (k - j))
            rw [show t.c j = tlS t.c j from (if_neg (by omega)).symm, Fl.add_assoc, ← part_succ _ _ _ _ (by omega)] at hx
            rw [show tlS t.c j = t.c j from if_neg (by omega)] at hx
            have HM : Hid (∀ q os, Calls Tryd.prog 16 #[.int .i64 (m : Int), .int .i64 (zn (t.c j)), .int .i64 (l.getD (k - j) 0)] (Sort.grow (redrawn wr q) os) fun e w'' => e = .returned (.int .i64 (zn (t.c j * sr m l (k - j)))) ∧ ∃ p : Regrown, w'' = Sort.grow (redrawn wr p.d) p.os) := fun q os => Calls.regrown_of (by
              have := rmul_any m M.lo M.hi (zn (t.c j)) (l.getD (k - j) 0) (Sort.grow (redrawn wr q) os)
              rw [mul_zz] at this
              exact this)
            generalize zn (t.c j * sr m l (k - j)) = z1 at HM hx
            generalize zn (sr m l k + Loc.part (tlS t.c) (sr m l) k j) = z2 at hx ⊢
            generalize hz3 : zn (sr m l k + Loc.part (tlS t.c) (sr m l) k (j + 1)) = z3 at hx
            have HZ3 := Lib.hid hz3
            generalize zn (t.c j) = z4 at cc1 HM
            generalize l.getD (k - j) 0 = z5 at cc2 HM
            have HBk := Lib.hid hB
            replace cc1 := cell_regrown cc1
            replace cc2 := cell_regrown cc2
            clear hz3 hB hBW hS2
            go_wp2_with fail
            refine wp_region_quiet_below (by kernel_rfl) (by kernel_rfl) ?_
            repeat (go_big_quiet_step (first | (go_at_call 16; with_reducible exact HM.out _ _)))
            refine wpQuiet_nil ?_
            intro _ hw'
            obtain ⟨⟨dq, osq⟩, hw''⟩ := hw'
            subst hw''
            have hB2 : Below W.heap.size W (Sort.grow (redrawn wr dq) osq) := HBk.out.trans ((below_regrown wr dq osq).mono HBk.out.size)
            generalize Sort.grow (redrawn wr dq) osq = w9 at hB2 ⊢
            clear cc1 cc2 HM hx
            go_wp2_with fail
            go_roundg (t.L + 2 - (j + 1))
            case measure => have := HG2.out; omega
            case rel => exact ⟨j + 1, rfl, by omega, by omega, by go_num, by rw [HZ3.out], hB2⟩
          · have u3 : ¬ ((j : Int) < (n1 : Int)) := by omega
            have hsame : Loc.part (tlS t.c) (sr m l) k (j + 1) = Loc.part (tlS t.c) (sr m l) k j := by
              rw [part_succ _ _ _ _ (by omega)]
              have : tlS t.c j = 0 := tl_bd HA.out.1.pc.bd j (by omega)
              rw [this, zero_mul, Fl.add_zero]
            have HSM := Lib.hid hsame
            clear hsame hBW
            go_wp2_with fail
            go_roundg (t.L + 2 - (j + 1))
            case measure => have := HG2.out; omega
            case rel => exact ⟨j + 1, rfl, by omega, by omega, by go_num, by rw [HSM.out], hB⟩
        · obtain rfl : j = t.L + 1 := by omega
          have u1 : ¬ (((t.L + 1 : Nat) : Int) ≤ (t.L : Int)) := by omega
          obtain ⟨A, hA⟩ : ∃ A, A = cv t.c (sr m l) k := ⟨_, rfl⟩
          have hAe : sr m l k + Loc.part (tlS t.c) (sr m l) k (t.L + 1) = A := by
            rw [part_cv _ _ _ (tl_bd HFC.out.1) (Nat.le_refl _), hA]
            exact tl_all HFC.out.2.1
          rw [hAe]
          have HAE : Hid (A = cv (bm (sr m l) k).c (sr m l) k) := by rw [← HTE.out]; exact hA
          have hze := zn_eq0 A
          have hRS := HA.out.1.below hB
          have HRS := Lib.hid (And.intro hRS hBW)
          clear hA hAe hB hBW hRS HG2 hj1 hj HA
          by_cases hz : A = 0
          · replace hze : (zn A == 0) = true := hze.trans (decide_eq_true hz)
            have HST := Lib.hid (HS.out.stay k (by rw [← HAE.out]; exact hz))
            rw [← HTE.out] at HST
            have HN : Hid (RSt m wr (bm (sr m l) (k + 1)) a1 n1 c1 a2 n2 c2) := by
              rw [HST.out]; exact ⟨HRS.out.1.pc, HRS.out.1.pb⟩
            have HV : Hid ((bm (sr m l) (k + 1)).L = t.L ∧ (bm (sr m l) (k + 1)).k = t.k + 1 ∧ (bm (sr m l) (k + 1)).d = t.d) := by rw [HST.out]; exact ⟨rfl, rfl, rfl⟩
            clear hz
            generalize zn A = zA at hze ⊢
            go_wp2_with fail
            go_roundg (N - (k + 1))
            case measure => have := HG.out; have := HK1.out; omega
            case rel => exact ⟨k + 1, a1, n1, c1, a2, n2, c2, rfl, HK1.out, by go_num, rfl, rfl, by rw [HV.out.1], by rw [HV.out.2.1]; go_num, by rw [HV.out.2.2], HN.out, HRS.out.2⟩
          · replace hze : (zn A == 0) = false := hze.trans (decide_eq_false hz)
            have hz0 : cv (bm (sr m l) k).c (sr m l) k ≠ 0 := by rw [← HAE.out]; exact hz
            obtain ⟨Q, hQ⟩ : ∃ Q, Q = A * t.d⁻¹ := ⟨_, rfl⟩
            have hQ0 : Q ≠ 0 := by rw [hQ]; exact mul_ne hz (inv_ne HFC.out.2.2.2)
            have hfb : Bd (padd t.c (up t.k (psm Q t.b))) (k + 2) := by
              have := HS.out.fbd k hz0
              rw [← HTE.out] at this
              rw [hQ, up_sm]
              have e : cv t.c (sr m l) k = A := by rw [HTE.out]; exact HAE.out.symm
              rw [e] at this
              exact this
            have hfx : fix t A = padd t.c (up t.k (psm Q t.b)) := by rw [hQ, up_sm]; rfl
            have HFX := Lib.hid (And.intro hfb hfx)
            have HQ := Lib.hid (And.intro hQ hQ0)
            have hinv := rinv_zz t.d HFC.out.2.2.2 wr
            have HZ := Lib.hid (And.intro hz hz0)
            clear hz hz0 hfb hfx hQ0
            go_wp2_with fail
            refine hinv.mono ?_
            rintro e w2 ⟨rfl, b2⟩
            clear hinv
            go_wp2_with fail
            have hmul := rmul_zz A t.d⁻¹ w2
            rw [← hQ] at hmul
            refine hmul.mono ?_
            rintro e w3 ⟨rfl, b3⟩
            have HR3 : Hid (RSt m w3 t a1 n1 c1 a2 n2 c2 ∧ Below w.heap.size w w3) := by
              have b := b2.trans (b3.mono b2.size)
              exact ⟨HRS.out.1.below b, HRS.out.2.trans (b.mono HRS.out.2.size)⟩
            clear hmul hQ b2 b3 HRS
            have hmk := fun w => made64 w t.k (by omega)
            go_upto_region 19 with (fail)
            have hA1 : Blk64 (w3.drew.alloc (obj64 (List.replicate t.k 0))) w3.heap.size (List.replicate t.k 0) := Blk64.new w3.drew _
            have bA1 : Below w3.heap.size w3 (w3.drew.alloc (obj64 (List.replicate t.k 0))) := ((Below.refl w3.heap.size w3).drew).alloc (Nat.le_refl _) _
            have sA1 : (w3.drew.alloc (obj64 (List.replicate t.k 0))).heap.size = w3.heap.size + 1 := Array.size_push _
            have rA2 : RowZ ((w3.drew.alloc (obj64 (List.replicate t.k 0))).alloc (.cells #[.int .i64 (zn Q)] 3 (0, 0))) (some ⟨w3.heap.size + 1, 0, none⟩) 1 1 [zn Q] := by rw [← sA1]; exact row_single _ _
            have bA12 : Below (w3.drew.alloc (obj64 (List.replicate t.k 0))).heap.size (w3.drew.alloc (obj64 (List.replicate t.k 0))) ((w3.drew.alloc (obj64 (List.replicate t.k 0))).alloc (.cells #[.int .i64 (zn Q)] 3 (0, 0))) := (Below.refl _ _).alloc (Nat.le_refl _) _
            have bA2 : Below w3.heap.size w3 ((w3.drew.alloc (obj64 (List.replicate t.k 0))).alloc (.cells #[.int .i64 (zn Q)] 3 (0, 0))) := bA1.trans (bA12.mono bA1.size)
            have hA2 : Blk64 ((w3.drew.alloc (obj64 (List.replicate t.k 0))).alloc (.cells #[.int .i64 (zn Q)] 3 (0, 0))) w3.heap.size (List.replicate t.k 0) := (bA12.block _ hA1.lt).trans hA1
            have rB1 : RowZ (w3.drew.alloc (.cells #[.int .i64 (zn Q)] 3 (0, 0))) (some ⟨w3.heap.size, 0, none⟩) 1 1 [zn Q] := row_single w3.drew _
            have bB1 : Below w3.heap.size w3 (w3.drew.alloc (.cells #[.int .i64 (zn Q)] 3 (0, 0))) := ((Below.refl w3.heap.size w3).drew).alloc (Nat.le_refl _) _
            have sB1 : (w3.drew.alloc (.cells #[.int .i64 (zn Q)] 3 (0, 0))).heap.size = w3.heap.size + 1 := Array.size_push _
            have bB12 : Below (w3.drew.alloc (.cells #[.int .i64 (zn Q)] 3 (0, 0))).heap.size (w3.drew.alloc (.cells #[.int .i64 (zn Q)] 3 (0, 0))) ((w3.drew.alloc (.cells #[.int .i64 (zn Q)] 3 (0, 0))).alloc (obj64 (List.replicate t.k 0))) := (Below.refl _ _).alloc (Nat.le_refl _) _
            have rB2 := rB1.below bB12
            have bB2 := bB1.trans (bB12.mono bB1.size)
            have hB2 : Blk64 ((w3.drew.alloc (.cells #[.int .i64 (zn Q)] 3 (0, 0))).alloc (obj64 (List.replicate t.k 0))) (w3.heap.size + 1) (List.replicate t.k 0) := by rw [← sB1]; exact Blk64.new _ _
            have HT : Hid (∀ (w' : World) (g : Nat), RowZ w' (some ⟨g, 0, none⟩) 1 1 [zn Q] → Below w3.heap.size w3 w' → Calls Tryd.prog 31 #[.int .i64 (m : Int), .slice a2 n2 c2, .slice (some ⟨g, 0, none⟩) 1 1] w' fun e w'' => ∃ bt ot nt ct, e = .returned (.slice (some ⟨bt, ot, none⟩) nt ct) ∧ NV m w'' 200 (some ⟨bt, ot, none⟩) nt ct (psm Q t.b) ∧ 0 < nt ∧ nt ≤ 200 ∧ Below w3.heap.size w3 w'' ∧ Below w'.heap.size w' w'') := fun w' g hr b => by
              refine (rtimesV (m := m) 200 (HR3.out.1.pb.below b).pol (hr.pv (sr m [zn Q]) rfl 1 (Nat.le_refl _)) (by omega) (by omega)).mono ?_
              rintro e w'' ⟨at', nt, ct, rfl, nv, b'⟩
              rw [lit_psm] at nv
              obtain ⟨kt, hkt, _⟩ := nv_pos nv (psm_nz HQ.out.2 HFC.out.2.2.1)
              obtain ⟨bt, ot, rfl, _, _⟩ := nv.row.row 0 (by omega)
              exact ⟨bt, ot, nt, ct, rfl, nv, by omega, nv.le, b.trans (b'.mono b.size), b'⟩
            have HWS := Lib.hid (And.intro hA2 (And.intro hB2 (And.intro bA2.size bB2.size)))
            clear sA1 bA12 sB1 bB12 hA1 bA1
            go_region_law (first
              | (go_simp; go_at_call 31; refine Calls.mono (HT.out _ _ (by first | exact rA2 | exact rB2 | exact rB1) (by first | exact bA2 | exact bB2 | exact bB1)) ?_; rintro e w5 ⟨bt, ot, nt, ct, rfl, nvT, hnt, hnt2, b35, b5⟩)
              | (refine step_append_lies _ (by rfl) _ _ _ (by rfl) w3.heap.size 3 i0 (.int .i64 0) 1 8 Tryd.underlying22 hi hz0 hz1 hz2 rfl (by decide) _ t.k (cells64 (List.replicate t.k 0)) (by rfl) (by first | exact Blk64.own ((b5.block _ hA2.lt).trans hA2 : Blk64 w5 _ _) (Nat.le_refl _) (by simp) (by unfold maxLen; omega) | exact Blk64.own ((b5.block _ hB2.lt).trans hB2 : Blk64 w5 _ _) (Nat.le_succ _) (by simp) (by unfold maxLen; omega) | exact Blk64.own (Blk64.new w5 (List.replicate t.k 0)) b35.size (by simp) (by unfold maxLen; omega)) ⟨bt, ot, none⟩ nt ct (cells64 (nums (psm Q t.b) nt)) (by rfl) (by rw [cells64_length, nums_length, Nat.mul_one]) (by first | exact RowZ.news nvT.row | exact RowZ.news (nvT.row.below ((Below.refl _ _).alloc (Nat.le_refl _) _))) (cells64_one _) hnt (by unfold maxLen; omega) (by omega) (by first | exact b35.size | exact Nat.le_trans b35.size (by simp)) _ rfl ?_; intro gg cap w6 hown6 hgrow hat hlt6))
            all_goals
              have hw5 := b35.size
              have bw6 : Below w3.heap.size w3 w6 := by
                first
                  | exact b35.grown hgrow hw5 (fun g hg => by
                      first
                        | (have hg2 : some w3.heap.size = some g := hg; simp only [Option.some.injEq] at hg2; omega)
                        | (have hg2 : some (w3.heap.size + 1) = some g := hg; simp only [Option.some.injEq] at hg2; omega))
                  | exact (b35.alloc hw5 _).grown hgrow (Nat.le_trans hw5 (by simp)) (fun g hg => by
                      have hg2 : some w5.heap.size = some g := hg
                      simp only [Option.some.injEq] at hg2; omega)
              have hO6 : Own64 w6 w3.heap.size (.slice (some ⟨gg, 0, none⟩) (t.k + nt) cap) (t.k + nt) (List.replicate t.k 0 ++ nums (psm Q t.b) nt) := by unfold Own64; rw [← cells64_append]; exact hown6
              have hpt : PV m w6 2000 (some ⟨gg, 0, none⟩) (t.k + nt) cap (up t.k (psm Q t.b)) := ⟨_, own_row hO6 rfl (own_room hO6).1 (own_room hO6).2, by rw [sr_up, sr_nums nvT.bd], by omega⟩
              have HR6 : Hid (RSt m w6 t a1 n1 c1 a2 n2 c2 ∧ Below w.heap.size w w6) := ⟨HR3.out.1.below bw6, HR3.out.2.trans (bw6.mono HR3.out.2.size)⟩
              clear bw6 hO6 hown6 hgrow hat hlt6 nvT b35 b5 hw5 HT rA2 rB1 rB2 bA2 bB1 bB2 hA2 hB2 HWS hmk
              have hadd := raddV (m := m) 2048 HR6.out.1.pc.pol hpt (by omega) (by omega) (by omega)
              clear hpt
              go_wp2_with fail
              refine hadd.mono ?_
              rintro e w7 ⟨a7, n7, c7, rfl, nv7, b7⟩
              have nv8 := NV.tight nv7 (HFX.out.1.mono (show k + 2 ≤ 100 by omega))
              rw [← HFX.out.2] at nv8
              have hr7 := HR6.out.1.below b7
              have HB7 := Lib.hid (HR6.out.2.trans (b7.mono HR6.out.2.size))
              clear hadd nv7 b7 HR6
              by_cases h2 : k < 2 * t.L
              · have hst := HS.out.same k HZ.out.2 (by rw [← HTE.out]; exact h2)
                rw [← HAE.out, ← HTE.out] at hst
                have HN : Hid (RSt m w7 (bm (sr m l) (k + 1)) a7 n7 c7 a2 n2 c2) := by rw [hst]; exact ⟨nv8, hr7.pb⟩
                have HV : Hid ((bm (sr m l) (k + 1)).L = t.L ∧ (bm (sr m l) (k + 1)).k = t.k + 1 ∧ (bm (sr m l) (k + 1)).d = t.d) := by rw [hst]; exact ⟨rfl, rfl, rfl⟩
                have g1 : (k : Int) < 2 * (t.L : Int) := by omega
                clear hst nv8 hr7 h2
                go_wp2_with fail
                go_roundg (N - (k + 1))
                case measure => have := HG.out; have := HK1.out; omega
                case rel => exact ⟨k + 1, a7, n7, c7, a2, n2, c2, rfl, HK1.out, by go_num, rfl, rfl, by rw [HV.out.1], by rw [HV.out.2.1]; go_num, by rw [HV.out.2.2], HN.out, HB7.out⟩
              · have hst := HS.out.grow k HZ.out.2 (by rw [← HTE.out]; exact h2)
                rw [← HAE.out, ← HTE.out] at hst
                have HN : Hid (RSt m w7 (bm (sr m l) (k + 1)) a7 n7 c7 a1 n1 c1) := by rw [hst]; exact ⟨nv8, hr7.pc⟩
                have HV : Hid ((bm (sr m l) (k + 1)).L = k + 1 - t.L ∧ (bm (sr m l) (k + 1)).k = 1 ∧ (bm (sr m l) (k + 1)).d = A) := by rw [hst]; exact ⟨rfl, rfl, rfl⟩
                have g1 : ¬ ((k : Int) < 2 * (t.L : Int)) := by omega
                clear hst nv8 hr7 h2
                go_wp2_with fail
                go_roundg (N - (k + 1))
                case measure => have := HG.out; have := HK1.out; omega
                case rel => exact ⟨k + 1, a7, n7, c7, a1, n1, c1, rfl, HK1.out, by go_num, rfl, rfl, by rw [HV.out.1]; go_num, by rw [HV.out.2.1]; rfl, by rw [HV.out.2.2], HN.out, HB7.out⟩
    · obtain rfl : k = N := by omega
      have HA := Lib.hid (And.intro hA hB)
      clear hA hB
      go_wp2_with fail
      refine (rtrimV HA.out.1.pc.pol (by omega)).mono ?_
      rintro e w2 ⟨a3, n3, c3, rfl, nv, b⟩
      have B2 := HA.out.2.trans (b.mono HA.out.2.size)
      clear b
      go_wp2_with fail
      go_ret2
      exact ⟨_, _, _, rfl, nv, B2⟩
end
end Go.Proofs.YtjpaihnnljpaeaaDoor.Loc
