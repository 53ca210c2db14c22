/- The walk over package fieldpoly's FromRoots. By the verifier of shale. -/
import Derived.Test.YtgfaaaeechgjmaaDoorPolyRoots
import Derived.Test.YtgfaaaeechgjmaaDoorQuietTail
namespace Go.Proofs.YtgfaaaeechgjmaaDoor.Pl
open Go Go.RowKit Fld Bits16
set_option linter.unusedVariables false
section
variable {m : Nat} [M : Mid m]
theorem madeCap (w : World) (k n : Nat) (hk : k ≤ n) (hn : n ≤ 1000000) :
    (Instr.makeSlice 22 (.int .i64 (k : Int)) (.int .i64 (n : Int))).run Tryd.prog w = .ok (.slice (some ⟨w.heap.size, 0, none⟩) k n) (w.alloc (obj64 (List.replicate n 0))) := by
  obtain ⟨i0, hi, hz0, hz1, hz2⟩ := info64
  rw [run_make (P := Tryd.prog) w 22 3 i0 (.int .i64 0) Tryd.underlying22 hi hz0 .i64 .i64 (k : Int) (n : Int) (by omega) (by omega) (by rw [hz2]; omega) (by omega)]
  congr 2
  unfold obj64 madeCells
  rw [hz1]
  congr 1
  apply Array.ext
  · simp [cells64]
  · intro i h1 h2
    simp [Value.cells, Nat.mod_one, cells64]
/-- the product of x + a over the first k of l. -/
def pls (l : List Int) : Nat → Ser (El m)
  | 0 => pone
  | k + 1 => cv (pls l k) (lin (elm m (l.getD k 0)))
theorem lin_split (a : El m) : lin a = padd (mono 0 a) (mono 1 1) := by
  funext i
  show (if i = 0 then a else if i = 1 then 1 else 0) = (if i = 0 then a else 0) + (if i = 1 then 1 else 0)
  by_cases h0 : i = 0
  · subst h0; rw [if_pos rfl, if_pos rfl, if_neg (by omega), Fl.add_zero]
  · rw [if_neg h0, if_neg h0, zero_add]
theorem lin_succ (P : Ser (El m)) (a : El m) (i : Nat) : cv P (lin a) (i + 1) = P i + P (i + 1) * a := by
  rw [cv_comm, lin_split, cv_add]
  show cv (mono 0 a) P (i + 1) + cv (mono 1 1) P (i + 1) = _
  rw [cv_mono, cv_mono, if_neg (by omega), if_neg (by omega), Nat.sub_zero, Nat.add_sub_cancel, one_mul, Fl.add_comm, Fl.mul_comm a]
theorem lin_first (P : Ser (El m)) (a : El m) : cv P (lin a) 0 = P 0 * a := by
  rw [cv_comm, lin_split, cv_add]
  show cv (mono 0 a) P 0 + cv (mono 1 1) P 0 = _
  rw [cv_mono, cv_mono, if_neg (by omega), if_pos (by omega), Nat.sub_zero, Fl.add_zero, Fl.mul_comm a]
theorem pls_dg (l : List Int) : ∀ k, Dg (pls (m := m) l k) k
  | 0 => ⟨by show (if (0 : Nat) = 0 then (1 : El m) else 0) ≠ 0; rw [if_pos rfl]; exact Fl.one_ne, fun i hi => if_neg (by omega)⟩
  | k + 1 => (pls_dg l k).mul (lin_dg _)
/-- the new one above i, the old one from i down. -/
def mixS (P Q : Ser (El m)) (i : Nat) : Ser (El m) := fun j => if i < j then Q j else P j
omit M in
theorem mixS_step (P Q : Ser (El m)) (i : Nat) : ∀ j, j ≠ i + 1 → mixS P Q i j = mixS P Q (i + 1) j := by
  intro j hj
  unfold mixS
  by_cases h : i < j
  · rw [if_pos h, if_pos (by omega)]
  · rw [if_neg h, if_neg (by omega)]
omit M in
theorem mixS_new (P Q : Ser (El m)) (i : Nat) : mixS P Q i (i + 1) = Q (i + 1) := if_pos (by omega)
omit M in
theorem mixS_old (P Q : Ser (El m)) (i j : Nat) (h : j ≤ i) : mixS P Q i j = P j := if_neg (by omega)
theorem mixS_bd {P Q : Ser (El m)} {n : Nat} (hP : Bd P (n + 1)) (hQ : Bd Q (n + 1)) : mixS P Q n = P := funext fun j => by
  unfold mixS
  by_cases h : n < j
  · rw [if_pos h, hQ j (by omega), hP j (by omega)]
  · rw [if_neg h]
set_option maxRecDepth 100000 in
set_option maxHeartbeats 500000 in
theorem from_any {g s be ce bl : Nat} (a : Option Addr) (n cap : Nat) (l : List Int) (w : World) (R : RingAt m w g s be ce bl) (h : RowZ w a n cap l) (hn : n ≤ 2048) :
    Calls Tryd.prog 30 #[.pointer (some ⟨g, 0, none⟩), .slice a n cap] w
      fun e w' => ∃ a' n' cap', e = .returned (.tuple #[.slice a' n' cap', .nilIface]) ∧ Out m w w' a' n' cap' (pls l n) ∧ Below w.heap.size w w' := by
  have HR := Lib.hid R
  have HP := Lib.hid h
  have t1 : decide ((2048 : Int) < (n : Int)) = false := decide_eq_false (by omega)
  have hmk := madeCap w 1 (n + 1) (by omega) (by omega)
  rw [show ((1 : Nat) : Int) = 1 from rfl, show ((n + 1 : Nat) : Int) = (n : Int) + 1 by omega, nums_pz (m := m)] at hmk
  have hk0 : Blk64 (w.alloc (obj64 (nums (pz : Ser (El m)) (n + 1)))) w.heap.size (nums (pz : Ser (El m)) (n + 1)) := Blk64.new w _
  have bl : Below w.heap.size w (w.alloc (obj64 (nums (pz : Ser (El m)) (n + 1)))) := (Below.refl _ _).alloc (Nat.le_refl _) _
  have c1 := hk0.cell (i := 0) (by rw [nums_length]; omega)
  have c4 := hk0.free 0
  have HK0 := Lib.hid hk0
  have HBL := Lib.hid bl
  clear R h hk0 bl
  go_enter Tryd.func30, Tryd.ntmps30
  go_wp2_with fail
  clear hmk t1 c1 c4
  have hs := HK0.out.set 0 1
  have U8 : Upd w.heap.size (w.alloc (obj64 (nums (pz : Ser (El m)) (n + 1)))) ((w.alloc (obj64 (nums (pz : Ser (El m)) (n + 1)))).setCell ⟨w.heap.size, 0, none⟩ (.int .i64 1)) := (Upd.refl _ _).only (Only.setCell _ ⟨w.heap.size, 0, none⟩ _)
  have hB := HBL.out.trans (U8.toBelow (Nat.le_refl _) HBL.out.size)
  clear HK0 HBL U8
  generalize (w.alloc (obj64 (nums (pz : Ser (El m)) (n + 1)))).setCell ⟨w.heap.size, 0, none⟩ (.int .i64 1) = w1 at hs hB ⊢
  have hs : Blk64 w1 w.heap.size (nums (pls (m := m) l 0) (n + 1)) := by
    have e : (nums (pz : Ser (El m)) (n + 1)).set 0 1 = nums (pls (m := m) l 0) (n + 1) := by
      have h1 := nums_set (pz : Ser (El m)) (pls (m := m) l 0) (n + 1) 0 (fun j hj => by show (if j = 0 then (1 : El m) else 0) = 0; rw [if_neg hj])
      have h2 : zn (pls (m := m) l 0 0) = 1 := by show h (1 : BitVec 16) = 1; rfl
      rwa [h2] at h1
    rwa [e] at hs
  have HS := Lib.hid hs
  have HB := Lib.hid hB
  clear hs hB
  obtain ⟨i0, hi, hz0, hz1, hz2⟩ := info64
  go_loopg [6, 22] n (fun gh s6 s22 wx => ∃ (k : Nat), gh = n - k ∧ k ≤ n ∧ s6 = .slice (some ⟨w.heap.size, 0, none⟩) (k + 1) (n + 1) ∧ s22 = .int .i64 (k : Int) ∧ Blk64 wx w.heap.size (nums (pls (m := m) l k) (n + 1)) ∧ Below w.heap.size w wx)
  case atStart => exact ⟨0, rfl, Nat.zero_le _, rfl, rfl, HS.out, HB.out⟩
  case round =>
    clear HS HB
    obtain ⟨k, hg, hkn, rfl, rfl, hk, hB⟩ := hrel
    have HG := Lib.hid hg
    clear hg
    by_cases hlt : k < n
    · have x0 : (0 : Int) ≤ (k : Int) := by omega
      have x1 : (k : Int) < (n : Int) := by omega
      obtain ⟨bb, o, rfl, c1, hb⟩ := (HP.out.below hB).row k hlt
      generalize hzl : l.getD k 0 = zl at c1
      have HZL := Lib.hid hzl
      have HK := Lib.hid hk
      have HB := Lib.hid hB
      have hbs := hB.size
      have hbA : Below w.heap.size wr (wr.alloc (.cells #[.int .i64 0] 3 (0, 0))) := (Below.refl _ _).alloc hbs _
      have hkA : Blk64 (wr.alloc (.cells #[.int .i64 0] 3 (0, 0))) w.heap.size (nums (pls (m := m) l k) (n + 1)) := (((Below.refl wr.heap.size wr).alloc (Nat.le_refl _) (.cells #[.int .i64 0] 3 (0, 0))).block _ hk.lt).trans hk
      have c5 := hkA.cell (i := k + 1) (by rw [nums_length]; omega)
      have c6 := hkA.free (k + 1)
      have c7 := cell_one_new wr (.int .i64 0) 3
      generalize nth64 (nums (pls (m := m) l k) (n + 1)) (k + 1) = z9 at c5
      have HKA := Lib.hid hkA
      have HBA := Lib.hid hbA
      have x2 : ((k : Int) + 1) < (n : Int) + 1 := by omega
      clear hzl hk hB hb hkA hbA
      go_wp2_with fail
      clear c1 c5 c6 c7
      have hs2 := HKA.out.set (k + 1) 0
      have es2 : (nums (pls (m := m) l k) (n + 1)).set (k + 1) 0 = nums (pls (m := m) l k) (n + 1) := by
        have h1 := nums_set (pls (m := m) l k) (pls (m := m) l k) (n + 1) (k + 1) (fun _ _ => rfl)
        rwa [(pls_dg (m := m) l k).2 (k + 1) (by omega)] at h1
      rw [es2] at hs2
      have U2 : Upd w.heap.size (wr.alloc (.cells #[.int .i64 0] 3 (0, 0))) ((wr.alloc (.cells #[.int .i64 0] 3 (0, 0))).setCell ⟨w.heap.size, k + 1, none⟩ (.int .i64 0)) := (Upd.refl _ _).only (Only.setCell _ ⟨w.heap.size, k + 1, none⟩ _)
      have hB2 := (HB.out.trans (HBA.out)).trans (U2.toBelow (Nat.le_refl _) (HB.out.trans HBA.out).size)
      have HS2 := Lib.hid hs2
      have HB2 := Lib.hid hB2
      clear HK HB HKA HBA hs2 U2 hB2 es2
      generalize (wr.alloc (.cells #[.int .i64 0] 3 (0, 0))).setCell ⟨w.heap.size, k + 1, none⟩ (.int .i64 0) = w2 at HS2 HB2 ⊢
      have HPd := Lib.hid (pls_dg (m := m) l k)
      have HQd := Lib.hid (pls_dg (m := m) l (k + 1))
      have HQ : Hid (pls (m := m) l (k + 1) = cv (pls (m := m) l k) (lin (elm m zl))) := by
        show _ = _
        rw [← HZL.out]; rfl
      generalize hQe : pls (m := m) l (k + 1) = Q at HQd HQ
      have HQE := Lib.hid hQe
      clear hQe
      generalize pls (m := m) l k = P at HS2 HPd HQ
      go_loopg [9] (k + 1) (fun gh s9 wx => ∃ (i : Nat), gh = i ∧ i ≤ k + 1 ∧ s9 = .int .i64 (i : Int) ∧ Blk64 wx w.heap.size (nums (mixS P Q i) (n + 1)) ∧ Below w.heap.size w wx)
      case atStart => exact ⟨k + 1, rfl, Nat.le_refl _, by go_num, by rw [mixS_bd (HPd.out.2.mono (by omega)) HQd.out.2]; exact HS2.out, HB2.out⟩
      case round =>
        clear HS2 HB2
        obtain ⟨i, hg, hik, rfl, hk, hB⟩ := hrel
        have HG2 := Lib.hid hg
        have HRw := Lib.hid (HR.out.below hB)
        have cg := HRw.out.cell
        have HK := Lib.hid hk
        have HBw := Lib.hid hB
        clear hg hB
        rcases i with _ | i
        · have y1 : (0 : Int) < (k : Int) + 1 + 1 := by omega
          have ci := hk.cell (i := 0) (by rw [nums_length]; omega)
          have c4 := hk.free 0
          have ei : nth64 (nums (mixS P Q 0) (n + 1)) 0 = zn (P 0) := by
            have e := nums_at (mixS P Q 0) (n + 1) 0 (by omega)
            rw [mixS_old P Q 0 0 (by omega)] at e; exact e
          rw [ei] at ci
          have hQi : Q 0 = P 0 * elm m zl := by rw [HQ.out]; exact lin_first _ _
          have HM : Hid (∀ nn, Calls Tryd.prog 38 #[.pointer (some ⟨s, 0, none⟩), .int .i64 (zn (P 0)), .int .i64 zl] (wr.drewN nn)
              fun e w' => e = .returned (.int .i64 (zn (Q 0))) ∧ Drawn (wr.drewN nn) w') := fun nn => by
            refine (mul_any M.lo M.hi (zn (P 0)) zl _ (HRw.out.2.drawn M.lo (Drawn.mk wr nn))).mono ?_
            rintro e w' ⟨rfl, n, rfl⟩
            exact ⟨by rw [mul_zn, elm_zn, hQi], Drawn.mk _ n⟩
          clear hk ei hQi
          go_wp2_with fail
          refine wp_region_quiet_tail (C := fun w' => ∃ nn, w' = wr.drewN nn) 10 (by kernel_rfl) (by kernel_rfl) ⟨1, rfl⟩ ?_
          simp only [List.take_succ_cons, List.take_zero, List.drop_succ_cons, List.drop_zero]
          repeat (go_big_quiet_step ((go_at_call 38; exact quiet_drawn (HM.out _))))
          refine wpQuiet_nil ?_
          rintro _ ⟨nq, rfl⟩
          have hD7 : Drawn wr (wr.drewN nq) := Drawn.mk _ _
          have hk : Blk64 (wr.drewN nq) w.heap.size (nums (mixS P Q 0) (n + 1)) := HK.out
          have hB := HBw.out.trans (hD7.below _)
          have cj : (wr.drewN nq).cell? ⟨w.heap.size, 0, none⟩ = some (.int .i64 (zn (P 0))) := ci
          have c4 : (wr.drewN nq).frozen? ⟨w.heap.size, 0, none⟩ = false := c4
          generalize wr.drewN nq = w' at hk hB cj c4 ⊢
          have hs := hk.set 0 (zn (Q 0))
          have es : (nums (mixS P Q 0) (n + 1)).set 0 (zn (Q 0)) = nums (pls (m := m) l (k + 1)) (n + 1) := by
            rw [HQE.out]
            exact nums_set (mixS P Q 0) Q (n + 1) 0 (fun j hj => (if_pos (by omega)).symm)
          rw [es] at hs
          have U8 : Upd w.heap.size w' (w'.setCell ⟨w.heap.size, 0, none⟩ (.int .i64 (zn (Q 0)))) := (Upd.refl _ w').only (Only.setCell _ ⟨w.heap.size, 0, none⟩ _)
          have B8 := hB.trans (U8.toBelow (Nat.le_refl _) hB.size)
          have HS := Lib.hid hs
          have HB8 := Lib.hid B8
          clear hD7 hk hB hs es U8 B8
          go_wp2_with fail
          clear cg ci cj c4
          generalize w'.setCell ⟨w.heap.size, 0, none⟩ (.int .i64 (zn (Q 0))) = w8 at HS HB8 ⊢
          go_wp2_with fail
          go_roundg (n - (k + 1))
          case measure => have := HG.out; omega
          case rel => exact ⟨k + 1, rfl, by omega, rfl, by go_num, HS.out, HB8.out⟩
        · have y0 : (0 : Int) ≤ (i : Int) := by omega
          have y1 : (i : Int) + 1 < (k : Int) + 1 + 1 := by omega
          have y2 : (i : Int) < (k : Int) + 1 + 1 := by omega
          have y3 : (0 : Int) < (i : Int) + 1 := by omega
          have y4 : IntKind.i64.wrap ((i : Int) + 1 - 1) = (i : Int) := by rw [show (i : Int) + 1 - 1 = (i : Int) by omega]; exact IntWalk.i64_in _ (by omega)
          have y6 : (0 : Int) ≤ (i : Int) + 1 := by omega
          have y5 : IntKind.i64.wrap (i : Int) = (i : Int) := IntWalk.i64_in _ (by omega)
          have ci := hk.cell (i := i) (by rw [nums_length]; omega)
          have cj := hk.cell (i := i + 1) (by rw [nums_length]; omega)
          have c4 := hk.free (i + 1)
          have ei : nth64 (nums (mixS P Q (i + 1)) (n + 1)) i = zn (P i) := by
            have e := nums_at (mixS P Q (i + 1)) (n + 1) i (by omega)
            rw [mixS_old P Q (i + 1) i (by omega)] at e; exact e
          have ej : nth64 (nums (mixS P Q (i + 1)) (n + 1)) (i + 1) = zn (P (i + 1)) := by
            have e := nums_at (mixS P Q (i + 1)) (n + 1) (i + 1) (by omega)
            rw [mixS_old P Q (i + 1) (i + 1) (by omega)] at e; exact e
          rw [ei] at ci
          rw [ej] at cj
          have hQi : Q (i + 1) = P i + P (i + 1) * elm m zl := by rw [HQ.out]; exact lin_succ _ _ _
          have HM : Hid (∀ nn, Calls Tryd.prog 38 #[.pointer (some ⟨s, 0, none⟩), .int .i64 (zn (P (i + 1))), .int .i64 zl] (wr.drewN nn)
              fun e w' => e = .returned (.int .i64 (zn (P (i + 1) * elm m zl))) ∧ Drawn (wr.drewN nn) w') := fun nn => by
            refine (mul_any M.lo M.hi (zn (P (i + 1))) zl _ (HRw.out.2.drawn M.lo (Drawn.mk wr nn))).mono ?_
            rintro e w' ⟨rfl, n, rfl⟩
            exact ⟨by rw [mul_zn, elm_zn], Drawn.mk _ n⟩
          have HA : Hid (∀ nn, Calls Tryd.prog 40 #[.pointer (some ⟨s, 0, none⟩), .int .i64 (zn (P i)), .int .i64 (zn (P (i + 1) * elm m zl))] (wr.drewN nn)
              fun e w' => e = .returned (.int .i64 (zn (Q (i + 1)))) ∧ Drawn (wr.drewN nn) w') := fun nn => by
            refine (add_any M.lo M.hi (zn (P i)) (zn (P (i + 1) * elm m zl)) _ (HRw.out.2.drawn M.lo (Drawn.mk wr nn))).mono ?_
            rintro e w' ⟨rfl, rfl⟩
            exact ⟨by rw [add_zz, elm_zn, hQi], Drawn.refl _⟩
          clear hk ei ej hQi
          go_wp2_with fail
          refine wp_region_quiet_tail (C := fun w' => ∃ nn, w' = wr.drewN nn) 22 (by kernel_rfl) (by kernel_rfl) ⟨1, rfl⟩ ?_
          simp only [List.take_succ_cons, List.take_zero, List.drop_succ_cons, List.drop_zero]
          repeat (go_big_quiet_step ((first | (go_at_call 38; exact quiet_drawn (HM.out _)) | (go_at_call 40; exact quiet_drawn (HA.out _)))))
          refine wpQuiet_nil ?_
          rintro _ ⟨nq, rfl⟩
          have hD7 : Drawn wr (wr.drewN nq) := Drawn.mk _ _
          have hk : Blk64 (wr.drewN nq) w.heap.size (nums (mixS P Q (i + 1)) (n + 1)) := HK.out
          have hB := HBw.out.trans (hD7.below _)
          have cj : (wr.drewN nq).cell? ⟨w.heap.size, i + 1, none⟩ = some (.int .i64 (zn (P (i + 1)))) := cj
          have c4 : (wr.drewN nq).frozen? ⟨w.heap.size, i + 1, none⟩ = false := c4
          generalize wr.drewN nq = w' at hk hB cj c4 ⊢
          have hs := hk.set (i + 1) (zn (Q (i + 1)))
          have es : (nums (mixS P Q (i + 1)) (n + 1)).set (i + 1) (zn (Q (i + 1))) = nums (mixS P Q i) (n + 1) := by
            have := nums_set (mixS P Q (i + 1)) (mixS P Q i) (n + 1) (i + 1) (fun j hj => mixS_step P Q i j hj)
            rwa [mixS_new] at this
          rw [es] at hs
          have U8 : Upd w.heap.size w' (w'.setCell ⟨w.heap.size, i + 1, none⟩ (.int .i64 (zn (Q (i + 1))))) := (Upd.refl _ w').only (Only.setCell _ ⟨w.heap.size, i + 1, none⟩ _)
          have B8 := hB.trans (U8.toBelow (Nat.le_refl _) hB.size)
          have HS := Lib.hid hs
          have HB8 := Lib.hid B8
          clear hD7 hk hB hs es U8 B8
          go_wp2_with fail
          clear cg ci cj c4 y4 y5 y6
          generalize w'.setCell ⟨w.heap.size, i + 1, none⟩ (.int .i64 (zn (Q (i + 1)))) = w8 at HS HB8 ⊢
          go_wp2_with fail
          go_roundg i
          case measure => have := HG2.out; omega
          case rel => exact ⟨i, rfl, by omega, by go_num, HS.out, HB8.out⟩
    · obtain rfl : k = n := by omega
      have HO : Hid (Out m w wr (some ⟨w.heap.size, 0, none⟩) (k + 1) (k + 1) (pls (m := m) l k)) :=
        Or.inr ⟨_, k + 1, rfl, Nat.le_refl _, by omega, rfl, hk, (top_dg (pls_dg l k)).symm, (pls_dg l k).2⟩
      clear hk
      go_wp2_with fail
      go_ret2
      exact ⟨_, _, _, rfl, HO.out, hB⟩
end
end Go.Proofs.YtgfaaaeechgjmaaDoor.Pl
