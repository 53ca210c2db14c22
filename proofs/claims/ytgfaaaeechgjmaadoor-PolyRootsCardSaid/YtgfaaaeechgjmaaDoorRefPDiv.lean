/- The statements' own polynomials (shaleref2): DivMod. By the verifier of shale. -/
import Derived.Test.YtgfaaaeechgjmaaDoorRefPMul
import Derived.Test.YtgfaaaeechgjmaaDoorPolyDiv
namespace Go.Proofs.YtgfaaaeechgjmaaDoor.Pl
open Go Go.RowKit Fld Bits16
set_option linter.unusedVariables false
theorem Blk64.own {w : World} {g base n : Nat} {l : List Int} (h : Blk64 w g l) (hb : base ≤ g) (hn : n = l.length) (hm : n ≤ maxLen) : Own64 w base (.slice (some ⟨g, 0, none⟩) n n) n l := by
  refine ⟨by rw [cells64_length]; omega, Or.inr ⟨g, n, (cells64 l).toArray, rfl, hb, h, Nat.le_refl _, hm, by simp [cells64_length, hn], ?_⟩⟩
  rw [List.toList_toArray, List.take_of_length_le (by rw [cells64_length]; omega)]
theorem RowZ.news {w : World} {bb off n cap : Nat} {l : List Int} (h : RowZ w (some ⟨bb, off, none⟩) n cap l) : ∀ j u, (cells64 l)[j]? = some u → w.cell? ((⟨bb, off, none⟩ : Addr).add j) = some u := by
  intro j u hu
  have hj : j < l.length := by
    have := (List.getElem?_eq_some_iff.1 hu).1
    rwa [cells64_length] at this
  obtain ⟨b2, o2, e, hc, _⟩ := h.row j (by rw [h.hlen]; exact hj)
  simp only [Option.some.injEq, Addr.mk.injEq] at e
  obtain ⟨rfl, rfl, _⟩ := e
  rw [add_row, hc, ← hu]
  unfold cells64
  simp [hj]
theorem cells64_one (l : List Int) : ∀ u ∈ cells64 l, u.oneCell' = true := by
  intro u hu
  unfold cells64 at hu
  obtain ⟨z, _, rfl⟩ := List.mem_map.1 hu
  rfl
section
variable {m : Nat} [M : Mid m]
theorem rinv_zz (a : El m) (h0 : a ≠ 0) (w : World) : Calls Tryd.prog 33 #[.int .i64 (m : Int), .int .i64 (zn a)] w fun e w' => e = .returned (.int .i64 (zn a⁻¹)) ∧ Below w.heap.size w w' := by
  have hne : el m (zn a) ≠ 0 := fun e => h0 (by
    have := congrArg Subtype.val (elm_zn a)
    exact El.ext (this.symm.trans e))
  have := rinv_any m M.lo M.hi (zn a) hne w
  rwa [inv_zz _ h0] at this
theorem sr_shift (s : Nat) (l : List Int) : sr m (List.replicate s 0 ++ l) = cv (mono s 1) (sr m l) := by
  funext i
  rw [cv_mono]
  show elm m ((List.replicate s 0 ++ l).getD i 0) = _
  rw [List.getD_eq_getElem?_getD]
  by_cases h : i < s
  · rw [if_pos h, List.getElem?_append_left (by simpa using h)]
    simp [h]; exact elm_zero
  · rw [if_neg h, List.getElem?_append_right (by simp; omega), one_mul]
    simp only [List.length_replicate]
    rw [← List.getD_eq_getElem?_getD]; rfl
theorem sr_single (c : El m) : sr m [zn c] = mono 0 c := by
  funext i
  show elm m ([zn c].getD i 0) = if i = 0 then c else 0
  cases i with
  | zero => rw [if_pos rfl]; exact elm_zn c
  | succ i => rw [if_neg (by omega)]; exact elm_zero
theorem mono_mul (s : Nat) (c : El m) : cv (mono s 1) (mono 0 c) = mono s c := by
  funext i
  rw [cv_mono]
  show (if i < s then 0 else 1 * (if i - s = 0 then c else 0)) = if i = s then c else 0
  by_cases h : i < s
  · rw [if_pos h, if_neg (by omega)]
  · rw [if_neg h, one_mul]
    by_cases h2 : i = s
    · rw [if_pos (by omega), if_pos h2]
    · rw [if_neg (by omega), if_neg h2]
theorem row_single (w : World) (c : Int) : RowZ (w.alloc (.cells #[.int .i64 c] 3 (0, 0))) (some ⟨w.heap.size, 0, none⟩) 1 1 [c] :=
  ⟨rfl, Nat.le_refl _, by decide, fun i hi => ⟨w.heap.size, 0, rfl, by
    obtain rfl : i = 0 := by omega
    have := cell_one_new w (.int .i64 c) 3 0 (.int .i64 c) rfl
    rwa [add_row] at this, lt_of_block (heap_alloc_new w _)⟩⟩
/-- where the reference's division stands. -/
structure RDivs (P Q A L : Ser (El m)) (e k N : Nat) : Prop where
  sum : P = padd (cv A Q) L
  low : Bd L k
  bd : Bd A (N + 1)
  free : ∀ j, j + e < k → A j = 0
theorem RDivs.next {P Q A L : Ser (El m)} {e k N s : Nat} (h : RDivs P Q A L e (k + 1) N) (hQ : Dg Q e) (hs : k = s + e) (hk : k < N) {k' : Nat} (hk' : k' ≤ k) (hb : Bd (padd L (cv (mono s (L k * (Q e)⁻¹)) Q)) k') :
    RDivs P Q (padd A (mono s (L k * (Q e)⁻¹))) (padd L (cv (mono s (L k * (Q e)⁻¹)) Q)) e k' N := by
  refine ⟨?_, hb, h.bd.add ((mono_bd _ _).mono (by omega)), fun j hj => ?_⟩
  · rw [cv_add, padd_xx, padd_comm, h.sum]
    have : padd (cv (mono s (L k * (Q e)⁻¹)) Q) (cv (mono s (L k * (Q e)⁻¹)) Q) = pz := padd_self _
    rw [this, zero_padd]
  · show A j + mono s _ j = 0
    rw [h.free j (by omega), show mono s (L k * (Q e)⁻¹) j = 0 from if_neg (by omega), Fl.add_zero]
set_option maxRecDepth 100000 in
set_option maxHeartbeats 400000 in
theorem rdiv_any (a1 : Option Addr) (n1 c1 : Nat) (l1 : List Int) (a2 : Option Addr) (n2 c2 : Nat) (l2 : List Int) (w : World) (h1 : RowZ w a1 n1 c1 l1) (h2 : RowZ w a2 n2 c2 l2) (k1 : n1 ≤ 10000) (k2 : n2 ≤ 10000) (hz : top (sr m l2) n2 ≠ 0) :
    Calls Tryd.prog 29 #[.int .i64 (m : Int), .slice a1 n1 c1, .slice a2 n2 c2] w
      fun e w' => ∃ a' n' cap' b' k' cap2 A L, e = .returned (.tuple #[.slice a' n' cap', .slice b' k' cap2]) ∧ ROut m w w' a' n' cap' A ∧ ROut m w w' b' k' cap2 L ∧ Dv2 (sr m l1) (sr m l2) A L (top (sr m l2) n2 - 1) ∧ Below w.heap.size w w' := by
  obtain ⟨i0, hi, hz0, hz1, hz2⟩ := info64
  have HP1 := Lib.hid h1
  have HP2 := Lib.hid h2
  have hb1 : Bd (sr m l1) n1 := by have := sr_bd (m := m) l1; rwa [← h1.hlen] at this
  have hb2 : Bd (sr m l2) n2 := by have := sr_bd (m := m) l2; rwa [← h2.hlen] at this
  have ht1 := top_le (sr m l1) n1
  have ht2 := top_le (sr m l2) n2
  have HB1 := Lib.hid hb1
  have HB2 := Lib.hid hb2
  obtain ⟨d, hd⟩ : ∃ d, d + 1 = top (sr m l2) n2 := ⟨top (sr m l2) n2 - 1, by omega⟩
  have HD := Lib.hid hd
  have HDg : Hid (Dg (sr m l2) d) := dg_top hb2 hd
  clear h1 h2 hb1 hb2 hz hd
  go_enter Tryd.func29, Tryd.ntmps29
  go_wp2_with fail
  refine (rtrim_any (m := m) a1 n1 c1 l1 w HP1.out (by omega)).mono ?_
  rintro e w1 ⟨p1, N1, d1, rfl, hO1, b1⟩
  go_wp2_with fail
  refine (rtrim_any (m := m) a2 n2 c2 l2 w1 (HP2.out.below b1) (by omega)).mono ?_
  rintro e w2 ⟨p2, N2, d2, rfl, hO2, b2⟩
  have hN1 : N1 ≤ n1 := by rw [hO1.len HB1.out]; exact ht1
  have hN2 : N2 = d + 1 := by rw [hO2.len HB2.out]; exact HD.out.symm
  have hdn : d < n2 := by have := HD.out; omega
  have hdN : d < N2 := by omega
  replace hO1 := (hO1.since b2)
  replace hO2 := hO2.from b1.size
  have HB12 := Lib.hid (b1.trans (b2.mono b1.size))
  have hb12 := HB12.out.size
  clear b1 b2
  generalize hPe : sr m l1 = P at hO1 HB1 ht1
  generalize hQe : sr m l2 = Q at hO2 HB2 ht2 HDg
  have HPe := Lib.hid hPe
  have HQe := Lib.hid hQe
  clear hPe hQe
  have HO1 := Lib.hid hO1
  have HO2 := Lib.hid hO2
  obtain ⟨bq, oq, rfl, cT, hbq⟩ := hO2.row.row d hdN
  rw [nums_at Q N2 d hdN] at cT
  have hmk := made64 w2 (N1 + 1) (by omega)
  rw [nums_pz (m := m)] at hmk
  have HK0 : Hid (Blk64 (w2.alloc (obj64 (nums (pz : Ser (El m)) (N1 + 1)))) w2.heap.size (nums (pz : Ser (El m)) (N1 + 1))) := Blk64.new w2 _
  have HB0 : Hid (Below w2.heap.size w2 (w2.alloc (obj64 (nums (pz : Ser (El m)) (N1 + 1))))) := (Below.refl _ _).alloc (Nat.le_refl _) _
  have cT3 := (HB0.out.cell (p := ⟨bq, oq + d, none⟩) hbq).trans cT
  have i1 : (N2 : Int) - 1 = (d : Int) := by omega
  have i2 : IntKind.i64.wrap ((N2 : Int) - 1) = (d : Int) := by rw [i1]; exact IntWalk.i64_in _ (by omega)
  have i3 : (d : Int) < (N2 : Int) := by omega
  have i4 : IntKind.i64.wrap (d : Int) = (d : Int) := IntWalk.i64_in _ (by omega)
  have x0 : (0 : Int) ≤ (d : Int) := by omega
  have hN2m : N2 ≤ 10000 := by omega
  have HN2 := Lib.hid hN2
  rw [show ((N1 + 1 : Nat) : Int) = (N1 : Int) + 1 by omega] at hmk
  clear hO1 hO2 hN2
  go_wp2_with fail
  clear hmk
  generalize w2.alloc (obj64 (nums (pz : Ser (El m)) (N1 + 1))) = w3 at HK0 HB0 cT3 ⊢
  go_wp2_with fail
  refine (rinv_zz (m := m) (Q d) HDg.out.1 w3).mono ?_
  rintro e w4 ⟨rfl, b4⟩
  have HK4 : Hid (Blk64 w4 w2.heap.size (nums (pz : Ser (El m)) (N1 + 1))) := (b4.block _ HK0.out.lt).trans HK0.out
  have HB4 : Hid (Below w2.heap.size w2 w4) := HB0.out.trans (b4.mono HB0.out.size)
  clear HK0 HB0 cT cT3 b4 i1 i2 i3 i4
  go_wp2_with fail
  go_loopg [1] N1 (fun gh s1 wx => ∃ (pa : Option Addr) (k pc : Nat) (A L : Ser (El m)), gh = k ∧ k ≤ N1 ∧ s1 = .slice pa k pc ∧ ROut m w wx pa k pc L ∧ (∀ bb off, pa = some ⟨bb, off, none⟩ → k ≠ 0 → bb ≠ w2.heap.size) ∧ Blk64 wx w2.heap.size (nums A (N1 + 1)) ∧ Hid (RDivs P Q A L d k N1) ∧ Below w2.heap.size w2 wx)
  case atStart =>
    refine ⟨p1, N1, d1, pz, P, rfl, Nat.le_refl _, rfl, HO1.out.since HB4.out, fun bb off e h0 => ?_, HK4.out, ⟨by rw [cv_zero, zero_padd], HO1.out.bd, bd_pz _, fun _ _ => rfl⟩, HB4.out⟩
    obtain ⟨b', o', e', _, hlt⟩ := HO1.out.row.row 0 (by omega)
    rw [e] at e'
    simp only [Option.some.injEq, Addr.mk.injEq] at e'
    omega
  case round =>
    clear HK4 HB4
    obtain ⟨pa, k, pc, A, L, hg, hk, rfl, hO, hne, hkq, HR, hB⟩ := hrel
    have HG := Lib.hid hg
    clear hg
    have HNE := Lib.hid hne
    have HO := Lib.hid hO
    have HKQ := Lib.hid hkq
    have HB := Lib.hid hB
    have hbs := hB.size
    clear hne hO hkq hB
    by_cases hge : N2 ≤ k
    · obtain ⟨k1, hk1⟩ : ∃ k1, k = k1 + 1 := ⟨k - 1, by omega⟩
      obtain ⟨s, hs⟩ : ∃ s, s = k - N2 := ⟨_, rfl⟩
      have HK1 := Lib.hid hk1
      have HS : Hid (k1 = s + d) := by show _ = _; have := HN2.out; omega
      have t1 : decide ((N2 : Int) ≤ (k : Int)) = true := decide_eq_true (by omega)
      have e1 : (k : Int) - (N2 : Int) = (s : Int) := by omega
      have e2 : IntKind.i64.wrap ((k : Int) - (N2 : Int)) = (s : Int) := by rw [e1]; exact IntWalk.i64_in _ (by omega)
      have e3 : (k : Int) - 1 = (k1 : Int) := by omega
      have e4 : IntKind.i64.wrap ((k : Int) - 1) = (k1 : Int) := by rw [e3]; exact IntWalk.i64_in _ (by omega)
      have e5 : IntKind.i64.wrap (s : Int) = (s : Int) := IntWalk.i64_in _ (by omega)
      have e6 : IntKind.i64.wrap (k1 : Int) = (k1 : Int) := IntWalk.i64_in _ (by omega)
      have y0 : (0 : Int) ≤ (s : Int) := by omega
      have y1 : (s : Int) < (N1 : Int) + 1 := by omega
      have y2 : (0 : Int) ≤ (k1 : Int) := by omega
      have y3 : (k1 : Int) < (k : Int) := by omega
      have hsN : s < N1 + 1 := by omega
      have hkN : k1 < N1 := by omega
      have hsm : s ≤ 10000 := by omega
      have hkm : k ≤ 10000 := by omega
      obtain ⟨bp, op, rfl, cL, hbp⟩ := HO.out.row.row k1 (by omega)
      rw [nums_at L k k1 (by omega)] at cL
      obtain ⟨c, hc⟩ : ∃ c, c = L k1 * (Q d)⁻¹ := ⟨_, rfl⟩
      have HC := Lib.hid hc
      have hc0 : Hid (c ≠ 0) := by
        show _ ≠ _
        rw [hc]
        have ht := HO.out.top
        refine mul_ne ?_ (inv_ne HDg.out.1)
        have hd := dg_top HO.out.bd (by rw [ht]; exact hk1.symm : k1 + 1 = top L k)
        exact hd.1
      clear hk1 hs hc
      go_wp2_with fail
      refine (rmul_zz (m := m) (L k1) (Q d)⁻¹ wr).mono ?_
      rintro e w5 ⟨rfl, b5⟩
      rw [← HC.out]
      have hk5 : Blk64 w5 w2.heap.size (nums A (N1 + 1)) := (b5.block _ HKQ.out.lt).trans HKQ.out
      have cq := hk5.cell (i := s) (by rw [nums_length]; exact hsN)
      have cf := hk5.free s
      generalize nth64 (nums A (N1 + 1)) s = zo at cq
      have HO5 := Lib.hid (HO.out.since b5)
      have HB5 := Lib.hid (HB.out.trans (b5.mono hbs))
      have HK5 := Lib.hid hk5
      have U6 : Upd w2.heap.size w5 (w5.setCell ⟨w2.heap.size, s, none⟩ (.int .i64 (zn c))) := (Upd.refl _ w5).only (Only.setCell _ ⟨w2.heap.size, s, none⟩ _)
      obtain ⟨A1, hA1⟩ : ∃ A1, A1 = padd A (mono s c) := ⟨_, rfl⟩
      have HK6 : Hid (Blk64 (w5.setCell ⟨w2.heap.size, s, none⟩ (.int .i64 (zn c))) w2.heap.size (nums A1 (N1 + 1))) := by
        have hs := hk5.set s (zn c)
        have hz : A1 s = c := by
          rw [hA1]; show A s + mono s c s = c
          rw [HR.out.free s (by have := HS.out; have := HK1.out; omega), show mono s c s = c from if_pos rfl, zero_add]
        have es := nums_set A A1 (N1 + 1) s (fun j hj => by
          rw [hA1]; show A j + mono s c j = A j
          rw [show mono s c j = 0 from if_neg hj, Fl.add_zero])
        rw [hz] at es
        rw [es] at hs
        exact hs
      have HO6 : Hid (RowZ (w5.setCell ⟨w2.heap.size, s, none⟩ (.int .i64 (zn c))) (some ⟨bp, op, none⟩) k pc (nums L k)) := HO5.out.row.upd U6 HNE.out
      have HB6 : Hid (Below w2.heap.size w2 (w5.setCell ⟨w2.heap.size, s, none⟩ (.int .i64 (zn c)))) := HB5.out.trans (U6.toBelow (Nat.le_refl _) HB5.out.size)
      have hmk := made64 (w5.setCell ⟨w2.heap.size, s, none⟩ (.int .i64 (zn c))) s (by omega)
      have hsz6 : (w5.setCell ⟨w2.heap.size, s, none⟩ (.int .i64 (zn c))).heap.size = w5.heap.size := by
        show (w5.heap.modify _ _).size = _
        exact Array.size_modify
      have HZ6 := Lib.hid hsz6
      have HA1 := Lib.hid hA1
      clear hk5 b5 cL HKQ HB hbs hbp U6 HK5 HB5 HO5 hA1 hsz6
      go_wp2_with fail
      clear hmk cq cf
      generalize w5.setCell ⟨w2.heap.size, s, none⟩ (.int .i64 (zn c)) = w6 at HK6 HO6 HB6 HZ6 ⊢
      have hb7 : Below w6.heap.size w6 (w6.alloc (obj64 (List.replicate s 0))) := (Below.refl _ _).alloc (Nat.le_refl _) _
      have hr7 : Blk64 (w6.alloc (obj64 (List.replicate s 0))) w6.heap.size (List.replicate s 0) := Blk64.new w6 _
      have hz7 : (w6.alloc (obj64 (List.replicate s 0))).heap.size = w5.heap.size + 1 := by
        rw [← HZ6.out]
        show (w6.heap.push _).size = _
        exact Array.size_push _
      generalize w6.alloc (obj64 (List.replicate s 0)) = w7 at hb7 hr7 hz7 ⊢
      have hb8 : Below w7.heap.size w7 (w7.alloc (.cells #[.int .i64 (zn c)] 3 (0, 0))) := (Below.refl _ _).alloc (Nat.le_refl _) _
      have hs8 : RowZ (w7.alloc (.cells #[.int .i64 (zn c)] 3 (0, 0))) (some ⟨w7.heap.size, 0, none⟩) 1 1 [zn c] := row_single w7 (zn c)
      generalize w7.alloc (.cells #[.int .i64 (zn c)] 3 (0, 0)) = w8 at hb8 hs8 ⊢
      have hb68 : Below w6.heap.size w6 w8 := hb7.trans (hb8.mono hb7.size)
      have hB8 := HB6.out.trans (hb68.mono HB6.out.size)
      have hq8 : RowZ w8 (some ⟨bq, oq, none⟩) N2 d2 (nums Q N2) := HO2.out.row.below hB8
      have hr8 : Blk64 w8 w6.heap.size (List.replicate s 0) := (hb8.block _ hr7.lt).trans hr7
      have hg8 : w6.heap.size < w8.heap.size := hr8.lt
      rw [hz7] at hs8
      rw [HZ6.out] at hr8 hg8 hb68
      refine (rtimes_any (m := m) _ N2 d2 _ _ 1 1 _ w8 hq8 hs8 (by omega) (by omega)).mono ?_
      rintro e w9 ⟨pt, nt, ct, rfl, hOt, b9⟩
      rw [sr_nums HO2.out.bd, sr_single] at hOt
      have hDt : Dg (cv Q (mono 0 c)) d := by
        have h0 : Dg (mono 0 c) 0 := ⟨by show (if (0 : Nat) = 0 then c else 0) ≠ 0; rw [if_pos rfl]; exact hc0.out, mono_bd 0 c⟩
        exact HDg.out.mul h0
      have hnt : nt = d + 1 := (hOt.len hDt.2).trans (top_dg hDt)
      obtain ⟨bt, ot, rfl, _, _⟩ := hOt.row.row 0 (by omega)
      have hr9 : Own64 w9 w5.heap.size (.slice (some ⟨w5.heap.size, 0, none⟩) s s) s (List.replicate s 0) := Blk64.own ((b9.block _ hr8.lt).trans hr8 : Blk64 w9 _ _) (Nat.le_refl _) (by simp) (by unfold maxLen; omega)
      have hnm : nt ≤ 10000 := by omega
      have hg9 : w5.heap.size ≤ w9.heap.size := by have := b9.size; omega
      have HR9 := Lib.hid hr9
      have HNW := Lib.hid (RowZ.news hOt.row)
      have HL9 : Hid ((cells64 (nums (cv Q (mono 0 c)) nt)).length = nt * 1) := by show _ = _; rw [cells64_length, nums_length, Nat.mul_one]
      have HO9 := Lib.hid hOt
      have HB9 := Lib.hid (hb68.trans (b9.mono (by omega)))
      have HNT := Lib.hid hnt
      clear hb7 hr7 hz7 hb8 hs8 hb68 hB8 hq8 hr8 hg8 hOt b9 hDt hnt hr9
      go_wp2_with (at_builtin; refine wpList_append_own _ rfl _ _ 22 rfl w5.heap.size 3 i0 (.int .i64 0) 1 8 Tryd.underlying22 hi hz0 hz1 hz2 rfl (by decide) _ s _ rfl HR9.out ⟨bt, ot, none⟩ nt ct (cells64 (nums (cv Q (mono 0 c)) nt)) rfl HL9.out HNW.out (cells64_one _) (by unfold maxLen; omega) (by omega) hg9 ?_; intro v7 w10 hown7 hgrow _; have ho10 : Own64 w10 w5.heap.size v7 (s + nt) (List.replicate s 0 ++ nums (cv Q (mono 0 c)) nt) := (by unfold Own64; rw [← cells64_append]; exact hown7); clear hown7; obtain ⟨av, cav, rfl⟩ := own_slice ho10)
      have b10 : Below w5.heap.size w6 w10 := HB9.out.grown hgrow hg9 (fun g hg => (HR9.out.block g hg).1)
      have hsz := HB6.out.size
      rw [HZ6.out] at hsz
      have hB10 : Below w2.heap.size w2 w10 := HB6.out.trans (b10.mono hsz)
      have hp10 : RowZ w10 (some ⟨bp, op, none⟩) k pc (nums L k) := HO6.out.below (by rw [HZ6.out]; exact b10)
      have hr10 := (own_rowz ho10).1
      have hq10 : Blk64 w10 w2.heap.size (nums A1 (N1 + 1)) := (b10.block _ (by have := HK6.out.lt; rwa [HZ6.out] at this)).trans HK6.out
      have hsz10 := hB10.size
      clear hgrow ho10 hsz
      refine (radd_any (m := m) _ k pc _ av (s + nt) cav _ w10 hp10 hr10 (by omega) (by omega)).mono ?_
      rintro e w11 ⟨pa', k', pc', rfl, hO', b11⟩
      rw [sr_nums HO.out.bd, sr_shift, sr_nums HO9.out.bd, cv_comm Q, ← cv_assoc, mono_mul] at hO'
      have hbd : Bd (padd L (cv (mono s c) Q)) k1 := by
        have h := div_step (k := k1) HDg.out (by have := HO.out.bd; rwa [HK1.out] at this) (by have := HS.out; omega)
        rwa [show k1 - d = s by have := HS.out; omega, ← HC.out] at h
      have hk' : k' ≤ k1 := by rw [hO'.len hbd]; exact top_le _ _
      have hR' : RDivs P Q A1 (padd L (cv (mono s c) Q)) d k' N1 := by
        have h := HR.out
        rw [HK1.out] at h
        have h2 := h.next HDg.out HS.out hkN hk' (by rw [← HC.out]; exact hO'.bd)
        rwa [← HC.out, ← HA1.out] at h2
      have HR' := Lib.hid hR'
      have HO' := Lib.hid (hO'.from (w0 := w) (by omega))
      have hne' : ∀ bb off, pa' = some ⟨bb, off, none⟩ → k' ≠ 0 → bb ≠ w2.heap.size := fun bb off e _ => by have := hO'.fresh bb off e; have := hq10.lt; omega
      have HNE' := Lib.hid hne'
      have HQ' : Hid (Blk64 w11 w2.heap.size (nums A1 (N1 + 1))) := (b11.block _ hq10.lt).trans hq10
      have HB' := Lib.hid (hB10.trans (b11.mono hsz10))
      clear hbd hR' hO' hne' b11 hp10 hr10 hq10 hB10 b10
      go_wp2_with fail
      go_roundg k'
      case measure => have := HG.out; have := HK1.out; omega
      case rel => exact ⟨pa', k', pc', A1, _, rfl, by omega, rfl, HO'.out, HNE'.out, HQ'.out, HR'.out, HB'.out⟩
    · have t1 : decide ((N2 : Int) ≤ (k : Int)) = false := decide_eq_false (by omega)
      have HL : Hid (Bd L d) := HO.out.bd.mono (by have := HN2.out; omega)
      have hrow := Blk64.rowz HKQ.out (by rw [nums_length]; omega)
      rw [nums_length] at hrow
      have HRow := Lib.hid hrow
      have hlt : k < N2 := by omega
      clear hrow
      go_wp2_with fail
      refine (rtrim_any (m := m) _ (N1 + 1) (N1 + 1) _ wr HRow.out (by omega)).mono ?_
      rintro e w5 ⟨a', n', cap', rfl, hOA, b5⟩
      rw [sr_nums HR.out.bd] at hOA
      have HOA := Lib.hid (hOA.from (w0 := w) (by omega))
      have HOL := Lib.hid (HO.out.since b5)
      have HB5 := Lib.hid (HB12.out.trans ((HB.out.trans (b5.mono hbs)).mono hb12))
      clear hOA b5
      go_wp2_with fail
      go_ret2
      exact ⟨_, _, _, _, _, _, A, L, rfl, HOA.out, HOL.out, by rw [← HD.out, Nat.add_sub_cancel, HPe.out, HQe.out]; exact ⟨HR.out.sum, ⟨_, HR.out.bd⟩, HL.out⟩, HB5.out⟩
end
end Go.Proofs.YtgfaaaeechgjmaaDoor.Pl
