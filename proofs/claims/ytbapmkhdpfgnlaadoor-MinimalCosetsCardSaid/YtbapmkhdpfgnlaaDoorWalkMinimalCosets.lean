/- The walk over MinimalCosets. By the verifier of shale. -/
import Derived.Test.YtbapmkhdpfgnlaaDoorGreat1
import Derived.Test.YtbapmkhdpfgnlaaDoorGreat2
import Derived.Test.YtbapmkhdpfgnlaaDoorGreat3
import Derived.Test.YtbapmkhdpfgnlaaDoorLaidMinimalCosets
namespace Go.Proofs.YtbapmkhdpfgnlaaDoor.walkMinimalCosets
open Go Go.RowKit Cos
set_option linter.unusedVariables false
theorem neq_err (a : Addr) (w : World) : (binOp .neq 25 (errOf a) (errOf a)).run Tryd.prog w = .ok (.bool false) w := by
  obtain ⟨i, hi, hc⟩ := Option.map_eq_some_iff.1 compErr
  obtain ⟨j, hj, _⟩ := Option.map_eq_some_iff.1 sizeErr
  simp only [binOp]
  simp [Op.equal, Op.maxDepth, run_equalIn_iface_ptr_same w 9998 a Tryd.underlying25 Tryd.underlying143 hi hc hj]
theorem leads_pre (m a s j : Nat) : ∀ k, ∃ t, leads m a s (j + k) = leads m a s j ++ t
  | 0 => ⟨[], (List.append_nil _).symm⟩
  | k + 1 => by
    obtain ⟨t, ht⟩ := leads_pre m a s j k
    show ∃ u, leads m a s (j + k + 1) = _
    rw [leads]
    split
    · exact ⟨t, ht⟩
    · exact ⟨t ++ [(a + s * (j + k)) % sz m], by rw [ht, List.append_assoc]⟩
theorem leads_one {m j : Nat} (hj : j < sz m) : leads m 0 1 (j + 1) = if cov m (leads m 0 1 j) j then leads m 0 1 j else leads m 0 1 j ++ [j] := by
  rw [leads, show (0 + 1 * j) % sz m = j by rw [Nat.zero_add, Nat.one_mul, Nat.mod_eq_of_lt hj]]
theorem leads_next {m j : Nat} (hj : j < sz m) (hc : cov m (leads m 0 1 j) j = false) : (leads m 0 1 j).length < (leads m 0 1 (sz m)).length ∧ (leads m 0 1 (sz m)).getD (leads m 0 1 j).length 0 = j := by
  obtain ⟨t, ht⟩ := leads_pre m 0 1 (j + 1) (sz m - (j + 1))
  rw [show j + 1 + (sz m - (j + 1)) = sz m by omega, leads_one hj, hc] at ht
  constructor
  · rw [ht]; simp
  · rw [ht]; simp [List.getD_eq_getElem?_getD]
theorem cos_divides {m f : Nat} (hm : 3 ≤ m) (hf : f < sz m) : m % (cos m f).length = 0 := by
  obtain ⟨d, hd⟩ := per_exists hm hf
  rw [cos_length hm hf hd]
  refine Classical.byContradiction fun h0 => ?_
  refine hd.min (m % d) (by omega) (Nat.mod_lt _ hd.pos) ?_
  rw [← orb_mod hd, orb_m hf]
set_option maxRecDepth 100000 in
set_option maxHeartbeats 4000000 in
theorem core (m0 : Nat) (x1 : Int) (w : World) (y z : Addr) (E : ErrAt w 1 y) (F : ErrAt w 0 z) (b3 : 3 ≤ m0) (b4 : m0 ≤ 14) :
    Calls Tryd.prog 3 #[.int .i64 (m0 : Int), .int .i64 x1] w fun e w' => e = .returned (.bool true) ∧ Below w.heap.size w w' := by
  have HQ := Lib.hid (mk7_go (m0 : Int))
  have hq0 : (m0 : Int) % 7 + 3 = (mk7 (m0 : Int) : Int) := by unfold mk7; omega
  have b1 : decide ((3 : Int) ≤ (m0 : Int)) = true := decide_eq_true (by omega)
  have b2 : decide ((m0 : Int) ≤ 14) = true := decide_eq_true (by omega)
  have hm3 : 3 ≤ mk7 (m0 : Int) := Pl.Mid.lo
  have hm9 := mk7_hi (m0 : Int)
  obtain ⟨m, hme⟩ : ∃ m, m = mk7 (m0 : Int) := ⟨_, rfl⟩
  rw [← hme] at hq0 hm3 hm9
  clear hme HQ
  have HQ := Lib.hid hq0
  clear hq0
  have hm14 : (m : Int) ≤ 14 := by omega
  have ho := Fld.shl_one m (by omega)
  have hn := sz_lo hm3
  have hn2 := sz_hi (by omega : m ≤ 14)
  have hw : IntKind.i64.wrap ((Fld.els m : Int) - 1) = (sz m : Int) := by
    have : (Fld.els m : Int) - 1 = (sz m : Int) := by unfold Fld.els sz; have := Nat.two_pow_pos m; omega
    rw [this]; exact IntWalk.i64_in _ (by omega)
  obtain ⟨N, hN⟩ : ∃ N, N = sz m := ⟨_, rfl⟩
  rw [← hN] at hn hn2 hw
  have HN := Lib.hid hN
  clear hN
  go_enter Tryd.func3, Tryd.ntmps3
  go_wp2_with fail
  refine (first_any w y E).mono ?_
  rintro e w1 ⟨rfl, B⟩
  replace F := F.below B
  clear E
  go_wp2_with fail
  refine (coset_any m0 b3 b4 x1 w1).mono ?_
  rintro e w2 ⟨aq, nq, cq, rfl, _, b⟩
  replace B := B.trans (b.mono B.size)
  clear b F
  go_wp2_with fail
  refine (all_any m0 b3 b4 w2).mono ?_
  rintro e w3 ⟨vq, nq', vsq, rfl, _, b⟩
  replace B := B.trans (b.mono B.size)
  clear b
  go_wp2_with fail
  rw [HQ.out]
  refine (coset_any m hm3 (by omega) x1 w3).mono ?_
  rintro e w4 ⟨ac, nc, cc, rfl, hO, b⟩
  have Rc := (Pl.own_rowz hO).1
  replace B := B.trans (b.mono B.size)
  clear b hO
  go_wp2_with fail
  refine (all_any m hm3 (by omega) w4).mono ?_
  rintro e w5 ⟨v, n, vs, rfl, hC, b⟩
  replace Rc := Rc.below b
  replace B := B.trans (b.mono B.size)
  have HL : Hid (n = (leads m 0 1 N).length) := by show _ = _; rw [← hC.len, ← HN.out]
  have hn0 : 0 < n := by
    rw [HL.out]
    obtain ⟨N', rfl⟩ : ∃ N', N = N' + 1 := ⟨N - 1, by omega⟩
    exact leads_pos m 0 1 N'
  have hnN : n ≤ N := by rw [HL.out]; exact leads_le m 0 1 N
  have hlts := leads_lt hm3 0 1 N
  have HNE : Hid (∀ k, k < n → cos m ((leads m 0 1 (sz m)).getD k 0) ≠ []) := fun k hk => cos_ne hm3 (leads_lt hm3 0 1 (sz m) _ (getD_lt (by rw [hC.len]; exact hk)))
  obtain ⟨g9, cap, rfl, hnc, hcm, _⟩ := hC.open hn0
  clear b hlts
  have hmk := madeB w5 N (by omega)
  have HC := Lib.hid hC
  have HRc := Lib.hid Rc
  have HB := Lib.hid B
  clear hC Rc B
  go_wp2_with fail
  have hb1 : Below w5.heap.size w5 (w5.alloc (objB (List.replicate N false))) := (Below.refl _ _).alloc (Nat.le_refl _) _
  have hf1 : BF (w5.alloc (objB (List.replicate N false))) w5.heap.size N (cov m (leads m 0 1 0)) := (BF.new w5 N).of fun i hi => by simp [leads, cov]
  clear hmk hw
  try rw [ho]
  generalize w5.alloc (objB (List.replicate N false)) = w6 at hb1 hf1 ⊢
  go_loopg [18, 19] N (fun gh s18 s19 wx => ∃ (j : Nat), gh = N - j ∧ j ≤ N ∧ s19 = .int .i64 (j : Int) ∧ s18 = .int .i64 (((leads m 0 1 j).length : Nat) : Int) ∧ BF wx w5.heap.size N (cov m (leads m 0 1 j)) ∧ Below w5.heap.size w5 wx)
  case atStart => exact ⟨0, rfl, Nat.zero_le _, rfl, rfl, hf1, hb1⟩
  case round =>
    clear hf1 hb1
    obtain ⟨j, hg, hj, rfl, rfl, hF, hB⟩ := hrel
    have HG := Lib.hid hg
    clear hg
    obtain ⟨W0, rfl⟩ : ∃ W0, W0 = wr := ⟨_, rfl⟩
    by_cases hlt : j < N
    · have x1' : (j : Int) < (N : Int) := by omega
      have x0' : (0 : Int) ≤ (j : Int) := by omega
      have d1 := hF.cell hlt
      have hjs : j < sz m := by rw [← HN.out]; exact hlt
      have hone := leads_one hjs
      have HFF := Lib.hid hF
      by_cases hcv : cov m (leads m 0 1 j) j = true
      · rw [hcv] at d1 hone
        have HO : Hid (leads m 0 1 (j + 1) = leads m 0 1 j) := by show _ = _; rw [hone, if_pos rfl]
        have HBB := Lib.hid hB
        clear hcv hone hF hB
        go_wp2_with fail
        go_roundg (N - (j + 1))
        case measure => have := HG.out; omega
        case rel => exact ⟨j + 1, rfl, by omega, by go_num, by rw [HO.out], by rw [HO.out]; exact HFF.out, HBB.out⟩
      · have hcv' : cov m (leads m 0 1 j) j = false := Bool.eq_false_iff.2 hcv
        rw [hcv'] at d1 hone
        have HO : Hid (leads m 0 1 (j + 1) = leads m 0 1 j ++ [j]) := by show _ = _; rw [hone, if_neg (by decide)]
        have hnx := leads_next hjs hcv'
        rw [← HN.out, ← HL.out] at hnx
        obtain ⟨A, hA⟩ : ∃ A, A = (leads m 0 1 j).length := ⟨_, rfl⟩
        rw [← hA] at hnx ⊢
        have HA := Lib.hid hA
        have hAn : A < n := hnx.1
        have hAj : Hid ((leads m 0 1 N).getD A 0 = j) := hnx.2
        have HBB := Lib.hid hB
        clear hcv hone hF hB hnx hA hcv'
        go_wp2_with fail
        refine (rcoset_any m hm3 (by omega) (j : Int) W0).mono ?_
        rintro e w7 ⟨a7, n7, c7, rfl, hO7, b7⟩
        rw [rs_nat hjs] at hO7
        have hl7 := hO7.len
        rw [ints_length] at hl7
        obtain rfl : n7 = (cos m j).length := hl7.symm
        have R7 := (Pl.own_rowz hO7).1
        have hbb : ∀ bb off, a7 = some ⟨bb, off, none⟩ → (cos m j).length ≠ 0 → bb ≠ w5.heap.size := fun bb off e _ => by
          have h1 := (Pl.own_rowz hO7).2 bb off e
          have h2 := HFF.out.lt
          omega
        have HBN := Lib.hid hbb
        clear hbb
        have hB7 : Below w5.heap.size w5 w7 := HBB.out.trans (b7.mono HBB.out.size)
        have hF7 : BF w7 w5.heap.size N (cov m (leads m 0 1 j)) := (b7.block _ HFF.out.lt).trans HFF.out
        have hC7 := HC.out.below hB7 HNE.out
        obtain ⟨g, c, ev, hr, _, _⟩ := hC7.each A hAn
        obtain ⟨g9', cap', hv, _, _, hcell⟩ := hC7.open hn0
        simp only [Value.slice.injEq, Option.some.injEq, Addr.mk.injEq, true_and, and_true] at hv
        obtain ⟨rfl, rfl⟩ := hv
        have d3 := (hcell A hAn).trans ev
        rw [← HN.out, hAj.out] at d3 hr
        have h1 : ¬ n ≤ A := by omega
        have h1' : (A : Int) < (n : Int) := by omega
        have h0' : (0 : Int) ≤ (A : Int) := by omega
        have hdv := cos_divides hm3 hjs
        have hpos : 0 < (cos m j).length := List.length_pos_iff.2 (cos_ne hm3 hjs)
        have hle := cos_len_le hm3 hjs
        obtain ⟨L, hLe⟩ : ∃ L, L = (cos m j).length := ⟨_, rfl⟩
        rw [← hLe] at d3 hr R7 hdv hpos hle ⊢
        have hdv2 : (m : Int).tmod (L : Int) = 0 := by rw [Int.tmod_eq_emod_of_nonneg (by omega), ← Int.natCast_emod, hdv]; rfl
        have hL0 : ((L : Int) == 0) = false := by rw [beq_eq_false_iff_ne]; omega
        have hL1 : ¬ (L : Int) = 0 := by omega
        have hL2 : ¬ L = 0 := by omega
        have HLe := Lib.hid hLe
        have Hr := Lib.hid hr
        have HR7 := Lib.hid R7
        have HF7 := Lib.hid hF7
        have HB7 := Lib.hid hB7
        clear hO7 hl7 hLe hC7 ev hcell hr R7 hF7 hB7 b7 hdv HFF HBB
        go_wp2_with fail
        refine (Pl.sameZ_any _ _ _ _ _ _ _ _ w7 Hr.out HR7.out).mono ?_
        rintro e w8 ⟨rfl, d⟩
        rw [decide_eq_true rfl]
        have b8 := d.below w7.heap.size
        have R8 := HR7.out.below b8
        have hF8 : BF w8 w5.heap.size N (fun u => cov m (leads m 0 1 j) u || ((cos m j).take 0).contains u) := by
          refine BF.of (p := cov m (leads m 0 1 j)) ((b8.block _ HF7.out.lt).trans HF7.out) fun i hi => by simp
        have hB8 : Below w5.heap.size w5 w8 := HB7.out.trans (b8.mono HB7.out.size)
        have HR8 := Lib.hid R8
        have HBN2 : Hid (∀ bb off, a7 = some ⟨bb, off, none⟩ → L ≠ 0 → bb ≠ w5.heap.size) := fun bb off e h => HBN.out bb off e (by rw [← HLe.out]; exact h)
        clear d b8 Hr HR7 HF7 HB7 d3 R8 HBN
        go_wp2_with fail
        go_loopg [21] L (fun gh s21 wx => ∃ (i : Nat), gh = L - i ∧ i ≤ L ∧ s21 = .int .i64 (i : Int) ∧ BF wx w5.heap.size N (fun u => cov m (leads m 0 1 j) u || ((cos m j).take i).contains u) ∧ Hid (Pl.RowZ wx a7 L c7 (ints (cos m j))) ∧ Below w5.heap.size w5 wx)
        case atStart => exact ⟨0, rfl, Nat.zero_le _, rfl, hF8, HR8, hB8⟩
        case round =>
          clear hF8 HR8 hB8
          obtain ⟨i, hg, hi, rfl, hF, HR, hB⟩ := hrel
          have HG2 := Lib.hid hg
          clear hg
          by_cases hlt2 : i < L
          · have v1 : (i : Int) < (L : Int) := by omega
            have v0 : (0 : Int) ≤ (i : Int) := by omega
            have hic : i < (cos m j).length := by rw [← HLe.out]; exact hlt2
            obtain ⟨u, hu⟩ : ∃ u, u = (cos m j).getD i 0 := ⟨_, rfl⟩
            have huc : u ∈ cos m j := by rw [hu]; exact getD_lt hic
            have huN : u < N := by rw [HN.out]; exact ((mem_cos u).1 huc).1
            have eu : (ints (cos m j)).getD i 0 = (u : Int) := by
              rw [hu]
              unfold ints
              rw [List.getD_eq_getElem?_getD, List.getElem?_map, List.getD_eq_getElem?_getD, List.getElem?_eq_getElem hic]; rfl
            have HNF : Hid (BF (wr.setCell ⟨w5.heap.size, u, none⟩ (.bool true)) w5.heap.size N (fun z => cov m (leads m 0 1 j) z || ((cos m j).take (i + 1)).contains z)) := by
              refine (hF.set u).of fun k hk => ?_
              have e : (cos m j).take (i + 1) = (cos m j).take i ++ [u] := by rw [List.take_add_one, hu, List.getD_eq_getElem?_getD, List.getElem?_eq_getElem hic]; rfl
              rw [e]
              simp [Bool.or_assoc]
            have U : Upd w5.heap.size wr (wr.setCell ⟨w5.heap.size, u, none⟩ (.bool true)) := (Upd.refl _ wr).only (Only.setCell _ ⟨w5.heap.size, u, none⟩ _)
            have HNR : Hid (Pl.RowZ (wr.setCell ⟨w5.heap.size, u, none⟩ (.bool true)) a7 L c7 (ints (cos m j))) := HR.out.upd U HBN2.out
            have HNB : Hid (Below w5.heap.size w5 (wr.setCell ⟨w5.heap.size, u, none⟩ (.bool true))) := hB.setCell (p := ⟨w5.heap.size, u, none⟩) (Nat.le_refl _) _
            obtain ⟨bb, off, rfl, d4, _⟩ := HR.out.row i hlt2
            rw [eu] at d4
            have d5 := hF.cell huN
            have d6 := hF.free u
            have y0 : (0 : Int) ≤ (u : Int) := by omega
            have y1 : (u : Int) < (N : Int) := by omega
            generalize (cov m (leads m 0 1 j) u || ((cos m j).take i).contains u) = bv at d5
            clear hF HR hB U huc hu eu hic hlt2 HBN2
            go_wp2_with fail
            go_roundg (L - (i + 1))
            case measure => have := HG2.out; omega
            case rel => exact ⟨i + 1, rfl, by omega, by go_num, HNF.out, HNR, HNB.out⟩
          · obtain rfl : i = L := by omega
            have HFE : Hid (BF wr w5.heap.size N (cov m (leads m 0 1 (j + 1)))) := hF.of fun k hk => by rw [HO.out, cov_snoc, List.take_of_length_le (by rw [← HLe.out]; exact Nat.le_refl _)]
            have HBE := Lib.hid hB
            clear hF hB HR
            go_wp2_with fail
            go_roundg (N - (j + 1))
            case measure => have := HG.out; omega
            case rel => exact ⟨j + 1, rfl, by omega, by go_num, by rw [HO.out, List.length_append, ← HA.out]; go_num, HFE.out, HBE.out⟩
    · obtain rfl : j = N := by omega
      have hAn : (leads m 0 1 j).length = n := HL.out.symm
      rw [hAn]
      have Rc := HRc.out.below hB
      have B := HB.out.trans (hB.mono HB.out.size)
      clear hF hB hAn
      go_wp2_with fail
      refine (rcoset_any m hm3 (by omega) x1 W0).mono ?_
      rintro e w7 ⟨a7, n7, c7, rfl, hO7, b7⟩
      have R7 := (Pl.own_rowz hO7).1
      replace Rc := Rc.below b7
      replace B := B.trans (b7.mono B.size)
      clear hO7 b7
      go_wp2_with fail
      refine (Pl.sameZ_any _ _ _ _ _ _ _ _ w7 Rc R7).mono ?_
      rintro e w8 ⟨rfl, d⟩
      rw [decide_eq_true rfl]
      replace B := B.trans ((d.below w7.heap.size).mono B.size)
      clear d Rc R7
      go_wp2_with fail
      go_ret
      exact ⟨rfl, B⟩
set_option maxRecDepth 100000 in
set_option maxHeartbeats 4000000 in
theorem bad (x0 : Int) (x1 : Int) (w : World) (y z : Addr) (E : ErrAt w 1 y) (F : ErrAt w 0 z) (hx : x0 < 3 ∨ 14 < x0) :
    Calls Tryd.prog 3 #[.int .i64 x0, .int .i64 x1] w fun e w' => e = .returned (.bool true) ∧ Below w.heap.size w w' := by
  have HQ := Lib.hid (mk7_go x0)
  have a1 := Int.tmod_lt_of_pos x0 (b := 7) (by omega)
  have a2 : -7 < x0.tmod 7 := by
    have := Int.tmod_lt_of_pos (-x0) (b := 7) (by omega)
    rw [Int.neg_tmod] at this
    omega
  have bb : decide ((3 : Int) ≤ x0) = false ∨ (decide ((3 : Int) ≤ x0) = true ∧ decide (x0 ≤ 14) = false) := by
    by_cases h : x0 < 3
    · exact Or.inl (decide_eq_false (by omega))
    · exact Or.inr ⟨decide_eq_true (by omega), decide_eq_false (by omega)⟩
  have hm3 : 3 ≤ mk7 x0 := Pl.Mid.lo
  have hm9 := mk7_hi x0
  obtain ⟨m, hme⟩ : ∃ m, m = mk7 x0 := ⟨_, rfl⟩
  rw [← hme] at HQ hm3 hm9
  clear hme
  have hm14 : (m : Int) ≤ 14 := by omega
  have ho := Fld.shl_one m (by omega)
  have hn := sz_lo hm3
  have hn2 := sz_hi (by omega : m ≤ 14)
  have hw : IntKind.i64.wrap ((Fld.els m : Int) - 1) = (sz m : Int) := by
    have : (Fld.els m : Int) - 1 = (sz m : Int) := by unfold Fld.els sz; have := Nat.two_pow_pos m; omega
    rw [this]; exact IntWalk.i64_in _ (by omega)
  obtain ⟨N, hN⟩ : ∃ N, N = sz m := ⟨_, rfl⟩
  rw [← hN] at hn hn2 hw
  have HN := Lib.hid hN
  clear hN
  go_enter Tryd.func3, Tryd.ntmps3
  go_wp2_with fail
  refine (first_any w y E).mono ?_
  rintro e w1 ⟨rfl, B⟩
  replace F := F.below B
  clear E
  go_wp2_with fail
  refine (coset_m x0 x1 hx w1 z F).mono ?_
  rintro e w2 ⟨rfl, d⟩
  have b := d.below w1.heap.size
  replace F := F.below b
  replace B := B.trans (b.mono B.size)
  clear b d
  go_wp2_with fail
  refine (all_m x0 hx w2 z F).mono ?_
  rintro e w3 ⟨rfl, d⟩
  have b := d.below w2.heap.size
  replace F := F.below b
  replace B := B.trans (b.mono B.size)
  clear b d
  have e1 := F.1
  unfold Sent at e1
  have q1 := neq_err z
  rcases bb with b1 | ⟨b1, b2⟩
  all_goals
    go_wp2_with fail
    rw [HQ.out]
    clear e1 q1 F
    refine (coset_any m hm3 (by omega) x1 w3).mono ?_
    rintro e w4 ⟨ac, nc, cc, rfl, hO, b⟩
    have Rc := (Pl.own_rowz hO).1
    replace B := B.trans (b.mono B.size)
    clear b hO
    go_wp2_with fail
    refine (all_any m hm3 (by omega) w4).mono ?_
    rintro e w5 ⟨v, n, vs, rfl, hC, b⟩
    replace Rc := Rc.below b
    replace B := B.trans (b.mono B.size)
    have HL : Hid (n = (leads m 0 1 N).length) := by show _ = _; rw [← hC.len, ← HN.out]
    have hn0 : 0 < n := by
      rw [HL.out]
      obtain ⟨N', rfl⟩ : ∃ N', N = N' + 1 := ⟨N - 1, by omega⟩
      exact leads_pos m 0 1 N'
    have hnN : n ≤ N := by rw [HL.out]; exact leads_le m 0 1 N
    have hlts := leads_lt hm3 0 1 N
    have HNE : Hid (∀ k, k < n → cos m ((leads m 0 1 (sz m)).getD k 0) ≠ []) := fun k hk => cos_ne hm3 (leads_lt hm3 0 1 (sz m) _ (getD_lt (by rw [hC.len]; exact hk)))
    obtain ⟨g9, cap, rfl, hnc, hcm, _⟩ := hC.open hn0
    clear b hlts
    have hmk := madeB w5 N (by omega)
    have HC := Lib.hid hC
    have HRc := Lib.hid Rc
    have HB := Lib.hid B
    clear hC Rc B
    go_wp2_with fail
    have hb1 : Below w5.heap.size w5 (w5.alloc (objB (List.replicate N false))) := (Below.refl _ _).alloc (Nat.le_refl _) _
    have hf1 : BF (w5.alloc (objB (List.replicate N false))) w5.heap.size N (cov m (leads m 0 1 0)) := (BF.new w5 N).of fun i hi => by simp [leads, cov]
    clear hmk hw
    try rw [ho]
    generalize w5.alloc (objB (List.replicate N false)) = w6 at hb1 hf1 ⊢
    go_loopg [18, 19] N (fun gh s18 s19 wx => ∃ (j : Nat), gh = N - j ∧ j ≤ N ∧ s19 = .int .i64 (j : Int) ∧ s18 = .int .i64 (((leads m 0 1 j).length : Nat) : Int) ∧ BF wx w5.heap.size N (cov m (leads m 0 1 j)) ∧ Below w5.heap.size w5 wx)
    case atStart => exact ⟨0, rfl, Nat.zero_le _, rfl, rfl, hf1, hb1⟩
    case round =>
      clear hf1 hb1
      obtain ⟨j, hg, hj, rfl, rfl, hF, hB⟩ := hrel
      have HG := Lib.hid hg
      clear hg
      obtain ⟨W0, rfl⟩ : ∃ W0, W0 = wr := ⟨_, rfl⟩
      by_cases hlt : j < N
      · have x1' : (j : Int) < (N : Int) := by omega
        have x0' : (0 : Int) ≤ (j : Int) := by omega
        have d1 := hF.cell hlt
        have hjs : j < sz m := by rw [← HN.out]; exact hlt
        have hone := leads_one hjs
        have HFF := Lib.hid hF
        by_cases hcv : cov m (leads m 0 1 j) j = true
        · rw [hcv] at d1 hone
          have HO : Hid (leads m 0 1 (j + 1) = leads m 0 1 j) := by show _ = _; rw [hone, if_pos rfl]
          have HBB := Lib.hid hB
          clear hcv hone hF hB
          go_wp2_with fail
          go_roundg (N - (j + 1))
          case measure => have := HG.out; omega
          case rel => exact ⟨j + 1, rfl, by omega, by go_num, by rw [HO.out], by rw [HO.out]; exact HFF.out, HBB.out⟩
        · have hcv' : cov m (leads m 0 1 j) j = false := Bool.eq_false_iff.2 hcv
          rw [hcv'] at d1 hone
          have HO : Hid (leads m 0 1 (j + 1) = leads m 0 1 j ++ [j]) := by show _ = _; rw [hone, if_neg (by decide)]
          have hnx := leads_next hjs hcv'
          rw [← HN.out, ← HL.out] at hnx
          obtain ⟨A, hA⟩ : ∃ A, A = (leads m 0 1 j).length := ⟨_, rfl⟩
          rw [← hA] at hnx ⊢
          have HA := Lib.hid hA
          have hAn : A < n := hnx.1
          have hAj : Hid ((leads m 0 1 N).getD A 0 = j) := hnx.2
          have HBB := Lib.hid hB
          clear hcv hone hF hB hnx hA hcv'
          go_wp2_with fail
          refine (rcoset_any m hm3 (by omega) (j : Int) W0).mono ?_
          rintro e w7 ⟨a7, n7, c7, rfl, hO7, b7⟩
          rw [rs_nat hjs] at hO7
          have hl7 := hO7.len
          rw [ints_length] at hl7
          obtain rfl : n7 = (cos m j).length := hl7.symm
          have R7 := (Pl.own_rowz hO7).1
          have hbb : ∀ bb off, a7 = some ⟨bb, off, none⟩ → (cos m j).length ≠ 0 → bb ≠ w5.heap.size := fun bb off e _ => by
            have h1 := (Pl.own_rowz hO7).2 bb off e
            have h2 := HFF.out.lt
            omega
          have HBN := Lib.hid hbb
          clear hbb
          have hB7 : Below w5.heap.size w5 w7 := HBB.out.trans (b7.mono HBB.out.size)
          have hF7 : BF w7 w5.heap.size N (cov m (leads m 0 1 j)) := (b7.block _ HFF.out.lt).trans HFF.out
          have hC7 := HC.out.below hB7 HNE.out
          obtain ⟨g, c, ev, hr, _, _⟩ := hC7.each A hAn
          obtain ⟨g9', cap', hv, _, _, hcell⟩ := hC7.open hn0
          simp only [Value.slice.injEq, Option.some.injEq, Addr.mk.injEq, true_and, and_true] at hv
          obtain ⟨rfl, rfl⟩ := hv
          have d3 := (hcell A hAn).trans ev
          rw [← HN.out, hAj.out] at d3 hr
          have h1 : ¬ n ≤ A := by omega
          have h1' : (A : Int) < (n : Int) := by omega
          have h0' : (0 : Int) ≤ (A : Int) := by omega
          have hdv := cos_divides hm3 hjs
          have hpos : 0 < (cos m j).length := List.length_pos_iff.2 (cos_ne hm3 hjs)
          have hle := cos_len_le hm3 hjs
          obtain ⟨L, hLe⟩ : ∃ L, L = (cos m j).length := ⟨_, rfl⟩
          rw [← hLe] at d3 hr R7 hdv hpos hle ⊢
          have hdv2 : (m : Int).tmod (L : Int) = 0 := by rw [Int.tmod_eq_emod_of_nonneg (by omega), ← Int.natCast_emod, hdv]; rfl
          have hL0 : ((L : Int) == 0) = false := by rw [beq_eq_false_iff_ne]; omega
          have hL1 : ¬ (L : Int) = 0 := by omega
          have hL2 : ¬ L = 0 := by omega
          have HLe := Lib.hid hLe
          have Hr := Lib.hid hr
          have HR7 := Lib.hid R7
          have HF7 := Lib.hid hF7
          have HB7 := Lib.hid hB7
          clear hO7 hl7 hLe hC7 ev hcell hr R7 hF7 hB7 b7 hdv HFF HBB
          go_wp2_with fail
          refine (Pl.sameZ_any _ _ _ _ _ _ _ _ w7 Hr.out HR7.out).mono ?_
          rintro e w8 ⟨rfl, d⟩
          rw [decide_eq_true rfl]
          have b8 := d.below w7.heap.size
          have R8 := HR7.out.below b8
          have hF8 : BF w8 w5.heap.size N (fun u => cov m (leads m 0 1 j) u || ((cos m j).take 0).contains u) := by
            refine BF.of (p := cov m (leads m 0 1 j)) ((b8.block _ HF7.out.lt).trans HF7.out) fun i hi => by simp
          have hB8 : Below w5.heap.size w5 w8 := HB7.out.trans (b8.mono HB7.out.size)
          have HR8 := Lib.hid R8
          have HBN2 : Hid (∀ bb off, a7 = some ⟨bb, off, none⟩ → L ≠ 0 → bb ≠ w5.heap.size) := fun bb off e h => HBN.out bb off e (by rw [← HLe.out]; exact h)
          clear d b8 Hr HR7 HF7 HB7 d3 R8 HBN
          go_wp2_with fail
          go_loopg [21] L (fun gh s21 wx => ∃ (i : Nat), gh = L - i ∧ i ≤ L ∧ s21 = .int .i64 (i : Int) ∧ BF wx w5.heap.size N (fun u => cov m (leads m 0 1 j) u || ((cos m j).take i).contains u) ∧ Hid (Pl.RowZ wx a7 L c7 (ints (cos m j))) ∧ Below w5.heap.size w5 wx)
          case atStart => exact ⟨0, rfl, Nat.zero_le _, rfl, hF8, HR8, hB8⟩
          case round =>
            clear hF8 HR8 hB8
            obtain ⟨i, hg, hi, rfl, hF, HR, hB⟩ := hrel
            have HG2 := Lib.hid hg
            clear hg
            by_cases hlt2 : i < L
            · have v1 : (i : Int) < (L : Int) := by omega
              have v0 : (0 : Int) ≤ (i : Int) := by omega
              have hic : i < (cos m j).length := by rw [← HLe.out]; exact hlt2
              obtain ⟨u, hu⟩ : ∃ u, u = (cos m j).getD i 0 := ⟨_, rfl⟩
              have huc : u ∈ cos m j := by rw [hu]; exact getD_lt hic
              have huN : u < N := by rw [HN.out]; exact ((mem_cos u).1 huc).1
              have eu : (ints (cos m j)).getD i 0 = (u : Int) := by
                rw [hu]
                unfold ints
                rw [List.getD_eq_getElem?_getD, List.getElem?_map, List.getD_eq_getElem?_getD, List.getElem?_eq_getElem hic]; rfl
              have HNF : Hid (BF (wr.setCell ⟨w5.heap.size, u, none⟩ (.bool true)) w5.heap.size N (fun z => cov m (leads m 0 1 j) z || ((cos m j).take (i + 1)).contains z)) := by
                refine (hF.set u).of fun k hk => ?_
                have e : (cos m j).take (i + 1) = (cos m j).take i ++ [u] := by rw [List.take_add_one, hu, List.getD_eq_getElem?_getD, List.getElem?_eq_getElem hic]; rfl
                rw [e]
                simp [Bool.or_assoc]
              have U : Upd w5.heap.size wr (wr.setCell ⟨w5.heap.size, u, none⟩ (.bool true)) := (Upd.refl _ wr).only (Only.setCell _ ⟨w5.heap.size, u, none⟩ _)
              have HNR : Hid (Pl.RowZ (wr.setCell ⟨w5.heap.size, u, none⟩ (.bool true)) a7 L c7 (ints (cos m j))) := HR.out.upd U HBN2.out
              have HNB : Hid (Below w5.heap.size w5 (wr.setCell ⟨w5.heap.size, u, none⟩ (.bool true))) := hB.setCell (p := ⟨w5.heap.size, u, none⟩) (Nat.le_refl _) _
              obtain ⟨bb, off, rfl, d4, _⟩ := HR.out.row i hlt2
              rw [eu] at d4
              have d5 := hF.cell huN
              have d6 := hF.free u
              have y0 : (0 : Int) ≤ (u : Int) := by omega
              have y1 : (u : Int) < (N : Int) := by omega
              generalize (cov m (leads m 0 1 j) u || ((cos m j).take i).contains u) = bv at d5
              clear hF HR hB U huc hu eu hic hlt2 HBN2
              go_wp2_with fail
              go_roundg (L - (i + 1))
              case measure => have := HG2.out; omega
              case rel => exact ⟨i + 1, rfl, by omega, by go_num, HNF.out, HNR, HNB.out⟩
            · obtain rfl : i = L := by omega
              have HFE : Hid (BF wr w5.heap.size N (cov m (leads m 0 1 (j + 1)))) := hF.of fun k hk => by rw [HO.out, cov_snoc, List.take_of_length_le (by rw [← HLe.out]; exact Nat.le_refl _)]
              have HBE := Lib.hid hB
              clear hF hB HR
              go_wp2_with fail
              go_roundg (N - (j + 1))
              case measure => have := HG.out; omega
              case rel => exact ⟨j + 1, rfl, by omega, by go_num, by rw [HO.out, List.length_append, ← HA.out]; go_num, HFE.out, HBE.out⟩
      · obtain rfl : j = N := by omega
        have hAn : (leads m 0 1 j).length = n := HL.out.symm
        rw [hAn]
        have Rc := HRc.out.below hB
        have B := HB.out.trans (hB.mono HB.out.size)
        clear hF hB hAn
        go_wp2_with fail
        refine (rcoset_any m hm3 (by omega) x1 W0).mono ?_
        rintro e w7 ⟨a7, n7, c7, rfl, hO7, b7⟩
        have R7 := (Pl.own_rowz hO7).1
        replace Rc := Rc.below b7
        replace B := B.trans (b7.mono B.size)
        clear hO7 b7
        go_wp2_with fail
        refine (Pl.sameZ_any _ _ _ _ _ _ _ _ w7 Rc R7).mono ?_
        rintro e w8 ⟨rfl, d⟩
        rw [decide_eq_true rfl]
        replace B := B.trans ((d.below w7.heap.size).mono B.size)
        clear d Rc R7
        go_wp2_with fail
        go_ret
        exact ⟨rfl, B⟩
theorem walk (x0 x1 : Int) (W : World) (w0 : (Lit.int .i64 x0).wf = true) (w1 : (Lit.int .i64 x1).wf = true) (h : LaidMinimalCosets.Holds W) :
    Calls Tryd.prog 3 #[.int .i64 x0, .int .i64 x1] W fun e w' => e = .returned (.bool true) ∧ Below W.heap.size W w' := by
  obtain ⟨f, ⟨E0, E1, E2, E3⟩, _⟩ := h
  by_cases hx : 3 ≤ x0 ∧ x0 ≤ 14
  · obtain ⟨m0, rfl⟩ : ∃ m0 : Nat, x0 = (m0 : Int) := ⟨x0.toNat, by omega⟩
    exact core m0 x1 W _ _ E3 E0 (by omega) (by omega)
  · exact bad x0 x1 W _ _ E3 E0 (by omega)
end Go.Proofs.YtbapmkhdpfgnlaaDoor.walkMinimalCosets
