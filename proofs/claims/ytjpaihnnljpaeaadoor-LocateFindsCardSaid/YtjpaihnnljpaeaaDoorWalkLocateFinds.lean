/- The walk over LocateFinds. By the verifier of shale. -/
import Derived.Test.YtjpaihnnljpaeaaDoorGreat1
import Derived.Test.YtjpaihnnljpaeaaDoorGreat2
import Derived.Test.YtjpaihnnljpaeaaDoorGreat3
import Derived.Test.YtjpaihnnljpaeaaDoorLaidLocateFinds
import Derived.Deep.Cut
namespace Go.Proofs.YtjpaihnnljpaeaaDoor.walkLocateFinds
open Go Go.RowKit Fld Bits16 Pl Loc
set_option linter.unusedVariables false
section
variable {m : Nat} [M : Mid m]
/-- numbers of a series. -/
def fs (p : Ser (El m)) : Nat → Int := fun i => zn (p i)
theorem fs_sr (p : Ser (El m)) (N i : Nat) (hi : i < N) : p i = sr m (upN (fs p) N N) i := by
  show p i = elm m ((upN (fs p) N N).getD i 0)
  rw [List.getD_eq_getElem?_getD, List.getElem?_eq_getElem (by rw [upN_length]; exact hi)]
  simp only [upN, List.getElem_map, List.getElem_range, Option.getD_some]
  rw [if_pos hi]
  exact (elm_zn _).symm
theorem upN_same (f : Nat → Int) (N k : Nat) (hk : k < N) : (upN f N k).set k 0 = upN f N k := by
  apply List.ext_getElem
  · simp [upN]
  · intro i h1 h2
    rw [List.getElem_set]
    simp only [upN, List.getElem_map, List.getElem_range]
    by_cases e : k = i
    · subst e; rw [if_pos rfl, if_neg (by omega)]
    · rw [if_neg e]
/-- the elements of places. -/
def exs (m : Nat) [M : Mid m] (l : List Nat) : List (El m) := l.map fun (p : Nat) => exK m (p : Int)
theorem exK_val (p : Nat) : (exK m (p : Int)).val = pw m p := pwZ_nat m M.lo M.hi p
theorem exs_ne (l : List Nat) : ∀ a ∈ exs m l, a ≠ 0 := fun a ha => by
  obtain ⟨p, _, rfl⟩ := List.mem_map.1 ha
  exact exK_ne _
theorem exs_nodup {l : List Nat} (h : l.Nodup) (hl : ∀ p ∈ l, p < size m) : (exs m l).Nodup := by
  induction l with
  | nil => exact List.nodup_nil
  | cons x l ih =>
    rw [List.nodup_cons] at h
    show (exK m (x : Int) :: exs m l).Nodup
    rw [List.nodup_cons]
    refine ⟨fun hx => h.1 ?_, ih h.2 fun p hp => hl p (List.mem_cons_of_mem _ hp)⟩
    obtain ⟨p, hp, e⟩ := List.mem_map.1 hx
    have e2 : pw m p = pw m x := by rw [← exK_val, ← exK_val, e]
    have := pw_inj m M.lo M.hi p x (hl p (List.mem_cons_of_mem _ hp)) (hl x (List.mem_cons_self ..)) e2
    rwa [← this]
theorem exs_lam (l : List Nat) : lamZ m (intsN l) = lam (exs m l) := by
  unfold lamZ exs intsN
  rw [List.map_map]; rfl
theorem pwK_val (p i : Nat) : (pwK (K := El m) (exK m (p : Int)) i).val = pw m (p * i) := by
  induction i with
  | zero => rfl
  | succ i ih =>
    show fmul m (exK m (p : Int)).val (pwK (K := El m) (exK m (p : Int)) i).val = _
    rw [ih, exK_val, fmul_pw m M.lo M.hi, Nat.mul_succ, Nat.add_comm]
theorem pwK_zn (p i : Nat) : h (pwZ m ((p * i : Nat) : Int)) = zn (pwK (K := El m) (exK m (p : Int)) i) := by
  show h _ = h (pwK (K := El m) _ i).val
  rw [pwK_val, pwZ_nat m M.lo M.hi]
theorem pows_take (l : List Nat) (j i : Nat) (hj : j < l.length) : pows (exs m (l.take (j + 1))) i = pows (exs m (l.take j)) i + pwK (exK m ((l.getD j 0 : Nat) : Int)) (i + 1) := by
  have e : l.take (j + 1) = l.take j ++ [l.getD j 0] := by
    rw [List.take_add_one, List.getElem?_eq_getElem hj, List.getD_eq_getElem?_getD, List.getElem?_eq_getElem hj]; rfl
  rw [e]
  show pows (((l.take j) ++ [l.getD j 0]).map _) i = _
  rw [List.map_append]
  show pows (exs m (l.take j) ++ [exK m ((l.getD j 0 : Nat) : Int)]) i = _
  rw [pows_snoc]; rfl
theorem intsN_at (l : List Nat) (j : Nat) (hj : j < l.length) : nth64 (intsN l) j = ((l.getD j 0 : Nat) : Int) := by
  unfold nth64 intsN
  simp [hj]
theorem and3 (z : Int) : ∃ r : Nat, r ≤ 3 ∧ bits .and .i64 z 3 = (r : Int) := by
  have e : bits .and .i64 z 3 = IntKind.i64.wrap ((BitVec.ofInt 64 z &&& BitVec.ofInt 64 3).toNat : Int) := rfl
  have h3 : (BitVec.ofInt 64 z &&& BitVec.ofInt 64 3).toNat ≤ 3 := by
    rw [BitVec.toNat_and]
    exact Nat.and_le_right
  refine ⟨(BitVec.ofInt 64 z &&& BitVec.ofInt 64 3).toNat, h3, ?_⟩
  rw [e]
  exact IntWalk.i64_in _ (by omega)
theorem own_rowz {w : World} {base n : Nat} {v : Value} {l : List Int} (h : Own64 w base v n l) (h0 : 0 < n) : ∃ a c, v = .slice a n c ∧ RowZ w a n c l := by
  obtain ⟨g, cap, rfl, _, _, hnc, _⟩ := h.cells h0
  exact ⟨_, _, rfl, own_row h rfl hnc (own_room h).2⟩
theorem own_rowz0 {w : World} {base n : Nat} {a : Option Addr} {c : Nat} {l : List Int} (h : Own64 w base (.slice a n c) n l) : RowZ w a n c l := by
  rcases Nat.eq_zero_or_pos n with h0 | h0
  · subst h0
    have hl : l = [] := List.eq_nil_of_length_eq_zero h.len
    subst hl
    have hm : c ≤ maxLen := by
      rcases h.2 with ⟨e, _⟩ | ⟨g', cap', cur, hv, hbg, hh, hnc, hm, _⟩
      · simp only [Value.slice.injEq] at e
        rw [e.2.2]; exact Nat.zero_le _
      · simp only [Value.slice.injEq] at hv
        rw [hv.2.2]; exact hm
    exact ⟨rfl, Nat.zero_le _, hm, fun i hi => by omega⟩
  · obtain ⟨a', c', e, hr⟩ := own_rowz h h0
    simp only [Value.slice.injEq] at e
    obtain ⟨rfl, _, rfl⟩ := e
    exact hr
theorem has_snoc (l : List Nat) (k q : Nat) : (decide (q ∈ l) || decide (q = k)) = decide (q ∈ l ++ [k]) := by
  rw [Bool.eq_iff_iff]; simp
end
set_option maxRecDepth 100000 in
set_option maxHeartbeats 4000000 in
theorem core (x0 : Int) (a : Option Addr) (nl cl : Nat) (l : List Int) (x2 : Int) (w : World) (r : RowZ w a nl cl l) :
    Calls Tryd.prog 6 #[.int .i64 x0, .slice a nl cl, .int .i64 x2] w fun e w' => e = .returned (.bool true) ∧ Below w.heap.size w w' := by
  obtain ⟨i0, hi, hz0, hz1, hz2⟩ := info64
  have hml : nl ≤ maxLen := Nat.le_trans r.hcap r.hmost
  unfold maxLen at hml
  go_enter Tryd.func6, Tryd.ntmps6
  go_wp2_with fail
  refine (first_any w).mono ?_
  rintro e w1 ⟨rfl, B⟩
  replace r := r.below B
  go_wp2_with fail
  refine (made_any x0 w1).mono ?_
  rintro e w2 ⟨s, be, ce, bl, rfl, F, b⟩
  replace r := r.below b
  replace B := B.trans (b.mono B.size)
  clear b
  obtain ⟨m, hm⟩ : ∃ m, m = mk8 x0 := ⟨_, rfl⟩
  haveI M : Mid m := by rw [hm]; infer_instance
  have hm14 : (m : Int) ≤ 14 := by have := M.hi; omega
  have hm0 : (0 : Int) ≤ (m : Int) := by omega
  rw [← hm] at F ⊢
  clear hm
  obtain ⟨n, hn⟩ : ∃ n, n = size m := ⟨_, rfl⟩
  have hn1 := size_lo m M.lo
  have hn2 := size_hi m M.hi
  rw [← hn] at hn1 hn2
  have ho := shl_one m M.hi
  have eo : (els m : Int) - 1 = (n : Int) := by rw [els_eq, hn]; omega
  have hmk := fun w => madeB w n (by omega)
  have HF := Lib.hid (And.intro r (And.intro F (And.intro B hn)))
  clear r F B hn
  have H0 : Hid (BF (w2.alloc (objB (List.replicate n false))) w2.heap.size n (fun q => decide (q ∈ ([] : List Nat))) ∧ Below w2.heap.size w2 (w2.alloc (objB (List.replicate n false))) ∧ (w2.alloc (objB (List.replicate n false))).heap.size = w2.heap.size + 1) :=
    ⟨(BF.new w2 n).of fun i _ => by simp, (Below.refl _ _).alloc (Nat.le_refl _) _, Array.size_push _⟩
  obtain ⟨h2, hh2⟩ : ∃ h2, h2 = n / 2 := ⟨_, rfl⟩
  have eh : (n : Int) / 2 = (h2 : Int) := by omega
  obtain ⟨T, hT⟩ : ∃ T, T = min 20 h2 := ⟨_, rfl⟩
  have eT : (if (h2 : Int) < 20 then (h2 : Int) else 20) = (T : Int) := by split <;> omega
  have hT20 : T ≤ 20 := by omega
  have HEQ := Lib.hid (And.intro eh eT)
  clear hT hh2 eh eT
  go_wp2_with fail
  clear hmk ho eo
  generalize w2.alloc (objB (List.replicate n false)) = W at H0 ⊢
  obtain ⟨base, hbase⟩ : ∃ base, base = W.heap.size := ⟨_, rfl⟩
  have HBs : Hid (base = w2.heap.size + 1 ∧ base = W.heap.size) := ⟨by rw [hbase]; exact H0.out.2.2, hbase⟩
  have HO0 : Hid (Own64 W base (.slice none 0 0) 0 (intsN [])) := Own64.nil W base
  clear hbase
  go_loopg [12, 13] nl (fun gh s12 s13 wx => ∃ (i : Nat) (K : Nat) (pl : List Nat), gh = nl - i ∧ i ≤ nl ∧ s13 = .int .i64 (i : Int) ∧ K ≤ T ∧ Hid (K = pl.length ∧ pl.Nodup ∧ ∀ p ∈ pl, p < n) ∧ Hid (Own64 wx base s12 K (intsN pl)) ∧ Hid (BF wx w2.heap.size n (fun q => decide (q ∈ pl))) ∧ Below w2.heap.size w2 wx ∧ base ≤ wx.heap.size)
  case atStart => exact ⟨0, 0, [], rfl, Nat.zero_le _, rfl, Nat.zero_le _, ⟨rfl, List.nodup_nil, fun p hp => by cases hp⟩, HO0, H0.out.1, H0.out.2.1, by rw [HBs.out.2]; exact Nat.le_refl _⟩
  case round =>
    clear H0 HO0
    obtain ⟨i, K, pl, hg, hin, rfl, hK, HPl, HO, HB, hB, hbs⟩ := hrel
    have HG := Lib.hid hg
    clear hg
    obtain ⟨va, vc, hv⟩ := own_slice HO.out
    subst hv
    obtain ⟨eh, eT⟩ := HEQ.out
    by_cases hgo : i < nl ∧ K < T
    · obtain ⟨hlt, hKT⟩ := hgo
      have u1 : (i : Int) < (nl : Int) := by omega
      have u2 : decide ((K : Int) < (T : Int)) = true := decide_eq_true (by omega)
      have u2' : decide (K < T) = true := decide_eq_true hKT
      have u3 : (0 : Int) ≤ (i : Int) := by omega
      obtain ⟨bb, off, rfl, cc, _⟩ := (HF.out.1.below hB).row i hlt
      obtain ⟨k, hk, ek⟩ := rem_in (l.getD i 0) n (by omega)
      obtain ⟨g1, g2⟩ := rem_lo (l.getD i 0) n (by omega)
      have g3 : ¬ ((n : Int) = 0) := by omega
      have y0 : (0 : Int) ≤ (k : Int) := by omega
      have y1 : (k : Int) < (n : Int) := by omega
      have d5 := HB.out.cell (i := k) hk
      have d6 := HB.out.free k
      generalize l.getD i 0 = z at cc ek g1 g2
      have HI1 : Hid (i + 1 ≤ nl) := hlt
      have hKT1 : K + 1 ≤ T := hKT
      have HBB := Lib.hid hB
      clear hB hlt hKT hin hK
      by_cases hb : k ∈ pl
      · rw [decide_eq_true hb] at d5
        clear hb
        go_wp2_with fail
        go_roundg (nl - (i + 1))
        case measure => have := HG.out; have := HI1.out; omega
        case rel => exact ⟨i + 1, K, pl, rfl, HI1.out, by go_num, by omega, HPl, HO, HB, HBB.out, hbs⟩
      · rw [decide_eq_false hb] at d5
        have HPl2 : Hid (K + 1 = (pl ++ [k]).length ∧ (pl ++ [k]).Nodup ∧ ∀ p ∈ pl ++ [k], p < n) := by
          obtain ⟨p1, p2, p3⟩ := HPl.out
          refine ⟨by rw [List.length_append, ← p1]; rfl, ?_, fun p hp => ?_⟩
          · rw [List.nodup_append]
            exact ⟨p2, by simp, fun x hx y hy => by rw [List.mem_singleton.1 hy]; rintro rfl; exact hb hx⟩
          · rcases List.mem_append.1 hp with h | h
            · exact p3 p h
            · rw [List.mem_singleton.1 h]; exact hk
        have HF5 : Hid (BF (wr.setCell ⟨w2.heap.size, k, none⟩ (.bool true)) w2.heap.size n (fun q => decide (q ∈ pl ++ [k])) ∧ Own64 (wr.setCell ⟨w2.heap.size, k, none⟩ (.bool true)) base (.slice va K vc) K (intsN pl) ∧ Below w2.heap.size w2 (wr.setCell ⟨w2.heap.size, k, none⟩ (.bool true)) ∧ base ≤ (wr.setCell ⟨w2.heap.size, k, none⟩ (.bool true)).heap.size) :=
          ⟨(HB.out.set k).of fun q _ => has_snoc pl k q, HO.out.set _ _ (by rw [HBs.out.1]; exact Nat.lt_succ_self _), HBB.out.setCell (Nat.le_refl _) _, by rw [(Only.setCell wr ⟨w2.heap.size, k, none⟩ (.bool true)).size]; exact hbs⟩
        clear HB HBB hb hbs HO HPl
        go_upto_region 14 with (fail)
        generalize wr.setCell ⟨w2.heap.size, k, none⟩ (.bool true) = w5 at HF5 ⊢
        clear d5 d6 cc
        obtain ⟨hBF, hOw, hBl, hbs5⟩ := HF5.out
        have HBF := Lib.hid (And.intro hBF hBl)
        have hlt5 := hBF.lt
        clear hBF hBl HF5
        go_wp2_with (at_builtin; refine wpList_append_own _ rfl _ _ 22 rfl base 3 i0 (.int .i64 0) 1 8 Tryd.underlying22 hi hz0 hz1 hz2 rfl (by decide) _ K _ rfl (World.ownsRow.alloc hOw _) ⟨w5.heap.size, 0, none⟩ 1 1 [.int .i64 (k : Int)] rfl rfl (cell_one_new _ _ _) (ints_oneCell .i64 [_]) (by unfold maxLen; omega) (by omega) (by simp; omega) ?_; intro v7 w7 hown7 hgrow _)
        have ho7 : Own64 w7 base v7 (K + 1) (intsN (pl ++ [k])) := by
          have e : intsN (pl ++ [k]) = intsN pl ++ [(k : Int)] := by simp [intsN]
          unfold Own64
          rw [e, ← cells64_append]
          exact hown7
        have b7 : Below base w5 w7 := ((Below.refl base w5).alloc hbs5 _).grown hgrow (by simp; omega) (fun g hg => (hOw.block g hg).1)
        have HN : Hid (Own64 w7 base v7 (K + 1) (intsN (pl ++ [k])) ∧ BF w7 w2.heap.size n (fun q => decide (q ∈ pl ++ [k])) ∧ Below w2.heap.size w2 w7 ∧ base ≤ w7.heap.size) := by
          refine ⟨ho7, (b7.block _ (by rw [HBs.out.1]; exact Nat.lt_succ_self _)).trans HBF.out.1, HBF.out.2.trans (b7.mono (by rw [HBs.out.1]; exact Nat.le_succ _)), Nat.le_trans hbs5 b7.size⟩
        clear hown7 hgrow hOw ho7 b7 hbs5 hlt5 HBF
        go_wp2_with fail
        go_roundg (nl - (i + 1))
        case measure => have := HG.out; have := HI1.out; omega
        case rel => exact ⟨i + 1, K + 1, pl ++ [k], rfl, HI1.out, by go_num, by omega, HPl2, HN.out.1, HN.out.2.1, HN.out.2.2.1, HN.out.2.2.2⟩
    · have u1 : (decide ((i : Int) < (nl : Int)) = false ∧ decide (i < nl) = false) ∨ ((i : Int) < (nl : Int) ∧ decide ((K : Int) < (T : Int)) = false ∧ decide (K < T) = false) := by
        by_cases h : i < nl
        · exact .inr ⟨by omega, decide_eq_false (by omega), decide_eq_false (by omega)⟩
        · exact .inl ⟨decide_eq_false (by omega), decide_eq_false h⟩
      have HW := Lib.hid (And.intro hB hbs)
      obtain ⟨rr, hr3, er⟩ := and3 x2
      obtain ⟨tt, htt⟩ : ∃ tt, tt = K + rr := ⟨_, rfl⟩
      have e1 : (K : Int) + (rr : Int) = (tt : Int) := by omega
      obtain ⟨N, hN⟩ : ∃ N, N = 2 * tt := ⟨_, rfl⟩
      have e2 : 2 * (tt : Int) = (N : Int) := by omega
      have e3 : ¬ ((80 : Int) < (N : Int)) := by omega
      have hmk2 := fun w => made64 w N (by omega)
      have hN46 : N ≤ 46 := by omega
      have HN2K : Hid (2 * K ≤ N) := by show 2 * K ≤ N; omega
      have hK20 : K ≤ 20 := by omega
      have hx0 : (0 : Int) ≤ (N : Int) := by omega
      clear hgo hB hbs HB htt hN
      obtain ⟨W3, hW3⟩ : ∃ W3, W3 = wr := ⟨_, rfl⟩
      rw [← hW3] at HO HW ⊢
      clear hW3
      have HS0 : Hid (Blk64 (W3.alloc (obj64 (List.replicate N 0))) W3.heap.size (upN (fs (pows (exs m pl))) N 0) ∧ Below W3.heap.size W3 (W3.alloc (obj64 (List.replicate N 0)))) := by
        rw [← upN_zero]
        exact ⟨Blk64.new W3 _, (Below.refl _ _).alloc (Nat.le_refl _) _⟩
      rcases u1 with ⟨u1, u2⟩ | ⟨u1, u2, u3⟩
      all_goals
        go_wp2_with fail
        clear hmk2 e1 e2 e3 er eh eT
        generalize W3.alloc (obj64 (List.replicate N 0)) = W4 at HS0 ⊢
        go_loopg [17] N (fun gh s17 wx => ∃ i : Nat, gh = N - i ∧ i ≤ N ∧ s17 = .int .i64 (i : Int) ∧ Hid (Blk64 wx W3.heap.size (upN (fs (pows (exs m pl))) N i)) ∧ Below W3.heap.size W3 wx)
        case atStart => exact ⟨0, rfl, Nat.zero_le _, rfl, HS0.out.1, HS0.out.2⟩
        case round =>
          clear HS0
          obtain ⟨i, hg, hin, rfl, HK, hB⟩ := hrel
          have HG2 := Lib.hid hg
          clear hg
          obtain ⟨W5, hW5⟩ : ∃ W5, W5 = wr := ⟨_, rfl⟩
          rw [← hW5] at HK hB ⊢
          clear hW5
          by_cases hlt : i < N
          · have v1 : (i : Int) < (N : Int) := by omega
            have v2 : (0 : Int) ≤ (i : Int) := by omega
            have HI2 : Hid (i + 1 ≤ N) := hlt
            have H5 : Hid (Blk64 W5 W3.heap.size ((upN (fs (pows (exs m pl))) N i).set i (zn (pows (exs m (pl.take 0)) i)))) := by
              show Blk64 _ _ _
              have e : zn (pows (exs m (pl.take 0)) i) = 0 := rfl
              rw [e, upN_same _ _ _ hlt]; exact HK.out
            have HB5 := Lib.hid hB
            clear hB HK
            go_wp2_with fail
            go_loopg [18] K (fun gh s18 wx => ∃ j : Nat, gh = K - j ∧ j ≤ K ∧ s18 = .int .i64 (j : Int) ∧ Hid (Blk64 wx W3.heap.size ((upN (fs (pows (exs m pl))) N i).set i (zn (pows (exs m (pl.take j)) i)))) ∧ Below W3.heap.size W3 wx)
            case atStart => exact ⟨0, rfl, Nat.zero_le _, rfl, H5, HB5.out⟩
            case round =>
              clear H5 HB5
              obtain ⟨j, hg, hjK, rfl, HK, hB⟩ := hrel
              have HG3 := Lib.hid hg
              clear hg
              by_cases hj : j < K
              · have z1 : (j : Int) < (K : Int) := by omega
                have z2 : (0 : Int) ≤ (j : Int) := by omega
                have hv := HK.out.cell (i := i) (by rw [List.length_set, upN_length]; exact hlt)
                have fr := HK.out.free i
                have ev : nth64 ((upN (fs (pows (exs m pl))) N i).set i (zn (pows (exs m (pl.take j)) i))) i = zn (pows (exs m (pl.take j)) i) := by
                  unfold nth64
                  rw [List.getD_eq_getElem?_getD, List.getElem?_set_self (by rw [upN_length]; exact hlt)]; rfl
                rw [ev] at hv
                obtain ⟨g, cap, evv, hbg, hgl, hnc, hcell⟩ := HO.out.cells (by omega : 0 < K)
                simp only [Value.slice.injEq] at evv
                obtain ⟨rfl, _, rfl⟩ := evv
                have cj := (hB.cell (p := ⟨g, j, none⟩) hgl).trans (hcell j hj)
                rw [intsN_at pl j (by rw [← HPl.out.1]; exact hj)] at cj
                obtain ⟨p, hp⟩ : ∃ p, p = pl.getD j 0 := ⟨_, rfl⟩
                have hpn : p < n := by
                  rw [hp]
                  refine HPl.out.2.2 _ ?_
                  rw [List.getD_eq_getElem?_getD, List.getElem?_eq_getElem (by rw [← HPl.out.1]; exact hj)]
                  exact List.getElem_mem _
                rw [← hp] at cj
                have hpi : p * (i + 1) ≤ 16383 * 46 := Nat.mul_le_mul (by omega) (by omega)
                have m1 : IntKind.i64.wrap ((i : Int) + 1) = (i : Int) + 1 := IntWalk.i64_in _ (by omega)
                obtain ⟨pe, hpe⟩ : ∃ pe : Nat, pe = p * (i + 1) := ⟨_, rfl⟩
                have hm2' : (p : Int) * ((i : Int) + 1) = (pe : Int) := by rw [hpe, Int.natCast_mul]; rfl
                have m2 : IntKind.i64.wrap ((p : Int) * ((i : Int) + 1)) = (pe : Int) := by rw [hm2']; exact IntWalk.i64_in _ (by omega)
                have HE : Hid (∀ nn, Calls Tryd.prog 22 #[.pointer (some ⟨s, 0, none⟩), .int .i64 (pe : Int)] (wr.drewN nn) fun e w' => e = .returned (.int .i64 (zn (pwK (exK m (p : Int)) (i + 1)))) ∧ wr.drewN nn = w') := fun nn => by
                  have h1 := fexp_any M.lo M.hi (pe : Int) (wr.drewN nn) ((((HF.out.2.1.below M.lo HW.out.1).below M.lo hB)).drawn M.lo (Drawn.mk wr nn))
                  rw [hpe, pwK_zn] at h1
                  rw [hpe]
                  exact h1
                have hx := zn_add (pows (exs m (pl.take j)) i) (pwK (exK m (p : Int)) (i + 1))
                rw [hp, ← pows_take pl j i (by rw [← HPl.out.1]; exact hj), ← hp] at hx
                have HNx : Hid (∀ nq, Blk64 ((wr.drewN nq).setCell ⟨W3.heap.size, i, none⟩ (.int .i64 (zn (pows (exs m (pl.take (j + 1))) i)))) W3.heap.size ((upN (fs (pows (exs m pl))) N i).set i (zn (pows (exs m (pl.take (j + 1))) i))) ∧ Below W3.heap.size W3 ((wr.drewN nq).setCell ⟨W3.heap.size, i, none⟩ (.int .i64 (zn (pows (exs m (pl.take (j + 1))) i))))) := fun nq => by
                  have hX2 : Blk64 (wr.drewN nq) W3.heap.size _ := HK.out
                  have h1 := hX2.set i (zn (pows (exs m (pl.take (j + 1))) i))
                  rw [List.set_set] at h1
                  exact ⟨h1, (hB.trans ((Drawn.mk wr nq).below _)).setCell (Nat.le_refl _) _⟩
                have HJ1 : Hid (j + 1 ≤ K) := hj
                clear hB HK ev hcell hgl hbg hnc hp hpe hm2' hpi hpn
                generalize hq1 : zn (pows (exs m (pl.take (j + 1))) i) = q1 at hx HNx
                have HQ1 := Lib.hid hq1
                clear hq1
                generalize zn (pows (exs m (pl.take j)) i) = q2 at hv hx
                generalize zn (pwK (exK m (p : Int)) (i + 1)) = q3 at HE hx
                go_wp2_with fail
                refine wp_region_quiet_tail (C := fun w' => ∃ nn, w' = wr.drewN nn) 16 (by kernel_rfl) (by kernel_rfl) ⟨1, rfl⟩ ?_
                simp only [List.take_succ_cons, List.take_zero, List.drop_succ_cons, List.drop_zero]
                repeat (go_big_quiet_step ((go_at_call 22; exact quiet_same (HE.out _))))
                refine wpQuiet_nil ?_
                rintro _ ⟨nq, rfl⟩
                have HN2 := Lib.hid (HNx.out nq)
                have hv2 : (wr.drewN nq).cell? ⟨W3.heap.size, i, none⟩ = some (.int .i64 q2) := hv
                have fr2 : (wr.drewN nq).frozen? ⟨W3.heap.size, i, none⟩ = false := fr
                clear HE HNx hv fr cj m1 m2 hx
                generalize wr.drewN nq = w6 at HN2 hv2 fr2 ⊢
                go_wp2_with fail
                go_roundg (K - (j + 1))
                case measure => have := HG3.out; have := HJ1.out; omega
                case rel => exact ⟨j + 1, rfl, HJ1.out, by go_num, by rw [HQ1.out]; exact HN2.out.1, HN2.out.2⟩
              · obtain rfl : j = K := by omega
                have HB6 : Hid (Blk64 wr W3.heap.size (upN (fs (pows (exs m pl))) N (i + 1)) ∧ Below W3.heap.size W3 wr) := by
                  refine ⟨?_, hB⟩
                  have h1 := HK.out
                  rw [List.take_of_length_le (by rw [← HPl.out.1]; exact Nat.le_refl _)] at h1
                  have e : zn (pows (exs m pl) i) = fs (pows (exs m pl)) i := rfl
                  rw [e, upN_set] at h1
                  exact h1
                clear hB HK
                go_wp2_with fail
                go_roundg (N - (i + 1))
                case measure => have := HG2.out; have := HI2.out; omega
                case rel => exact ⟨i + 1, rfl, HI2.out, by go_num, HB6.out.1, HB6.out.2⟩
          · obtain rfl : i = N := by omega
            have hFW := HF.out.2.1.below M.lo (HW.out.1.trans (hB.mono (Below.size HW.out.1)))
            have rx := Blk64.rowz HK.out (by rw [upN_length]; omega)
            rw [upN_length] at rx
            have rp := (own_rowz0 HO.out).below hB
            have BB := HF.out.2.2.1.trans ((HW.out.1.trans (hB.mono (Below.size HW.out.1))).mono HF.out.2.2.1.size)
            have hpl := bm_places (exs_ne (m := m) pl) (exs_nodup HPl.out.2.1 fun p hp => by have := HPl.out.2.2 p hp; rw [HF.out.2.2.2] at this; exact this) (N := i) (by unfold exs; rw [List.length_map, ← HPl.out.1]; exact HN2K.out)
            have hel : (exs m pl).length = K := by unfold exs; rw [List.length_map, ← HPl.out.1]
            rw [hel] at hpl
            have H1 := locate_any (some ⟨W3.heap.size, 0, none⟩) i i _ W5 hFW rx (pows (exs m pl)) i (by omega) fun q hq => fs_sr _ _ _ hq
            rw [hpl.1, hpl.2] at H1
            have hMB : makesB (lam (exs m pl)) (sr m (upN (fs (pows (exs m pl))) i i)) K i = true := by
              unfold makesB
              refine @decide_eq_true _ (Classical.propDecidable _) fun q h1 h2 => ?_
              have hbd := (lam_dg (exs m pl) (exs_ne pl)).1.2
              rw [hel] at hbd
              rw [part_cv _ _ _ hbd (Nat.le_refl _)]
              have := lam_gn (exs m pl) (exs_ne pl) i q (by rw [hel]; exact h1) h2
              rw [← this]
              exact cv_ext (fun _ _ => rfl) fun y hy => (fs_sr _ _ _ (by omega)).symm
            have HMB := Lib.hid hMB
            have hone : lam (exs m pl) 0 = 1 := (lam_dg (exs m pl) (exs_ne pl)).2
            have HONE := Lib.hid hone
            have hlz : lamZ m (intsN pl) = lam (exs m pl) := exs_lam pl
            have HLZ := Lib.hid hlz
            have HRX := Lib.hid (And.intro rx rp)
            clear hpl hel rx rp hB HK hMB hone hlz HG2
            go_wp2_with fail
            refine H1.mono ?_
            rintro e w6 ⟨a6, n6, c6, rfl, P6, b⟩
            have F6 := hFW.below M.lo b
            have B6 := BB.trans (b.mono BB.size)
            have R6 := HRX.out.1.below b
            have RP6 := HRX.out.2.below b
            clear H1 hFW BB b HRX
            go_wp2_with fail
            refine (of_any va K vc (intsN pl) w6 F6 RP6 (by omega)).mono ?_
            rintro e w7 ⟨a7, n7, c7, rfl, P7, b⟩
            rw [HLZ.out] at P7
            replace P6 := P6.below b
            replace F6 := F6.below M.lo b
            replace B6 := B6.trans (b.mono B6.size)
            replace R6 := R6.below b
            clear b RP6
            go_wp2_with fail
            refine (sameV P6 P7 rfl).mono ?_
            rintro e w8 ⟨rfl, d⟩
            have b := d.below w7.heap.size
            replace P7 := P7.below b
            replace F6 := F6.below M.lo b
            replace B6 := B6.trans (b.mono B6.size)
            replace R6 := R6.below b
            obtain ⟨k7, hk7, _⟩ := nv_pos P7 (fun e => Fl.one_ne (K := El m) (HONE.out ▸ congrFun e 0))
            have hm7 := makes_any (m := m) a7 n7 c7 (nums (lam (exs m pl)) n7) (some ⟨W3.heap.size, 0, none⟩) i i _ K w8 F6 P7.row R6 (by omega) (by rw [sr_nums P7.bd, HONE.out]; exact Fl.one_ne) (by have := HN2K.out; omega) (by omega)
            rw [sr_nums P7.bd, HMB.out] at hm7
            clear hk7 P6 P7 F6 R6 b d HMB
            go_wp2_with fail
            refine hm7.mono ?_
            rintro e w9 ⟨rfl, d⟩
            have B9 := B6.trans (d.below _)
            clear hm7 d B6
            go_wp2_with fail
            go_ret
            exact ⟨rfl, B9⟩
theorem walk (x0 : Int) (a1 : Option Addr) (len1 cap1 : Nat) (z1 : List Int) (x2 : Int) (W : World) (w0 : (Lit.int .i64 x0).wf = true) (w1 : IsRow .i64 W a1 len1 cap1 z1) (w2 : (Lit.int .i64 x2).wf = true) (h : LaidLocateFinds.Holds W) :
    Calls Tryd.prog 6 #[.int .i64 x0, .slice a1 len1 cap1, .int .i64 x2] W fun e w' => e = .returned (.bool true) ∧ Below W.heap.size W w' :=
  core x0 a1 len1 cap1 _ x2 W (row_rowz w1)
end Go.Proofs.YtjpaihnnljpaeaaDoor.walkLocateFinds
