/- Texts of the verifier of shale, laid into one: MinZer, MinGg, MinGg9. -/
import Derived.Test.YtbapmkhdpfgnlaaDoorGreat1
import Derived.Test.YtbapmkhdpfgnlaaDoorGreat2
import Derived.Test.YtbapmkhdpfgnlaaDoorGreat3
import Derived.Test.YtbapmkhdpfgnlaaDoorGreat4
import Derived.Test.YtbapmkhdpfgnlaaDoorGreat5
/- The walk over package minimal's Zeros. By the verifier of shale. -/
namespace Go.Proofs.YtbapmkhdpfgnlaaDoor.Cos
open Go Go.RowKit Bits16
set_option linter.unusedVariables false
/-- the value at the i-th power of 2 of the sum of these powers of x. -/
def evx (m : Nat) (es : List Nat) (i : Nat) : BitVec 16 := es.foldl (fun v (e : Nat) => v ^^^ Fld.pwZ m ((i * e : Nat) : Int)) 0
theorem evx_snoc (m : Nat) (es : List Nat) (e i : Nat) : evx m (es ++ [e]) i = evx m es i ^^^ Fld.pwZ m ((i * e : Nat) : Int) := by unfold evx; rw [List.foldl_append]; rfl
/-- the i from 1 to k at which it is 0. -/
def zrs (m : Nat) (es : List Nat) : Nat → List Nat
  | 0 => []
  | k + 1 => zrs m es k ++ if evx m es (k + 1) = 0 then [k + 1] else []
theorem zrs_le (m : Nat) (es : List Nat) : ∀ k, (zrs m es k).length ≤ k
  | 0 => Nat.le_refl _
  | k + 1 => by
    have := zrs_le m es k
    rw [zrs, List.length_append]
    split <;> simp <;> omega
theorem h_zero (x : BitVec 16) : (h x == 0) = decide (x = 0) := by
  rw [Bool.eq_iff_iff, beq_iff_eq, decide_eq_true_iff]
  constructor
  · intro e; exact h_inj _ _ (e.trans (by decide))
  · intro e; rw [e]; decide
section
variable {m : Nat} [M : Pl.Mid m]
set_option maxRecDepth 100000 in
set_option maxHeartbeats 1000000 in
theorem zeros_any {s be ce bl : Nat} {K : Nat} {a : Option Addr} {n c v : Nat} (most : Int) (w : World) (F : Fld.FldAt m w s be ce bl) (P : Bin.PolV w K a n c v) (hK : K ≤ 200) (hes : ∀ e ∈ Bin.exps v (Bin.topE v), e ≤ 2000) :
    Calls Tryd.prog 21 #[.pointer (some ⟨s, 0, none⟩), .slice a n c, .int .i64 most] w
      fun e w' => ∃ a' n' c', e = .returned (.slice a' n' c') ∧ Own64 w' w.heap.size (.slice a' n' c') n' (ints (zrs m (Bin.exps v (Bin.topE v)) (min most ((sz m : Int) - 1)).toNat)) ∧ Below w.heap.size w w' := by
  obtain ⟨X, hX, hvX, hnX⟩ := P
  obtain ⟨i0, hi, hz0, hz1, hz2⟩ := info64
  have hn7 := sz_lo M.lo
  have hn2 := sz_hi M.hi
  have hels : (Fld.els m : Int) = (sz m : Int) + 1 := by unfold Fld.els sz; have := Nat.two_pow_pos m; omega
  have hw : IntKind.i64.wrap ((Fld.els m : Int) - 2) = (sz m : Int) - 1 := by
    rw [hels, show (sz m : Int) + 1 - 2 = (sz m : Int) - 1 by omega]; exact IntWalk.i64_in _ (by omega)
  obtain ⟨N, hN⟩ : ∃ N, N = sz m := ⟨_, rfl⟩
  rw [← hN] at hw hn7 hn2 ⊢
  clear hN hels
  obtain ⟨T, hT⟩ : ∃ T : Nat, T = (min most ((N : Int) - 1)).toNat := ⟨_, rfl⟩
  rw [← hT]
  have hTN : T ≤ N := by omega
  obtain ⟨es, hE⟩ : ∃ es, es = Bin.exps v (Bin.topE v) := ⟨_, rfl⟩
  rw [← hE] at hes ⊢
  have HE := Lib.hid hE
  clear hE
  have HT := Lib.hid hT
  clear hT
  go_enter Tryd.func21, Tryd.ntmps21
  go_wp2_with fail
  refine (Bin.exponents_any a n c X w hX (by omega)).mono ?_
  rintro e w1 ⟨v1, n1, rfl, hO, B⟩
  rw [hvX] at hO
  obtain ⟨ae, ce', rfl⟩ := own_slice hO
  rw [← HE.out] at hO
  have Re := (Pl.own_rowz hO).1
  have hn1m := Nat.le_trans Re.hcap Re.hmost
  unfold maxLen at hn1m
  have F1 := F.below M.lo B
  have HES := Lib.hid hes
  have hl : n1 = es.length := by have := hO.len; rw [← this]; simp [Bin.ints]
  have HL := Lib.hid hl
  have hO0 : Own64 w1 w.heap.size (.slice none 0 0) 0 (ints (zrs m es 0)) := Own64.nil _ _
  clear hO hX hvX F hes hl
  go_wp2_with fail
  go_loopg [7, 9] T (fun gh s7 s9 wx => ∃ (k n2 : Nat), gh = T - k ∧ k ≤ T ∧ n2 ≤ k ∧ s9 = .int .i64 ((k : Int) + 1) ∧ Own64 wx w1.heap.size s7 n2 (ints (zrs m es k)) ∧ Below w1.heap.size w1 wx)
  case atStart => exact ⟨0, 0, rfl, Nat.zero_le _, Nat.le_refl _, rfl, Own64.nil _ _, Below.refl _ _⟩
  case round =>
    clear hO0
    obtain ⟨k, n2, hg, hk, hnk, rfl, hO, hB⟩ := hrel
    have HG := Lib.hid hg
    clear hg
    obtain ⟨av, cv, rfl⟩ := own_slice hO
    have hbs := hB.size
    have HO := Lib.hid hO
    have HB := Lib.hid hB
    have FR := F1.below M.lo hB
    clear hO hB
    go_wp2_with fail
    refine (Fld.size_any wr FR).mono ?_
    rintro e w' ⟨rfl, rfl⟩
    by_cases hlt : k < T
    · have t1 : decide ((k : Int) + 1 ≤ min most ((N : Int) - 1)) = true := decide_eq_true (by have := HT.out; omega)
      have hz16 : evx m (es.take 0) (k + 1) = 0 := by rw [List.take_zero]; rfl
      obtain ⟨W0, rfl⟩ : ∃ W0, W0 = wr := ⟨_, rfl⟩
      have ReW := Re.below HB.out
      go_wp2_with fail
      go_loopg [10, 26] n1 (fun gh s10 s26 wx => ∃ (j : Nat), gh = n1 - j ∧ j ≤ n1 ∧ s26 = .int .i64 (j : Int) ∧ s10 = .int .i64 (h (evx m (es.take j) (k + 1))) ∧ W0 = wx)
      case atStart => exact ⟨0, rfl, Nat.zero_le _, rfl, by rw [hz16]; rfl, rfl⟩
      case round =>
        clear hz16
        obtain ⟨j, hg, hj, rfl, rfl, rfl⟩ := hrel
        have HG2 := Lib.hid hg
        clear hg
        by_cases hlt2 : j < n1
        · have v1 : (j : Int) < (n1 : Int) := by omega
          have v0 : (0 : Int) ≤ (j : Int) := by omega
          have hje : j < es.length := by rw [← HL.out]; exact hlt2
          obtain ⟨bb, off, rfl, d1, _⟩ := ReW.row j hlt2
          obtain ⟨e, hee⟩ : ∃ e, e = es.getD j 0 := ⟨_, rfl⟩
          have hem : e ∈ es := by rw [hee]; exact getD_lt hje
          have hel := HES.out e hem
          have ee : (Bin.ints es).getD j 0 = (e : Int) := by
            rw [hee]
            unfold Bin.ints
            rw [List.getD_eq_getElem?_getD, List.getElem?_map, List.getD_eq_getElem?_getD, List.getElem?_eq_getElem hje]; rfl
          rw [ee] at d1
          have HS : Hid (h (evx m (es.take j) (k + 1)) = h (evx m (es.take j) (k + 1)) ∧ evx m (es.take (j + 1)) (k + 1) = evx m (es.take j) (k + 1) ^^^ Fld.pwZ m (((k + 1) * e : Nat) : Int)) := ⟨rfl, by rw [take_snocN es j hje, evx_snoc, ← hee]⟩
          have hmul : ((k : Int) + 1) * (e : Int) = (((k + 1) * e : Nat) : Int) := by rw [Int.natCast_mul]; rfl
          have hbnd : (k + 1) * e ≤ 16384 * 2000 := Nat.mul_le_mul (by omega) hel
          obtain ⟨D, hD⟩ : ∃ D, D = (k + 1) * e := ⟨_, rfl⟩
          rw [← hD] at hmul hbnd HS
          have i1 : IntKind.i64.wrap (D : Int) = (D : Int) := IntWalk.i64_in _ (by omega)
          have hx := Fld.rxor (evx m (es.take j) (k + 1)) (Fld.pwZ m (D : Int))
          rw [← HS.out.2] at hx
          clear hee hem hel ee hje hD
          go_wp2_with fail
          refine (Fld.fexp_any M.lo M.hi (D : Int) W0 FR).mono ?_
          rintro e' w' ⟨rfl, rfl⟩
          generalize hnv : h (evx m (es.take (j + 1)) (k + 1)) = nv at hx ⊢
          have HNV := Lib.hid hnv
          have HJ1 : Hid (j + 1 ≤ n1) := by show _ ≤ _; omega
          clear hnv
          generalize h (Fld.pwZ m (D : Int)) = pv at hx ⊢
          generalize h (evx m (es.take j) (k + 1)) = ov at hx ⊢
          go_wp2_with fail
          go_roundg (n1 - (j + 1))
          case measure => have := HG2.out; omega
          case rel => exact ⟨j + 1, rfl, HJ1.out, by go_num, by rw [HNV.out], rfl⟩
        · obtain rfl : j = n1 := by omega
          rw [List.take_of_length_le (by rw [← HL.out]; exact Nat.le_refl _)]
          have hzz := h_zero (evx m es (k + 1))
          by_cases h0 : evx m es (k + 1) = 0
          · rw [decide_eq_true h0] at hzz
            have HF : Hid (ints (zrs m es (k + 1)) = ints (zrs m es k) ++ [(k : Int) + 1]) := by
              show _ = _
              rw [zrs, if_pos h0, ints_snoc]; rfl
            have ho5 := HO.out
            generalize h (evx m es (k + 1)) = zv at hzz ⊢
            go_wp2_with (at_builtin; refine wpList_append_own _ rfl _ _ 23 rfl w1.heap.size 3 i0 (.int .i64 0) 1 8 Tryd.underlying23 hi hz0 hz1 hz2 rfl (by decide) _ n2 _ rfl (World.ownsRow.alloc ho5 _) ⟨W0.heap.size, 0, none⟩ 1 1 [.int .i64 ((k : Int) + 1)] rfl rfl (cell_one_new _ _ _) (ints_oneCell .i64 [_]) (by unfold maxLen; omega) (by omega) (by simp; omega) ?_; intro v7 w7 hown7 hgrow _)
            have ho7 : Own64 w7 w1.heap.size v7 (n2 + 1) (ints (zrs m es (k + 1))) := by
              unfold Own64
              rw [HF.out, ← cells64_append]
              exact hown7
            have b7 : Below w1.heap.size w1 w7 := (HB.out.alloc hbs _).grown hgrow (by simp; omega) (fun g hg => (ho5.block g hg).1)
            clear hown7 hgrow ho5
            go_wp2_with fail
            go_roundg (T - (k + 1))
            case measure => have := HG.out; omega
            case rel => exact ⟨k + 1, n2 + 1, rfl, by omega, by omega, by go_num, ho7, b7⟩
          · rw [decide_eq_false h0] at hzz
            have HO2 : Hid (Own64 W0 w1.heap.size (.slice av n2 cv) n2 (ints (zrs m es (k + 1)))) := by
              show Own64 _ _ _ _ _
              rw [zrs, if_neg h0, List.append_nil]; exact HO.out
            generalize h (evx m es (k + 1)) = zv at hzz ⊢
            go_wp2_with fail
            go_roundg (T - (k + 1))
            case measure => have := HG.out; omega
            case rel => exact ⟨k + 1, n2, rfl, by omega, by omega, by go_num, HO2.out, HB.out⟩
    · obtain rfl : k = T := by omega
      have t1 : decide ((k : Int) + 1 ≤ min most ((N : Int) - 1)) = false := decide_eq_false (by have := HT.out; omega)
      have HOf : Hid (Own64 wr w.heap.size (.slice av n2 cv) n2 (ints (zrs m es k))) := by
        have h := HO.out
        have hb := B.size
        refine ⟨h.1, ?_⟩
        rcases h.2 with h0 | ⟨g', cap', cur, hv, hbg, r⟩
        · exact Or.inl h0
        · exact Or.inr ⟨g', cap', cur, hv, by omega, r⟩
      have HBf := Lib.hid (B.trans (HB.out.mono B.size))
      go_wp2_with fail
      go_ret
      exact ⟨av, n2, cv, rfl, HOf.out, HBf.out⟩
end
end Go.Proofs.YtbapmkhdpfgnlaaDoor.Cos
/- Generators of the fields of 3 to 9 bits, reckoned: degrees, zeros, divisors. By the verifier of shale. -/
namespace Go.Proofs.YtbapmkhdpfgnlaaDoor.Cos
open Go Bin
set_option linter.unusedVariables false
def leadG (m a s : Nat) : Nat → List Nat × Nat
  | 0 => ([], 0)
  | k + 1 =>
    let r := leadG m a s k
    let x := (a + s * k) % sz m
    if r.2.testBit x then r else (r.1 ++ [x], r.2 ||| maskF (sz m) m x)
theorem leadG_is {m : Nat} (hm : 3 ≤ m) (a s : Nat) : ∀ k, (leadG m a s k).1 = leads m a s k ∧ ∀ y, y < sz m → (leadG m a s k).2.testBit y = cov m (leads m a s k) y
  | 0 => ⟨rfl, fun y _ => by simp [leadG, leads, cov]⟩
  | k + 1 => by
    have hp := sz_lo hm
    obtain ⟨h1, h2⟩ := leadG_is hm a s k
    have hx : (a + s * k) % sz m < sz m := Nat.mod_lt _ (by omega)
    rw [leadG, leads]
    simp only [h2 _ hx]
    by_cases hc : cov m (leads m a s k) ((a + s * k) % sz m) = true
    · rw [if_pos hc, if_pos hc]; exact ⟨h1, h2⟩
    · rw [if_neg hc, if_neg hc]
      refine ⟨by rw [h1], fun y hy => ?_⟩
      rw [Nat.testBit_or, h2 y hy, cov_snoc]
      congr 1
      rw [Bool.eq_iff_iff, maskF_bit (by omega) m _ y hx]
      simp only [List.contains_iff_mem, mem_cos]
      constructor
      · rintro ⟨i, hi, e⟩; exact ⟨hy, i, hi, e⟩
      · rintro ⟨_, i, hi, e⟩; exact ⟨i, hi, e⟩
/-- all that is asked of a generator. -/
def goodG (m t : Nat) : Bool :=
  let fs := (leadG m 1 2 t).1
  let g := gprN m fs
  let D := dgs m fs
  decide (sz m ≤ D) || (degZ g == (D : Int) && decide (D ≤ m * t) && g.testBit 0 && decide (2 * t ≤ sz m - 1) && (List.range t).all (fun k => pmod g (mpN m ((1 + 2 * k) % sz m)) == 0) && (List.range (2 * t)).all (fun i => evx m (exps g (topE g)) (i + 1) == 0))
theorem g3 : (List.range 8).all (fun t => goodG 3 (t + 1)) = true := by decide +kernel
theorem g4 : (List.range 8).all (fun t => goodG 4 (t + 1)) = true := by decide +kernel
theorem g5 : (List.range 8).all (fun t => goodG 5 (t + 1)) = true := by decide +kernel
theorem g6 : (List.range 8).all (fun t => goodG 6 (t + 1)) = true := by decide +kernel
theorem g7 : (List.range 8).all (fun t => goodG 7 (t + 1)) = true := by decide +kernel
theorem g8 : (List.range 8).all (fun t => goodG 8 (t + 1)) = true := by decide +kernel
end Go.Proofs.YtbapmkhdpfgnlaaDoor.Cos
/- Generators of the field of 9 bits, reckoned. By the verifier of shale. -/
namespace Go.Proofs.YtbapmkhdpfgnlaaDoor.Cos
open Go Bin
set_option linter.unusedVariables false
theorem g9_1 : goodG 9 1 = true := by decide +kernel
theorem g9_2 : goodG 9 2 = true := by decide +kernel
theorem g9_3 : goodG 9 3 = true := by decide +kernel
theorem g9_4 : goodG 9 4 = true := by decide +kernel
theorem g9_5 : goodG 9 5 = true := by decide +kernel
theorem g9_6 : goodG 9 6 = true := by decide +kernel
theorem g9_7 : goodG 9 7 = true := by decide +kernel
theorem g9_8 : goodG 9 8 = true := by decide +kernel
theorem good_gen {m : Nat} [M : Pl.Mid m] (h : m ≤ 9) {t : Nat} (h1 : 1 ≤ t) (h2 : t ≤ 8) : goodG m t = true := by
  have := M.lo
  have key : ∀ n, (List.range 8).all (fun t => goodG n (t + 1)) = true → goodG n t = true := fun n hn => by
    have := List.all_eq_true.1 hn (t - 1) (List.mem_range.2 (by omega))
    rwa [show t - 1 + 1 = t by omega] at this
  rcases (by omega : m = 3 ∨ m = 4 ∨ m = 5 ∨ m = 6 ∨ m = 7 ∨ m = 8 ∨ m = 9) with rfl | rfl | rfl | rfl | rfl | rfl | rfl
  · exact key 3 g3
  · exact key 4 g4
  · exact key 5 g5
  · exact key 6 g6
  · exact key 7 g7
  · exact key 8 g8
  · rcases (by omega : t = 1 ∨ t = 2 ∨ t = 3 ∨ t = 4 ∨ t = 5 ∨ t = 6 ∨ t = 7 ∨ t = 8) with rfl | rfl | rfl | rfl | rfl | rfl | rfl | rfl
    · exact g9_1
    · exact g9_2
    · exact g9_3
    · exact g9_4
    · exact g9_5
    · exact g9_6
    · exact g9_7
    · exact g9_8
section
variable {m : Nat} [M : Pl.Mid m]
theorem mpv_deg0 {f : Nat} (hf : f < sz m) : mpv m f ≠ 0 := by
  have hb : (mpv m f).testBit (cos m f).length = true := by rw [mpv_bit, mpb_top hf]; simp
  intro e
  rw [e] at hb
  simp at hb
/-- what is reckoned, in the contracts' words. -/
structure GoodG (m : Nat) [M : Pl.Mid m] (t : Nat) (g : Nat) : Prop where
  deg : degZ g = ((dgs m (leads m 1 2 t) : Nat) : Int)
  le : dgs m (leads m 1 2 t) ≤ m * t
  bit : g.testBit 0 = true
  two : 2 * t ≤ sz m - 1
  div : ∀ k, k < t → pmod g (mpv m ((1 + 2 * k) % sz m)) = 0
  zer : ∀ i, i < 2 * t → evx m (exps g (topE g)) (i + 1) = 0
theorem goodG_is (h : m ≤ 9) {t : Nat} (h1 : 1 ≤ t) (h2 : t ≤ 8) (hd : dgs m (leads m 1 2 t) < sz m) : GoodG m t (gpr m (leads m 1 2 t)) := by
  have hg := good_gen (m := m) h h1 h2
  unfold goodG at hg
  simp only [(leadG_is M.lo 1 2 t).1, ← gprN_is] at hg
  rw [Bool.or_eq_true] at hg
  rcases hg with hg | hg
  · exact absurd (of_decide_eq_true hg) (by omega)
  · simp only [Bool.and_eq_true, beq_iff_eq, decide_eq_true_eq, List.all_eq_true, List.mem_range] at hg
    obtain ⟨⟨⟨⟨⟨a1, a2⟩, a3⟩, a4⟩, a5⟩, a6⟩ := hg
    exact ⟨a1, a2, a3, a4, fun k hk => by rw [mpN_is]; exact a5 k hk, fun i hi => a6 i hi⟩
omit M in
theorem zrs_pre (es : List Nat) (j : Nat) : ∀ k, ∃ t, zrs m es (j + k) = zrs m es j ++ t
  | 0 => ⟨[], (List.append_nil _).symm⟩
  | k + 1 => by
    obtain ⟨t, ht⟩ := zrs_pre es j k
    show ∃ u, zrs m es (j + k) ++ _ = _
    rw [ht, List.append_assoc]
    exact ⟨_, rfl⟩
omit M in
theorem zrs_all (es : List Nat) : ∀ n, (∀ i, i < n → evx m es (i + 1) = 0) → zrs m es n = (List.range n).map (· + 1)
  | 0, _ => rfl
  | n + 1, h => by
    rw [zrs, zrs_all es n fun i hi => h i (by omega), if_pos (h n (by omega)), List.range_succ, List.map_append]; rfl
omit M in
theorem zrs_first (es : List Nat) {n K : Nat} (hn : n ≤ K) (h : ∀ i, i < n → evx m es (i + 1) = 0) : n ≤ (zrs m es K).length ∧ ∀ i, i < n → (zrs m es K).getD i 0 = i + 1 := by
  obtain ⟨t, ht⟩ := zrs_pre (m := m) es n (K - n)
  rw [show n + (K - n) = K by omega, zrs_all es n h] at ht
  constructor
  · rw [ht]; simp
  · intro i hi
    rw [ht, List.getD_eq_getElem?_getD, List.getElem?_append_left (by simpa using hi)]
    simp [hi]
end
end Go.Proofs.YtbapmkhdpfgnlaaDoor.Cos
