/- The walk over the iterator of a buffer's Each. By the verifier of shale. -/
import Derived.Test.YtabpfadbioalgaaDoorWtEach
namespace Go.Proofs.YtabpfadbioalgaaDoor.Wt
open Go Go.RowKit Bin
set_option linter.unusedVariables false
set_option linter.unusedSimpArgs false
/-- what the iterator carries over its rounds. -/
def ItI (L : List Ent) (B0 : Nat) (v1 : Value) (O : List Yd → List Nat → World → Prop) (i : Nat) (wx : World) : Prop :=
  ∃ pre ol, pre.length = i ∧ PreY L pre ∧ O pre ol wx ∧ Row wx B0 v1 L ∧ (∀ k, v1.ownBlock = some k → k ∉ ol) ∧ (∀ e ∈ L, Pol wx e.a e.n e.c e.l ∧ ∀ q, e.a = some q → q.block ∉ ol ∧ q.block < wx.heap.size) ∧ B0 ≤ wx.heap.size
set_option maxRecDepth 100000 in
set_option maxHeartbeats 2000000 in
theorem each_iter (nf Bs base bb cb : Nat) (sz mo sc : Int) (v : Value) (L : List Ent) (hL : L.length ≤ 1000) (hn : ∀ e ∈ L, e.n ≤ 100000) :
    IterGift nf Tryd.prog 30 #[.pointer (some ⟨cb, 0, none⟩)] encY gift Bs [] (VY L Bs) (fun xs => PreY L xs ∧ xs.length = L.length) (PreY L) (FindsY base bb cb sz mo sc v L) := by
  intro l O Ox ol W hO hOx hOl hY hBW h0 hC
  refine callsIn_wide.2 ?_
  obtain ⟨BA, hcb, hol⟩ := hC
  obtain ⟨k0, k1, k2, k3, _⟩ := BA.cells
  have c0 : W.cell? ⟨cb, 0, none⟩ = some (.pointer (some ⟨bb, 0, none⟩)) := cell_of_one hcb
  have HYY := Lib.hid hY
  have HOO := Lib.hid (And.intro hO (And.intro hOx hOl))
  have HCl := Lib.hid (cloneE_any BA.row hL)
  have HFr : Hid (∀ ol' X Y, Below X.heap.size X Y → Fr Bs [] ol' X Y) := fun ol' X Y b => .below b
  have HI := Lib.hid (And.intro BA (And.intro h0 (And.intro hol hn)))
  obtain ⟨n, hnE⟩ : ∃ n, n = L.length := ⟨_, rfl⟩
  have HN := Lib.hid hnE
  rw [← hnE] at hL
  clear hO hOx hOl hY h0 BA hcb hol hn hnE
  go_enter Tryd.func30, Tryd.ntmps30
  go_wp2_with fail
  refine HCl.out.mono ?_
  rintro e W1 ⟨v1, rfl, hr1, b1⟩
  clear HCl k0 k1 k2 k3 c0
  obtain ⟨a1, c1, rfl, hc1, hc2, _⟩ := row_slice hr1
  unfold maxLen at hc2
  have HI1 : Hid (ItI L W.heap.size (.slice a1 L.length c1) O 0 W1) := by
    obtain ⟨BA, h0, hol, _⟩ := HI.out
    refine ⟨[], ol, rfl, fun i x hx => by simp at hx, HOO.out.1 _ _ _ _ h0 (HFr.out _ _ _ b1), hr1, fun k hk hm => ?_, fun e he => ⟨(BA.ents e he).1.below b1, fun q hq => ⟨hol e he q hq, Nat.lt_of_lt_of_le ((BA.ents e he).2 q hq).2.1 b1.size⟩⟩, b1.size⟩
    have h1 := (hr1.lt k hk).1
    have h2 := HOO.out.2.2 _ _ _ h0 k hm
    omega
  rw [← HN.out] at HI1 ⊢
  clear hr1 b1 hc1
  go_wp2_with fail
  go_loopg [11] n (fun gh s11 wx => ∃ i : Nat, gh = n - i ∧ i ≤ n ∧ s11 = .int .i64 (i : Int) ∧ Hid (ItI L W.heap.size (.slice a1 n c1) O i wx))
  case atStart => exact ⟨0, rfl, Nat.zero_le _, rfl, HI1⟩
  case round =>
    clear HI1
    obtain ⟨i, hg, hin, rfl, HX⟩ := hrel
    have HG := Lib.hid (And.intro hg hin)
    clear hg
    obtain ⟨w4, rfl⟩ : ∃ w', w' = wr := ⟨_, rfl⟩
    by_cases hlt : i < n
    · have x1 : (i : Int) < (n : Int) := by omega
      have x0 : (0 : Int) ≤ (i : Int) := by omega
      obtain ⟨d, hd⟩ : ∃ d, L[i]? = some d := ⟨L[i]'(by rw [← HN.out]; exact hlt), List.getElem?_eq_getElem _⟩
      obtain ⟨pre, ol', hpl, hpre, hO4, hr4, hv4, hd4, hB4⟩ := HX.out
      obtain ⟨g1, rfl, _, c0, c1', c2⟩ := row_cells hr4 hd
      have hg1 : g1 < w4.heap.size := (hr4.lt g1 rfl).2
      have HD := Lib.hid (And.intro hd (And.intro hlt (And.intro hpl hpre)))
      have HW4 := Lib.hid (And.intro hO4 (And.intro hr4 (And.intro hv4 (And.intro hd4 (And.intro hB4 hg1)))))
      clear hd hlt hr4 hin hpl hpre hO4 hv4 hd4 hB4 hg1 HX
      go_upto_region 3 with (fail)
      generalize hw : w4.alloc (.cells #[.int .i64 d.key, .bool d.trim, .slice d.a d.n d.c] 35 (0, 0)) = w5
      obtain ⟨K, b5⟩ := newE w4 w5 d hw
      obtain ⟨eb, heb⟩ : ∃ eb, eb = w4.heap.size := ⟨_, rfl⟩
      rw [← heb] at K ⊢
      clear hw heb c0 c1' c2
      obtain ⟨c0, c1', c2, _⟩ := ent_cells K
      have HB5 := Lib.hid b5
      have HOwn := Lib.hid (own_any w5 d ((HW4.out.2.2.2.1 d (List.mem_of_getElem? HD.out.1)).1.below b5) (HI.out.2.2.2 d (List.mem_of_getElem? HD.out.1)))
      have HYx : Hid (∀ a6 c6 w6, NewP w5 w6 a6 d.n c6 d.l → Below w5.heap.size w5 w6 → O pre ol' w6 ∧ VY L Bs pre ⟨i, ⟨d.key, d.trim, a6, d.n, c6, d.l⟩⟩ ol' w6) := fun a6 c6 w6 N6 b6 => by
        refine ⟨HOO.out.1 _ _ _ _ HW4.out.1 (HFr.out _ _ _ (HB5.out.trans (b6.mono HB5.out.size))), HD.out.2.2.1.symm, ⟨d, HD.out.1, rfl, rfl, rfl, rfl⟩, freD_of N6, fun k hk hm => ?_, fun k hk => ?_⟩
        rotate_left
        · unfold gift at hk
          simp only [List.mem_map, Option.mem_toList] at hk
          obtain ⟨q, hq, rfl⟩ := hk
          rcases N6.own with ⟨h, _⟩ | ⟨g', h1, h2, _⟩
          · rw [show a6 = some q from hq] at h; cases h
          · rw [show a6 = some q from hq] at h1
            cases h1
            have h4 := HB5.out.size
            have h5 := HW4.out.2.2.2.2.1
            show Bs ≤ g'
            omega
        unfold gift at hk
        simp only [List.mem_map, Option.mem_toList] at hk
        obtain ⟨q, hq, rfl⟩ := hk
        rcases N6.own with ⟨h, _⟩ | ⟨g', h1, h2, _⟩
        · rw [show a6 = some q from hq] at h; cases h
        · rw [show a6 = some q from hq] at h1
          cases h1
          have h3 := HOO.out.2.2 _ _ _ HW4.out.1 _ hm
          have h4 := HB5.out.size
          simp only at h3
          omega
      clear K b5
      refine (wpIn_wide (n := nf)).1 ?_
      gi_wp2
      refine ⟨trivial, fun e => by simp [Fence.wide] at e, ?_⟩
      refine CallsIn.mono (callsIn_wide.2 HOwn.out) ?_
      rintro e6 w6 ⟨a6, c6, rfl, N6, b6⟩
      obtain ⟨fn, tmps, assign, body, hy, hR⟩ := HYY.out pre ⟨i, ⟨d.key, d.trim, a6, d.n, c6, d.l⟩⟩ ol' w6 (HYx.out a6 c6 w6 N6 b6).1 (HYx.out a6 c6 w6 N6 b6).2
      have HR := Lib.hid hR
      have HN6 := Lib.hid (And.intro N6 b6)
      clear hR N6 b6 c0 c1' c2
      gi_wp2
      refine ⟨fun e => by simp [Fence.wide] at e, (roundIn_wide HR.out).mono ?_⟩
      rintro e W7 ⟨ol2, ht, (⟨rfl, hO7⟩ | ⟨rfl, cx, hO7⟩)⟩
      · have HNx : Hid (ItI L W.heap.size (.slice (some ⟨g1, 0, none⟩) n c1) O (i + 1) W7) := by
          obtain ⟨hO4, hr4, hv4, hd4, hB4, hg1⟩ := HW4.out
          obtain ⟨hd, hlt, hpl, hpre⟩ := HD.out
          obtain ⟨N6, b6⟩ := HN6.out
          have b46 := HB5.out.trans (b6.mono HB5.out.size)
          have hgift : ∀ k ∈ gift ⟨i, ⟨d.key, d.trim, a6, d.n, c6, d.l⟩⟩, w4.heap.size ≤ k := fun k hk => by
            unfold gift at hk
            simp only [List.mem_map, Option.mem_toList] at hk
            obtain ⟨q, hq, rfl⟩ := hk
            rcases N6.own with ⟨h, _⟩ | ⟨g', h1, h2, _⟩
            · rw [show a6 = some q from hq] at h; cases h
            · rw [show a6 = some q from hq] at h1
              cases h1
              exact Nat.le_trans HB5.out.size h2
          have hkeep : ∀ k, k < w4.heap.size → k ∉ ol' → W7.heap[k]? = w4.heap[k]? := fun k hk hm => by
            refine (ht.same k (Nat.lt_of_lt_of_le hk b46.size) fun h => ?_).trans (b46.block k hk)
            rcases List.mem_append.1 h with h | h
            · have := hgift k h; omega
            · exact hm h
          have hnew : ∀ k, k < w4.heap.size → k ∉ ol' → k ∉ ol2 := fun k hk hm h => by
            rcases ht.new k h with h | h
            · rcases List.mem_append.1 h with h | h
              · have := hgift k h; omega
              · exact hm h
            · have := b46.size; omega
          have hs7 : w4.heap.size ≤ W7.heap.size := Nat.le_trans b46.size ht.size
          refine ⟨pre ++ [⟨i, ⟨d.key, d.trim, a6, d.n, c6, d.l⟩⟩], ol2, by rw [List.length_append, hpl]; rfl, hpre.snoc hpl.symm ⟨d, hd, rfl, rfl, rfl, rfl⟩, hO7, row_keep hr4 fun k hk => hkeep k (hr4.lt k hk).2 (hv4 k hk), fun k hk => hnew k (hr4.lt k hk).2 (hv4 k hk), fun e he => ⟨pol_same (hd4 e he).1 hs7 fun q hq => hkeep _ ((hd4 e he).2 q hq).2 ((hd4 e he).2 q hq).1, fun q hq => ⟨hnew _ ((hd4 e he).2 q hq).2 ((hd4 e he).2 q hq).1, Nat.lt_of_lt_of_le ((hd4 e he).2 q hq).2 hs7⟩⟩, Nat.le_trans hB4 hs7⟩
        have HI2 := Lib.hid HD.out.2.1
        clear ht hO7 HR HYx HOwn HB5 HW4 HN6 HD hy
        gi_wp2
        go_wp2_with fail
        go_roundg (n - (i + 1))
        case measure => have := HG.out; have := HI2.out; omega
        case rel => exact ⟨i + 1, rfl, HI2.out, by go_num, HNx⟩
      · have HE := Lib.hid (And.intro hO7 (HD.out.2.2.2.snoc HD.out.2.2.1.symm ⟨d, HD.out.1, rfl, rfl, rfl, rfl⟩ : PreY L (pre ++ [⟨i, ⟨d.key, d.trim, a6, d.n, c6, d.l⟩⟩])))
        clear ht hO7 HR HYx HOwn HB5 HW4 HN6 HD hy
        gi_wp2
        go_wp2_with fail
        refine bodyPost_ret (results_none rfl _ _ _) rfl ?_
        exact ⟨⟨_, rfl⟩, .inr ⟨_, cx, ol2, HE.out.2, HE.out.1⟩⟩
    · obtain rfl : n = i := by omega
      obtain ⟨pre, ol', hpl, hpre, hO4, _⟩ := HX.out
      have x1 : ¬ (n : Int) < (n : Int) := by omega
      have HE := Lib.hid (And.intro hpl (And.intro hpre hO4))
      clear hlt hin HX HG hpl hpre hO4
      go_wp2_with fail
      go_end0
      exact ⟨⟨_, rfl⟩, .inl ⟨pre, ⟨HE.out.2.1, HE.out.1.trans HN.out⟩, ol', HE.out.2.2⟩⟩
end Go.Proofs.YtabpfadbioalgaaDoor.Wt
