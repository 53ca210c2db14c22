/- The walk over ScrambleBack. By the verifier of shale. -/
import Derived.Test.YtggiknecfiaokaaScrFirst
import Derived.Test.YtggiknecfiaokaaScrOrder
import Derived.Test.YtggiknecfiaokaaRefSame
import Derived.Test.YtggiknecfiaokaaRefBytes
import Derived.Test.YtggiknecfiaokaaOwn8
import Derived.Deep.Cut
import Derived.Deep.DeepCutAuto
namespace Go.Proofs.Ytggiknecfiaokaa.walkScrambleBack
open Go Go.RowKit Bits16 Scr
set_option linter.unusedVariables false
theorem mix_step (l : List (BitVec 8)) (S : BitVec 16) (c k : Nat) (h : c + k ≤ l.length) :
    mixL S (l.take (c + k)) = mixL S (l.take c) ++ mixL (lfs (8 * c) S) ((l.drop c).take k) := by
  rw [List.take_add, mixL_append, List.length_take, Nat.min_eq_left (by omega)]
theorem mix_rest (l : List (BitVec 8)) (S : BitVec 16) (c : Nat) (h : c ≤ l.length) :
    mixL S l = mixL S (l.take c) ++ mixL (lfs (8 * c) S) (l.drop c) := by
  have := mixL_append (l.take c) (l.drop c) S
  rwa [List.take_append_drop, List.length_take, Nat.min_eq_left h] at this
set_option maxRecDepth 100000 in
set_option maxHeartbeats 16000000 in
theorem back_core (z : Int) (p : Option Addr) (n cap : Nat) (l : List (BitVec 8)) (pm : Option Addr) (ml mc : Nat) (w : World) (hpn : p = none → n = 0 ∧ cap = 0) (har : Arr8 w p n l) (hl : n = l.length) (hn : n ≤ 4000) (hc : n ≤ cap) (hml : ml ≤ 100)
    (hmo : Hid (∀ j, j < ml → ∃ mb mo z, pm = some ⟨mb, mo, none⟩ ∧ w.cell? ⟨mb, mo + j, none⟩ = some (.int .i64 z) ∧ mb < w.heap.size)) :
    Calls Try.prog 4 #[.int .i64 z, .slice p n cap, .slice pm ml mc] w fun e w' => e = .returned (.bool true) ∧ Below w.heap.size w w' := by
  have t1 : decide ((4000 : Int) < (n : Int)) = false := by simp; omega
  have t3 : decide ((100 : Int) < (ml : Int)) = false := by simp; omega
  obtain ⟨S, hS⟩ : ∃ S, S = Scr.start (BitVec.ofInt 16 z) := ⟨_, rfl⟩
  have HS := Lib.hid hS
  have HL := Lib.hid hl
  have HPN := Lib.hid hpn
  have hps : n = 0 ∨ ∃ bb off, p = some ⟨bb, off, none⟩ := by
    rcases har with h | ⟨bb, off, h, _⟩
    · exact Or.inl h
    · exact Or.inr ⟨bb, off, h⟩
  have HPS := Lib.hid hps
  clear hl hS hpn hps
  go_enter Try.func4, Try.ntmps4
  go_wp2_with fail
  refine (first_any w).mono ?_
  rintro e w1 ⟨rfl, b1⟩
  go_wp2_with fail
  refine (copy_all p n cap l w1 HPN.out (har.below b1) HL.out (by omega)).mono ?_
  rintro e w2 ⟨rfl, hk, b2⟩
  have b2 := b1.trans (b2.mono b1.size)
  go_wp2_with fail
  refine (mix_any z l n cap p w2 HL.out (by omega) (har.below b2)).mono ?_
  rintro e w3 ⟨g, rfl, hm, b3, hg⟩
  rw [← HS.out] at hm
  have hk3 : Blk8 w3 w1.heap.size l := (b3.block _ hk.lt).trans hk
  have b3 := b2.trans (b3.mono b2.size)
  have hml' : n = (mixL S l).length := by rw [mixL_length]; exact HL.out
  have HML := Lib.hid hml'
  clear hml'
  go_wp2_with fail
  refine (mix_any z (mixL S l) n n _ w3 HML.out (by omega) (Or.inr ⟨g, 0, rfl, hm.row, hm.lt⟩)).mono ?_
  rintro e w4 ⟨g2, rfl, hm2, b4, hg2⟩
  rw [← HS.out, mixL_twice] at hm2
  have hm4 : Blk8 w4 g (mixL S l) := (b4.block _ hm.lt).trans hm
  have hk4 : Blk8 w4 w1.heap.size l := (b4.block _ hk3.lt).trans hk3
  have b4 := b3.trans (b4.mono b3.size)
  have sb : Str8 w4 (.slice p n cap) l := Str8.of ((har.below b4).isBytes HL.out)
  have s2 : Str8 w4 (.slice (some ⟨g2, 0, none⟩) n n) l := Str8.of (IsBytes.mk HL.out hm2.row hm2.lt)
  have sk : Str8 w4 (.slice (some ⟨w1.heap.size, 0, none⟩) n n) l := Str8.of (IsBytes.mk HL.out hk4.row hk4.lt)
  go_wp2_with fail
  refine (sames_run (Sames.mk s2 sb (decide_eq_true rfl)) (SameHeap.refl _)).mono ?_
  rintro e w5 ⟨rfl, rfl⟩
  go_wp2_with fail
  refine (sames_run (Sames.mk sb sk (decide_eq_true rfl)) (SameHeap.refl _)).mono ?_
  rintro e w5 ⟨rfl, rfl⟩
  clear sb s2 sk hm2 hk hk3 hk4 hm
  go_wp2_with fail
  refine (new_any z w4).mono ?_
  rintro e w5 ⟨rfl, hstr, b5⟩
  rw [← HS.out] at hstr
  have hm5 : Blk8 w5 g (mixL S l) := (b5.block _ hm4.lt).trans hm4
  have gs := hm4.lt
  have b5 := b4.trans (b5.mono b4.size)
  have hsl := lt_of_block hstr
  have HZ := Lib.hid b4.size
  clear hm4 b1 b2 b3
  go_wp2_with fail
  go_loopg [11, 12, 13] ml (fun gn s11 s12 s13 wx => ∃ c i : Nat, i ≤ ml ∧ gn = ml - i ∧ c ≤ n ∧ s13 = .int .i64 (i : Int) ∧ s11 = .int .i64 (c : Int) ∧
    IsStr wx w4.heap.size (lfs (8 * c) S) ∧ Own8 wx w5.heap.size s12 c (mixL S (l.take c)) ∧ Upd w4.heap.size w5 wx)
  case atStart => exact ⟨0, 0, Nat.zero_le _, rfl, Nat.zero_le _, rfl, rfl, hstr, Own8.nil _ _, Upd.refl _ _⟩
  case round =>
    obtain ⟨c, i, hi, hg3, hcn, rfl, rfl, hd, hown, hU⟩ := hrel
    have HG := Lib.hid hg3
    clear hg3
    have hcl : (mixL S (l.take c)).length = c := by rw [mixL_length, List.length_take, ← HL.out]; omega
    have HCL := Lib.hid hcl
    clear hcl
    have bw : Below w.heap.size w wr := b5.trans (hU.toBelow HZ.out b5.size)
    have hlt5 := hU.size
    by_cases hlt : i < ml
    · obtain ⟨mb, mo, y, rfl, hy, hmb⟩ := hmo.out i hlt
      replace hy : wr.cell? ⟨mb, mo + i, none⟩ = some (.int .i64 y) := (bw.cell (p := ⟨mb, mo + i, none⟩) hmb).trans hy
      have j1 : (0 : Int) ≤ (i : Int) := by omega
      have j2 : (i : Int) < (ml : Int) := by omega
      obtain ⟨q, hq, hqe⟩ : ∃ q : Nat, q ≤ 63 ∧ bits .and .i64 y 63 = (q : Int) := Bits32.andMask y 63 (by decide)
      obtain ⟨r, hr1, hr2⟩ : ∃ r : Nat, c + r = n ∧ (n : Int) - (c : Int) = (r : Int) := ⟨n - c, by omega, by omega⟩
      have HR1 := Lib.hid hr1
      obtain ⟨k, hk⟩ : ∃ k : Nat, (k = q ∧ k ≤ r) ∨ (k = r ∧ k < q) := by
        by_cases h : q ≤ r
        · exact ⟨q, Or.inl ⟨rfl, h⟩⟩
        · exact ⟨r, Or.inr ⟨rfl, by omega⟩⟩
      have hk2 : k ≤ r := by omega
      obtain ⟨d, hd1, hd2⟩ : ∃ d : Nat, d = c + k ∧ (c : Int) + (k : Int) = (d : Int) := ⟨c + k, rfl, by omega⟩
      have HD1 := Lib.hid hd1
      have f1 : d ≤ n := by omega
      have f2 : c ≤ d := by omega
      obtain ⟨pv, cv, hrun, hpv⟩ := piece8 p n cap c d f2 f1 hc HPS.out
      have ek : d - c = k := by omega
      rw [ek] at hrun hpv
      have HE := Lib.hid ek
      have hin : k = 0 ∨ ∃ bb off, pv = some ⟨bb, off, none⟩ ∧ Row8 wr bb off ((l.drop c).take k) ∧ bb < wr.heap.size ∧ bb ≠ w4.heap.size := by
        rcases hpv with hpv | ⟨bb, off, h1, h2⟩
        · exact Or.inl hpv
        · rcases har with h0 | ⟨bb', off', h1', hrow, hbb⟩
          · exact Or.inl (by omega)
          · rw [h1'] at h1
            simp only [Option.some.injEq, Addr.mk.injEq] at h1
            obtain ⟨rfl, rfl, _⟩ := h1
            exact Or.inr ⟨bb', off' + c, h2, ((hrow.below bw hbb).drop c).take k, Nat.lt_of_lt_of_le hbb bw.size, by have := HZ.out; omega⟩
      have HIN := Lib.hid hin
      have hlk : k = ((l.drop c).take k).length := by rw [List.length_take, List.length_drop, ← HL.out]; omega
      have HLK := Lib.hid hlk
      have hmx := mix_step l S c k (by rw [← HL.out]; omega)
      rw [← hd1] at hmx
      have HMX := Lib.hid hmx
      clear hd1 hr1 ek hpv hin hlk hmx
      rcases hk with ⟨rfl, hk⟩ | ⟨rfl, hk⟩
      all_goals
        go_wp2_with fail
        refine (smix_any _ ((l.drop c).take k) w4.heap.size k cv pv wr hd HLK.out (by omega) HIN.out).mono ?_
        rintro e w6 ⟨rfl, hd6, hx6, hU6⟩
        have hx6' := hx6.lt
        have hvo : ∀ b, u12.ownBlock = some b → w5.heap.size ≤ b ∧ b < wr.heap.size := fun b h => hown.block b h
        have hown6 : Own8 w6 w5.heap.size u12 c (mixL S (l.take c)) := hown.keep (fun b h => hU6.block b (hvo b h).2 (by have := (hvo b h).1; omega))
        have HVO := Lib.hid hvo
        have hU7 : Upd w4.heap.size w5 w6 := hU.trans hU6
        have hnl : (cells8 (mixL (lfs (8 * c) S) ((l.drop c).take k))).length = k * 1 := by rw [cells8_length, mixL_length, ← HLK.out, Nat.mul_one]
        have HNL := Lib.hid hnl
        have hb6 : w5.heap.size ≤ w6.heap.size := hU7.size
        obtain ⟨i0, hi0, hz0, hz1, hz2⟩ := info8
        have HZ1 := Lib.hid hz1
        have HZ2 := Lib.hid hz2
        have HZ0 := Lib.hid hz0
        have HI0 := Lib.hid hi0
        clear hvo hnl hz0 hz1 hz2 hi0 hown hU hU6 hd
        by_cases hk0 : 0 < k
        · go_wp2_with (at_builtin; refine wpList_append_lies _ rfl _ _ 22 rfl w5.heap.size 5 i0 (.int .u8 0) 1 1 Try.underlying22 HI0.out HZ0.out HZ1.out HZ2.out rfl (by decide) _ c _ rfl hown6 ⟨wr.heap.size, 0, none⟩ k k (cells8 (mixL (lfs (8 * c) S) ((l.drop c).take k))) rfl HNL.out (news8 hx6) (cells8_one _) hk0 (by unfold maxLen; omega) (by omega) hb6 w6.heap.size rfl ?_; intro gg cap' w7 hown7 hgrow hat hlt7)
          have hgx : ∀ b, (Value.slice (some ⟨gg, 0, none⟩) (c + k) cap').ownBlock = some b → b ≠ wr.heap.size := by
            intro b hb e
            simp only [Value.ownBlock, Option.some.injEq] at hb
            rcases hat with h | h
            · have := (HVO.out gg h).2; omega
            · omega
          have hx7 : Blk8 w7 wr.heap.size (mixL (lfs (8 * c) S) ((l.drop c).take k)) := (hgrow.block _ hx6' (fun e => by have := (HVO.out _ e.symm).2; omega)).trans hx6
          have hd7 : IsStr w7 w4.heap.size (lfs (8 * k) (lfs (8 * c) S)) := (hgrow.block _ (by omega) (fun e => by have := (HVO.out _ e.symm).1; omega)).trans hd6
          have hU8 : Upd w4.heap.size w5 w7 := hU7.grown hgrow (fun b hb => (HVO.out b hb).1)
          have HGX := Lib.hid hgx
          have hown7' : Own8 w7 w5.heap.size (.slice (some ⟨gg, 0, none⟩) (c + k) cap') (c + k) (mixL S (l.take d)) := by
            unfold Own8
            rw [HMX.out, ← cells8_append]; exact hown7
          have hl0 : (mixL (lfs (8 * c) S) ((l.drop c).take k)).length = k := by rw [mixL_length]; exact HLK.out.symm
          have HL0 := Lib.hid hl0
          clear hl0 hgx hown7 hat hgrow hx6 hd6 hU7 hown6
          obtain ⟨wo, rfl⟩ : ∃ wo : World, wo = wr := ⟨_, rfl⟩
          go_loopg [16] k (fun gn s16 wx => ∃ (j : Nat) (Y : List (BitVec 8)), j ≤ k ∧ gn = k - j ∧ s16 = .int .i64 (j : Int) ∧ Blk8 wx wo.heap.size Y ∧ Hid (Y.length = k) ∧ Only wo.heap.size w7 wx)
          case atStart => exact ⟨0, _, Nat.zero_le _, rfl, rfl, hx7, HL0.out, Only.refl _ _⟩
          case round =>
            obtain ⟨j, Y, hj, hg4, rfl, hY, HY, hO⟩ := hrel
            have HG4 := Lib.hid hg4
            clear hg4
            by_cases hjk : j < k
            · have y1 : (0 : Int) ≤ (j : Int) := by omega
              have y2 : (j : Int) < (k : Int) := by omega
              have d1 := hY.cell (i := j) (by have := HY.out; omega)
              have d2 := hY.free j
              go_wp2
              go_roundg (k - (j + 1))
              case measure => have := HG4.out; omega
              case rel => exact ⟨j + 1, Y.set j 238#8, by omega, rfl, by go_num, hY.set j 238#8, by show _ = _; rw [List.length_set]; exact HY.out, hO.trans (Only.setCell _ ⟨wo.heap.size, j, none⟩ _)⟩
            · have hd8 : IsStr wr w4.heap.size (lfs (8 * d) S) := by
                have e := HD1.out
                have h1 := (hO.block w4.heap.size (by omega)).trans hd7
                rw [lfs_add, show 8 * c + 8 * k = 8 * d by omega] at h1
                exact h1
              have hown8 : Own8 wr w5.heap.size (.slice (some ⟨gg, 0, none⟩) (c + k) cap') d (mixL S (l.take d)) := by
                have e := HD1.out
                have h1 := hown7'.keep (w' := wr) (fun b hb => hO.block b (HGX.out b hb))
                rw [← e] at h1 ⊢
                exact h1
              have hU9 : Upd w4.heap.size w5 wr := hU8.others hO (by omega)
              go_wp2
              go_roundg (ml - (i + 1))
              case measure => have := HG.out; omega
              case rel => exact ⟨d, i + 1, by omega, rfl, f1, by go_num, by go_num, hd8, hown8, hU9⟩
        · obtain rfl : k = 0 := by omega
          have ed : d = c := by have := HD1.out; omega
          subst ed
          go_wp2_with (at_builtin; refine wpList_append_own _ rfl _ _ 22 rfl w5.heap.size 5 i0 (.int .u8 0) 1 1 Try.underlying22 HI0.out HZ0.out HZ1.out HZ2.out rfl (by decide) _ d _ rfl hown6 ⟨wr.heap.size, 0, none⟩ 0 0 [] rfl rfl (by intro j u hu; simp at hu) (by intro u hu; cases hu) (by unfold maxLen; omega) (by omega) hb6 ?_; intro v7 w7 hown7 hgrow _)
          have hd7 : IsStr w7 w4.heap.size (lfs (8 * d) S) := by
            have h1 := (hgrow.block w4.heap.size (by omega) (fun e => by have := (HVO.out _ e.symm).1; omega)).trans hd6
            rw [lfs_add] at h1
            exact h1
          have hU8 : Upd w4.heap.size w5 w7 := hU7.grown hgrow (fun b hb => (HVO.out b hb).1)
          have hown7' : Own8 w7 w5.heap.size v7 d (mixL S (l.take d)) := by
            unfold Own8
            rw [List.append_nil] at hown7; exact hown7
          clear hown7 hgrow hx6 hd6 hU7 hown6
          obtain ⟨wo, rfl⟩ : ∃ wo : World, wo = wr := ⟨_, rfl⟩
          go_loopg [16] 0 (fun _ s16 wx => s16 = .int .i64 0 ∧ w7 = wx)
          case atStart => exact ⟨rfl, rfl⟩
          case round =>
            obtain ⟨rfl, rfl⟩ := hrel
            go_wp2
            go_roundg (ml - (i + 1))
            case measure => have := HG.out; omega
            case rel => exact ⟨d, i + 1, by omega, rfl, f1, by go_num, by go_num, hd7, hown7', hU8⟩
    · obtain ⟨pv, cv, hrun, hpv⟩ := piece8_from p n cap c hcn hc HPS.out
      obtain ⟨k, hk⟩ : ∃ k, n - c = k := ⟨_, rfl⟩
      have hck : c + k = n := by omega
      rw [hk] at hrun hpv
      have hin : k = 0 ∨ ∃ bb off, pv = some ⟨bb, off, none⟩ ∧ Row8 wr bb off (l.drop c) ∧ bb < wr.heap.size ∧ bb ≠ w4.heap.size := by
        rcases hpv with hpv | ⟨bb, off, h1, h2⟩
        · exact Or.inl hpv
        · rcases har with h0 | ⟨bb', off', h1', hrow, hbb⟩
          · exact Or.inl (by omega)
          · rw [h1'] at h1
            simp only [Option.some.injEq, Addr.mk.injEq] at h1
            obtain ⟨rfl, rfl, _⟩ := h1
            exact Or.inr ⟨bb', off' + c, h2, (hrow.below bw hbb).drop c, Nat.lt_of_lt_of_le hbb bw.size, by have := HZ.out; omega⟩
      have HIN := Lib.hid hin
      have hlk : k = (l.drop c).length := by rw [List.length_drop, ← HL.out]; omega
      have HLK := Lib.hid hlk
      have HMX := Lib.hid (mix_rest l S c (by rw [← HL.out]; exact hcn))
      have HCK := Lib.hid hck
      have f2 : c ≤ n := hcn
      have f3 : k ≤ n := by omega
      have f5 : (0 : Int) ≤ (c : Int) := by omega
      have f6 : (c : Int) ≤ (n : Int) := by omega
      have hm6 : Blk8 wr g (mixL S l) := (hU.block g (by omega) (by omega)).trans hm5
      clear hk hpv hin hlk hck
      go_wp2_with fail
      refine (smix_any _ (l.drop c) w4.heap.size k cv pv wr hd HLK.out (by omega) HIN.out).mono ?_
      rintro e w6 ⟨rfl, hd6, hx6, hU6⟩
      have hx6' := hx6.lt
      have hvo : ∀ b, u12.ownBlock = some b → w5.heap.size ≤ b ∧ b < wr.heap.size := fun b h => hown.block b h
      have hown6 : Own8 w6 w5.heap.size u12 c (mixL S (l.take c)) := hown.keep (fun b h => hU6.block b (hvo b h).2 (by have := (hvo b h).1; omega))
      have HVO := Lib.hid hvo
      have hU7 : Upd w4.heap.size w5 w6 := hU.trans hU6
      have hnl : (cells8 (mixL (lfs (8 * c) S) (l.drop c))).length = k * 1 := by rw [cells8_length, mixL_length, ← HLK.out, Nat.mul_one]
      have HNL := Lib.hid hnl
      have hb6 : w5.heap.size ≤ w6.heap.size := hU7.size
      have hm7 : Blk8 w6 g (mixL S l) := (hU6.block g hm6.lt (by omega)).trans hm6
      obtain ⟨i0, hi0, hz0, hz1, hz2⟩ := info8
      have HZ1 := Lib.hid hz1
      have HZ2 := Lib.hid hz2
      have HZ0 := Lib.hid hz0
      have HI0 := Lib.hid hi0
      clear hvo hnl hz0 hz1 hz2 hi0 hown hU hU6 hd hm6 hm5
      go_wp2_with (at_builtin; refine wpList_append_own _ rfl _ _ 22 rfl w5.heap.size 5 i0 (.int .u8 0) 1 1 Try.underlying22 HI0.out HZ0.out HZ1.out HZ2.out rfl (by decide) _ c _ rfl hown6 ⟨wr.heap.size, 0, none⟩ k k (cells8 (mixL (lfs (8 * c) S) (l.drop c))) rfl HNL.out (news8 hx6) (cells8_one _) (by unfold maxLen; omega) (by omega) hb6 ?_; intro v7 w7 hown7 hgrow _)
      have hm8 : Blk8 w7 g (mixL S l) := (hgrow.block g hm7.lt (fun e => by have := (HVO.out _ e.symm).1; omega)).trans hm7
      have hU8 : Upd w4.heap.size w5 w7 := hU7.grown hgrow (fun b hb => (HVO.out b hb).1)
      have hown7' : Own8 w7 w5.heap.size v7 (c + k) (mixL S l) := by
        unfold Own8
        rw [HMX.out, ← cells8_append]; exact hown7
      have so : Str8 w7 v7 (mixL S l) := Str8.of hown7'.bytes
      have sm : Str8 w7 (.slice (some ⟨g, 0, none⟩) n n) (mixL S l) := Str8.of (IsBytes.mk HML.out hm8.row hm8.lt)
      have bfin : Below w.heap.size w w7 := b5.trans (hU8.toBelow HZ.out b5.size)
      clear hown7 hgrow hx6 hd6 hU7 hown6
      go_wp2_with fail
      refine (sames_run (Sames.mk so sm (decide_eq_true rfl)) (SameHeap.refl _)).mono ?_
      rintro e w8 ⟨rfl, rfl⟩
      go_wp2
      go_ret
      exact ⟨rfl, bfin⟩

set_option maxRecDepth 100000 in
set_option maxHeartbeats 1000000 in
theorem back_out (z : Int) (p pm : Option Addr) (cap n ml mc : Nat) (w : World) (h : 4000 < n ∨ (n ≤ 4000 ∧ 100 < ml)) :
    Calls Try.prog 4 #[.int .i64 z, .slice p n cap, .slice pm ml mc] w fun e w' => e = .returned (.bool true) ∧ Below w.heap.size w w' := by
  rcases h with h | ⟨h1, h2⟩
  · have t1 : decide ((4000 : Int) < (n : Int)) = true := by simp; omega
    clear h
    go_enter Try.func4, Try.ntmps4
    go_wp2_with fail
    refine (first_any w).mono ?_
    rintro e w1 ⟨rfl, b1⟩
    go_wp2
    go_ret
    exact ⟨rfl, b1⟩
  · have t1 : decide ((4000 : Int) < (n : Int)) = false := by simp; omega
    have t3 : decide ((100 : Int) < (ml : Int)) = true := by simp; omega
    clear h1 h2
    go_enter Try.func4, Try.ntmps4
    go_wp2_with fail
    refine (first_any w).mono ?_
    rintro e w1 ⟨rfl, b1⟩
    go_wp2
    go_ret
    exact ⟨rfl, b1⟩
theorem walk (a0 : Int) (a1 : Option Addr) (len1 cap1 : Nat) (z1 : List Int) (a2 : Option Addr) (len2 cap2 : Nat) (z2 : List Int) (w : World) (_w0 : (Lit.int .i64 a0).wf = true) (w1 : IsRow .u8 w a1 len1 cap1 z1) (w2 : IsRow .i64 w a2 len2 cap2 z2) :
    Calls Try.prog 4 #[.int .i64 a0, .slice a1 len1 cap1, .slice a2 len2 cap2] w fun e w' => e = .returned (.bool true) ∧ Below w.heap.size w w' := by
  obtain ⟨hm, h⟩ := w1.bytes
  obtain ⟨hm3, hc3, h3⟩ := w2.at
  by_cases h4 : 4000 < len1 ∨ (len1 ≤ 4000 ∧ 100 < len2)
  · exact back_out _ _ _ _ _ _ _ w h4
  · have hmo : Hid (∀ j, j < len2 → ∃ mb mo z, a2 = some ⟨mb, mo, none⟩ ∧ w.cell? ⟨mb, mo + j, none⟩ = some (.int .i64 z) ∧ mb < w.heap.size) := by
      intro j hj
      obtain ⟨mb, mo, z, e1, e2, e3, _⟩ := h3 j hj
      exact ⟨mb, mo, z, e1, e2, e3⟩
    have hnone : a1 = none → len1 = 0 ∧ cap1 = 0 := by
      intro ha
      rcases w1 with ⟨_, h1, h2, _⟩ | ⟨x, hx, _⟩
      · exact ⟨h1, h2⟩
      · rw [ha] at hx; cases hx
    have hcap : len1 ≤ cap1 := w1.at.2.1
    rcases h with rfl | ⟨bb, off, l, rfl, hl, hc, hr, hb⟩
    · exact back_core a0 a1 0 cap1 [] a2 len2 cap2 w hnone (Or.inl rfl) rfl (by omega) (Nat.zero_le _) (by omega) hmo
    · exact back_core a0 _ len1 cap1 l a2 len2 cap2 w (fun h => by cases h) (Or.inr ⟨bb, off, rfl, hr, hb⟩) hl.symm (by omega) hc (by omega) hmo
end Go.Proofs.Ytggiknecfiaokaa.walkScrambleBack
