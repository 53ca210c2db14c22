/- The walk over SearchFinds. By the verifier of shale. -/
import Derived.Test.YtbgegnoenceflaaDoorGreat1
import Derived.Test.YtbgegnoenceflaaDoorGreat2
import Derived.Test.YtbgegnoenceflaaDoorLaidSearchFinds
import Derived.Deep.Cut
namespace Go.Proofs.YtbgegnoenceflaaDoor.walkSearchFinds
open Go Go.RowKit Fld Bits16 Pl Loc Sea
set_option linter.unusedVariables false
theorem has_snoc (l : List Nat) (k q : Nat) : (decide (q ∈ l) || decide (q = k)) = decide (q ∈ l ++ [k]) := by
  rw [Bool.eq_iff_iff]; simp
theorem hits_at_snoc {f : Nat → Bool} {i : Nat} (h : f i = true) : intsN (hits f (i + 1)) = intsN (hits f i) ++ [(i : Int)] := by
  rw [hits_succ, if_pos h]; simp [intsN]
theorem hits_at_same {f : Nat → Bool} {i : Nat} (h : f i = false) : hits f (i + 1) = hits f i := by
  rw [hits_succ, if_neg (by simp [h]), List.append_nil]
set_option maxRecDepth 100000 in
set_option maxHeartbeats 4000000 in
theorem core (x0 : Int) (a : Option Addr) (nl cl : Nat) (l : List Int) (x2 : Int) (w : World) {y : Addr} (E : ErrAt w 2 y) (r : RowZ w a nl cl l) :
    Calls Tryd.prog 4 #[.int .i64 x0, .slice a nl cl, .int .i64 x2] w fun e w' => e = .returned (.bool true) ∧ Below w.heap.size w w' := by
  obtain ⟨i0, hi, hz0, hz1, hz2⟩ := info64
  have hml : nl ≤ maxLen := Nat.le_trans r.hcap r.hmost
  unfold maxLen at hml
  go_enter Tryd.func4, Tryd.ntmps4
  go_wp2_with fail
  refine (first_any w E).mono ?_
  rintro e w1 ⟨rfl, B⟩
  replace r := r.below B
  replace E := E.below B
  go_wp2_with fail
  refine (made_any x0 w1).mono ?_
  rintro e w2 ⟨s, be, ce, bl, rfl, F, b⟩
  replace r := r.below b
  replace E := E.below b
  replace B := B.trans (b.mono B.size)
  clear b
  obtain ⟨m, hm⟩ : ∃ m, m = mk9 x0 := ⟨_, rfl⟩
  haveI M : Mid m := by rw [hm]; infer_instance
  have hm14 : (m : Int) ≤ 14 := by have := M.hi; omega
  have hm0 : (0 : Int) ≤ (m : Int) := by omega
  rw [← hm] at F ⊢
  clear hm
  obtain ⟨n, hn⟩ : ∃ n, n = size m := ⟨_, rfl⟩
  have hn1 := size_lo m M.lo
  have hn2 := size_hi m M.hi
  rw [← hn] at hn1 hn2
  have ho := shl_one m M.hi
  have eo : (els m : Int) - 1 = (n : Int) := by rw [els_eq, hn]; omega
  have hmk := fun w => madeB w n (by omega)
  obtain ⟨n0, hn0, en0⟩ := rem_in x2 n (by omega)
  have en2 : (x2.tmod (n : Int) + (n : Int)) % (n : Int) = (n0 : Int) := by rw [Int.add_emod_right]; exact en0
  obtain ⟨g1, g2⟩ := rem_lo x2 n (by omega)
  have g3 : ¬ ((n : Int) = 0) := by omega
  have g4 : (((n : Nat) : Int) == 0) = false := by simp; omega
  have HF := Lib.hid (And.intro r (And.intro F (And.intro B (And.intro hn E))))
  clear r F B hn E
  have H0 : Hid (BF (w2.alloc (objB (List.replicate n false))) w2.heap.size n (fun q => decide (q ∈ ([] : List Nat))) ∧ Below w2.heap.size w2 (w2.alloc (objB (List.replicate n false))) ∧ (w2.alloc (objB (List.replicate n false))).heap.size = w2.heap.size + 1) :=
    ⟨(BF.new w2 n).of fun i _ => by simp, (Below.refl _ _).alloc (Nat.le_refl _) _, Array.size_push _⟩
  go_wp2_with fail
  rw [en2]
  clear hmk ho eo en0 en2 g1 g2
  generalize w2.alloc (objB (List.replicate n false)) = W at H0 ⊢
  obtain ⟨base, hbase⟩ : ∃ base, base = W.heap.size := ⟨_, rfl⟩
  have HBs : Hid (base = w2.heap.size + 1 ∧ base = W.heap.size) := ⟨by rw [hbase]; exact H0.out.2.2, hbase⟩
  have HO0 : Hid (Own64 W base (.slice none 0 0) 0 (intsN [])) := Own64.nil W base
  clear hbase
  go_loopg [12, 13, 14] nl (fun gh s12 s13 s14 wx => ∃ (i : Nat) (K : Nat) (pl : List Nat), gh = nl - i ∧ i ≤ nl ∧ s13 = .int .i64 (i : Int) ∧ K ≤ 40 ∧ Hid (K = pl.length ∧ pl.Nodup ∧ ∀ p ∈ pl, p < n) ∧ Hid (Own64 wx base s12 K (intsN pl)) ∧ Hid (BF wx w2.heap.size n (fun q => decide (q ∈ pl))) ∧ Below w2.heap.size w2 wx ∧ base ≤ wx.heap.size)
  case atStart => exact ⟨0, 0, [], rfl, Nat.zero_le _, rfl, Nat.zero_le _, ⟨rfl, List.nodup_nil, fun p hp => by cases hp⟩, HO0, H0.out.1, H0.out.2.1, by rw [HBs.out.2]; exact Nat.le_refl _⟩
  case round =>
    clear H0 HO0
    obtain ⟨i, K, pl, hg, hin, rfl, hK, HPl, HO, HB, hB, hbs⟩ := hrel
    have HG := Lib.hid hg
    clear hg
    obtain ⟨va, vc, hv⟩ := own_slice HO.out
    subst hv
    by_cases hgo : i < nl ∧ K < 40
    · obtain ⟨hlt, hKT⟩ := hgo
      have u1 : (i : Int) < (nl : Int) := by omega
      have u2 : decide ((K : Int) < 40) = true := decide_eq_true (by omega)
      have u2' : decide (K < 40) = true := decide_eq_true hKT
      have u3 : (0 : Int) ≤ (i : Int) := by omega
      obtain ⟨bb, off, rfl, cc, _⟩ := (HF.out.1.below hB).row i hlt
      obtain ⟨k, hk, ek⟩ := rem_in (l.getD i 0) n (by omega)
      have ek2 : ((l.getD i 0).tmod (n : Int) + (n : Int)) % (n : Int) = (k : Int) := by rw [Int.add_emod_right]; exact ek
      obtain ⟨g1, g2⟩ := rem_lo (l.getD i 0) n (by omega)
      have y0 : (0 : Int) ≤ (k : Int) := by omega
      have y1 : (k : Int) < (n : Int) := by omega
      have d5 := HB.out.cell (i := k) hk
      have d6 := HB.out.free k
      generalize l.getD i 0 = z at cc ek ek2 g1 g2
      have HI1 : Hid (i + 1 ≤ nl) := hlt
      have hKT1 : K + 1 ≤ 40 := hKT
      have HBB := Lib.hid hB
      clear hB hlt hKT hin hK
      by_cases hb : k ∈ pl
      · rw [decide_eq_true hb] at d5
        clear hb
        go_wp2_with fail
        go_roundg (nl - (i + 1))
        case measure => have := HG.out; have := HI1.out; omega
        case rel => exact ⟨i + 1, K, pl, rfl, HI1.out, by go_num, by omega, HPl, HO, HB, HBB.out, hbs⟩
      · rw [decide_eq_false hb] at d5
        have HPl2 : Hid (K + 1 = (pl ++ [k]).length ∧ (pl ++ [k]).Nodup ∧ ∀ p ∈ pl ++ [k], p < n) := by
          obtain ⟨p1, p2, p3⟩ := HPl.out
          refine ⟨by rw [List.length_append, ← p1]; rfl, ?_, fun p hp => ?_⟩
          · rw [List.nodup_append]
            exact ⟨p2, by simp, fun x hx y hy => by rw [List.mem_singleton.1 hy]; rintro rfl; exact hb hx⟩
          · rcases List.mem_append.1 hp with h | h
            · exact p3 p h
            · rw [List.mem_singleton.1 h]; exact hk
        have HF5 : Hid (BF (wr.setCell ⟨w2.heap.size, k, none⟩ (.bool true)) w2.heap.size n (fun q => decide (q ∈ pl ++ [k])) ∧ Own64 (wr.setCell ⟨w2.heap.size, k, none⟩ (.bool true)) base (.slice va K vc) K (intsN pl) ∧ Below w2.heap.size w2 (wr.setCell ⟨w2.heap.size, k, none⟩ (.bool true)) ∧ base ≤ (wr.setCell ⟨w2.heap.size, k, none⟩ (.bool true)).heap.size) :=
          ⟨(HB.out.set k).of fun q _ => has_snoc pl k q, HO.out.set _ _ (by rw [HBs.out.1]; exact Nat.lt_succ_self _), HBB.out.setCell (Nat.le_refl _) _, by rw [(Only.setCell wr ⟨w2.heap.size, k, none⟩ (.bool true)).size]; exact hbs⟩
        clear HB HBB hb hbs HO HPl
        go_upto_region 15 with (fail)
        rw [ek2]
        generalize wr.setCell ⟨w2.heap.size, k, none⟩ (.bool true) = w5 at HF5 ⊢
        clear d5 d6 cc ek ek2 g1 g2
        obtain ⟨hBF, hOw, hBl, hbs5⟩ := HF5.out
        have HBF := Lib.hid (And.intro hBF hBl)
        have hlt5 := hBF.lt
        clear hBF hBl HF5
        go_wp2_with (at_builtin; refine wpList_append_own _ rfl _ _ 22 rfl base 3 i0 (.int .i64 0) 1 8 Tryd.underlying22 hi hz0 hz1 hz2 rfl (by decide) _ K _ rfl (World.ownsRow.alloc hOw _) ⟨w5.heap.size, 0, none⟩ 1 1 [.int .i64 (k : Int)] rfl rfl (cell_one_new _ _ _) (ints_oneCell .i64 [_]) (by unfold maxLen; omega) (by omega) (by simp; omega) ?_; intro v7 w7 hown7 hgrow _)
        have ho7 : Own64 w7 base v7 (K + 1) (intsN (pl ++ [k])) := by
          have e : intsN (pl ++ [k]) = intsN pl ++ [(k : Int)] := by simp [intsN]
          unfold Own64
          rw [e, ← cells64_append]
          exact hown7
        have b7 : Below base w5 w7 := ((Below.refl base w5).alloc hbs5 _).grown hgrow (by simp; omega) (fun g hg => (hOw.block g hg).1)
        have HN : Hid (Own64 w7 base v7 (K + 1) (intsN (pl ++ [k])) ∧ BF w7 w2.heap.size n (fun q => decide (q ∈ pl ++ [k])) ∧ Below w2.heap.size w2 w7 ∧ base ≤ w7.heap.size) := by
          refine ⟨ho7, (b7.block _ (by rw [HBs.out.1]; exact Nat.lt_succ_self _)).trans HBF.out.1, HBF.out.2.trans (b7.mono (by rw [HBs.out.1]; exact Nat.le_succ _)), Nat.le_trans hbs5 b7.size⟩
        clear hown7 hgrow hOw ho7 b7 hbs5 hlt5 HBF
        go_wp2_with fail
        go_roundg (nl - (i + 1))
        case measure => have := HG.out; have := HI1.out; omega
        case rel => exact ⟨i + 1, K + 1, pl ++ [k], rfl, HI1.out, by go_num, by omega, HPl2, HN.out.1, HN.out.2.1, HN.out.2.2.1, HN.out.2.2.2⟩
    · have u1 : (decide ((i : Int) < (nl : Int)) = false ∧ decide (i < nl) = false) ∨ ((i : Int) < (nl : Int) ∧ decide ((K : Int) < 40) = false ∧ decide (K < 40) = false) := by
        by_cases h : i < nl
        · exact .inr ⟨by omega, decide_eq_false (by omega), decide_eq_false (by omega)⟩
        · exact .inl ⟨decide_eq_false (by omega), decide_eq_false h⟩
      obtain ⟨r, F, B, hn, E⟩ := HF.out
      have rp : RowZ wr va K vc (intsN pl) := (own_rowz HO.out).1
      have HB3 : Hid (BF wr w2.heap.size n (fun q => decide (q ∈ pl)) ∧ w2.heap.size < wr.heap.size) := ⟨HB.out, by have := HB.out.lt; omega⟩
      replace F := F.below M.lo hB
      replace E := E.below hB
      replace B := B.trans (hB.mono B.size)
      have hof := Loc.of_any va K vc (intsN pl) wr F rp hK
      have HS := Lib.hid (And.intro F (And.intro E (And.intro B hn)))
      clear hgo hB hbs HB HO rp r F E B hn HF hin HG
      rcases u1 with ⟨u1, u2⟩ | ⟨u1, u2, u3⟩
      all_goals
        go_wp2_with fail
        refine hof.mono ?_
        rintro e w3 ⟨a3, n3, c3, rfl, N3, b⟩
        obtain ⟨F, E, B, hn⟩ := HS.out
        replace F := F.below M.lo b
        replace E := E.below b
        replace B := B.trans (b.mono B.size)
        have hX := (b.block _ HB3.out.2).trans HB3.out.1
        have hXl := Nat.lt_of_lt_of_le HB3.out.2 b.size
        have HT := Lib.hid (And.intro F (And.intro E (And.intro B (And.intro N3.pol hn))))
        have HX0 : Hid (BF w3 w2.heap.size n (fun q => decide (q ∈ pl)) ∧ w2.heap.size < w3.heap.size) := ⟨hX, hXl⟩
        have HO0 : Hid (Own64 w3 w3.heap.size (.slice none 0 0) 0 (intsN (hits (fun q => decide (q ∈ pl)) 0))) := Own64.nil w3 _
        clear F E B hX hXl hof b HS HB3 N3 hn
        go_wp2_with fail
        go_loopg [17, 18] (n0 + 1) (fun gh s17 s18 wx => ∃ j q : Nat, gh = n0 + 1 - j ∧ j ≤ n0 + 1 ∧ s18 = .int .i64 (j : Int) ∧ q ≤ j ∧ Hid (q = (hits (fun q => decide (q ∈ pl)) j).length) ∧ Hid (Own64 wx w3.heap.size s17 q (intsN (hits (fun q => decide (q ∈ pl)) j))) ∧ Below w3.heap.size w3 wx)
        case atStart => exact ⟨0, 0, rfl, Nat.zero_le _, rfl, Nat.le_refl _, rfl, HO0, Below.refl _ _⟩
        case round =>
          clear HO0
          obtain ⟨j, q, hg, hj, rfl, hqj, HQ, HO, hB⟩ := hrel
          have HG := Lib.hid hg
          clear hg
          obtain ⟨va', vc', hv⟩ := own_slice HO.out
          subst hv
          obtain ⟨W5, hW5⟩ : ∃ W5, W5 = wr := ⟨_, rfl⟩
          rw [← hW5] at HO hB ⊢
          clear hW5
          by_cases hlt : j < n0 + 1
          · have y0 : (j : Int) < (n0 : Int) + 1 := by omega
            have y1 : (0 : Int) ≤ (j : Int) := by omega
            have hjn : j < n := by omega
            have y2 : (j : Int) < (n : Int) := by omega
            have d5 := BF.cell ((hB.block _ HX0.out.2).trans HX0.out.1 : BF W5 w2.heap.size n (fun q => decide (q ∈ pl))) hjn
            have HI1 : Hid (j + 1 ≤ n0 + 1) := hlt
            have HBB := Lib.hid hB
            have hbs := hB.size
            have hOw := HO.out
            have HJ := Lib.hid hqj
            have hq16 : q ≤ 16383 := by omega
            clear hB hlt hj hqj
            by_cases hb : j ∈ pl
            · rw [decide_eq_true hb] at d5
              have hsn : intsN (hits (fun q => decide (q ∈ pl)) (j + 1)) = intsN (hits (fun q => decide (q ∈ pl)) j) ++ [(j : Int)] := hits_at_snoc (decide_eq_true hb)
              have HSN := Lib.hid hsn
              have HQ2 : Hid (q + 1 = (hits (fun q => decide (q ∈ pl)) (j + 1)).length) := by
                show _ = _
                rw [hits_succ, if_pos (decide_eq_true hb), List.length_append, ← HQ.out]; rfl
              clear hb hsn
              go_wp2_with (at_builtin; refine wpList_append_own _ rfl _ _ 22 rfl w3.heap.size 3 i0 (.int .i64 0) 1 8 Tryd.underlying22 hi hz0 hz1 hz2 rfl (by decide) _ q _ rfl (World.ownsRow.alloc hOw _) ⟨W5.heap.size, 0, none⟩ 1 1 [.int .i64 (j : Int)] rfl rfl (cell_one_new _ _ _) (ints_oneCell .i64 [_]) (by unfold maxLen; omega) (by omega) (by simp; omega) ?_; intro v7 w7 hown7 hgrow _)
              have ho7 : Own64 w7 w3.heap.size v7 (q + 1) (intsN (hits (fun q => decide (q ∈ pl)) (j + 1))) := by
                unfold Own64
                rw [HSN.out, ← cells64_append]
                exact hown7
              have b7 : Below w3.heap.size W5 w7 := ((Below.refl w3.heap.size W5).alloc hbs _).grown hgrow (by simp; omega) (fun g hg => (hOw.block g hg).1)
              have HN := Lib.hid (And.intro ho7 (HBB.out.trans b7))
              clear hown7 hgrow hOw ho7 b7 hbs d5 HO
              go_wp2_with fail
              go_roundg (n0 + 1 - (j + 1))
              case measure => have := HG.out; have := HI1.out; omega
              case rel => exact ⟨j + 1, q + 1, rfl, HI1.out, by go_num, by have := HJ.out; omega, HQ2, HN.out.1, HN.out.2⟩
            · rw [decide_eq_false hb] at d5
              have hsn : hits (fun q => decide (q ∈ pl)) (j + 1) = hits (fun q => decide (q ∈ pl)) j := hits_at_same (decide_eq_false hb)
              have HSN := Lib.hid hsn
              clear hb hsn hOw
              go_wp2_with fail
              go_roundg (n0 + 1 - (j + 1))
              case measure => have := HG.out; have := HI1.out; omega
              case rel => exact ⟨j + 1, q, rfl, HI1.out, by go_num, by have := HJ.out; omega, by rw [HSN.out]; exact HQ, by rw [HSN.out]; exact HO, HBB.out⟩
          · obtain rfl : j = n0 + 1 := by omega
            obtain ⟨F, E, B, P, hn⟩ := HT.out
            replace F := F.below M.lo hB
            replace E := E.below hB
            replace B := B.trans (hB.mono B.size)
            replace P := P.below hB
            have rw' := (own_rowz HO.out).1
            have hlim : lim m ((n0 : Int) + 1) = n0 + 1 := by unfold lim; rw [← hn]; omega
            have hsame : hits (zAt (lamZ m (intsN pl)) (K + 1)) (n0 + 1) = hits (fun q => decide (q ∈ pl)) (n0 + 1) := hits_same fun q hq => lam_at (by rw [← hn]; exact HPl.out.2.2) (by rw [HPl.out.1]; exact Nat.le_refl _) (by rw [← hn]; omega)
            have hs1 := searchZ ((n0 : Int) + 1) W5 F P (by omega) E
            rw [hlim, hsame, ← HQ.out] at hs1
            have HS := Lib.hid (And.intro F (And.intro E (And.intro B (And.intro P rw'))))
            have HH := Lib.hid (And.intro hlim hsame)
            clear F E B P rw' hlim hsame HT HO hB HG hlt hj hn
            go_wp2_with fail
            refine hs1.mono ?_
            rintro e w6 ⟨a6, c6, rfl, R6, b⟩
            obtain ⟨F, E, B, P, RW⟩ := HS.out
            replace F := F.below M.lo b
            replace E := E.below b
            replace B := B.trans (b.mono B.size)
            replace P := P.below b
            replace RW := RW.below b
            clear b hs1 HS
            go_wp2_with fail
            refine (sameOk R6 RW rfl).mono ?_
            rintro e w7 ⟨rfl, d⟩
            have b := d.below w6.heap.size
            replace F := F.below M.lo b
            replace E := E.below b
            replace B := B.trans (b.mono B.size)
            replace P := P.below b
            replace RW := RW.below b
            clear b d R6
            have hs2 := plainZ ((n0 : Int) + 1) w7 F P (by omega) E
            rw [HH.out.1, HH.out.2, ← HQ.out] at hs2
            go_wp2_with fail
            refine hs2.mono ?_
            rintro e w8 ⟨a8, c8, rfl, R8, b⟩
            replace B := B.trans (b.mono B.size)
            replace RW := RW.below b
            clear b hs2 F E P
            go_wp2_with fail
            refine (sameOk R8 RW rfl).mono ?_
            rintro e w9 ⟨rfl, d⟩
            replace B := B.trans (d.below _)
            clear d R8 RW
            go_wp2_with fail
            go_ret
            exact ⟨rfl, B⟩
theorem walk (x0 : Int) (a1 : Option Addr) (len1 cap1 : Nat) (z1 : List Int) (x2 : Int) (W : World) (w0 : (Lit.int .i64 x0).wf = true) (w1 : IsRow .i64 W a1 len1 cap1 z1) (w2 : (Lit.int .i64 x2).wf = true) (h : LaidSearchFinds.Holds W) :
    Calls Tryd.prog 4 #[.int .i64 x0, .slice a1 len1 cap1, .int .i64 x2] W fun e w' => e = .returned (.bool true) ∧ Below W.heap.size W w' := by
  obtain ⟨f, ⟨E0, E1, E2⟩, _⟩ := h
  exact core x0 a1 len1 cap1 _ x2 W E1 (row_rowz w1)
end Go.Proofs.YtbgegnoenceflaaDoor.walkSearchFinds
