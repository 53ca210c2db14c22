/- The walk over SearchTurns. By the verifier of shale. -/
import Derived.Test.YtbgegnoenceflaaDoorGreat1
import Derived.Test.YtbgegnoenceflaaDoorGreat2
import Derived.Test.YtbgegnoenceflaaDoorLaidSearchTurns
import Derived.Deep.Cut
namespace Go.Proofs.YtbgegnoenceflaaDoor.walkSearchTurns
open Go Go.RowKit Fld Bits16 Pl Loc Sea
set_option linter.unusedVariables false
section
variable {m : Nat} [M : Mid m]
/-- numbers of a series. -/
def fs (p : Ser (El m)) : Nat → Int := fun i => zn (p i)
theorem fs_sr (p : Ser (El m)) (N i : Nat) (hi : i < N) : p i = sr m (upN (fs p) N N) i := by
  show p i = elm m ((upN (fs p) N N).getD i 0)
  rw [List.getD_eq_getElem?_getD, List.getElem?_eq_getElem (by rw [upN_length]; exact hi)]
  simp only [upN, List.getElem_map, List.getElem_range, Option.getD_some]
  rw [if_pos hi]
  exact (elm_zn _).symm
theorem sr_up {p : Ser (El m)} {n : Nat} (h : Bd p n) : sr m (upN (fs p) n n) = p := funext fun i => by
  by_cases hi : i < n
  · exact (fs_sr p n i hi).symm
  · rw [h i (by omega)]
    show elm m ((upN (fs p) n n).getD i 0) = 0
    rw [List.getD_eq_getElem?_getD, List.getElem?_eq_none (by rw [upN_length]; omega)]
    exact elm_zero
end
theorem turn_lo (v b n : Nat) (hv : v < n) (hb : b < n) : ((v : Int) - (b : Int)).tmod (n : Int) = (v : Int) - (b : Int) := by
  rcases Nat.le_total b v with h | h
  · exact Int.tmod_eq_of_lt (by omega) (by omega)
  · rw [show (v : Int) - (b : Int) = -((b : Int) - (v : Int)) by omega, Int.neg_tmod, Int.tmod_eq_of_lt (by omega) (by omega)]
set_option maxHeartbeats 1000000 in
theorem long (x0 : Int) (a1 : Option Addr) (n1 c1 : Nat) (x2 : Int) (w : World) {y : Addr} (E : ErrAt w 2 y) (h : 60 < n1) :
    Calls Tryd.prog 6 #[.int .i64 x0, .slice a1 n1 c1, .int .i64 x2] w fun e w' => e = .returned (.bool true) ∧ Below w.heap.size w w' := by
  have t1 : decide ((60 : Int) < (n1 : Int)) = true := decide_eq_true (by omega)
  clear h
  go_enter Tryd.func6, Tryd.ntmps6
  go_wp2_with fail
  refine (first_any w E).mono ?_
  rintro e w1 ⟨rfl, B⟩
  go_wp2_with fail
  refine (made_any x0 w1).mono ?_
  rintro e w2 ⟨s, be, ce, bl, rfl, F, b⟩
  replace B := B.trans (b.mono B.size)
  clear b
  go_wp2_with fail
  go_ret
  exact ⟨rfl, B⟩
set_option maxRecDepth 100000 in
set_option maxHeartbeats 4000000 in
theorem core (x0 : Int) (a1 : Option Addr) (n1 c1 : Nat) (l : List Int) (x2 : Int) (w : World) {y : Addr} (E : ErrAt w 2 y) (P1 : RowZ w a1 n1 c1 l) (k1 : n1 ≤ 60) :
    Calls Tryd.prog 6 #[.int .i64 x0, .slice a1 n1 c1, .int .i64 x2] w fun e w' => e = .returned (.bool true) ∧ Below w.heap.size w w' := by
  have t1 : decide ((60 : Int) < (n1 : Int)) = false := decide_eq_false (by omega)
  go_enter Tryd.func6, Tryd.ntmps6
  go_wp2_with fail
  refine (first_any w E).mono ?_
  rintro e w1 ⟨rfl, B⟩
  replace P1 := P1.below B
  replace E := E.below B
  go_wp2_with fail
  refine (made_any x0 w1).mono ?_
  rintro e w2 ⟨s, be, ce, bl, rfl, F, b⟩
  replace P1 := P1.below b
  replace E := E.below b
  replace B := B.trans (b.mono B.size)
  clear b
  obtain ⟨m, hm⟩ : ∃ m, m = mk9 x0 := ⟨_, rfl⟩
  haveI M : Mid m := by rw [hm]; infer_instance
  have hm14 : (m : Int) ≤ 14 := by have := M.hi; omega
  have hm0 : (0 : Int) ≤ (m : Int) := by omega
  rw [← hm] at F ⊢
  clear hm
  obtain ⟨n, hn⟩ : ∃ n, n = size m := ⟨_, rfl⟩
  have hn1 := size_lo m M.lo
  have hn2 := size_hi m M.hi
  rw [← hn] at hn1 hn2
  have ho := shl_one m M.hi
  have eo : (els m : Int) - 1 = (n : Int) := by rw [els_eq, hn]; omega
  obtain ⟨by', hby, eby⟩ := rem_in x2 n (by omega)
  have eby2 : (x2.tmod (n : Int) + (n : Int)) % (n : Int) = (by' : Int) := by rw [Int.add_emod_right]; exact eby
  obtain ⟨g1, g2⟩ := rem_lo x2 n (by omega)
  have g3 : ¬ ((n : Int) = 0) := by omega
  have g4 : (((n : Nat) : Int) == 0) = false := by simp; omega
  have hmk := fun w => made64 w n1 (by omega)
  have hb1 : Below w2.heap.size w2 (w2.alloc (obj64 (List.replicate n1 0))) := (Below.refl _ _).alloc (Nat.le_refl _) _
  have hk1 : Blk64 (w2.alloc (obj64 (List.replicate n1 0))) w2.heap.size (upN (fs (tw (exK m (by' : Int)) (sr m l))) n1 0) := by
    rw [← upN_zero]; exact Blk64.new w2 _
  have H0 := Lib.hid (And.intro hk1 hb1)
  have HF := Lib.hid (And.intro P1 (And.intro F (And.intro E (And.intro B hn))))
  clear hk1 hb1 P1 F E B hn
  go_wp2_with fail
  rw [eby2]
  clear hmk ho eo eby eby2 g1 g2
  go_loopg [12] n1 (fun gh s12 wx => ∃ k : Nat, gh = n1 - k ∧ k ≤ n1 ∧ s12 = .int .i64 (k : Int) ∧ Blk64 wx w2.heap.size (upN (fs (tw (exK m (by' : Int)) (sr m l))) n1 k) ∧ Below w2.heap.size w2 wx)
  case atStart => exact ⟨0, rfl, Nat.zero_le _, rfl, H0.out.1, H0.out.2⟩
  case round =>
    clear H0
    obtain ⟨k, hg, hk, rfl, hX, hB⟩ := hrel
    have HG := Lib.hid hg
    clear hg
    by_cases hlt : k < n1
    · have y0 : (k : Int) < (n1 : Int) := by omega
      have y1 : (0 : Int) ≤ (k : Int) := by omega
      obtain ⟨bb, off, rfl, cc, hbb⟩ := (HF.out.1.below hB).row k hlt
      have hv := hX.cell (i := k) (by rw [upN_length]; exact hlt)
      have fr := hX.free k
      rw [upN_at _ _ _ _ hlt (Nat.le_refl _)] at hv
      have hbk : by' * k ≤ 16383 * 60 := Nat.mul_le_mul (by omega) (by omega)
      obtain ⟨bk, hbk2⟩ : ∃ bk, bk = by' * k := ⟨_, rfl⟩
      have m1 : IntKind.i64.wrap ((by' : Int) * (k : Int)) = (bk : Int) := by
        rw [hbk2, Int.natCast_mul]
        exact IntWalk.i64_in _ (by rw [← Int.natCast_mul]; omega)
      have HE : Hid (∀ nn, Calls Tryd.prog 20 #[.pointer (some ⟨s, 0, none⟩), .int .i64 (bk : Int)] (wr.drewN nn) fun e w' => e = .returned (.int .i64 (zn (pwK (exK m (by' : Int)) k))) ∧ wr.drewN nn = w') := fun nn => by
        have h1 := fexp_any M.lo M.hi (bk : Int) (wr.drewN nn) ((HF.out.2.1.below M.lo hB).drawn M.lo (Drawn.mk wr nn))
        rw [exK_pow, ← Int.natCast_mul, ← hbk2]
        exact h1
      have HM : Hid (∀ nn, Calls Tryd.prog 19 #[.pointer (some ⟨s, 0, none⟩), .int .i64 (l.getD k 0), .int .i64 (zn (pwK (exK m (by' : Int)) k))] (wr.drewN nn) fun e w' => e = .returned (.int .i64 (fs (tw (exK m (by' : Int)) (sr m l)) k)) ∧ Drawn (wr.drewN nn) w') := fun nn => by
        have h1 := mul_any M.lo M.hi (l.getD k 0) (zn (pwK (exK m (by' : Int)) k)) (wr.drewN nn) ((HF.out.2.1.below M.lo hB).drawn M.lo (Drawn.mk wr nn))
        have e1 : h (fmul m (el m (l.getD k 0)) (el m (zn (pwK (exK m (by' : Int)) k)))) = fs (tw (exK m (by' : Int)) (sr m l)) k := by
          show zn (elm m (l.getD k 0) * elm m (zn (pwK (exK m (by' : Int)) k))) = zn (sr m l k * pwK (exK m (by' : Int)) k)
          rw [elm_zn]; rfl
        rw [e1] at h1
        exact h1
      have HN : Hid (∀ nq, Blk64 ((wr.drewN nq).setCell ⟨w2.heap.size, k, none⟩ (.int .i64 (fs (tw (exK m (by' : Int)) (sr m l)) k))) w2.heap.size (upN (fs (tw (exK m (by' : Int)) (sr m l))) n1 (k + 1)) ∧ Below w2.heap.size w2 ((wr.drewN nq).setCell ⟨w2.heap.size, k, none⟩ (.int .i64 (fs (tw (exK m (by' : Int)) (sr m l)) k)))) := fun nq => by
        have hX2 : Blk64 (wr.drewN nq) w2.heap.size (upN (fs (tw (exK m (by' : Int)) (sr m l))) n1 k) := hX
        have h1 := hX2.set k (fs (tw (exK m (by' : Int)) (sr m l)) k)
        rw [upN_set] at h1
        exact ⟨h1, (hB.trans ((Drawn.mk wr nq).below _)).setCell (Nat.le_refl _) _⟩
      clear hX hB hbk hbk2 hbb
      generalize fs (tw (exK m (by' : Int)) (sr m l)) k = v2 at HM HN
      generalize zn (pwK (exK m (by' : Int)) k) = v1 at HE HM
      generalize l.getD k 0 = u at cc HM
      go_wp2_with fail

      refine wp_region_quiet_tail (C := fun w' => ∃ nn, w' = wr.drewN nn) 13 (by kernel_rfl) (by kernel_rfl) ⟨1, rfl⟩ ?_
      simp only [List.take_succ_cons, List.take_zero, List.drop_succ_cons, List.drop_zero]
      repeat (go_big_quiet_step (first | (go_at_call 19; exact quiet_drawn (HM.out _)) | (go_at_call 20; exact quiet_same (HE.out _))))
      refine wpQuiet_nil ?_
      rintro _ ⟨nq, rfl⟩
      have HN2 := Lib.hid (HN.out nq)
      have hv2 : (wr.drewN nq).cell? ⟨w2.heap.size, k, none⟩ = some (.int .i64 0) := hv
      have fr2 : (wr.drewN nq).frozen? ⟨w2.heap.size, k, none⟩ = false := fr
      clear HM HE HN hv fr cc m1
      generalize wr.drewN nq = w6 at HN2 hv2 fr2 ⊢
      go_wp2_with fail
      go_roundg (n1 - (k + 1))
      case measure => have := HG.out; omega
      case rel => exact ⟨k + 1, rfl, hlt, by go_num, HN2.out.1, HN2.out.2⟩
    · obtain rfl : k = n1 := by omega
      obtain ⟨P1, F, E, B, hn⟩ := HF.out
      replace F := F.below M.lo hB
      replace B := B.trans (hB.mono B.size)
      replace E := E.below hB
      have Q1 := (P1.below hB).pv (m := m) (sr m l) rfl k (Nat.le_refl _)
      have rx := Blk64.rowz hX (by rw [upN_length]; omega)
      rw [upN_length] at rx
      have Q2 := rx.pv (m := m) (tw (exK m (by' : Int)) (sr m l)) (sr_up (tw_bd Q1.bdn)) k (Nat.le_refl _)
      have Hn := Lib.hid hn
      have HQ := Lib.hid (And.intro Q2 E)
      have lm : lim m (n : Int) = n := by unfold lim; rw [hn]; omega
      obtain ⟨LA, hLA⟩ : ∃ LA, LA = hits (zAt (sr m l) k) n := ⟨_, rfl⟩
      obtain ⟨LB, hLB⟩ : ∃ LB, LB = hits (zAt (tw (exK m (by' : Int)) (sr m l)) k) n := ⟨_, rfl⟩
      have ha := searchZ (n : Int) wr F Q1 (by omega) E
      rw [lm, ← hLA] at ha
      have HL := Lib.hid (And.intro hLA hLB)
      clear HF HG hlt hk P1 hX hB rx Q2 E hn
      go_wp2_with fail
      refine ha.mono ?_
      rintro e w3 ⟨a3, c3, rfl, RA, b⟩
      obtain ⟨Q2, E⟩ := HQ.out
      replace F := F.below M.lo b
      replace B := B.trans (b.mono B.size)
      replace E := E.below b
      replace Q2 := Q2.below b
      clear b HQ ha Q1
      have hb := searchZ (n : Int) w3 F Q2 (by omega) E
      rw [lm, ← hLB] at hb
      clear hLA hLB
      go_wp2_with fail
      refine hb.mono ?_
      rintro e w4 ⟨a4, c4, rfl, RB, b⟩
      replace F := F.below M.lo b
      replace B := B.trans (b.mono B.size)
      replace E := E.below b
      replace Q2 := Q2.below b
      replace RA := RA.below b
      clear b hb
      have hmk := fun w => madeB w n (by omega)
      have H0 : Hid (BF (w4.alloc (objB (List.replicate n false))) w4.heap.size n (fun q => decide (q ∈ LA.take 0)) ∧ Below w4.heap.size w4 (w4.alloc (objB (List.replicate n false)))) :=
        ⟨(BF.new w4 n).of fun i _ => by simp, (Below.refl _ _).alloc (Nat.le_refl _) _⟩
      obtain ⟨na, hna⟩ : ∃ na, na = LA.length := ⟨_, rfl⟩
      obtain ⟨nb, hnb⟩ : ∃ nb, nb = LB.length := ⟨_, rfl⟩
      have Hlen : Hid (na = LA.length ∧ nb = LB.length) := ⟨hna, hnb⟩
      rw [← hna] at RA ⊢
      rw [← hnb] at RB ⊢
      have HH := Lib.hid (And.intro F (And.intro B (And.intro E (And.intro Q2 (And.intro RA RB)))))
      clear F B E Q2 RA RB hna hnb
      go_wp2_with fail
      clear hmk
      go_loopg [16] na (fun gh s16 wx => ∃ i : Nat, gh = na - i ∧ i ≤ na ∧ s16 = .int .i64 (i : Int) ∧ BF wx w4.heap.size n (fun q => decide (q ∈ LA.take i)) ∧ Below w4.heap.size w4 wx)
      case atStart => exact ⟨0, rfl, Nat.zero_le _, rfl, H0.out.1, H0.out.2⟩
      case round =>
        clear H0
        obtain ⟨i, hg, hin, rfl, hX, hB⟩ := hrel
        have HG := Lib.hid hg
        clear hg
        by_cases hlt : i < na
        · have y0 : (i : Int) < (na : Int) := by omega
          have y1 : (0 : Int) ≤ (i : Int) := by omega
          obtain ⟨bb, off, ea, cc, _⟩ := (HH.out.2.2.2.2.1.below hB).row i hlt
          subst ea
          have hil : i < LA.length := by rw [← Hlen.out.1]; exact hlt
          have hat := hits_at (f := zAt (sr m l) k) (n := n) (i := i) (by rw [← HL.out.1]; exact hil)
          rw [← HL.out.1] at hat
          have hv := intsN_at LA i hil
          unfold nth64 at hv
          rw [hv] at cc
          have htk : LA.take (i + 1) = LA.take i ++ [LA.getD i 0] := by
            rw [List.take_add_one, List.getElem?_eq_getElem hil, List.getD_eq_getElem?_getD, List.getElem?_eq_getElem hil]; rfl
          obtain ⟨v, hvv⟩ : ∃ v, v = LA.getD i 0 := ⟨_, rfl⟩
          rw [← hvv] at cc hat htk
          have hvn := hat.1
          have u3 : (0 : Int) ≤ (v : Int) := by omega
          have u4 : (v : Int) < (n : Int) := by omega
          have d5 := hX.cell (i := v) hvn
          have d6 := hX.free v
          have HN : Hid (BF (wr.setCell ⟨w4.heap.size, v, none⟩ (.bool true)) w4.heap.size n (fun q => decide (q ∈ LA.take (i + 1))) ∧ Below w4.heap.size w4 (wr.setCell ⟨w4.heap.size, v, none⟩ (.bool true))) := by
            refine ⟨(hX.set v).of fun q _ => ?_, hB.setCell (Nat.le_refl _) _⟩
            rw [htk, Bool.eq_iff_iff]; simp
          have HI1 : Hid (i + 1 ≤ na) := hlt
          have hna : na ≤ n := by
            rw [Hlen.out.1, HL.out.1]; exact hits_len _ _
          clear hX hB hat hv htk hil hvv hin hlt
          go_wp2_with fail
          go_roundg (na - (i + 1))
          case measure => have := HG.out; have := HI1.out; omega
          case rel => exact ⟨i + 1, rfl, HI1.out, by have := HI1.out; go_num, HN.out.1, HN.out.2⟩
        · obtain rfl : i = na := by omega
          have hall : LA.take i = LA := by rw [Hlen.out.1]; exact List.take_length
          rw [hall] at hX
          have H1 := Lib.hid (And.intro hX hB)
          clear hX hB hall HG hlt hin
          obtain ⟨r, hr⟩ : ∃ r, n = by' + r := ⟨n - by', by omega⟩
          have hab : nb = i := by
            rw [Hlen.out.1, Hlen.out.2, HL.out.1, HL.out.2, hr]
            exact hits_turn fun q _ => zAt_turn _ _ _ _ _ (by rw [← Hn.out, hr])
          have Hr := Lib.hid hr
          clear hr
          go_wp2_with fail
          go_loopg [17, 18] nb (fun gh s17 s18 wx => ∃ q : Nat, gh = nb - q ∧ q ≤ nb ∧ s17 = .int .i64 (q : Int) ∧ BF wx w4.heap.size n (fun q => decide (q ∈ LA)) ∧ Below w4.heap.size w4 wx)
          case atStart => exact ⟨0, rfl, Nat.zero_le _, rfl, H1.out.1, H1.out.2⟩
          case round =>
            clear H1
            obtain ⟨q, hg, hqn, rfl, hX, hB⟩ := hrel
            have HG := Lib.hid hg
            clear hg
            by_cases hlt : q < nb
            · have y0 : (q : Int) < (nb : Int) := by omega
              have y1 : (0 : Int) ≤ (q : Int) := by omega
              obtain ⟨bb, off, ea, cc, _⟩ := (HH.out.2.2.2.2.2.below hB).row q hlt
              subst ea
              have hil : q < LB.length := by rw [← Hlen.out.2]; exact hlt
              have hat := hits_at (f := zAt (tw (exK m (by' : Int)) (sr m l)) k) (n := n) (i := q) (by rw [← HL.out.2]; exact hil)
              rw [← HL.out.2] at hat
              have hv := intsN_at LB q hil
              unfold nth64 at hv
              rw [hv] at cc
              obtain ⟨v, hvv⟩ : ∃ v, v = LB.getD q 0 := ⟨_, rfl⟩
              rw [← hvv] at cc hat
              have hvn := hat.1
              obtain ⟨xx, hxx⟩ : ∃ xx, xx = (v + r) % (by' + r) := ⟨_, rfl⟩
              have hxn : xx < n := by rw [hxx]; have := Hr.out; rw [← this]; exact Nat.mod_lt _ (by omega)
              have hmem : xx ∈ LA := by
                rw [HL.out.1, hits_mem]
                refine ⟨hxn, ?_⟩
                rw [hxx, ← zAt_turn _ _ _ _ _ (by rw [← Hn.out]; exact Hr.out)]
                exact hat.2
              have f1 : ((v : Int) - (by' : Int)).tmod (n : Int) = (v : Int) - (by' : Int) := turn_lo v by' n (by omega) hby
              have f2 : ((v : Int) - (by' : Int) + (n : Int)) % (n : Int) = (xx : Int) := by
                rw [hxx, ← Hr.out, show (v : Int) - (by' : Int) + (n : Int) = ((v + r : Nat) : Int) by have := Hr.out; omega, Int.natCast_emod]
              have u3 : (0 : Int) ≤ (xx : Int) := by omega
              have u4 : (xx : Int) < (n : Int) := by omega
              have d5 := hX.cell (i := xx) hxn
              rw [decide_eq_true hmem] at d5
              have HI1 : Hid (q + 1 ≤ nb) := hlt
              have HN := Lib.hid (And.intro hX hB)
              have hna : nb ≤ n := by
                rw [Hlen.out.2, HL.out.2]; exact hits_len _ _
              clear hX hB hat hv hil hvv hqn hlt hmem hxx
              go_wp2_with fail
              go_roundg (nb - (q + 1))
              case measure => have := HG.out; have := HI1.out; omega
              case rel => exact ⟨q + 1, rfl, HI1.out, by have := HI1.out; go_num, HN.out.1, HN.out.2⟩
            · obtain rfl : q = nb := by omega
              obtain ⟨F, B, E, Q2, RA, RB⟩ := HH.out
              replace F := F.below M.lo hB
              replace B := B.trans (hB.mono B.size)
              replace E := E.below hB
              replace Q2 := Q2.below hB
              replace RB := RB.below hB
              subst hab
              have hp := plainZ (n : Int) wr F Q2 (by omega) E
              rw [lm, ← HL.out.2] at hp
              have HB2 := Lib.hid (And.intro RB B)
              clear HG hlt hqn hX hB F E Q2 RA RB B HH
              go_wp2_with fail
              refine hp.mono ?_
              rintro e w7 ⟨a7, c7, rfl, R7, b⟩
              have RB := HB2.out.1.below b
              have B := HB2.out.2.trans (b.mono HB2.out.2.size)
              clear hp b HB2
              go_wp2_with fail
              refine (sameOk R7 RB rfl).mono ?_
              rintro e w8 ⟨rfl, d⟩
              replace B := B.trans (d.below _)
              clear R7 RB d
              go_wp2_with fail
              go_ret
              exact ⟨rfl, B⟩
theorem walk (x0 : Int) (a1 : Option Addr) (len1 cap1 : Nat) (z1 : List Int) (x2 : Int) (W : World) (w0 : (Lit.int .i64 x0).wf = true) (w1 : IsRow .i64 W a1 len1 cap1 z1) (w2 : (Lit.int .i64 x2).wf = true) (h : LaidSearchTurns.Holds W) :
    Calls Tryd.prog 6 #[.int .i64 x0, .slice a1 len1 cap1, .int .i64 x2] W fun e w' => e = .returned (.bool true) ∧ Below W.heap.size W w' := by
  obtain ⟨f, ⟨E0, E1⟩, _⟩ := h
  by_cases k1 : len1 ≤ 60
  · exact core x0 a1 len1 cap1 _ x2 W E1 (row_rowz w1) k1
  · exact long x0 a1 len1 cap1 x2 W E1 (by omega)
end Go.Proofs.YtbgegnoenceflaaDoor.walkSearchTurns
