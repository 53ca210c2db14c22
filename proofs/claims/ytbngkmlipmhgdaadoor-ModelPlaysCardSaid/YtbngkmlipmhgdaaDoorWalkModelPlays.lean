/- The walk over ModelPlays. By the verifier of shale. -/
import Derived.Test.YtbngkmlipmhgdaaDoorMoR21
import Derived.Test.YtbngkmlipmhgdaaDoorMoR41
import Derived.Test.YtbngkmlipmhgdaaDoorMoR45
import Derived.Test.YtbngkmlipmhgdaaDoorMoR43y
import Derived.Test.YtbngkmlipmhgdaaDoorMoR43n
import Derived.Test.YtbngkmlipmhgdaaDoorMoR34
import Derived.Test.YtbngkmlipmhgdaaDoorMoR48
import Derived.Test.YtbngkmlipmhgdaaDoorMoR59
import Derived.Test.YtbngkmlipmhgdaaDoorMoR61
import Derived.Test.YtbngkmlipmhgdaaDoorMoR67
import Derived.Test.YtbngkmlipmhgdaaDoorGreat1
import Derived.Test.YtbngkmlipmhgdaaDoorGreat2
import Derived.Test.YtbngkmlipmhgdaaDoorGreat3
import Derived.Test.YtbngkmlipmhgdaaDoorGreat4
import Derived.Test.YtbngkmlipmhgdaaDoorLaidModelPlays
import Derived.Deep.Cut
import Derived.Deep.CutRange
import Derived.Deep.CutBlock
import Derived.Deep.RegionHeld3
import Derived.Lib.QuietBelow
import Derived.RangeFuncCalls
namespace Go.Proofs.YtbngkmlipmhgdaaDoor.walkModelPlays
open Go Go.RowKit Bin Mo
set_option linter.unusedVariables false
set_option linter.unusedSimpArgs false
attribute [local go_sem] Oper.semAt_some
/-- the models behind so many things told. -/
def St (base : Nat) (w0 : World) (sb rb xv mo xb n sz k : Nat) (x5 : Int) (wx : World) : Prop :=
  (∃ T L bl dl, PM base w0 [rb, sb, xv] wx mo xb n sz T L T L bl dl k) ∧ wx.heap[sb]? = some (.cells #[.int .i64 x5] 3 (0, 0)) ∧ wx.heap[rb]? = some (.cells #[.bool false] 4 (0, 0)) ∧ wx.heap[xv]? = some (.cells #[.pointer (some ⟨xb, 0, none⟩)] 29 (0, 0))
/-- within a round: both models, and the call's own blocks. -/
def SX (base : Nat) (w0 : World) (sb rb xv eb mb mo xb n sz k : Nat) (x5 key : Int) (tr : Bool) (da : Option Addr) (dn dc : Nat) (T : Nat → Bs) (M L : List (Nat × Bs)) (wx : World) : Prop :=
  (∃ bl dl, PM base w0 [mb, eb, rb, sb, xv] wx mo xb n sz T M T L bl dl k) ∧ wx.heap[sb]? = some (.cells #[.int .i64 x5] 3 (0, 0)) ∧ wx.heap[rb]? = some (.cells #[.bool false] 4 (0, 0)) ∧ wx.heap[xv]? = some (.cells #[.pointer (some ⟨xb, 0, none⟩)] 29 (0, 0)) ∧ wx.heap[eb]? = some (.cells #[.int .i64 key, .bool tr, .slice da dn dc] 33 (0, 0)) ∧ ∃ cs, wx.heap[mb]? = some (.cells cs 5 (0, 0)) ∧ cs.size = dn
theorem SX.put {base : Nat} {w0 : World} {sb rb xv eb mb mo xb n sz k : Nat} {x5 key : Int} {tr : Bool} {da : Option Addr} {dn dc : Nat} {T : Nat → Bs} {M L : List (Nat × Bs)} {wx : World} (h : SX base w0 sb rb xv eb mb mo xb n sz k x5 key tr da dn dc T M L wx) {j : Nat} (hj : j < dn) (hne : mb ≠ eb ∧ mb ≠ rb ∧ mb ≠ sb ∧ mb ≠ xv) :
    ∃ v, wx.cell? ⟨mb, j, none⟩ = some v ∧ wx.frozen? ⟨mb, j, none⟩ = false ∧ SX base w0 sb rb xv eb mb mo xb n sz k x5 key tr da dn dc T M L (wx.setCell ⟨mb, j, none⟩ (.int .u8 238)) := by
  obtain ⟨⟨bl, dl, P⟩, k1, k2, k3, k4, cs, k5, k6⟩ := h
  have o := Only.setCell wx ⟨mb, j, none⟩ (.int .u8 238)
  refine ⟨cs[j]'(by omega), by rw [cell_of_row wx mb j cs _ (0, 0) k5]; exact Array.getElem?_eq_getElem _, by unfold World.frozen?; simp only; rw [k5]; rfl, ⟨bl, dl, P.own (q := mb) (by simp) o⟩, (o.block sb (Ne.symm hne.2.2.1)).trans k1, (o.block rb (Ne.symm hne.2.1)).trans k2, (o.block xv (Ne.symm hne.2.2.2)).trans k3, (o.block eb (Ne.symm hne.1)).trans k4, _, heap_setCell_same wx mb j _ _ _ k5, by simp [k6]⟩
/-- behind the switch. -/
def SY (base : Nat) (w0 : World) (sb rb xv eb mb mo xb n sz k : Nat) (x5 : Int) (T : Nat → Bs) (wx : World) : Prop :=
  (∃ M bl dl, PM base w0 [mb, eb, rb, sb, xv] wx mo xb n sz T M T M bl dl k) ∧ wx.heap[sb]? = some (.cells #[.int .i64 x5] 3 (0, 0)) ∧ wx.heap[rb]? = some (.cells #[.bool false] 4 (0, 0)) ∧ wx.heap[xv]? = some (.cells #[.pointer (some ⟨xb, 0, none⟩)] 29 (0, 0))
set_option maxRecDepth 100000 in
set_option maxHeartbeats 4000000 in
theorem core (s z : Int) (a : Option Addr) (n c : Nat) (D : Nat → MdV) (x3 x4 x5 : Int) (w : World) (f : Nat → Addr) (EN : ErrAt w 1 (f 0)) (EG : ErrAt w 0 (f 1)) (ES : ErrAt w 2 (f 2)) (R : RowMd w a n D) :
    Calls Tryd.prog 3 #[.int .i64 s, .int .i64 z, .slice a n c, .int .i64 x3, .int .i64 x4, .int .i64 x5] w fun e w' => e = .returned (.bool true) ∧ Below w.heap.size w w' := by
  obtain ⟨base, hbase⟩ : ∃ base, base = w.heap.size := ⟨_, rfl⟩
  have HBS := Lib.hid hbase
  have HE : Hid (∀ W, Below base w W → ErrAt W 1 (f 0) ∧ ErrAt W 0 (f 1) ∧ ErrAt W 2 (f 2)) := fun W b => by rw [hbase] at b; exact ⟨EN.below b, EG.below b, ES.below b⟩
  obtain ⟨dl, hdl⟩ := mdOK R
  rw [← hbase] at hdl
  have HR := Lib.hid hdl
  rw [← hbase]
  clear EN EG ES R hbase hdl
  refine (callsIn_wide (n := 3)).1 ?_
  refine callsIn_of_wp_marks Tryd.func3 rfl trivial ?_ rfl
  simp only [Tryd.ntmps3, List.size_toArray, List.length_cons, List.length_nil, Nat.reduceAdd, Nat.reduceSub, Array.replicate_succ, Array.replicate_zero, List.push_toArray, List.append_toArray, List.nil_append, List.cons_append]
  refine wpIn_wide.2 ?_
  go_wp2_with fail
  generalize hw : w.alloc (.cells #[.int .i64 x5] 3 (0, 0)) = w1
  obtain ⟨K1, b1, s1⟩ := newOne w w1 _ _ hw
  clear hw
  rw [← s1]
  generalize hw : w1.alloc (.cells #[.bool false] 4 (0, 0)) = w2
  obtain ⟨K2, b2, s2⟩ := newOne w1 w2 _ _ hw
  clear hw
  obtain ⟨sb, hsb⟩ : ∃ sb, sb = w.heap.size := ⟨_, rfl⟩
  obtain ⟨rb, hrb⟩ : ∃ rb, rb = w1.heap.size := ⟨_, rfl⟩
  rw [← hsb] at K1 ⊢
  rw [← hrb] at K2 ⊢
  have HPR : Hid (sb ≠ rb ∧ base ≤ sb ∧ base ≤ rb ∧ base ≤ w2.heap.size) := by have := HBS.out; exact ⟨by omega, by omega, by omega, by omega⟩
  have B2 : Below base w w2 := by have := HBS.out; exact (b1.mono (by omega)).trans (b2.mono (by omega))
  replace K1 := (b2.block _ (lt_of_block K1)).trans K1
  clear hsb hrb s1 s2 b1 b2
  refine (first26_any w2).mono ?_
  rintro e w3 ⟨rfl, b3⟩
  replace K1 := (b3.block _ (lt_of_block K1)).trans K1
  replace K2 := (b3.block _ (lt_of_block K2)).trans K2
  have B3 : Below base w w3 := B2.trans (b3.mono HPR.out.2.2.2)
  have hs3 : base ≤ w3.heap.size := Nat.le_trans HPR.out.2.2.2 b3.size
  clear b3 B2
  by_cases hn : 60 < n
  · have t : decide ((60 : Int) < (n : Int)) = true := decide_eq_true (by omega)
    have g1 : w3.cell? ⟨rb, 0, none⟩ = some (.bool false) := cell_of_one K2
    have g2 := free_of_one K2
    have HB := Lib.hid B3
    have HK2 := Lib.hid K2
    clear K1 K2 B3 HE HR hn
    go_wp2_with fail
    have g3 : (w3.setCell ⟨rb, 0, none⟩ (.bool true)).cell? ⟨rb, 0, none⟩ = some (.bool true) := cell_of_one (one_setCell HK2.out)
    exact ⟨_, res_bool rfl rfl g3, rfl, HB.out.setCell HPR.out.2.2.1 _⟩
  have t : decide ((60 : Int) < (n : Int)) = false := decide_eq_false (by omega)
  have hn60 : n ≤ 60 := by omega
  clear hn
  by_cases hmay : MayN s z
  rotate_left
  · -- numbers that may not be
    have HM := Lib.hid (new_bad s z hmay w3 (f 1) (HE.out w3 B3).2.1)
    have HK := Lib.hid (And.intro K1 (And.intro K2 (And.intro B3 hs3)))
    have g1 : ∀ W, Below w3.heap.size w3 W → W.cell? ⟨rb, 0, none⟩ = some (.bool false) ∧ W.frozen? ⟨rb, 0, none⟩ = false ∧ W.cell? ⟨0, 0, none⟩ = some (errOf (f 1)) := fun W b =>
      ⟨cell_of_one ((b.block rb (lt_of_block K2)).trans K2), free_of_one ((b.block rb (lt_of_block K2)).trans K2), (HE.out W (B3.trans (b.mono hs3))).2.1.1⟩
    have HG := Lib.hid g1
    have eqg : ∀ W, (binOp .eql 26 (errOf (f 1)) (errOf (f 1))).run Tryd.prog W = .ok (.bool true) W := fun W => eql_err (f 1) W
    clear g1 K1 K2 B3 hs3 HR
    have HQ : Hid (∀ W, Below w3.heap.size w3 W → (W.setCell ⟨rb, 0, none⟩ (.bool true)).cell? ⟨rb, 0, none⟩ = some (.bool true) ∧ Below base w (W.setCell ⟨rb, 0, none⟩ (.bool true))) := fun W b =>
      ⟨cell_of_one (one_setCell ((b.block rb (lt_of_block HK.out.2.1)).trans HK.out.2.1)), (HK.out.2.2.1.trans (b.mono HK.out.2.2.2)).setCell HPR.out.2.2.1 _⟩
    by_cases c0 : 1 ≤ s
    · by_cases c1 : s ≤ 1048576
      · by_cases c2 : 1 ≤ z
        · have c3 : ¬ z ≤ 1024 := fun h => hmay ⟨c0, c1, c2, h⟩
          clear hmay
          go_wp2_with fail
          refine HM.out.mono ?_
          rintro e w4 ⟨rfl, b4⟩
          have g1 := (HG.out w4 b4).1
          have g2 := (HG.out w4 b4).2.1
          have g3 := (HG.out w4 b4).2.2
          have HQ4 := Lib.hid (HQ.out w4 b4)
          clear HM HG b4
          go_wp2_with fail
          exact ⟨_, res_bool rfl rfl HQ4.out.1, rfl, HQ4.out.2⟩
        · clear hmay
          go_wp2_with fail
          refine HM.out.mono ?_
          rintro e w4 ⟨rfl, b4⟩
          have g1 := (HG.out w4 b4).1
          have g2 := (HG.out w4 b4).2.1
          have g3 := (HG.out w4 b4).2.2
          have HQ4 := Lib.hid (HQ.out w4 b4)
          clear HM HG b4
          go_wp2_with fail
          exact ⟨_, res_bool rfl rfl HQ4.out.1, rfl, HQ4.out.2⟩
      · clear hmay
        go_wp2_with fail
        refine HM.out.mono ?_
        rintro e w4 ⟨rfl, b4⟩
        have g1 := (HG.out w4 b4).1
        have g2 := (HG.out w4 b4).2.1
        have g3 := (HG.out w4 b4).2.2
        have HQ4 := Lib.hid (HQ.out w4 b4)
        clear HM HG b4
        go_wp2_with fail
        exact ⟨_, res_bool rfl rfl HQ4.out.1, rfl, HQ4.out.2⟩
    · clear hmay
      go_wp2_with fail
      refine HM.out.mono ?_
      rintro e w4 ⟨rfl, b4⟩
      have g1 := (HG.out w4 b4).1
      have g2 := (HG.out w4 b4).2.1
      have g3 := (HG.out w4 b4).2.2
      have HQ4 := Lib.hid (HQ.out w4 b4)
      clear HM HG b4
      go_wp2_with fail
      exact ⟨_, res_bool rfl rfl HQ4.out.1, rfl, HQ4.out.2⟩
  obtain ⟨N, rfl⟩ : ∃ N : Nat, s = (N : Int) := ⟨s.toNat, by have := hmay.1; omega⟩
  obtain ⟨sz, rfl⟩ : ∃ sz : Nat, z = (sz : Int) := ⟨z.toNat, by have := hmay.2.2.1; omega⟩
  obtain ⟨c0, c1, c2, c3⟩ := hmay
  by_cases hN : 40 < N
  · have t2 : (40 : Int) < (N : Int) := by omega
    have g1 : w3.cell? ⟨rb, 0, none⟩ = some (.bool false) := cell_of_one K2
    have g2 := free_of_one K2
    have HB := Lib.hid B3
    have HK2 := Lib.hid K2
    clear K1 K2 B3 HE HR hN
    go_wp2_with fail
    have g3 : (w3.setCell ⟨rb, 0, none⟩ (.bool true)).cell? ⟨rb, 0, none⟩ = some (.bool true) := cell_of_one (one_setCell HK2.out)
    exact ⟨_, res_bool rfl rfl g3, rfl, HB.out.setCell HPR.out.2.2.1 _⟩
  have t2 : ¬ (40 : Int) < (N : Int) := by omega
  have HNum : Hid (1 ≤ N ∧ N ≤ 40 ∧ 1 ≤ sz ∧ sz ≤ 1024 ∧ n ≤ 60) := ⟨by omega, by omega, by omega, by omega, hn60⟩
  have HM := Lib.hid (new_yes N sz (by omega) (by omega) (by omega) (by omega) w3)
  have HK := Lib.hid (And.intro K1 (And.intro K2 (And.intro B3 hs3)))
  clear K1 K2 B3 hs3 hN hn60
  go_wp2_with fail
  refine HM.out.mono ?_
  rintro e w4 ⟨mo, bl, rfl, M4, b4, hbl⟩
  have H4 := Lib.hid (And.intro M4 (And.intro b4 hbl))
  clear HM M4 b4 hbl
  go_wp2_with fail
  refine (newModel_any w4 N sz (by have := HNum.out; omega) (by have := HNum.out; omega) (by have := HNum.out; omega)).mono ?_
  rintro e w5 ⟨xb, rfl, R5, b5⟩
  have H5 := Lib.hid (And.intro R5 b5)
  clear R5 b5
  go_wp2_with fail
  generalize hw : w5.alloc (.cells #[.pointer (some ⟨xb, 0, none⟩)] 29 (0, 0)) = w6
  obtain ⟨K6, b6, s6⟩ := newOne w5 w6 _ _ hw
  obtain ⟨xv, hxv⟩ : ∃ xv, xv = w5.heap.size := ⟨_, rfl⟩
  rw [← hxv] at K6 ⊢
  clear hw
  have HS0 : Hid (St base w sb rb xv mo xb N sz 0 x5 w6 ∧ rb ≠ sb ∧ xv ≠ rb ∧ xv ≠ sb) := by
    obtain ⟨K1, K2, B3, hs3⟩ := HK.out
    obtain ⟨M4, b4, hbl⟩ := H4.out
    obtain ⟨R5, b5⟩ := H5.out
    have l1 := lt_of_block K1
    have l2 := lt_of_block K2
    have z4 := b4.size
    have z5 := b5.size
    have z6 := b6.size
    have b36 := (b4.trans (b5.mono z4)).trans (b6.mono (by omega))
    have hml := M4.lt
    refine ⟨⟨⟨_, _, bl, [], ⟨B3.trans (b36.mono hs3), by omega, (M4.below b5).below b6, (R5.mono (In' := PIn base bl [] [rb, sb, xv]) fun k hk hl => ⟨by omega, fun hm => ?_, (fun hm => nomatch hm), fun hm => ?_⟩).below b6, fun k hk => Nat.le_trans hs3 (hbl k hk), fun k hk => ?_⟩⟩, (b36.block sb l1).trans K1, (b36.block rb l2).trans K2, K6⟩, (Ne.symm HPR.out.1), by omega, by omega⟩
    · have := hml k (.inl hm); omega
    · simp only [List.mem_cons, List.not_mem_nil, or_false] at hm
      omega
    · simp only [List.mem_cons, List.not_mem_nil, or_false] at hk
      have hp := HPR.out
      refine ⟨by omega, by omega, fun hm => ?_, fun hm => nomatch hm⟩
      have := hml k (.inl hm)
      have := hbl k hm
      omega
  clear HK H4 H5 K6 b6 s6 hxv t t2 c0 c1 c2 c3
  go_wp2_with fail
  go_loopg [18] n (fun gh s18 wx => ∃ i : Nat, gh = n - i ∧ i ≤ n ∧ s18 = .int .i64 (i : Int) ∧ Hid (St base w sb rb xv mo xb N sz i x5 wx))
  case atStart => exact ⟨0, rfl, Nat.zero_le _, rfl, HS0.out.1⟩
  case round =>
    have HNe := Lib.hid HS0.out.2
    clear HS0
    obtain ⟨i, hg, hin, rfl, HX⟩ := hrel
    have HI := Lib.hid hg
    clear hg
    by_cases hlt : i < n
    · have y1 : (i : Int) < (n : Int) := by omega
      have y0 : (0 : Int) ≤ (i : Int) := by omega
      have y9 : (i : Int) ≤ 60 := by have := HNum.out; omega
      obtain ⟨⟨T, L, bl, dl', hP⟩, K1, K2, K3⟩ := HX.out
      obtain ⟨kb, off, rfl, c0, c1, c2, c3, hPol⟩ := HR.out wr hP.b i hlt
      have HLi := Lib.hid (And.intro hlt (And.intro hin trivial))
      have HPl : Hid (∀ W, Below base w W → Pol W (D i).a (D i).n (D i).c (dl i)) := fun W b => by obtain ⟨_, _, _, _, _, _, _, h⟩ := HR.out W b i hlt; exact h
      clear HX hlt hin
      generalize dl i = ll at hPol HPl
      generalize D i = dv at c0 c1 c2 c3 hPol HPl
      obtain ⟨key, tr, da, dn, dc, dz, fl⟩ := dv
      dsimp only at c0 c1 c2 c3 hPol HPl
      go_upto_region 17 with (fail)
      generalize hw : wr.alloc (.cells #[.int .i64 key, .bool tr, .slice da dn dc] 33 (0, 0)) = w7
      obtain ⟨K7, b7, s7⟩ := newE wr w7 _ _ _ hw
      obtain ⟨eb, heb⟩ : ∃ eb, eb = wr.heap.size := ⟨_, rfl⟩
      rw [← heb] at K7 ⊢
      clear hw
      have P7 := hP.fix (q := eb) b7 (by omega) (by omega)
      have l1 := lt_of_block K1
      have l2 := lt_of_block K2
      have l3 := lt_of_block K3
      replace K1 := (b7.block sb l1).trans K1
      replace K2 := (b7.block rb l2).trans K2
      replace K3 := (b7.block xv l3).trans K3
      have hne : eb ≠ sb ∧ eb ≠ rb ∧ eb ≠ xv := by omega
      have e2 := (mr_cells K7).2.2.1
      have c3' : w7.cell? ⟨kb, off + i * 4 + 3, none⟩ = some (.bool fl) := (b7.cell (p := ⟨kb, off + i * 4 + 3, none⟩) (World.block_lt_of_cell? wr _ c3)).trans c3
      have HS := Lib.hid (And.intro P7 (And.intro K1 (And.intro K2 (And.intro K3 (And.intro K7 (And.intro (hPol.below b7) hne))))))
      clear c0 c1 c2 c3 hP hPol K1 K2 K3 K7 b7 s7 heb l1 l2 l3 P7 hne
      by_cases h2 : 2000 < dn
      · have t3 : decide ((2000 : Int) < (dn : Int)) = true := decide_eq_true (by omega)
        have g1 : w7.cell? ⟨rb, 0, none⟩ = some (.bool false) := cell_of_one HS.out.2.2.1
        have g2 := free_of_one HS.out.2.2.1
        clear h2 c3'
        go_wp2_with fail
        have g3 : (w7.setCell ⟨rb, 0, none⟩ (.bool true)).cell? ⟨rb, 0, none⟩ = some (.bool true) := cell_of_one (one_setCell HS.out.2.2.1)
        exact ⟨_, res_bool rfl rfl g3, rfl, HS.out.1.b.setCell HPR.out.2.2.1 _⟩
      have t3 : decide ((2000 : Int) < (dn : Int)) = false := decide_eq_false (by omega)
      have HD2 : Hid (dn ≤ 2000) := by show dn ≤ 2000; omega
      clear h2
      cases fl
      · have hb8 := HS.out.2.2.2.2.2.1
        have HB8 := Lib.hid (bytes_pol hb8 (by have := HD2.out; omega))
        clear hb8
        go_wp2_with fail
        refine HB8.out.mono ?_
        rintro e w8 ⟨rfl, hB, b8⟩
        obtain ⟨mb, hmb⟩ : ∃ mb, mb = w7.heap.size := ⟨_, rfl⟩
        rw [← hmb] at hB ⊢
        have H8 : Hid (PM base w [mb, eb, rb, sb, xv] w8 mo xb N sz T L T L bl dl' i ∧ w8.heap[sb]? = some (.cells #[.int .i64 x5] 3 (0, 0)) ∧ w8.heap[rb]? = some (.cells #[.bool false] 4 (0, 0)) ∧ w8.heap[xv]? = some (.cells #[.pointer (some ⟨xb, 0, none⟩)] 29 (0, 0)) ∧ w8.heap[eb]? = some (.cells #[.int .i64 key, .bool tr, .slice da dn dc] 33 (0, 0)) ∧ Blk8 w8 mb ll ∧ dn = ll.length ∧ mb ≠ eb ∧ mb ≠ rb ∧ mb ≠ sb ∧ mb ≠ xv) := by
          obtain ⟨P7, k1, k2, k3, k7, hp, hne⟩ := HS.out
          have l1 := lt_of_block k1
          have l2 := lt_of_block k2
          have l3 := lt_of_block k3
          have l7 := lt_of_block k7
          have lB := lt_of_block hB
          exact ⟨P7.fix (q := mb) b8 (by omega) lB, (b8.block sb l1).trans k1, (b8.block rb l2).trans k2, (b8.block xv l3).trans k3, (b8.block eb l7).trans k7, hB, hp.hlen, by omega, by omega, by omega, by omega⟩
        have e0 := (mr_cells H8.out.2.2.2.2.1).1
        have e1 := (mr_cells H8.out.2.2.2.2.1).2.1
        clear HB8 hB b8 hmb e2 c3'
        obtain ⟨Fv, M, hTd⟩ := told_ex (f 0) (f 2) N sz key tr dn ll L
        have HTd := Lib.hid hTd
        have hEs := HE.out w8 H8.out.1.b
        have hi9 : i + 1 ≤ 1000 := by omega
        cases tr
        · have HC := Lib.hid (tell_write (a := some ⟨mb, 0, none⟩) (c := dn) H8.out.1 hi9 hEs.1 hEs.2.2 ⟨H8.out.2.2.2.2.2.2.1, Nat.le_refl _, by have := HD2.out; unfold maxLen; omega, (fun h => by cases h), .inr ⟨mb, 0, rfl, H8.out.2.2.2.2.2.1.row, lt_of_block H8.out.2.2.2.2.2.1⟩⟩ hTd)
          clear hTd hEs hi9
          go_wp2_with fail
          refine HC.out.mono ?_
          rintro e w9 ⟨rfl, hQ⟩
          as_aux_lemma =>
            have H9 : Hid (SX base w sb rb xv eb mb mo xb N sz (i + 1) x5 key false da dn dc T M L w9) := by
              obtain ⟨_, k1, k2, k3, k4, k5, k6, _⟩ := H8.out
              exact ⟨hQ.1, (hQ.2 sb (by simp)).trans k1, (hQ.2 rb (by simp)).trans k2, (hQ.2 xv (by simp)).trans k3, (hQ.2 eb (by simp)).trans k4, _, (hQ.2 mb (by simp)).trans k5, by simp [k6]⟩
            clear HC hQ e0 e1
            go_wp2_with fail
            go_loopg [22] dn (fun gh s22 wx => ∃ j : Nat, gh = dn - j ∧ j ≤ dn ∧ s22 = .int .i64 (j : Int) ∧ Hid (SX base w sb rb xv eb mb mo xb N sz (i + 1) x5 key false da dn dc T M L wx))
            case atStart => exact ⟨0, rfl, Nat.zero_le _, rfl, H9⟩
            case round =>
              clear H9
              obtain ⟨j, hg2, hj, rfl, HY⟩ := hrel
              have HI2 := Lib.hid hg2
              clear hg2
              by_cases hlj : j < dn
              · have z1 : (j : Int) < (dn : Int) := by omega
                have z0 : (0 : Int) ≤ (j : Int) := by omega
                have z2 : (j : Int) ≤ 2000 := by have := HD2.out; omega
                obtain ⟨v, q1, q2, hN⟩ := SX.put HY.out hlj ⟨H8.out.2.2.2.2.2.2.2.1, H8.out.2.2.2.2.2.2.2.2⟩
                have HN := Lib.hid (And.intro hN (And.intro hlj hj))
                clear hN hlj hj
                go_wp2_with fail
                generalize World.setCell _ _ _ = w10 at HN ⊢
                go_roundg (dn - (j + 1))
                case measure => have := HI2.out; have := HN.out.2.1; omega
                case rel => exact ⟨j + 1, rfl, HN.out.2.1, by go_num, HN.out.1⟩
              · obtain rfl : j = dn := by omega
                have z1 : ¬ (j : Int) < (j : Int) := by omega
                clear hlj hj
                go_upto_block 4 with (fail)
                go_cut [] from 89 to 245 (fun wx => Hid (SY base w sb rb xv eb mb mo xb N sz (i + 1) x5 T wx))
                case first =>
                  obtain ⟨⟨bl3, dl3, P3⟩, k1, k2, k3, k4, _⟩ := HY.out
                  have e0 := (mr_cells k4).1
                  have e1 := (mr_cells k4).2.1
                  have e2 := (mr_cells k4).2.2.1
                  have hE3 := HE.out wr P3.b
                  have hT := HTd.out
                  have H3 := Lib.hid (And.intro P3 (And.intro k1 (And.intro k2 (And.intro k3 k4))))
                  clear P3 k1 k2 k3 k4 HTd HY
                  cases hT with
                  | low h0 =>
                    have t1 : decide (key < 0) = true := decide_eq_true h0
                    have q0 : wr.cell? ⟨1, 0, none⟩ = some (errOf (f 0)) := hE3.1.1
                    have nq : ∀ W, (binOp .neq 26 (errOf (f 0)) (errOf (f 0))).run Tryd.prog W = .ok (.bool false) W := fun W => neq_err (f 0) W
                    have HN : Hid (SY base w sb rb xv eb mb mo xb N sz (i + 1) x5 T wr) := ⟨⟨_, _, _, H3.out.1⟩, H3.out.2.1, H3.out.2.2.1, H3.out.2.2.2.1⟩
                    clear hE3
                    go_wp2_with fail
                    go_meet
                    case rel => exact HN
                  | high h0 h1 =>
                    have t1 : decide (key < 0) = false := decide_eq_false (by omega)
                    have t2 : decide ((N : Int) ≤ key) = true := decide_eq_true h1
                    have q0 : wr.cell? ⟨1, 0, none⟩ = some (errOf (f 0)) := hE3.1.1
                    have nq : ∀ W, (binOp .neq 26 (errOf (f 0)) (errOf (f 0))).run Tryd.prog W = .ok (.bool false) W := fun W => neq_err (f 0) W
                    have HN : Hid (SY base w sb rb xv eb mb mo xb N sz (i + 1) x5 T wr) := ⟨⟨_, _, _, H3.out.1⟩, H3.out.2.1, H3.out.2.2.1, H3.out.2.2.2.1⟩
                    clear hE3
                    go_wp2_with fail
                    go_meet
                    case rel => exact HN
                  | size h0 h1 h2 h3 =>
                    first
                    | cases h2; done
                    | (have t1 : decide (key < 0) = false := decide_eq_false (by omega)
                       have t2 : decide ((N : Int) ≤ key) = false := decide_eq_false (by omega)
                       have t3 : ((j : Int) == (sz : Int)) = false := by rw [beq_eq_false_iff_ne]; omega
                       have t4 : ¬ (j : Int) = (sz : Int) := by omega
                       have q0 : wr.cell? ⟨2, 0, none⟩ = some (errOf (f 2)) := hE3.2.2.1
                       have nq : ∀ W, (binOp .neq 26 (errOf (f 2)) (errOf (f 2))).run Tryd.prog W = .ok (.bool false) W := fun W => neq_err (f 2) W
                       have HN : Hid (SY base w sb rb xv eb mb mo xb N sz (i + 1) x5 T wr) := ⟨⟨_, _, _, H3.out.1⟩, H3.out.2.1, H3.out.2.2.1, H3.out.2.2.2.1⟩
                       clear hE3
                       go_wp2_with fail
                       go_meet
                       case rel => exact HN)
                  | yes kk h0 h1 h2 =>
                    have t1 : decide (key < 0) = false := decide_eq_false (by omega)
                    have t2 : decide ((N : Int) ≤ key) = false := decide_eq_false (by omega)
                    have k4' := H3.out.2.2.2.2
                    rw [h0] at k4'
                    have hLM := H3.out.1.m.lens.2.2.2.2.2.2
                    rw [List.length_append] at hLM
                    have hn6 := HNum.out
                    have hi6 := HLi.out.1
                    obtain ⟨av, cv, E, x2, hc1, hc2, hC⟩ := ref_wait (xv := xv) (eb := eb) H3.out.1 (by simp) (by simp) H3.out.2.2.2.1 k4' (HPl.out wr H3.out.1.b) HD2.out h1 (by simp at hLM; omega)
                    have HC := Lib.hid hC
                    have S0 : SEd xv xb eb kk false (.slice da j dc) wr.drew := ⟨cell_of_one (w := wr.drew) H3.out.2.2.2.1, (mr_cells (w := wr.drew) k4').1, (mr_cells (w := wr.drew) k4').2.1, (mr_cells (w := wr.drew) k4').2.2.1⟩
                    have hL1 : L.length ≤ 1000 := by simp at hLM; omega
                    have HR34 := Lib.hid (And.intro x2 (And.intro hL1 (And.intro hc1 hc2)))
                    have t3 : ((j : Int) == (sz : Int)) = true := by have : j = sz := (h2.resolve_left (by simp)); simp [this]
                    have HS3 := Lib.hid S0
                    clear hE3 hLM hn6 hi6 hC S0 x2 hc1 hc2 hL1 h0 h1 h2 k4'
                    go_upto_region 34 with (fail)
                    refine wp_code (c := reg34) (by kernel_rfl) ?_
                    refine r34 HS3.out HR34.out.1 HR34.out.2.1 HR34.out.2.2.1 HR34.out.2.2.2 HC.out _ _ _ _ _ _ _ _ _ _ _ _ _ _ _ _ _ _ _ _ _ _ _ _ _ _ _ _ _ _ _ _ _ _ _ _ _ _ _ _ _ _ _ _ _ _ _ _ _ _ _ _ _ _ _ _ _ _ _ _ _ _ _ _ _ _ _ _ _ _ _ _ _ _ _ _ _ _ _ _ _ _ _ _ _ _ _ _ _ _ _ _ _ _ _ _ _ _ _ _ _ _ _ _ _ _ _ _ _ _ _ _ _ _ _ _ _ _ _ _ _ _ _ _ _ _ _ _ _ _ _ _ _ _ _ _ _ _ _ _ _ _ _ _ _ _ _ _ _ _ _ _ _ _ _ _ _ _ _ _ _ _ _ _ _ _ _ _ _ _ _ _ _ _ _ _ _ _ _ _ _ _ _ _ _ _ _ _ _ _ _ _ _ _ _ _ _ _ _ _ _ _ _ _ _ _ _ _ _ _ _ _ _ _ _ _ _ _ _ _ _ _ _ _ _ _ _ _ _ _ _ _ _ _ _ _ _ _ _ _ _ _ _ _ _ _ _ _ _ _ _ _ _ _ _ _ _ _ _ _ _ _ _ _ _ _ _ _ _ _ _ _ _ _ _ _ _ _ _ _ _ _ _ _ _ _ _ _ _ _ _ _ _ _ _ _ _ _ _ _ _ _ _ _ _ _ _ _ _ _ _ _ _ _ _ _ _ _ _ _ _ _ _ _ _ _ _ _ _ _ _ _ _ _ _ _ _ _ _ _ _ _ _ _ _ _ _ _ _ _ _ _ _ _ _ _ _ _ _ _ _ _ _ _ _ _ _ _ _ _ _ ?_
                    intro t0 t1 t2 t3 t4 t5 t6 t7 t8 t9 t10 t11 t12 t13 t14 t15 t16 w11 hF
                    have HN : Hid (SY base w sb rb xv eb mb mo xb N sz (i + 1) x5 T w11) := by
                      obtain ⟨_, k1, k2, k3, _⟩ := H3.out
                      exact ⟨⟨_, _, _, hF.1⟩, (hF.2 sb (by simp)).trans k1, (hF.2 rb (by simp)).trans k2, (hF.2 xv (by simp)).trans k3⟩
                    clear hF HC HR34 HS3
                    go_wp2_with fail
                    go_meet
                    case rel => exact HN
                case rest =>
                  obtain ⟨⟨M2, bl4, dl4, P4⟩, k1, k2, k3⟩ := hcut.out
                  obtain ⟨g0, cap0, av, cv, E, r1, r2, _, _, hxl, _, _, _, _, _, hle, _⟩ := P4.ref
                  have S0 : SRd xv xb (.slice av M2.length cv) wc.drew := ⟨cell_of_one (w := wc.drew) k3, r2⟩
                  have bd : Below wc.heap.size wc wc.drew := (Below.refl wc.heap.size wc).drew
                  have HC : Hid (Calls Tryd.prog 9 #[.pointer (some ⟨xb, 0, none⟩), .int .i64 (M2.length : Int)] wc.drew fun e w9 => ∃ g cap, e = .returned (.slice (some ⟨g, 0, none⟩) N cap) ∧ SRd xv xb (.slice av M2.length cv) w9 ∧ (N ≤ cap ∧ (∃ S, FL w9 (fun z => wc.heap.size ≤ z) g N S (app T M2)) ∧ Below wc.heap.size wc w9)) :=
                    (front_any (P4.r.below bd) M2.length (by omega)).mono fun e w9 h => by
                      obtain ⟨g, cap, h1, h2, h3, ⟨S, hF⟩, b⟩ := h
                      rw [List.take_length] at hF
                      have b' := bd.trans b
                      exact ⟨g, cap, h1, ⟨cell_of_one ((b'.block xv (lt_of_block k3)).trans k3), (b'.cell (p := ⟨xb, 2, none⟩) hxl).trans r2⟩, h2, ⟨S, hF⟩, b'⟩
                  have H4 := Lib.hid (And.intro P4 (And.intro k1 (And.intro k2 (And.intro k3 (And.intro r2 (And.intro hxl hle))))))
                  clear P4 k1 k2 k3 r1 r2 hxl bd hle
                  go_upto_region 41 with (fail)
                  refine wp_code (c := reg41) (by kernel_rfl) ?_
                  refine r41 (Z := fun g cap w9 => N ≤ cap ∧ (∃ S, FL w9 (fun z => wc.heap.size ≤ z) g N S (app T M2)) ∧ Below wc.heap.size wc w9) S0 H4.out.2.2.2.2.2.2 HC.out _ _ _ _ _ _ _ _ _ _ _ _ _ _ _ _ _ _ _ _ _ _ _ _ _ _ _ _ _ _ _ _ _ _ _ _ _ _ _ _ _ _ _ _ _ _ _ _ _ _ _ _ _ _ _ _ _ _ _ _ _ _ _ _ _ _ _ _ _ _ _ _ _ _ _ _ _ _ _ _ _ _ _ _ _ _ _ _ _ _ _ _ _ _ _ _ _ _ _ _ _ _ _ _ _ _ _ _ _ _ _ _ _ _ _ _ _ _ _ _ _ _ _ _ _ _ _ _ _ _ _ _ _ _ _ _ _ _ _ _ _ _ _ _ _ _ _ _ _ _ _ _ _ _ _ _ _ _ _ _ _ _ _ _ _ _ _ _ _ _ _ _ _ _ _ _ _ _ _ _ _ _ _ _ _ _ _ _ _ _ _ _ _ _ _ _ _ _ _ _ _ _ _ _ _ _ _ _ _ _ _ _ _ _ _ _ _ _ _ _ _ _ _ _ _ _ _ _ _ _ _ _ _ _ _ _ _ _ _ _ _ _ _ _ _ _ _ _ _ _ _ _ _ _ _ _ _ _ _ _ _ _ _ _ _ _ _ _ _ _ _ _ _ _ _ _ _ _ _ _ _ _ _ _ _ _ _ _ _ _ _ _ _ _ _ _ _ _ _ _ _ _ _ _ _ _ _ _ _ _ _ _ _ _ _ _ _ _ _ _ _ _ _ _ _ _ _ _ _ _ _ _ _ _ _ _ _ _ _ _ _ _ _ _ _ _ _ _ _ _ _ _ _ _ _ _ _ _ _ _ _ _ _ _ _ _ _ _ _ _ _ _ ?_
                  intro u1 u2 u3 u4 u5 u6 u7 g cap w9 hZ
                  obtain ⟨hcap, ⟨S, hF⟩, b9⟩ := hZ
                  have P9 := H4.out.1.below b9
                  have H9 := Lib.hid (And.intro P9 (And.intro hF (And.intro b9 hcap)))
                  clear S0 HC hcap hF b9
                  by_cases ha : 0 ≤ x4 ∧ x4 < (N : Int)
                  · obtain ⟨q, rfl⟩ : ∃ q : Nat, x4 = (q : Int) := ⟨x4.toNat, by omega⟩
                    have hqN : q < N := by omega
                    have HRd := Lib.hid (read_yes P9.m q hqN)
                    have HqN := Lib.hid hqN
                    clear P9 ha hqN
                    go_wp2_with fail
                    refine HRd.out.mono ?_
                    rintro e w10 ⟨rfl, hB, b10⟩
                    have b0 := H9.out.2.2.1.trans (b10.mono H9.out.2.2.1.size)
                    have P10 := H9.out.1.below b10
                    have hF10 := H9.out.2.1.below b10
                    have c1 := (hF10.cell HqN.out).1
                    have x0 : w10.cell? ⟨xv, 0, none⟩ = some (.pointer (some ⟨xb, 0, none⟩)) := cell_of_one ((b0.block xv (lt_of_block H4.out.2.2.2.1)).trans H4.out.2.2.2.1)
                    have x2 := (b0.cell (p := ⟨xb, 2, none⟩) H4.out.2.2.2.2.2.1).trans H4.out.2.2.2.2.1
                    have HWt := Lib.hid (fun nn => waiting_any (P10.m.below ((Drawn.mk w10 nn).below _)))
                    have hsz := HNum.out
                    have hlen : (app T M2 q).length = sz := by
                      have := P10.m.lens
                      exact app_len M2 T this.1 (fun p hp => (this.2.1 p hp).2) q
                    have HSb : Hid (∀ nn, Calls Tryd.prog 14 #[.slice (some ⟨w9.heap.size, 0, none⟩) sz sz, sdV (S q)] (w10.drewN nn) fun e w11 => e = .returned (.bool true) ∧ w10.drewN nn = w11) := fun nn => by
                      have d1 := (dat_of_blk hB hlen hsz.2.2.2.1).below ((Drawn.mk w10 nn).below _)
                      have d2 := (hF10.dat q HqN.out).1.below ((Drawn.mk w10 nn).below _)
                      have h := same_any (app T M2 q) (app T M2 q) _ _ _ (Dat.str (s := ⟨some (w9.heap.size, 0), sz, sz⟩) d1) (Dat.str (s := S q) d2)
                      rw [decide_eq_true rfl] at h
                      exact h
                    have HN : Hid (∀ nq, St base w sb rb xv mo xb N sz (i + 1) x5 (w10.drewN nq)) := fun nq => by
                      have bq : Below wc.heap.size wc (w10.drewN nq) := b0.trans ((Drawn.mk w10 nq).below _)
                      obtain ⟨P4, k1, k2, k3, _⟩ := H4.out
                      exact ⟨⟨_, _, _, _, (P4.below bq).unfix.unfix⟩, (bq.block sb (lt_of_block k1)).trans k1, (bq.block rb (lt_of_block k2)).trans k2, (bq.block xv (lt_of_block k3)).trans k3⟩
                    clear HRd hB b10 b0 P10 hF10 hsz hlen
                    go_upto_region 43 with (fail)
                    refine wp_code (c := reg43) (by kernel_rfl) ?_
                    refine r43y x0 x2 HWt.out HqN.out H9.out.2.2.2 c1 HSb.out _ _ _ _ _ _ _ _ _ _ _ _ _ _ _ _ _ _ _ _ _ _ _ _ _ _ _ _ _ _ _ _ _ _ _ _ _ _ _ _ _ _ _ _ _ _ _ _ _ _ _ _ _ _ _ _ _ _ _ _ _ _ _ _ _ _ _ _ _ _ _ _ _ _ _ _ _ _ _ _ _ _ _ _ _ _ _ _ _ _ _ _ _ _ _ _ _ _ _ _ _ _ _ _ _ _ _ _ _ _ _ _ _ _ _ _ _ _ _ _ _ _ _ _ _ _ _ _ _ _ _ _ _ _ _ _ _ _ _ _ _ _ _ _ _ _ _ _ _ _ _ _ _ _ _ _ _ _ _ _ _ _ _ _ _ _ _ _ _ _ _ _ _ _ _ _ _ _ _ _ _ _ _ _ _ _ _ _ _ _ _ _ _ _ _ _ _ _ _ _ _ _ _ _ _ _ _ _ _ _ _ _ _ _ _ _ _ _ _ _ _ _ _ _ _ _ _ _ _ _ _ _ _ _ _ _ _ _ _ _ _ _ _ _ _ _ _ _ _ _ _ _ _ _ _ _ _ _ _ _ _ _ _ _ _ _ _ _ _ _ _ _ _ _ _ _ _ _ _ _ _ _ _ _ _ _ _ _ _ _ _ _ _ _ _ _ _ _ _ _ _ _ _ _ _ _ _ _ _ _ _ _ _ _ _ _ _ _ _ _ _ _ _ _ _ _ _ _ _ _ _ _ _ _ _ _ _ _ _ _ _ _ _ _ _ _ _ _ _ _ _ _ _ _ _ _ _ _ _ _ _ _ _ _ _ _ ?_
                    intro t0 t1 t2 t3 t4 t5 t6 t7 t8 t9 t10 t11 t12 t13 t14 t15 t16 t17 t18 t19 t20 t21 t22 t23 t24 t25 t26 t27 t28 t29 t30 t31 t32 t33 t34 t35 t36 t37 t38 nq _
                    have HNq := Lib.hid (HN.out nq)
                    clear HN HSb HWt x0 x2 c1
                    go_wp2_with fail
                    generalize w10.drewN nq = w11 at HNq ⊢
                    go_roundg (n - (i + 1))
                    case measure => have := HI.out; have := HLi.out.1; omega
                    case rel => exact ⟨i + 1, rfl, HLi.out.1, by go_num, HNq⟩
                  · have HRd := Lib.hid (read_no (n := N) (by obtain ⟨_, _, _, _, _, _, _, _, hi⟩ := P9.m; exact (mo_cells hi.blk).1) x4 ha)
                    have HA := Lib.hid ha
                    clear P9 ha
                    go_wp2_with fail
                    refine HRd.out.mono ?_
                    rintro e w10 ⟨rfl, rfl⟩
                    have b0 := H9.out.2.2.1
                    have x0 : w9.cell? ⟨xv, 0, none⟩ = some (.pointer (some ⟨xb, 0, none⟩)) := cell_of_one ((b0.block xv (lt_of_block H4.out.2.2.2.1)).trans H4.out.2.2.2.1)
                    have x2 := (b0.cell (p := ⟨xb, 2, none⟩) H4.out.2.2.2.2.2.1).trans H4.out.2.2.2.2.1
                    have HWt := Lib.hid (fun nn => waiting_any (H9.out.1.m.below ((Drawn.mk w9 nn).below _)))
                    have HN : Hid (∀ nq, St base w sb rb xv mo xb N sz (i + 1) x5 (w9.drewN nq)) := fun nq => by
                      have bq : Below wc.heap.size wc (w9.drewN nq) := b0.trans ((Drawn.mk w9 nq).below _)
                      obtain ⟨P4, k1, k2, k3, _⟩ := H4.out
                      exact ⟨⟨_, _, _, _, (P4.below bq).unfix.unfix⟩, (bq.block sb (lt_of_block k1)).trans k1, (bq.block rb (lt_of_block k2)).trans k2, (bq.block xv (lt_of_block k3)).trans k3⟩
                    clear HRd b0
                    go_upto_region 43 with (fail)
                    refine wp_code (c := reg43) (by kernel_rfl) ?_
                    refine r43n x0 x2 HWt.out HA.out _ _ _ _ _ _ _ _ _ _ _ _ _ _ _ _ _ _ _ _ _ _ _ _ _ _ _ _ _ _ _ _ _ _ _ _ _ _ _ _ _ _ _ _ _ _ _ _ _ _ _ _ _ _ _ _ _ _ _ _ _ _ _ _ _ _ _ _ _ _ _ _ _ _ _ _ _ _ _ _ _ _ _ _ _ _ _ _ _ _ _ _ _ _ _ _ _ _ _ _ _ _ _ _ _ _ _ _ _ _ _ _ _ _ _ _ _ _ _ _ _ _ _ _ _ _ _ _ _ _ _ _ _ _ _ _ _ _ _ _ _ _ _ _ _ _ _ _ _ _ _ _ _ _ _ _ _ _ _ _ _ _ _ _ _ _ _ _ _ _ _ _ _ _ _ _ _ _ _ _ _ _ _ _ _ _ _ _ _ _ _ _ _ _ _ _ _ _ _ _ _ _ _ _ _ _ _ _ _ _ _ _ _ _ _ _ _ _ _ _ _ _ _ _ _ _ _ _ _ _ _ _ _ _ _ _ _ _ _ _ _ _ _ _ _ _ _ _ _ _ _ _ _ _ _ _ _ _ _ _ _ _ _ _ _ _ _ _ _ _ _ _ _ _ _ _ _ _ _ _ _ _ _ _ _ _ _ _ _ _ _ _ _ _ _ _ _ _ _ _ _ _ _ _ _ _ _ _ _ _ _ _ _ _ _ _ _ _ _ _ _ _ _ _ _ _ _ _ _ _ _ _ _ _ _ _ _ _ _ _ _ _ _ _ _ _ _ _ _ _ _ _ _ _ _ _ _ _ _ _ _ _ _ _ _ _ _ ?_
                    intro t0 t1 t2 t3 t4 t5 t6 t7 t8 t9 t10 t11 t12 t13 t14 t15 t16 t17 t18 t19 t20 t21 t22 t23 t24 t25 t26 t27 t28 t29 t30 t31 t32 t33 t34 t35 t36 t37 t38 nq _
                    have HNq := Lib.hid (HN.out nq)
                    clear HN HWt x0 x2
                    go_wp2_with fail
                    generalize w9.drewN nq = w11 at HNq ⊢
                    go_roundg (n - (i + 1))
                    case measure => have := HI.out; have := HLi.out.1; omega
                    case rel => exact ⟨i + 1, rfl, HLi.out.1, by go_num, HNq⟩
        · have HC := Lib.hid (tell_trim H8.out.1 hi9 hEs.1 hTd)
          clear hTd hEs hi9
          go_wp2_with fail
          refine HC.out.mono ?_
          rintro e w9 ⟨rfl, hQ⟩
          as_aux_lemma =>
            have H9 : Hid (SX base w sb rb xv eb mb mo xb N sz (i + 1) x5 key true da dn dc T M L w9) := by
              obtain ⟨_, k1, k2, k3, k4, k5, k6, _⟩ := H8.out
              exact ⟨hQ.1, (hQ.2 sb (by simp)).trans k1, (hQ.2 rb (by simp)).trans k2, (hQ.2 xv (by simp)).trans k3, (hQ.2 eb (by simp)).trans k4, _, (hQ.2 mb (by simp)).trans k5, by simp [k6]⟩
            clear HC hQ e0 e1
            go_wp2_with fail
            go_loopg [22] dn (fun gh s22 wx => ∃ j : Nat, gh = dn - j ∧ j ≤ dn ∧ s22 = .int .i64 (j : Int) ∧ Hid (SX base w sb rb xv eb mb mo xb N sz (i + 1) x5 key true da dn dc T M L wx))
            case atStart => exact ⟨0, rfl, Nat.zero_le _, rfl, H9⟩
            case round =>
              clear H9
              obtain ⟨j, hg2, hj, rfl, HY⟩ := hrel
              have HI2 := Lib.hid hg2
              clear hg2
              by_cases hlj : j < dn
              · have z1 : (j : Int) < (dn : Int) := by omega
                have z0 : (0 : Int) ≤ (j : Int) := by omega
                have z2 : (j : Int) ≤ 2000 := by have := HD2.out; omega
                obtain ⟨v, q1, q2, hN⟩ := SX.put HY.out hlj ⟨H8.out.2.2.2.2.2.2.2.1, H8.out.2.2.2.2.2.2.2.2⟩
                have HN := Lib.hid (And.intro hN (And.intro hlj hj))
                clear hN hlj hj
                go_wp2_with fail
                generalize World.setCell _ _ _ = w10 at HN ⊢
                go_roundg (dn - (j + 1))
                case measure => have := HI2.out; have := HN.out.2.1; omega
                case rel => exact ⟨j + 1, rfl, HN.out.2.1, by go_num, HN.out.1⟩
              · obtain rfl : j = dn := by omega
                have z1 : ¬ (j : Int) < (j : Int) := by omega
                clear hlj hj
                go_upto_block 4 with (fail)
                go_cut [] from 89 to 245 (fun wx => Hid (SY base w sb rb xv eb mb mo xb N sz (i + 1) x5 T wx))
                case first =>
                  obtain ⟨⟨bl3, dl3, P3⟩, k1, k2, k3, k4, _⟩ := HY.out
                  have e0 := (mr_cells k4).1
                  have e1 := (mr_cells k4).2.1
                  have e2 := (mr_cells k4).2.2.1
                  have hE3 := HE.out wr P3.b
                  have hT := HTd.out
                  have H3 := Lib.hid (And.intro P3 (And.intro k1 (And.intro k2 (And.intro k3 k4))))
                  clear P3 k1 k2 k3 k4 HTd HY
                  cases hT with
                  | low h0 =>
                    have t1 : decide (key < 0) = true := decide_eq_true h0
                    have q0 : wr.cell? ⟨1, 0, none⟩ = some (errOf (f 0)) := hE3.1.1
                    have nq : ∀ W, (binOp .neq 26 (errOf (f 0)) (errOf (f 0))).run Tryd.prog W = .ok (.bool false) W := fun W => neq_err (f 0) W
                    have HN : Hid (SY base w sb rb xv eb mb mo xb N sz (i + 1) x5 T wr) := ⟨⟨_, _, _, H3.out.1⟩, H3.out.2.1, H3.out.2.2.1, H3.out.2.2.2.1⟩
                    clear hE3
                    go_wp2_with fail
                    go_meet
                    case rel => exact HN
                  | high h0 h1 =>
                    have t1 : decide (key < 0) = false := decide_eq_false (by omega)
                    have t2 : decide ((N : Int) ≤ key) = true := decide_eq_true h1
                    have q0 : wr.cell? ⟨1, 0, none⟩ = some (errOf (f 0)) := hE3.1.1
                    have nq : ∀ W, (binOp .neq 26 (errOf (f 0)) (errOf (f 0))).run Tryd.prog W = .ok (.bool false) W := fun W => neq_err (f 0) W
                    have HN : Hid (SY base w sb rb xv eb mb mo xb N sz (i + 1) x5 T wr) := ⟨⟨_, _, _, H3.out.1⟩, H3.out.2.1, H3.out.2.2.1, H3.out.2.2.2.1⟩
                    clear hE3
                    go_wp2_with fail
                    go_meet
                    case rel => exact HN
                  | size h0 h1 h2 h3 =>
                    first
                    | cases h2; done
                    | (have t1 : decide (key < 0) = false := decide_eq_false (by omega)
                       have t2 : decide ((N : Int) ≤ key) = false := decide_eq_false (by omega)
                       have t3 : ((j : Int) == (sz : Int)) = false := by rw [beq_eq_false_iff_ne]; omega
                       have t4 : ¬ (j : Int) = (sz : Int) := by omega
                       have q0 : wr.cell? ⟨2, 0, none⟩ = some (errOf (f 2)) := hE3.2.2.1
                       have nq : ∀ W, (binOp .neq 26 (errOf (f 2)) (errOf (f 2))).run Tryd.prog W = .ok (.bool false) W := fun W => neq_err (f 2) W
                       have HN : Hid (SY base w sb rb xv eb mb mo xb N sz (i + 1) x5 T wr) := ⟨⟨_, _, _, H3.out.1⟩, H3.out.2.1, H3.out.2.2.1, H3.out.2.2.2.1⟩
                       clear hE3
                       go_wp2_with fail
                       go_meet
                       case rel => exact HN)
                  | yes kk h0 h1 h2 =>
                    have t1 : decide (key < 0) = false := decide_eq_false (by omega)
                    have t2 : decide ((N : Int) ≤ key) = false := decide_eq_false (by omega)
                    have k4' := H3.out.2.2.2.2
                    rw [h0] at k4'
                    have hLM := H3.out.1.m.lens.2.2.2.2.2.2
                    rw [List.length_append] at hLM
                    have hn6 := HNum.out
                    have hi6 := HLi.out.1
                    obtain ⟨av, cv, E, x2, hc1, hc2, hC⟩ := ref_wait (xv := xv) (eb := eb) H3.out.1 (by simp) (by simp) H3.out.2.2.2.1 k4' (HPl.out wr H3.out.1.b) HD2.out h1 (by simp at hLM; omega)
                    have HC := Lib.hid hC
                    have S0 : SEd xv xb eb kk true (.slice da j dc) wr.drew := ⟨cell_of_one (w := wr.drew) H3.out.2.2.2.1, (mr_cells (w := wr.drew) k4').1, (mr_cells (w := wr.drew) k4').2.1, (mr_cells (w := wr.drew) k4').2.2.1⟩
                    have hL1 : L.length ≤ 1000 := by simp at hLM; omega
                    have HR34 := Lib.hid (And.intro x2 (And.intro hL1 (And.intro hc1 hc2)))
                    have t3 : True := trivial
                    have HS3 := Lib.hid S0
                    clear hE3 hLM hn6 hi6 hC S0 x2 hc1 hc2 hL1 h0 h1 h2 k4'
                    go_upto_region 34 with (fail)
                    refine wp_code (c := reg34) (by kernel_rfl) ?_
                    refine r34 HS3.out HR34.out.1 HR34.out.2.1 HR34.out.2.2.1 HR34.out.2.2.2 HC.out _ _ _ _ _ _ _ _ _ _ _ _ _ _ _ _ _ _ _ _ _ _ _ _ _ _ _ _ _ _ _ _ _ _ _ _ _ _ _ _ _ _ _ _ _ _ _ _ _ _ _ _ _ _ _ _ _ _ _ _ _ _ _ _ _ _ _ _ _ _ _ _ _ _ _ _ _ _ _ _ _ _ _ _ _ _ _ _ _ _ _ _ _ _ _ _ _ _ _ _ _ _ _ _ _ _ _ _ _ _ _ _ _ _ _ _ _ _ _ _ _ _ _ _ _ _ _ _ _ _ _ _ _ _ _ _ _ _ _ _ _ _ _ _ _ _ _ _ _ _ _ _ _ _ _ _ _ _ _ _ _ _ _ _ _ _ _ _ _ _ _ _ _ _ _ _ _ _ _ _ _ _ _ _ _ _ _ _ _ _ _ _ _ _ _ _ _ _ _ _ _ _ _ _ _ _ _ _ _ _ _ _ _ _ _ _ _ _ _ _ _ _ _ _ _ _ _ _ _ _ _ _ _ _ _ _ _ _ _ _ _ _ _ _ _ _ _ _ _ _ _ _ _ _ _ _ _ _ _ _ _ _ _ _ _ _ _ _ _ _ _ _ _ _ _ _ _ _ _ _ _ _ _ _ _ _ _ _ _ _ _ _ _ _ _ _ _ _ _ _ _ _ _ _ _ _ _ _ _ _ _ _ _ _ _ _ _ _ _ _ _ _ _ _ _ _ _ _ _ _ _ _ _ _ _ _ _ _ _ _ _ _ _ _ _ _ _ _ _ _ _ _ _ _ _ _ _ _ _ _ _ _ _ _ _ _ _ _ _ _ _ ?_
                    intro t0 t1 t2 t3 t4 t5 t6 t7 t8 t9 t10 t11 t12 t13 t14 t15 t16 w11 hF
                    have HN : Hid (SY base w sb rb xv eb mb mo xb N sz (i + 1) x5 T w11) := by
                      obtain ⟨_, k1, k2, k3, _⟩ := H3.out
                      exact ⟨⟨_, _, _, hF.1⟩, (hF.2 sb (by simp)).trans k1, (hF.2 rb (by simp)).trans k2, (hF.2 xv (by simp)).trans k3⟩
                    clear hF HC HR34 HS3
                    go_wp2_with fail
                    go_meet
                    case rel => exact HN
                case rest =>
                  obtain ⟨⟨M2, bl4, dl4, P4⟩, k1, k2, k3⟩ := hcut.out
                  obtain ⟨g0, cap0, av, cv, E, r1, r2, _, _, hxl, _, _, _, _, _, hle, _⟩ := P4.ref
                  have S0 : SRd xv xb (.slice av M2.length cv) wc.drew := ⟨cell_of_one (w := wc.drew) k3, r2⟩
                  have bd : Below wc.heap.size wc wc.drew := (Below.refl wc.heap.size wc).drew
                  have HC : Hid (Calls Tryd.prog 9 #[.pointer (some ⟨xb, 0, none⟩), .int .i64 (M2.length : Int)] wc.drew fun e w9 => ∃ g cap, e = .returned (.slice (some ⟨g, 0, none⟩) N cap) ∧ SRd xv xb (.slice av M2.length cv) w9 ∧ (N ≤ cap ∧ (∃ S, FL w9 (fun z => wc.heap.size ≤ z) g N S (app T M2)) ∧ Below wc.heap.size wc w9)) :=
                    (front_any (P4.r.below bd) M2.length (by omega)).mono fun e w9 h => by
                      obtain ⟨g, cap, h1, h2, h3, ⟨S, hF⟩, b⟩ := h
                      rw [List.take_length] at hF
                      have b' := bd.trans b
                      exact ⟨g, cap, h1, ⟨cell_of_one ((b'.block xv (lt_of_block k3)).trans k3), (b'.cell (p := ⟨xb, 2, none⟩) hxl).trans r2⟩, h2, ⟨S, hF⟩, b'⟩
                  have H4 := Lib.hid (And.intro P4 (And.intro k1 (And.intro k2 (And.intro k3 (And.intro r2 (And.intro hxl hle))))))
                  clear P4 k1 k2 k3 r1 r2 hxl bd hle
                  go_upto_region 41 with (fail)
                  refine wp_code (c := reg41) (by kernel_rfl) ?_
                  refine r41 (Z := fun g cap w9 => N ≤ cap ∧ (∃ S, FL w9 (fun z => wc.heap.size ≤ z) g N S (app T M2)) ∧ Below wc.heap.size wc w9) S0 H4.out.2.2.2.2.2.2 HC.out _ _ _ _ _ _ _ _ _ _ _ _ _ _ _ _ _ _ _ _ _ _ _ _ _ _ _ _ _ _ _ _ _ _ _ _ _ _ _ _ _ _ _ _ _ _ _ _ _ _ _ _ _ _ _ _ _ _ _ _ _ _ _ _ _ _ _ _ _ _ _ _ _ _ _ _ _ _ _ _ _ _ _ _ _ _ _ _ _ _ _ _ _ _ _ _ _ _ _ _ _ _ _ _ _ _ _ _ _ _ _ _ _ _ _ _ _ _ _ _ _ _ _ _ _ _ _ _ _ _ _ _ _ _ _ _ _ _ _ _ _ _ _ _ _ _ _ _ _ _ _ _ _ _ _ _ _ _ _ _ _ _ _ _ _ _ _ _ _ _ _ _ _ _ _ _ _ _ _ _ _ _ _ _ _ _ _ _ _ _ _ _ _ _ _ _ _ _ _ _ _ _ _ _ _ _ _ _ _ _ _ _ _ _ _ _ _ _ _ _ _ _ _ _ _ _ _ _ _ _ _ _ _ _ _ _ _ _ _ _ _ _ _ _ _ _ _ _ _ _ _ _ _ _ _ _ _ _ _ _ _ _ _ _ _ _ _ _ _ _ _ _ _ _ _ _ _ _ _ _ _ _ _ _ _ _ _ _ _ _ _ _ _ _ _ _ _ _ _ _ _ _ _ _ _ _ _ _ _ _ _ _ _ _ _ _ _ _ _ _ _ _ _ _ _ _ _ _ _ _ _ _ _ _ _ _ _ _ _ _ _ _ _ _ _ _ _ _ _ _ _ _ _ _ _ _ _ _ _ _ _ _ _ _ _ _ _ _ _ _ _ _ ?_
                  intro u1 u2 u3 u4 u5 u6 u7 g cap w9 hZ
                  obtain ⟨hcap, ⟨S, hF⟩, b9⟩ := hZ
                  have P9 := H4.out.1.below b9
                  have H9 := Lib.hid (And.intro P9 (And.intro hF (And.intro b9 hcap)))
                  clear S0 HC hcap hF b9
                  by_cases ha : 0 ≤ x4 ∧ x4 < (N : Int)
                  · obtain ⟨q, rfl⟩ : ∃ q : Nat, x4 = (q : Int) := ⟨x4.toNat, by omega⟩
                    have hqN : q < N := by omega
                    have HRd := Lib.hid (read_yes P9.m q hqN)
                    have HqN := Lib.hid hqN
                    clear P9 ha hqN
                    go_wp2_with fail
                    refine HRd.out.mono ?_
                    rintro e w10 ⟨rfl, hB, b10⟩
                    have b0 := H9.out.2.2.1.trans (b10.mono H9.out.2.2.1.size)
                    have P10 := H9.out.1.below b10
                    have hF10 := H9.out.2.1.below b10
                    have c1 := (hF10.cell HqN.out).1
                    have x0 : w10.cell? ⟨xv, 0, none⟩ = some (.pointer (some ⟨xb, 0, none⟩)) := cell_of_one ((b0.block xv (lt_of_block H4.out.2.2.2.1)).trans H4.out.2.2.2.1)
                    have x2 := (b0.cell (p := ⟨xb, 2, none⟩) H4.out.2.2.2.2.2.1).trans H4.out.2.2.2.2.1
                    have HWt := Lib.hid (fun nn => waiting_any (P10.m.below ((Drawn.mk w10 nn).below _)))
                    have hsz := HNum.out
                    have hlen : (app T M2 q).length = sz := by
                      have := P10.m.lens
                      exact app_len M2 T this.1 (fun p hp => (this.2.1 p hp).2) q
                    have HSb : Hid (∀ nn, Calls Tryd.prog 14 #[.slice (some ⟨w9.heap.size, 0, none⟩) sz sz, sdV (S q)] (w10.drewN nn) fun e w11 => e = .returned (.bool true) ∧ w10.drewN nn = w11) := fun nn => by
                      have d1 := (dat_of_blk hB hlen hsz.2.2.2.1).below ((Drawn.mk w10 nn).below _)
                      have d2 := (hF10.dat q HqN.out).1.below ((Drawn.mk w10 nn).below _)
                      have h := same_any (app T M2 q) (app T M2 q) _ _ _ (Dat.str (s := ⟨some (w9.heap.size, 0), sz, sz⟩) d1) (Dat.str (s := S q) d2)
                      rw [decide_eq_true rfl] at h
                      exact h
                    have HN : Hid (∀ nq, St base w sb rb xv mo xb N sz (i + 1) x5 (w10.drewN nq)) := fun nq => by
                      have bq : Below wc.heap.size wc (w10.drewN nq) := b0.trans ((Drawn.mk w10 nq).below _)
                      obtain ⟨P4, k1, k2, k3, _⟩ := H4.out
                      exact ⟨⟨_, _, _, _, (P4.below bq).unfix.unfix⟩, (bq.block sb (lt_of_block k1)).trans k1, (bq.block rb (lt_of_block k2)).trans k2, (bq.block xv (lt_of_block k3)).trans k3⟩
                    clear HRd hB b10 b0 P10 hF10 hsz hlen
                    go_upto_region 43 with (fail)
                    refine wp_code (c := reg43) (by kernel_rfl) ?_
                    refine r43y x0 x2 HWt.out HqN.out H9.out.2.2.2 c1 HSb.out _ _ _ _ _ _ _ _ _ _ _ _ _ _ _ _ _ _ _ _ _ _ _ _ _ _ _ _ _ _ _ _ _ _ _ _ _ _ _ _ _ _ _ _ _ _ _ _ _ _ _ _ _ _ _ _ _ _ _ _ _ _ _ _ _ _ _ _ _ _ _ _ _ _ _ _ _ _ _ _ _ _ _ _ _ _ _ _ _ _ _ _ _ _ _ _ _ _ _ _ _ _ _ _ _ _ _ _ _ _ _ _ _ _ _ _ _ _ _ _ _ _ _ _ _ _ _ _ _ _ _ _ _ _ _ _ _ _ _ _ _ _ _ _ _ _ _ _ _ _ _ _ _ _ _ _ _ _ _ _ _ _ _ _ _ _ _ _ _ _ _ _ _ _ _ _ _ _ _ _ _ _ _ _ _ _ _ _ _ _ _ _ _ _ _ _ _ _ _ _ _ _ _ _ _ _ _ _ _ _ _ _ _ _ _ _ _ _ _ _ _ _ _ _ _ _ _ _ _ _ _ _ _ _ _ _ _ _ _ _ _ _ _ _ _ _ _ _ _ _ _ _ _ _ _ _ _ _ _ _ _ _ _ _ _ _ _ _ _ _ _ _ _ _ _ _ _ _ _ _ _ _ _ _ _ _ _ _ _ _ _ _ _ _ _ _ _ _ _ _ _ _ _ _ _ _ _ _ _ _ _ _ _ _ _ _ _ _ _ _ _ _ _ _ _ _ _ _ _ _ _ _ _ _ _ _ _ _ _ _ _ _ _ _ _ _ _ _ _ _ _ _ _ _ _ _ _ _ _ _ _ _ _ _ _ _ ?_
                    intro t0 t1 t2 t3 t4 t5 t6 t7 t8 t9 t10 t11 t12 t13 t14 t15 t16 t17 t18 t19 t20 t21 t22 t23 t24 t25 t26 t27 t28 t29 t30 t31 t32 t33 t34 t35 t36 t37 t38 nq _
                    have HNq := Lib.hid (HN.out nq)
                    clear HN HSb HWt x0 x2 c1
                    go_wp2_with fail
                    generalize w10.drewN nq = w11 at HNq ⊢
                    go_roundg (n - (i + 1))
                    case measure => have := HI.out; have := HLi.out.1; omega
                    case rel => exact ⟨i + 1, rfl, HLi.out.1, by go_num, HNq⟩
                  · have HRd := Lib.hid (read_no (n := N) (by obtain ⟨_, _, _, _, _, _, _, _, hi⟩ := P9.m; exact (mo_cells hi.blk).1) x4 ha)
                    have HA := Lib.hid ha
                    clear P9 ha
                    go_wp2_with fail
                    refine HRd.out.mono ?_
                    rintro e w10 ⟨rfl, rfl⟩
                    have b0 := H9.out.2.2.1
                    have x0 : w9.cell? ⟨xv, 0, none⟩ = some (.pointer (some ⟨xb, 0, none⟩)) := cell_of_one ((b0.block xv (lt_of_block H4.out.2.2.2.1)).trans H4.out.2.2.2.1)
                    have x2 := (b0.cell (p := ⟨xb, 2, none⟩) H4.out.2.2.2.2.2.1).trans H4.out.2.2.2.2.1
                    have HWt := Lib.hid (fun nn => waiting_any (H9.out.1.m.below ((Drawn.mk w9 nn).below _)))
                    have HN : Hid (∀ nq, St base w sb rb xv mo xb N sz (i + 1) x5 (w9.drewN nq)) := fun nq => by
                      have bq : Below wc.heap.size wc (w9.drewN nq) := b0.trans ((Drawn.mk w9 nq).below _)
                      obtain ⟨P4, k1, k2, k3, _⟩ := H4.out
                      exact ⟨⟨_, _, _, _, (P4.below bq).unfix.unfix⟩, (bq.block sb (lt_of_block k1)).trans k1, (bq.block rb (lt_of_block k2)).trans k2, (bq.block xv (lt_of_block k3)).trans k3⟩
                    clear HRd b0
                    go_upto_region 43 with (fail)
                    refine wp_code (c := reg43) (by kernel_rfl) ?_
                    refine r43n x0 x2 HWt.out HA.out _ _ _ _ _ _ _ _ _ _ _ _ _ _ _ _ _ _ _ _ _ _ _ _ _ _ _ _ _ _ _ _ _ _ _ _ _ _ _ _ _ _ _ _ _ _ _ _ _ _ _ _ _ _ _ _ _ _ _ _ _ _ _ _ _ _ _ _ _ _ _ _ _ _ _ _ _ _ _ _ _ _ _ _ _ _ _ _ _ _ _ _ _ _ _ _ _ _ _ _ _ _ _ _ _ _ _ _ _ _ _ _ _ _ _ _ _ _ _ _ _ _ _ _ _ _ _ _ _ _ _ _ _ _ _ _ _ _ _ _ _ _ _ _ _ _ _ _ _ _ _ _ _ _ _ _ _ _ _ _ _ _ _ _ _ _ _ _ _ _ _ _ _ _ _ _ _ _ _ _ _ _ _ _ _ _ _ _ _ _ _ _ _ _ _ _ _ _ _ _ _ _ _ _ _ _ _ _ _ _ _ _ _ _ _ _ _ _ _ _ _ _ _ _ _ _ _ _ _ _ _ _ _ _ _ _ _ _ _ _ _ _ _ _ _ _ _ _ _ _ _ _ _ _ _ _ _ _ _ _ _ _ _ _ _ _ _ _ _ _ _ _ _ _ _ _ _ _ _ _ _ _ _ _ _ _ _ _ _ _ _ _ _ _ _ _ _ _ _ _ _ _ _ _ _ _ _ _ _ _ _ _ _ _ _ _ _ _ _ _ _ _ _ _ _ _ _ _ _ _ _ _ _ _ _ _ _ _ _ _ _ _ _ _ _ _ _ _ _ _ _ _ _ _ _ _ _ _ _ _ _ _ _ _ _ _ _ ?_
                    intro t0 t1 t2 t3 t4 t5 t6 t7 t8 t9 t10 t11 t12 t13 t14 t15 t16 t17 t18 t19 t20 t21 t22 t23 t24 t25 t26 t27 t28 t29 t30 t31 t32 t33 t34 t35 t36 t37 t38 nq _
                    have HNq := Lib.hid (HN.out nq)
                    clear HN HWt x0 x2
                    go_wp2_with fail
                    generalize w9.drewN nq = w11 at HNq ⊢
                    go_roundg (n - (i + 1))
                    case measure => have := HI.out; have := HLi.out.1; omega
                    case rel => exact ⟨i + 1, rfl, HLi.out.1, by go_num, HNq⟩
      · as_aux_lemma =>
          have HF := Lib.hid (flush_any HS.out.1.m)
          go_wp2_with fail
          refine HF.out.mono ?_
          rintro e w8 ⟨rfl, bl2, hM8, t8⟩
          have h8 := HS.out.1.turn hM8 t8 (fun k hk => .inl hk)
          have L1 := HS.out.1.m.lens
          have q0 := h8.2 eb (by simp)
          have q1 := h8.2 rb (by simp)
          have q2 := h8.2 sb (by simp)
          have q3 := h8.2 xv (by simp)
          have hv8 := q3.trans HS.out.2.2.2.1
          obtain ⟨g0, cap0, av, cv, E, r1, r2, _, _, hxl, _⟩ := h8.1.ref
          have HC := Lib.hid (ref_flush (xv := xv) h8.1 (by simp) hv8 r2 (by have := HNum.out; omega) L1.1 (fun p hp => (L1.2.1 p hp).2) L1.2.2.2.2.2.1)
          have x0 := cell_of_one hv8
          have H8 := Lib.hid (And.intro h8.1.unfix (And.intro (q2.trans HS.out.2.1) (And.intro (q1.trans HS.out.2.2.1) hv8)))
          have HLn : Hid (L.length ≤ 1000) := by have := L1.2.2.2.2.2.2; show L.length ≤ 1000; omega
          clear HF e2 c3' hM8 t8 h8 L1 q0 q1 q2 q3 hv8 hxl
          have S0 : SRd xv xb (.slice av L.length cv) w8.drew := ⟨x0, r2⟩
          clear x0 r2
          go_upto_region 21 with (fail)
          refine wp_code (c := reg21) (by kernel_rfl) ?_
          refine r21 S0 HLn.out HC.out _ _ _ _ _ _ _ _ _ _ _ _ _ _ _ _ _ _ _ _ _ _ _ _ _ _ _ _ _ _ _ _ _ _ _ _ _ _ _ _ _ _ _ _ _ _ _ _ _ _ _ _ _ _ _ _ _ _ _ _ _ _ _ _ _ _ _ _ _ _ _ _ _ _ _ _ _ _ _ _ _ _ _ _ _ _ _ _ _ _ _ _ _ _ _ _ _ _ _ _ _ _ _ _ _ _ _ _ _ _ _ _ _ _ _ _ _ _ _ _ _ _ _ _ _ _ _ _ _ _ _ _ _ _ _ _ _ _ _ _ _ _ _ _ _ _ _ _ _ _ _ _ _ _ _ _ _ _ _ _ _ _ _ _ _ _ _ _ _ _ _ _ _ _ _ _ _ _ _ _ _ _ _ _ _ _ _ _ _ _ _ _ _ _ _ _ _ _ _ _ _ _ _ _ _ _ _ _ _ _ _ _ _ _ _ _ _ _ _ _ _ _ _ _ _ _ _ _ _ _ _ _ _ _ _ _ _ _ _ _ _ _ _ _ _ _ _ _ _ _ _ _ _ _ _ _ _ _ _ _ _ _ _ _ _ _ _ _ _ _ _ _ _ _ _ _ _ _ _ _ _ _ _ _ _ _ _ _ _ _ _ _ _ _ _ _ _ _ _ _ _ _ _ _ _ _ _ _ _ _ _ _ _ _ _ _ _ _ _ _ _ _ _ _ _ _ _ _ _ _ _ _ _ _ _ _ _ _ _ _ _ _ _ _ _ _ _ _ _ _ _ _ _ _ _ _ _ _ _ _ _ _ _ _ _ _ _ _ _ _ _ _ ?_
          intro u1 u2 u3 u4 u5 u6 u7 u8 u9 u10 g cap w9 F
          have HFF := Lib.hid F
          have k1 := HFF.out.d1
          obtain ⟨u3, k2⟩ := HFF.out.d2
          have k3 := HFF.out.g2
          have HN : Hid (St base w sb rb xv mo xb N sz (i + 1) x5 ((w9.setCell ⟨xb, 1, none⟩ (.slice (some ⟨g, 0, none⟩) N cap)).setCell ⟨xb, 2, none⟩ (.slice none 0 0))) := by
            have hkp := HFF.out.kp
            have hi := HLi.out.1
            have hn6 := HNum.out
            exact ⟨⟨_, _, _, _, HFF.out.pm.unfix.more (Nat.le_succ i) (by omega)⟩, (hkp sb (by simp)).trans H8.out.2.1, (hkp rb (by simp)).trans H8.out.2.2.1, (hkp xv (by simp)).trans H8.out.2.2.2⟩
          clear r1 S0 HC F
          go_wp2_with fail
          generalize (w9.setCell ⟨xb, 1, none⟩ (.slice (some ⟨g, 0, none⟩) N cap)).setCell ⟨xb, 2, none⟩ (.slice none 0 0) = w11 at HN ⊢
          go_roundg (n - (i + 1))
          case measure => have := HI.out; have := HLi.out.1; omega
          case rel => exact ⟨i + 1, rfl, HLi.out.1, by go_num, HN⟩
    · obtain rfl : i = n := by omega
      as_aux_lemma =>
        have y1 : ¬ (i : Int) < (i : Int) := by omega
        obtain ⟨⟨T, L, bl, dl', hP⟩, K1, K2, K3⟩ := HX.out
        have hlens := hP.m.lens
        have hL6 : L.length ≤ 1000 := by have := hlens.2.2.2.2.2.2; omega
        obtain ⟨av, cv, S0, _, r2, hxl, hA, hB, hC⟩ := fin45 hP K3
        have HA := Lib.hid hA
        have HB := Lib.hid hB
        have HC := Lib.hid hC
        have HS0 := Lib.hid S0
        have HP := Lib.hid (And.intro hP (And.intro K1 (And.intro K2 (And.intro K3 (And.intro hlens hL6)))))
        clear HX hP K1 K2 K3 hlens hL6 r2 hxl hA hB hC S0 hin hlt HR HI HE
        go_upto_region 45 with (fail)
        refine wp_code (c := reg45) (by kernel_rfl) ?_
        refine r45 (Z1 := F1 wr N sz T L) (Z2 := F2 wr N sz T L) (Z := fun w9 => Below wr.heap.size wr w9) HS0.out HP.out.2.2.2.2.2 HA.out HB.out HC.out _ _ _ _ _ _ _ _ _ _ _ _ _ _ _ _ _ _ _ _ _ _ _ _ _ _ _ _ _ _ _ _ _ _ _ _ _ _ _ _ _ _ _ _ _ _ _ _ _ _ _ _ _ _ _ _ _ _ _ _ _ _ _ _ _ _ _ _ _ _ _ _ _ _ _ _ _ _ _ _ _ _ _ _ _ _ _ _ _ _ _ _ _ _ _ _ _ _ _ _ _ _ _ _ _ _ _ _ _ _ _ _ _ _ _ _ _ _ _ _ _ _ _ _ _ _ _ _ _ _ _ _ _ _ _ _ _ _ _ _ _ _ _ _ _ _ _ _ _ _ _ _ _ _ _ _ _ _ _ _ _ _ _ _ _ _ _ _ _ _ _ _ _ _ _ _ _ _ _ _ _ _ _ _ _ _ _ _ _ _ _ _ _ _ _ _ _ _ _ _ _ _ _ _ _ _ _ _ _ _ _ _ _ _ _ _ _ _ _ _ _ _ _ _ _ _ _ _ _ _ _ _ _ _ _ _ _ _ _ _ _ _ _ _ _ _ _ _ _ _ _ _ _ _ _ _ _ _ _ _ _ _ _ _ _ _ _ _ _ _ _ _ _ _ _ _ _ _ _ _ _ _ _ _ _ _ _ _ _ _ _ _ _ _ _ _ _ _ _ _ _ _ _ _ _ _ _ _ _ _ _ _ _ _ _ _ _ _ _ _ _ _ _ _ _ _ _ _ _ _ _ _ _ _ _ _ _ _ _ _ _ _ _ _ _ _ _ _ _ _ _ _ _ _ _ _ _ _ _ _ _ _ _ _ _ _ _ _ _ _ _ ?_
        intro t0 t1 t2 t3 t4 t5 t6 t7 t8 t9 w9 b9
        have H9 : Hid (PM base w [rb, sb, xv] w9 mo xb N sz T L T L bl dl' i ∧ w9.heap[sb]? = some (.cells #[.int .i64 x5] 3 (0, 0)) ∧ w9.heap[rb]? = some (.cells #[.bool false] 4 (0, 0)) ∧ w9.heap[xv]? = some (.cells #[.pointer (some ⟨xb, 0, none⟩)] 29 (0, 0))) := by
          obtain ⟨hP, k1, k2, k3, _⟩ := HP.out
          exact ⟨hP.below b9, (b9.block sb (lt_of_block k1)).trans k1, (b9.block rb (lt_of_block k2)).trans k2, (b9.block xv (lt_of_block k3)).trans k3⟩
        clear b9 HA HB HC HS0
        go_wp2_with fail
        generalize hw : w9.alloc (.cells #[.int .i64 0] 3 (0, 0)) = w10
        obtain ⟨Kn, bn, sn⟩ := newOne w9 w10 _ _ hw
        obtain ⟨nb, hnb⟩ : ∃ nb, nb = w9.heap.size := ⟨_, rfl⟩
        rw [← hnb] at Kn ⊢
        clear hw
        refine (fronts_any mo w10).mono ?_
        rintro e w11 ⟨rfl, hcb, b11⟩
        obtain ⟨cbk, hcbk⟩ : ∃ cbk, cbk = w10.heap.size := ⟨_, rfl⟩
        rw [← hcbk] at hcb ⊢
        have H11 : Hid (PM base w [nb, rb, sb, xv] w11 mo xb N sz T L T L bl dl' i ∧ w11.heap[cbk]? = some (.cells #[.pointer (some ⟨mo, 0, none⟩)] 24 (0, 0)) ∧ w11.heap[nb]? = some (.cells #[.int .i64 0] 3 (0, 0)) ∧ w11.heap[sb]? = some (.cells #[.int .i64 x5] 3 (0, 0)) ∧ w11.heap[xv]? = some (.cells #[.pointer (some ⟨xb, 0, none⟩)] 29 (0, 0)) ∧ (nb ≠ sb ∧ nb ≠ xv ∧ nb ≠ cbk) ∧ nb ≠ rb ∧ w11.heap[rb]? = some (.cells #[.bool false] 4 (0, 0))) := by
          obtain ⟨hP, k1, k2, k3⟩ := H9.out
          have l1 := lt_of_block k1
          have l2 := lt_of_block k2
          have l3 := lt_of_block k3
          have ln := lt_of_block Kn
          have P10 := hP.fix (q := nb) bn (by omega) ln
          have s9 := bn.size
          exact ⟨P10.below b11, hcb, (b11.block nb ln).trans Kn, (b11.block sb (by omega)).trans ((bn.block sb l1).trans k1), (b11.block xv (by omega)).trans ((bn.block xv l3).trans k3), ⟨by omega, by omega, by omega⟩, by omega, (b11.block rb (by omega)).trans ((bn.block rb l2).trans k2)⟩
        clear Kn bn sn hnb hcb hcbk b11 H9
        go_wp2_with fail
        refine wp_code (c := rng48) (by kernel_rfl) ?_
        refine r48 H11.out.1 H11.out.2.1 H11.out.2.2.1 H11.out.2.2.2.1 H11.out.2.2.2.2.1 H11.out.2.2.2.2.2.1 HP.out.2.2.2.2.2 _ _ _ _ _ _ _ _ _ _ _ _ _ _ _ _ _ _ _ _ _ _ _ _ _ _ _ _ _ _ _ _ _ _ _ _ _ _ _ _ _ _ _ _ _ _ _ _ _ _ _ _ _ _ _ _ _ _ _ _ _ _ _ _ _ _ _ _ _ _ _ _ _ _ _ _ _ _ _ _ _ _ _ _ _ _ _ _ _ _ _ _ _ _ _ _ _ _ _ _ _ _ _ _ _ _ _ _ _ _ _ _ _ _ _ _ _ _ _ _ _ _ _ _ _ _ _ _ _ _ _ _ _ _ _ _ _ _ _ _ _ _ _ _ _ _ _ _ _ _ _ _ _ _ _ _ _ _ _ _ _ _ _ _ _ _ _ _ _ _ _ _ _ _ _ _ _ _ _ _ _ _ _ _ _ _ _ _ _ _ _ _ _ _ _ _ _ _ _ _ _ _ _ _ _ _ _ _ _ _ _ _ _ _ _ _ _ _ _ _ _ _ _ _ _ _ _ _ _ _ _ _ _ _ _ _ _ _ _ _ _ _ _ _ _ _ _ _ _ _ _ _ _ _ _ _ _ _ _ _ _ _ _ _ _ _ _ _ _ _ _ _ _ _ _ _ _ _ _ _ _ _ _ _ _ _ _ _ _ _ _ _ _ _ _ _ _ _ _ _ _ _ _ _ _ _ _ _ _ _ _ _ _ _ _ _ _ _ _ _ _ _ _ _ _ _ _ _ _ _ _ _ _ _ _ _ _ _ _ _ _ _ _ _ _ _ _ _ _ _ _ _ _ _ _ _ _ _ _ _ _ _ _ _ _ _ _ _ _ ?_
        intro e D jj w12 he hD hDl hdef hI hor hle
        refine in_both he ?_
        have HNe : Hid (D ≠ rb ∧ D ≠ xv ∧ nb ≠ rb) := by
          have l2 := lt_of_block H11.out.2.2.2.2.2.2.2
          have l3 := lt_of_block H11.out.2.2.2.2.1
          exact ⟨by omega, by omega, H11.out.2.2.2.2.2.2.1⟩
        have H12 : Hid (FinP base w D nb rb sb xv mo xb N sz T L bl dl' i w12) :=
          ⟨H11.out.1.frD (by simp) hI hD hDl, (hI.same rb (lt_of_block H11.out.2.2.2.2.2.2.2) (Ne.symm H11.out.2.2.2.2.2.2.1)).trans H11.out.2.2.2.2.2.2.2, (hI.same xv (lt_of_block H11.out.2.2.2.2.1) (Ne.symm H11.out.2.2.2.2.2.1.2.1)).trans H11.out.2.2.2.2.1, hdef⟩
        have c0 := cell_of_one hI.cnt
        have c1 := cell_of_one ((hI.same sb (lt_of_block H11.out.2.2.2.1) (Ne.symm H11.out.2.2.2.2.2.1.1)).trans H11.out.2.2.2.1)
        obtain ⟨av2, cv2, x0, x2, hL2, hxl2⟩ := H12.out.cells
        have H59 := Lib.hid (And.intro x0 (And.intro x2 (And.intro hL2 (And.intro c0 (And.intro c1 hor)))))
        clear he hD hDl hdef hI hor hle c0 c1 x0 x2 hL2 hxl2 H11
        go_upto_region 59 with (fail)
        refine wp_code (c := reg59) (by kernel_rfl) ?_
        refine r59 (n := N) H59.out.1 H59.out.2.1 H59.out.2.2.1 H59.out.2.2.2.1 H59.out.2.2.2.2.1 H59.out.2.2.2.2.2 _ _ _ _ _ _ _ _ _ _ _ _ _ _ _ _ _ _ _ _ _ _ _ _ _ _ _ _ _ _ _ _ _ _ _ _ _ _ _ _ _ _ _ _ _ _ _ _ _ _ _ _ _ _ _ _ _ _ _ _ _ _ _ _ _ _ _ _ _ _ _ _ _ _ _ _ _ _ _ _ _ _ _ _ _ _ _ _ _ _ _ _ _ _ _ _ _ _ _ _ _ _ _ _ _ _ _ _ _ _ _ _ _ _ _ _ _ _ _ _ _ _ _ _ _ _ _ _ _ _ _ _ _ _ _ _ _ _ _ _ _ _ _ _ _ _ _ _ _ _ _ _ _ _ _ _ _ _ _ _ _ _ _ _ _ _ _ _ _ _ _ _ _ _ _ _ _ _ _ _ _ _ _ _ _ _ _ _ _ _ _ _ _ _ _ _ _ _ _ _ _ _ _ _ _ _ _ _ _ _ _ _ _ _ _ _ _ _ _ _ _ _ _ _ _ _ _ _ _ _ _ _ _ _ _ _ _ _ _ _ _ _ _ _ _ _ _ _ _ _ _ _ _ _ _ _ _ _ _ _ _ _ _ _ _ _ _ _ _ _ _ _ _ _ _ _ _ _ _ _ _ _ _ _ _ _ _ _ _ _ _ _ _ _ _ _ _ _ _ _ _ _ _ _ _ _ _ _ _ _ _ _ _ _ _ _ _ _ _ _ _ _ _ _ _ _ _ _ _ _ _ _ _ _ _ _ _ _ _ _ _ _ _ _ _ _ _ _ _ _ _ _ _ _ _ _ _ _ _ _ _ _ _ _ _ _ _ _ _ _ _ ?_
        intro t0 t1 t2 t3 t4 t5 t6 t7 t8 t9 t10 t11 nq _
        have H13 := Lib.hid (H12.out.below ((Drawn.mk w12 nq).below _))
        generalize w12.drewN nq = w13 at H13 ⊢
        clear H59 H12
        obtain ⟨k, hk, eqk⟩ := norm_at x3 L.length (by have := HP.out.2.2.2.2.2; omega)
        obtain ⟨av3, cv3, x0, x2, hL3, hxl3⟩ := H13.out.cells
        have H61 := Lib.hid (And.intro x0 (And.intro x2 (And.intro hL3 (And.intro eqk hk))))
        clear x0 x2 hL3 eqk hk hxl3
        go_upto_region 61 with (fail)
        refine wp_code (c := reg61) (by kernel_rfl) ?_
        refine r61 (n := N) H61.out.1 H61.out.2.1 H61.out.2.2.1 H61.out.2.2.2.1 _ _ _ _ _ _ _ _ _ _ _ _ _ _ _ _ _ _ _ _ _ _ _ _ _ _ _ _ _ _ _ _ _ _ _ _ _ _ _ _ _ _ _ _ _ _ _ _ _ _ _ _ _ _ _ _ _ _ _ _ _ _ _ _ _ _ _ _ _ _ _ _ _ _ _ _ _ _ _ _ _ _ _ _ _ _ _ _ _ _ _ _ _ _ _ _ _ _ _ _ _ _ _ _ _ _ _ _ _ _ _ _ _ _ _ _ _ _ _ _ _ _ _ _ _ _ _ _ _ _ _ _ _ _ _ _ _ _ _ _ _ _ _ _ _ _ _ _ _ _ _ _ _ _ _ _ _ _ _ _ _ _ _ _ _ _ _ _ _ _ _ _ _ _ _ _ _ _ _ _ _ _ _ _ _ _ _ _ _ _ _ _ _ _ _ _ _ _ _ _ _ _ _ _ _ _ _ _ _ _ _ _ _ _ _ _ _ _ _ _ _ _ _ _ _ _ _ _ _ _ _ _ _ _ _ _ _ _ _ _ _ _ _ _ _ _ _ _ _ _ _ _ _ _ _ _ _ _ _ _ _ _ _ _ _ _ _ _ _ _ _ _ _ _ _ _ _ _ _ _ _ _ _ _ _ _ _ _ _ _ _ _ _ _ _ _ _ _ _ _ _ _ _ _ _ _ _ _ _ _ _ _ _ _ _ _ _ _ _ _ _ _ _ _ _ _ _ _ _ _ _ _ _ _ _ _ _ _ _ _ _ _ _ _ _ _ _ _ _ _ _ _ _ _ _ _ _ _ _ _ _ _ _ _ _ _ _ _ _ _ _ _ ?_
        intro t0 t1 t2 t3 t4 t5 t6 t7 t8 t9 t10 t11 t12 t13 t14 t15 t16 t17 t18 t19 t20 t21 nq2 _
        have H14 := Lib.hid (H13.out.below ((Drawn.mk w13 nq2).below _))
        generalize w13.drewN nq2 = w14 at H14 ⊢
        have x0 := cell_of_one H14.out.v
        have hk6 : (k : Int) ≤ 1000 := by have := H61.out.2.2.2.2; have := HP.out.2.2.2.2.2; omega
        clear H13
        go_wp2_with fail
        refine (front_any H14.out.p.r k (by omega)).mono ?_
        rintro e w15 ⟨g, cap, rfl, hc1, hc2, ⟨S, hF⟩, b15⟩
        have H15 := Lib.hid (And.intro (H14.out.below b15) (And.intro hF (And.intro hc1 (And.intro H61.out.2.2.2.2 b15.size))))
        have HM := Lib.hid (fin63 (cap := cap) H15.out.1.p H15.out.2.1 H15.out.2.2.2.1 (fun z hz => H14.out.p.m.lt z (.inl hz)) (fun z hz => H14.out.p.m.lt z (.inr hz)))
        clear hF hc1 hc2 b15 x0
        go_wp2_with fail
        refine HM.out.mono ?_
        rintro e w16 ⟨k0, blF, h1, h2, h3, rfl, hP16, hfx, hF16, hbF, hs16⟩
        have q2 : w16.heap[rb]? = some (.cells #[.bool false] 4 (0, 0)) := (hfx rb (by simp)).trans H15.out.1.r
        have q3 : w16.heap[xv]? = some (.cells #[.pointer (some ⟨xb, 0, none⟩)] 29 (0, 0)) := (hfx xv (by simp)).trans H15.out.1.v
        have q4 : w16.heap[D]? = some (.deferred (some [])) := (hfx D (by simp)).trans H15.out.1.d
        have hxb : xb < w14.heap.size := by
          obtain ⟨_, _, _, _, _, h⟩ := H14.out.cells
          exact h
        have HM2 := Lib.hid (fin64 (cap := cap) hP16 hF16 h1 h2 rfl h3 hbF (fun z hz => H14.out.p.m.lt z (.inr hz)) (fun z hz => (H14.out.p.f z hz).2.1) hxb ⟨H14.out.p.bs, H15.out.2.2.2.2, hs16⟩)
        have x0 := cell_of_one q3
        have H16 := Lib.hid (And.intro q2 q4)
        have hk0 : (k0 : Int) ≤ 1000 := by have := HP.out.2.2.2.2.2; omega
        clear HM h1 h2 h3 hP16 hfx hF16 hbF hs16 q2 q3 q4 hxb
        go_wp2_with fail
        refine HM2.out.mono ?_
        rintro e w17 ⟨rfl, hS17, hfx2⟩
        have H17 := Lib.hid (And.intro hS17 (And.intro ((hfx2 rb (by simp)).trans H16.out.1) ((hfx2 D (by simp)).trans H16.out.2)))
        clear HM2 hS17 hfx2 x0 H16
        go_wp2_with fail
        refine (H17.out.1.waits).mono ?_
        rintro e w18 ⟨rfl, rfl⟩
        have HSe := Lib.hid (FinS.secs (cap := cap) H17.out.1)
        go_wp2_with fail
        refine HSe.out.mono ?_
        rintro e w18 ⟨og, rfl, hS18, b18, hSm⟩
        have HSm := Lib.hid hSm
        clear HSe hS18 b18 hSm
        go_wp2_with fail
        refine HSm.out.mono ?_
        rintro e w19 ⟨rfl, hS19, b19⟩
        have b20 := b19.trans (((Below.refl w19.heap.size w19).drew).mono b19.size)
        have hS20 := hS19.below ((Below.refl w19.heap.size w19).drew)
        have H20 := Lib.hid (And.intro ((b20.block rb (lt_of_block H17.out.2.1)).trans H17.out.2.1) ((b20.block D (lt_of_block H17.out.2.2)).trans H17.out.2.2))
        obtain ⟨kb, m, c', b0, z0, z1, z2, z3, z4, z5, z6, z7⟩ := fin67 (cap := cap) hS20
        have H67 := Lib.hid (And.intro z0 (And.intro z1 (And.intro z2 (And.intro z3 (And.intro z4 (And.intro z5 (And.intro z6 z7)))))))
        clear HSm hS19 b19 b20 hS20 z0 z1 z2 z3 z4 z5 z6 z7
        go_upto_region 67 with (fail)
        refine wp_code (c := reg67) (by kernel_rfl) ?_
        refine r67 H67.out.1 H67.out.2.2.2.2.2.2.1 H67.out.2.1 H67.out.2.2.1 H67.out.2.2.2.1 H67.out.2.2.2.2.1 H67.out.2.2.2.2.2.1 H15.out.2.2.1 _ _ _ _ _ _ _ _ _ _ _ _ _ _ _ _ _ _ _ _ _ _ _ _ _ _ _ _ _ _ _ _ _ _ _ _ _ _ _ _ _ _ _ _ _ _ _ _ _ _ _ _ _ _ _ _ _ _ _ _ _ _ _ _ _ _ _ _ _ _ _ _ _ _ _ _ _ _ _ _ _ _ _ _ _ _ _ _ _ _ _ _ _ _ _ _ _ _ _ _ _ _ _ _ _ _ _ _ _ _ _ _ _ _ _ _ _ _ _ _ _ _ _ _ _ _ _ _ _ _ _ _ _ _ _ _ _ _ _ _ _ _ _ _ _ _ _ _ _ _ _ _ _ _ _ _ _ _ _ _ _ _ _ _ _ _ _ _ _ _ _ _ _ _ _ _ _ _ _ _ _ _ _ _ _ _ _ _ _ _ _ _ _ _ _ _ _ _ _ _ _ _ _ _ _ _ _ _ _ _ _ _ _ _ _ _ _ _ _ _ _ _ _ _ _ _ _ _ _ _ _ _ _ _ _ _ _ _ _ _ _ _ _ _ _ _ _ _ _ _ _ _ _ _ _ _ _ _ _ _ _ _ _ _ _ _ _ _ _ _ _ _ _ _ _ _ _ _ _ _ _ _ _ _ _ _ _ _ _ _ _ _ _ _ _ _ _ _ _ _ _ _ _ _ _ _ _ _ _ _ _ _ _ _ _ _ _ _ _ _ _ _ _ _ _ _ _ _ _ _ _ _ _ _ _ _ _ _ _ _ _ _ _ _ _ _ _ _ _ _ _ _ _ _ _ _ _ _ _ _ _ _ _ _ _ _ _ _ _ _ _ _ _ ?_
        intro t0 t1 t2 t3 t4 t5 t6 t7 t8 t9 w21 hw21
        have hq := H67.out.2.2.2.2.2.2.2 _ _ rfl (b_inc b0)
        rw [← hw21] at hq
        have HM3 := Lib.hid hq.2
        clear hq hw21 H67
        go_wp2_with fail
        refine HM3.out.mono ?_
        rintro e w22 ⟨rfl, b22, hfx3⟩
        have q2 : w22.heap[rb]? = some (.cells #[.bool false] 4 (0, 0)) := (hfx3 rb (by simp)).trans H20.out.1
        have q4 : w22.heap[D]? = some (.deferred (some [])) := (hfx3 D (by simp)).trans H20.out.2
        have g1 := cell_of_one q2
        have g2 := free_of_one q2
        have H22 := Lib.hid (And.intro q2 (And.intro q4 b22))
        clear HM3 q2 q4 b22 hfx3
        go_wp2_with fail
        refine marks_post [D] _ (by simp) (fun X hX => ?_) (fun W' e1 e2 e3 e4 e5 => ?_)
        · rw [List.mem_singleton.1 hX]
          exact ((Only.setCell w22 ⟨rb, 0, none⟩ (.bool true)).block D HNe.out.1).trans H22.out.2.1
        · have f5 : ∀ z, z ≠ D → W'.heap[z]? = (w22.setCell ⟨rb, 0, none⟩ (.bool true)).heap[z]? := fun z hz => e5 z (by simpa using hz)
          have hb : Below base w (w22.setCell ⟨rb, 0, none⟩ (.bool true)) := H22.out.2.2.setCell HPR.out.2.2.1 _
          have hDb : base ≤ D := (H14.out.p.f D (by simp)).1
          exact ⟨_, res_bool rfl rfl (cell_of_one ((f5 rb (Ne.symm HNe.out.1)).trans (one_setCell H22.out.1))), rfl, hb.trans ⟨e1, e2, e3, by rw [e4]; exact Nat.le_refl _, fun z hz => f5 z (by omega)⟩⟩
theorem walk (a0 a1 : Int) (a2 : Option Addr) (len2 cap2 : Nat) (z2 : Nat → MdV) (a3 a4 a5 : Int) (W : World) (w0 : (Lit.int .i64 a0).wf = true) (w1 : (Lit.int .i64 a1).wf = true) (w2 : RowMd W a2 len2 z2) (w3 : (Lit.int .i64 a3).wf = true) (w4 : (Lit.int .i64 a4).wf = true) (w5 : (Lit.int .i64 a5).wf = true) (h : LaidModelPlays.Holds W) :
    Calls Tryd.prog 3 #[.int .i64 a0, .int .i64 a1, .slice a2 len2 cap2, .int .i64 a3, .int .i64 a4, .int .i64 a5] W fun e w' => e = .returned (.bool true) ∧ Below W.heap.size W w' := by
  obtain ⟨f, ⟨EN, EG, ES⟩, _⟩ := h
  exact core a0 a1 a2 len2 cap2 z2 a3 a4 a5 W f EN EG ES w2
end Go.Proofs.YtbngkmlipmhgdaaDoor.walkModelPlays
