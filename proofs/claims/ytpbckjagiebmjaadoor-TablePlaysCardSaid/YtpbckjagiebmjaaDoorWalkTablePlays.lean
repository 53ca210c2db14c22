/- The walk over TablePlays. By the verifier of shale. -/
import Derived.Test.YtpbckjagiebmjaaDoorGreat1
import Derived.Test.YtpbckjagiebmjaaDoorGreat2
import Derived.Test.YtpbckjagiebmjaaDoorGreat3
import Derived.Test.YtpbckjagiebmjaaDoorTbSetP
import Derived.Test.YtpbckjagiebmjaaDoorTbAskP
import Derived.Test.YtpbckjagiebmjaaDoorTbFin
import Derived.Test.YtpbckjagiebmjaaDoorLaidTablePlays
import Derived.Deep.Cut
import Derived.Deep.CutRange
import Derived.Deep.CutBlock
import Derived.Deep.RegionHeld3
import Derived.Lib.QuietBelow
import Derived.LoopN
import Derived.Shelf.Abstract
import Derived.RangeFuncCalls
namespace Go.Proofs.YtpbckjagiebmjaaDoor.walkTablePlays
open Go Go.RowKit Tb
set_option linter.unusedVariables false
set_option linter.unusedSimpArgs false
attribute [local go_sem] Oper.semAt_some
set_option maxRecDepth 100000 in
set_option maxHeartbeats 40000000 in
theorem core (x0 x1 : Int) (a : Option Addr) (n c : Nat) (D : Nat → DoT) (x3 pB pP x5 : Int) (w : World) (f : Nat → Addr) (E : AllErrs w f) (R : RowTd w a n D) (hk3 : (Lit.int .i64 x3).wf = true) :
    Calls Tryd.prog 3 #[.int .i64 x0, .int .i64 x1, .slice a n c, .int .i64 x3, .agg #[.int .i64 pB, .int .i64 pP], .int .i64 x5] w fun e w' => e = .returned (.bool true) ∧ Below w.heap.size w w' := by
  obtain ⟨base, hbase⟩ : ∃ base, base = w.heap.size := ⟨_, rfl⟩
  have HBS := Lib.hid hbase
  have HWF := Lib.hid (And.intro hk3 R.2.2)
  have HLW : Hid (∀ W, Below base w W → AllErrs W f ∧ ∀ i, i < n → ∃ kb off, a = some ⟨kb, off, none⟩ ∧ kb < base ∧ DoTAt W kb (off + i * 10) (D i)) := fun W b => by
    refine ⟨E.below (by rw [← hbase]; exact b), fun i hi => ?_⟩
    obtain ⟨kb, off, h1, h2⟩ := R.2.1 i hi
    have hk : kb < base := by rw [hbase]; exact World.block_lt_of_cell? w _ h2.1
    have hb := b.block kb hk
    obtain ⟨d0, d1, d2, d3, d4, d5, d6, d7, d8, d9⟩ := h2
    exact ⟨kb, off, h1, hk, (cell_heapT hb).trans d0, (cell_heapT hb).trans d1, (cell_heapT hb).trans d2, (cell_heapT hb).trans d3, (cell_heapT hb).trans d4, (cell_heapT hb).trans d5, (cell_heapT hb).trans d6, (cell_heapT hb).trans d7, (cell_heapT hb).trans d8, (cell_heapT hb).trans d9⟩
  have hn := R.1
  unfold maxLen at hn
  have B0 : Below base w w := Below.refl _ _
  rw [← hbase]
  clear E R hbase hk3
  refine (callsIn_wide (n := 3)).1 ?_
  refine callsIn_of_wp_marks Tryd.func3 rfl trivial ?_ rfl
  simp only [Tryd.ntmps3, List.size_toArray, List.length_cons, List.length_nil, Nat.reduceAdd, Nat.reduceSub, Array.replicate_succ, Array.replicate_zero, List.push_toArray, List.append_toArray, List.nil_append, List.cons_append]
  refine wpIn_wide.2 ?_
  go_wp2_with fail
  generalize hw : w.alloc (.cells #[.int .i64 pB, .int .i64 pP] 24 (0, 0)) = w0
  obtain ⟨K0, b⟩ := newPl w w0 _ _ hw
  have hs0 : w0.heap.size = w.heap.size + 1 := by rw [← hw]; simp
  clear hw
  replace B0 := belB HBS.out B0 b
  clear b
  rw [← hs0]
  generalize hw : w0.alloc (.cells #[.int .i64 x5] 3 (0, 0)) = w1
  obtain ⟨K1, b⟩ := newI64 w0 w1 _ hw
  have hs1 : w1.heap.size = w0.heap.size + 1 := by rw [← hw]; simp
  clear hw
  replace K0 := (b.block _ (lt_of_block K0)).trans K0
  replace B0 := belB HBS.out B0 b
  clear b
  try rw [show w.heap.size + 1 + 1 = w1.heap.size from by rw [hs1, hs0]]
  try rw [← hs1]
  generalize hw : w1.alloc (.cells #[.bool false] 4 (0, 0)) = w2
  obtain ⟨K2, b⟩ := newBool w1 w2 _ hw
  clear hw
  obtain ⟨pb, hpb⟩ : ∃ pb, pb = w.heap.size := ⟨_, rfl⟩
  obtain ⟨sb, hsb⟩ : ∃ sb, sb = w0.heap.size := ⟨_, rfl⟩
  obtain ⟨rb, hrb⟩ : ∃ rb, rb = w1.heap.size := ⟨_, rfl⟩
  rw [← hpb] at K0 ⊢
  rw [← hsb] at K1 ⊢
  rw [← hrb] at K2 ⊢
  have HPR : Hid (sb ≠ rb ∧ base ≤ sb ∧ base ≤ rb ∧ pb ≠ rb ∧ base ≤ pb ∧ pb ≠ sb) := by have := HBS.out; exact ⟨by omega, by omega, by omega, by omega, by omega, by omega⟩
  clear hpb hsb hrb hs0 hs1
  replace K0 := (b.block _ (lt_of_block K0)).trans K0
  replace K1 := (b.block _ (lt_of_block K1)).trans K1
  replace B0 := belB HBS.out B0 b
  clear b
  have HF1 := Lib.hid (first20_any w2 (HLW.out _ B0).1.1.2.2.2.2.2.2.2.2.2.1 (HLW.out _ B0).1.1.2.1)
  refine HF1.out.mono ?_
  rintro e w3 ⟨rfl, b⟩
  replace K0 := (b.block _ (lt_of_block K0)).trans K0
  replace K1 := (b.block _ (lt_of_block K1)).trans K1
  replace K2 := (b.block _ (lt_of_block K2)).trans K2
  replace B0 := belB HBS.out B0 b
  clear b HF1
  by_cases hn : 100 < n
  · have t : decide ((100 : Int) < (n : Int)) = true := decide_eq_true (by omega)
    have g1 : w3.cell? ⟨rb, 0, none⟩ = some (.bool false) := cell_of_one K2
    have g2 := free_of_one K2
    have HB := Lib.hid B0
    have HK2 := Lib.hid K2
    clear K0 K1 K2 B0 HLW hn HWF
    go_wp2_with fail
    have g3 : (w3.setCell ⟨rb, 0, none⟩ (.bool true)).cell? ⟨rb, 0, none⟩ = some (.bool true) := cell_of_one (one_setCell HK2.out)
    exact ⟨_, res_bool rfl rfl g3, rfl, HB.out.setCell HPR.out.2.2.1 _⟩
  have t : decide ((100 : Int) < (n : Int)) = false := decide_eq_false (by omega)
  by_cases hmay : 1 ≤ x0 ∧ x0 ≤ 64 ∧ 1 ≤ x1 ∧ x1 ≤ 64
  · obtain ⟨m1, m2, m3, m4⟩ := hmay
    have t1 : decide (1 ≤ x0) = true := decide_eq_true m1
    have t2 : decide (x0 ≤ 64) = true := decide_eq_true m2
    have t3 : decide (1 ≤ x1) = true := decide_eq_true m3
    have t4 : decide (x1 ≤ 64) = true := decide_eq_true m4
    obtain ⟨B, hB⟩ : ∃ B : Nat, x0 = (B : Int) := ⟨x0.toNat, by omega⟩
    obtain ⟨P, hP⟩ : ∃ P : Nat, x1 = (P : Int) := ⟨x1.toNat, by omega⟩
    have HBP : Hid (0 < B ∧ B ≤ 64 ∧ 0 < P ∧ P ≤ 64 ∧ x0 = (B : Int) ∧ x1 = (P : Int)) := ⟨by omega, by omega, by omega, by omega, hB, hP⟩
    clear m1 m2 m3 m4 hB hP
    have HNew : Hid (Calls Tryd.prog 7 #[.int .i64 x0, .int .i64 x1] w3 (MadeT w3 B P)) := by rw [HBP.out.2.2.2.2.1, HBP.out.2.2.2.2.2]; exact new_any HBP.out.1 HBP.out.2.1 HBP.out.2.2.1 HBP.out.2.2.2.1 w3
    go_wp2_with fail
    refine HNew.out.mono ?_
    rintro e w4 ⟨tb, mb, ob, cO, kb, rfl, T0, b4⟩
    obtain ⟨bb, hbb⟩ : ∃ bb, bb = w3.heap.size := ⟨_, rfl⟩
    rw [← hbb] at T0 b4
    have hpl := lt_of_block K0
    have hsl := lt_of_block K1
    have hrl := lt_of_block K2
    rw [← hbb] at hpl hsl hrl
    have HBB : Hid (base ≤ bb ∧ pb < bb ∧ sb < bb ∧ rb < bb ∧ bb = w3.heap.size) := ⟨by have := HPR.out.2.1; omega, hpl, hsl, hrl, hbb⟩
    have HLO : Hid (∀ W, Below bb w3 W → Low base pb sb rb w a n D pB pP x5 f W) := fun W b => by
      have bW : Below base w W := B0.trans (b.mono HBB.out.1)
      exact ⟨(b.block pb HBB.out.2.1).trans K0, (b.block sb HBB.out.2.2.1).trans K1, (b.block rb HBB.out.2.2.2.1).trans K2, bW, (HLW.out W bW).1, (HLW.out W bW).2⟩
    have HS4 := Lib.hid (And.intro T0 b4)
    have HNN := Lib.hid hn
    clear T0 b4 hbb hpl hsl hrl K0 K1 K2 B0 HLW hn HNew
    go_wp2_with fail
    generalize hw : w4.alloc (.cells #[.int .i64 x0, .int .i64 x1, .slice none 0 0] 34 (0, 0)) = w5
    obtain ⟨PR, b5, hs5⟩ := newRef w4 w5 _ _ hw
    try rw [← hs5]
    clear hw
    obtain ⟨B4, hB4⟩ : ∃ B4, B4 = w4.heap.size := ⟨_, rfl⟩
    rw [← hB4] at PR hs5 ⊢
    try rw [← hs5]
    generalize hw : w5.alloc (.cells #[.pointer (some ⟨B4, 0, none⟩)] 31 (0, 0)) = w6
    obtain ⟨KP, b6⟩ := newPtr w5 w6 _ hw
    clear hw
    obtain ⟨xp, hxp⟩ : ∃ xp, xp = w5.heap.size := ⟨_, rfl⟩
    rw [← hxp] at KP ⊢
    have HS : Hid (PT w3 bb B4 B4 xp tb mb ob B P cO kb 0 w6) := by
      have b46 := b5.trans (b6.mono b5.size)
      have hT := HS4.out.1
      have hold := tab_old hT
      refine ⟨_, _, 0, 0, none, 0, [], ⟨hT.below b46, ?_, KP, ?_, ⟨by omega, by simp [tblR]; omega⟩, fun _ => rfl, ?_, ?_⟩, listOf_nil, Nat.le_refl _, Nat.le_refl _⟩
      · rw [← HBP.out.2.2.2.2.1, ← HBP.out.2.2.2.2.2]; exact PR.below b6
      · rw [hB4]; exact ⟨hold.1, hold.2.2.1, hold.2.1, hold.2.2.2⟩
      · exact HS4.out.2.trans (b46.mono (by rw [HBB.out.2.2.2.2]; exact HS4.out.2.size))
      · rw [hB4, HBB.out.2.2.2.2]; exact HS4.out.2.size
    clear PR KP b5 b6 hs5 hB4 hxp t HS4 t1 t2 t3 t4
    go_wp2_with fail
    go_loopg [18] n (fun gh s18 wx => ∃ i : Nat, gh = n - i ∧ i ≤ n ∧ s18 = .int .i64 (i : Int) ∧ Hid (PT w3 bb B4 B4 xp tb mb ob B P cO kb i wx))
    case atStart => exact ⟨0, rfl, Nat.zero_le _, rfl, HS⟩
    case round =>
      clear HS
      obtain ⟨i, hg, hin, rfl, HX⟩ := hrel
      have HI := Lib.hid hg
      have h100 : i ≤ 100 := by have := HNN.out; omega
      clear hg
      by_cases hlt : i < n
      · have y1 : (i : Int) < (n : Int) := by omega
        have y0 : (0 : Int) ≤ (i : Int) := by omega
        obtain ⟨kf, m, cnt, nb, a1, c1, Rl, hP, hM, hcn, hnb⟩ := HX.out
        have HM := Lib.hid (And.intro hM (And.intro hcn hnb))
        have HP := Lib.hid hP
        obtain ⟨kd, off, rfl, hkd, hD⟩ := (HLO.out wr hP.bel).2.2.2.2.2 i hlt
        obtain ⟨d, hd⟩ : ∃ d, d = D i := ⟨_, rfl⟩
        rw [← hd] at hD
        have c9 := hD.2.2.2.2.2.2.2.2.2
        have HKB : Hid (∀ W, Below bb w3 W → DoTAt W kd (off + i * 10) d) := fun W b => by
          obtain ⟨kb', off', e, _, h⟩ := (HLO.out W b).2.2.2.2.2 i hlt
          simp only [Option.some.injEq, Addr.mk.injEq, and_true] at e
          obtain ⟨rfl, rfl⟩ := e
          rw [hd]
          exact h
        have HDW : Hid ((Lit.int .i64 d.key).wf = true) := by rw [hd]; exact HWF.out.2 i hlt
        have HLT := Lib.hid hlt
        clear hP hM hcn hnb hkd hD HX hd hlt hin
        obtain ⟨dr, hdr⟩ : ∃ dr, dr = d.drop := ⟨_, rfl⟩
        rw [← hdr] at c9
        clear hdr
        go_upto_if 94 with (fail)
        go_cut [19, 20, 21, 22, 23, 24] from 84 to 287 (fun s19 s20 s21 s22 s23 s24 wx => Hid (PT w3 bb B4 B4 xp tb mb ob B P cO kb (i + 1) wx))
        case first =>
          clear c9
          cases dr with
          | true =>
            as_aux_lemma =>
              obtain ⟨kk, hkk⟩ : ∃ kk, kk = d.key := ⟨_, rfl⟩
              have hS : ∀ W kf m cnt nb a c R, PCt w3 bb B4 B4 xp tb mb ob B P cO kb kf m cnt nb a c R W → (W.cell? ⟨kd, off + i * 10, none⟩ = some (.int .i64 kk) ∧ W.cell? ⟨xp, 0, none⟩ = some (.pointer (some ⟨B4, 0, none⟩))) := fun W kf m cnt nb a c R p => ⟨by rw [hkk]; exact (HKB.out W p.bel).1, p.ptr⟩
              obtain ⟨r, Z2, hA, hB⟩ := trip_drop (S := fun W => (W.cell? ⟨kd, off + i * 10, none⟩ = some (.int .i64 kk) ∧ W.cell? ⟨xp, 0, none⟩ = some (.pointer (some ⟨B4, 0, none⟩)))) hS HM.out.1 (Nat.le_trans HM.out.2.1 (Nat.le_succ i)) (Nat.le_trans HM.out.2.2 (Nat.le_succ i)) (by omega) HDW.out wr HP.out
              rw [← hkk] at hA hB
              have HA := Lib.hid hA
              have HB := Lib.hid hB
              have hZ0 := HP.out.below ((Drawn.mk wr 1).below _)
              have hS0 := hS _ _ _ _ _ _ _ _ hZ0
              have ub : (r != r) = false := by cases r <;> rfl
              clear hA hB hS hkk
              go_upto_region 15 with (fail)
              go_region_held3 (fun W => (W.cell? ⟨kd, off + i * 10, none⟩ = some (.int .i64 kk) ∧ W.cell? ⟨xp, 0, none⟩ = some (.pointer (some ⟨B4, 0, none⟩))))
                (first | assumption | exact ⟨by assumption, by assumption⟩)
                ((first
                  | (go_at_call 8; refine Calls.mono (HA.out _ (by assumption)) ?_; rintro e wA ⟨rfl, hSA, hZA⟩)
                  | (go_at_call 9; refine Calls.mono (HB.out _ (by assumption)) ?_; rintro e wB ⟨rfl, hSB, hZB⟩)))
              have HN := Lib.hid hZB
              clear hS0 hZ0 hSA hZA hSB hZB HA HB
              go_wp2_with fail
              go_meet
              case rel => exact HN
          | false =>
            refine wp_code (c := code94) (by kernel_rfl) ?_
            refine Code.wp_mono then_noPanic ?_
            refine set_part (n := n) (f := f) HP.out HM.out.1 HM.out.2.1 HM.out.2.2 h100 HLT.out HKB.out (fun W b => (HLO.out W b).2.2.2.2.1) _ _ _ _ _ _ _ _ _ _ _ _ _ _ _ _ _ _ _ _ _ _ _ _ _ _ _ _ _ _ _ _ _ _ _ _ _ _ _ _ _ _ _ _ _ _ _ _ _ _ _ _ _ _ _ _ _ _ _ _ _ _ _ _ _ _ _ _ _ _ _ _ _ _ _ _ _ _ _ _ _ _ _ _ _ _ _ _ _ _ _ _ _ _ _ _ _ _ _ _ _ _ _ _ _ _ _ _ _ _ _ _ _ _ _ _ _ _ _ _ _ _ _ _ _ _ _ _ _ _ _ _ _ _ _ _ _ _ _ _ _ _ _ _ _ _ _ _ _ _ _ _ _ _ _ _ _ _ _ _ _ _ _ _ _ _ _ _ _ _ _ _ _ _ _ _ _ _ _ _ _ _ _ _ _ _ _ _ _ _ _ _ _ _ _ _ _ _ _ _ _ _ _ _ _ _ _ _ _ _ _ _ _ _ _ _ _ _ _ _ _ _ _ _ _ _ _ _ _ _ _ _ _ _ _ _ _ _ _ _ _ _ _ _ _ _ _ _ _ _ _ _ _ _ _ _ _ _ _ _ _ _ _ _ _ _ _ _ _ _ _ _ _ _ _ _ _ _ _ _ _ _ _ _ _ _ _ _ _ _ _ _ _ _ _ _ _ _ _ _ _ _ _ _ _ _ _ _ _ _ _ _ _ _ _ _ _ _ _ _ _ _ _ _ _ _ _ _ _ _ _ _ _ _ _ _ _ _ _ _ _ _ _ _ _ _ _ _ _ _ _ _ _ _ ?_
            intro u19 u20 u21 u22 u23 u24 u84 u85 u86 u87 u88 u89 u90 u91 u92 u93 u94 u95 u96 u97 u98 u99 u100 u101 u102 u103 u104 u105 u106 u107 u108 u109 u110 u111 u112 u113 u114 u115 u116 u117 u118 u119 u120 u121 u122 u123 u124 u125 u126 u127 u128 u129 u130 u131 u132 u133 u134 u135 u136 u137 u138 u139 u140 u141 u142 u143 u144 u145 u146 u147 u148 u149 u150 u151 u152 u153 u154 u155 u156 u157 u158 u159 u160 u161 u162 u163 u164 u165 u166 u167 u168 u169 u170 u171 u172 u173 u174 u175 u176 u177 u178 u179 u180 u181 u182 u183 u184 u185 u186 u187 u188 u189 u190 u191 u192 u193 u194 u195 u196 u197 u198 u199 u200 u201 u202 u203 u204 u205 u206 u207 u208 u209 u210 u211 u212 u213 u214 u215 u216 u217 u218 u219 u220 u221 u222 u223 u224 u225 u226 u227 u228 u229 u230 u231 u232 u233 u234 u235 u236 u237 u238 u239 u240 u241 u242 u243 u244 u245 u246 u247 u248 u249 u250 u251 u252 u253 u254 u255 u256 u257 u258 u259 u260 u261 u262 u263 u264 u265 u266 u267 u268 u269 u270 u271 u272 u273 u274 u275 u276 u277 u278 u279 u280 u281 u282 u283 u284 u285 u286 u287 w' hN
            have HN := Lib.hid hN
            clear hN
            dsimp only
            go_wp2_with fail
            go_meet
            case rel => exact HN
        case rest =>
          clear HP HM HKB HDW
          have HC := Lib.hid hcut.out
          clear hcut
          go_upto_region 21 with (fail)
          refine wp_code (c := reg21) (by kernel_rfl) ?_
          refine ask_part (n := 0) HC.out h100 HWF.out.1 (fun W b => (HLO.out W b).1) _ _ _ _ _ _ _ _ _ _ _ _ _ _ _ _ _ _ _ _ _ _ _ _ _ _ _ _ _ _ _ _ _ _ _ _ _ _ _ _ _ _ _ _ _ _ _ _ _ _ _ _ _ _ _ _ _ _ _ _ _ _ _ _ _ _ _ _ _ _ _ _ _ _ _ _ _ _ _ _ _ _ _ _ _ _ _ _ _ _ _ _ _ _ _ _ _ _ _ _ _ _ _ _ _ _ _ _ _ _ _ _ _ _ _ _ _ _ _ _ _ _ _ _ _ _ _ _ _ _ _ _ _ _ _ _ _ _ _ _ _ _ _ _ _ _ _ _ _ _ _ _ _ _ _ _ _ _ _ _ _ _ _ _ _ _ _ _ _ _ _ _ _ _ _ _ _ _ _ _ _ _ _ _ _ _ _ _ _ _ _ _ _ _ _ _ _ _ _ _ _ _ _ _ _ _ _ _ _ _ _ _ _ _ _ _ _ _ _ _ _ _ _ _ _ _ _ _ _ _ _ _ _ _ _ _ _ _ _ _ _ _ _ _ _ _ _ _ _ _ _ _ _ _ _ _ _ _ _ _ _ _ _ _ _ _ _ _ _ _ _ _ _ _ _ _ _ _ _ _ _ _ _ _ _ _ _ _ _ _ _ _ _ _ _ _ _ _ _ _ _ _ _ _ _ _ _ _ _ _ _ _ _ _ _ _ _ _ _ _ _ _ _ _ _ _ _ _ _ _ _ _ _ _ _ _ _ _ _ _ _ _ _ _ _ _ _ _ _ _ _ _ _ _ _ (wp_into (c := ?c21) ?h21 ?e21) ?m21
          case h21 => assumption
          case e21 => kernel_rfl
          intro u25 u26 u27 u28 u29 u30 u31 u167 u168 u169 u170 u171 u172 u173 u174 u175 u176 u177 u178 u179 u180 u181 u182 u183 u184 u185 u186 u187 u188 u189 u190 u191 u192 u193 u194 u195 u196 u197 u198 u199 u200 u201 u202 u203 u204 u205 u206 u207 u208 u209 u210 u211 u212 u213 u214 u215 u216 u217 u218 u219 u220 u221 u222 u223 u224 u225 u226 u227 u228 u229 u230 u231 u232 u233 u234 u235 u236 u237 u238 u239 u240 u241 u242 u243 u244 u245 u246 u247 u248 u249 u250 u251 u252 u253 u254 u255 u256 u257 u258 u259 u260 u261 u262 u263 u264 u265 u266 u267 u268 u269 u270 u271 u272 u273 u274 u275 u276 u277 u278 u279 u280 u281 u282 u283 u284 u285 u286 u287 w' hN
          have HNx := Lib.hid hN
          clear hN HC
          dsimp only
          go_wp2_with fail
          go_roundg (n - (i + 1))
          case measure => have := HI.out; omega
          case rel => exact ⟨i + 1, rfl, HLT.out, by go_num, HNx⟩
      · obtain rfl : i = n := by omega
        go_upto_region 34 with (fail)
        refine wp_code (c := reg34) (by kernel_rfl) ?_
        refine fin_part HPR HBB HX h100 HLO _ _ _ _ _ _ _ _ _ _ _ _ _ _ _ _ _ _ _ _ _ _ _ _ _ _ _ _ _ _ _ _ _ _ _ _ _ _ _ _ _ _ _ _ _ _ _ _ _ _ _ _ _ _ _ _ _ _ _ _ _ _ _ _ _ _ _ _ _ _ _ _ _ _ _ _ _ _ _ _ _ _ _ _ _ _ _ _ _ _ _ _ _ _ _ _ _ _ _ _ _ _ _ _ _ _ _ _ _ _ _ _ _ _ _ _ _ _ _ _ _ _ _ _ _ _ _ _ _ _ _ _ _ _ _ _ _ _ _ _ _ _ _ _ _ _ _ _ _ _ _ _ _ _ _ _ _ _ _ _ _ _ _ _ _ _ _ _ _ _ _ _ _ _ _ _ _ _ _ _ _ _ _ _ _ _ _ _ _ _ _ _ _ _ _ _ _ _ _ _ _ _ _ _ _ _ _ _ _ _ _ _ _ _ _ _ _ _ _ _ _ _ _ _ _ _ _ _ _ _ _ _ _ _ _ _ _ _ _ _ _ _ _ _ _ _ _ _ _ _ _ _ _ _ _ _ _ _ _ _ _ _ _ _ _ _ _ _ _ _ _ _ _ _ _ _ _ _ _ _ _ _ _ _ _ _ _ _ _ _ _ _ _ _ _ _ _ _ _ _ _ _ _ _ _ _ _ _ _ _ _ _ _ _ _ _ _ _ _ _ _ _ _ _ _ _ _ _ _ _ _ _ _ _ _ _ _ _ _ _ _ _ _ _ _ _ _ _ _ _ _ _ _ (wp_into (c := ?c6) ?h6 ?e6) (wp_into (c := ?c5) ?h5 ?e5)
        case h6 => assumption
        case h5 => assumption
        case e6 => kernel_rfl
        case e5 => kernel_rfl
  · have hno : (¬ 1 ≤ x0) ∨ (1 ≤ x0 ∧ ¬ x0 ≤ 64) ∨ (1 ≤ x0 ∧ x0 ≤ 64 ∧ ¬ 1 ≤ x1) ∨ (1 ≤ x0 ∧ x0 ≤ 64 ∧ 1 ≤ x1 ∧ ¬ x1 ≤ 64) := by omega
    have HEG := Lib.hid (HLW.out _ B0).1.1.2.2.2.2.2.2.2.1
    have HNo := Lib.hid (new_no x0 x1 hmay w3 HEG.out)
    have HB := Lib.hid B0
    have HK2 := Lib.hid K2
    clear K0 K1 K2 B0 HLW HWF hmay
    rcases hno with m1 | ⟨m1, m2⟩ | ⟨m1, m2, m3⟩ | ⟨m1, m2, m3, m4⟩
    · have t1 : decide (1 ≤ x0) = false := decide_eq_false m1
      clear m1
      go_wp2_with fail
      refine HNo.out.mono ?_
      rintro e w4 ⟨rfl, b⟩
      have q0 : w4.cell? ⟨0, 0, none⟩ = some (errOf (f 7)) := (HEG.out.below b).1
      have eqg : ∀ W, (binOp .eql 28 (errOf (f 7)) (errOf (f 7))).run Tryd.prog W = .ok (.bool true) W := fun W => eql_err (f 7) W
      have hk4 := (b.block _ (lt_of_block HK2.out)).trans HK2.out
      have g1 : w4.cell? ⟨rb, 0, none⟩ = some (.bool false) := cell_of_one hk4
      have g2 := free_of_one hk4
      have HK4 := Lib.hid hk4
      have HB4 := Lib.hid (belB HBS.out HB.out b)
      clear b hk4
      go_wp2_with fail
      have g3 : (w4.setCell ⟨rb, 0, none⟩ (.bool true)).cell? ⟨rb, 0, none⟩ = some (.bool true) := cell_of_one (one_setCell HK4.out)
      exact ⟨_, res_bool rfl rfl g3, rfl, HB4.out.setCell HPR.out.2.2.1 _⟩
    · have t1 : decide (1 ≤ x0) = true := decide_eq_true m1
      have t2 : decide (x0 ≤ 64) = false := decide_eq_false m2
      clear m1 m2
      go_wp2_with fail
      refine HNo.out.mono ?_
      rintro e w4 ⟨rfl, b⟩
      have q0 : w4.cell? ⟨0, 0, none⟩ = some (errOf (f 7)) := (HEG.out.below b).1
      have eqg : ∀ W, (binOp .eql 28 (errOf (f 7)) (errOf (f 7))).run Tryd.prog W = .ok (.bool true) W := fun W => eql_err (f 7) W
      have hk4 := (b.block _ (lt_of_block HK2.out)).trans HK2.out
      have g1 : w4.cell? ⟨rb, 0, none⟩ = some (.bool false) := cell_of_one hk4
      have g2 := free_of_one hk4
      have HK4 := Lib.hid hk4
      have HB4 := Lib.hid (belB HBS.out HB.out b)
      clear b hk4
      go_wp2_with fail
      have g3 : (w4.setCell ⟨rb, 0, none⟩ (.bool true)).cell? ⟨rb, 0, none⟩ = some (.bool true) := cell_of_one (one_setCell HK4.out)
      exact ⟨_, res_bool rfl rfl g3, rfl, HB4.out.setCell HPR.out.2.2.1 _⟩
    · have t1 : decide (1 ≤ x0) = true := decide_eq_true m1
      have t2 : decide (x0 ≤ 64) = true := decide_eq_true m2
      have t3 : decide (1 ≤ x1) = false := decide_eq_false m3
      clear m1 m2 m3
      go_wp2_with fail
      refine HNo.out.mono ?_
      rintro e w4 ⟨rfl, b⟩
      have q0 : w4.cell? ⟨0, 0, none⟩ = some (errOf (f 7)) := (HEG.out.below b).1
      have eqg : ∀ W, (binOp .eql 28 (errOf (f 7)) (errOf (f 7))).run Tryd.prog W = .ok (.bool true) W := fun W => eql_err (f 7) W
      have hk4 := (b.block _ (lt_of_block HK2.out)).trans HK2.out
      have g1 : w4.cell? ⟨rb, 0, none⟩ = some (.bool false) := cell_of_one hk4
      have g2 := free_of_one hk4
      have HK4 := Lib.hid hk4
      have HB4 := Lib.hid (belB HBS.out HB.out b)
      clear b hk4
      go_wp2_with fail
      have g3 : (w4.setCell ⟨rb, 0, none⟩ (.bool true)).cell? ⟨rb, 0, none⟩ = some (.bool true) := cell_of_one (one_setCell HK4.out)
      exact ⟨_, res_bool rfl rfl g3, rfl, HB4.out.setCell HPR.out.2.2.1 _⟩
    · have t1 : decide (1 ≤ x0) = true := decide_eq_true m1
      have t2 : decide (x0 ≤ 64) = true := decide_eq_true m2
      have t3 : decide (1 ≤ x1) = true := decide_eq_true m3
      have t4 : decide (x1 ≤ 64) = false := decide_eq_false m4
      clear m1 m2 m3 m4
      go_wp2_with fail
      refine HNo.out.mono ?_
      rintro e w4 ⟨rfl, b⟩
      have q0 : w4.cell? ⟨0, 0, none⟩ = some (errOf (f 7)) := (HEG.out.below b).1
      have eqg : ∀ W, (binOp .eql 28 (errOf (f 7)) (errOf (f 7))).run Tryd.prog W = .ok (.bool true) W := fun W => eql_err (f 7) W
      have hk4 := (b.block _ (lt_of_block HK2.out)).trans HK2.out
      have g1 : w4.cell? ⟨rb, 0, none⟩ = some (.bool false) := cell_of_one hk4
      have g2 := free_of_one hk4
      have HK4 := Lib.hid hk4
      have HB4 := Lib.hid (belB HBS.out HB.out b)
      clear b hk4
      go_wp2_with fail
      have g3 : (w4.setCell ⟨rb, 0, none⟩ (.bool true)).cell? ⟨rb, 0, none⟩ = some (.bool true) := cell_of_one (one_setCell HK4.out)
      exact ⟨_, res_bool rfl rfl g3, rfl, HB4.out.setCell HPR.out.2.2.1 _⟩
theorem walk (a0 a1 : Int) (a2 : Option Addr) (len2 cap2 : Nat) (z2 : Nat → DoT) (a3 : Int) (n4 : Nat → Int) (a5 : Int) (W : World) (w0 : (Lit.int .i64 a0).wf = true) (w1 : (Lit.int .i64 a1).wf = true) (w2 : RowTd W a2 len2 z2) (w3 : (Lit.int .i64 a3).wf = true) (w4 : ∀ i, i < 2 → (Lit.int .i64 (n4 i)).wf = true) (w5 : (Lit.int .i64 a5).wf = true) (h : LaidTablePlays.Holds W) :
    Calls Tryd.prog 3 #[.int .i64 a0, .int .i64 a1, .slice a2 len2 cap2, .int .i64 a3, .agg ((List.range 2).map fun i => .int .i64 (n4 i)).toArray, .int .i64 a5] W fun e w' => e = .returned (.bool true) ∧ Below W.heap.size W w' := by
  obtain ⟨f, hE⟩ := h
  exact core a0 a1 a2 len2 cap2 z2 a3 (n4 0) (n4 1) a5 W f hE w2 w3
end Go.Proofs.YtpbckjagiebmjaaDoor.walkTablePlays
