/- Texts of the verifier of shale, laid into one: BinOfBad, RefInts, BinExps, BinFirst, BinShr, BinShd, BinEval, RefBytes, RefCopy, BinLaw, BinV, MinOf, MinGen, MinGen2, MinFirst, RefCoset, Args. -/
import Derived.Test.YtbapmkhdpfgnlaaDoorGreat1
import Derived.Test.YtbapmkhdpfgnlaaDoorGreat2
import Derived.Deep.Fields
import Derived.ChangeArms
import Derived.WideShapes
import Derived.ProofKit
import Derived.ChangeOld
/- The walk over package binpoly's Of, where an exponent may not be. By the verifier of shale. -/
namespace Go.Proofs.YtbapmkhdpfgnlaaDoor.Bin
open Go Go.RowKit
set_option linter.unusedVariables false
/-- ints that stand in a row. -/
def RowZ (w : World) (a : Option Addr) (n : Nat) (z : Nat → Int) : Prop :=
  ∀ i, i < n → ∃ bb off, a = some ⟨bb, off, none⟩ ∧ w.cell? ⟨bb, off + i, none⟩ = some (.int .i64 (z i)) ∧ bb < w.heap.size
set_option maxRecDepth 100000 in
set_option maxHeartbeats 1000000 in
theorem of_bad (a : Option Addr) (n cap : Nat) (z : Nat → Int) (j : Nat) (w : World) (h : RowZ w a n z) (hj : j < n) (hn : n ≤ 100000) (hgood : ∀ i, i < j → 0 ≤ z i ∧ z i ≤ 2048) (hbad : z j < 0 ∨ 2048 < z j) (p : Addr) (E : ErrAt w 2 p) :
    Calls Tryd.prog 28 #[.slice a n cap] w fun e w' => e = .returned (.tuple #[.slice none 0 0, errOf p]) ∧ Drawn w w' := by
  have HR := Lib.hid h
  have HGd := Lib.hid hgood
  have e1 := E.1
  unfold Sent at e1
  clear h hgood E
  have hb2 : (decide (z j < 0) = true) ∨ (decide (z j < 0) = false ∧ decide (2048 < z j) = true) := by
    by_cases h : z j < 0
    · exact Or.inl (decide_eq_true h)
    · exact Or.inr ⟨decide_eq_false h, decide_eq_true (by omega)⟩
  have HB := Lib.hid hb2
  clear hbad hb2
  go_enter Tryd.func28, Tryd.ntmps28
  go_wp2_with fail
  go_loopg [8] n (fun gh s8 wx => ∃ (k : Nat), gh = n - k ∧ k ≤ j ∧ s8 = .int .i64 (k : Int) ∧ w = wx)
  case atStart => exact ⟨0, rfl, by omega, rfl, rfl⟩
  case round =>
    obtain ⟨k, hg, hk, rfl, rfl⟩ := hrel
    have HG := Lib.hid hg
    clear hg
    have x1 : (k : Int) < (n : Int) := by omega
    have x0 : (0 : Int) ≤ (k : Int) := by omega
    obtain ⟨bb, off, rfl, c1, hb⟩ := HR.out k (by omega)
    by_cases hlt : k < j
    · obtain ⟨g1, g2⟩ := HGd.out k hlt
      have t1 : decide (z k < 0) = false := decide_eq_false (by omega)
      have t2 : decide (2048 < z k) = false := decide_eq_false (by omega)
      clear hb g1 g2
      go_wp2_with fail
      go_roundg (n - (k + 1))
      case measure => have := HG.out; omega
      case rel => exact ⟨k + 1, rfl, by omega, by go_num, rfl⟩
    · obtain rfl : k = j := by omega
      clear hb
      rcases HB.out with t1 | ⟨t1, t2⟩
      all_goals
        go_wp2_with fail
        go_quiet (fail)
        go_wp2_with fail
        go_ret2
        exact ⟨rfl, Drawn.mk _ _⟩
end Go.Proofs.YtbapmkhdpfgnlaaDoor.Bin
/- shaleref.SameInts: are two lists of ints the same? By the verifier of shale. -/
namespace Go.Proofs.YtbapmkhdpfgnlaaDoor.Bin
open Go Go.RowKit
set_option linter.unusedVariables false
theorem RowN.drawn {w w' : World} {a : Option Addr} {n : Nat} {es : List Nat} (h : RowN w a n es) (d : Drawn w w') : RowN w' a n es := h.below (d.below _)
theorem lists_eq {l m : List Nat} (hl : l.length = m.length) (h : ∀ i, i < l.length → l.getD i 0 = m.getD i 0) : l = m := by
  apply List.ext_getElem hl
  intro i h1 h2
  have := h i h1
  rw [List.getD_eq_getElem?_getD, List.getD_eq_getElem?_getD, List.getElem?_eq_getElem h1, List.getElem?_eq_getElem h2] at this
  exact this
set_option maxRecDepth 100000 in
set_option maxHeartbeats 1000000 in
theorem sameInts_any (a1 : Option Addr) (n1 c1 : Nat) (l : List Nat) (a2 : Option Addr) (n2 c2 : Nat) (m : List Nat) (w : World) (h1 : RowN w a1 n1 l) (h2 : RowN w a2 n2 m) (k1 : n1 ≤ 100000) :
    Calls Tryd.prog 13 #[.slice a1 n1 c1, .slice a2 n2 c2] w fun e w' => e = .returned (.bool (decide (l = m))) ∧ Drawn w w' := by
  have H1 := Lib.hid h1
  have H2 := Lib.hid h2
  clear h1 h2
  by_cases hn : n1 = n2
  · subst hn
    go_enter Tryd.func13, Tryd.ntmps13
    go_wp2_with fail
    go_loopg [5] n1 (fun gh s5 wx => ∃ k : Nat, gh = n1 - k ∧ k ≤ n1 ∧ s5 = .int .i64 (k : Int) ∧ Hid (∀ i, i < k → l.getD i 0 = m.getD i 0) ∧ Drawn w wx)
    case atStart => exact ⟨0, rfl, by omega, rfl, fun i hi => by omega, Drawn.refl _⟩
    case round =>
      obtain ⟨k, hg, hk, rfl, HA, hD⟩ := hrel
      have HG := Lib.hid hg
      clear hg
      by_cases hlt : k < n1
      · have x1 : (k : Int) < (n1 : Int) := by omega
        have x0 : (0 : Int) ≤ (k : Int) := by omega
        obtain ⟨bb, off, rfl, d1, _⟩ := (H1.out.drawn hD).row k hlt
        obtain ⟨bb', off', rfl, d2, _⟩ := (H2.out.drawn hD).row k hlt
        by_cases he : l.getD k 0 = m.getD k 0
        · have HA2 : Hid (∀ i, i < k + 1 → l.getD i 0 = m.getD i 0) := fun i hi => by
            by_cases e : i = k
            · rw [e]; exact he
            · exact HA.out i (by omega)
          rw [he] at d1
          generalize m.getD k 0 = q at d1 d2
          clear he HA
          go_wp2_with fail
          go_quiet (fail)
          have hd2 : Drawn w (wr.drewN nq) := hD.trans (Drawn.mk _ _)
          generalize wr.drewN nq = w5 at hd2 ⊢
          go_wp2_with fail
          go_roundg (n1 - (k + 1))
          case measure => have := HG.out; omega
          case rel => exact ⟨k + 1, rfl, by omega, by go_num, HA2.out, hd2⟩
        · have HF : Hid (decide (l = m) = false) := decide_eq_false fun h => he (by rw [h])
          have t1 : (((l.getD k 0 : Nat) : Int) == ((m.getD k 0 : Nat) : Int)) = false := by rw [beq_eq_false_iff_ne]; omega
          generalize l.getD k 0 = q at d1 t1
          generalize m.getD k 0 = r at d2 t1
          clear he HA
          go_wp2_with fail
          go_quiet (fail)
          have hd2 : Drawn w (wr.drewN nq) := hD.trans (Drawn.mk _ _)
          generalize wr.drewN nq = w5 at hd2 ⊢
          go_wp2_with fail
          go_ret
          exact ⟨ret_bool HF.out.symm, hd2⟩
      · obtain rfl : k = n1 := by omega
        have HF : Hid (decide (l = m) = true) := decide_eq_true (lists_eq (by have := H1.out.hlen; have := H2.out.hlen; omega) fun i hi => HA.out i (by have := H1.out.hlen; omega))
        clear HA
        go_wp2_with fail
        go_ret
        exact ⟨ret_bool HF.out.symm, hD⟩
  · have HF : Hid (decide (l = m) = false) := decide_eq_false fun h => hn (by rw [H1.out.hlen, H2.out.hlen, h])
    have t1 : ((n1 : Int) == (n2 : Int)) = false := by rw [beq_eq_false_iff_ne]; omega
    clear hn
    go_enter Tryd.func13, Tryd.ntmps13
    go_wp2_with fail
    go_ret
    exact ⟨ret_bool HF.out.symm, Drawn.refl _⟩
end Go.Proofs.YtbapmkhdpfgnlaaDoor.Bin
/- The walk over package binpoly's Exponents. By the verifier of shale. -/
namespace Go.Proofs.YtbapmkhdpfgnlaaDoor.Bin
open Go Go.RowKit
set_option linter.unusedVariables false
/-- the exponents below k, falling. -/
def exps (v : Nat) : Nat → List Nat
  | 0 => []
  | k + 1 => (if v.testBit k then [k] else []) ++ exps v k
def topE (v : Nat) : Nat := if v = 0 then 0 else v.log2 + 1
theorem degZ_top (v : Nat) : degZ v = (topE v : Int) - 1 := by
  unfold degZ topE
  split <;> omega
def ints (l : List Nat) : List Int := List.map (fun e : Nat => (e : Int)) l
set_option maxRecDepth 100000 in
set_option maxHeartbeats 1000000 in
theorem exponents_any (a : Option Addr) (n cap : Nat) (l : List (BitVec 8)) (w : World) (h : Pol w a n cap l) (hn : n ≤ 1000) :
    Calls Tryd.prog 48 #[.slice a n cap] w fun e w' => ∃ v' k, e = .returned v' ∧ Own64 w' w.heap.size v' k (ints (exps (val l) (topE (val l)))) ∧ Below w.heap.size w w' := by
  obtain ⟨i0, hi, hz0, hz1, hz2⟩ := info64
  have HP := Lib.hid h
  have hD := degZ_top (val l)
  have hb : topE (val l) ≤ 8000 := by
    unfold topE
    split
    · omega
    · rename_i h0
      have := deg_len h0
      have := h.hlen
      omega
  obtain ⟨D, hDe⟩ : ∃ D, D = topE (val l) := ⟨_, rfl⟩
  rw [← hDe] at hD hb ⊢
  have HO0 := Lib.hid (show Own64 w w.heap.size (.slice none 0 0) 0 (ints []) from Own64.nil w w.heap.size)
  clear h hDe
  go_enter Tryd.func48, Tryd.ntmps48
  go_wp2_with fail
  refine (degree_any a n cap l w HP.out (by omega)).mono ?_
  rintro e w1 ⟨rfl, rfl⟩
  rw [hD]
  clear hD
  go_wp2_with fail
  go_loopg [3, 4] D (fun gh s3 s4 wx => ∃ (k m : Nat) (R : List Nat), gh = k ∧ k ≤ D ∧ s4 = .int .i64 ((k : Int) - 1) ∧ Own64 wx w.heap.size s3 m (ints R) ∧ m + k ≤ D ∧ Hid (R ++ exps (val l) k = exps (val l) D) ∧ Below w.heap.size w wx)
  case atStart => exact ⟨D, 0, [], rfl, Nat.le_refl _, rfl, HO0.out, by omega, rfl, Below.refl _ _⟩
  case round =>
    obtain ⟨k, m, R, hg, hk, rfl, hown, hmk, HR, hB⟩ := hrel
    have HG := Lib.hid hg
    have hbs := hB.size
    clear hg
    rcases k with _ | k
    · have HF : Hid (exps (val l) D = R) := by have := HR.out; simp only [exps, List.append_nil] at this; exact this.symm
      clear HR
      go_wp2_with fail
      go_ret
      exact ⟨_, m, rfl, by rw [HF.out]; exact hown, hB⟩
    · have x0 : (0 : Int) ≤ (k : Int) := by omega
      have hbz : bitZ l (k : Int) = if (val l).testBit k then 1 else 0 := by unfold bitZ; rw [if_neg (by omega)]; rfl
      rcases Bool.eq_false_or_eq_true ((val l).testBit k) with hb1 | hb1
      · rw [hb1] at hbz
        have HF : Hid ((R ++ [k]) ++ exps (val l) k = exps (val l) D) := by
          have h7 : R ++ exps (val l) (k + 1) = exps (val l) D := HR.out
          rw [exps, hb1, if_pos rfl] at h7
          show _ = _
          rw [List.append_assoc]
          exact h7
        clear HR hb1
        go_wp2_with fail
        refine (bit_any a n cap l (k : Int) wr (HP.out.below hB) (by omega)).mono ?_
        rintro e w1 ⟨rfl, rfl⟩
        rw [hbz]
        go_wp2_with (at_builtin; refine wpList_append_own _ rfl _ _ 23 rfl w.heap.size 3 i0 (.int .i64 0) 1 8 Tryd.underlying23 hi hz0 hz1 hz2 rfl (by decide) _ m _ rfl (World.ownsRow.alloc hown _) ⟨wr.heap.size, 0, none⟩ 1 1 [.int .i64 (k : Int)] rfl rfl (cell_one_new _ _ _) (ints_oneCell .i64 [_]) (by unfold maxLen; omega) (by omega) (by simp; omega) ?_; intro v7 w7 hown7 hgrow _)
        have ho7 : Own64 w7 w.heap.size v7 (m + 1) (ints (R ++ [k])) := by
          unfold Own64
          have e : ints (R ++ [k]) = ints R ++ [(k : Int)] := by simp [ints]
          rw [e, ← cells64_append]
          exact hown7
        have b7 : Below w.heap.size w w7 := (hB.alloc hbs _).grown hgrow (by simp; omega) (fun g hg => (hown.block g hg).1)
        clear hown7 hgrow hown hB
        go_wp2_with fail
        go_roundg k
        case measure => have := HG.out; omega
        case rel => exact ⟨k, m + 1, R ++ [k], rfl, by omega, rfl, ho7, by omega, HF.out, b7⟩
      · rw [hb1] at hbz
        have HF : Hid (R ++ exps (val l) k = exps (val l) D) := by
          have h7 : R ++ exps (val l) (k + 1) = exps (val l) D := HR.out
          rw [exps, hb1, if_neg (by decide), List.nil_append] at h7
          exact h7
        clear HR hb1
        go_wp2_with fail
        refine (bit_any a n cap l (k : Int) wr (HP.out.below hB) (by omega)).mono ?_
        rintro e w1 ⟨rfl, rfl⟩
        rw [hbz]
        go_wp2_with fail
        go_roundg k
        case measure => have := HG.out; omega
        case rel => exact ⟨k, m, R, rfl, by omega, rfl, hown, by omega, HF.out, hB⟩
end Go.Proofs.YtbapmkhdpfgnlaaDoor.Bin
/- The examples of chapter 3, as the statements ask them first of all. By the verifier of shale. -/
namespace Go.Proofs.YtbapmkhdpfgnlaaDoor.Bin
open Go Go.RowKit
set_option linter.unusedVariables false
/-- a list of ints that a call lays. -/
def litN (es : List Nat) : Obj := .cells (es.map fun e => Value.int .i64 ((e : Nat) : Int)).toArray 3 (0, 0)
theorem row_lit (w : World) (es : List Nat) (n : Nat) (hn : n = es.length) : RowN (w.alloc (litN es)) (some ⟨w.heap.size, 0, none⟩) n es ∧ Below w.heap.size w (w.alloc (litN es)) := by
  refine ⟨⟨hn, fun i hi => ⟨w.heap.size, 0, rfl, ?_, by simp⟩⟩, (Below.refl _ _).alloc (Nat.le_refl _) _⟩
  rw [Nat.zero_add]
  unfold World.cell?
  simp only
  rw [heap_alloc_new]
  unfold litN
  simp [show i < es.length by omega]
theorem own_row {w : World} {base n : Nat} {v : Value} {es : List Nat} (h : Own64 w base v n (ints es)) : ∃ a cap, v = .slice a n cap ∧ RowN w a n es := by
  have hl := h.len
  have hl' : n = es.length := by rw [← hl]; simp [ints]
  by_cases h0 : n = 0
  · rcases h.2 with ⟨h1, h2⟩ | ⟨g', cap', cur, hv, _⟩
    · exact ⟨none, 0, by rw [h1, h0], hl', fun i hi => by omega⟩
    · exact ⟨_, _, hv, hl', fun i hi => by omega⟩
  · obtain ⟨g, cap, hv, _, hg, _, hc⟩ := h.cells (by omega)
    refine ⟨_, _, hv, hl', fun i hi => ⟨g, 0, rfl, ?_, hg⟩⟩
    rw [Nat.zero_add, hc i hi]
    congr 2
    unfold nth64 ints
    rw [List.getD_eq_getElem?_getD, List.getD_eq_getElem?_getD, List.getElem?_map, List.getElem?_eq_getElem (show i < es.length by omega)]
    rfl
theorem x0 : xp [4, 1, 0] = 0x13 := by decide
theorem x1 : xp [1, 0] = 3 := by decide
theorem x2 : pm 3 3 = 5 := by decide +kernel
theorem x3 : degZ 0x13 = 4 := by decide
theorem x4 : exps 0x13 (topE 0x13) = [4, 1, 0] := by decide +kernel
theorem x5 {X : List (BitVec 8)} (h : val X = 5) (hb : Bare X) : X = [5] := bare_inj hb (fun _ => by decide) (by rw [h]; decide)
end Go.Proofs.YtbapmkhdpfgnlaaDoor.Bin
/- The walk over package binpoly's Shift. By the verifier of shale. -/
namespace Go.Proofs.YtbapmkhdpfgnlaaDoor.Bin
open Go Go.RowKit
set_option linter.unusedVariables false
theorem bor8 (a c : BitVec 8) : bits .or .u8 (Bits32.b a) (Bits32.b c) = Bits32.b (a ||| c) := by
  show IntKind.u8.wrap (Bits32.b (BitVec.ofInt 8 (Bits32.b a) ||| BitVec.ofInt 8 (Bits32.b c))) = _
  rw [Bits32.ofInt8, Bits32.ofInt8, Bits32.wrap8]
/-- a byte of a polynomial that is shifted down. -/
def shrB (l : List (BitVec 8)) (m i : Nat) : BitVec 8 := (nth8 l (i + m / 8) >>> (m % 8)) ||| BitVec.ofNat 8 ((nth8 l (i + m / 8 + 1)).toNat * 2 ^ (8 - m % 8))
theorem shrB_bit (l : List (BitVec 8)) (m i j : Nat) (hj : j < 8) : (shrB l m i).getLsbD j = (val l).testBit (8 * i + j + m) := by
  unfold shrB
  rw [BitVec.getLsbD_or, BitVec.getLsbD_ushiftRight, val_bit]
  have e2 : (BitVec.ofNat 8 ((nth8 l (i + m / 8 + 1)).toNat * 2 ^ (8 - m % 8))).getLsbD j = (decide (8 - m % 8 ≤ j) && (nth8 l (i + m / 8 + 1)).getLsbD (j - (8 - m % 8))) := by
    rw [BitVec.getLsbD_ofNat, decide_eq_true hj, Bool.true_and, ← Nat.shiftLeft_eq, Nat.testBit_shiftLeft]; rfl
  rw [e2]
  by_cases h : m % 8 + j < 8
  · rw [decide_eq_false (by omega : ¬ 8 - m % 8 ≤ j), show (8 * i + j + m) / 8 = i + m / 8 by omega, show (8 * i + j + m) % 8 = m % 8 + j by omega]
    simp
  · rw [decide_eq_true (by omega : 8 - m % 8 ≤ j), show (8 * i + j + m) / 8 = i + m / 8 + 1 by omega, show (8 * i + j + m) % 8 = j - (8 - m % 8) by omega, BitVec.getLsbD_of_ge _ _ (by omega)]
    simp
theorem val_shr {l R : List (BitVec 8)} {m : Nat} (hlen : val l < 2 ^ (8 * R.length + m)) (h : ∀ i, i < R.length → nth8 R i = shrB l m i) : val R = val l >>> m := by
  apply Nat.eq_of_testBit_eq
  intro i
  rw [val_bit, Nat.testBit_shiftRight]
  by_cases hi : i / 8 < R.length
  · rw [h _ hi, shrB_bit l m _ _ (by omega)]
    congr 1
    omega
  · rw [nth8_far _ _ (by omega), Nat.testBit_lt_two_pow (Nat.lt_of_lt_of_le hlen (Nat.pow_le_pow_right (by decide) (by omega)))]
    simp
theorem shrB_near (l : List (BitVec 8)) (m i : Nat) (h : l.length ≤ i + m / 8 + 1) : shrB l m i = nth8 l (i + m / 8) >>> (m % 8) := by
  unfold shrB
  rw [nth8_far l _ h]
  simp
theorem b_shr (c : BitVec 8) (j : Nat) : Bits32.b c / 2 ^ j = Bits32.b (c >>> j) := by
  unfold Bits32.b
  rw [BitVec.toNat_ushiftRight, Nat.shiftRight_eq_div_pow, Int.natCast_ediv, Int.natCast_pow]
  rfl
theorem nth8_set (X : List (BitVec 8)) (j i : Nat) (c : BitVec 8) (hj : j < X.length) : nth8 (X.set j c) i = if i = j then c else nth8 X i := by
  unfold nth8
  by_cases e : i = j
  · subst e
    rw [if_pos rfl, List.getD_eq_getElem?_getD, List.getElem?_set_self hj]; rfl
  · rw [if_neg e, List.getD_eq_getElem?_getD, List.getElem?_set_ne (Ne.symm e), ← List.getD_eq_getElem?_getD]
theorem shr_log2 {v d m : Nat} (h : Deg v d) (hm : m ≤ d) : Deg (v >>> m) (d - m) := by
  rw [Nat.shiftRight_eq_div_pow]
  have h1 := h.1
  have h2 := h.2
  refine ⟨(Nat.le_div_iff_mul_le (Nat.two_pow_pos _)).2 ?_, (Nat.div_lt_iff_lt_mul (Nat.two_pow_pos _)).2 ?_⟩
  · rw [← Nat.pow_add, show d - m + m = d by omega]; exact h1
  · rw [← Nat.pow_add, show d - m + 1 + m = d + 1 by omega]; exact h2
end Go.Proofs.YtbapmkhdpfgnlaaDoor.Bin
/- The walk over package binpoly's Shift, down. By the verifier of shale. -/
namespace Go.Proofs.YtbapmkhdpfgnlaaDoor.Bin
open Go Go.RowKit
set_option linter.unusedVariables false
section
attribute [local go_sem] bor8
end
end Go.Proofs.YtbapmkhdpfgnlaaDoor.Bin
/- Parity of the bits; the walk over package binpoly's Eval. By the verifier of shale. -/
namespace Go.Proofs.YtbapmkhdpfgnlaaDoor.Bin
open Go Go.RowKit
set_option linter.unusedVariables false
/-- the parity of the bits: the value at 1. -/
def par (n : Nat) : Nat := if h : n = 0 then 0 else (n % 2 + par (n / 2)) % 2
termination_by n
decreasing_by omega
theorem par_zero : par 0 = 0 := by rw [par]; simp
theorem par_step (n : Nat) : par n = (n % 2 + par (n / 2)) % 2 := by
  by_cases h : n = 0
  · subst h; rw [Nat.zero_div, par_zero]
  · rw [par, dif_neg h]
theorem par_lt (n : Nat) : par n < 2 := by rw [par_step]; omega
theorem par_xor : ∀ a b, par (a ^^^ b) = (par a + par b) % 2 := by
  intro a
  induction a using Nat.strongRecOn with
  | ind a ih =>
    intro b
    by_cases h : a = 0
    · subst h; rw [Nat.zero_xor, par_zero]; have := par_lt b; omega
    · rw [par_step (a ^^^ b), par_step a, par_step b, half_xor, ih (a / 2) (by omega), mod_xor]
      omega
theorem par_dbl (a : Nat) : par (2 * a) = par a := by
  rw [par_step, show 2 * a / 2 = a by omega]
  have := par_lt a
  omega
theorem par_shl (a : Nat) : ∀ n, par (a <<< n) = par a
  | 0 => by rw [Nat.shiftLeft_zero]
  | n + 1 => by rw [Nat.shiftLeft_succ, par_dbl, par_shl a n]
theorem par_pm (a : Nat) : ∀ b, par (pm a b) = par a * par b := by
  intro b
  induction b using Nat.strongRecOn with
  | ind b ih =>
    by_cases h : b = 0
    · subst h; rw [pm_zero, par_zero]; rfl
    · rw [pm_step, par_xor, par_dbl, ih (b / 2) (by omega), par_step b]
      have h1 := par_lt a
      have h2 := par_lt (b / 2)
      rcases (by omega : par a = 0 ∨ par a = 1) with e1 | e1 <;> rcases (by omega : par (b / 2) = 0 ∨ par (b / 2) = 1) with e2 | e2 <;> rcases Nat.mod_two_eq_zero_or_one b with e3 | e3 <;> simp [e1, e2, e3, par_zero]
theorem par_pop : ∀ (f x : Nat), x < 2 ^ f → par x = Lib.popAux f x % 2
  | 0, x, h => by
    obtain rfl : x = 0 := by simpa using h
    rw [par_zero]; rfl
  | f + 1, x, h => by
    rw [par_step, par_pop f (x / 2) (by rw [Nat.pow_succ] at h; omega)]
    simp only [Lib.popAux]
    omega
theorem par_byte (c : BitVec 8) : par c.toNat = Lib.onesCount c.toNat % 2 :=
  par_pop 64 c.toNat (Nat.lt_of_lt_of_le c.isLt (Nat.pow_le_pow_right (by decide) (by decide)))
theorem par_take (l : List (BitVec 8)) (k : Nat) (h : k < l.length) : par (val (l.take (k + 1))) = (par (val (l.take k)) + Lib.onesCount (nth8 l k).toNat) % 2 := by
  rw [val_take_succ l k h, par_xor, par_shl, par_byte]
  omega
/-- the value at x. -/
def evalZ (l : List (BitVec 8)) (x : Int) : Int := if x % 2 = 0 then bitZ l 0 else (par (val l) : Int)
theorem and_one (x : Int) : bits .and .i64 x 1 = x % 2 := by
  show IntKind.i64.wrap ((BitVec.ofInt 64 x &&& BitVec.ofInt 64 1).toNat : Int) = _
  rw [BitVec.toNat_and, show (BitVec.ofInt 64 1).toNat = 2 ^ 1 - 1 by decide, Nat.and_two_pow_sub_one_eq_mod, BitVec.toNat_ofInt]
  rw [show (((x % ((2 ^ 64 : Nat) : Int)).toNat % 2 ^ 1 : Nat) : Int) = x % 2 by omega]
  exact IntWalk.i64_in _ (by omega)
theorem xor_bit (a b : Nat) (ha : a < 2) (hb : b < 2) : bits .xor .i64 (a : Int) (b : Int) = (((a + b) % 2 : Nat) : Int) := by
  rcases (by omega : a = 0 ∨ a = 1) with rfl | rfl <;> rcases (by omega : b = 0 ∨ b = 1) with rfl | rfl <;> decide
end Go.Proofs.YtbapmkhdpfgnlaaDoor.Bin
/- shaleref.Bytes: a copy of bytes in new memory. By the verifier of shale. -/
namespace Go.Proofs.YtbapmkhdpfgnlaaDoor
open Go Go.RowKit
theorem own_all {w : World} {base g n : Nat} {l : List (BitVec 8)} (h : w.ownsRow base 5 1 (.slice (some ⟨g, 0, none⟩) n n) n (l.map fun c => Value.int .u8 (Bits32.b c))) : Blk8 w g l := by
  obtain ⟨hl, h2⟩ := h
  rcases h2 with ⟨h0, _⟩ | ⟨g', cap', cur, hv, hbg, hg, hnc, hcm, hcs, htake⟩
  · cases h0
  · simp only [Value.slice.injEq, Option.some.injEq, Addr.mk.injEq] at hv
    obtain ⟨⟨rfl, _⟩, _, rfl⟩ := hv
    unfold Blk8 obj8
    rw [hg]
    congr 2
    rw [← htake]
    rw [List.take_of_length_le (by simp; omega)]
set_option maxRecDepth 100000 in
set_option maxHeartbeats 1000000 in
theorem copy_all (p : Option Addr) (n cap : Nat) (l : List (BitVec 8)) (w : World) (hp : p = none → n = 0 ∧ cap = 0) (hr : n = 0 ∨ ∃ bb off, p = some ⟨bb, off, none⟩ ∧ Row8 w bb off l ∧ bb < w.heap.size) (hn : n = l.length) (hm : n ≤ 1000000) :
    Calls Tryd.prog 22 #[.slice p n cap] w fun e w' => e = .returned (.slice (some ⟨w.heap.size, 0, none⟩) n n) ∧ Blk8 w' w.heap.size l ∧ Below w.heap.size w w' := by
  obtain ⟨i0, hi, hz0, hz1, hz2⟩ := info_parts (show (Tryd.prog.info? 5).map (fun i => (i.zero, i.size, i.bytes)) = some (some (.int .u8 0), 1, 1) by kernel_rfl)
  have HN := Lib.hid hn
  have hnews : (l.map fun c => Value.int .u8 (Bits32.b c)).length = n * 1 := by simp; omega
  have h1c : ∀ u ∈ (l.map fun c => Value.int .u8 (Bits32.b c)), u.oneCell' = true := by
    intro u hu
    obtain ⟨_, _, rfl⟩ := List.mem_map.1 hu
    rfl
  have hcell : ∀ w0 : World, (∀ k, k < w.heap.size → w0.heap[k]? = w.heap[k]?) → ∀ ad, p = some ad → ∀ j u, (l.map fun c => Value.int .u8 (Bits32.b c))[j]? = some u → w0.cell? (ad.add j) = some u := by
    intro w0 h0 ad had j u hu
    have hj : j < l.length := by
      have := (List.getElem?_eq_some_iff.1 hu).1
      simpa using this
    rcases hr with hr | ⟨bb, off, hpp, hr, hb⟩
    · omega
    · rw [hpp] at had
      obtain rfl := Option.some.inj had
      have e : (⟨bb, off, none⟩ : Addr).add j = ⟨bb, off + j, none⟩ := by by_cases h : j = 0 <;> simp [Addr.add, h]
      rw [e, World.cell?_of_block (w := w) (h0 bb hb), hr j hj]
      rw [List.getElem?_map, List.getElem?_eq_getElem hj] at hu
      rw [← hu]
      unfold nth8
      rw [List.getD_eq_getElem?_getD, List.getElem?_eq_getElem hj]
      rfl
  have HC := Lib.hid hcell
  have HL := Lib.hid hnews
  have H1 := Lib.hid h1c
  have HP := Lib.hid hp
  clear hn hr hcell hnews h1c hp
  go_enter Tryd.func22, Tryd.ntmps22
  go_wp2_with (first
    | (at_make; refine wpList_make_own _ rfl _ _ 36 rfl w.heap.size 5 i0 (.int .u8 0) 1 Tryd.underlying36 hi hz0 hz1 .i64 .i64 _ n rfl rfl (by omega) (by rw [hz2]; omega) (by unfold maxLen; omega) (Nat.le_refl _) ?_; intro w0 hown0 hgrow0)
    | (at_builtin; refine wpList_append_fits_any _ rfl _ _ 36 rfl w.heap.size 5 i0 1 Tryd.underlying36 hi hz1 w.heap.size 0 n [] rfl hown0 p n cap (l.map fun c => Value.int .u8 (Bits32.b c)) rfl HL.out HP.out (HC.out _ (fun k hk => hgrow0.block k hk (by simp))) H1.out (by omega) ?_; intro w1 hown1 hgrow1))
  go_ret
  refine ⟨by simp, ?_, ?_⟩
  · rw [Nat.zero_add] at hown1
    exact own_all hown1
  · exact ((Below.refl _ _).grown hgrow0 (Nat.le_refl _) (by simp)).grown hgrow1 hgrow0.size (by intro k hk; simp at hk; omega)
theorem copy_any (bb off n cap : Nat) (l : List (BitVec 8)) (w : World) (hr : Row8 w bb off l) (hn : n = l.length) (hm : n ≤ 1000000) :
    Calls Tryd.prog 22 #[.slice (some ⟨bb, off, none⟩) n cap] w fun e w' => e = .returned (.slice (some ⟨w.heap.size, 0, none⟩) n n) ∧ Blk8 w' w.heap.size l ∧ Below w.heap.size w w' := by
  refine copy_all _ n cap l w (fun h => by cases h) ?_ hn hm
  by_cases h0 : n = 0
  · exact Or.inl h0
  · exact Or.inr ⟨bb, off, rfl, hr, World.block_lt_of_cell? w _ (hr 0 (by omega))⟩
end Go.Proofs.YtbapmkhdpfgnlaaDoor
/- shaleref.Bytes of bytes that came in; appending to such a copy. By the verifier of shale. -/
namespace Go.Proofs.YtbapmkhdpfgnlaaDoor
open Go Go.RowKit
set_option linter.unusedVariables false
theorem Arg8.len {W : World} {p : Option Addr} {n cap : Nat} {l : List (BitVec 8)} (h : Arg8 W (.slice p n cap) l) : n = l.length := by
  rcases h.1 with ⟨rfl, a, c, e⟩ | ⟨bb, off, c, e, _, _⟩
  · simp only [Value.slice.injEq] at e; exact e.2.1
  · simp only [Value.slice.injEq] at e; exact e.2.1
theorem copy_of {p : Option Addr} {n cap : Nat} {l : List (BitVec 8)} {w : World} (h : Arg8 w (.slice p n cap) l) (hp : p = none → cap = 0) (hm : n ≤ 1000000) :
    Calls Tryd.prog 22 #[.slice p n cap] w fun e w' => e = .returned (.slice (some ⟨w.heap.size, 0, none⟩) n n) ∧ Blk8 w' w.heap.size l ∧ Below w.heap.size w w' := by
  have hn := h.len
  refine copy_all p n cap l w ?_ ?_ hn hm
  · intro e
    refine ⟨?_, hp e⟩
    rcases h.1 with ⟨rfl, _⟩ | ⟨bb, off, c, e', _, _⟩
    · exact hn
    · rw [e] at e'; simp at e'
  · rcases h.1 with ⟨rfl, _⟩ | ⟨bb, off, c, e', hr, hb⟩
    · exact Or.inl hn
    · simp only [Value.slice.injEq] at e'
      exact Or.inr ⟨bb, off, e'.1, hr, hb⟩
/-- a block of the call's own is a slice of its own. -/
theorem Blk8.own {w : World} {g base n : Nat} {l : List (BitVec 8)} (h : Blk8 w g l) (hb : base ≤ g) (hn : n = l.length) (hm : n ≤ maxLen) : Own8 w base (.slice (some ⟨g, 0, none⟩) n n) n l := by
  refine ⟨by rw [cells8_length]; omega, Or.inr ⟨g, n, (cells8 l).toArray, rfl, hb, h, Nat.le_refl _, hm, by simp [cells8_length, hn], ?_⟩⟩
  rw [List.toList_toArray]
  rw [List.take_of_length_le (by rw [cells8_length]; omega)]
end Go.Proofs.YtbapmkhdpfgnlaaDoor
/- Small words for the laws of chapter 3. By the verifier of shale. -/
namespace Go.Proofs.YtbapmkhdpfgnlaaDoor.Bin
open Go Go.RowKit
set_option linter.unusedVariables false
/-- bytes that came in are a polynomial. -/
theorem row_pol {w : World} {a : Option Addr} {len cap : Nat} {zs : List Int} (h : IsRow .u8 w a len cap zs) : ∃ l, Pol w a len cap l := by
  have hn := h.nil_cap
  have hc : cap ≤ maxLen := by
    rcases h with ⟨_, _, rfl, _⟩ | ⟨x, _, _, hm, _⟩
    · exact Nat.zero_le _
    · exact hm
  have hlc : len ≤ cap := h.at.2.1
  obtain ⟨hm, h0 | ⟨bb, off, l, ha, hl, hcc, hr, hb⟩⟩ := h.bytes
  · exact ⟨[], h0, hlc, hc, hn, Or.inl h0⟩
  · exact ⟨l, hl.symm, hlc, hc, hn, Or.inr ⟨bb, off, ha, hr, hb⟩⟩
theorem shr_shl (v n : Nat) : (v <<< n) >>> n = v := by
  rw [Nat.shiftLeft_eq, Nat.shiftRight_eq_div_pow, Nat.mul_div_cancel _ (Nat.two_pow_pos n)]
theorem and511 (z : Int) : bits .and .i64 z 511 = (((z % 512).toNat : Nat) : Int) := by
  show IntKind.i64.wrap ((BitVec.ofInt 64 z &&& BitVec.ofInt 64 511).toNat : Int) = _
  rw [BitVec.toNat_and, show (BitVec.ofInt 64 511).toNat = 2 ^ 9 - 1 by decide, Nat.and_two_pow_sub_one_eq_mod, BitVec.toNat_ofInt]
  rw [show (((z % ((2 ^ 64 : Nat) : Int)).toNat % 2 ^ 9 : Nat) : Int) = ((z % 512).toNat : Int) by omega]
  exact IntWalk.i64_in _ (by omega)
theorem bare_pow {X : List (BitVec 8)} (h : Bare X) {d : Nat} (k : Nat) (hd : val X < 2 ^ d) (hk : d ≤ 8 * k) : X.length ≤ k :=
  bare_len h (Nat.lt_of_lt_of_le hd (Nat.pow_le_pow_right (by decide) hk))
theorem shl_zero (n : Nat) : 0 <<< n = 0 := by rw [Nat.shiftLeft_eq, Nat.zero_mul]
end Go.Proofs.YtbapmkhdpfgnlaaDoor.Bin
/- The contracts of package binpoly in terms of the polynomials' values alone. By the verifier of shale. -/
namespace Go.Proofs.YtbapmkhdpfgnlaaDoor.Bin
open Go Go.RowKit
set_option linter.unusedVariables false
/-- a polynomial of this value, of at most k bytes. -/
def PolV (w : World) (k : Nat) (a : Option Addr) (n c : Nat) (v : Nat) : Prop := ∃ X, Pol w a n c X ∧ val X = v ∧ n ≤ k
theorem PolV.below {w w' : World} {k : Nat} {a : Option Addr} {n c v : Nat} (h : PolV w k a n c v) (b : Below w.heap.size w w') : PolV w' k a n c v := by
  obtain ⟨X, h1, h2, h3⟩ := h
  exact ⟨X, h1.below b, h2, h3⟩
theorem PolV.lt {w : World} {k : Nat} {a : Option Addr} {n c v : Nat} (h : PolV w k a n c v) : v < room k := by
  obtain ⟨X, h1, rfl, h3⟩ := h
  exact val_room (by have := h1.hlen; omega)
theorem PolV.drawn {w w' : World} {k : Nat} {a : Option Addr} {n c v : Nat} (h : PolV w k a n c v) (d : Drawn w w') : PolV w' k a n c v := h.below (d.below _)
/-- a new one, bare. -/
def NewV (w0 w : World) (k : Nat) (a : Option Addr) (n c : Nat) (v : Nat) : Prop := ∃ X, NewP w0 w a n c X ∧ Bare X ∧ val X = v ∧ n ≤ k
theorem NewV.pol {w0 w : World} {k : Nat} {a : Option Addr} {n c v : Nat} (h : NewV w0 w k a n c v) : PolV w k a n c v := by
  obtain ⟨X, h1, _, h2, h3⟩ := h
  exact ⟨X, h1.pol, h2, h3⟩
theorem newV {w0 w : World} {a : Option Addr} {n c v : Nat} {X : List (BitVec 8)} (h : NewP w0 w a n c X) (b : Bare X) (hv : val X = v) (K : Nat) (hK : v < room K) : NewV w0 w K a n c v :=
  ⟨X, h, b, hv, by have := bare_len b (k := K) (by rw [hv]; exact hK); have := h.hlen; omega⟩
theorem room_mono {i j : Nat} (h : i ≤ j) : room i ≤ room j := Nat.pow_le_pow_right (by decide) (by omega)
theorem room_pm {u v i j : Nat} (hu : u < room i) (hv : v < room j) : pm u v < room (i + j) := by
  by_cases h1 : u = 0
  · rw [h1, zero_pm]; exact Nat.two_pow_pos _
  · by_cases h2 : v = 0
    · rw [h2, pm_zero]; exact Nat.two_pow_pos _
    · have d1 := (Nat.log2_lt h1).2 hu
      have d2 := (Nat.log2_lt h2).2 hv
      exact lt_of_deg (deg_pm (deg_of h1) _ v (deg_of h2)) (by omega)
theorem room_xor {u v i : Nat} (hu : u < room i) (hv : v < room i) : u ^^^ v < room i := Nat.xor_lt_two_pow hu hv
theorem room_dvd {u v i : Nat} (h0 : v ≠ 0) (h : Dvd u v) (hv : v < room i) : u < room i := by
  have hu : u ≠ 0 := by
    intro e; rw [e] at h; obtain ⟨q, hq⟩ := h; rw [pm_zero] at hq; exact h0 hq
  have := dvd_le h0 h
  have h2 := (Nat.log2_lt h0).2 hv
  exact lt_of_deg (deg_of hu) (by omega)
theorem room_gcd {u v g i : Nat} (hg : IsGcd u v g) (hu : u < room i) (hv : v < room i) : g < room i := by
  by_cases h0 : u = 0
  · by_cases h1 : v = 0
    · subst h0; subst h1
      rw [hg.unique (IsGcd.right_zero 0)]; exact hu
    · exact room_dvd h1 hg.2.1 hv
  · exact room_dvd h0 hg.1 hu
theorem room_div {u v q r i : Nat} (h0 : v ≠ 0) (h : IsDiv u v q r) (hu : u < room i) (hv : v < room i) : q < room i ∧ r < room i := by
  have hr : r < room i := Nat.lt_trans (rest_lt h h0) hv
  refine ⟨?_, hr⟩
  by_cases hq : q = 0
  · rw [hq]; exact Nat.two_pow_pos _
  · have hd := deg_pm (deg_of hq) _ v (deg_of h0)
    have hp : pm q v < room i := by
      have : pm q v = u ^^^ r := by rw [h.1, Nat.xor_assoc, Nat.xor_self, Nat.xor_zero]
      rw [this]; exact room_xor hu hr
    have hp0 : pm q v ≠ 0 := pm_ne hq h0
    have h1 := (Nat.log2_lt hp0).2 hp
    rw [hd.log2] at h1
    exact lt_of_deg (deg_of hq) (by omega)
theorem mulV {w : World} {k k' : Nat} {a a' : Option Addr} {n c n' c' u v : Nat} (K : Nat) (h1 : PolV w k a n c u) (h2 : PolV w k' a' n' c' v) (hk : k ≤ 200) (hk' : k' ≤ 200) (hK : k + k' ≤ K) :
    Calls Tryd.prog 33 #[.slice a n c, .slice a' n' c'] w fun e w' => ∃ a n c, e = .returned (.tuple #[.slice a n c, .nilIface]) ∧ NewV w w' K a n c (pm u v) ∧ Below w.heap.size w w' := by
  have hl := room_pm h1.lt h2.lt
  obtain ⟨X, p1, rfl, n1⟩ := h1
  obtain ⟨Y, p2, rfl, n2⟩ := h2
  refine (mul_any a n c X a' n' c' Y w p1 p2 (by omega) (by omega)).mono ?_
  rintro e w1 ⟨a3, n3, c3, Z, rfl, hZ, bZ, vZ, b⟩
  exact ⟨a3, n3, c3, rfl, newV hZ bZ vZ K (Nat.lt_of_lt_of_le hl (room_mono hK)), b⟩
theorem addV {w : World} {k k' : Nat} {a a' : Option Addr} {n c n' c' u v : Nat} (K : Nat) (h1 : PolV w k a n c u) (h2 : PolV w k' a' n' c' v) (hK : k ≤ K) (hK' : k' ≤ K) (hK2 : K ≤ 200) :
    Calls Tryd.prog 56 #[.slice a n c, .slice a' n' c'] w fun e w' => ∃ a n c, e = .returned (.slice a n c) ∧ NewV w w' K a n c (u ^^^ v) ∧ Below w.heap.size w w' := by
  have hl : u ^^^ v < room K := room_xor (Nat.lt_of_lt_of_le h1.lt (room_mono hK)) (Nat.lt_of_lt_of_le h2.lt (room_mono hK'))
  obtain ⟨X, p1, rfl, n1⟩ := h1
  obtain ⟨Y, p2, rfl, n2⟩ := h2
  refine (add_any a n c X a' n' c' Y w p1 p2 (by omega) (by omega)).mono ?_
  rintro e w1 ⟨a3, n3, c3, Z, rfl, hZ, bZ, vZ, b⟩
  exact ⟨a3, n3, c3, rfl, newV hZ bZ vZ K hl, b⟩
theorem polV_nil (w : World) : PolV w 0 none 0 0 0 := ⟨[], pol_nil w, rfl, Nat.le_refl _⟩
theorem sameV {w : World} {k k' : Nat} {a a' : Option Addr} {n c n' c' u v : Nat} (h1 : PolV w k a n c u) (h2 : PolV w k' a' n' c' v) :
    Calls Tryd.prog 34 #[.slice a n c, .slice a' n' c'] w fun e w' => e = .returned (.bool (decide (u = v))) ∧ w = w' := by
  obtain ⟨X, p1, rfl, n1⟩ := h1
  obtain ⟨Y, p2, rfl, n2⟩ := h2
  exact same_poly a n c X a' n' c' Y w p1 p2
theorem degV {w : World} {k : Nat} {a : Option Addr} {n c u : Nat} (h1 : PolV w k a n c u) (hk : k ≤ 200) :
    Calls Tryd.prog 29 #[.slice a n c] w fun e w' => e = .returned (.int .i64 (degZ u)) ∧ w = w' := by
  obtain ⟨X, p1, rfl, n1⟩ := h1
  exact degree_any a n c X w p1 (by omega)
theorem divV {w : World} {k k' : Nat} {a a' : Option Addr} {n c n' c' u v : Nat} (K : Nat) (h1 : PolV w k a n c u) (h2 : PolV w k' a' n' c' v) (hK : k ≤ K) (hK' : k' ≤ K) (hK2 : K ≤ 200) (h0 : v ≠ 0) :
    Calls Tryd.prog 31 #[.slice a n c, .slice a' n' c'] w fun e w' => ∃ a n c a' n' c' q r, e = .returned (.tuple #[.slice a n c, .slice a' n' c', .nilIface]) ∧ NewV w w' K a n c q ∧ NewV w w' K a' n' c' r ∧ IsDiv u v q r ∧ Below w.heap.size w w' := by
  have l1 := Nat.lt_of_lt_of_le h1.lt (room_mono hK)
  have l2 := Nat.lt_of_lt_of_le h2.lt (room_mono hK')
  obtain ⟨X, p1, rfl, n1⟩ := h1
  obtain ⟨Y, p2, rfl, n2⟩ := h2
  refine (divmod_any a n c X a' n' c' Y w p1 p2 (by omega) (by omega) h0).mono ?_
  rintro e w1 ⟨a3, n3, c3, Z, a4, n4, c4, R, rfl, hZ, hR, bZ, bR, hd, b⟩
  have hl := room_div h0 hd l1 l2
  exact ⟨a3, n3, c3, a4, n4, c4, _, _, rfl, newV hZ bZ rfl K hl.1, newV hR bR rfl K hl.2, hd, b⟩
theorem divZ {w : World} {k k' : Nat} {a a' : Option Addr} {n c n' c' : Nat} (h2 : PolV w k' a' n' c' 0) (hk : k' ≤ 200) (p : Addr) (E : ErrAt w 3 p) :
    Calls Tryd.prog 31 #[.slice a n c, .slice a' n' c'] w fun e w' => e = .returned (.tuple #[.slice none 0 0, .slice none 0 0, errOf p]) ∧ Drawn w w' := by
  obtain ⟨Y, p2, hv, n2⟩ := h2
  exact divmod_zero a n c a' n' c' Y w p2 (by omega) hv p E
theorem irrV {w : World} {k : Nat} {a : Option Addr} {n c u : Nat} (h1 : PolV w k a n c u) (hk : k ≤ 200) :
    Calls Tryd.prog 30 #[.slice a n c] w fun e w' => e = .returned (.bool (irrC u)) ∧ w = w' := by
  obtain ⟨X, p1, rfl, n1⟩ := h1
  exact irreducible_any a n c X w p1 (by omega)
theorem row_polV {w : World} {a : Option Addr} {len cap : Nat} {zs : List Int} (h : IsRow .u8 w a len cap zs) (K : Nat) (hK : len ≤ K) : ∃ v, PolV w K a len cap v := by
  obtain ⟨l, hl⟩ := row_pol h
  exact ⟨val l, l, hl, rfl, hK⟩
theorem par_xor_i64 (a b : Nat) : bits .xor .i64 (par a : Int) (par b : Int) = (par (a ^^^ b) : Int) := by
  rw [par_xor]
  have h1 := par_lt a
  have h2 := par_lt b
  rcases (by omega : par a = 0 ∨ par a = 1) with e1 | e1 <;> rcases (by omega : par b = 0 ∨ par b = 1) with e2 | e2 <;> rw [e1, e2] <;> rfl
theorem par_and_i64 (a b : Nat) : bits .and .i64 (par a : Int) (par b : Int) = (par (pm a b) : Int) := by
  rw [par_pm]
  have h1 := par_lt a
  have h2 := par_lt b
  rcases (by omega : par a = 0 ∨ par a = 1) with e1 | e1 <;> rcases (by omega : par b = 0 ∨ par b = 1) with e2 | e2 <;> rw [e1, e2] <;> rfl
theorem degZ_zero : degZ 0 = -1 := rfl
theorem degZ_ne {v : Nat} (h : v ≠ 0) : degZ v = (v.log2 : Int) := by unfold degZ; rw [if_neg h]
theorem degZ_room {v k : Nat} (h : v < room k) : degZ v < 8 * (k : Int) ∨ v = 0 := by
  by_cases h0 : v = 0
  · exact Or.inr h0
  · left
    rw [degZ_ne h0]
    have := (Nat.log2_lt h0).2 h
    omega
theorem degZ_pm {a b : Nat} (ha : a ≠ 0) (hb : b ≠ 0) : degZ (pm a b) = degZ a + degZ b := by
  have hd := deg_pm (deg_of ha) _ b (deg_of hb)
  rw [degZ_ne ha, degZ_ne hb, degZ_ne (pm_ne ha hb), hd.log2]
  omega
theorem degZ_rest {a b q r : Nat} (h : IsDiv a b q r) (hb : b ≠ 0) : degZ r < degZ b := by
  rw [degZ_ne hb]
  rcases h.2 with h1 | ⟨i, j, d1, d2, hij⟩
  · rw [h1, degZ_zero]; omega
  · rw [degZ_ne (by have := d1.pos; omega), d1.log2, d2.log2]; omega
end Go.Proofs.YtbapmkhdpfgnlaaDoor.Bin
/- The walk over package minimal's Of: a minimal polynomial. By the verifier of shale. -/
namespace Go.Proofs.YtbapmkhdpfgnlaaDoor.Cos
open Go Go.RowKit Bin
set_option linter.unusedVariables false
theorem buf_of_blk {w : World} {g : Nat} {l : List (BitVec 8)} (h : Blk8 w g l) : Buf8 w g l := by
  refine ⟨_, _, h, fun i hi => ?_⟩
  have := h.cell hi
  unfold World.cell? at this
  simp only at this
  rw [show w.heap[g]? = some (obj8 l) from h] at this
  simpa [obj8] using this
section
variable {m : Nat} [M : Pl.Mid m]
/-- a bit of the minimal polynomial. -/
def mpb (m : Nat) [M : Pl.Mid m] (f i : Nat) : Bool := decide (mpS m f i = 1)
/-- the minimal polynomial as a number. -/
def mpv (m : Nat) [M : Pl.Mid m] (f : Nat) : Nat := nb (mpb m f) ((cos m f).length + 1)
theorem mp_num {f : Nat} (hf : f < sz m) (i : Nat) : Pl.zn (mpS m f i) = if mpb m f i then 1 else 0 := by
  unfold mpb
  rcases mpS_bit hf i with h | h
  · rw [h, if_neg (by intro e; exact Pl.Fl.one_ne (of_decide_eq_true e).symm)]; rfl
  · rw [h, if_pos (decide_eq_true rfl)]; rfl
theorem mpb_top {f : Nat} (hf : f < sz m) : mpb m f (cos m f).length = true := decide_eq_true (mpS_top f hf)
theorem mpv_bit (f i : Nat) : (mpv m f).testBit i = (decide (i < (cos m f).length + 1) && mpb m f i) := nb_bit _ _ _
theorem mpv_lt (f : Nat) : mpv m f < 2 ^ ((cos m f).length + 1) := nb_lt _ _
theorem bare_byN {V n d : Nat} (hd : d / 8 + 1 = n) (hb : V.testBit d = true) : Bare (byN V n) := by
  intro _ h
  rw [byN_length, show n - 1 = d / 8 by omega] at h
  have := byN_bit V n (d / 8) (d % 8) (by omega) (Nat.mod_lt _ (by decide))
  rw [h, Nat.div_add_mod, hb] at this
  simp at this
set_option maxRecDepth 100000 in
set_option maxHeartbeats 1000000 in
theorem of_any {s be ce bl : Nat} (i : Int) (w : World) (F : Fld.FldAt m w s be ce bl) :
    Calls Tryd.prog 16 #[.pointer (some ⟨s, 0, none⟩), .int .i64 i] w
      fun e w' => ∃ a n c, e = .returned (.slice a n c) ∧ NewV w w' 2 a n c (mpv m (rs m i)) ∧ Below w.heap.size w w' := by
  have hf := rs_lt M.lo i
  obtain ⟨f, hfe⟩ : ∃ f, f = rs m i := ⟨_, rfl⟩
  rw [← hfe] at hf ⊢
  have HFE := Lib.hid hfe
  clear hfe
  have hlen := cos_len_le M.lo hf
  have hm14 := M.hi
  go_enter Tryd.func16, Tryd.ntmps16
  go_wp2_with fail
  refine (Fld.fm_any w F).mono ?_
  rintro e w' ⟨rfl, rfl⟩
  go_wp2_with fail
  refine (coset_any m M.lo M.hi i w).mono ?_
  rintro e w1 ⟨a1, n1, c1, rfl, hO, B⟩
  rw [← HFE.out] at hO
  have hl := hO.len
  rw [ints_length] at hl
  obtain rfl : n1 = (cos m f).length := hl.symm
  have hr := (Pl.own_rowz hO).1
  have F1 := F.below M.lo B
  clear hO hl F
  go_wp2_with fail
  refine (product_any (m := m) a1 _ c1 (cos m f) w1 F1 hr (by omega)).mono ?_
  rintro e w2 ⟨a2, n2, c2, rfl, P, b⟩
  replace B := B.trans (b.mono B.size)
  have hn2 : n2 = (cos m f).length + 1 := by
    rw [← P.top, Pl.top_same P.bd (mpS_dg f).2]
    exact Pl.top_dg (mpS_dg f)
  subst hn2
  clear hr F1 b
  go_wp2_with fail
  refine (narrow_any a2 _ c2 _ (mpb m f) w2 P.row (by omega) (fun k hk => by rw [Pl.nums_at _ _ _ hk]; exact mp_num hf k)).mono ?_
  rintro e w3 ⟨rfl, hB8, b⟩
  have HB := Lib.hid (B.trans (b.mono B.size))
  have HN : Hid (NewV w w3 2 (some ⟨w2.heap.size, 0, none⟩) (((cos m f).length + 1 + 7) / 8) (((cos m f).length + 1 + 7) / 8) (mpv m f)) := by
    refine ⟨_, ⟨by rw [byN_length], Nat.le_refl _, by unfold maxLen; omega, Or.inr ⟨_, rfl, B.size, buf_of_blk hB8⟩⟩, bare_byN (d := (cos m f).length) (by omega) ?_, val_byN (Nat.lt_of_lt_of_le (nb_lt _ _) (Nat.pow_le_pow_right (by decide) (by omega))), by omega⟩
    rw [nb_bit, mpb_top hf]; simp
  clear hB8 b B P
  go_wp2_with fail
  go_ret
  exact ⟨_, _, _, rfl, HN.out, HB.out⟩
end
end Go.Proofs.YtbapmkhdpfgnlaaDoor.Cos
/- The walks over package minimal's needed, Least, Generator. By the verifier of shale. -/
namespace Go.Proofs.YtbapmkhdpfgnlaaDoor.Cos
open Go Go.RowKit Bin
set_option linter.unusedVariables false
theorem CRow.open {w : World} {sb m n : Nat} {v : Value} {fs : List Nat} {vs : List Value} (h : CRow w sb m v n fs vs) (hn : 0 < n) :
    ∃ g9 cap, v = .slice (some ⟨g9, 0, none⟩) n cap ∧ n ≤ cap ∧ cap ≤ maxLen ∧ ∀ k, k < n → w.cell? ⟨g9, k, none⟩ = vs[k]? := by
  rcases h.own.2 with ⟨_, h1⟩ | ⟨g', cap', cur, hv, hbg, hh, hnc, hm, hs, ht⟩
  · omega
  · refine ⟨g', cap', hv, hnc, hm, fun k hk => ?_⟩
    unfold World.cell?
    simp only
    rw [hh]
    have e2 : cur.toList[k]? = vs[k]? := by rw [← ht, List.getElem?_take_of_lt (by omega)]
    simpa using e2
theorem CRow.below {w w' : World} {sb m n : Nat} {v : Value} {fs : List Nat} {vs : List Value} (h : CRow w sb m v n fs vs) (b : Below w.heap.size w w') (hne : ∀ k, k < n → cos m (fs.getD k 0) ≠ []) : CRow w' sb m v n fs vs :=
  h.keep (fun g _ h2 => b.block g h2) b.size hne
/-- how many numbers these cosets have. -/
def dgs (m : Nat) : List Nat → Nat
  | [] => 0
  | f :: t => (cos m f).length + dgs m t
theorem dgs_snoc (m f : Nat) : ∀ l, dgs m (l ++ [f]) = dgs m l + (cos m f).length
  | [] => by simp [dgs]
  | x :: t => by show (cos m x).length + dgs m (t ++ [f]) = (cos m x).length + dgs m t + _; rw [dgs_snoc m f t]; omega
theorem dgs_le {m : Nat} (hm : 3 ≤ m) : ∀ l, (∀ f ∈ l, f < sz m) → dgs m l ≤ m * l.length
  | [], _ => Nat.zero_le _
  | x :: t, h => by
    have h1 := cos_len_le hm (h x (List.mem_cons_self ..))
    have h2 := dgs_le hm t fun f hf => h f (List.mem_cons_of_mem _ hf)
    show (cos m x).length + dgs m t ≤ m * (t.length + 1)
    rw [Nat.mul_add]; omega
theorem take_snocN (l : List Nat) (i : Nat) (hi : i < l.length) : l.take (i + 1) = l.take i ++ [l.getD i 0] := by
  rw [List.take_add_one, List.getD_eq_getElem?_getD, List.getElem?_eq_getElem hi]; rfl
theorem leads_pos (m a s k : Nat) : 0 < (leads m a s (k + 1)).length := by
  induction k with
  | zero => simp [leads, cov]
  | succ k ih =>
    rw [leads]
    split
    · exact ih
    · simp
/-- the cosets that are needed, and how many numbers they have. -/
def NeedOk (m t : Nat) (w : World) (e : Ending) (w' : World) : Prop := ∃ v n vs, e = .returned (.tuple #[v, .int .i64 ((dgs m (leads m 1 2 t) : Nat) : Int), .nilIface]) ∧ CRow w' w.heap.size m v n (leads m 1 2 t) vs ∧ Below w.heap.size w w'
/-- .. or the word that there is no such code. -/
def NeedNo (y : Addr) (w : World) (e : Ending) (w' : World) : Prop := e = .returned (.tuple #[.slice none 0 0, .int .i64 0, errOf y]) ∧ Below w.heap.size w w'
def NeedAt (m t : Nat) (y : Addr) (w : World) (e : Ending) (w' : World) : Prop := (dgs m (leads m 1 2 t) < sz m ∧ NeedOk m t w e w') ∨ (sz m ≤ dgs m (leads m 1 2 t) ∧ NeedNo y w e w')
set_option maxRecDepth 100000 in
set_option maxHeartbeats 1000000 in
theorem needed_any (m t : Nat) (hm : 3 ≤ m) (hm2 : m ≤ 14) (ht1 : 1 ≤ t) (ht2 : t ≤ 40) (w : World) (y : Addr) (E : ErrAt w 1 y) :
    Calls Tryd.prog 51 #[.int .i64 (m : Int), .int .i64 (t : Int)] w
      (NeedAt m t y w) := by
  have h1 : ¬ (m : Int) < 3 := by omega
  have h2 : ¬ (14 : Int) < (m : Int) := by omega
  have h3 : ¬ (t : Int) < 1 := by omega
  have h4 : ¬ (40 : Int) < (t : Int) := by omega
  have hm14 : (m : Int) ≤ 14 := by omega
  have ho := Fld.shl_one m hm2
  have hn7 := sz_lo hm
  have hn2 := sz_hi hm2
  have hw : IntKind.i64.wrap ((Fld.els m : Int) - 1) = (sz m : Int) := by
    have : (Fld.els m : Int) - 1 = (sz m : Int) := by unfold Fld.els sz; have := Nat.two_pow_pos m; omega
    rw [this]; exact IntWalk.i64_in _ (by omega)
  obtain ⟨N, hN⟩ : ∃ N, N = sz m := ⟨_, rfl⟩
  have HN := Lib.hid hN
  rw [← hN] at hw hn7 hn2
  clear hN
  obtain ⟨fs, hfs⟩ : ∃ fs, fs = leads m 1 2 t := ⟨_, rfl⟩
  have HLT : Hid (∀ f ∈ fs, f < sz m) := fun f hf => leads_lt hm 1 2 t f (by rw [← hfs]; exact hf)
  have hD : dgs m fs ≤ 560 := by
    have a1 := dgs_le hm fs HLT.out
    have a2 : fs.length ≤ t := by rw [hfs]; exact leads_le m 1 2 t
    have a3 : m * fs.length ≤ 14 * 40 := Nat.mul_le_mul hm2 (by omega)
    omega
  have hfpos : 0 < fs.length := by
    obtain ⟨t', rfl⟩ : ∃ t', t = t' + 1 := ⟨t - 1, by omega⟩
    rw [hfs]; exact leads_pos m 1 2 t'
  have HFS := Lib.hid hfs
  clear hfs
  have hE := E.1
  go_enter Tryd.func51, Tryd.ntmps51
  go_wp2_with fail
  refine (cosets_any m 1 2 t (2 * (t : Int) - 1) hm hm2 (by omega) (fun k hk => by omega) (by omega) (by omega) (by omega) w).mono ?_
  rintro e w1 ⟨v, n, vs, rfl, hC, B⟩
  rw [← HFS.out] at hC
  have hnl := hC.len
  obtain ⟨g9, cap, rfl, hnc, hcm, hcell⟩ := hC.open (by omega)
  have hnm : n ≤ 40 := by rw [← hnl, HFS.out]; have := leads_le m 1 2 t; omega
  have E1 := (E.below B).1
  unfold Sent at E1
  have HC := Lib.hid hC
  have HCell := Lib.hid hcell
  have HNL := Lib.hid hnl
  clear hC hcell hnl hE E
  go_wp2_with fail
  go_loopg [8, 32] n (fun gh s8 s32 wx => ∃ (k : Nat), gh = n - k ∧ k ≤ n ∧ s32 = .int .i64 (k : Int) ∧ s8 = .int .i64 ((dgs m (fs.take k) : Nat) : Int) ∧ w1 = wx)
  case atStart => exact ⟨0, rfl, Nat.zero_le _, rfl, rfl, rfl⟩
  case round =>
    obtain ⟨k, hg, hk, rfl, rfl, rfl⟩ := hrel
    have HG := Lib.hid hg
    clear hg
    by_cases hlt : k < n
    · have x1 : (k : Int) < (n : Int) := by omega
      have x0 : (0 : Int) ≤ (k : Int) := by omega
      obtain ⟨g, c, e, _, _, _⟩ := HC.out.each k hlt
      have d1 := (HCell.out k hlt).trans e
      have hs : dgs m (fs.take (k + 1)) = dgs m (fs.take k) + (cos m (fs.getD k 0)).length := by
        rw [take_snocN fs k (by rw [HNL.out]; exact hlt), dgs_snoc]
      have hle : dgs m (fs.take (k + 1)) ≤ 560 := by
        have a1 := dgs_le hm (fs.take (k + 1)) fun f hf => HLT.out f (List.mem_of_mem_take hf)
        have a2 : (fs.take (k + 1)).length ≤ 40 := by rw [List.length_take]; omega
        have a3 : m * (fs.take (k + 1)).length ≤ 14 * 40 := Nat.mul_le_mul hm2 a2
        omega
      obtain ⟨D, hDe⟩ : ∃ D, D = dgs m (fs.take k) := ⟨_, rfl⟩
      obtain ⟨L, hLe⟩ : ∃ L, L = (cos m (fs.getD k 0)).length := ⟨_, rfl⟩
      rw [← hDe, ← hLe] at hs
      rw [← hLe] at d1
      rw [← hDe]
      have HS : Hid (((dgs m (fs.take (k + 1)) : Nat) : Int) = (D : Int) + (L : Int)) := by show _ = _; omega
      have z1 : D + L ≤ 560 := by omega
      have i1 : IntKind.i64.wrap ((D : Int) + (L : Int)) = (D : Int) + (L : Int) := IntWalk.i64_in _ (by omega)
      clear hs hle hDe hLe e
      go_wp2_with fail
      go_roundg (n - (k + 1))
      case measure => have := HG.out; omega
      case rel => exact ⟨k + 1, rfl, by omega, by go_num, by rw [HS.out], rfl⟩
    · obtain rfl : k = n := by omega
      rw [List.take_of_length_le (by rw [HNL.out]; exact Nat.le_refl _)]
      obtain ⟨D, hDe⟩ : ∃ D, D = dgs m fs := ⟨_, rfl⟩
      rw [← hDe] at hD ⊢
      have HDE := Lib.hid hDe
      clear hDe
      by_cases hd : N ≤ D
      · have t1 : decide ((N : Int) ≤ (D : Int)) = true := decide_eq_true (by omega)
        go_wp2_with fail
        go_quiet (fail)
        have hd2 := B.trans ((Drawn.mk w1 nq).below w.heap.size)
        generalize w1.drewN nq = w5 at hd2 ⊢
        clear E1
        go_wp2_with fail
        go_ret3
        exact Or.inr ⟨by rw [← HFS.out, ← HN.out, ← HDE.out]; exact hd, rfl, hd2⟩
      · have t1 : decide ((N : Int) ≤ (D : Int)) = false := decide_eq_false (by omega)
        have hd' : ¬ (N : Int) ≤ (D : Int) := by omega
        go_wp2_with fail
        go_ret3
        exact Or.inl ⟨by rw [← HFS.out, ← HN.out, ← HDE.out]; omega, _, k, vs, by rw [← HFS.out, ← HDE.out]; rfl, by rw [← HFS.out]; exact HC.out, B⟩
end Go.Proofs.YtbapmkhdpfgnlaaDoor.Cos
/- The walks over package minimal's Least, Generator; what they refuse. By the verifier of shale. -/
namespace Go.Proofs.YtbapmkhdpfgnlaaDoor.Cos
open Go Go.RowKit Bin
set_option linter.unusedVariables false
set_option maxRecDepth 100000 in
set_option maxHeartbeats 400000 in
theorem coset_m (a i : Int) (ha : a < 3 ∨ 14 < a) (w : World) (y : Addr) (E : ErrAt w 0 y) :
    Calls Tryd.prog 10 #[.int .i64 a, .int .i64 i] w fun e w' => e = .returned (.tuple #[.slice none 0 0, errOf y]) ∧ Drawn w w' := by
  have e1 := E.1
  unfold Sent at e1
  have t : decide (a < 3) = true ∨ (decide (a < 3) = false ∧ decide (14 < a) = true) := by
    by_cases h : a < 3
    · exact Or.inl (decide_eq_true h)
    · exact Or.inr ⟨decide_eq_false h, decide_eq_true (by omega)⟩
  clear ha
  rcases t with t1 | ⟨t1, t2⟩
  all_goals
    go_enter Tryd.func10, Tryd.ntmps10
    go_wp2_with fail
    go_quiet (fail)
    have hd2 := Drawn.mk w nq
    generalize w.drewN nq = w5 at hd2 ⊢
    clear e1
    go_wp2_with fail
    go_ret2
    exact ⟨rfl, hd2⟩
set_option maxRecDepth 100000 in
set_option maxHeartbeats 400000 in
theorem needed_m (a t : Int) (ha : a < 3 ∨ 14 < a) (w : World) (y : Addr) (E : ErrAt w 0 y) :
    Calls Tryd.prog 51 #[.int .i64 a, .int .i64 t] w fun e w' => e = .returned (.tuple #[.slice none 0 0, .int .i64 0, errOf y]) ∧ Drawn w w' := by
  have e1 := E.1
  unfold Sent at e1
  have t : decide (a < 3) = true ∨ (decide (a < 3) = false ∧ decide (14 < a) = true) := by
    by_cases h : a < 3
    · exact Or.inl (decide_eq_true h)
    · exact Or.inr ⟨decide_eq_false h, decide_eq_true (by omega)⟩
  clear ha
  rcases t with t1 | ⟨t1, t2⟩
  all_goals
    go_enter Tryd.func51, Tryd.ntmps51
    go_wp2_with fail
    go_quiet (fail)
    have hd2 := Drawn.mk w nq
    generalize w.drewN nq = w5 at hd2 ⊢
    clear e1
    go_wp2_with fail
    go_ret3
    exact ⟨rfl, hd2⟩
set_option maxRecDepth 100000 in
set_option maxHeartbeats 400000 in
theorem needed_t (a t : Int) (ha : 3 ≤ a ∧ a ≤ 14) (ht : t < 1 ∨ 40 < t) (w : World) (y : Addr) (E : ErrAt w 2 y) :
    Calls Tryd.prog 51 #[.int .i64 a, .int .i64 t] w fun e w' => e = .returned (.tuple #[.slice none 0 0, .int .i64 0, errOf y]) ∧ Drawn w w' := by
  have e1 := E.1
  unfold Sent at e1
  have b1 : decide (a < 3) = false := decide_eq_false (by omega)
  have b2 : decide (14 < a) = false := decide_eq_false (by omega)
  have t : decide (t < 1) = true ∨ (decide (t < 1) = false ∧ decide (40 < t) = true) := by
    by_cases h : t < 1
    · exact Or.inl (decide_eq_true h)
    · exact Or.inr ⟨decide_eq_false h, decide_eq_true (by omega)⟩
  clear ha ht
  rcases t with t1 | ⟨t1, t2⟩
  all_goals
    go_enter Tryd.func51, Tryd.ntmps51
    go_wp2_with fail
    go_quiet (fail)
    have hd2 := Drawn.mk w nq
    generalize w.drewN nq = w5 at hd2 ⊢
    clear e1
    go_wp2_with fail
    go_ret3
    exact ⟨rfl, hd2⟩
def LeastAt (m t : Nat) (y : Addr) (w : World) (e : Ending) (w' : World) : Prop :=
  (dgs m (leads m 1 2 t) < sz m ∧ e = .returned (.tuple #[.int .i64 ((dgs m (leads m 1 2 t) : Nat) : Int), .nilIface]) ∧ Below w.heap.size w w') ∨
  (sz m ≤ dgs m (leads m 1 2 t) ∧ e = .returned (.tuple #[.int .i64 0, errOf y]) ∧ Below w.heap.size w w')
set_option maxHeartbeats 400000 in
theorem least_any (m t : Nat) (hm : 3 ≤ m) (hm2 : m ≤ 14) (ht1 : 1 ≤ t) (ht2 : t ≤ 40) (w : World) (y : Addr) (E : ErrAt w 1 y) :
    Calls Tryd.prog 23 #[.int .i64 (m : Int), .int .i64 (t : Int)] w (LeastAt m t y w) := by
  go_enter Tryd.func23, Tryd.ntmps23
  go_wp2_with fail
  refine (needed_any m t hm hm2 ht1 ht2 w y E).mono ?_
  rintro e w1 (⟨hd, v, n, vs, rfl, hC, B⟩ | ⟨hd, rfl, B⟩)
  · have HD := Lib.hid hd
    clear hC hd
    go_wp2_with fail
    go_ret2
    exact Or.inl ⟨HD.out, rfl, B⟩
  · have HD := Lib.hid hd
    clear hd
    go_wp2_with fail
    go_ret2
    exact Or.inr ⟨HD.out, rfl, B⟩
set_option maxHeartbeats 400000 in
theorem least_bad (a t : Int) (w : World) (y : Addr) (H : Calls Tryd.prog 51 #[.int .i64 a, .int .i64 t] w fun e w' => e = .returned (.tuple #[.slice none 0 0, .int .i64 0, errOf y]) ∧ Drawn w w') :
    Calls Tryd.prog 23 #[.int .i64 a, .int .i64 t] w fun e w' => e = .returned (.tuple #[.int .i64 0, errOf y]) ∧ Drawn w w' := by
  go_enter Tryd.func23, Tryd.ntmps23
  go_wp2_with fail
  refine H.mono ?_
  rintro e w1 ⟨rfl, B⟩
  go_wp2_with fail
  go_ret2
  exact ⟨rfl, B⟩
section
variable {m : Nat} [M : Pl.Mid m]
/-- the product of the minimal polynomials of these. -/
def gpr (m : Nat) [M : Pl.Mid m] (fs : List Nat) : Nat := fs.foldl (fun g f => pm g (mpv m f)) 1
theorem gpr_snoc (fs : List Nat) (f : Nat) : gpr m (fs ++ [f]) = pm (gpr m fs) (mpv m f) := by unfold gpr; rw [List.foldl_append]; rfl
theorem mpv_same {f k : Nat} (hf : f < sz m) (h : k ∈ cos m f) : mpv m k = mpv m f := by
  have e := cos_same M.lo hf h
  have e2 : mpS m k = mpS m f := by unfold mpS; rw [e]
  unfold mpv mpb
  rw [e, e2]
theorem hd_mem {f : Nat} (hf : f < sz m) : (cos m f).getD 0 0 ∈ cos m f := getD_lt (List.length_pos_iff.2 (cos_ne M.lo hf))
omit M in
theorem rs_nat {k : Nat} (h : k < sz m) : rs m (k : Int) = k := by
  unfold rs
  rw [← Int.natCast_emod, Nat.mod_eq_of_lt h]; rfl
theorem newV_since {w0 w w' : World} {K : Nat} {a : Option Addr} {n c v : Nat} (h : NewV w0 w K a n c v) (b : Below w.heap.size w w') : NewV w0 w' K a n c v := by
  obtain ⟨X, h1, h2, h3, h4⟩ := h
  exact ⟨X, h1.since b, h2, h3, h4⟩
theorem newV_from {w0 w1 w : World} {K : Nat} {a : Option Addr} {n c v : Nat} (h : NewV w1 w K a n c v) (b : w0.heap.size ≤ w1.heap.size) : NewV w0 w K a n c v := by
  obtain ⟨X, h1, h2, h3, h4⟩ := h
  exact ⟨X, h1.from b, h2, h3, h4⟩
theorem newV_more {w0 w : World} {K K' : Nat} {a : Option Addr} {n c v : Nat} (h : NewV w0 w K a n c v) (b : K ≤ K') : NewV w0 w K' a n c v := by
  obtain ⟨X, h1, h2, h3, h4⟩ := h
  exact ⟨X, h1, h2, h3, by omega⟩
def GenAt (m : Nat) [M : Pl.Mid m] (t : Nat) (y : Addr) (w : World) (e : Ending) (w' : World) : Prop :=
  (dgs m (leads m 1 2 t) < sz m ∧ ∃ a n c, e = .returned (.tuple #[.slice a n c, .nilIface]) ∧ NewV w w' 81 a n c (gpr m (leads m 1 2 t)) ∧ Below w.heap.size w w') ∨
  (sz m ≤ dgs m (leads m 1 2 t) ∧ e = .returned (.tuple #[.slice none 0 0, errOf y]) ∧ Below w.heap.size w w')
set_option maxRecDepth 100000 in
set_option maxHeartbeats 1000000 in
theorem generator_any {s be ce bl : Nat} (t : Nat) (ht1 : 1 ≤ t) (ht2 : t ≤ 40) (w : World) (F : Fld.FldAt m w s be ce bl) (y : Addr) (E : ErrAt w 1 y) :
    Calls Tryd.prog 26 #[.pointer (some ⟨s, 0, none⟩), .int .i64 (t : Int)] w (GenAt m t y w) := by
  have HLT : Hid (∀ f ∈ leads m 1 2 t, f < sz m) := leads_lt M.lo 1 2 t
  go_enter Tryd.func26, Tryd.ntmps26
  go_wp2_with fail
  refine (Fld.fm_any w F).mono ?_
  rintro e w' ⟨rfl, rfl⟩
  go_wp2_with fail
  refine (needed_any m t M.lo M.hi ht1 ht2 w y E).mono ?_
  rintro e w1 (⟨hd, v, n, vs, rfl, hC, B⟩ | ⟨hd, rfl, B⟩)
  rotate_left
  · have HD := Lib.hid hd
    clear hd
    go_wp2_with fail
    go_ret2
    exact Or.inr ⟨HD.out, rfl, B⟩
  · have hnl := hC.len
    have hn0 : 0 < n := by
      obtain ⟨t', rfl⟩ : ∃ t', t = t' + 1 := ⟨t - 1, by omega⟩
      rw [← hnl]; exact leads_pos m 1 2 t'
    have hnm : n ≤ 40 := by have := leads_le m 1 2 t; omega
    obtain ⟨g9, cap, rfl, hnc, hcm, _⟩ := hC.open hn0
    have HNE : Hid (∀ k, k < n → cos m ((leads m 1 2 t).getD k 0) ≠ []) := fun k hk => cos_ne M.lo (HLT.out _ (getD_lt (by rw [hnl]; exact hk)))
    have HD := Lib.hid hd
    have HNL := Lib.hid hnl
    have F1 := F.below M.lo B
    clear hd hnl F E
    go_wp2_with fail
    have hb1 : Below w1.heap.size w1 (w1.alloc (obj8 [1])) := (Below.refl _ _).alloc (Nat.le_refl _) _
    have hg1 : NewV w (w1.alloc (obj8 [1])) 1 (some ⟨w1.heap.size, 0, none⟩) 1 1 (gpr m ((leads m 1 2 t).take 0)) := ⟨[1], ⟨rfl, Nat.le_refl _, by decide, Or.inr ⟨_, rfl, B.size, Cos.buf_of_blk (Blk8.new w1 [1])⟩⟩, fun _ => by decide, by rfl, Nat.le_refl _⟩
    have hob : obj8 [1] = .cells #[.int .u8 1] 5 := rfl
    rw [← hob]
    have hC2 := hC.below hb1 HNE.out
    have F2 := F1.below M.lo hb1
    have B2 := B.trans (hb1.mono B.size)
    clear hob hC F1 B hb1
    generalize w1.alloc (obj8 [1]) = w2 at hg1 hC2 F2 B2 ⊢
    generalize (some ⟨w1.heap.size, 0, none⟩ : Option Addr) = ag at hg1 ⊢
    have HS : Hid (CRow w2 w.heap.size m (.slice (some ⟨g9, 0, none⟩) n cap) n (leads m 1 2 t) vs ∧ Fld.FldAt m w2 s be ce bl ∧ Below w.heap.size w w2) := ⟨hC2, F2, B2⟩
    have HG1 := Lib.hid hg1
    clear hC2 F2 B2 hg1
    go_wp2_with fail
    go_loopg [9, 26] n (fun gh s9 s26 wx => ∃ (k : Nat) (ax : Option Addr) (nx cx : Nat), gh = n - k ∧ k ≤ n ∧ s26 = .int .i64 (k : Int) ∧ s9 = .slice ax nx cx ∧ Hid (NewV w wx (1 + 2 * k) ax nx cx (gpr m ((leads m 1 2 t).take k))) ∧ Hid (CRow wx w.heap.size m (.slice (some ⟨g9, 0, none⟩) n cap) n (leads m 1 2 t) vs ∧ Fld.FldAt m wx s be ce bl ∧ Below w.heap.size w wx))
    case atStart => exact ⟨0, ag, 1, 1, rfl, Nat.zero_le _, rfl, rfl, HG1, HS⟩
    case round =>
      clear HG1 HS
      obtain ⟨k, ax, nx, cx, hg, hk, rfl, rfl, HP, HS⟩ := hrel
      have HG := Lib.hid hg
      clear hg
      by_cases hlt : k < n
      · have x1 : (k : Int) < (n : Int) := by omega
        have x0 : (0 : Int) ≤ (k : Int) := by omega
        obtain ⟨g, c, e, hr, _, _⟩ := HS.out.1.each k hlt
        obtain ⟨g9', cap', hv, _, _, hcell⟩ := HS.out.1.open hn0
        simp only [Value.slice.injEq, Option.some.injEq, Addr.mk.injEq, true_and, and_true] at hv
        obtain ⟨rfl, rfl⟩ := hv
        have d1 := (hcell k hlt).trans e
        obtain ⟨f, hfe⟩ : ∃ f, f = (leads m 1 2 t).getD k 0 := ⟨_, rfl⟩
        rw [← hfe] at hr d1
        have hf : f < sz m := by rw [hfe]; exact HLT.out _ (getD_lt (by rw [HNL.out]; exact hlt))
        have HT : Hid (gpr m ((leads m 1 2 t).take (k + 1)) = pm (gpr m ((leads m 1 2 t).take k)) (mpv m f)) := by
          show _ = _
          rw [take_snocN _ k (by rw [HNL.out]; exact hlt), gpr_snoc, ← hfe]
        have hxm := hd_mem (m := m) hf
        obtain ⟨x, hxe⟩ : ∃ x, x = (cos m f).getD 0 0 := ⟨_, rfl⟩
        have hpos : 0 < (cos m f).length := List.length_pos_iff.2 (cos_ne M.lo hf)
        have d2 : wr.cell? ⟨g, 0, none⟩ = some (.int .i64 (x : Int)) := by
          obtain ⟨b', o', e', hc', _⟩ := hr.row 0 hpos
          simp only [Option.some.injEq, Addr.mk.injEq] at e'
          obtain ⟨rfl, rfl, _⟩ := e'
          rw [Nat.zero_add] at hc'
          rw [hc', hxe]
          unfold ints
          rw [List.getD_eq_getElem?_getD, List.getElem?_map, List.getD_eq_getElem?_getD, List.getElem?_eq_getElem hpos]
          rfl
        rw [← hxe] at hxm
        have hx : mpv m (rs m (x : Int)) = mpv m f := by rw [rs_nat ((mem_cos x).1 hxm).1, mpv_same hf hxm]
        have HX := Lib.hid hx
        obtain ⟨L, hLe⟩ : ∃ L, L = (cos m f).length := ⟨_, rfl⟩
        rw [← hLe] at d1 hpos
        have z1 : (0 : Int) < (L : Int) := by omega
        clear hr hcell e hfe hf hxm hxe hx hLe
        go_wp2_with fail
        refine (of_any (m := m) (x : Int) wr HS.out.2.1).mono ?_
        rintro e w5 ⟨a5, n5, c5, rfl, h5, b5⟩
        rw [HX.out] at h5
        have P1 := (newV_since HP.out b5).pol
        have HS5 : Hid (CRow w5 w.heap.size m (.slice (some ⟨g9, 0, none⟩) n cap) n (leads m 1 2 t) vs ∧ Fld.FldAt m w5 s be ce bl ∧ Below w.heap.size w w5) := ⟨HS.out.1.below b5 HNE.out, HS.out.2.1.below M.lo b5, HS.out.2.2.trans (b5.mono HS.out.2.2.size)⟩
        have P2 := h5.pol
        clear HS HP h5 b5 d1 d2
        go_wp2_with fail
        refine (mulV (1 + 2 * (k + 1)) P1 P2 (by omega) (by omega) (by omega)).mono ?_
        rintro e w6 ⟨a6, n6, c6, rfl, h6, b6⟩
        have HP6 : Hid (NewV w w6 (1 + 2 * (k + 1)) a6 n6 c6 (gpr m ((leads m 1 2 t).take (k + 1)))) := by
          show NewV _ _ _ _ _ _ _
          rw [HT.out]
          exact newV_from h6 HS5.out.2.2.size
        have HS6 : Hid (CRow w6 w.heap.size m (.slice (some ⟨g9, 0, none⟩) n cap) n (leads m 1 2 t) vs ∧ Fld.FldAt m w6 s be ce bl ∧ Below w.heap.size w w6) := ⟨HS5.out.1.below b6 HNE.out, HS5.out.2.1.below M.lo b6, HS5.out.2.2.trans (b6.mono HS5.out.2.2.size)⟩
        clear HS5 h6 b6 P1 P2
        go_wp2_with fail
        go_roundg (n - (k + 1))
        case measure => have := HG.out; omega
        case rel => exact ⟨k + 1, a6, n6, c6, rfl, by omega, by go_num, rfl, HP6, HS6⟩
      · obtain rfl : k = n := by omega
        have HF : Hid (NewV w wr 81 ax nx cx (gpr m (leads m 1 2 t))) := by
          have h := newV_more HP.out (by omega : 1 + 2 * k ≤ 81)
          rwa [List.take_of_length_le (by rw [HNL.out]; exact Nat.le_refl _)] at h
        go_wp2_with fail
        go_ret2
        exact Or.inl ⟨HD.out, ax, nx, cx, rfl, HF.out, HS.out.2.2⟩
set_option maxHeartbeats 400000 in
theorem generator_t {s be ce bl : Nat} (t : Int) (ht : t < 1 ∨ 40 < t) (w : World) (F : Fld.FldAt m w s be ce bl) (y : Addr) (E : ErrAt w 2 y) :
    Calls Tryd.prog 26 #[.pointer (some ⟨s, 0, none⟩), .int .i64 t] w fun e w' => e = .returned (.tuple #[.slice none 0 0, errOf y]) ∧ Drawn w w' := by
  go_enter Tryd.func26, Tryd.ntmps26
  go_wp2_with fail
  refine (Fld.fm_any w F).mono ?_
  rintro e w' ⟨rfl, rfl⟩
  go_wp2_with fail
  have hm1 := M.lo
  have hm2 := M.hi
  refine (needed_t (m : Int) t ⟨by omega, by omega⟩ ht w y E).mono ?_
  rintro e w1 ⟨rfl, B⟩
  go_wp2_with fail
  go_ret2
  exact ⟨rfl, B⟩
end
end Go.Proofs.YtbapmkhdpfgnlaaDoor.Cos
/- The examples of chapter 5, as the statements ask them first of all; the field that a statement makes; Cosets. By the verifier of shale. -/
namespace Go.Proofs.YtbapmkhdpfgnlaaDoor.Cos
open Go Go.RowKit Bin
set_option linter.unusedVariables false
theorem sameNV {w0 w1 w : World} {K K' : Nat} {a a' : Option Addr} {n c n' c' v v' : Nat} (h1 : NewV w0 w K a n c v) (h2 : NewV w1 w K' a' n' c' v') (e : v = v') :
    Calls Tryd.prog 15 #[.slice a n c, .slice a' n' c'] w fun e w' => e = .returned (.bool true) ∧ w = w' := by
  obtain ⟨X, p1, b1, e1, _⟩ := h1
  obtain ⟨Y, p2, b2, e2, _⟩ := h2
  have hXY : X = Y := bare_inj b1 b2 (by rw [e1, e2, e])
  refine (same_any X Y _ _ w (Str8.of p1.pol.arg.1) (Str8.of p2.pol.arg.1)).mono ?_
  rintro e w' ⟨rfl, rfl⟩
  exact ⟨by rw [decide_eq_true hXY], rfl⟩
theorem litB (w W : World) (Y : List (BitVec 8)) (k v : Nat) (hW : W = w.alloc (obj8 Y)) (hk : k = Y.length) (hm : k ≤ 1000) (hb : Bare Y) (hv : val Y = v) : NewV w W k (some ⟨w.heap.size, 0, none⟩) k k v ∧ Below w.heap.size w W := by
  subst hW
  exact ⟨⟨Y, ⟨hk, Nat.le_refl _, by unfold maxLen; omega, Or.inr ⟨_, rfl, Nat.le_refl _, buf_of_blk (Blk8.new w Y)⟩⟩, hb, hv, Nat.le_refl _⟩, (Below.refl _ _).alloc (Nat.le_refl _) _⟩
instance : Pl.Mid 4 := ⟨by decide, by decide⟩
theorem f1 : cos 4 (rs 4 5) = [5, 10] := by decide +kernel
theorem f2 : gpr 4 (leads 4 1 2 2) = 0x1d1 := by decide +kernel
theorem f3 : mpv 4 (rs 4 3) = 0x1f := by decide +kernel
theorem f4 : dgs 4 (leads 4 1 2 2) < sz 4 := by decide +kernel
theorem f5 : sz 4 ≤ dgs 4 (leads 4 1 2 8) := by decide +kernel
theorem bare1 : Bare [31#8] := fun _ => by decide
theorem bare2 : Bare [209#8, 1#8] := fun _ => by decide
set_option maxRecDepth 100000 in
set_option maxHeartbeats 2000000 in
theorem first_any (w : World) (y : Addr) (E : ErrAt w 1 y) :
    Calls Tryd.prog 9 #[] w fun e w' => e = .returned (.bool true) ∧ Below w.heap.size w w' := by
  go_enter Tryd.func9, Tryd.ntmps9
  go_wp2_with fail
  refine (coset_any 4 (by decide) (by decide) 5 w).mono ?_
  rintro e w1 ⟨a1, n1, c1, rfl, hO, B⟩
  rw [f1] at hO
  have hr := (Pl.own_rowz hO).1
  have hl := hO.len
  obtain rfl : n1 = 2 := hl.symm
  replace E := E.below B
  clear hO hl
  go_wp2_with fail
  refine (Fld.new_any 4 (by decide) (by decide) w1).mono ?_
  rintro e w2 ⟨s, be, ce, bl, rfl, F, b⟩
  replace hr := hr.below b
  replace E := E.below b
  replace B := B.trans (b.mono B.size)
  clear b
  go_wp2_with fail
  generalize hw : w2.alloc (.cells #[.int .i64 5, .int .i64 10] 3 (0, 0)) = w3
  obtain ⟨hl, b⟩ := lit_row w2 w3 [5, 10] 2 rfl (by decide) hw.symm
  clear hw
  replace hr := hr.below b
  replace E := E.below b
  replace F := F.below (by decide) b
  replace B := B.trans (b.mono B.size)
  clear b
  refine (Pl.sameZ_any _ _ _ _ _ _ _ _ w3 hr hl).mono ?_
  rintro e w4 ⟨rfl, d⟩
  rw [decide_eq_true (show ints [5, 10] = [5, 10] from rfl)]
  have b := d.below w3.heap.size
  replace E := E.below b
  replace F := F.below (by decide) b
  replace B := B.trans (b.mono B.size)
  clear b d hr hl
  go_wp2_with fail
  refine (generator_any (m := 4) 2 (by decide) (by decide) w4 F y E).mono ?_
  rintro e w5 (⟨_, a5, n5, c5, rfl, h5, b⟩ | ⟨hd, _⟩)
  rotate_left
  · exact absurd hd (by have := f4; omega)
  rw [f2] at h5
  replace E := E.below b
  replace F := F.below (by decide) b
  replace B := B.trans (b.mono B.size)
  clear b
  go_wp2_with fail
  refine (generator_any (m := 4) 8 (by decide) (by decide) w5 F y E).mono ?_
  rintro e w6 (⟨hd, _⟩ | ⟨_, rfl, b⟩)
  · exact absurd hd (by have := f5; omega)
  replace E := E.below b
  replace F := F.below (by decide) b
  replace h5 := newV_since h5 b
  replace B := B.trans (b.mono B.size)
  clear b
  go_wp2_with fail
  refine (of_any (m := 4) 3 w6 F).mono ?_
  rintro e w7 ⟨a7, n7, c7, rfl, h7, b⟩
  rw [f3] at h7
  replace E := E.below b
  replace h5 := newV_since h5 b
  replace B := B.trans (b.mono B.size)
  clear b F
  go_wp2_with fail
  generalize hw : w7.alloc (.cells #[.int .u8 31] 5 (0, 0)) = w8
  obtain ⟨hl, b⟩ := litB w7 w8 [31#8] 1 0x1f hw.symm rfl (by decide) bare1 (by decide)
  clear hw
  replace E := E.below b
  replace h5 := newV_since h5 b
  replace h7 := newV_since h7 b
  replace B := B.trans (b.mono B.size)
  clear b
  refine (sameNV h7 hl rfl).mono ?_
  rintro e w' ⟨rfl, rfl⟩
  clear h7 hl
  go_wp2_with fail
  generalize hw : w8.alloc (.cells #[.int .u8 209, .int .u8 1] 5 (0, 0)) = w9
  obtain ⟨hl, b⟩ := litB w8 w9 [209#8, 1#8] 2 0x1d1 hw.symm rfl (by decide) bare2 (by decide)
  clear hw
  replace E := E.below b
  replace h5 := newV_since h5 b
  replace B := B.trans (b.mono B.size)
  clear b
  refine (sameNV h5 hl rfl).mono ?_
  rintro e w' ⟨rfl, rfl⟩
  clear h5 hl
  have e1 := E.1
  unfold Sent at e1
  have q1 := eql_err y
  go_wp2_with fail
  go_ret
  exact ⟨rfl, B⟩
/-- the m that a statement makes of any number. -/
def mk7 (z : Int) : Nat := (z % 7).toNat + 3
instance (z : Int) : Pl.Mid (mk7 z) := ⟨by unfold mk7; omega, by unfold mk7; omega⟩
theorem mk7_hi (z : Int) : mk7 z ≤ 9 := by unfold mk7; omega
theorem mk7_go (z : Int) : z.tmod 7 % 7 + 3 = (mk7 z : Int) := by
  unfold mk7
  have : z.tmod 7 % 7 = z % 7 := by rw [Int.tmod_eq_emod]; split <;> omega
  omega
def MadeAt (m : Nat) (w : World) (e : Ending) (w' : World) : Prop := ∃ s be ce bl, e = .returned (.tuple #[.pointer (some ⟨s, 0, none⟩), .int .i64 (m : Int)]) ∧ Fld.FldAt m w' s be ce bl ∧ Below w.heap.size w w'
set_option maxHeartbeats 400000 in
theorem made_any (z : Int) (w : World) : Calls Tryd.prog 14 #[.int .i64 z] w (MadeAt (mk7 z) w) := by
  have a1 := Int.tmod_lt_of_pos z (b := 7) (by omega)
  have a2 : -7 < z.tmod 7 := by
    have := Int.tmod_lt_of_pos (-z) (b := 7) (by omega)
    rw [Int.neg_tmod] at this
    omega
  have HQ := Lib.hid (mk7_go z)
  have l1 : 3 ≤ mk7 z := Pl.Mid.lo
  have l2 : mk7 z ≤ 14 := Pl.Mid.hi
  go_enter Tryd.func14, Tryd.ntmps14
  go_wp2_with fail
  rw [HQ.out]
  refine (Fld.new_any (mk7 z) l1 l2 w).mono ?_
  rintro e w1 ⟨s, be, ce, bl, rfl, f, b1⟩
  go_wp2_with fail
  go_ret2
  exact ⟨s, be, ce, bl, rfl, f, b1⟩
def AllAt (m : Nat) (w : World) (e : Ending) (w' : World) : Prop := ∃ v n vs, e = .returned (.tuple #[v, .nilIface]) ∧ CRow w' w.heap.size m v n (leads m 0 1 (sz m)) vs ∧ Below w.heap.size w w'
set_option maxRecDepth 100000 in
set_option maxHeartbeats 400000 in
theorem all_any (m : Nat) (hm : 3 ≤ m) (hm2 : m ≤ 14) (w : World) : Calls Tryd.prog 11 #[.int .i64 (m : Int)] w (AllAt m w) := by
  have h1 : ¬ (m : Int) < 3 := by omega
  have h2 : ¬ (14 : Int) < (m : Int) := by omega
  have hm14 : (m : Int) ≤ 14 := by omega
  have ho := Fld.shl_one m hm2
  have hn := sz_lo hm
  have hn2 := sz_hi hm2
  have hw : IntKind.i64.wrap ((Fld.els m : Int) - 2) = (sz m : Int) - 1 := by
    have : (Fld.els m : Int) - 2 = (sz m : Int) - 1 := by unfold Fld.els sz; have := Nat.two_pow_pos m; omega
    rw [this]; exact IntWalk.i64_in _ (by omega)
  go_enter Tryd.func11, Tryd.ntmps11
  go_wp2_with fail
  refine (cosets_any m 0 1 (sz m) ((sz m : Int) - 1) hm hm2 (by decide) (fun k hk => by omega) (by omega) (by omega) (by omega) w).mono ?_
  rintro e w1 ⟨v, n, vs, rfl, hC, B⟩
  have HC := Lib.hid hC
  clear hC
  go_wp2_with fail
  go_ret2
  exact ⟨v, n, vs, rfl, HC.out, B⟩
set_option maxRecDepth 100000 in
set_option maxHeartbeats 400000 in
theorem all_m (a : Int) (ha : a < 3 ∨ 14 < a) (w : World) (y : Addr) (E : ErrAt w 0 y) :
    Calls Tryd.prog 11 #[.int .i64 a] w fun e w' => e = .returned (.tuple #[.slice none 0 0, errOf y]) ∧ Drawn w w' := by
  have e1 := E.1
  unfold Sent at e1
  have t : decide (a < 3) = true ∨ (decide (a < 3) = false ∧ decide (14 < a) = true) := by
    by_cases h : a < 3
    · exact Or.inl (decide_eq_true h)
    · exact Or.inr ⟨decide_eq_false h, decide_eq_true (by omega)⟩
  clear ha
  rcases t with t1 | ⟨t1, t2⟩
  all_goals
    go_enter Tryd.func11, Tryd.ntmps11
    go_wp2_with fail
    go_quiet (fail)
    have hd2 := Drawn.mk w nq
    generalize w.drewN nq = w5 at hd2 ⊢
    clear e1
    go_wp2_with fail
    go_ret2
    exact ⟨rfl, hd2⟩
end Go.Proofs.YtbapmkhdpfgnlaaDoor.Cos
/- The reference's Coset. By the verifier of shale. -/
namespace Go.Proofs.YtbapmkhdpfgnlaaDoor.Cos
open Go Go.RowKit
set_option linter.unusedVariables false
theorem contains_snoc (l : List Nat) (x y : Nat) : (l ++ [x]).contains y = (l.contains y || decide (y = x)) := by
  rw [Bool.eq_iff_iff]; simp
theorem filter_cos {m f d : Nat} (hm : 3 ≤ m) (hf : f < sz m) (h : IsPer (sz m) f d) : (List.range (sz m)).filter (fun y => (lst (sz m) f d).contains y) = cos m f := by
  refine List.Perm.eq_of_pairwise (le := (· < ·)) (fun a b _ _ h1 h2 => by omega) (List.Pairwise.filter _ List.pairwise_lt_range) (cos_rise m f) ?_
  refine (List.perm_ext_iff_of_nodup (List.Pairwise.filter _ List.nodup_range) (cos_nodup m f)).2 fun k => ?_
  rw [List.mem_filter, List.mem_range, ← (lst_perm hm hf h).mem_iff]
  constructor
  · rintro ⟨_, h2⟩; simpa using h2
  · intro h2
    obtain ⟨j, e⟩ := (mem_lst h k).1 h2
    exact ⟨by rw [← e]; exact orb_lt (by have := sz_lo hm; omega) _ _, by simpa using h2⟩
theorem lst_new {N f d j : Nat} (ho : ∃ q, N = 2 * q + 1) (hf : f < N) (h : IsPer N f d) (hj : j < d) : (lst N f j).contains (orb N f j) = false := by
  rw [Bool.eq_false_iff]
  intro hc
  have hm : orb N f j ∈ lst N f j := by simpa using hc
  obtain ⟨i, hi, e⟩ := List.mem_map.1 hm
  have hij := List.mem_range.1 hi
  have := orb_back ho hf i (j - i) (by rw [show i + (j - i) = j by omega]; exact e)
  exact h.min (j - i) (by omega) (by omega) this.symm
theorem lst_old {N f d : Nat} (hf : f < N) (h : IsPer N f d) : (lst N f d).contains (orb N f d) = true := by
  have : orb N f d ∈ lst N f d := by
    rw [h.fin]
    exact List.mem_map.2 ⟨0, List.mem_range.2 h.pos, orb_zero hf⟩
  simpa using this
theorem range_filter_snoc (p : Nat → Bool) (k : Nat) : (List.range (k + 1)).filter p = (List.range k).filter p ++ (if p k then [k] else []) := by
  rw [List.range_succ, List.filter_append]
  congr 1
  by_cases h : p k <;> simp [h]
set_option maxRecDepth 100000 in
set_option maxHeartbeats 1000000 in
theorem rcoset_any (m : Nat) (hm : 3 ≤ m) (hm2 : m ≤ 14) (i : Int) (w : World) :
    Calls Tryd.prog 12 #[.int .i64 (m : Int), .int .i64 i] w
      fun e w' => ∃ a n c, e = .returned (.slice a n c) ∧ Own64 w' w.heap.size (.slice a n c) n (ints (cos m (rs m i))) ∧ Below w.heap.size w w' := by
  have hm14 : (m : Int) ≤ 14 := by omega
  have ho := Fld.shl_one m hm2
  have hn := sz_lo hm
  have hn2 := sz_hi hm2
  have hw : IntKind.i64.wrap ((Fld.els m : Int) - 1) = (sz m : Int) := by
    have : (Fld.els m : Int) - 1 = (sz m : Int) := by unfold Fld.els sz; have := Nat.two_pow_pos m; omega
    rw [this]; exact IntWalk.i64_in _ (by omega)
  have hr := rs_go hm i
  have hf := rs_lt hm i
  obtain ⟨i0, hi, hz0, hz1, hz2⟩ := info64
  have hA : wrap64 (i.tmod (sz m : Int) + (sz m : Int)) = i.tmod (sz m : Int) + (sz m : Int) := by
    have a1 := Int.tmod_lt_of_pos i (by omega : (0 : Int) < (sz m : Int))
    have a2 := Int.tmod_lt_of_pos (-i) (by omega : (0 : Int) < (sz m : Int))
    rw [Int.neg_tmod] at a2
    exact IntWalk.wrap64_in _ (by omega)
  obtain ⟨d, hd⟩ := per_exists hm hf
  have HFC := Lib.hid (filter_cos hm hf hd)
  have HLN : Hid (∀ j, j < d → (lst (sz m) (rs m i) j).contains (orb (sz m) (rs m i) j) = false) := fun j hj => lst_new (sz_odd hm) hf hd hj
  have HLO := Lib.hid (lst_old hf hd)
  have hdm := per_le hm hf hd
  obtain ⟨N, hN⟩ : ∃ N, N = sz m := ⟨_, rfl⟩
  obtain ⟨f, hfe⟩ : ∃ f, f = rs m i := ⟨_, rfl⟩
  rw [← hN] at hn hn2 hw hr hf hA HFC HLN HLO
  rw [← hfe] at hr hf HFC HLN HLO ⊢
  clear hN hfe hd
  have hmk := madeB w N (by omega)
  have e00 : orb N f 0 = f := orb_zero hf
  go_enter Tryd.func12, Tryd.ntmps12
  go_wp2_with fail
  have hb1 : Below w.heap.size w (w.alloc (objB (List.replicate N false))) := (Below.refl _ _).alloc (Nat.le_refl _) _
  have hf1 : BF (w.alloc (objB (List.replicate N false))) w.heap.size N (fun y => (lst N f 0).contains y) := (BF.new w N).of fun i hi => by simp [lst]
  clear hmk hw ho hA hr
  generalize w.alloc (objB (List.replicate N false)) = w1 at hb1 hf1 ⊢
  go_loopg [7] d (fun gh s7 wx => ∃ (j : Nat), gh = d - j ∧ j ≤ d ∧ s7 = .int .i64 ((orb N f j : Nat) : Int) ∧ BF wx w.heap.size N (fun y => (lst N f j).contains y) ∧ Below w.heap.size w wx)
  case atStart => exact ⟨0, rfl, Nat.zero_le _, by rw [e00], hf1, hb1⟩
  case round =>
    clear hf1 hb1 e00
    obtain ⟨j, hg, hj, rfl, hF, hB⟩ := hrel
    have HG := Lib.hid hg
    clear hg
    have hxN : orb N f j < N := orb_lt (by omega) _ _
    have d1 := hF.cell hxN
    obtain ⟨hB2, hC⟩ := dbl_go hn hn2 hxN
    rw [← orb_succ] at hC
    by_cases hlt : j < d
    · rw [HLN.out j hlt] at d1
      have d2 := hF.free (orb N f j)
      have HF2 : Hid (BF (wr.setCell ⟨w.heap.size, orb N f j, none⟩ (.bool true)) w.heap.size N (fun y => (lst N f (j + 1)).contains y)) := (hF.set _).of fun y hy => by rw [lst_succ, contains_snoc]
      have HB2 : Hid (Below w.heap.size w (wr.setCell ⟨w.heap.size, orb N f j, none⟩ (.bool true))) := hB.setCell (p := ⟨w.heap.size, orb N f j, none⟩) (Nat.le_refl _) _
      generalize orb N f j = x at hxN d1 d2 hB2 hC HF2 HB2 ⊢
      have x0 : (0 : Int) ≤ (x : Int) := by omega
      have x1 : (x : Int) < (N : Int) := by omega
      clear hF hB
      go_wp2_with fail
      go_roundg (d - (j + 1))
      case measure => have := HG.out; omega
      case rel => exact ⟨j + 1, rfl, by omega, rfl, HF2.out, HB2.out⟩
    · obtain rfl : j = d := by omega
      rw [HLO.out] at d1
      have HFF := Lib.hid hF
      have HBB := Lib.hid hB
      generalize orb N f j = x at hxN d1 hB2 hC ⊢
      have x0 : (0 : Int) ≤ (x : Int) := by omega
      have x1 : (x : Int) < (N : Int) := by omega
      clear hF hB hlt hC hB2
      obtain ⟨W0, rfl⟩ : ∃ W0, W0 = wr := ⟨_, rfl⟩
      go_wp2_with fail
      go_loopg [8, 9] N (fun gh s8 s9 wx => ∃ (k n : Nat), gh = N - k ∧ k ≤ N ∧ n ≤ k ∧ s9 = .int .i64 (k : Int) ∧ Own64 wx (w.heap.size + 1) s8 n (ints ((List.range k).filter (fun y => (lst N f j).contains y))) ∧ BF wx w.heap.size N (fun y => (lst N f j).contains y) ∧ Below w.heap.size w wx)
      case atStart => exact ⟨0, 0, rfl, Nat.zero_le _, Nat.le_refl _, rfl, Own64.nil _ _, HFF.out, HBB.out⟩
      case round =>
        clear HFF HBB d1
        obtain ⟨k, n, hg, hk, hnk, rfl, hO, hF, hB⟩ := hrel
        have HG2 := Lib.hid hg
        clear hg
        obtain ⟨av, cv, rfl⟩ := own_slice hO
        have hbs := hB.size
        have hFl := hF.lt
        by_cases hlt2 : k < N
        · have y1 : (k : Int) < (N : Int) := by omega
          have y0 : (0 : Int) ≤ (k : Int) := by omega
          have d3 := hF.cell hlt2
          have HR := Lib.hid (range_filter_snoc (fun y => (lst N f j).contains y) k)
          by_cases hc : (lst N f j).contains k = true
          · have hc' : (lst N f j).contains k = true := hc
            rw [hc'] at d3
            have HF2 : Hid (ints ((List.range (k + 1)).filter (fun y => (lst N f j).contains y)) = ints ((List.range k).filter (fun y => (lst N f j).contains y)) ++ [(k : Int)]) := by
              show _ = _
              rw [HR.out, if_pos hc, ints_snoc]
            clear HR hc hc'
            go_wp2_with (at_builtin; refine wpList_append_own _ rfl _ _ 23 rfl (w.heap.size + 1) 3 i0 (.int .i64 0) 1 8 Tryd.underlying23 hi hz0 hz1 hz2 rfl (by decide) _ n _ rfl (World.ownsRow.alloc hO _) ⟨wr.heap.size, 0, none⟩ 1 1 [.int .i64 (k : Int)] rfl rfl (cell_one_new _ _ _) (ints_oneCell .i64 [_]) (by unfold maxLen; omega) (by omega) (by simp; omega) ?_; intro v7 w7 hown7 hgrow _)
            have ho7 : Own64 w7 (w.heap.size + 1) v7 (n + 1) (ints ((List.range (k + 1)).filter (fun y => (lst N f j).contains y))) := by
              unfold Own64
              rw [HF2.out, ← cells64_append]
              exact hown7
            have b7 : Below w.heap.size w w7 := (hB.alloc hbs _).grown hgrow (by simp; omega) (fun g hg => by have := (hO.block g hg).1; omega)
            have hf7 : BF w7 w.heap.size N (fun y => (lst N f j).contains y) := by
              have h1 := hgrow.block w.heap.size (by simp; omega) (fun e => by have := (hO.block _ e.symm).1; omega)
              exact h1.trans ((((Below.refl wr.heap.size wr).alloc (Nat.le_refl _) _).block _ hFl).trans hF)
            clear hown7 hgrow hO hB hF
            go_wp2_with fail
            go_roundg (N - (k + 1))
            case measure => have := HG2.out; omega
            case rel => exact ⟨k + 1, n + 1, rfl, by omega, by omega, by go_num, ho7, hf7, b7⟩
          · have hc' : (lst N f j).contains k = false := Bool.eq_false_iff.2 hc
            rw [hc'] at d3
            have HO2 : Hid (Own64 wr (w.heap.size + 1) (.slice av n cv) n (ints ((List.range (k + 1)).filter (fun y => (lst N f j).contains y)))) := by
              show Own64 _ _ _ _ _
              rw [HR.out, if_neg hc, List.append_nil]; exact hO
            have HF2 := Lib.hid hF
            clear HR hc hc' hO hF
            go_wp2_with fail
            go_roundg (N - (k + 1))
            case measure => have := HG2.out; omega
            case rel => exact ⟨k + 1, n, rfl, by omega, by omega, by go_num, HO2.out, HF2.out, hB⟩
        · obtain rfl : k = N := by omega
          have HO2 : Hid (Own64 wr w.heap.size (.slice av n cv) n (ints (cos m f))) := by
            have h := hO
            rw [HFC.out] at h
            exact ⟨h.1, by
              rcases h.2 with h0 | ⟨g', cap', cur, hv, hbg, r⟩
              · exact Or.inl h0
              · exact Or.inr ⟨g', cap', cur, hv, by omega, r⟩⟩
          clear hO hF
          go_wp2_with fail
          go_ret
          exact ⟨av, n, cv, rfl, HO2.out, hB⟩
end Go.Proofs.YtbapmkhdpfgnlaaDoor.Cos
/- Structs of integers that came in by value. By the verifier of shale. -/
namespace Go.Proofs.YtbapmkhdpfgnlaaDoor
open Go Go.RowKit Go.ChangeShapes Go.WideShapes Go.Deep
/-- a struct of integers alone, handed in by value: its cells are integers that fit. -/
theorem open_ints_struct {H : Type} {enc : TypeId × Value → H} {P : Program} {w : World} {base b0 : Nat} {spare : Nat → Bool} {held : Bool} {r : Reach} {k : IntKind} {t : TypeId} {fs : Array Field} {v : Value} {d : DataW H} {p : List MemPlace}
    (hs : P.underlying t = some (.struct fs)) (hone : oneCellFields P fs = true) (hC : P.cellsOf t = fs.size) (hi : ∀ (j : Nat) (f : Field), fs[j]? = some f → P.underlying f.type = some (.int k))
    (hv : Value.okWide P w r b0 t v) (h : DataW.Trod enc P w base spare held t v d p) :
    ∃ n : Nat → Int, v = .agg ((List.range fs.size).map fun i => .int k (n i)).toArray ∧ ∀ i, i < fs.size → (Lit.int k (n i)).wf = true := by
  obtain ⟨cs, rfl, hsz⟩ := okWide_struct hs hv
  obtain ⟨fuel, hf⟩ := h
  obtain ⟨xs, n, _, _, hl, _, hg⟩ := DataW.trod_struct hs hf
  have each : ∀ j, j < fs.size → ∃ m, cs[j]? = some (.int k m) ∧ (Lit.int k m).wf = true := by
    intro j hj
    have hf0 : fs[j]? = some (fs[j]'hj) := Array.getElem?_eq_getElem hj
    obtain ⟨o, c⟩ := hone_of hone j _ hf0
    have g := hg j _ hf0
    rw [o, c] at g
    have hx : j < xs.length := by omega
    rw [List.getElem?_eq_getElem hx] at g
    obtain ⟨m, e, _, hw⟩ := DataW.trod_int (hi j _ hf0) g
    refine ⟨m, ?_, hw⟩
    have hj2 : j < cs.toList.length := by rw [Array.length_toList]; omega
    have e2 : (cs.toList.drop j).take 1 = [.int k m] := by simpa [Value.cells] using e
    rw [List.drop_eq_getElem_cons hj2] at e2
    simp only [List.take_succ_cons, List.take_zero, List.cons.injEq, and_true] at e2
    rw [Array.getElem?_eq_getElem (by simpa using hj2)]
    congr 1
  refine ⟨fun j => match cs[j]? with | some (.int _ m) => m | _ => 0, ?_, fun i hi => ?_⟩
  · congr 1
    apply Array.ext_getElem?
    intro j
    by_cases hj : j < fs.size
    · obtain ⟨m, e, _⟩ := each j hj
      rw [e]
      simp [hj, e]
    · have h1 : cs.size ≤ j := by omega
      rw [Array.getElem?_eq_none h1, Array.getElem?_eq_none (by simp; omega)]
  · obtain ⟨m, e, hw⟩ := each i hi
    simp only [e]
    exact hw
end Go.Proofs.YtbapmkhdpfgnlaaDoor
