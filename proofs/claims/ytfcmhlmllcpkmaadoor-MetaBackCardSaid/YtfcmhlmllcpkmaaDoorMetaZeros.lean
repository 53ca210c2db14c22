/- shaleref13.Zeros counts the bits that are 0; bytes in a block with spare room. By the verifier of shale. -/
import Derived.Test.YtfcmhlmllcpkmaaDoorMetaTurn
import Derived.Test.YtfcmhlmllcpkmaaDoorRefCopy
namespace Go.Proofs.YtfcmhlmllcpkmaaDoor.Meta
open Go Go.RowKit Crc
set_option linter.unusedVariables false
theorem bit_zero8 (c : BitVec 8) (j : Nat) : (bits .and .u8 (Bits32.b c / 2 ^ j) 1 == 0) = !c.getLsbD j := by
  have e : Bits32.b c / 2 ^ j = Bits32.b (c >>> j) := by
    unfold Bits32.b
    rw [BitVec.toNat_ushiftRight, Nat.shiftRight_eq_div_pow, Int.natCast_ediv, Int.natCast_pow]
    rfl
  have e2 : bits .and .u8 (Bits32.b (c >>> j)) 1 = Bits32.b ((c >>> j) &&& 1#8) := by
    show IntKind.u8.wrap (Bits32.b (BitVec.ofInt 8 (Bits32.b (c >>> j)) &&& BitVec.ofInt 8 (Bits32.b 1#8))) = _
    rw [Bits32.ofInt8, Bits32.ofInt8, Bits32.wrap8]
  rw [e, e2]
  have h2 : (c >>> j).getLsbD 0 = c.getLsbD j := by simp
  have h : ((c >>> j) &&& 1#8).toNat = (c >>> j).toNat % 2 := by rw [BitVec.toNat_and]; exact Nat.and_one_is_mod _
  rw [← h2]
  unfold Bits32.b
  rw [h, BitVec.getLsbD, Nat.testBit_zero]
  rcases (by omega : (c >>> j).toNat % 2 = 0 ∨ (c >>> j).toNat % 2 = 1) with h3 | h3 <;> rw [h3] <;> rfl
set_option maxRecDepth 100000 in
set_option maxHeartbeats 2000000 in
theorem zeros_any (l : List (BitVec 8)) (g off n cap : Nat) (w : World) (hr : Row8 w g off l) (hl : n = l.length) (hn : n ≤ 100000) :
    Calls Tryd.prog 22 #[.slice (some ⟨g, off, none⟩) n cap] w fun e w' => e = .returned (.int .i64 (zL l n : Int)) ∧ w = w' := by
  have HL := Lib.hid hl
  clear hl
  go_enter Tryd.func22, Tryd.ntmps22
  go_wp2_with fail
  go_loopg [3, 4] n (fun gh s3 s4 wx => ∃ k : Nat, gh = n - k ∧ k ≤ n ∧ s3 = .int .i64 (zL l k : Int) ∧ s4 = .int .i64 (k : Int) ∧ w = wx)
  case atStart => exact ⟨0, rfl, by omega, rfl, rfl, rfl⟩
  case round =>
    obtain ⟨k, hg, hk, rfl, rfl, rfl⟩ := hrel
    have HG := Lib.hid hg
    clear hg
    by_cases hlt : k < n
    · have y0 : (0 : Int) ≤ (k : Int) := by omega
      have y1 : (k : Int) < (n : Int) := by omega
      have c1 := hr k (by have := HL.out; omega)
      have zb := zL_le l k
      have HS : Hid (zL l (k + 1) = zL l k + zN (nth8 l k) 8) := rfl
      go_wp2_with fail
      go_loopg [3, 5] 8 (fun gh s3 s5 wx => ∃ j : Nat, gh = 8 - j ∧ j ≤ 8 ∧ s3 = .int .i64 ((zL l k + zN (nth8 l k) j : Nat) : Int) ∧ s5 = .int .i64 (j : Int) ∧ w = wx)
      case atStart => exact ⟨0, rfl, by omega, rfl, rfl, rfl⟩
      case round =>
        obtain ⟨j, hg2, hj, rfl, rfl, rfl⟩ := hrel
        have HG2 := Lib.hid hg2
        clear hg2
        have zj := zN_le (nth8 l k) j
        by_cases hlt2 : j < 8
        · have y2 : (0 : Int) ≤ (j : Int) := by omega
          have y3 : (j : Int) < 8 := by omega
          have hb := bit_zero8 (nth8 l k) j
          have HJ : Hid (zN (nth8 l k) (j + 1) = zN (nth8 l k) j + (if (nth8 l k).getLsbD j then 0 else 1)) := rfl
          rcases Bool.eq_false_or_eq_true ((nth8 l k).getLsbD j) with hbit | hbit
          · rw [hbit] at hb
            have HB := Lib.hid hbit
            clear hbit
            go_wp2_with fail
            go_roundg (8 - (j + 1))
            case measure => have := HG2.out; omega
            case rel => exact ⟨j + 1, rfl, by omega, by rw [HJ.out, HB.out]; rfl, by go_num, rfl⟩
          · rw [hbit] at hb
            have HB := Lib.hid hbit
            clear hbit
            go_wp2_with fail
            go_roundg (8 - (j + 1))
            case measure => have := HG2.out; omega
            case rel => exact ⟨j + 1, rfl, by omega, by rw [HJ.out, HB.out]; go_num, by go_num, rfl⟩
        · obtain rfl : j = 8 := by omega
          go_wp2_with fail
          go_roundg (n - (k + 1))
          case measure => have := HG.out; omega
          case rel => exact ⟨k + 1, rfl, by omega, by rw [HS.out], by go_num, rfl⟩
    · obtain rfl : k = n := by omega
      go_wp2_with fail
      go_ret
      exact ⟨rfl, rfl⟩
/-- block g holds the bytes l, and maybe more behind them. -/
def Buf8 (w : World) (g : Nat) (l : List (BitVec 8)) : Prop := ∃ cur t, w.heap[g]? = some (.cells cur t (0, 0)) ∧ ∀ i, i < l.length → cur[i]? = some (.int .u8 (Bits32.b (nth8 l i)))
theorem Buf8.lt {w : World} {g : Nat} {l : List (BitVec 8)} (h : Buf8 w g l) : g < w.heap.size := by obtain ⟨_, _, h, _⟩ := h; exact lt_of_block h
theorem Buf8.cell {w : World} {g : Nat} {l : List (BitVec 8)} (h : Buf8 w g l) (i : Nat) (hi : i < l.length) : w.cell? ⟨g, i, none⟩ = some (.int .u8 (Bits32.b (nth8 l i))) := by
  obtain ⟨cur, t, hh, hc⟩ := h
  unfold World.cell?
  simp only
  rw [hh]
  exact hc i hi
theorem Buf8.row {w : World} {g : Nat} {l : List (BitVec 8)} (h : Buf8 w g l) : Row8 w g 0 l := by
  intro i hi; rw [Nat.zero_add]; exact h.cell i hi
theorem Buf8.free {w : World} {g : Nat} {l : List (BitVec 8)} (h : Buf8 w g l) (i : Nat) : w.frozen? ⟨g, i, none⟩ = false := by
  obtain ⟨cur, t, hh, hc⟩ := h
  unfold World.frozen?
  simp only
  rw [hh]
  simp
theorem Buf8.below {B : Nat} {w w' : World} {g : Nat} {l : List (BitVec 8)} (h : Buf8 w g l) (b : Below B w w') (hg : g < B) : Buf8 w' g l := by
  obtain ⟨cur, t, hh, hc⟩ := h
  exact ⟨cur, t, (b.block _ hg).trans hh, hc⟩
theorem Buf8.set {w : World} {g : Nat} {l : List (BitVec 8)} (h : Buf8 w g l) (i : Nat) (hi : i < l.length) (c : BitVec 8) : Buf8 (w.setCell ⟨g, i, none⟩ (.int .u8 (Bits32.b c))) g (l.set i c) := by
  obtain ⟨cur, t, hh, hc⟩ := h
  have hlt := lt_of_block hh
  have h' : w.heap[g] = .cells cur t (0, 0) := by rw [Array.getElem?_eq_getElem hlt] at hh; exact Option.some.inj hh
  refine ⟨cur.setIfInBounds i (.int .u8 (Bits32.b c)), t, ?_, ?_⟩
  · show (w.heap.modify g _)[g]? = _
    rw [Array.getElem?_eq_getElem (by simpa using hlt), Array.getElem_modify_self, h']
    rfl
  · intro j hj
    rw [List.length_set] at hj
    have hcj := hc j hj
    have hjs : j < cur.size := (Array.getElem?_eq_some_iff.1 hcj).1
    by_cases e : i = j
    · subst e
      rw [Array.getElem?_setIfInBounds_self, if_pos hjs]
      unfold nth8
      simp [hi]
    · rw [Array.getElem?_setIfInBounds_ne e, hcj]
      unfold nth8
      rw [List.getD_eq_getElem?_getD, List.getD_eq_getElem?_getD, List.getElem?_set_ne e]
theorem Own8.buf {w : World} {base g n cap : Nat} {l : List (BitVec 8)} (h : Own8 w base (.slice (some ⟨g, 0, none⟩) n cap) n l) : Buf8 w g l ∧ n = l.length ∧ n ≤ cap := by
  have hl := h.len
  rcases h.2 with ⟨h0, h1⟩ | ⟨g', cap', cur, hv, hbg, hh, hn, hm, hs, ht⟩
  · cases h0
  · simp only [Value.slice.injEq, Option.some.injEq, Addr.mk.injEq] at hv
    obtain ⟨⟨rfl, _⟩, _, rfl⟩ := hv
    refine ⟨⟨cur, _, hh, ?_⟩, hl.symm, hn⟩
    intro i hi
    have e : cur.toList[i]? = (cells8 l)[i]? := by rw [← ht, List.getElem?_take_of_lt (by omega)]
    simp only [Array.getElem?_toList] at e
    rw [e]
    unfold cells8 nth8
    simp [hi]
end Go.Proofs.YtfcmhlmllcpkmaaDoor.Meta
