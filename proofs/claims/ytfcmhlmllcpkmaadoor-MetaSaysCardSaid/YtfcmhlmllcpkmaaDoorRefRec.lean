/- shaleref13's Four and Number: numbers as four bytes. By the verifier of shale. -/
import Derived.Test.YtfcmhlmllcpkmaaDoorRefMeta
namespace Go.Proofs.YtfcmhlmllcpkmaaDoor.Meta
open Go Go.RowKit Crc
set_option linter.unusedVariables false
theorem news_new (w : World) (xs : List Value) (t : TypeId) : ∀ j u, xs[j]? = some u → (w.alloc (.cells xs.toArray t)).cell? ((⟨w.heap.size, 0, none⟩ : Addr).add j) = some u := by
  intro j u hu
  have hadd : (⟨w.heap.size, 0, none⟩ : Addr).add j = ⟨w.heap.size, j, none⟩ := by unfold Addr.add; split <;> simp_all
  rw [hadd]
  unfold World.cell?
  simp only
  rw [heap_alloc_new]
  simpa using hu
/-- bytes of the call's own with four more behind them: the new slice, and what else stays. -/
abbrev FourAt (l : List (BitVec 8)) (n : Int) (len base : Nat) (w : World) (e : Ending) (w' : World) : Prop := ∃ v', e = .returned v' ∧ Own8 w' base v' (len + 4) (l ++ le32 n) ∧ Below base w w'
set_option maxRecDepth 100000 in
set_option maxHeartbeats 1000000 in
theorem four_any (l : List (BitVec 8)) (n : Int) (v : Value) (len base : Nat) (w : World) (ho : Own8 w base v len l) (hb : base ≤ w.heap.size) (hl : len ≤ 1000) :
    Calls Tryd.prog 28 #[v, .int .i64 n] w (FourAt l n len base w) := by
  obtain ⟨i0, hi, hz0, hz1, hz2⟩ := info8
  have hc : cells8 (le32 n) = [.int .u8 (n % 256), .int .u8 (n / 256 % 256), .int .u8 (n / 65536 % 256), .int .u8 (n / 16777216 % 256)] := by
    have b0 := b_byteOf n 0; have b1 := b_byteOf n 1; have b2 := b_byteOf n 2; have b3 := b_byteOf n 3
    rw [show (2 : Int) ^ (8 * 0) = 1 by decide, Int.ediv_one] at b0
    rw [show (2 : Int) ^ (8 * 1) = 256 by decide] at b1
    rw [show (2 : Int) ^ (8 * 2) = 65536 by decide] at b2
    rw [show (2 : Int) ^ (8 * 3) = 16777216 by decide] at b3
    show [Value.int .u8 (Bits32.b (byteOf n 0)), Value.int .u8 (Bits32.b (byteOf n 1)), Value.int .u8 (Bits32.b (byteOf n 2)), Value.int .u8 (Bits32.b (byteOf n 3))] = _
    rw [b0, b1, b2, b3]
  have HC := Lib.hid hc
  clear hc
  go_enter Tryd.func28, Tryd.ntmps28
  go_wp2_with (at_builtin; refine wpList_append_own _ rfl _ _ 24 rfl base 5 i0 (.int .u8 0) 1 1 Tryd.underlying24 hi hz0 hz1 hz2 rfl (by decide) v len _ rfl (World.ownsRow.alloc ho _) ⟨w.heap.size, 0, none⟩ 4 4 [.int .u8 (n % 256), .int .u8 (n / 256 % 256), .int .u8 (n / 65536 % 256), .int .u8 (n / 16777216 % 256)] rfl rfl (news_new w [.int .u8 (n % 256), .int .u8 (n / 256 % 256), .int .u8 (n / 65536 % 256), .int .u8 (n / 16777216 % 256)] _) (ints_oneCell .u8 [_, _, _, _]) (by unfold maxLen; omega) (by omega) (by simp; omega) ?_; intro v7 w7 hown7 hgrow _)
  go_wp2_with fail
  go_ret
  refine ⟨v7, rfl, ?_, ((Below.refl _ _).alloc hb _).grown hgrow (by simp; omega) (fun g hg => (ho.block g hg).1)⟩
  unfold Own8
  rw [← cells8_append, HC.out]
  exact hown7
theorem nth8_drop (l : List (BitVec 8)) (a i : Nat) : nth8 (l.drop a) i = nth8 l (a + i) := by
  unfold nth8
  rw [List.getD_eq_getElem?_getD, List.getD_eq_getElem?_getD, List.getElem?_drop]
/-- the number of four bytes, as it is reckoned. -/
theorem num4 (l : List (BitVec 8)) (a : Nat) :
    bits .or .i64 (bits .or .i64 (bits .or .i64 (wrap64 (Bits32.b (nth8 l a))) (wrap64 (wrap64 (Bits32.b (nth8 l (a + 1))) * 256))) (wrap64 (wrap64 (Bits32.b (nth8 l (a + 2))) * 65536))) (wrap64 (wrap64 (Bits32.b (nth8 l (a + 3))) * 16777216)) = un32 (l.drop a) := by
  have hw : ∀ c : BitVec 8, wrap64 (Bits32.b c) = Bits32.b c := fun c => IntWalk.wrap64_in _ (by have := Bits32.b_lo c; have := Bits32.b_hi c; omega)
  rw [hw, hw, hw, hw]
  have e1 := or_step (l.drop a) 1 (by omega)
  have e2 := or_step (l.drop a) 2 (by omega)
  have e3 := or_step (l.drop a) 3 (by omega)
  have e0 : ((unN (l.drop a) 1 : Nat) : Int) = Bits32.b (nth8 (l.drop a) 0) := by simp [unN, Bits32.b]
  rw [nth8_drop, show (2 : Int) ^ (8 * 1) = 256 by decide, e0, nth8_drop, Nat.add_zero] at e1
  rw [nth8_drop, show (2 : Int) ^ (8 * 2) = 65536 by decide, ← e1] at e2
  rw [nth8_drop, show (2 : Int) ^ (8 * 3) = 16777216 by decide, ← e2, unN_four] at e3
  exact e3
set_option maxRecDepth 100000 in
set_option maxHeartbeats 2000000 in
theorem number_any (l : List (BitVec 8)) (bb off len cap at' : Nat) (w : World) (hr : Row8 w bb off l) (hl : len = l.length) (ha : at' + 4 ≤ len) (hm : len ≤ maxLen) :
    Calls Tryd.prog 30 #[.slice (some ⟨bb, off, none⟩) len cap, .int .i64 (at' : Int)] w fun e w' => e = .returned (.int .i64 (un32 (l.drop at'))) ∧ Drawn w w' := by
  have c0 := hr at' (by omega); have c1 := hr (at' + 1) (by omega); have c2 := hr (at' + 2) (by omega); have c3 := hr (at' + 3) (by omega)
  have y0 : (0 : Int) ≤ (at' : Int) := by omega
  have y1 : (at' : Int) < (len : Int) := by omega
  have y2 : (at' : Int) + 1 < (len : Int) := by omega
  have y3 : (at' : Int) + 2 < (len : Int) := by omega
  have y4 : (at' : Int) + 3 < (len : Int) := by omega
  have HN := Lib.hid (num4 l at')
  unfold maxLen at hm
  go_enter Tryd.func30, Tryd.ntmps30
  go_wp2_with fail
  go_quiet (fail)
  rw [HN.out]
  go_wp2_with fail
  go_ret
  exact ⟨rfl, Drawn.mk _ _⟩
end Go.Proofs.YtfcmhlmllcpkmaaDoor.Meta
