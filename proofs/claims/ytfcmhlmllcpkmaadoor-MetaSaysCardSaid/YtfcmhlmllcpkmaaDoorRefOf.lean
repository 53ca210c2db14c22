/- shaleref1.Of: the document's own sum is crc. By the verifier of shale. -/
import Derived.Test.YtfcmhlmllcpkmaaDoorCrcMath
import Derived.Test.YtfcmhlmllcpkmaaDoorMem
import Derived.WalkKit
import Derived.WalkSpells
import Derived.WalkLawsBesides
import Derived.Deep.LoopGhost
namespace Go.Proofs.YtfcmhlmllcpkmaaDoor.Crc
open Go Go.RowKit
set_option linter.unusedVariables false
theorem rup_true (a : BitVec 32) (h : a.getLsbD 0 = true) : up a = (a >>> 1) ^^^ 3988292384#32 := by unfold up; rw [if_pos h]
theorem rup_false (a : BitVec 32) (h : a.getLsbD 0 = false) : up a = a >>> 1 := up_even a h
theorem and1_one (a : BitVec 32) : (Bits32.u (a &&& 1#32) == 1) = a.getLsbD 0 := by
  have h : (a &&& 1#32).toNat = a.toNat % 2 := by rw [BitVec.toNat_and]; exact Nat.and_one_is_mod _
  unfold Bits32.u
  rw [h, BitVec.getLsbD, Nat.testBit_zero]
  rcases (by omega : a.toNat % 2 = 0 ∨ a.toNat % 2 = 1) with h3 | h3 <;> rw [h3] <;> rfl
theorem ups_succ' (n : Nat) (a : BitVec 32) : ups (n + 1) a = up (ups n a) := by rw [← ups_up]; rfl
section
attribute [local go_sem] Bits32.xor8 Bits32.and1 Bits32.xorPoly Bits32.xorOnes
attribute [local go_sem high] Bits32.shr1
set_option maxRecDepth 100000 in
set_option maxHeartbeats 1000000 in
theorem rstep_any (s : BitVec 32) (c : BitVec 8) (w : World) :
    Calls Tryd.prog 40 #[.int .u32 (Bits32.u s), .int .u8 (Bits32.b c)] w fun e w' => e = .returned (.int .u32 (Bits32.u (step s c))) ∧ w = w' := by
  have lo := Bits32.b_lo c
  have hi := Bits32.b_hi c
  have HS : Hid (step s c = ups 8 (s ^^^ c.setWidth 32)) := rfl
  go_enter Tryd.func40, Tryd.ntmps40
  go_wp2_with fail
  go_loopg [0, 5] 8 (fun gh s0 s5 wx => ∃ k : Nat, gh = 8 - k ∧ k ≤ 8 ∧ s0 = .int .u32 (Bits32.u (ups k (s ^^^ c.setWidth 32))) ∧ s5 = .int .i64 (k : Int) ∧ w = wx)
  case atStart => exact ⟨0, rfl, by omega, rfl, rfl, rfl⟩
  case round =>
    obtain ⟨k, hg, hk, rfl, rfl, rfl⟩ := hrel
    have HG := Lib.hid hg
    have HU := Lib.hid (ups_succ' k (s ^^^ c.setWidth 32))
    clear hg
    generalize hA : ups k (s ^^^ c.setWidth 32) = a at HU ⊢
    have HA := Lib.hid hA
    clear hA
    by_cases hlt : k < 8
    · have y1 : (k : Int) < 8 := by omega
      have t := and1_one a
      rcases Bool.eq_false_or_eq_true (a.getLsbD 0) with hb | hb
      · rw [hb] at t
        have HB := Lib.hid (rup_true a hb)
        clear hb
        go_wp2_with fail
        go_roundg (8 - (k + 1))
        case measure => have := HG.out; omega
        case rel => exact ⟨k + 1, rfl, by omega, by rw [HU.out, HB.out], by go_num, rfl⟩
      · rw [hb] at t
        have HB := Lib.hid (rup_false a hb)
        clear hb
        go_wp2_with fail
        go_roundg (8 - (k + 1))
        case measure => have := HG.out; omega
        case rel => exact ⟨k + 1, rfl, by omega, by rw [HU.out, HB.out], by go_num, rfl⟩
    · obtain rfl : k = 8 := by omega
      go_wp2_with fail
      go_ret
      have HS2 := HS.out
      rw [HA.out] at HS2
      exact ⟨by rw [HS2]; rfl, rfl⟩
/-- the document's sum of bytes. -/
theorem rof_any (l : List (BitVec 8)) (v : Value) (w : World) (hv : Arg8 w v l) :
    Calls Tryd.prog 29 #[v] w fun e w' => e = .returned (.int .i64 (Bits32.u (crc l))) ∧ w = w' := by
  have HC : Hid (crc l = st ones l ^^^ 4294967295#32) := rfl
  have key : ∀ (a : Option Addr) (n cap : Nat), n = l.length → n ≤ maxLen → (∀ i, i < n → ∃ bb off, a = some ⟨bb, off, none⟩ ∧ w.cell? ⟨bb, off + i, none⟩ = some (.int .u8 (Bits32.b (nth8 l i)))) →
      Calls Tryd.prog 29 #[.slice a n cap] w fun e w' => e = .returned (.int .i64 (Bits32.u (crc l))) ∧ w = w' := by
    intro a n cap hn hm hc
    have HN := Lib.hid hn
    have HR := Lib.hid hc
    unfold maxLen at hm
    clear hn hc hv
    go_enter Tryd.func29, Tryd.ntmps29
    go_wp2_with fail
    go_loopg [3, 4] n (fun gh s3 s4 wx => ∃ k : Nat, gh = n - k ∧ k ≤ n ∧ s3 = .int .u32 (Bits32.u (st ones (l.take k))) ∧ s4 = .int .i64 (k : Int) ∧ w = wx)
    case atStart => exact ⟨0, rfl, by omega, rfl, rfl, rfl⟩
    case round =>
      obtain ⟨k, hg, hk, rfl, rfl, rfl⟩ := hrel
      have HG := Lib.hid hg
      clear hg
      by_cases hlt : k < n
      · have y0 : (0 : Int) ≤ (k : Int) := by omega
        have y1 : (k : Int) < (n : Int) := by omega
        obtain ⟨bb, off, rfl, c1⟩ := HR.out k hlt
        have HT : Hid (st ones (l.take (k + 1)) = step (st ones (l.take k)) (nth8 l k)) := by
          show _ = _
          have hk2 : k < l.length := by have := HN.out; omega
          rw [List.take_succ_eq_append_getElem hk2, st_snoc]
          unfold nth8
          rw [List.getD_eq_getElem?_getD, List.getElem?_eq_getElem hk2]
          rfl
        go_wp2_with fail
        refine (rstep_any _ _ w).mono ?_
        rintro e w1 ⟨rfl, rfl⟩
        go_wp2_with fail
        go_roundg (n - (k + 1))
        case measure => have := HG.out; omega
        case rel => exact ⟨k + 1, rfl, by omega, by rw [HT.out], by go_num, rfl⟩
      · obtain rfl : k = n := by omega
        have HE : Hid (st ones (l.take k) ^^^ 4294967295#32 = crc l) := by
          show _ = _
          rw [List.take_of_length_le (by have := HN.out; omega)]
          rfl
        have lo := Bits32.u_lo (st ones (l.take k) ^^^ 4294967295#32)
        have hi2 := Bits32.u_hi (st ones (l.take k) ^^^ 4294967295#32)
        go_wp2_with fail
        go_ret
        exact ⟨by rw [HE.out]; rfl, rfl⟩
  rcases hv.1 with ⟨rfl, a, cap, rfl⟩ | ⟨bb, off, cap, rfl, hr, hb⟩
  · exact key a 0 cap rfl (Nat.zero_le _) (fun i hi => by omega)
  · exact key _ l.length cap rfl hv.2 (fun i hi => ⟨bb, off, rfl, hr i hi⟩)
end
end Go.Proofs.YtfcmhlmllcpkmaaDoor.Crc
