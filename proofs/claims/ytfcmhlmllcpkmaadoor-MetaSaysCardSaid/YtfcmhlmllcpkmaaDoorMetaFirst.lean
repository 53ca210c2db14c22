/- The walk over shalelaw12.first: the chapter's examples. By the verifier of shale. -/
import Derived.Test.YtfcmhlmllcpkmaaDoorMetaBytes
import Derived.Test.YtfcmhlmllcpkmaaDoorMetaNewer
import Derived.Test.YtfcmhlmllcpkmaaDoorMetaOpenC
import Derived.Deep.Cut
namespace Go.Proofs.YtfcmhlmllcpkmaaDoor.Meta
open Go Go.RowKit Crc
set_option linter.unusedVariables false
def M0 : M6 := ⟨2, 7, 9, 9, 0, 0⟩
def D1 : List (BitVec 8) := [1, 2, 3]
def D2 : List (BitVec 8) := [1, 2, 4]
theorem M0_may : May M0 := by decide
theorem crc_apart : ¬ crc D1 = crc D2 := fun h => by
  have e : (crc D1 == crc D2) = false := by kernel_rfl
  rw [h] at e
  simp at e
theorem u_inj {a b : BitVec 32} (h : Bits32.u a = Bits32.u b) : a = b := by
  unfold Bits32.u at h
  apply BitVec.eq_of_toNat_eq; omega
theorem lit_first (w : World) : Blk8 ((w.alloc (.cells #[.int .i64 2, .int .i64 7, .int .i64 9, .int .i64 9, .int .i64 0, .int .i64 0] 23)).alloc (.cells #[.int .u8 1, .int .u8 2, .int .u8 3] 5)) (w.heap.size + 1) D1 ∧ Below w.heap.size w ((w.alloc (.cells #[.int .i64 2, .int .i64 7, .int .i64 9, .int .i64 9, .int .i64 0, .int .i64 0] 23)).alloc (.cells #[.int .u8 1, .int .u8 2, .int .u8 3] 5)) := by
  refine ⟨?_, ((Below.refl _ _).alloc (Nat.le_refl _) _).alloc (by simp) _⟩
  have := Blk8.new (w.alloc (.cells #[.int .i64 2, .int .i64 7, .int .i64 9, .int .i64 9, .int .i64 0, .int .i64 0] 23)) D1
  rw [World.size_alloc] at this
  exact this
theorem lit_next (w : World) : Blk8 (w.alloc (.cells #[.int .u8 1, .int .u8 2, .int .u8 4] 5)) w.heap.size D2 := Blk8.new w D2
theorem rb0 : Bits32.b (nth8 (rec32 M0 D1) 0) = 2 := by kernel_rfl
theorem rb4 : Bits32.b (nth8 (rec32 M0 D1) 4) = 7 := by kernel_rfl
theorem rb12 : Bits32.b (nth8 (rec32 M0 D1) 12) = 9 := by kernel_rfl
set_option maxRecDepth 100000 in
set_option maxHeartbeats 1000000 in
theorem first_any (w : World) (ht : Tab w) (p : Addr) (E : ErrAt w 0 p) : Calls Tryd.prog 8 #[] w fun e w' => e = .returned (.bool true) ∧ Below w.heap.size w w' := by
  have HE := Lib.hid E
  clear E
  go_enter Tryd.func8, Tryd.ntmps8
  go_wp2_with fail
  obtain ⟨h1, b1⟩ := lit_first w
  generalize (w.alloc (.cells #[.int .i64 2, .int .i64 7, .int .i64 9, .int .i64 9, .int .i64 0, .int .i64 0] 23)).alloc (.cells #[.int .u8 1, .int .u8 2, .int .u8 3] 5) = w1 at h1 b1 ⊢
  refine (bytes_yes M0 M0_may D1 _ w1 (ht.below b1 ht.lt) (h1.arg rfl (by decide))).mono ?_
  rintro e w2 ⟨g, rfl, hB, hg, b2⟩
  have B2 := b1.trans (b2.mono b1.size)
  have k0 : w2.cell? ⟨g, 0, none⟩ = some (.int .u8 2) := (hB.cell (by rw [rec32_length]; omega)).trans (by rw [rb0])
  have k4 : w2.cell? ⟨g, 4, none⟩ = some (.int .u8 7) := (hB.cell (by rw [rec32_length]; omega)).trans (by rw [rb4])
  have k12 : w2.cell? ⟨g, 12, none⟩ = some (.int .u8 9) := (hB.cell (by rw [rec32_length]; omega)).trans (by rw [rb12])
  clear h1 b1 b2
  have gl := hB.lt
  have HB := Lib.hid hB
  clear hB hg
  go_wp2_with fail
  have h3 := lit_next w2
  have b3 : Below w2.heap.size w2 (w2.alloc (.cells #[.int .u8 1, .int .u8 2, .int .u8 4] 5)) := (Below.refl _ _).alloc (Nat.le_refl _) _
  generalize w2.alloc (.cells #[.int .u8 1, .int .u8 2, .int .u8 4] 5) = w3 at h3 b3 ⊢
  have hB3 : Blk8 w3 g (rec32 M0 D1) := (b3.block g gl).trans HB.out
  have B3 := B2.trans (b3.mono B2.size)
  have hy : ¬ un32 ((rec32 M0 D1).drop 24) = Bits32.u (crc D2) := by rw [rec_sum]; exact fun h => crc_apart (u_inj h)
  have hx : un32 ((rec32 M0 D1).drop 28) = Bits32.u (crc ((rec32 M0 D1).take 28)) := by rw [rec_own, rec_take]
  have HN : ¬ Good (rec32 M0 D1) D2 := fun h => hy h.2.2.1
  refine (open_data (rec32 M0 D1) D2 g 0 32 _ w3 (ht.below B3 ht.lt) hB3.row hB3.lt (rec32_length _ _) (by omega) p (HE.out.below B3) (h3.arg rfl (by decide)) hx hy).mono ?_
  rintro e w4 ⟨rfl, b4⟩
  rw [if_neg HN, if_neg HN]
  have B4 := B3.trans (b4.mono B3.size)
  have E4 := HE.out.below B4
  have e4 := E4.1
  have HQ := Lib.hid B4
  have r5 := rec_new w4 zeroM 23
  have b5 : Below w4.heap.size w4 (w4.alloc (.cells #[.int .i64 (fld zeroM 0), .int .i64 (fld zeroM 1), .int .i64 (fld zeroM 2), .int .i64 (fld zeroM 3), .int .i64 (fld zeroM 4), .int .i64 (fld zeroM 5)] 23)) := (Below.refl _ _).alloc (Nat.le_refl _) _
  have e5 := (E4.below b5).1
  have B5 := B4.trans (b5.mono B4.size)
  have HQ := Lib.hid B5
  have HR := Lib.hid e5
  clear k0 k4 k12 hB3 h3 b3 b4 B3 hx hy HN HB E4 b5 B5 r5 e5 e4 B4
  go_upto_region 6 with (fail)
  have e5 := HR.out
  have B5 := HQ.out
  clear HR HQ
  generalize (w4.alloc (.cells #[.int .i64 (fld zeroM 0), .int .i64 (fld zeroM 1), .int .i64 (fld zeroM 2), .int .i64 (fld zeroM 3), .int .i64 (fld zeroM 4), .int .i64 (fld zeroM 5)] 23)) = w5 at e5 B5 ⊢
  unfold Sent at e5
  have eqe : ∀ W, (binOp .eql 27 (errOf p) (errOf p)).run Tryd.prog W = .ok (.bool true) W := fun W => eql_err p W
  go_wp2_with fail
  refine (newer_any ⟨0, 0, 5, 3, 0, 0⟩ ⟨0, 0, 5, 4, 0, 0⟩ w5).mono ?_
  rintro e w6 ⟨rfl, b6⟩
  rw [show newer ⟨0, 0, 5, 3, 0, 0⟩ ⟨0, 0, 5, 4, 0, 0⟩ = true by decide]
  go_wp2_with fail
  go_ret
  exact ⟨rfl, B5.trans (b6.mono B5.size)⟩
end Go.Proofs.YtfcmhlmllcpkmaaDoor.Meta
