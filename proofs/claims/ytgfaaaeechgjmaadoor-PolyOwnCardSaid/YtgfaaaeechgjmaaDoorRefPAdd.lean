/- The statements' own polynomials (shaleref2): Add. By the verifier of shale. -/
import Derived.Test.YtgfaaaeechgjmaaDoorRefTimes
namespace Go.Proofs.YtgfaaaeechgjmaaDoor.Pl
open Go Go.RowKit Fld Bits16
set_option linter.unusedVariables false
section
variable {m : Nat} [M : Mid m]
theorem Blk64.rowz {w : World} {g : Nat} {l : List Int} (h : Blk64 w g l) (hm : l.length ≤ 1000000) : RowZ w (some ⟨g, 0, none⟩) l.length l.length l := by
  have := Blk64.row h l.length (Nat.le_refl _) hm
  rwa [List.take_length] at this
set_option maxRecDepth 100000 in
set_option maxHeartbeats 1000000 in
theorem radd_any (a1 : Option Addr) (n1 c1 : Nat) (l1 : List Int) (a2 : Option Addr) (n2 c2 : Nat) (l2 : List Int) (w : World) (h1 : RowZ w a1 n1 c1 l1) (h2 : RowZ w a2 n2 c2 l2) (k1 : n1 ≤ 1000000) (k2 : n2 ≤ 1000000) :
    Calls Tryd.prog 17 #[.int .i64 (m : Int), .slice a1 n1 c1, .slice a2 n2 c2] w
      fun e w' => ∃ a' n' cap', e = .returned (.slice a' n' cap') ∧ ROut m w w' a' n' cap' (padd (sr m l1) (sr m l2)) ∧ Below w.heap.size w w' := by
  have HP1 := Lib.hid h1
  have HP2 := Lib.hid h2
  have e1 := h1.hlen
  have e2 := h2.hlen
  obtain ⟨N, hN⟩ : ∃ N, N = max n1 n2 := ⟨_, rfl⟩
  have hN1 : n1 ≤ N := by omega
  have hN2 : n2 ≤ N := by omega
  have hNN : N = n1 ∨ N = n2 := by omega
  have hNm : N ≤ 1000000 := by omega
  have hS : sr m (upN (rawN l1 l2) N N) = padd (sr m l1) (sr m l2) := sr_raw l1 l2 N (by omega) (by omega)
  have HS := Lib.hid hS
  have hmk := made64 w N hNm
  rw [upN_zero (rawN l1 l2)] at hmk
  have hmk1 : Hid (¬ n1 < n2 → (Instr.makeSlice 22 (.int .i64 (n1 : Int)) (.int .i64 (n1 : Int))).run Tryd.prog w = .ok (.slice (some ⟨w.heap.size, 0, none⟩) N N) (w.alloc (obj64 (upN (rawN l1 l2) N 0)))) := fun h => by
    have e : n1 = N := by omega
    rw [e]; exact hmk
  have hmk2 : Hid (n1 < n2 → (Instr.makeSlice 22 (.int .i64 (n2 : Int)) (.int .i64 (n2 : Int))).run Tryd.prog w = .ok (.slice (some ⟨w.heap.size, 0, none⟩) N N) (w.alloc (obj64 (upN (rawN l1 l2) N 0)))) := fun h => by
    have e : n2 = N := by omega
    rw [e]; exact hmk
  have HK0 : Hid (Blk64 (w.alloc (obj64 (upN (rawN l1 l2) N 0))) w.heap.size (upN (rawN l1 l2) N 0)) := Blk64.new w _
  have HB0 : Hid (Below w.heap.size w (w.alloc (obj64 (upN (rawN l1 l2) N 0)))) := (Below.refl _ _).alloc (Nat.le_refl _) _
  have HE1 := Lib.hid e1
  have HE2 := Lib.hid e2
  have HNN := Lib.hid hNN
  clear h1 h2 e1 e2 hN hNN hS
  clear hmk
  by_cases hcase : n1 < n2
  all_goals
    first | have hmk := hmk2.out hcase | have hmk := hmk1.out hcase
    clear hmk1 hmk2
    go_enter Tryd.func17, Tryd.ntmps17
    go_wp2_with fail
    clear hmk hcase
    generalize w.alloc (obj64 (upN (rawN l1 l2) N 0)) = w0 at HK0 HB0 ⊢
    go_loopg [8] N (fun gh s8 wx => ∃ (k : Nat), gh = N - k ∧ k ≤ N ∧ s8 = .int .i64 (k : Int) ∧ Blk64 wx w.heap.size (upN (rawN l1 l2) N k) ∧ Below w.heap.size w wx)
    case atStart => exact ⟨0, rfl, Nat.zero_le _, rfl, HK0.out, HB0.out⟩
    case round =>
      clear HK0 HB0
      obtain ⟨k, hg, hkn, rfl, hk, hB⟩ := hrel
      have HG := Lib.hid hg
      clear hg
      by_cases hlt : k < N
      · have x0 : (0 : Int) ≤ (k : Int) := by omega
        have x1 : (k : Int) < (N : Int) := by omega
        have hc := hk.cell (i := k) (by rw [upN_length]; exact hlt)
        rw [upN_at _ _ _ _ hlt (Nat.le_refl _)] at hc
        have hf := hk.free k
        have hset := upN_set (rawN l1 l2) N k
        have HK := Lib.hid hk
        have HB := Lib.hid hB
        have HSET := Lib.hid hset
        by_cases ha : k < n1
        · have t1 : decide ((k : Int) < (n1 : Int)) = true := decide_eq_true (by omega)
          have x2 : (k : Int) < (n1 : Int) := by omega
          obtain ⟨bb, off, rfl, d1, hb⟩ := (HP1.out.below hB).row k ha
          generalize hz1 : l1.getD k 0 = z1 at d1
          have HZ1 := Lib.hid hz1
          clear hz1
          have hs := hk.set k (z1)
          have U8 : Upd w.heap.size wr (wr.setCell ⟨w.heap.size, k, none⟩ (.int .i64 (z1))) := (Upd.refl _ wr).only (Only.setCell _ ⟨w.heap.size, k, none⟩ _)
          have hB8 := hB.trans (U8.toBelow (Nat.le_refl _) hB.size)
          have HS8 := Lib.hid hs
          have HB8 := Lib.hid hB8
          clear hk hB hb hset hs hB8 U8
          by_cases hc2 : k < n2
          · have t2 : decide ((k : Int) < (n2 : Int)) = true := decide_eq_true (by omega)
            have x3 : (k : Int) < (n2 : Int) := by omega
            go_wp2_with fail
            clear hc hf d1
            generalize wr.setCell ⟨w.heap.size, k, none⟩ (.int .i64 (z1)) = w8 at HS8 HB8 ⊢
            obtain ⟨b2, o2, rfl, d2, hb2⟩ := (HP2.out.below HB8.out).row k hc2
            have hc := HS8.out.cell (i := k) (by rw [List.length_set, upN_length]; exact hlt)
            have hf := HS8.out.free k
            have hv : nth64 ((upN (rawN l1 l2) N k).set k (z1)) k = z1 := by
              unfold nth64
              rw [List.getD_eq_getElem?_getD, List.getElem?_set_self (by rw [upN_length]; exact hlt)]; rfl
            rw [hv] at hc
            have HV : Hid (bits .xor .i64 (z1) (l2.getD k 0) = rawN l1 l2 k) := by
              show _ = _
              unfold rawN
              rw [if_pos (by rw [← HE1.out]; exact ha), if_pos (by rw [← HE2.out]; exact hc2), HZ1.out]
            have hs := HS8.out.set k (rawN l1 l2 k)
            rw [List.set_set, HSET.out] at hs
            have U8 : Upd w.heap.size w8 (w8.setCell ⟨w.heap.size, k, none⟩ (.int .i64 (rawN l1 l2 k))) := (Upd.refl _ w8).only (Only.setCell _ ⟨w.heap.size, k, none⟩ _)
            have hB9 := HB8.out.trans (U8.toBelow (Nat.le_refl _) HB8.out.size)
            have HS9 : Hid (Blk64 (w8.drew.setCell ⟨w.heap.size, k, none⟩ (.int .i64 (rawN l1 l2 k))) w.heap.size (upN (rawN l1 l2) N (k + 1))) := hs
            have HB9 : Hid (Below w.heap.size w (w8.drew.setCell ⟨w.heap.size, k, none⟩ (.int .i64 (rawN l1 l2 k)))) := ⟨hB9.os, hB9.tape, hB9.output, hB9.size, hB9.block⟩
            have d2' : w8.drew.cell? ⟨b2, o2 + k, none⟩ = some (.int .i64 (l2.getD k 0)) := d2
            have hc' : w8.drew.cell? ⟨w.heap.size, k, none⟩ = some (.int .i64 (z1)) := hc
            have hf' : w8.drew.frozen? ⟨w.heap.size, k, none⟩ = false := hf
            clear hs hB9 U8 hv hb2 d2 hc hf
            have hvx := HV.out
            clear HV
            generalize l2.getD k 0 = z2 at d2' hvx
            clear HS8
            go_wp2_with fail
            refine wp_region_still_tail 11 (by kernel_rfl) (by kernel_rfl) ?_
            simp only [List.take_succ_cons, List.take_zero, List.drop_succ_cons, List.drop_zero]
            change wpStill _ _ w8.drew (fun a' => wpList _ _ _ _ a' w8.drew) _ _
            generalize w8.drew = w9 at HS9 HB9 d2' hc' hf' ⊢
            repeat still_step
            refine wpStill_nil ?_
            go_wp2_with fail
            clear d2' hc' hf' hvx
            generalize w9.setCell ⟨w.heap.size, k, none⟩ (.int .i64 (rawN l1 l2 k)) = wq at HS9 HB9 ⊢
            go_wp2_with fail
            go_roundg (N - (k + 1))
            case measure => have := HG.out; omega
            case rel => exact ⟨k + 1, rfl, by omega, by go_num, HS9.out, HB9.out⟩
          · have t2 : decide ((k : Int) < (n2 : Int)) = false := decide_eq_false (by omega)
            go_wp2_with fail
            clear hc hf d1
            generalize wr.setCell ⟨w.heap.size, k, none⟩ (.int .i64 (z1)) = w8 at HS8 HB8 ⊢
            have hs := HS8.out
            have e : z1 = rawN l1 l2 k := by
              unfold rawN
              rw [if_pos (by rw [← HE1.out]; exact ha), if_neg (by rw [← HE2.out]; exact hc2), HZ1.out]
            rw [e, HSET.out] at hs
            have HS9 := Lib.hid hs
            clear hs e HS8
            go_roundg (N - (k + 1))
            case measure => have := HG.out; omega
            case rel => exact ⟨k + 1, rfl, by omega, by go_num, HS9.out, HB8.out⟩
        · have t1 : decide ((k : Int) < (n1 : Int)) = false := decide_eq_false (by omega)
          have hc2 : k < n2 := by have := HNN.out; omega
          have t2 : decide ((k : Int) < (n2 : Int)) = true := decide_eq_true (by omega)
          have x3 : (k : Int) < (n2 : Int) := by omega
          obtain ⟨b2, o2, rfl, d2, hb2⟩ := (HP2.out.below hB).row k hc2
          have hvx : bits .xor .i64 0 (l2.getD k 0) = rawN l1 l2 k := by
            unfold rawN
            rw [if_neg (by rw [← HE1.out]; exact ha)]
          have hs := hk.set k (rawN l1 l2 k)
          rw [hset] at hs
          have U8 : Upd w.heap.size wr (wr.setCell ⟨w.heap.size, k, none⟩ (.int .i64 (rawN l1 l2 k))) := (Upd.refl _ wr).only (Only.setCell _ ⟨w.heap.size, k, none⟩ _)
          have hB9 := hB.trans (U8.toBelow (Nat.le_refl _) hB.size)
          have HS9 : Hid (Blk64 (wr.drew.setCell ⟨w.heap.size, k, none⟩ (.int .i64 (rawN l1 l2 k))) w.heap.size (upN (rawN l1 l2) N (k + 1))) := hs
          have HB9 : Hid (Below w.heap.size w (wr.drew.setCell ⟨w.heap.size, k, none⟩ (.int .i64 (rawN l1 l2 k)))) := ⟨hB9.os, hB9.tape, hB9.output, hB9.size, hB9.block⟩
          have d2' : wr.drew.cell? ⟨b2, o2 + k, none⟩ = some (.int .i64 (l2.getD k 0)) := d2
          have hc' : wr.drew.cell? ⟨w.heap.size, k, none⟩ = some (.int .i64 0) := hc
          have hf' : wr.drew.frozen? ⟨w.heap.size, k, none⟩ = false := hf
          clear hs hB9 U8 hb2 d2 hc hf hk hB hset
          generalize l2.getD k 0 = z2 at d2' hvx
          clear HK HB
          go_wp2_with fail
          refine wp_region_still_tail 11 (by kernel_rfl) (by kernel_rfl) ?_
          simp only [List.take_succ_cons, List.take_zero, List.drop_succ_cons, List.drop_zero]
          change wpStill _ _ wr.drew (fun a' => wpList _ _ _ _ a' wr.drew) _ _
          generalize wr.drew = w9 at HS9 HB9 d2' hc' hf' ⊢
          repeat still_step
          refine wpStill_nil ?_
          go_wp2_with fail
          clear d2' hc' hf' hvx
          generalize w9.setCell ⟨w.heap.size, k, none⟩ (.int .i64 (rawN l1 l2 k)) = wq at HS9 HB9 ⊢
          go_wp2_with fail
          go_roundg (N - (k + 1))
          case measure => have := HG.out; omega
          case rel => exact ⟨k + 1, rfl, by omega, by go_num, HS9.out, HB9.out⟩
      · obtain rfl : k = N := by omega
        have hrow := Blk64.rowz hk (by rw [upN_length]; exact hNm)
        rw [upN_length] at hrow
        have HRow := Lib.hid hrow
        have HB := Lib.hid hB
        clear hk hrow hB
        go_wp2_with fail
        refine (rtrim_any (m := m) _ k k _ wr HRow.out hNm).mono ?_
        rintro e w5 ⟨a', n', cap', rfl, hO, hb⟩
        rw [HS.out] at hO
        have HO := Lib.hid (hO.from HB.out.size)
        have HB5 := Lib.hid (HB.out.trans (hb.mono HB.out.size))
        clear hO hb
        go_wp2_with fail
        go_ret
        exact ⟨_, _, _, rfl, HO.out, HB5.out⟩
end
end Go.Proofs.YtgfaaaeechgjmaaDoor.Pl
