/- slices.Repeat of one number. By the verifier of shale. -/
import Derived.Test.YtpbckjagiebmjaaDoorTbMem
import Derived.Test.YtpbckjagiebmjaaDoorSee
import Derived.StillTailTactics
import Derived.Deep.RegionLaw
import Derived.Laws.CopyOwn
import Derived.Deep.Cut
namespace Go.Proofs.YtpbckjagiebmjaaDoor.Tb
open Go Go.RowKit
set_option linter.unusedVariables false
set_option linter.unusedSimpArgs false
theorem andM (n : Nat) (h : n ≤ 1000) : bits .and .u64 (n : Int) 4294967295 = (n : Int) := by
  show IntKind.u64.wrap ((BitVec.ofInt 64 (n : Int) &&& BitVec.ofInt 64 4294967295).toNat : Int) = _
  rw [BitVec.toNat_and, show (BitVec.ofInt 64 4294967295).toNat = 2 ^ 32 - 1 by decide, Nat.and_two_pow_sub_one_eq_mod, BitVec.toNat_ofInt]
  rw [show ((((n : Int) % ((2 ^ 64 : Nat) : Int)).toNat % 2 ^ 32 : Nat) : Int) = (n : Int) by omega]
  simp [IntKind.wrap, IntKind.bits, IntKind.signed]
  omega
set_option maxHeartbeats 1000000 in
theorem mul64_any (n : Nat) (h : n ≤ 1000) (w : World) : Calls Tryd.prog 46 #[.int .u64 1, .int .u64 (n : Int)] w fun e w' => e = .returned (.tuple #[.int .u64 0, .int .u64 (n : Int)]) ∧ w = w' := by
  have ba := andM n h
  have bb : bits .and .u64 1 4294967295 = 1 := by decide
  have b0 : bits .and .u64 0 4294967295 = 0 := by decide
  have d0 : (n : Int) / 4294967296 = 0 := by omega
  have hn0 : (0 : Int) ≤ (n : Int) := by omega
  go_enter Tryd.func46, Tryd.ntmps46
  go_wp2_with fail
  go_ret2
  exact ⟨rfl, rfl⟩
set_option maxHeartbeats 1000000 in
theorem mul_any (n : Nat) (h : n ≤ 1000) (w : World) : Calls Tryd.prog 40 #[.int .u64 1, .int .u64 (n : Int)] w fun e w' => e = .returned (.tuple #[.int .u64 0, .int .u64 (n : Int)]) ∧ w = w' := by
  go_enter Tryd.func40, Tryd.ntmps40
  go_wp2_with fail
  refine (mul64_any n h w).mono ?_
  rintro e w' ⟨rfl, rfl⟩
  go_wp2_with fail
  go_ret2
  exact ⟨rfl, rfl⟩
/-- k times the number, and zeros behind. -/
def repL (P k : Nat) (v : Int) : List Int := List.replicate k v ++ List.replicate (P - k) 0
theorem repL_len {P k : Nat} {v : Int} (h : k ≤ P) : (repL P k v).length = P := by unfold repL; simp; omega
theorem repL_full (P : Nat) (v : Int) : repL P P v = List.replicate P v := by unfold repL; simp
theorem repL_nth {P k i : Nat} {v : Int} (hi : i < k) : nth64 (repL P k v) i = v := by
  unfold nth64 repL
  rw [List.getD_eq_getElem?_getD, List.getElem?_append_left (by simpa using hi)]
  simp [hi]
theorem repL_splice {P k c : Nat} {v : Int} (h : k + c ≤ P) : splice (cells64 (repL P k v)) k (List.replicate c (Value.int .i64 v)) = cells64 (repL P (k + c) v) := by
  unfold splice cells64 repL
  simp only [List.map_append, List.map_replicate, List.length_replicate]
  rw [List.take_append_of_le_length (by simp), List.take_of_length_le (by simp)]
  rw [List.drop_append, List.drop_of_length_le (by simp)]
  simp only [List.length_replicate, List.nil_append, List.drop_replicate]
  rw [← List.append_assoc, List.replicate_append_replicate]
  congr 2
  omega
theorem size64 : (Tryd.prog.info? 3).map (·.size) = some 1 := by kernel_rfl
set_option maxRecDepth 100000 in
set_option maxHeartbeats 2000000 in
theorem repeat_any {g0 c0 P : Nat} {v : Int} (hP : 0 < P) (hP64 : P ≤ 64) (w : World) (h0 : w.cell? ⟨g0, 0, none⟩ = some (.int .i64 v)) :
    Calls Tryd.prog 25 #[.slice (some ⟨g0, 0, none⟩) 1 c0, .int .i64 (P : Int)] w fun e w' => e = .returned (.slice (some ⟨w.heap.size, 0, none⟩) P P) ∧ Blk64 w' w.heap.size (List.replicate P v) ∧ Below w.heap.size w w' := by
  have hg0 := World.block_lt_of_cell? w _ h0
  have t0 : decide ((P : Int) < 0) = false := decide_eq_false (by omega)
  have hmk := made64 w P (by omega)
  obtain ⟨O0, hO0⟩ : ∃ O, O = obj64 (List.replicate P 0) := ⟨_, rfl⟩
  have HW0 : Hid (Blk64 (w.alloc (obj64 (List.replicate P 0))) w.heap.size (repL P 0 v) ∧ Below w.heap.size w (w.alloc (obj64 (List.replicate P 0)))) := ⟨by have := Blk64.new w (List.replicate P 0); unfold repL; simpa using this, (Below.refl _ _).alloc (Nat.le_refl _) _⟩
  rw [← hO0] at hmk HW0
  have H0 := Lib.hid (And.intro h0 hg0)
  have hwp1 : IntKind.u64.wrap (P : Int) = (P : Int) := by simp [IntKind.wrap, IntKind.bits, IntKind.signed]; omega
  have hwp2 : IntKind.i64.wrap (P : Int) = (P : Int) := IntWalk.i64_in _ (by omega)
  have z1 : decide ((9223372036854775807 : Int) < (P : Int)) = false := decide_eq_false (by omega)
  clear h0 hg0 hO0
  go_enter Tryd.func25, Tryd.ntmps25
  go_wp2_with fail
  refine (mul_any P (by omega) w).mono ?_
  rintro e w' ⟨rfl, rfl⟩
  go_upto_region 7 with (fail)
  generalize w.alloc O0 = w1 at HW0 ⊢
  clear hmk
  obtain ⟨gb, hgb⟩ : ∃ gb, gb = w.heap.size := ⟨_, rfl⟩
  have HGB := Lib.hid hgb
  rw [← hgb] at HW0 ⊢
  clear hgb
  have hsrc : w1.cell? ⟨g0, 0, none⟩ = some (.int .i64 v) := (HW0.out.2.cell (p := ⟨g0, 0, none⟩) (by rw [HGB.out]; exact H0.out.2)).trans H0.out.1
  have HSRC := Lib.hid hsrc
  clear hsrc
  have HC : Hid (w1.heap[gb]? = some (.cells (cells64 (repL P 0 v)).toArray 3 (0, 0))) := HW0.out.1
  have HCL : Hid ((cells64 (repL P 0 v)).length = P) := by show _ = _; rw [cells64_length, repL_len (by omega)]
  go_wp2_with ((with_reducible show wpList _ _ _ _ _ _); refine wpList_copy_splice (o := ⟨some 33, _, _, _, _, _⟩) rfl (.tmp 31) (.tmp 32) 73 73 rfl 3 Tryd.underlying73 size64 (some ⟨gb, 0, none⟩) (some ⟨g0, 0, none⟩) P P 1 c0 rfl rfl gb 0 (cells64 (repL P 0 v)) 3 HC.out [.int .i64 v] (by show 1 = Nat.min 1 P; exact (Nat.min_eq_left hP).symm) (fun _ => ⟨rfl, _, rfl, fun j u hj => by
      match j, hj with
      | 0, hj => cases hj; exact HSRC.out⟩) (by rw [HCL.out]; show 0 + 1 ≤ P; omega) (by intro u hu; rw [List.mem_singleton.1 hu]; rfl) gb w HW0.out.2 (Nat.le_refl _) ?_; intro w2 hw2 hb2)
  have HL : Hid (Blk64 w2 gb (repL P 1 v) ∧ Below gb w w2) := ⟨by
    have h : w2.heap[gb]? = _ := hw2.out
    have h2 := repL_splice (P := P) (k := 0) (c := 1) (v := v) (by omega)
    rw [show List.replicate 1 (Value.int .i64 v) = [Value.int .i64 v] from rfl] at h2
    rw [h2] at h
    exact h, hb2⟩
  clear hw2 hb2 HC HCL HSRC HW0 z1 hwp1 t0
  go_loopg [8] P (fun gh s8 wx => ∃ k : Nat, gh = P + 1 - k ∧ 1 ≤ k ∧ k ≤ P ∧ s8 = .int .i64 (k : Int) ∧ Hid (Blk64 wx gb (repL P k v) ∧ Below gb w wx))
  case atStart => exact ⟨1, by omega, Nat.le_refl _, hP, rfl, HL⟩
  case round =>
    clear HL
    obtain ⟨k, hg, hk1, hk, rfl, HX⟩ := hrel
    have HI := Lib.hid hg
    clear hg
    by_cases hlt : k < P
    · have x1 : (k : Int) < (P : Int) := by omega
      have x0 : (0 : Int) ≤ (k : Int) := by omega
      have x2 : ¬ P = k := by omega
      have x3 : (k : Int) ≤ (P : Int) := by omega
      have x4 : ((k : Int)).toNat = k := by omega
      go_upto_region 9 with (fail)
      have HX2 : Hid (Blk64 wr.drew gb (repL P k v) ∧ Below gb w wr.drew) := ⟨HX.out.1, HX.out.2.drew⟩
      have hcp : ∃ (c : Nat) (w4 : World), k + c ≤ P ∧ 1 ≤ c ∧ (Builtin.copy_ #[73, 73] 3 #[.slice (some ⟨gb, k, none⟩) (P - k) (P - k), .slice (some ⟨gb, 0, none⟩) k P]).run Tryd.prog wr.drew = .ok (.int .i64 (c : Int)) w4 ∧ Blk64 w4 gb (repL P (k + c) v) ∧ Below gb w w4 := by
        obtain ⟨c, hc⟩ : ∃ c, c = Nat.min k (P - k) := ⟨_, rfl⟩
        have h1 : c ≤ k := by rw [hc]; exact Nat.min_le_left k (P - k)
        have h2 : c ≤ P - k := by rw [hc]; exact Nat.min_le_right k (P - k)
        have h3 : 1 ≤ c := by rw [hc]; exact Nat.le_min.2 ⟨hk1, by omega⟩
        have hrun := run_copy_row (P := Tryd.prog) wr.drew 73 73 3 3 gb k (P - k) (P - k) ⟨gb, 0, none⟩ k P (cells64 (repL P k v)).toArray 3 (List.replicate c (Value.int .i64 v)) Tryd.underlying73 size64 HX2.out.1 (by rw [List.length_replicate, hc]) (fun j u hj => by
          have hj2 : j < c := by have := (List.getElem?_eq_some_iff.1 hj).1; rwa [List.length_replicate] at this
          have hadd : (⟨gb, 0, none⟩ : Addr).add j = ⟨gb, j, none⟩ := by by_cases h : j = 0 <;> simp [Addr.add, h]
          rw [hadd]
          have h4 := HX2.out.1.cell (i := j) (by rw [repL_len (by omega)]; omega)
          rw [repL_nth (by omega)] at h4
          rw [h4]
          rw [List.getElem?_replicate] at hj
          simp only [hj2, if_true] at hj
          exact hj) (by rw [List.length_replicate]; simp [cells64_length, repL_len hk]; omega) (fun u hu => by rw [(List.mem_replicate.1 hu).2]; rfl)
        have hsp := repL_splice (P := P) (k := k) (c := c) (v := v) (by omega)
        rw [List.length_replicate] at hrun
        refine ⟨c, _, by omega, h3, hrun, ?_, below_setRow HX2.out.2 (Nat.le_refl _) _⟩
        have h5 := setRow_heap wr.drew gb _ ((cells64 (repL P k v)).toArray.toList.take k ++ List.replicate c (Value.int .i64 v) ++ (cells64 (repL P k v)).toArray.toList.drop (k + c)).toArray 3 _ HX2.out.1
        have h6 : (cells64 (repL P k v)).toArray.toList.take k ++ List.replicate c (Value.int .i64 v) ++ (cells64 (repL P k v)).toArray.toList.drop (k + c) = cells64 (repL P (k + c) v) := by
          rw [← hsp]
          simp [splice]
        rw [h6] at h5
        rw [h6]
        exact h5
      obtain ⟨c, w4, hc1, hc2, hrun, hb4, hw4⟩ := hcp
      have HN : Hid (Blk64 w4 gb (repL P (k + c) v) ∧ Below gb w w4) := ⟨hb4, hw4⟩
      have HC1 := Lib.hid hc1
      clear hb4 hw4 HX2 HX
      go_region
      all_goals
        go_wp2_with fail
        go_roundg (P + 1 - (k + c))
        case measure => have := HI.out; have := HC1.out; omega
        case rel => exact ⟨k + c, rfl, by omega, HC1.out, by go_num, HN⟩
    · obtain rfl : k = P := by omega
      go_wp2_with fail
      go_ret
      exact ⟨by rw [HGB.out]; rfl, by rw [HGB.out] at HX; have h := HX.out.1; rw [repL_full] at h; exact h, by have h := HX.out.2; rw [HGB.out] at h; exact h⟩
end Go.Proofs.YtpbckjagiebmjaaDoor.Tb
