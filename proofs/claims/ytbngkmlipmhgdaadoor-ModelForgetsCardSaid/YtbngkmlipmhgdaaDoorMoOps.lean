/- A model's small functions. By the verifier of shale. -/
import Derived.Test.YtbngkmlipmhgdaaDoorMoMem
import Derived.Test.YtbngkmlipmhgdaaDoorBinGcd
import Derived.Deep.Cut
import Derived.Laws.CopyRow
namespace Go.Proofs.YtbngkmlipmhgdaaDoor.Mo
open Go Go.RowKit Bin
set_option linter.unusedVariables false
set_option linter.unusedSimpArgs false
set_option maxHeartbeats 1000000 in
theorem is_any {w : World} {mo n : Nat} (h : w.cell? ⟨mo, 0, none⟩ = some (.int .i64 (n : Int))) (k : Int) :
    Calls Tryd.prog 25 #[.pointer (some ⟨mo, 0, none⟩), .int .i64 k] w fun e w' => e = .returned (.bool (decide (0 ≤ k ∧ k < (n : Int)))) ∧ w = w' := by
  by_cases h0 : 0 ≤ k
  · have t0 : decide (0 ≤ k) = true := decide_eq_true h0
    by_cases h1 : k < (n : Int)
    · have t1 : decide (k < (n : Int)) = true := decide_eq_true h1
      have e : decide (0 ≤ k ∧ k < (n : Int)) = true := decide_eq_true ⟨h0, h1⟩
      rw [e]
      clear h0 h1 e
      go_enter Tryd.func25, Tryd.ntmps25
      go_wp2_with fail
      go_ret
      exact ⟨rfl, rfl⟩
    · have t1 : decide (k < (n : Int)) = false := decide_eq_false h1
      have e : decide (0 ≤ k ∧ k < (n : Int)) = false := decide_eq_false fun h => h1 h.2
      rw [e]
      clear h0 h1 e
      go_enter Tryd.func25, Tryd.ntmps25
      go_wp2_with fail
      go_ret
      exact ⟨rfl, rfl⟩
  · have t0 : decide (0 ≤ k) = false := decide_eq_false h0
    have e : decide (0 ≤ k ∧ k < (n : Int)) = false := decide_eq_false fun h => h0 h.1
    rw [e]
    clear h0 e
    go_enter Tryd.func25, Tryd.ntmps25
    go_wp2_with fail
    go_ret
    exact ⟨rfl, rfl⟩
set_option maxHeartbeats 1000000 in
theorem may_yes {w : World} {mo n sz : Nat} (h0 : w.cell? ⟨mo, 0, none⟩ = some (.int .i64 (n : Int))) (h1 : w.cell? ⟨mo, 1, none⟩ = some (.int .i64 (sz : Int))) (k : Nat) (hk : k < n) (a : Option Addr) (c : Nat) :
    Calls Tryd.prog 23 #[.pointer (some ⟨mo, 0, none⟩), .int .i64 (k : Int), .slice a sz c] w fun e w' => e = .returned .nilIface ∧ w = w' := by
  have HI := Lib.hid (is_any h0 (k : Int))
  have e : decide (0 ≤ (k : Int) ∧ (k : Int) < (n : Int)) = true := decide_eq_true (by omega)
  rw [e] at HI
  have t : ((sz : Int) == (sz : Int)) = true := by simp
  clear h0 hk e
  go_enter Tryd.func23, Tryd.ntmps23
  go_wp2_with fail
  refine HI.out.mono ?_
  rintro e w' ⟨rfl, rfl⟩
  clear HI
  go_wp2_with fail
  go_ret
  exact ⟨rfl, rfl⟩
set_option maxHeartbeats 1000000 in
theorem may_num {w : World} {mo n sz : Nat} (h0 : w.cell? ⟨mo, 0, none⟩ = some (.int .i64 (n : Int))) (k : Int) (hk : ¬ (0 ≤ k ∧ k < (n : Int))) (a : Option Addr) (m c : Nat) {y : Addr} (EN : ErrAt w 1 y) :
    Calls Tryd.prog 23 #[.pointer (some ⟨mo, 0, none⟩), .int .i64 k, .slice a m c] w fun e w' => e = .returned (errOf y) ∧ w = w' := by
  have HI := Lib.hid (is_any h0 k)
  rw [decide_eq_false hk] at HI
  have q : w.cell? ⟨1, 0, none⟩ = some (errOf y) := EN.1
  clear h0 hk EN
  go_enter Tryd.func23, Tryd.ntmps23
  go_wp2_with fail
  refine HI.out.mono ?_
  rintro e w' ⟨rfl, rfl⟩
  clear HI
  go_wp2_with fail
  go_ret
  exact ⟨rfl, rfl⟩
set_option maxHeartbeats 1000000 in
theorem may_size {w : World} {mo n sz : Nat} (h0 : w.cell? ⟨mo, 0, none⟩ = some (.int .i64 (n : Int))) (h1 : w.cell? ⟨mo, 1, none⟩ = some (.int .i64 (sz : Int))) (k : Int) (hk : 0 ≤ k ∧ k < (n : Int)) (a : Option Addr) (m c : Nat) (hm : m ≠ sz) {y : Addr} (ES : ErrAt w 2 y) :
    Calls Tryd.prog 23 #[.pointer (some ⟨mo, 0, none⟩), .int .i64 k, .slice a m c] w fun e w' => e = .returned (errOf y) ∧ w = w' := by
  have HI := Lib.hid (is_any h0 k)
  rw [decide_eq_true hk] at HI
  have t : ((m : Int) == (sz : Int)) = false := by rw [beq_eq_false_iff_ne]; omega
  have t' : ¬ ((m : Int) = (sz : Int)) := by omega
  have q : w.cell? ⟨2, 0, none⟩ = some (errOf y) := ES.1
  clear h0 hk hm ES
  go_enter Tryd.func23, Tryd.ntmps23
  go_wp2_with fail
  refine HI.out.mono ?_
  rintro e w' ⟨rfl, rfl⟩
  clear HI
  go_wp2_with fail
  go_ret
  exact ⟨rfl, rfl⟩
set_option maxHeartbeats 1000000 in
theorem waiting_any {w : World} {mo n sz : Nat} {T : Nat → Bs} {L : List (Nat × Bs)} {bl dl : List Nat} {cb : Nat} (h : MoAt w mo n sz T L bl dl cb) :
    Calls Tryd.prog 15 #[.pointer (some ⟨mo, 0, none⟩)] w fun e w' => e = .returned (.int .i64 (L.length : Int)) ∧ w = w' := by
  obtain ⟨tm, nm, mT, mN, bT, bN, v, E, h⟩ := h
  obtain ⟨a, c, rfl, _, _, _⟩ := wrow_slice h.row
  obtain ⟨_, _, _, _, q4, _⟩ := mo_cells h.blk
  have he : E.length = L.length := by rw [← h.lay]; simp
  rw [he] at q4
  obtain ⟨N, hN⟩ : ∃ N, N = L.length := ⟨_, rfl⟩
  rw [← hN] at q4 ⊢
  clear h he hN
  go_enter Tryd.func15, Tryd.ntmps15
  go_wp2_with fail
  go_ret
  exact ⟨rfl, rfl⟩
theorem size8' : (Tryd.prog.info? 5).map (·.size) = some 1 := by kernel_rfl
/-- the copy of a sector's bytes into a row of zeros. -/
theorem copy_dat {w : World} {g sz : Nat} {s : Sd} {l : Bs} (hg : Blk8 w g (zerosL sz)) (hl : l.length = sz) (hd : (s = zSd ∧ l = zerosL sz) ∨ Dat w s l) (ty : TypeId) :
    ∃ (x : Int) (w' : World), (Builtin.copy_ #[31, 31] ty #[.slice (some ⟨g, 0, none⟩) sz sz, sdV s]).run Tryd.prog w = .ok (.int .i64 x) w' ∧ Blk8 w' g l ∧ ∀ B, B ≤ g → Below B w w' := by
  rcases hd with ⟨rfl, rfl⟩ | hd
  · refine ⟨0, w, ?_, hg, fun B _ => Below.refl _ _⟩
    exact run_copy_nil Tryd.prog w _ _ ty 5 ⟨g, 0, none⟩ sz sz Tryd.underlying31 (by rw [size8']; rfl)
  · by_cases h0 : 0 < l.length
    · have hs := arg_src hd w (Below.refl _ _) (by rw [cells8_length]; exact h0)
      obtain ⟨ad, ha, hc⟩ := hs
      have hsz : s.n = sz := by rw [hd.hlen, hl]
      have hrun := run_copy_row (P := Tryd.prog) w 31 31 ty 5 g 0 sz sz ad s.n s.c _ 5 (cells8 l) Tryd.underlying31 size8' hg (by rw [cells8_length, hsz, hl]; exact (Nat.min_self _).symm) hc (by rw [cells8_length, hl]; simp [zerosL]) (cells8_one l)
      refine ⟨_, _, by rw [show sdV s = .slice (some ad) s.n s.c by rw [← ha]]; exact hrun, ?_, fun B hB => below_setRow (Below.refl _ _) hB _⟩
      have h5 := setRow_heap w g _ ((((zerosL sz).map fun c => Value.int .u8 (Bits32.b c)).toArray.toList.take 0 ++ cells8 l ++ ((zerosL sz).map fun c => Value.int .u8 (Bits32.b c)).toArray.toList.drop (0 + (cells8 l).length)).toArray) 5 _ hg
      unfold Blk8 obj8
      rw [h5]
      congr 3
      have : (((zerosL sz).map fun c => Value.int .u8 (Bits32.b c)).toArray.toList.drop (0 + (cells8 l).length)) = [] := by
        apply List.drop_eq_nil_of_le
        rw [cells8_length, hl]
        simp [zerosL]
      rw [this]
      simp [cells8]
    · have hl0 : l = [] := List.eq_nil_of_length_eq_zero (by omega)
      subst hl0
      have hsz : sz = 0 := by simpa using hl.symm
      subst hsz
      refine ⟨0, w, ?_, hg, fun B _ => Below.refl _ _⟩
      exact run_copy_none w _ _ ty 5 _ _ 0 0 s.n s.c Tryd.underlying31 size8' (by simp)
set_option maxHeartbeats 1000000 in
theorem sector_any {w : World} {mo sz sm nb : Nat} {m : Int → Option Sd} {l : Bs} (h1 : w.cell? ⟨mo, 1, none⟩ = some (.int .i64 (sz : Int))) (hs : sz ≤ 1024) (hm : MapS w sm m nb) (k : Nat) (hk : k ≤ 1048576) (hl : l.length = sz)
    (hd : (m (k : Int) = none ∧ l = zerosL sz) ∨ ∃ s, m (k : Int) = some s ∧ Dat w s l) :
    Calls Tryd.prog 26 #[.pointer (some ⟨mo, 0, none⟩), .map (some sm), .int .i64 (k : Int)] w fun e w' => e = .returned (.slice (some ⟨w.heap.size, 0, none⟩) sz sz) ∧ Blk8 w' w.heap.size l ∧ Below w.heap.size w w' := by
  have hmk := made8 w sz (by omega)
  have b0 : Below w.heap.size w (w.alloc (obj8 (List.replicate sz 0))) := (Below.refl _ _).alloc (Nat.le_refl _) _
  have K0 : Blk8 (w.alloc (obj8 (List.replicate sz 0))) w.heap.size (zerosL sz) := Blk8.new w _
  have hm1 := hm.keep (b0.block sm hm.lt)
  have hlook := hm1.look (wf_nat k (by omega))
  have hd1 : ((m (k : Int)).getD zSd = zSd ∧ l = zerosL sz) ∨ Dat (w.alloc (obj8 (List.replicate sz 0))) ((m (k : Int)).getD zSd) l := by
    rcases hd with ⟨e, h⟩ | ⟨s, e, h⟩
    · rw [e]; exact .inl ⟨rfl, h⟩
    · rw [e]; exact .inr (h.below b0)
  obtain ⟨s, hse⟩ : ∃ s, s = (m (k : Int)).getD zSd := ⟨_, rfl⟩
  rw [← hse] at hlook hd1
  generalize hw : w.alloc (obj8 (List.replicate sz 0)) = w1 at hmk b0 K0 hm1 hlook hd1
  have HC := Lib.hid (fun ty => copy_dat K0 hl hd1 ty)
  have HB := Lib.hid b0
  clear hw hm hm1 hd hd1 hse hl K0 b0 hk
  go_enter Tryd.func26, Tryd.ntmps26
  go_upto_region 2 with (fail)
  obtain ⟨x, w2, hrun, K2, hb2⟩ := HC.out 3
  have HK := Lib.hid (And.intro K2 (HB.out.trans ((hb2 w.heap.size (Nat.le_refl _)))))
  clear K2 hb2 HC HB hmk
  go_wp2_with fail
  go_ret
  exact ⟨rfl, HK.out⟩
set_option maxHeartbeats 1000000 in
theorem read_no {w : World} {mo n : Nat} (h0 : w.cell? ⟨mo, 0, none⟩ = some (.int .i64 (n : Int))) (k : Int) (hk : ¬ (0 ≤ k ∧ k < (n : Int))) :
    Calls Tryd.prog 13 #[.pointer (some ⟨mo, 0, none⟩), .int .i64 k] w fun e w' => e = .returned (.tuple #[.slice none 0 0, .bool false]) ∧ w = w' := by
  have HI := Lib.hid (is_any h0 k)
  rw [decide_eq_false hk] at HI
  clear h0 hk
  go_enter Tryd.func13, Tryd.ntmps13
  go_wp2_with fail
  refine HI.out.mono ?_
  rintro e w' ⟨rfl, rfl⟩
  clear HI
  go_wp2_with fail
  go_ret2
  exact ⟨rfl, rfl⟩
set_option maxHeartbeats 1000000 in
theorem read_yes {w : World} {mo n sz : Nat} {T : Nat → Bs} {L : List (Nat × Bs)} {bl dl : List Nat} {cb : Nat} (h : MoAt w mo n sz T L bl dl cb) (k : Nat) (hk : k < n) :
    Calls Tryd.prog 13 #[.pointer (some ⟨mo, 0, none⟩), .int .i64 (k : Int)] w fun e w' => e = .returned (.tuple #[.slice (some ⟨w.heap.size, 0, none⟩) sz sz, .bool true]) ∧ Blk8 w' w.heap.size (app T L k) ∧ Below w.heap.size w w' := by
  have hlens := h.lens
  obtain ⟨tm, nm, mT, mN, bT, bN, v, E, h⟩ := h
  obtain ⟨q0, q1, _, q3, _, _⟩ := mo_cells h.blk
  have HI := Lib.hid (is_any q0 (k : Int))
  have e : decide (0 ≤ (k : Int) ∧ (k : Int) < (n : Int)) = true := decide_eq_true (by omega)
  rw [e] at HI
  have HS := Lib.hid (sector_any (l := app T L k) q1 h.num.2.2.2 h.mapN k (by have := h.num; omega) (app_len L T hlens.1 (fun p hp => (hlens.2.1 p hp).2) k) (h.holN k hk))
  clear h e hlens q0 q1 hk
  go_enter Tryd.func13, Tryd.ntmps13
  go_wp2_with fail
  refine HI.out.mono ?_
  rintro e w' ⟨rfl, rfl⟩
  clear HI
  go_wp2_with fail
  refine HS.out.mono ?_
  rintro e w' ⟨rfl, h1, h2⟩
  have HE := Lib.hid (And.intro h1 h2)
  clear h1 h2 HS q3
  go_wp2_with fail
  go_ret2
  exact ⟨rfl, HE.out⟩
end Go.Proofs.YtbngkmlipmhgdaaDoor.Mo
