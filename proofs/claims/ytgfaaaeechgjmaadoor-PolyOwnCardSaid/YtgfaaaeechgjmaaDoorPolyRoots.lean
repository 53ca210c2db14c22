/- The walk over package fieldpoly's Roots. By the verifier of shale. -/
import Derived.Test.YtgfaaaeechgjmaaDoorPolyGcd
namespace Go.Proofs.YtgfaaaeechgjmaaDoor.Pl
open Go Go.RowKit Fld Bits16
set_option linter.unusedVariables false
section
variable {m : Nat} [M : Mid m]
open Classical in
/-- the elements below j at which the first n of P are 0, rising. -/
noncomputable def rts (n : Nat) (P : Ser (El m)) : Nat → List Nat
  | 0 => []
  | j + 1 => rts n P j ++ if ev n P (elm m (j : Int)) = 0 then [j] else []
def intsN (l : List Nat) : List Int := List.map (fun e : Nat => (e : Int)) l
theorem rts_lt (n : Nat) (P : Ser (El m)) : ∀ j i, i ∈ rts n P j → i < j
  | 0, i, h => by simp [rts] at h
  | j + 1, i, h => by
    rw [rts, List.mem_append] at h
    rcases h with h | h
    · have := rts_lt n P j i h; omega
    · split at h
      · simp at h; omega
      · simp at h
theorem rts_root (n : Nat) (P : Ser (El m)) : ∀ j i, i ∈ rts n P j → ev n P (elm m (i : Int)) = 0
  | 0, i, h => by simp [rts] at h
  | j + 1, i, h => by
    rw [rts, List.mem_append] at h
    rcases h with h | h
    · exact rts_root n P j i h
    · split at h
      · rename_i h0
        simp at h; rw [h]; exact h0
      · simp at h
theorem rts_nodup (n : Nat) (P : Ser (El m)) : ∀ j, (rts n P j).Nodup
  | 0 => List.nodup_nil
  | j + 1 => by
    rw [rts]
    split
    · rw [List.nodup_append]
      refine ⟨rts_nodup n P j, by simp, fun a ha b hb => ?_⟩
      have := rts_lt n P j a ha
      simp at hb; omega
    · rw [List.append_nil]; exact rts_nodup n P j
theorem elm_inj {i j : Nat} (hi : i < 2 ^ m) (hj : j < 2 ^ m) (h : elm m (i : Int) = elm m (j : Int)) : i = j := by
  have h1 : el m (i : Int) = el m (j : Int) := congrArg Subtype.val h
  have h2 := congrArg BitVec.toNat h1
  rw [el_nat m M.hi, el_nat m M.hi] at h2
  have hp := pow14 m M.hi
  have e : ∀ k : Nat, k < 2 ^ m → (BitVec.ofInt 64 (k : Int)).toNat % 2 ^ m = k := fun k hk => by
    have : (BitVec.ofInt 64 (k : Int)).toNat = k := by rw [BitVec.toNat_ofInt]; omega
    rw [this, Nat.mod_eq_of_lt hk]
  rwa [e i hi, e j hj] at h2
theorem rts_len {d : Nat} {P : Ser (El m)} (hP : Dg P d) (j : Nat) (hj : j ≤ 2 ^ m) : (rts (d + 1) P j).length ≤ d := by
  have := roots_le d P ((rts (d + 1) P j).map fun i : Nat => elm m (i : Int)) hP (by
    rw [List.Nodup, List.pairwise_map]
    refine List.Pairwise.imp_of_mem (fun ha hb hne h => hne ?_) (rts_nodup (d + 1) P j)
    exact elm_inj (by have := rts_lt _ P j _ ha; omega) (by have := rts_lt _ P j _ hb; omega) h) (fun a ha => by
    obtain ⟨i, hi, rfl⟩ := List.mem_map.1 ha
    exact rts_root _ P j i hi)
  rwa [List.length_map] at this
theorem rts_stop {d : Nat} {P : Ser (El m)} (hP : Dg P d) (j : Nat) (hl : (rts (d + 1) P j).length = d) : ∀ k, j + k ≤ 2 ^ m → rts (d + 1) P (j + k) = rts (d + 1) P j
  | 0, _ => rfl
  | k + 1, h => by
    have ih := rts_stop hP j hl k (by omega)
    have hle := rts_len hP (j + k + 1) (by omega)
    rw [rts, ih] at hle
    show rts (d + 1) P (j + k + 1) = _
    rw [rts, ih]
    split
    · rename_i h0
      rw [if_pos h0, List.length_append, hl] at hle
      simp at hle
      exact absurd hle (by omega)
    · rw [List.append_nil]
theorem own_slice {w : World} {base n : Nat} {v : Value} {l : List Int} (e : Own64 w base v n l) : ∃ a c, v = .slice a n c := by
  rcases e.2 with ⟨h0, h1⟩ | ⟨g', cap', cur, hv, _⟩
  · exact ⟨none, 0, by rw [h0, h1]⟩
  · exact ⟨_, _, hv⟩
theorem own_from {w : World} {base base' n : Nat} {v : Value} {l : List Int} (e : Own64 w base v n l) (hb : base' ≤ base) : Own64 w base' v n l := by
  refine ⟨e.1, ?_⟩
  rcases e.2 with h0 | ⟨g', cap', cur, hv, hbg, r⟩
  · exact Or.inl h0
  · exact Or.inr ⟨g', cap', cur, hv, Nat.le_trans hb hbg, r⟩
set_option maxRecDepth 100000 in
set_option maxHeartbeats 2000000 in
theorem roots_any {g s be ce bl : Nat} (a : Option Addr) (n cap : Nat) (l : List Int) (w : World) (R : RingAt m w g s be ce bl) (h : RowZ w a n cap l) (hn : n ≤ 100000) (hne : top (sr m l) n ≠ 0) :
    Calls Tryd.prog 26 #[.pointer (some ⟨g, 0, none⟩), .slice a n cap] w
      fun e w' => ∃ v' k, e = .returned v' ∧ Own64 w' w.heap.size v' k (intsN (rts (top (sr m l) n) (sr m l) (2 ^ m))) ∧ Below w.heap.size w w' := by
  obtain ⟨i0, hi, hz0, hz1, hz2⟩ := info64
  have HR := Lib.hid R
  have HP := Lib.hid h
  have hb : Bd (sr m l) n := by have := sr_bd (m := m) l; rwa [← h.hlen] at this
  have HB : Hid (Bd (sr m l) (top (sr m l) n)) := top_bd hb
  have ht := top_le (sr m l) n
  obtain ⟨N, hN⟩ : ∃ N, N + 1 = top (sr m l) n := ⟨top (sr m l) n - 1, by omega⟩
  have HD : Hid (Dg (sr m l) N) := dg_top hb hN
  rw [← hN] at HB ht ⊢
  have HN := Lib.hid hN
  have hp14 := pow14 m M.hi
  obtain ⟨S, hS⟩ : ∃ S, S = 2 ^ m := ⟨_, rfl⟩
  have HSE : Hid (els m = S) := hS.symm
  rw [← hS] at hp14 ⊢
  have HS := Lib.hid hS
  clear hS
  clear R h hb hne hN
  go_enter Tryd.func26, Tryd.ntmps26
  go_wp2_with fail
  refine (trim_any a n cap l w HR.out HP.out (by omega)).mono ?_
  rintro e w1 ⟨rfl, hk, b1⟩
  rw [← HN.out] at hk ⊢
  have hrow := Blk64.row hk (N + 1) (by rw [nums_length]; exact Nat.le_refl _) (by rw [nums_length]; omega)
  rw [nums_length, nums_take _ (Nat.le_refl _)] at hrow
  have HRow := Lib.hid hrow
  clear hk hrow
  have HO0 := Lib.hid (show Own64 w1 w1.heap.size (.slice none 0 0) 0 (intsN []) from Own64.nil w1 w1.heap.size)
  have tz : (((N + 1 : Nat) : Int) == 0) = false := by rw [beq_eq_false_iff_ne]; omega
  have tz' : ((N : Int) + 1 == 0) = false := by rw [beq_eq_false_iff_ne]; omega
  go_wp2_with fail
  clear tz tz'
  have i1 : IntKind.i64.wrap (((N + 1 : Nat) : Int) - 1) = (N : Int) := by rw [show ((N + 1 : Nat) : Int) - 1 = (N : Int) by omega]; exact IntWalk.i64_in _ (by omega)
  have i2 : IntKind.i64.wrap ((N : Int) + 1 - 1) = (N : Int) := by rw [show (N : Int) + 1 - 1 = (N : Int) by omega]; exact IntWalk.i64_in _ (by omega)
  have HB1 := Lib.hid b1
  have hb1 := b1.size
  clear b1
  go_loopg [5, 6] S (fun gh s5 s6 wx => ∃ (j k : Nat), gh = S - j ∧ j ≤ S ∧ s6 = .int .i64 (j : Int) ∧ Own64 wx w1.heap.size s5 k (intsN (rts (N + 1) (sr m l) j)) ∧ Below w1.heap.size w1 wx)
  case atStart => exact ⟨0, 0, rfl, Nat.zero_le _, rfl, HO0.out, Below.refl _ _⟩
  case round =>
    clear HO0
    obtain ⟨j, k, hg, hj, rfl, hown, hB⟩ := hrel
    have HG := Lib.hid hg
    clear hg
    obtain ⟨av, cv, rfl⟩ := own_slice hown
    have hkl : (rts (N + 1) (sr m l) j).length = k := by have := hown.len; rwa [intsN, List.length_map] at this
    have hkN : k ≤ N := by rw [← hkl]; exact rts_len HD.out j (by rw [← HS.out]; exact hj)
    have HW := HB1.out.trans (hB.mono hb1)
    have Rw := HR.out.below HW
    have c0 := Rw.cell
    have HOwn := Lib.hid hown
    have HKL := Lib.hid hkl
    have HBB := Lib.hid hB
    have HWW := Lib.hid HW
    have HRw := Lib.hid Rw
    clear hown hkl hB HW Rw
    by_cases hjS : j < S ∧ k < N
    · obtain ⟨h1, h2⟩ := hjS
      have t1 : decide ((j : Int) < (S : Int)) = true := decide_eq_true (by omega)
      have t2 : decide ((k : Int) < (N : Int)) = true := decide_eq_true (by omega)
      have x1 : (j : Int) < (S : Int) := by omega
      have x2 : (k : Int) < (N : Int) := by omega
      go_wp2_with fail
      refine (size_any wr HRw.out.2).mono ?_
      rintro e w5 ⟨rfl, rfl⟩
      rw [HSE.out]
      go_wp2_with fail
      refine (peval_any _ (N + 1) (N + 1) (nums (sr m l) (N + 1)) (j : Int) wr HRw.out (HRow.out.below HBB.out)).mono ?_
      rintro e w5 ⟨rfl, hD5⟩
      rw [sr_nums HB.out]
      have ho5 : Own64 w5 w1.heap.size (.slice av k cv) k (intsN (rts (N + 1) (sr m l) j)) := by
        obtain ⟨nd, rfl⟩ := hD5
        exact HOwn.out.keep fun _ _ => rfl
      have hB5 : Below w1.heap.size w1 w5 := HBB.out.trans (hD5.below _)
      have hbs := hB5.size
      have hze := zn_eq0 (ev (N + 1) (sr m l) (elm m (j : Int)))
      clear hD5 c0
      by_cases h0 : ev (N + 1) (sr m l) (elm m (j : Int)) = 0
      · have hze : (zn (ev (N + 1) (sr m l) (elm m (j : Int))) == 0) = true := hze.trans (decide_eq_true h0)
        have HF : Hid (intsN (rts (N + 1) (sr m l) (j + 1)) = intsN (rts (N + 1) (sr m l) j) ++ [(j : Int)]) := by
          show _ = _
          rw [rts, if_pos h0]; simp [intsN]
        clear h0
        generalize zn (ev (N + 1) (sr m l) (elm m (j : Int))) = z1 at hze ⊢
        go_wp2_with (at_builtin; refine wpList_append_own _ rfl _ _ 22 rfl w1.heap.size 3 i0 (.int .i64 0) 1 8 Tryd.underlying22 hi hz0 hz1 hz2 rfl (by decide) _ k _ rfl (World.ownsRow.alloc ho5 _) ⟨w5.heap.size, 0, none⟩ 1 1 [.int .i64 (j : Int)] rfl rfl (cell_one_new _ _ _) (ints_oneCell .i64 [_]) (by unfold maxLen; omega) (by omega) (by simp; omega) ?_; intro v7 w7 hown7 hgrow _)
        have ho7 : Own64 w7 w1.heap.size v7 (k + 1) (intsN (rts (N + 1) (sr m l) (j + 1))) := by
          unfold Own64
          rw [HF.out, ← cells64_append]
          exact hown7
        have b7 : Below w1.heap.size w1 w7 := (hB5.alloc hbs _).grown hgrow (by simp; omega) (fun g hg => (ho5.block g hg).1)
        clear hown7 hgrow ho5 hB5 hze
        go_wp2_with fail
        go_roundg (S - (j + 1))
        case measure => have := HG.out; omega
        case rel => exact ⟨j + 1, k + 1, rfl, by omega, by go_num, ho7, b7⟩
      · have hze : (zn (ev (N + 1) (sr m l) (elm m (j : Int))) == 0) = false := hze.trans (decide_eq_false h0)
        have ho6 : Own64 w5 w1.heap.size (.slice av k cv) k (intsN (rts (N + 1) (sr m l) (j + 1))) := by
          rw [rts, if_neg h0, List.append_nil]; exact ho5
        have HO6 := Lib.hid ho6
        clear h0 ho5 ho6
        generalize zn (ev (N + 1) (sr m l) (elm m (j : Int))) = z1 at hze ⊢
        go_wp2_with fail
        go_roundg (S - (j + 1))
        case measure => have := HG.out; omega
        case rel => exact ⟨j + 1, k, rfl, by omega, by go_num, HO6.out, hB5⟩
    · have HF : Hid (rts (N + 1) (sr m l) S = rts (N + 1) (sr m l) j) := by
        by_cases h1 : j < S
        · have := rts_stop HD.out j (by rw [HKL.out]; omega) (S - j) (by rw [← HS.out]; omega)
          rwa [show j + (S - j) = S by omega] at this
        · have e : S = j := by omega
          subst e; exact rfl
      have HO : Hid (Own64 wr w.heap.size (.slice av k cv) k (intsN (rts (N + 1) (sr m l) S))) := by
        rw [HF.out]; exact own_from HOwn.out hb1
      by_cases h1 : j < S
      · obtain rfl : k = N := by omega
        have t1 : decide ((j : Int) < (S : Int)) = true := decide_eq_true (by omega)
        have x1 : (j : Int) < (S : Int) := by omega
        go_wp2_with fail
        refine (size_any wr HRw.out.2).mono ?_
        rintro e w5 ⟨rfl, rfl⟩
        rw [HSE.out]
        go_wp2_with fail
        go_ret
        exact ⟨_, _, rfl, HO.out, HWW.out⟩
      · obtain rfl : j = S := by omega
        go_wp2_with fail
        refine (size_any wr HRw.out.2).mono ?_
        rintro e w5 ⟨rfl, rfl⟩
        rw [HSE.out]
        go_wp2_with fail
        go_ret
        exact ⟨_, _, rfl, HO.out, HWW.out⟩
set_option maxRecDepth 100000 in
set_option maxHeartbeats 1000000 in
theorem roots_zero {g s be ce bl : Nat} (a : Option Addr) (n cap : Nat) (l : List Int) (w : World) (R : RingAt m w g s be ce bl) (h : RowZ w a n cap l) (hn : n ≤ 100000) (hz : top (sr m l) n = 0) :
    Calls Tryd.prog 26 #[.pointer (some ⟨g, 0, none⟩), .slice a n cap] w
      fun e w' => e = .returned (.slice none 0 0) ∧ Below w.heap.size w w' := by
  have HR := Lib.hid R
  have HP := Lib.hid h
  have HZ := Lib.hid hz
  clear R h hz
  go_enter Tryd.func26, Tryd.ntmps26
  go_wp2_with fail
  refine (trim_any a n cap l w HR.out HP.out (by omega)).mono ?_
  rintro e w1 ⟨rfl, hk, b1⟩
  rw [HZ.out]
  clear hk
  go_wp2_with fail
  go_ret
  exact ⟨rfl, b1⟩
set_option maxRecDepth 100000 in
set_option maxHeartbeats 1000000 in
theorem from_long {g : Nat} (a : Option Addr) (n cap : Nat) (w : World) (hn : 2048 < n) (hm : n ≤ 1000000) (p : Addr) (E : ErrAt w 1 p) :
    Calls Tryd.prog 30 #[.pointer (some ⟨g, 0, none⟩), .slice a n cap] w
      fun e w' => e = .returned (.tuple #[.slice none 0 0, errOf p]) ∧ Below w.heap.size w w' := by
  have t1 : decide ((2048 : Int) < (n : Int)) = true := decide_eq_true (by omega)
  have e1 := E.1
  unfold Sent at e1
  clear E
  go_enter Tryd.func30, Tryd.ntmps30
  go_wp2_with fail
  go_quiet (fail)
  have hd2 := (Drawn.mk w nq).below w.heap.size
  generalize w.drewN nq = w5 at hd2 ⊢
  clear e1
  go_wp2_with fail
  go_ret2
  exact ⟨rfl, hd2⟩
end
end Go.Proofs.YtgfaaaeechgjmaaDoor.Pl
