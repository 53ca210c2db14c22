/- Texts of the verifier of shale, laid into one: SortShelf, MinCoset, MinCosets, MinProd, MinFro, RefCoset. -/
import Derived.Test.YtdhcigiaidlmbaaGreatDoorGreat1
import Derived.Test.YtdhcigiaidlmbaaGreatDoorGreat2
import Derived.Test.YtdhcigiaidlmbaaGreatDoorGreat3
import Derived.Shelf.Sort.Plain
import Derived.Test.YtdhcigiaidlmbaaGreatDoorProg
import Derived.Sort.OwnSortedInts
import Derived.Deep.LoopGhost
import Derived.Maps.AppendAt
/- The library's sort of ints, at this program's numbers. By the verifier of shale, with the shelf's own commands. -/
namespace Go.Proofs
open Go.Shelf
def Tryz.lays189_ren : Go.Shelf.Ren := ⟨fun | 189 => 182 | 125 => 197 | 257 => 196 | 128 => 213 | 129 => 214 | 294 => 204 | 295 => 205 | 296 => 206 | 297 => 207 | 298 => 208 | 299 => 209 | 216 => 210 | 300 => 211 | 301 => 212 | 328 => 216 | 329 => 217 | 330 => 218 | 331 => 219 | 332 => 220 | 215 => 221 | 343 => 222 | n => n, fun | 28 => 65 | 3 => 3 | 46 => 67 | 0 => 0 | 51 => 172 | 53 => 194 | 4 => 4 | 183 => 257 | 182 => 256 | 131 => 261 | 5 => 5 | 9 => 9 | 218 => 265 | 222 => 126 | 228 => 270 | 229 => 134 | n => n, fun | n => n⟩
theorem Tryz.lays189 : Go.Proofs.Lays.n189 Tryz.prog Tryz.lays189_ren := {
  mixed := by kernel_rfl
  f125 := Tryz.func197.trans (congrArg some (by kernel_rfl))
  f128 := Tryz.func213.trans (congrArg some (by kernel_rfl))
  f129 := Tryz.func214.trans (congrArg some (by kernel_rfl))
  f189 := Tryz.func182.trans (congrArg some (by kernel_rfl))
  f215 := Tryz.func221.trans (congrArg some (by kernel_rfl))
  f216 := Tryz.func210.trans (congrArg some (by kernel_rfl))
  f257 := Tryz.func196.trans (congrArg some (by kernel_rfl))
  f294 := Tryz.func204.trans (congrArg some (by kernel_rfl))
  f295 := Tryz.func205.trans (congrArg some (by kernel_rfl))
  f296 := Tryz.func206.trans (congrArg some (by kernel_rfl))
  f297 := Tryz.func207.trans (congrArg some (by kernel_rfl))
  f298 := Tryz.func208.trans (congrArg some (by kernel_rfl))
  f299 := Tryz.func209.trans (congrArg some (by kernel_rfl))
  f300 := Tryz.func211.trans (congrArg some (by kernel_rfl))
  f301 := Tryz.func212.trans (congrArg some (by kernel_rfl))
  f328 := Tryz.func216.trans (congrArg some (by kernel_rfl))
  f329 := Tryz.func217.trans (congrArg some (by kernel_rfl))
  f330 := Tryz.func218.trans (congrArg some (by kernel_rfl))
  f331 := Tryz.func219.trans (congrArg some (by kernel_rfl))
  f332 := Tryz.func220.trans (congrArg some (by kernel_rfl))
  f343 := Tryz.func222.trans (congrArg some (by kernel_rfl))
  t0 := Tryz.underlying0
  a0 := Tryz.isAgg0
  z0 := Tryz.sizeOf0
  v0 := Tryz.zeroValue0
  t3 := Tryz.underlying3
  a3 := Tryz.isAgg3
  z3 := Tryz.sizeOf3
  v3 := Tryz.zeroValue3
  t4 := Tryz.underlying4
  a4 := Tryz.isAgg4
  z4 := Tryz.sizeOf4
  v4 := Tryz.zeroValue4
  t5 := Tryz.underlying5
  a5 := Tryz.isAgg5
  z5 := Tryz.sizeOf5
  v5 := Tryz.zeroValue5
  t9 := Tryz.underlying9
  a9 := Tryz.isAgg9
  z9 := Tryz.sizeOf9
  v9 := Tryz.zeroValue9
  t28 := Tryz.underlying65
  a28 := Tryz.isAgg65
  z28 := Tryz.sizeOf65
  v28 := Tryz.zeroValue65
  t46 := Tryz.underlying67
  a46 := Tryz.isAgg67
  z46 := Tryz.sizeOf67
  v46 := Tryz.zeroValue67
  t51 := Tryz.underlying172
  a51 := Tryz.isAgg172
  z51 := Tryz.sizeOf172
  v51 := Tryz.zeroValue172
  t53 := Tryz.underlying194
  a53 := Tryz.isAgg194
  z53 := Tryz.sizeOf194
  v53 := Tryz.zeroValue194
  t131 := Tryz.underlying261
  a131 := Tryz.isAgg261
  z131 := Tryz.sizeOf261
  v131 := Tryz.zeroValue261
  t182 := Tryz.underlying256
  a182 := Tryz.isAgg256
  z182 := Tryz.sizeOf256
  v182 := Tryz.zeroValue256
  t183 := Tryz.underlying257
  a183 := Tryz.isAgg257
  z183 := Tryz.sizeOf257
  v183 := Tryz.zeroValue257
  t218 := Tryz.underlying265
  a218 := Tryz.isAgg265
  z218 := Tryz.sizeOf265
  v218 := Tryz.zeroValue265
  t222 := Tryz.underlying126
  a222 := Tryz.isAgg126
  z222 := Tryz.sizeOf126
  v222 := Tryz.zeroValue126
  t228 := Tryz.underlying270
  a228 := Tryz.isAgg270
  z228 := Tryz.sizeOf270
  v228 := Tryz.zeroValue270
  t229 := Tryz.underlying134
  a229 := Tryz.isAgg134
  z229 := Tryz.sizeOf134
  v229 := Tryz.zeroValue134 }
open Go.Sort Go.RowKit in
theorem YtdhcigiaidlmbaaGreatDoor.sort_ints (blk off cap : Nat) (zs : List Int) (w : World) (hH : Holds (Value.int .i64) w blk off zs.toArray) (hblk : blk < w.heap.size) (hsz : zs.length < 4611686018427387904) :
    Calls Tryz.prog 182 #[.slice (some ⟨blk, off, none⟩) zs.length cap] w fun e w' =>
      e = .returned (.tuple #[]) ∧ ∃ n os, w' = grow (putRow (Value.int .i64) (Sort.ahead w n) blk off (zs.mergeSort fun x y => decide (x ≤ y)).toArray) os := Any.slices_Sort_int Tryz.lays189 blk off cap zs w hH hblk hsz
end Go.Proofs
/- The walk over package minimal's Coset. By the verifier of shale. -/
namespace Go.Proofs.YtdhcigiaidlmbaaGreatDoor.Cos
open Go Go.RowKit
set_option linter.unusedVariables false
/-- the remainder that a number has. -/
def rs (m : Nat) (i : Int) : Nat := (i % (sz m : Int)).toNat
theorem rs_lt {m : Nat} (hm : 3 ≤ m) (i : Int) : rs m i < sz m := by
  have h := sz_lo hm
  have h1 := Int.emod_lt_of_pos i (by omega : (0 : Int) < (sz m : Int))
  have h2 := Int.emod_nonneg i (by omega : (sz m : Int) ≠ 0)
  unfold rs; omega
theorem rs_go {m : Nat} (hm : 3 ≤ m) (i : Int) : (i.tmod (sz m : Int) + (sz m : Int)).tmod (sz m : Int) = (rs m i : Int) := by
  have h := sz_lo hm
  have h1 := Int.emod_lt_of_pos i (by omega : (0 : Int) < (sz m : Int))
  have h2 := Int.emod_nonneg i (by omega : (sz m : Int) ≠ 0)
  have e : (rs m i : Int) = i % (sz m : Int) := by unfold rs; omega
  have a1 := Int.tmod_lt_of_pos i (by omega : (0 : Int) < (sz m : Int))
  have a2 : -(sz m : Int) < i.tmod (sz m : Int) := by
    have := Int.tmod_lt_of_pos (-i) (by omega : (0 : Int) < (sz m : Int))
    rw [Int.neg_tmod] at this
    omega
  rw [Int.tmod_eq_emod_of_nonneg (by omega), Int.add_emod_right, e, Int.tmod_eq_emod]
  split
  · rw [show ((0 : Nat) : Int) = 0 from rfl, Int.sub_zero, Int.emod_emod_of_dvd _ (Int.dvd_refl _)]
  · rw [show (((sz m : Int).natAbs : Nat) : Int) = (sz m : Int) by omega, Int.sub_emod_right, Int.emod_emod_of_dvd _ (Int.dvd_refl _)]
theorem dbl_go {N x : Nat} (hN : 7 ≤ N) (hN2 : N ≤ 16383) (h : x < N) : wrap64 (2 * (x : Int)) = 2 * (x : Int) ∧ (2 * (x : Int)).tmod (N : Int) = ((2 * x % N : Nat) : Int) := by
  constructor
  · exact IntWalk.wrap64_in _ (by omega)
  · rw [Int.tmod_eq_emod_of_nonneg (by omega), Int.natCast_emod, Int.natCast_mul]; rfl
theorem own_slice {w : World} {base n : Nat} {v : Value} {l : List Int} (e : Own64 w base v n l) : ∃ a c, v = .slice a n c := by
  rcases e.2 with ⟨h0, h1⟩ | ⟨g', cap', cur, hv, _⟩
  · exact ⟨none, 0, by rw [h0, h1]⟩
  · exact ⟨_, _, hv⟩
theorem ints_length (l : List Nat) : (ints l).length = l.length := by simp [ints]
theorem ints_snoc (l : List Nat) (x : Nat) : ints (l ++ [x]) = ints l ++ [(x : Int)] := by simp [ints]
/-- the library's sort of a slice of the call's own. -/
theorem sorted_own {w : World} {base n : Nat} {a : Option Addr} {c : Nat} {l k : List Int} (h : Own64 w base (.slice a n c) n l) (hn : 0 < n) (hn2 : n ≤ 1000000) (hs : l.mergeSort (fun x y => decide (x ≤ y)) = k) (hb : base ≤ w.heap.size) :
    Calls Tryz.prog 182 #[.slice a n c] w fun e w' => e = .returned (.tuple #[]) ∧ Own64 w' base (.slice a n c) n k ∧ Below base w w' := by
  have hl := h.len
  rcases h.2 with ⟨h0, h1⟩ | ⟨g, cap, cur, hv, hbg, hh, hnc, hm, hsz, ht⟩
  · omega
  · simp only [Value.slice.injEq] at hv
    obtain ⟨rfl, _, rfl⟩ := hv
    subst hl
    rw [Nat.mul_one] at ht hsz
    have hlm : l.length ≤ maxLen := by omega
    unfold maxLen at hlm hm
    have hts : (k.map (Value.int .i64)) = cells64 k := rfl
    refine (YtdhcigiaidlmbaaGreatDoor.sort_ints g 0 c l w (Go.holds_of_blockI hh ht) (lt_of_block hh) ?_).mono ?_
    · omega
    · rintro e w' ⟨rfl, nn, os, rfl⟩
      have hkl : k.length = l.length := by rw [← hs]; exact (List.mergeSort_perm _ _).length_eq
      rw [hs]
      refine ⟨rfl, ?_, ?_⟩
      · have := Go.ownsRow_sortedI (n := nn) (os := os) (ss := l) (ts := k) hkl hbg hh hnc hm (by rw [Nat.mul_one]; exact hsz)
        exact this
      · exact (Below.refl base w).grown (Go.grownBy_sortedI k.toArray) hb (fun g' hg' => by simp only [Option.some.injEq] at hg'; omega)
set_option maxRecDepth 100000 in
set_option maxHeartbeats 1000000 in
theorem coset_any (m : Nat) (hm : 3 ≤ m) (hm2 : m ≤ 14) (i : Int) (w : World) :
    Calls Tryz.prog 167 #[.int .i64 (m : Int), .int .i64 i] w
      fun e w' => ∃ a n c, e = .returned (.tuple #[.slice a n c, .nilIface]) ∧ Own64 w' w.heap.size (.slice a n c) n (ints (cos m (rs m i))) ∧ Below w.heap.size w w' := by
  have h1 : ¬ (m : Int) < 3 := by omega
  have h2 : ¬ (14 : Int) < (m : Int) := by omega
  have hm14 : (m : Int) ≤ 14 := by omega
  have ho := Fld.shl_one m hm2
  have hn := sz_lo hm
  have hn2 := sz_hi hm2
  have hw : IntKind.i64.wrap ((Fld.els m : Int) - 1) = (sz m : Int) := by
    have : (Fld.els m : Int) - 1 = (sz m : Int) := by unfold Fld.els sz; have := Nat.two_pow_pos m; omega
    rw [this]; exact IntWalk.i64_in _ (by omega)
  have hr := rs_go hm i
  have hf := rs_lt hm i
  obtain ⟨i0, hi, hz0, hz1, hz2⟩ := info64
  have hA : wrap64 (i.tmod (sz m : Int) + (sz m : Int)) = i.tmod (sz m : Int) + (sz m : Int) := by
    have a1 := Int.tmod_lt_of_pos i (by omega : (0 : Int) < (sz m : Int))
    have a2 := Int.tmod_lt_of_pos (-i) (by omega : (0 : Int) < (sz m : Int))
    rw [Int.neg_tmod] at a2
    exact IntWalk.wrap64_in _ (by omega)
  obtain ⟨N, hN⟩ : ∃ N, N = sz m := ⟨_, rfl⟩
  obtain ⟨f, hfe⟩ : ∃ f, f = rs m i := ⟨_, rfl⟩
  rw [← hN] at hn hn2 hw hr hf hA
  rw [← hfe] at hr hf ⊢
  have HN := Lib.hid hN
  clear hN hfe
  obtain ⟨hB, hC⟩ := dbl_go hn hn2 hf
  have e1 : 2 * f % N = orb N f 1 := by rw [show 1 = 0 + 1 from rfl, orb_succ, orb_zero hf]
  rw [e1] at hC
  go_enter Tryz.func167, Tryz.ntmps167
  go_wp2_with fail
  have hb1 : Below w.heap.size w (w.alloc (.cells #[.int .i64 (f : Int)] 3 (0, 0))) := (Below.refl _ _).alloc (Nat.le_refl _) _
  have ho1 : Own64 (w.alloc (.cells #[.int .i64 (f : Int)] 3 (0, 0))) w.heap.size (.slice (some ⟨w.heap.size, 0, none⟩) 1 1) 1 (ints (lst N f 1)) := by
    have e : ints (lst N f 1) = [(f : Int)] := by
      show [((orb N f 0 : Nat) : Int)] = _
      rw [orb_zero hf]
    rw [e]
    exact ⟨rfl, Or.inr ⟨w.heap.size, 1, _, rfl, Nat.le_refl _, heap_alloc_new w _, Nat.le_refl _, by decide, rfl, rfl⟩⟩
  generalize w.alloc (.cells #[.int .i64 (f : Int)] 3 (0, 0)) = w1 at hb1 ho1 ⊢
  clear hA hB hC e1 hr hw
  go_loopg [8, 9] (m - 1) (fun gh s8 s9 wx => ∃ (j : Nat), gh = m - j ∧ 1 ≤ j ∧ j ≤ m ∧ s9 = .int .i64 ((orb N f j : Nat) : Int) ∧ Own64 wx w.heap.size s8 j (ints (lst N f j)) ∧ Hid (∀ k, 1 ≤ k → k < j → orb N f k ≠ f) ∧ Below w.heap.size w wx)
  case atStart => exact ⟨1, rfl, Nat.le_refl _, by omega, rfl, ho1, fun k a b => by omega, hb1⟩
  case round =>
    clear ho1 hb1
    obtain ⟨j, hg, hj1, hjm, rfl, ho5, HA, hB5⟩ := hrel
    have HG := Lib.hid hg
    clear hg
    obtain ⟨av, cv, rfl⟩ := own_slice ho5
    have hbs := hB5.size
    by_cases he : orb N f j = f
    · have HP : IsPer N f j := ⟨hj1, he, HA.out⟩
      have hs := by have := sorted_cos (d := j) hm (by rw [← HN.out]; exact hf) (by rw [← HN.out]; exact HP); rw [← HN.out] at this; exact this
      have t1 : (((orb N f j : Nat) : Int) == (f : Int)) = true := by rw [beq_iff_eq, he]
      clear HA he HP
      generalize ((orb N f j : Nat) : Int) = z at t1
      go_wp2_with fail
      refine (sorted_own ho5 hj1 (by omega) hs hbs).mono ?_
      rintro e w2 ⟨rfl, ho6, b6⟩
      have HB := Lib.hid (hB5.trans b6)
      have HO := Lib.hid ho6
      clear ho5 hB5 ho6 b6
      go_wp2_with fail
      go_ret2
      exact ⟨av, j, cv, rfl, HO.out, HB.out⟩
    · have hjm' : j ≠ m := fun e => he (by rw [e, HN.out]; exact orb_m (by rw [← HN.out]; exact hf))
      have t1 : (((orb N f j : Nat) : Int) == (f : Int)) = false := by rw [beq_eq_false_iff_ne]; omega
      have HA2 : Hid (∀ k, 1 ≤ k → k < j + 1 → orb N f k ≠ f) := fun k a b => by
        by_cases e : k = j
        · rw [e]; exact he
        · exact HA.out k a (by omega)
      obtain ⟨hB, hC⟩ := dbl_go hn hn2 (orb_lt (by omega : 0 < N) f j)
      rw [← orb_succ] at hC
      have HF : Hid (ints (lst N f (j + 1)) = ints (lst N f j) ++ [((orb N f j : Nat) : Int)]) := by
        show _ = _
        rw [lst_succ, ints_snoc]
      clear HA he
      generalize ((orb N f j : Nat) : Int) = z at t1 hB hC HF ⊢
      go_wp2_with (at_builtin; refine wpList_append_own _ rfl _ _ 65 rfl w.heap.size 3 i0 (.int .i64 0) 1 8 Tryz.underlying65 hi hz0 hz1 hz2 rfl (by decide) _ j _ rfl (World.ownsRow.alloc ho5 _) ⟨wr.heap.size, 0, none⟩ 1 1 [.int .i64 z] rfl rfl (cell_one_new _ _ _) (ints_oneCell .i64 [_]) (by unfold maxLen; omega) (by omega) (by simp; omega) ?_; intro v7 w7 hown7 hgrow _)
      have ho7 : Own64 w7 w.heap.size v7 (j + 1) (ints (lst N f (j + 1))) := by
        unfold Own64
        rw [HF.out, ← cells64_append]
        exact hown7
      have b7 : Below w.heap.size w w7 := (hB5.alloc hbs _).grown hgrow (by simp; omega) (fun g hg => (ho5.block g hg).1)
      clear hown7 hgrow ho5 hB5
      go_wp2_with fail
      go_roundg (m - (j + 1))
      case measure => have := HG.out; omega
      case rel => exact ⟨j + 1, rfl, by omega, by omega, rfl, ho7, HA2, b7⟩
end Go.Proofs.YtdhcigiaidlmbaaGreatDoor.Cos
/- The walk over package minimal's cosets. By the verifier of shale. -/
namespace Go.Proofs.YtdhcigiaidlmbaaGreatDoor.Cos
open Go Go.RowKit
set_option linter.unusedVariables false
/-- is x in a coset of one of these? -/
def cov (m : Nat) (fs : List Nat) (x : Nat) : Bool := fs.any fun f => (cos m f).contains x
/-- the unlike cosets of a, a + s, .. (k numbers), each by the remainder that it is met at. -/
def leads (m a s : Nat) : Nat → List Nat
  | 0 => []
  | k + 1 => if cov m (leads m a s k) ((a + s * k) % sz m) then leads m a s k else leads m a s k ++ [(a + s * k) % sz m]
theorem cov_snoc (m : Nat) (fs : List Nat) (f x : Nat) : cov m (fs ++ [f]) x = (cov m fs x || (cos m f).contains x) := by simp [cov]
theorem leads_lt {m : Nat} (hm : 3 ≤ m) (a s : Nat) : ∀ k f, f ∈ leads m a s k → f < sz m
  | 0, f, h => by simp [leads] at h
  | k + 1, f, h => by
    have hp := sz_lo hm
    simp only [leads] at h
    split at h
    · exact leads_lt hm a s k f h
    · rcases List.mem_append.1 h with h | h
      · exact leads_lt hm a s k f h
      · simp at h; rw [h]; exact Nat.mod_lt _ (by omega)
theorem leads_le (m a s : Nat) : ∀ k, (leads m a s k).length ≤ k
  | 0 => Nat.le_refl _
  | k + 1 => by
    have := leads_le m a s k
    simp only [leads]
    split
    · omega
    · simp; omega
/-- a list of cosets that the call itself makes. -/
structure CRow (w : World) (sb m : Nat) (v : Value) (n : Nat) (fs : List Nat) (vs : List Value) : Prop where
  own : w.ownsRow (sb + 1) 65 1 v n vs
  len : fs.length = n
  each : ∀ k, k < n → ∃ g c, vs[k]? = some (.slice (some ⟨g, 0, none⟩) (cos m (fs.getD k 0)).length c) ∧ Pl.RowZ w (some ⟨g, 0, none⟩) (cos m (fs.getD k 0)).length c (ints (cos m (fs.getD k 0))) ∧ sb < g ∧ v.ownBlock ≠ some g
theorem own_block {w : World} {base n : Nat} {v : Value} {vs : List Value} {e : TypeId} (h : w.ownsRow base e 1 v n vs) : ∀ g, v.ownBlock = some g → base ≤ g ∧ g < w.heap.size := by
  intro g hg
  rcases h.2 with ⟨h0, _⟩ | ⟨g', cap', cur, hv, hbg, hh, _⟩
  · rw [h0] at hg; cases hg
  · rw [hv] at hg
    simp only [Value.ownBlock, Option.some.injEq] at hg
    subst hg
    exact ⟨hbg, lt_of_block hh⟩
theorem row_keep {w w' : World} {g n c : Nat} {l : List Int} (h : Pl.RowZ w (some ⟨g, 0, none⟩) n c l) (hk : w'.heap[g]? = w.heap[g]?) (hs : w.heap.size ≤ w'.heap.size) : Pl.RowZ w' (some ⟨g, 0, none⟩) n c l :=
  ⟨h.hlen, h.hcap, h.hmost, fun i hi => by
    obtain ⟨bb, off, e, hc, hb⟩ := h.row i hi
    simp only [Option.some.injEq, Addr.mk.injEq] at e
    obtain ⟨rfl, rfl, _⟩ := e
    exact ⟨g, 0, rfl, (World.cell?_of_block (w := w) hk).trans hc, Nat.lt_of_lt_of_le hb hs⟩⟩
theorem CRow.keep {w w' : World} {sb m n : Nat} {v : Value} {fs : List Nat} {vs : List Value} (h : CRow w sb m v n fs vs) (hk : ∀ g, sb < g → g < w.heap.size → w'.heap[g]? = w.heap[g]?) (hs : w.heap.size ≤ w'.heap.size) (hne : ∀ k, k < n → cos m (fs.getD k 0) ≠ []) : CRow w' sb m v n fs vs := by
  refine ⟨⟨h.own.1, ?_⟩, h.len, fun k hkn => ?_⟩
  · rcases h.own.2 with h0 | ⟨g', cap', cur, hv, hbg, hh, r⟩
    · exact Or.inl h0
    · exact Or.inr ⟨g', cap', cur, hv, hbg, by rw [hk g' (by omega) (lt_of_block hh)]; exact hh, r⟩
  · obtain ⟨g, c, e, hr, hg, ho⟩ := h.each k hkn
    have hlt : g < w.heap.size := by
      have : 0 < (cos m (fs.getD k 0)).length := List.length_pos_iff.2 (hne k hkn)
      obtain ⟨bb, off, e2, _, hb⟩ := hr.row 0 this
      simp only [Option.some.injEq, Addr.mk.injEq] at e2
      omega
    exact ⟨g, c, e, row_keep hr (hk g hg hlt) hs, hg, ho⟩
theorem cos_ne {m f : Nat} (hm : 3 ≤ m) (hf : f < sz m) : cos m f ≠ [] := fun e => by have := cos_first hm hf; rw [e] at this; simp at this
theorem cos_len_le {m f : Nat} (hm : 3 ≤ m) (hf : f < sz m) : (cos m f).length ≤ m := by
  obtain ⟨d, hd⟩ := per_exists hm hf
  rw [cos_length hm hf hd]; exact per_le hm hf hd
set_option maxRecDepth 100000 in
theorem infoS : ∃ i, Tryz.prog.info? 65 = some i ∧ i.zero = some (.slice none 0 0) ∧ i.size = 1 ∧ i.bytes = 24 :=
  info_parts (show (Tryz.prog.info? 65).map (fun i => (i.zero, i.size, i.bytes)) = some (some (.slice none 0 0), 1, 24) by kernel_rfl)
theorem getD_lt {l : List Nat} {k : Nat} (h : k < l.length) : l.getD k 0 ∈ l := by
  rw [List.getD_eq_getElem?_getD, List.getElem?_eq_getElem h]; exact List.getElem_mem h
theorem getD_snoc_lt {l : List Nat} {x k : Nat} (h : k < l.length) : (l ++ [x]).getD k 0 = l.getD k 0 := by
  rw [List.getD_eq_getElem?_getD, List.getD_eq_getElem?_getD, List.getElem?_append_left h]
theorem getD_snoc_eq (l : List Nat) (x : Nat) : (l ++ [x]).getD l.length 0 = x := by
  rw [List.getD_eq_getElem?_getD, List.getElem?_append_right (Nat.le_refl _), Nat.sub_self]; rfl
set_option maxRecDepth 100000 in
set_option maxHeartbeats 1000000 in
theorem cosets_any (m a s cnt : Nat) (b : Int) (hm : 3 ≤ m) (hm2 : m ≤ 14) (hs1 : s ≤ 1000) (hc1 : ∀ k, k < cnt → ((a + s * k : Nat) : Int) ≤ b) (hc2 : b < ((a + s * cnt : Nat) : Int)) (hbig : a + s * cnt ≤ 100000) (hcnt : cnt ≤ 100000) (w : World) :
    Calls Tryz.prog 163 #[.int .i64 (m : Int), .int .i64 (a : Int), .int .i64 b, .int .i64 (s : Int)] w
      fun e w' => ∃ v n vs, e = .returned v ∧ CRow w' w.heap.size m v n (leads m a s cnt) vs ∧ Below w.heap.size w w' := by
  have hm14 : (m : Int) ≤ 14 := by omega
  have ho := Fld.shl_one m hm2
  have hn := sz_lo hm
  have hn2 := sz_hi hm2
  have hw : IntKind.i64.wrap ((Fld.els m : Int) - 1) = (sz m : Int) := by
    have : (Fld.els m : Int) - 1 = (sz m : Int) := by unfold Fld.els sz; have := Nat.two_pow_pos m; omega
    rw [this]; exact IntWalk.i64_in _ (by omega)
  obtain ⟨iS, hiS, hzS0, hzS1, hzS2⟩ := infoS
  obtain ⟨N, hN⟩ : ∃ N, N = sz m := ⟨_, rfl⟩
  rw [← hN] at hn hn2 hw
  have HN := Lib.hid hN
  clear hN
  have hmk := madeB w N (by omega)
  go_enter Tryz.func163, Tryz.ntmps163
  go_wp2_with fail
  have hb1 : Below w.heap.size w (w.alloc (objB (List.replicate N false))) := (Below.refl _ _).alloc (Nat.le_refl _) _
  have hf1 : BF (w.alloc (objB (List.replicate N false))) w.heap.size N (cov m (leads m a s 0)) := (BF.new w N).of fun i hi => by simp [leads, cov]
  have hc0 : CRow (w.alloc (objB (List.replicate N false))) w.heap.size m (.slice none 0 0) 0 (leads m a s 0) [] := ⟨⟨rfl, Or.inl ⟨rfl, rfl⟩⟩, rfl, fun k hk => by omega⟩
  clear hmk hw ho
  generalize w.alloc (objB (List.replicate N false)) = w1 at hb1 hf1 hc0 ⊢
  have HC1 := Lib.hid hc1
  have HC2 := Lib.hid hc2
  clear hc1 hc2
  go_loopg [9, 11] cnt (fun gh s9 s11 wx => ∃ (k n : Nat) (vs : List Value), gh = cnt - k ∧ k ≤ cnt ∧ s11 = .int .i64 ((a + s * k : Nat) : Int) ∧ CRow wx w.heap.size m s9 n (leads m a s k) vs ∧ BF wx w.heap.size N (cov m (leads m a s k)) ∧ Below w.heap.size w wx)
  case atStart => exact ⟨0, 0, [], rfl, Nat.zero_le _, by rw [Nat.mul_zero, Nat.add_zero], hc0, hf1, hb1⟩
  case round =>
    clear hc0 hf1 hb1
    obtain ⟨k, n, vs, hg, hk, rfl, hC, hF, hB⟩ := hrel
    have HG := Lib.hid hg
    clear hg
    obtain ⟨I, hI⟩ : ∃ I, I = a + s * k := ⟨_, rfl⟩
    rw [← hI]
    have hnk : n ≤ k := by have := leads_le m a s k; have := hC.len; omega
    have hbs := hB.size
    have hIb : I ≤ 100000 := by
      have : s * k ≤ s * cnt := Nat.mul_le_mul_left s hk
      omega
    by_cases hlt : k < cnt
    · have t1 : decide ((I : Int) ≤ b) = true := decide_eq_true (by rw [hI]; exact HC1.out k hlt)
      have hI2 : a + s * (k + 1) = I + s := by rw [hI, Nat.mul_add]; omega
      have e1 : (I : Int).tmod (N : Int) = ((I % N : Nat) : Int) := by rw [Int.tmod_eq_emod_of_nonneg (by omega), Int.natCast_emod]
      have hx : I % N < N := Nat.mod_lt _ (by omega)
      have d1 := hF.cell hx
      have hrs : rs m (I : Int) = I % N := by unfold rs; rw [← HN.out, ← Int.natCast_emod]; rfl
      have HL : Hid (leads m a s (k + 1) = if cov m (leads m a s k) (I % N) then leads m a s k else leads m a s k ++ [I % N]) := by
        show _ = _
        rw [leads, ← hI, ← HN.out]
      have HI := Lib.hid hI
      have HI2 := Lib.hid hI2
      obtain ⟨x, hxe⟩ : ∃ x, x = I % N := ⟨_, rfl⟩
      rw [← hxe] at e1 hx d1 hrs HL
      clear hI hI2 hxe
      have x0 : (0 : Int) ≤ (x : Int) := by omega
      have x1 : (x : Int) < (N : Int) := by omega
      by_cases hcv : cov m (leads m a s k) x = true
      · rw [hcv] at d1
        have HL2 : Hid (leads m a s (k + 1) = leads m a s k) := by show _ = _; rw [HL.out, if_pos hcv]
        clear hcv HL
        have HCC := Lib.hid hC
        have HFF := Lib.hid hF
        clear hC hF
        go_wp2_with fail
        go_roundg (cnt - (k + 1))
        case measure => have := HG.out; omega
        case rel => exact ⟨k + 1, n, vs, rfl, by omega, by rw [HI2.out]; go_num, by rw [HL2.out]; exact HCC.out, by rw [HL2.out]; exact HFF.out, hB⟩
      · have hcv' : cov m (leads m a s k) x = false := by cases h : cov m (leads m a s k) x <;> simp_all
        rw [hcv'] at d1
        have HL2 : Hid (leads m a s (k + 1) = leads m a s k ++ [x]) := by show _ = _; rw [HL.out, if_neg hcv]
        clear hcv HL hcv'
        have HCC := Lib.hid hC
        have HFF := Lib.hid hF
        clear hC hF
        go_wp2_with fail
        refine (coset_any m hm hm2 (I : Int) wr).mono ?_
        rintro e w5 ⟨a5, n5, c5, rfl, hO, b5⟩
        rw [hrs] at hO
        have hxs : x < sz m := by rw [← HN.out]; exact hx
        have hlen := hO.len
        rw [ints_length] at hlen
        have hpos : 0 < (cos m x).length := List.length_pos_iff.2 (cos_ne hm hxs)
        have hle := cos_len_le hm hxs
        obtain ⟨hrow, hfr⟩ := Pl.own_rowz hO
        obtain ⟨bb, off, rfl, _, hbb⟩ := hrow.row 0 (by omega)
        have hgb : wr.heap.size ≤ bb := hfr bb off rfl
        obtain rfl : off = 0 := by
          rcases hO.2 with ⟨h0, h1⟩ | ⟨g', cap', cur, hv, _⟩
          · simp at h0
          · simp only [Value.slice.injEq, Option.some.injEq, Addr.mk.injEq] at hv; exact hv.1.2.1
        obtain rfl : n5 = (cos m x).length := hlen.symm
        have hFs : w.heap.size < wr.heap.size := HFF.out.lt
        have hF5 : BF w5 w.heap.size N (fun y => cov m (leads m a s k) y || ((cos m x).take 0).contains y) := by
          refine BF.of (p := cov m (leads m a s k)) ((b5.block _ hFs).trans HFF.out) fun i hi => by simp
        have hne : ∀ j, j < n → cos m ((leads m a s k).getD j 0) ≠ [] := fun j hj => cos_ne hm (leads_lt hm a s k _ (getD_lt (by rw [HCC.out.len]; exact hj)))
        have HNE := Lib.hid hne
        have hC5 : CRow w5 w.heap.size m u9 n (leads m a s k) vs := HCC.out.keep (fun g h1 h2 => b5.block g h2) b5.size hne
        have hB5 := hB.trans (b5.mono hbs)
        have hO9 : ∀ g, u9.ownBlock = some g → g < wr.heap.size := fun g hg => (own_block HCC.out.own g hg).2
        have HO9 := Lib.hid hO9
        have HXS := Lib.hid hxs
        have HFS := Lib.hid hFs
        have HHB := Lib.hid hgb
        clear hO hlen hfr hbb b5 hne hO9 HCC HFF hB hxs d1 hgb hFs
        go_wp2_with fail
        go_loopg [44] (cos m x).length (fun gh s44 wx => ∃ (j : Nat), gh = (cos m x).length - j ∧ j ≤ (cos m x).length ∧ s44 = .int .i64 (j : Int) ∧ BF wx w.heap.size N (fun y => cov m (leads m a s k) y || ((cos m x).take j).contains y) ∧ CRow wx w.heap.size m u9 n (leads m a s k) vs ∧ Pl.RowZ wx (some ⟨bb, 0, none⟩) (cos m x).length c5 (ints (cos m x)) ∧ Below w.heap.size w wx ∧ bb < wx.heap.size)
        case atStart => exact ⟨0, rfl, Nat.zero_le _, rfl, hF5, hC5, hrow, hB5, by
          obtain ⟨b', o', e', _, hb'⟩ := hrow.row 0 hpos
          simp only [Option.some.injEq, Addr.mk.injEq] at e'
          omega⟩
        case round =>
          clear hF5 hC5 hrow hB5
          obtain ⟨j, hg, hj, rfl, hF, hC, hrow, hB, hbw⟩ := hrel
          have HG2 := Lib.hid hg
          clear hg
          by_cases hlt2 : j < (cos m x).length
          · have v1 : (j : Int) < ((cos m x).length : Int) := by omega
            have v0 : (0 : Int) ≤ (j : Int) := by omega
            obtain ⟨y, hy⟩ : ∃ y, y = (cos m x).getD j 0 := ⟨_, rfl⟩
            have hyc : y ∈ cos m x := by rw [hy]; exact getD_lt hlt2
            have hyN : y < N := by rw [HN.out]; exact ((mem_cos y).1 hyc).1
            have d1 : wr.cell? ⟨bb, j, none⟩ = some (.int .i64 (y : Int)) := by
              obtain ⟨b', o', e', hc', _⟩ := hrow.row j hlt2
              simp only [Option.some.injEq, Addr.mk.injEq] at e'
              obtain ⟨rfl, rfl, _⟩ := e'
              rw [Nat.zero_add] at hc'
              rw [hc', hy]
              unfold ints
              rw [List.getD_eq_getElem?_getD, List.getElem?_map, List.getD_eq_getElem?_getD, List.getElem?_eq_getElem hlt2]
              rfl
            have d2 := hF.cell hyN
            have d3 := hF.free y
            have y0 : (0 : Int) ≤ (y : Int) := by omega
            have y1 : (y : Int) < (N : Int) := by omega
            have HNF : Hid (BF (wr.setCell ⟨w.heap.size, y, none⟩ (.bool true)) w.heap.size N (fun z => cov m (leads m a s k) z || ((cos m x).take (j + 1)).contains z)) := by
              refine (hF.set y).of fun i hi => ?_
              have e : (cos m x).take (j + 1) = (cos m x).take j ++ [y] := by rw [List.take_add_one, hy, List.getD_eq_getElem?_getD, List.getElem?_eq_getElem hlt2]; rfl
              rw [e]
              simp [Bool.or_assoc]
            have HNC : Hid (CRow (wr.setCell ⟨w.heap.size, y, none⟩ (.bool true)) w.heap.size m u9 n (leads m a s k) vs) := hC.keep (fun g h1 h2 => Below.heap_setCell _ _ _ _ (by show g ≠ w.heap.size; omega)) (by show wr.heap.size ≤ (wr.heap.modify _ _).size; rw [Array.size_modify]; exact Nat.le_refl _) HNE.out
            have HNR : Hid (Pl.RowZ (wr.setCell ⟨w.heap.size, y, none⟩ (.bool true)) (some ⟨bb, 0, none⟩) (cos m x).length c5 (ints (cos m x))) := row_keep hrow (Below.heap_setCell _ _ _ _ (by show bb ≠ w.heap.size; have := HFS.out; have := HHB.out; omega)) (by show wr.heap.size ≤ (wr.heap.modify _ _).size; rw [Array.size_modify]; exact Nat.le_refl _)
            have HNB : Hid (Below w.heap.size w (wr.setCell ⟨w.heap.size, y, none⟩ (.bool true))) := hB.setCell (p := ⟨w.heap.size, y, none⟩) (Nat.le_refl _) _
            have HBW : Hid (bb < (wr.setCell ⟨w.heap.size, y, none⟩ (.bool true)).heap.size) := by show bb < (wr.heap.modify _ _).size; rw [Array.size_modify]; exact hbw
            generalize (cov m (leads m a s k) y || ((cos m x).take j).contains y) = bv at d2
            clear hF hC hrow hB hbw hyc hy hyN
            go_wp2_with fail
            go_roundg ((cos m x).length - (j + 1))
            case measure => have := HG2.out; omega
            case rel => exact ⟨j + 1, rfl, by omega, by go_num, HNF.out, HNC.out, HNR.out, HNB.out, HBW.out⟩
          · obtain rfl : j = (cos m x).length := by omega
            have hFF : BF wr w.heap.size N (cov m (leads m a s (k + 1))) := hF.of fun i hi => by rw [HL2.out, cov_snoc, List.take_length]
            have HFF := Lib.hid hFF
            have HC := Lib.hid hC
            have HRow := Lib.hid hrow
            have hbs2 := hB.size
            have hown := hC.own
            clear hF hFF hC hrow HG2 hlt2
            go_wp2_with (at_builtin; refine wpList_append_own_at _ rfl _ _ 187 rfl (w.heap.size + 1) 65 iS (.slice none 0 0) 1 24 Tryz.underlying187 hiS hzS0 hzS1 hzS2 rfl (by decide) _ n _ rfl (World.ownsRow.alloc hown _) ⟨wr.heap.size, 0, none⟩ 1 1 [.slice (some ⟨bb, 0, none⟩) (cos m x).length c5] rfl rfl (cell_one_new _ _ _) (by intro u hu; simp at hu; subst hu; rfl) (by unfold maxLen; omega) (by omega) (by simp; have := HFS.out; omega) ?_; intro v7 w7 hown7 hgrow _ hob)
            have hsz : (wr.alloc (.cells #[.slice (some ⟨bb, 0, none⟩) (cos m x).length c5] 65 (0, 0))).heap.size = wr.heap.size + 1 := Array.size_push _
            have hk7 : ∀ g, g < wr.heap.size → u9.ownBlock ≠ some g → w7.heap[g]? = wr.heap[g]? := fun g h1 h2 => by
              rw [hgrow.block g (by rw [hsz]; omega) (fun e => h2 e.symm)]
              exact ((Below.refl wr.heap.size wr).alloc (Nat.le_refl _) _).block g h1
            have hs7 : wr.heap.size ≤ w7.heap.size := by have := hgrow.size; rw [hsz] at this; omega
            have hB7 : Below w.heap.size w w7 := (hB.alloc hbs2 _).grown hgrow (by rw [hsz]; omega) (fun g hg => by have := (own_block HC.out.own g hg).1; omega)
            have hb7 : BF w7 w.heap.size N (cov m (leads m a s (k + 1))) := (hk7 _ HFF.out.lt (fun e => by have := (own_block HC.out.own _ e).1; omega)).trans HFF.out
            have hv7 : ∀ g, g < wr.heap.size → u9.ownBlock ≠ some g → v7.ownBlock ≠ some g := fun g h1 h2 => by
              rcases hob with h | h
              · rw [h]; exact h2
              · rw [h, hsz]
                intro e
                simp only [Option.some.injEq] at e
                omega
            have hu9 : u9.ownBlock ≠ some bb := fun e => by have := HO9.out bb e; have := HHB.out; omega
            have hC7 : CRow w7 w.heap.size m v7 (n + 1) (leads m a s (k + 1)) (vs ++ [.slice (some ⟨bb, 0, none⟩) (cos m x).length c5]) := by
              have hvl : vs.length = n := by have := HC.out.own.1; omega
              refine ⟨hown7, by rw [HL2.out, List.length_append, HC.out.len]; rfl, fun i hi => ?_⟩
              rw [HL2.out]
              by_cases hin : i < n
              · obtain ⟨g, c, e, hr, hg, ho⟩ := HC.out.each i hin
                rw [getD_snoc_lt (by rw [HC.out.len]; exact hin), List.getElem?_append_left (by rw [hvl]; exact hin)]
                have hgl : g < wr.heap.size := by
                  obtain ⟨b', o', e', _, hb'⟩ := hr.row 0 (List.length_pos_iff.2 (HNE.out i hin))
                  simp only [Option.some.injEq, Addr.mk.injEq] at e'
                  omega
                exact ⟨g, c, e, row_keep hr (hk7 g hgl ho) hs7, hg, hv7 g hgl ho⟩
              · obtain rfl : i = n := by omega
                have hx : (leads m a s k ++ [x]).getD i 0 = x := by
                  have := getD_snoc_eq (leads m a s k) x
                  rwa [HC.out.len] at this
                rw [hx]
                exact ⟨bb, c5, by rw [List.getElem?_append_right (by omega), hvl, Nat.sub_self]; rfl, row_keep HRow.out (hk7 bb hbw hu9) hs7, by have := HFS.out; have := HHB.out; omega, hv7 bb hbw hu9⟩
            clear hown7 hgrow hob hk7 hv7 hown hB HC HRow HFF
            have HC7 := Lib.hid hC7
            have Hb7 := Lib.hid hb7
            clear hC7 hb7
            go_wp2_with fail
            go_roundg (cnt - (k + 1))
            case measure => have := HG.out; omega
            case rel => exact ⟨k + 1, n + 1, _, rfl, by omega, by rw [HI2.out]; go_num, HC7.out, Hb7.out, hB7⟩
    · obtain rfl : k = cnt := by omega
      have t1 : decide ((I : Int) ≤ b) = false := decide_eq_false (by have := HC2.out; rw [← hI] at this; omega)
      have HCC := Lib.hid hC
      clear hC hF hI
      go_wp2_with fail
      go_ret
      exact ⟨_, n, vs, rfl, HCC.out, hB⟩
end Go.Proofs.YtdhcigiaidlmbaaGreatDoor.Cos
/- The walk over package minimal's product: the product of x + a^j. By the verifier of shale. -/
namespace Go.Proofs.YtdhcigiaidlmbaaGreatDoor.Cos
open Go Go.RowKit Fld Bits16 Pl
set_option linter.unusedVariables false
section
variable {m : Nat} [M : Mid m]
/-- a to the j-th, as an element. -/
def xe (m : Nat) [M : Mid m] (j : Nat) : El m := ⟨pwZ m (j : Int), pwZ_lt m M.lo M.hi _⟩
/-- the powers that a list of exponents names, as numbers. -/
def exl (m : Nat) [M : Mid m] (l : List Nat) : List Int := l.map fun j => zn (xe m j)
theorem exl_at (l : List Nat) (k : Nat) (h : k < l.length) : elm m ((exl m l).getD k 0) = xe m (l.getD k 0) := by
  unfold exl
  rw [List.getD_eq_getElem?_getD, List.getElem?_map, List.getD_eq_getElem?_getD, List.getElem?_eq_getElem h]
  exact elm_zn _
theorem sr_lin (e : El m) : sr m [zn e, 1] = lin e := by
  funext i
  show elm m (([zn e, 1] : List Int).getD i 0) = if i = 0 then e else if i = 1 then 1 else 0
  rcases i with _ | _ | i
  · exact elm_zn e
  · rw [if_neg (by omega), if_pos rfl]; exact elm_zn (1 : El m)
  · rw [if_neg (by omega), if_neg (by omega)]; exact elm_zero
theorem lit_row (w W : World) (l : List Int) (n : Nat) (hn : n = l.length) (hm : n ≤ 1000) (hW : W = w.alloc (obj64 l)) : RowZ W (some ⟨w.heap.size, 0, none⟩) n n l ∧ Below w.heap.size w W := by
  subst hW
  refine ⟨?_, (Below.refl _ _).alloc (Nat.le_refl _) _⟩
  subst hn
  exact Pl.Blk64.rowz (Blk64.new w l) (by omega)
set_option maxRecDepth 100000 in
set_option maxHeartbeats 1000000 in
theorem product_any {s be ce bl : Nat} (a : Option Addr) (n cap : Nat) (l : List Nat) (w : World) (F : FldAt m w s be ce bl) (h : RowZ w a n cap (ints l)) (hn : n ≤ 20) :
    Calls Tryz.prog 169 #[.pointer (some ⟨s, 0, none⟩), .slice a n cap, .func (.func 170) #[] #[]] w
      fun e w' => ∃ a' n' c', e = .returned (.slice a' n' c') ∧ NV m w' (n + 1) a' n' c' (pls (exl m l) n) ∧ Below w.heap.size w w' := by
  have HLen : Hid (n = l.length) := by have := h.hlen; rwa [ints_length] at this
  go_enter Tryz.func169, Tryz.ntmps169
  go_wp2_with fail
  refine (pnew_any w F).mono ?_
  rintro e w1 ⟨g, rfl, R, B⟩
  replace h := h.below B
  clear F
  go_wp2_with fail
  generalize hw : w1.alloc (.cells #[.int .i64 1] 3 (0, 0)) = w2
  obtain ⟨hr, b⟩ := lit_row w1 w2 [1] 1 rfl (by decide) hw.symm
  clear hw
  replace h := h.below b
  replace R := R.below b
  replace B := B.trans (b.mono B.size)
  have e0 : nums (pls (m := m) (exl m l) 0) 1 = [1] := by
    show [zn (pls (m := m) (exl m l) 0 0)] = [1]
    have e : pls (m := m) (exl m l) 0 0 = 1 := by show (if (0 : Nat) = 0 then (1 : El m) else 0) = 1; rw [if_pos rfl]
    rw [e]; rfl
  have P : NV m w2 1 (some ⟨w1.heap.size, 0, none⟩) 1 1 (pls (exl m l) 0) := ⟨by rw [e0]; exact hr, pls_bd _ 0, top_dg' (pls_bd _ 0) (pls_dg _ 0), Nat.le_refl _⟩
  clear hr b e0
  generalize (some ⟨w1.heap.size, 0, none⟩ : Option Addr) = ap at P ⊢
  have HS : Hid (RingAt m w2 g s be ce bl ∧ RowZ w2 a n cap (ints l) ∧ Below w.heap.size w w2) := ⟨R, h, B⟩
  have HP := Lib.hid P
  clear R h B P
  go_wp2_with fail
  go_loopg [8, 18] n (fun gh s8 s18 wx => ∃ (k : Nat) (ax : Option Addr) (nx cx : Nat), gh = n - k ∧ k ≤ n ∧ s18 = .int .i64 (k : Int) ∧ s8 = .slice ax nx cx ∧ Hid (NV m wx (k + 1) ax nx cx (pls (exl m l) k)) ∧ Hid (RingAt m wx g s be ce bl ∧ RowZ wx a n cap (ints l) ∧ Below w.heap.size w wx))
  case atStart => exact ⟨0, ap, 1, 1, rfl, Nat.zero_le _, rfl, rfl, HP, HS⟩
  case round =>
    clear HP HS
    obtain ⟨k, ax, nx, cx, hg, hk, rfl, rfl, HP, HS⟩ := hrel
    have HG := Lib.hid hg
    clear hg
    by_cases hlt : k < n
    · have x1 : (k : Int) < (n : Int) := by omega
      have x0 : (0 : Int) ≤ (k : Int) := by omega
      obtain ⟨bb, off, rfl, d1, _⟩ := HS.out.2.1.row k hlt
      have hkl : k < l.length := by rw [← HLen.out]; exact hlt
      have d2 : (ints l).getD k 0 = ((l.getD k 0 : Nat) : Int) := by
        unfold ints
        rw [List.getD_eq_getElem?_getD, List.getElem?_map, List.getD_eq_getElem?_getD, List.getElem?_eq_getElem hkl]; rfl
      rw [d2] at d1
      have HX : Hid (elm m ((exl m l).getD k 0) = xe m (l.getD k 0)) := exl_at l k hkl
      generalize l.getD k 0 = j at d1 HX
      have R := HS.out.1
      have Hr := HS.out.2.1
      have B := HS.out.2.2
      have P := HP.out.pol
      clear d2 HS HP
      go_wp2_with fail
      refine (fexp_any M.lo M.hi (j : Int) wr R.2).mono ?_
      rintro e w' ⟨rfl, rfl⟩
      rw [show Bits16.h (pwZ m (j : Int)) = zn (xe m j) from rfl]
      clear d1
      go_wp2_with fail
      generalize hw : wr.alloc (.cells #[.int .i64 (zn (xe m j)), .int .i64 1] 3 (0, 0)) = w4
      obtain ⟨hr, b⟩ := lit_row wr w4 [zn (xe m j), 1] 2 rfl (by decide) hw.symm
      clear hw
      replace Hr := Hr.below b
      replace R := R.below b
      replace B := B.trans (b.mono B.size)
      replace P := P.below b
      have Q : PV m w4 2 (some ⟨wr.heap.size, 0, none⟩) 2 2 (lin (xe m j)) := ⟨_, hr, sr_lin _, Nat.le_refl _⟩
      clear hr b
      refine (mulV R (k + 1 + 2) P Q (Nat.le_refl _) (by omega)).mono ?_
      rintro e w5 ⟨a5, n5, c5, rfl, h5, b⟩
      have HP5 : Hid (NV m w5 (k + 1 + 1) a5 n5 c5 (pls (exl m l) (k + 1))) := by
        have e : pls (exl m l) (k + 1) = cv (pls (exl m l) k) (lin (xe m j)) := by show cv _ (lin (elm m ((exl m l).getD k 0))) = _; rw [HX.out]
        rw [e]
        refine ⟨h5.row, h5.bd, h5.top, ?_⟩
        rw [← h5.top, top_same h5.bd (e ▸ pls_bd (exl m l) (k + 1))]
        exact top_le _ _
      have HS5 : Hid (RingAt m w5 g s be ce bl ∧ RowZ w5 (some ⟨bb, off, none⟩) n cap (ints l) ∧ Below w.heap.size w w5) := ⟨R.below b, Hr.below b, B.trans (b.mono B.size)⟩
      clear h5 b R Hr B P Q
      go_wp2_with fail
      go_roundg (n - (k + 1))
      case measure => have := HG.out; omega
      case rel => exact ⟨k + 1, a5, n5, c5, rfl, by omega, by go_num, rfl, HP5, HS5⟩
    · obtain rfl : k = n := by omega
      go_wp2_with fail
      go_ret
      exact ⟨ax, nx, cx, rfl, HP.out, HS.out.2.2⟩
end
end Go.Proofs.YtdhcigiaidlmbaaGreatDoor.Cos
/- A product of x + a^j over a coset has coefficients 0 and 1. By the verifier of shale. -/
namespace Go.Proofs.YtdhcigiaidlmbaaGreatDoor.Cos
open Go Pl
set_option linter.unusedVariables false
section
variable {m : Nat} [M : Mid m]
theorem sq_add (a b : El m) : (a + b) * (a + b) = a * a + b * b := by
  rw [Fl.mul_add, Pl.add_mul, Pl.add_mul, Fl.mul_comm b a, Fl.add_assoc, ← Fl.add_assoc (a * b), Fl.add_self, Pl.zero_add]
def fro (P : Ser (El m)) : Ser (El m) := fun i => P i * P i
theorem fro_cv (P Q : Ser (El m)) : fro (cv P Q) = cv (fro P) (fro Q) := by
  funext n
  show cv P Q n * cv P Q n = cv (fro P) (fro Q) n
  have sq : ∀ a b : El m, (a * b) * (a * b) = (a * a) * (b * b) := fun a b => by ac_rfl
  induction n generalizing P with
  | zero => exact sq _ _
  | succ n ih =>
    show (P 0 * Q (n + 1) + cv (tl P) Q n) * (P 0 * Q (n + 1) + cv (tl P) Q n) = fro P 0 * fro Q (n + 1) + cv (tl (fro P)) (fro Q) n
    rw [sq_add, ih, sq]; rfl
theorem fro_lin (a : El m) : fro (lin a) = lin (a * a) := by
  funext i
  show (if i = 0 then a else if i = 1 then 1 else 0) * (if i = 0 then a else if i = 1 then 1 else 0) = if i = 0 then a * a else if i = 1 then 1 else 0
  by_cases h0 : i = 0
  · rw [if_pos h0, if_pos h0]
  · rw [if_neg h0, if_neg h0]
    by_cases h1 : i = 1
    · rw [if_pos h1]; exact Fl.mul_one _
    · rw [if_neg h1]; exact Pl.mul_zero _
theorem fro_one : fro (pone : Ser (El m)) = pone := by
  funext i
  show (if i = 0 then (1 : El m) else 0) * (if i = 0 then 1 else 0) = if i = 0 then 1 else 0
  by_cases h0 : i = 0
  · rw [if_pos h0]; exact Fl.mul_one _
  · rw [if_neg h0]; exact Pl.mul_zero _
/-- the product of x + a over a list. -/
def prl : List (El m) → Ser (El m)
  | [] => pone
  | a :: t => cv (prl t) (lin a)
theorem prl_perm {l k : List (El m)} (h : l.Perm k) : prl l = prl k := by
  induction h with
  | nil => rfl
  | cons x _ ih => show cv _ _ = cv _ _; rw [ih]
  | swap x y l => show cv (cv (prl l) (lin x)) (lin y) = cv (cv (prl l) (lin y)) (lin x); rw [cv_assoc, cv_assoc, cv_comm (lin x)]
  | trans _ _ h1 h2 => rw [h1, h2]
theorem prl_snoc (l : List (El m)) (a : El m) : prl (l ++ [a]) = cv (prl l) (lin a) := by
  rw [prl_perm (List.perm_append_comm : (l ++ [a]).Perm ([a] ++ l))]; rfl
theorem fro_prl : ∀ l : List (El m), fro (prl l) = prl (l.map fun a => a * a)
  | [] => fro_one
  | a :: t => by show fro (cv _ _) = cv _ _; rw [fro_cv, fro_lin, fro_prl t]
theorem pls_take : ∀ (l : List Nat) (n : Nat), n ≤ l.length → pls (exl m l) n = prl ((l.take n).map (xe m))
  | l, 0, h => by rw [List.take_zero]; rfl
  | l, n + 1, h => by
    have hs : l.take (n + 1) = l.take n ++ [l.getD n 0] := by
      rw [List.take_add_one, List.getD_eq_getElem?_getD, List.getElem?_eq_getElem (by omega)]; rfl
    show cv (pls (exl m l) n) (lin (elm m ((exl m l).getD n 0))) = _
    rw [exl_at l n (by omega), pls_take l n (by omega), hs, List.map_append, ← prl_snoc]; rfl
theorem pls_prl (l : List Nat) : pls (exl m l) l.length = prl (l.map (xe m)) := by
  rw [pls_take l l.length (Nat.le_refl _), List.take_length]
omit M in
theorem size_sz : Fld.size m = sz m := rfl
theorem xe_dbl (j : Nat) : xe m (2 * j % sz m) = xe m j * xe m j := by
  apply El.ext
  show Fld.pwZ m _ = Fld.fmul m (Fld.pwZ m _) (Fld.pwZ m _)
  rw [Fld.pwZ_mul m M.lo M.hi]
  apply Fld.pwZ_congr
  rw [size_sz, Int.natCast_emod, Int.emod_emod_of_dvd _ (Int.dvd_refl _)]
  congr 1
  omega
theorem dbl_perm {f : Nat} (hf : f < sz m) : ((cos m f).map fun j => 2 * j % sz m).Perm (cos m f) := by
  have hm := M.lo
  have hp := sz_lo hm
  refine (List.perm_ext_iff_of_nodup ?_ (cos_nodup m f)).2 fun k => ?_
  · rw [List.Nodup, List.pairwise_map]
    refine List.Pairwise.imp_of_mem (R := (· < ·)) (fun {a b} ha hb hlt he => ?_) (cos_rise m f)
    have := dbl_inj (sz_odd hm) ((mem_cos a).1 ha).1 ((mem_cos b).1 hb).1 he
    omega
  · rw [List.mem_map]
    constructor
    · rintro ⟨j, hj, rfl⟩; exact cos_dbl hm hf hj
    · intro hk
      obtain ⟨d, hd⟩ := per_exists hm hf
      have hk2 := hk
      rw [← (lst_perm hm hf hd).mem_iff, mem_lst hd] at hk2
      obtain ⟨j, e⟩ := hk2
      refine ⟨orb (sz m) f (j + (d - 1)), ?_, ?_⟩
      · rw [← (lst_perm hm hf hd).mem_iff, mem_lst hd]; exact ⟨_, rfl⟩
      · show 2 * orb (sz m) f (j + (d - 1)) % sz m = k
        rw [← orb_succ, show j + (d - 1) + 1 = d * 1 + j by have := hd.pos; omega, orb_period hd, e]
/-- the minimal polynomial as a series. -/
def mpS (m : Nat) [M : Mid m] (f : Nat) : Ser (El m) := pls (exl m (cos m f)) (cos m f).length
theorem mpS_fro {f : Nat} (hf : f < sz m) : fro (mpS m f) = mpS m f := by
  unfold mpS
  rw [pls_prl, fro_prl, List.map_map]
  have e : (fun a : El m => a * a) ∘ xe m = xe m ∘ fun j => 2 * j % sz m := by
    funext j
    exact (xe_dbl j).symm
  rw [e, ← List.map_map]
  exact prl_perm ((dbl_perm hf).map _)
theorem mpS_bit {f : Nat} (hf : f < sz m) (i : Nat) : mpS m f i = 0 ∨ mpS m f i = 1 := by
  have h := congrFun (mpS_fro hf) i
  have h2 : mpS m f i * (mpS m f i + 1) = 0 := by
    rw [Fl.mul_add, Fl.mul_one, show mpS m f i * mpS m f i = mpS m f i from h, Fl.add_self]
  rcases Pl.mul_eq_zero h2 with h3 | h3
  · exact Or.inl h3
  · exact Or.inr (Pl.add_cancel h3)
theorem mpS_dg (f : Nat) : Dg (mpS m f) (cos m f).length := pls_dg _ _
theorem mpS_top (f : Nat) (hf : f < sz m) : mpS m f (cos m f).length = 1 := (mpS_bit hf _).resolve_left (mpS_dg f).1
end
end Go.Proofs.YtdhcigiaidlmbaaGreatDoor.Cos
/- The reference's Coset. By the verifier of shale. -/
namespace Go.Proofs.YtdhcigiaidlmbaaGreatDoor.Cos
open Go Go.RowKit
set_option linter.unusedVariables false
theorem contains_snoc (l : List Nat) (x y : Nat) : (l ++ [x]).contains y = (l.contains y || decide (y = x)) := by
  rw [Bool.eq_iff_iff]; simp
theorem filter_cos {m f d : Nat} (hm : 3 ≤ m) (hf : f < sz m) (h : IsPer (sz m) f d) : (List.range (sz m)).filter (fun y => (lst (sz m) f d).contains y) = cos m f := by
  refine List.Perm.eq_of_pairwise (le := (· < ·)) (fun a b _ _ h1 h2 => by omega) (List.Pairwise.filter _ List.pairwise_lt_range) (cos_rise m f) ?_
  refine (List.perm_ext_iff_of_nodup (List.Pairwise.filter _ List.nodup_range) (cos_nodup m f)).2 fun k => ?_
  rw [List.mem_filter, List.mem_range, ← (lst_perm hm hf h).mem_iff]
  constructor
  · rintro ⟨_, h2⟩; simpa using h2
  · intro h2
    obtain ⟨j, e⟩ := (mem_lst h k).1 h2
    exact ⟨by rw [← e]; exact orb_lt (by have := sz_lo hm; omega) _ _, by simpa using h2⟩
theorem lst_new {N f d j : Nat} (ho : ∃ q, N = 2 * q + 1) (hf : f < N) (h : IsPer N f d) (hj : j < d) : (lst N f j).contains (orb N f j) = false := by
  rw [Bool.eq_false_iff]
  intro hc
  have hm : orb N f j ∈ lst N f j := by simpa using hc
  obtain ⟨i, hi, e⟩ := List.mem_map.1 hm
  have hij := List.mem_range.1 hi
  have := orb_back ho hf i (j - i) (by rw [show i + (j - i) = j by omega]; exact e)
  exact h.min (j - i) (by omega) (by omega) this.symm
theorem lst_old {N f d : Nat} (hf : f < N) (h : IsPer N f d) : (lst N f d).contains (orb N f d) = true := by
  have : orb N f d ∈ lst N f d := by
    rw [h.fin]
    exact List.mem_map.2 ⟨0, List.mem_range.2 h.pos, orb_zero hf⟩
  simpa using this
theorem range_filter_snoc (p : Nat → Bool) (k : Nat) : (List.range (k + 1)).filter p = (List.range k).filter p ++ (if p k then [k] else []) := by
  rw [List.range_succ, List.filter_append]
  congr 1
  by_cases h : p k <;> simp [h]
set_option maxRecDepth 100000 in
set_option maxHeartbeats 1000000 in
theorem rcoset_any (m : Nat) (hm : 3 ≤ m) (hm2 : m ≤ 14) (i : Int) (w : World) :
    Calls Tryz.prog 137 #[.int .i64 (m : Int), .int .i64 i] w
      fun e w' => ∃ a n c, e = .returned (.slice a n c) ∧ Own64 w' w.heap.size (.slice a n c) n (ints (cos m (rs m i))) ∧ Below w.heap.size w w' := by
  have hm14 : (m : Int) ≤ 14 := by omega
  have ho := Fld.shl_one m hm2
  have hn := sz_lo hm
  have hn2 := sz_hi hm2
  have hw : IntKind.i64.wrap ((Fld.els m : Int) - 1) = (sz m : Int) := by
    have : (Fld.els m : Int) - 1 = (sz m : Int) := by unfold Fld.els sz; have := Nat.two_pow_pos m; omega
    rw [this]; exact IntWalk.i64_in _ (by omega)
  have hr := rs_go hm i
  have hf := rs_lt hm i
  obtain ⟨i0, hi, hz0, hz1, hz2⟩ := info64
  have hA : wrap64 (i.tmod (sz m : Int) + (sz m : Int)) = i.tmod (sz m : Int) + (sz m : Int) := by
    have a1 := Int.tmod_lt_of_pos i (by omega : (0 : Int) < (sz m : Int))
    have a2 := Int.tmod_lt_of_pos (-i) (by omega : (0 : Int) < (sz m : Int))
    rw [Int.neg_tmod] at a2
    exact IntWalk.wrap64_in _ (by omega)
  obtain ⟨d, hd⟩ := per_exists hm hf
  have HFC := Lib.hid (filter_cos hm hf hd)
  have HLN : Hid (∀ j, j < d → (lst (sz m) (rs m i) j).contains (orb (sz m) (rs m i) j) = false) := fun j hj => lst_new (sz_odd hm) hf hd hj
  have HLO := Lib.hid (lst_old hf hd)
  have hdm := per_le hm hf hd
  obtain ⟨N, hN⟩ : ∃ N, N = sz m := ⟨_, rfl⟩
  obtain ⟨f, hfe⟩ : ∃ f, f = rs m i := ⟨_, rfl⟩
  rw [← hN] at hn hn2 hw hr hf hA HFC HLN HLO
  rw [← hfe] at hr hf HFC HLN HLO ⊢
  clear hN hfe hd
  have hmk := madeB w N (by omega)
  have e00 : orb N f 0 = f := orb_zero hf
  go_enter Tryz.func137, Tryz.ntmps137
  go_wp2_with fail
  have hb1 : Below w.heap.size w (w.alloc (objB (List.replicate N false))) := (Below.refl _ _).alloc (Nat.le_refl _) _
  have hf1 : BF (w.alloc (objB (List.replicate N false))) w.heap.size N (fun y => (lst N f 0).contains y) := (BF.new w N).of fun i hi => by simp [lst]
  clear hmk hw ho hA hr
  generalize w.alloc (objB (List.replicate N false)) = w1 at hb1 hf1 ⊢
  go_loopg [7] d (fun gh s7 wx => ∃ (j : Nat), gh = d - j ∧ j ≤ d ∧ s7 = .int .i64 ((orb N f j : Nat) : Int) ∧ BF wx w.heap.size N (fun y => (lst N f j).contains y) ∧ Below w.heap.size w wx)
  case atStart => exact ⟨0, rfl, Nat.zero_le _, by rw [e00], hf1, hb1⟩
  case round =>
    clear hf1 hb1 e00
    obtain ⟨j, hg, hj, rfl, hF, hB⟩ := hrel
    have HG := Lib.hid hg
    clear hg
    have hxN : orb N f j < N := orb_lt (by omega) _ _
    have d1 := hF.cell hxN
    obtain ⟨hB2, hC⟩ := dbl_go hn hn2 hxN
    rw [← orb_succ] at hC
    by_cases hlt : j < d
    · rw [HLN.out j hlt] at d1
      have d2 := hF.free (orb N f j)
      have HF2 : Hid (BF (wr.setCell ⟨w.heap.size, orb N f j, none⟩ (.bool true)) w.heap.size N (fun y => (lst N f (j + 1)).contains y)) := (hF.set _).of fun y hy => by rw [lst_succ, contains_snoc]
      have HB2 : Hid (Below w.heap.size w (wr.setCell ⟨w.heap.size, orb N f j, none⟩ (.bool true))) := hB.setCell (p := ⟨w.heap.size, orb N f j, none⟩) (Nat.le_refl _) _
      generalize orb N f j = x at hxN d1 d2 hB2 hC HF2 HB2 ⊢
      have x0 : (0 : Int) ≤ (x : Int) := by omega
      have x1 : (x : Int) < (N : Int) := by omega
      clear hF hB
      go_wp2_with fail
      go_roundg (d - (j + 1))
      case measure => have := HG.out; omega
      case rel => exact ⟨j + 1, rfl, by omega, rfl, HF2.out, HB2.out⟩
    · obtain rfl : j = d := by omega
      rw [HLO.out] at d1
      have HFF := Lib.hid hF
      have HBB := Lib.hid hB
      generalize orb N f j = x at hxN d1 hB2 hC ⊢
      have x0 : (0 : Int) ≤ (x : Int) := by omega
      have x1 : (x : Int) < (N : Int) := by omega
      clear hF hB hlt hC hB2
      obtain ⟨W0, rfl⟩ : ∃ W0, W0 = wr := ⟨_, rfl⟩
      go_wp2_with fail
      go_loopg [8, 9] N (fun gh s8 s9 wx => ∃ (k n : Nat), gh = N - k ∧ k ≤ N ∧ n ≤ k ∧ s9 = .int .i64 (k : Int) ∧ Own64 wx (w.heap.size + 1) s8 n (ints ((List.range k).filter (fun y => (lst N f j).contains y))) ∧ BF wx w.heap.size N (fun y => (lst N f j).contains y) ∧ Below w.heap.size w wx)
      case atStart => exact ⟨0, 0, rfl, Nat.zero_le _, Nat.le_refl _, rfl, Own64.nil _ _, HFF.out, HBB.out⟩
      case round =>
        clear HFF HBB d1
        obtain ⟨k, n, hg, hk, hnk, rfl, hO, hF, hB⟩ := hrel
        have HG2 := Lib.hid hg
        clear hg
        obtain ⟨av, cv, rfl⟩ := own_slice hO
        have hbs := hB.size
        have hFl := hF.lt
        by_cases hlt2 : k < N
        · have y1 : (k : Int) < (N : Int) := by omega
          have y0 : (0 : Int) ≤ (k : Int) := by omega
          have d3 := hF.cell hlt2
          have HR := Lib.hid (range_filter_snoc (fun y => (lst N f j).contains y) k)
          by_cases hc : (lst N f j).contains k = true
          · have hc' : (lst N f j).contains k = true := hc
            rw [hc'] at d3
            have HF2 : Hid (ints ((List.range (k + 1)).filter (fun y => (lst N f j).contains y)) = ints ((List.range k).filter (fun y => (lst N f j).contains y)) ++ [(k : Int)]) := by
              show _ = _
              rw [HR.out, if_pos hc, ints_snoc]
            clear HR hc hc'
            go_wp2_with (at_builtin; refine wpList_append_own _ rfl _ _ 65 rfl (w.heap.size + 1) 3 i0 (.int .i64 0) 1 8 Tryz.underlying65 hi hz0 hz1 hz2 rfl (by decide) _ n _ rfl (World.ownsRow.alloc hO _) ⟨wr.heap.size, 0, none⟩ 1 1 [.int .i64 (k : Int)] rfl rfl (cell_one_new _ _ _) (ints_oneCell .i64 [_]) (by unfold maxLen; omega) (by omega) (by simp; omega) ?_; intro v7 w7 hown7 hgrow _)
            have ho7 : Own64 w7 (w.heap.size + 1) v7 (n + 1) (ints ((List.range (k + 1)).filter (fun y => (lst N f j).contains y))) := by
              unfold Own64
              rw [HF2.out, ← cells64_append]
              exact hown7
            have b7 : Below w.heap.size w w7 := (hB.alloc hbs _).grown hgrow (by simp; omega) (fun g hg => by have := (hO.block g hg).1; omega)
            have hf7 : BF w7 w.heap.size N (fun y => (lst N f j).contains y) := by
              have h1 := hgrow.block w.heap.size (by simp; omega) (fun e => by have := (hO.block _ e.symm).1; omega)
              exact h1.trans ((((Below.refl wr.heap.size wr).alloc (Nat.le_refl _) _).block _ hFl).trans hF)
            clear hown7 hgrow hO hB hF
            go_wp2_with fail
            go_roundg (N - (k + 1))
            case measure => have := HG2.out; omega
            case rel => exact ⟨k + 1, n + 1, rfl, by omega, by omega, by go_num, ho7, hf7, b7⟩
          · have hc' : (lst N f j).contains k = false := Bool.eq_false_iff.2 hc
            rw [hc'] at d3
            have HO2 : Hid (Own64 wr (w.heap.size + 1) (.slice av n cv) n (ints ((List.range (k + 1)).filter (fun y => (lst N f j).contains y)))) := by
              show Own64 _ _ _ _ _
              rw [HR.out, if_neg hc, List.append_nil]; exact hO
            have HF2 := Lib.hid hF
            clear HR hc hc' hO hF
            go_wp2_with fail
            go_roundg (N - (k + 1))
            case measure => have := HG2.out; omega
            case rel => exact ⟨k + 1, n, rfl, by omega, by omega, by go_num, HO2.out, HF2.out, hB⟩
        · obtain rfl : k = N := by omega
          have HO2 : Hid (Own64 wr w.heap.size (.slice av n cv) n (ints (cos m f))) := by
            have h := hO
            rw [HFC.out] at h
            exact ⟨h.1, by
              rcases h.2 with h0 | ⟨g', cap', cur, hv, hbg, r⟩
              · exact Or.inl h0
              · exact Or.inr ⟨g', cap', cur, hv, by omega, r⟩⟩
          clear hO hF
          go_wp2_with fail
          go_ret
          exact ⟨av, n, cv, rfl, HO2.out, hB⟩
end Go.Proofs.YtdhcigiaidlmbaaGreatDoor.Cos
