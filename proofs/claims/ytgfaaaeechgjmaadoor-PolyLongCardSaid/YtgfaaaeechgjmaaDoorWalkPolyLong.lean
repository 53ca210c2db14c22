/- The walk over PolyLong. By the verifier of shale. -/
import Derived.Test.YtgfaaaeechgjmaaDoorPolyLaw
import Derived.Test.YtgfaaaeechgjmaaDoorLaidPolyLong
namespace Go.Proofs.YtgfaaaeechgjmaaDoor.walkPolyLong
open Go Go.RowKit Fld Bits16 Pl
set_option linter.unusedVariables false
theorem neq_err (a : Addr) (w : World) : (binOp .neq 28 (errOf a) (errOf a)).run Tryd.prog w = .ok (.bool false) w := by
  obtain ⟨i, hi, hc⟩ := Option.map_eq_some_iff.1 compErr
  obtain ⟨j, hj, _⟩ := Option.map_eq_some_iff.1 sizeErr
  simp only [binOp]
  simp [Op.equal, Op.maxDepth, run_equalIn_iface_ptr_same w 9998 a Tryd.underlying28 Tryd.underlying69 hi hc hj]
theorem and2047 (z : Int) : bits .and .i64 z 2047 = (((z % 2048).toNat : Nat) : Int) := by
  show IntKind.i64.wrap ((BitVec.ofInt 64 z &&& BitVec.ofInt 64 2047).toNat : Int) = _
  rw [BitVec.toNat_and, show (BitVec.ofInt 64 2047).toNat = 2 ^ 11 - 1 by decide, Nat.and_two_pow_sub_one_eq_mod, BitVec.toNat_ofInt]
  rw [show (((z % ((2 ^ 64 : Nat) : Int)).toNat % 2 ^ 11 : Nat) : Int) = ((z % 2048).toNat : Int) by omega]
  exact IntWalk.i64_in _ (by omega)
def on1 (N k : Nat) : List Int := upN (fun _ => 1) N k
theorem on1_length (N k : Nat) : (on1 N k).length = N := upN_length _ N k
theorem on1_set (N k : Nat) : (on1 N k).set k 1 = on1 N (k + 1) := upN_set (fun _ => 1) N k
theorem on1_zero (N : Nat) : List.replicate N 0 = on1 N 0 := upN_zero _ N
section
variable {m : Nat} [M : Mid m]
theorem elm_one : elm m 1 = 1 := elm_zn (1 : El m)
theorem on1_bd (N : Nat) : Bd (sr m (on1 N N)) N := by have := sr_bd (m := m) (on1 N N); rwa [on1_length] at this
theorem on1_dg (N : Nat) : Dg (sr m (on1 (N + 1) (N + 1))) N := by
  refine ⟨?_, on1_bd _⟩
  show elm m ((on1 (N + 1) (N + 1)).getD N 0) ≠ 0
  have : (on1 (N + 1) (N + 1)).getD N 0 = 1 := by
    rw [List.getD_eq_getElem?_getD, List.getElem?_eq_getElem (by rw [on1_length]; omega)]
    simp only [on1, upN, List.getElem_map, List.getElem_range, Option.getD_some]
    rw [if_pos (by omega)]
  rw [this, elm_one]
  exact Fl.one_ne
theorem on1_top (N : Nat) : Pl.top (sr m (on1 N N)) N = N := by
  cases N with
  | zero => rfl
  | succ N => exact top_some (on1_dg N).1
theorem out_len {w0 w : World} {a : Option Addr} {n cap d : Nat} {p : Ser (El m)} (h : Out m w0 w a n cap p) (hp : Dg p d) : n = d + 1 := by
  have h1 := outV h hp.2
  rw [← h1.top, top_same h1.bd hp.2]
  exact top_dg' hp.2 hp
end
set_option maxRecDepth 100000 in
set_option maxHeartbeats 4000000 in
theorem coreKA (x0 x1 : Int) (n k K : Nat) (w : World) (y : Addr) (E : ErrAt w 1 y) (hn : n = (x0 % 2048).toNat) (hk : k = (x1 % 2048).toNat) (hb : ¬ 200000 < n * k) (hK : K = k) (hc : 2048 < n + K) :
    Calls Tryd.prog 6 #[.int .i64 x0, .int .i64 x1] w fun e w' => e = .returned (.bool true) ∧ Below w.heap.size w w' := by
  have hn7 : n ≤ 2047 := by omega
  have hk7 : k ≤ 2047 := by omega
  have hKk : K ≤ 2047 := by omega
  subst hK
  have HA : bits .and .i64 x0 2047 = (n : Int) := by rw [and2047, hn]
  have HB : bits .and .i64 x1 2047 = (K : Int) := by rw [and2047, hk]
  obtain ⟨N, hN⟩ : ∃ N, N = n * K := ⟨_, rfl⟩
  have hm : (n : Int) * (K : Int) = (N : Int) := by rw [hN]; exact (Int.natCast_mul n K).symm
  have hNb : N ≤ 4190209 := by rw [hN]; exact Nat.mul_le_mul hn7 hk7
  have t7 : decide ((200000 : Int) < (N : Int)) = false := decide_eq_false (by rw [← hN] at hb; omega)
  obtain ⟨S, hS⟩ : ∃ S, S = n + K := ⟨_, rfl⟩
  have hSm : (n : Int) + (K : Int) = (S : Int) := by omega
  have hSb : S ≤ 4094 := by omega
  have u1 : decide ((2048 : Int) < (S : Int)) = true := decide_eq_true (by omega)
  have u2 : (0 : Int) < (n : Int) := by omega
  have u3 : (0 : Int) < (K : Int) := by omega
  have u4 : decide ((0 : Int) < (n : Int)) = true := decide_eq_true u2
  have u5 : decide ((0 : Int) < (K : Int)) = true := decide_eq_true u3
  have u6 : decide ((S : Int) ≤ 2048) = false := decide_eq_false (by omega)
  have u8 : 0 < n := by omega
  have u9 : 0 < K := by omega
  have HC := Lib.hid hc
  have HNN := Lib.hid hN
  have HSS := Lib.hid hS
  clear hn hk hb hc hN hS
  go_enter Tryd.func6, Tryd.ntmps6
  go_wp2_with fail
  refine (first_any w).mono ?_
  rintro e w1 ⟨rfl, B⟩
  replace E := E.below B
  go_wp2_with fail
  refine (ring_any 0 w1).mono ?_
  rintro e w2 ⟨g, s, be, ce, bl, rfl, R, b⟩
  replace E := E.below b
  replace B := B.trans (b.mono B.size)
  clear b
  have hmk1 := made64 w2 n (by omega)
  have hmk2 := made64 (w2.alloc (obj64 (List.replicate n 0))) K (by omega)
  go_wp2_with fail
  have hb1 : Below w2.heap.size w2 (w2.alloc (obj64 (List.replicate n 0))) := (Below.refl _ _).alloc (Nat.le_refl _) _
  have hk1 : Blk64 (w2.alloc (obj64 (List.replicate n 0))) w2.heap.size (on1 n 0) := by rw [← on1_zero]; exact Blk64.new w2 _
  have hsz : (w2.alloc (obj64 (List.replicate n 0))).heap.size = w2.heap.size + 1 := Array.size_push _
  clear hmk1 hmk2
  generalize w2.alloc (obj64 (List.replicate n 0)) = w3 at hb1 hk1 hsz ⊢
  have hb2 : Below w2.heap.size w2 (w3.alloc (obj64 (List.replicate K 0))) := hb1.alloc hb1.size _
  have hb3 : Below w3.heap.size w3 (w3.alloc (obj64 (List.replicate K 0))) := (Below.refl _ _).alloc (Nat.le_refl _) _
  have hk2 : Blk64 (w3.alloc (obj64 (List.replicate K 0))) w3.heap.size (on1 K 0) := by rw [← on1_zero]; exact Blk64.new w3 _
  replace hk1 : Blk64 (w3.alloc (obj64 (List.replicate K 0))) w2.heap.size (on1 n 0) := (hb3.block _ hk1.lt).trans hk1
  rw [hsz] at hk2
  generalize w3.alloc (obj64 (List.replicate K 0)) = w4 at hb2 hk1 hk2 ⊢
  have HE := Lib.hid E
  have HR := Lib.hid R
  have HB2 := Lib.hid B
  have HK2 := Lib.hid hk2
  have HBB := Lib.hid hb2
  clear hb1 hb2 hb3 hsz E R B hk2 HA HB hm
  go_loopg [10] n (fun gh s10 wx => ∃ (i : Nat), gh = n - i ∧ i ≤ n ∧ s10 = .int .i64 (i : Int) ∧ Blk64 wx w2.heap.size (on1 n i) ∧ Hid (Blk64 wx (w2.heap.size + 1) (on1 K 0)) ∧ Hid (Below w2.heap.size w2 wx))
  case atStart => exact ⟨0, rfl, Nat.zero_le _, rfl, hk1, HK2, HBB⟩
  case round =>
    clear hk1 HK2 HBB
    obtain ⟨i, hg, hi, rfl, hk1, HK2, HBB⟩ := hrel
    have HG := Lib.hid hg
    clear hg
    by_cases hlt : i < n
    · have v1 : (i : Int) < (n : Int) := by omega
      have v0 : (0 : Int) ≤ (i : Int) := by omega
      have d1 := hk1.cell (i := i) (by rw [on1_length]; exact hlt)
      have d2 := hk1.free i
      generalize nth64 (on1 n i) i = zo at d1
      have HN := Lib.hid (Blk64.lay hk1 (on1_set n i))
      have HO : Hid (Blk64 (wr.setCell ⟨w2.heap.size, i, none⟩ (.int .i64 1)) (w2.heap.size + 1) (on1 K 0)) := (Below.heap_setCell _ _ _ _ (by show w2.heap.size + 1 ≠ w2.heap.size; omega)).trans HK2.out
      have HNB : Hid (Below w2.heap.size w2 (wr.setCell ⟨w2.heap.size, i, none⟩ (.int .i64 1))) := HBB.out.setCell (p := ⟨w2.heap.size, i, none⟩) (Nat.le_refl _) _
      clear hk1 HK2 HBB
      go_wp2_with fail
      go_roundg (n - (i + 1))
      case measure => have := HG.out; omega
      case rel => exact ⟨i + 1, rfl, by omega, by go_num, HN.out, HO, HNB⟩
    · obtain rfl : i = n := by omega
      have HK1' := Lib.hid hk1
      have hk2 := HK2.out
      clear hk1 HK2 HG hlt
      go_wp2_with fail
      go_loopg [11] K (fun gh s11 wx => ∃ (j : Nat), gh = K - j ∧ j ≤ K ∧ s11 = .int .i64 (j : Int) ∧ Blk64 wx (w2.heap.size + 1) (on1 K j) ∧ Hid (Blk64 wx w2.heap.size (on1 i i)) ∧ Hid (Below w2.heap.size w2 wx))
      case atStart => exact ⟨0, rfl, Nat.zero_le _, rfl, hk2, HK1', HBB⟩
      case round =>
        clear hk2 HK1' HBB
        obtain ⟨j, hg, hj, rfl, hk2, HK1', HBB⟩ := hrel
        have HG := Lib.hid hg
        clear hg
        by_cases hlt : j < K
        · have v1 : (j : Int) < (K : Int) := by omega
          have v0 : (0 : Int) ≤ (j : Int) := by omega
          have d1 := hk2.cell (i := j) (by rw [on1_length]; exact hlt)
          have d2 := hk2.free j
          generalize nth64 (on1 K j) j = zo at d1
          have HN := Lib.hid (Blk64.lay hk2 (on1_set K j))
          have HO : Hid (Blk64 (wr.setCell ⟨w2.heap.size + 1, j, none⟩ (.int .i64 1)) w2.heap.size (on1 i i)) := (Below.heap_setCell _ _ _ _ (by show w2.heap.size ≠ w2.heap.size + 1; omega)).trans HK1'.out
          have HNB : Hid (Below w2.heap.size w2 (wr.setCell ⟨w2.heap.size + 1, j, none⟩ (.int .i64 1))) := HBB.out.setCell (p := ⟨w2.heap.size + 1, j, none⟩) (by show w2.heap.size ≤ w2.heap.size + 1; omega) _
          clear hk2 HK1' HBB
          go_wp2_with fail
          go_roundg (K - (j + 1))
          case measure => have := HG.out; omega
          case rel => exact ⟨j + 1, rfl, by omega, by go_num, HN.out, HO, HNB⟩
        · obtain rfl : j = K := by omega
          have r1 := Blk64.rowz HK1'.out (by rw [on1_length]; omega)
          have r2 := Blk64.rowz hk2 (by rw [on1_length]; omega)
          rw [on1_length] at r1 r2
          have R := HR.out.below HBB.out
          have E := HE.out.below HBB.out
          have B := HB2.out.trans (HBB.out.mono HB2.out.size)
          clear hk2 HK1' HBB HG hlt HR HE HB2
          go_wp2_with fail
          refine (pmul_long (m := rm 0) _ i i _ _ j j _ wr R r1 r2 (by omega) (by omega) (by rw [on1_top, on1_top]; exact HC.out) y E).mono ?_
          rintro e w5 ⟨rfl, b⟩
          replace R := R.below b
          replace E := E.below b
          replace B := B.trans (b.mono B.size)
          have q1 := eql_err y
          have q2 := neq_err y
          have e1 := E.1
          unfold Sent at e1
          obtain ⟨T, hT⟩ : ∃ T : Nat, T = 2049 := ⟨_, rfl⟩
          have hTi : (T : Int) = 2049 := by omega
          have hmk := made64 w5 T (by omega)
          rw [hTi] at hmk
          have HT := Lib.hid hT
          clear hT hTi
          clear b r1 r2
          go_wp2_with fail
          have b7 : Below w5.heap.size w5 (w5.alloc (obj64 (List.replicate T 0))) := (Below.refl _ _).alloc (Nat.le_refl _) _
          have E7 := E.below b7
          have B7 := B.trans (b7.mono B.size)
          clear hmk e1 b7
          generalize w5.alloc (obj64 (List.replicate T 0)) = w7 at E7 B7 ⊢
          refine (from_long _ T T w7 (by have := HT.out; omega) (by have := HT.out; omega) y E7).mono ?_
          rintro e w8 ⟨rfl, b⟩
          have e2 := (E7.below b).1
          have B8 := B7.trans (b.mono B7.size)
          unfold Sent at e2
          clear b
          go_wp2_with fail
          go_ret
          exact ⟨rfl, B8⟩
set_option maxRecDepth 100000 in
set_option maxHeartbeats 4000000 in
theorem coreKB (x0 x1 : Int) (n k K : Nat) (w : World) (y : Addr) (E : ErrAt w 1 y) (hn : n = (x0 % 2048).toNat) (hk : k = (x1 % 2048).toNat) (hb : ¬ 200000 < n * k) (hK : K = k) (hc : n + K ≤ 2048) (c1 : 0 < n) (c2 : 0 < K) :
    Calls Tryd.prog 6 #[.int .i64 x0, .int .i64 x1] w fun e w' => e = .returned (.bool true) ∧ Below w.heap.size w w' := by
  have hn7 : n ≤ 2047 := by omega
  have hk7 : k ≤ 2047 := by omega
  have hKk : K ≤ 2047 := by omega
  subst hK
  have HA : bits .and .i64 x0 2047 = (n : Int) := by rw [and2047, hn]
  have HB : bits .and .i64 x1 2047 = (K : Int) := by rw [and2047, hk]
  obtain ⟨N, hN⟩ : ∃ N, N = n * K := ⟨_, rfl⟩
  have hm : (n : Int) * (K : Int) = (N : Int) := by rw [hN]; exact (Int.natCast_mul n K).symm
  have hNb : N ≤ 4190209 := by rw [hN]; exact Nat.mul_le_mul hn7 hk7
  have t7 : decide ((200000 : Int) < (N : Int)) = false := decide_eq_false (by rw [← hN] at hb; omega)
  obtain ⟨S, hS⟩ : ∃ S, S = n + K := ⟨_, rfl⟩
  have hSm : (n : Int) + (K : Int) = (S : Int) := by omega
  have hSb : S ≤ 4094 := by omega
  have u1 : decide ((2048 : Int) < (S : Int)) = false := decide_eq_false (by omega)
  have u2 : (0 : Int) < (n : Int) := by omega
  have u3 : (0 : Int) < (K : Int) := by omega
  have u4 : decide ((0 : Int) < (n : Int)) = true := decide_eq_true u2
  have u5 : decide ((0 : Int) < (K : Int)) = true := decide_eq_true u3
  have u6 : decide ((S : Int) ≤ 2048) = true := decide_eq_true (by omega)
  obtain ⟨n1, hn1⟩ : ∃ n1, n = n1 + 1 := ⟨n - 1, by omega⟩
  obtain ⟨K1, hK1⟩ : ∃ K1, K = K1 + 1 := ⟨K - 1, by omega⟩
  have HN1 := Lib.hid hn1
  have HK1 := Lib.hid hK1
  have hS1 : (S : Int) - 1 = ((n1 + K1 + 1 : Nat) : Int) := by omega
  obtain ⟨S1, hS1e⟩ : ∃ S1, S1 = n1 + K1 + 1 := ⟨_, rfl⟩
  rw [← hS1e] at hS1
  have HS1 := Lib.hid hS1e
  clear hn1 hK1 hS1e
  have HC := Lib.hid hc
  have HNN := Lib.hid hN
  have HSS := Lib.hid hS
  clear hn hk hb hc hN hS
  go_enter Tryd.func6, Tryd.ntmps6
  go_wp2_with fail
  refine (first_any w).mono ?_
  rintro e w1 ⟨rfl, B⟩
  replace E := E.below B
  go_wp2_with fail
  refine (ring_any 0 w1).mono ?_
  rintro e w2 ⟨g, s, be, ce, bl, rfl, R, b⟩
  replace E := E.below b
  replace B := B.trans (b.mono B.size)
  clear b
  have hmk1 := made64 w2 n (by omega)
  have hmk2 := made64 (w2.alloc (obj64 (List.replicate n 0))) K (by omega)
  go_wp2_with fail
  have hb1 : Below w2.heap.size w2 (w2.alloc (obj64 (List.replicate n 0))) := (Below.refl _ _).alloc (Nat.le_refl _) _
  have hk1 : Blk64 (w2.alloc (obj64 (List.replicate n 0))) w2.heap.size (on1 n 0) := by rw [← on1_zero]; exact Blk64.new w2 _
  have hsz : (w2.alloc (obj64 (List.replicate n 0))).heap.size = w2.heap.size + 1 := Array.size_push _
  clear hmk1 hmk2
  generalize w2.alloc (obj64 (List.replicate n 0)) = w3 at hb1 hk1 hsz ⊢
  have hb2 : Below w2.heap.size w2 (w3.alloc (obj64 (List.replicate K 0))) := hb1.alloc hb1.size _
  have hb3 : Below w3.heap.size w3 (w3.alloc (obj64 (List.replicate K 0))) := (Below.refl _ _).alloc (Nat.le_refl _) _
  have hk2 : Blk64 (w3.alloc (obj64 (List.replicate K 0))) w3.heap.size (on1 K 0) := by rw [← on1_zero]; exact Blk64.new w3 _
  replace hk1 : Blk64 (w3.alloc (obj64 (List.replicate K 0))) w2.heap.size (on1 n 0) := (hb3.block _ hk1.lt).trans hk1
  rw [hsz] at hk2
  generalize w3.alloc (obj64 (List.replicate K 0)) = w4 at hb2 hk1 hk2 ⊢
  have HE := Lib.hid E
  have HR := Lib.hid R
  have HB2 := Lib.hid B
  have HK2 := Lib.hid hk2
  have HBB := Lib.hid hb2
  clear hb1 hb2 hb3 hsz E R B hk2 HA HB hm
  go_loopg [10] n (fun gh s10 wx => ∃ (i : Nat), gh = n - i ∧ i ≤ n ∧ s10 = .int .i64 (i : Int) ∧ Blk64 wx w2.heap.size (on1 n i) ∧ Hid (Blk64 wx (w2.heap.size + 1) (on1 K 0)) ∧ Hid (Below w2.heap.size w2 wx))
  case atStart => exact ⟨0, rfl, Nat.zero_le _, rfl, hk1, HK2, HBB⟩
  case round =>
    clear hk1 HK2 HBB
    obtain ⟨i, hg, hi, rfl, hk1, HK2, HBB⟩ := hrel
    have HG := Lib.hid hg
    clear hg
    by_cases hlt : i < n
    · have v1 : (i : Int) < (n : Int) := by omega
      have v0 : (0 : Int) ≤ (i : Int) := by omega
      have d1 := hk1.cell (i := i) (by rw [on1_length]; exact hlt)
      have d2 := hk1.free i
      generalize nth64 (on1 n i) i = zo at d1
      have HN := Lib.hid (Blk64.lay hk1 (on1_set n i))
      have HO : Hid (Blk64 (wr.setCell ⟨w2.heap.size, i, none⟩ (.int .i64 1)) (w2.heap.size + 1) (on1 K 0)) := (Below.heap_setCell _ _ _ _ (by show w2.heap.size + 1 ≠ w2.heap.size; omega)).trans HK2.out
      have HNB : Hid (Below w2.heap.size w2 (wr.setCell ⟨w2.heap.size, i, none⟩ (.int .i64 1))) := HBB.out.setCell (p := ⟨w2.heap.size, i, none⟩) (Nat.le_refl _) _
      clear hk1 HK2 HBB
      go_wp2_with fail
      go_roundg (n - (i + 1))
      case measure => have := HG.out; omega
      case rel => exact ⟨i + 1, rfl, by omega, by go_num, HN.out, HO, HNB⟩
    · obtain rfl : i = n := by omega
      have HK1' := Lib.hid hk1
      have hk2 := HK2.out
      clear hk1 HK2 HG hlt
      go_wp2_with fail
      go_loopg [11] K (fun gh s11 wx => ∃ (j : Nat), gh = K - j ∧ j ≤ K ∧ s11 = .int .i64 (j : Int) ∧ Blk64 wx (w2.heap.size + 1) (on1 K j) ∧ Hid (Blk64 wx w2.heap.size (on1 i i)) ∧ Hid (Below w2.heap.size w2 wx))
      case atStart => exact ⟨0, rfl, Nat.zero_le _, rfl, hk2, HK1', HBB⟩
      case round =>
        clear hk2 HK1' HBB
        obtain ⟨j, hg, hj, rfl, hk2, HK1', HBB⟩ := hrel
        have HG := Lib.hid hg
        clear hg
        by_cases hlt : j < K
        · have v1 : (j : Int) < (K : Int) := by omega
          have v0 : (0 : Int) ≤ (j : Int) := by omega
          have d1 := hk2.cell (i := j) (by rw [on1_length]; exact hlt)
          have d2 := hk2.free j
          generalize nth64 (on1 K j) j = zo at d1
          have HN := Lib.hid (Blk64.lay hk2 (on1_set K j))
          have HO : Hid (Blk64 (wr.setCell ⟨w2.heap.size + 1, j, none⟩ (.int .i64 1)) w2.heap.size (on1 i i)) := (Below.heap_setCell _ _ _ _ (by show w2.heap.size ≠ w2.heap.size + 1; omega)).trans HK1'.out
          have HNB : Hid (Below w2.heap.size w2 (wr.setCell ⟨w2.heap.size + 1, j, none⟩ (.int .i64 1))) := HBB.out.setCell (p := ⟨w2.heap.size + 1, j, none⟩) (by show w2.heap.size ≤ w2.heap.size + 1; omega) _
          clear hk2 HK1' HBB
          go_wp2_with fail
          go_roundg (K - (j + 1))
          case measure => have := HG.out; omega
          case rel => exact ⟨j + 1, rfl, by omega, by go_num, HN.out, HO, HNB⟩
        · obtain rfl : j = K := by omega
          have r1 := Blk64.rowz HK1'.out (by rw [on1_length]; omega)
          have r2 := Blk64.rowz hk2 (by rw [on1_length]; omega)
          rw [on1_length] at r1 r2
          have R := HR.out.below HBB.out
          have E := HE.out.below HBB.out
          have B := HB2.out.trans (HBB.out.mono HB2.out.size)
          clear hk2 HK1' HBB HG hlt HR HE HB2
          go_wp2_with fail
          refine (pmul_any (m := rm 0) _ i i _ _ j j _ wr R r1 r2 (by omega) (by omega) (by rw [on1_top, on1_top]; exact HC.out)).mono ?_
          rintro e w5 ⟨a', n', cap', rfl, hO, b⟩
          have hd := (on1_dg (m := rm 0) n1).mul (on1_dg (m := rm 0) K1)
          rw [← HN1.out, ← HK1.out] at hd
          obtain rfl : n' = S1 := by rw [out_len hO hd]; exact HS1.out.symm
          clear hd hO
          replace R := R.below b
          replace E := E.below b
          replace B := B.trans (b.mono B.size)
          have q1 := eql_err y
          have q2 := neq_err y
          have e1 := E.1
          unfold Sent at e1
          obtain ⟨T, hT⟩ : ∃ T : Nat, T = 2049 := ⟨_, rfl⟩
          have hTi : (T : Int) = 2049 := by omega
          have hmk := made64 w5 T (by omega)
          rw [hTi] at hmk
          have HT := Lib.hid hT
          clear hT hTi
          clear b r1 r2
          go_wp2_with fail
          have b7 : Below w5.heap.size w5 (w5.alloc (obj64 (List.replicate T 0))) := (Below.refl _ _).alloc (Nat.le_refl _) _
          have E7 := E.below b7
          have B7 := B.trans (b7.mono B.size)
          clear hmk e1 b7
          generalize w5.alloc (obj64 (List.replicate T 0)) = w7 at E7 B7 ⊢
          refine (from_long _ T T w7 (by have := HT.out; omega) (by have := HT.out; omega) y E7).mono ?_
          rintro e w8 ⟨rfl, b⟩
          have e2 := (E7.below b).1
          have B8 := B7.trans (b.mono B7.size)
          unfold Sent at e2
          clear b
          go_wp2_with fail
          go_ret
          exact ⟨rfl, B8⟩
set_option maxRecDepth 100000 in
set_option maxHeartbeats 4000000 in
theorem coreKC (x0 x1 : Int) (n k K : Nat) (w : World) (y : Addr) (E : ErrAt w 1 y) (hn : n = (x0 % 2048).toNat) (hk : k = (x1 % 2048).toNat) (hb : ¬ 200000 < n * k) (hK : K = k) (hc : n + K ≤ 2048) (c1 : n = 0 ∨ K = 0) :
    Calls Tryd.prog 6 #[.int .i64 x0, .int .i64 x1] w fun e w' => e = .returned (.bool true) ∧ Below w.heap.size w w' := by
  have hn7 : n ≤ 2047 := by omega
  have hk7 : k ≤ 2047 := by omega
  have hKk : K ≤ 2047 := by omega
  subst hK
  have HA : bits .and .i64 x0 2047 = (n : Int) := by rw [and2047, hn]
  have HB : bits .and .i64 x1 2047 = (K : Int) := by rw [and2047, hk]
  obtain ⟨N, hN⟩ : ∃ N, N = n * K := ⟨_, rfl⟩
  have hm : (n : Int) * (K : Int) = (N : Int) := by rw [hN]; exact (Int.natCast_mul n K).symm
  have hNb : N ≤ 4190209 := by rw [hN]; exact Nat.mul_le_mul hn7 hk7
  have t7 : decide ((200000 : Int) < (N : Int)) = false := decide_eq_false (by rw [← hN] at hb; omega)
  obtain ⟨S, hS⟩ : ∃ S, S = n + K := ⟨_, rfl⟩
  have hSm : (n : Int) + (K : Int) = (S : Int) := by omega
  have hSb : S ≤ 4094 := by omega
  have u1 : decide ((2048 : Int) < (S : Int)) = false := decide_eq_false (by omega)
  have u6 : decide ((S : Int) ≤ 2048) = true := decide_eq_true (by omega)
  have HU4 : Hid ((¬ 0 < n) ∨ (0 < n ∧ ¬ 0 < K)) := by show _ ∨ _; omega
  have HC := Lib.hid hc
  have HNN := Lib.hid hN
  have HSS := Lib.hid hS
  clear hn hk hb hc hN hS c1
  go_enter Tryd.func6, Tryd.ntmps6
  go_wp2_with fail
  refine (first_any w).mono ?_
  rintro e w1 ⟨rfl, B⟩
  replace E := E.below B
  go_wp2_with fail
  refine (ring_any 0 w1).mono ?_
  rintro e w2 ⟨g, s, be, ce, bl, rfl, R, b⟩
  replace E := E.below b
  replace B := B.trans (b.mono B.size)
  clear b
  have hmk1 := made64 w2 n (by omega)
  have hmk2 := made64 (w2.alloc (obj64 (List.replicate n 0))) K (by omega)
  go_wp2_with fail
  have hb1 : Below w2.heap.size w2 (w2.alloc (obj64 (List.replicate n 0))) := (Below.refl _ _).alloc (Nat.le_refl _) _
  have hk1 : Blk64 (w2.alloc (obj64 (List.replicate n 0))) w2.heap.size (on1 n 0) := by rw [← on1_zero]; exact Blk64.new w2 _
  have hsz : (w2.alloc (obj64 (List.replicate n 0))).heap.size = w2.heap.size + 1 := Array.size_push _
  clear hmk1 hmk2
  generalize w2.alloc (obj64 (List.replicate n 0)) = w3 at hb1 hk1 hsz ⊢
  have hb2 : Below w2.heap.size w2 (w3.alloc (obj64 (List.replicate K 0))) := hb1.alloc hb1.size _
  have hb3 : Below w3.heap.size w3 (w3.alloc (obj64 (List.replicate K 0))) := (Below.refl _ _).alloc (Nat.le_refl _) _
  have hk2 : Blk64 (w3.alloc (obj64 (List.replicate K 0))) w3.heap.size (on1 K 0) := by rw [← on1_zero]; exact Blk64.new w3 _
  replace hk1 : Blk64 (w3.alloc (obj64 (List.replicate K 0))) w2.heap.size (on1 n 0) := (hb3.block _ hk1.lt).trans hk1
  rw [hsz] at hk2
  generalize w3.alloc (obj64 (List.replicate K 0)) = w4 at hb2 hk1 hk2 ⊢
  have HE := Lib.hid E
  have HR := Lib.hid R
  have HB2 := Lib.hid B
  have HK2 := Lib.hid hk2
  have HBB := Lib.hid hb2
  clear hb1 hb2 hb3 hsz E R B hk2 HA HB hm
  go_loopg [10] n (fun gh s10 wx => ∃ (i : Nat), gh = n - i ∧ i ≤ n ∧ s10 = .int .i64 (i : Int) ∧ Blk64 wx w2.heap.size (on1 n i) ∧ Hid (Blk64 wx (w2.heap.size + 1) (on1 K 0)) ∧ Hid (Below w2.heap.size w2 wx))
  case atStart => exact ⟨0, rfl, Nat.zero_le _, rfl, hk1, HK2, HBB⟩
  case round =>
    clear hk1 HK2 HBB
    obtain ⟨i, hg, hi, rfl, hk1, HK2, HBB⟩ := hrel
    have HG := Lib.hid hg
    clear hg
    by_cases hlt : i < n
    · have v1 : (i : Int) < (n : Int) := by omega
      have v0 : (0 : Int) ≤ (i : Int) := by omega
      have d1 := hk1.cell (i := i) (by rw [on1_length]; exact hlt)
      have d2 := hk1.free i
      generalize nth64 (on1 n i) i = zo at d1
      have HN := Lib.hid (Blk64.lay hk1 (on1_set n i))
      have HO : Hid (Blk64 (wr.setCell ⟨w2.heap.size, i, none⟩ (.int .i64 1)) (w2.heap.size + 1) (on1 K 0)) := (Below.heap_setCell _ _ _ _ (by show w2.heap.size + 1 ≠ w2.heap.size; omega)).trans HK2.out
      have HNB : Hid (Below w2.heap.size w2 (wr.setCell ⟨w2.heap.size, i, none⟩ (.int .i64 1))) := HBB.out.setCell (p := ⟨w2.heap.size, i, none⟩) (Nat.le_refl _) _
      clear hk1 HK2 HBB
      go_wp2_with fail
      go_roundg (n - (i + 1))
      case measure => have := HG.out; omega
      case rel => exact ⟨i + 1, rfl, by omega, by go_num, HN.out, HO, HNB⟩
    · obtain rfl : i = n := by omega
      have HK1' := Lib.hid hk1
      have hk2 := HK2.out
      clear hk1 HK2 HG hlt
      go_wp2_with fail
      go_loopg [11] K (fun gh s11 wx => ∃ (j : Nat), gh = K - j ∧ j ≤ K ∧ s11 = .int .i64 (j : Int) ∧ Blk64 wx (w2.heap.size + 1) (on1 K j) ∧ Hid (Blk64 wx w2.heap.size (on1 i i)) ∧ Hid (Below w2.heap.size w2 wx))
      case atStart => exact ⟨0, rfl, Nat.zero_le _, rfl, hk2, HK1', HBB⟩
      case round =>
        clear hk2 HK1' HBB
        obtain ⟨j, hg, hj, rfl, hk2, HK1', HBB⟩ := hrel
        have HG := Lib.hid hg
        clear hg
        by_cases hlt : j < K
        · have v1 : (j : Int) < (K : Int) := by omega
          have v0 : (0 : Int) ≤ (j : Int) := by omega
          have d1 := hk2.cell (i := j) (by rw [on1_length]; exact hlt)
          have d2 := hk2.free j
          generalize nth64 (on1 K j) j = zo at d1
          have HN := Lib.hid (Blk64.lay hk2 (on1_set K j))
          have HO : Hid (Blk64 (wr.setCell ⟨w2.heap.size + 1, j, none⟩ (.int .i64 1)) w2.heap.size (on1 i i)) := (Below.heap_setCell _ _ _ _ (by show w2.heap.size ≠ w2.heap.size + 1; omega)).trans HK1'.out
          have HNB : Hid (Below w2.heap.size w2 (wr.setCell ⟨w2.heap.size + 1, j, none⟩ (.int .i64 1))) := HBB.out.setCell (p := ⟨w2.heap.size + 1, j, none⟩) (by show w2.heap.size ≤ w2.heap.size + 1; omega) _
          clear hk2 HK1' HBB
          go_wp2_with fail
          go_roundg (K - (j + 1))
          case measure => have := HG.out; omega
          case rel => exact ⟨j + 1, rfl, by omega, by go_num, HN.out, HO, HNB⟩
        · obtain rfl : j = K := by omega
          have r1 := Blk64.rowz HK1'.out (by rw [on1_length]; omega)
          have r2 := Blk64.rowz hk2 (by rw [on1_length]; omega)
          rw [on1_length] at r1 r2
          have R := HR.out.below HBB.out
          have E := HE.out.below HBB.out
          have B := HB2.out.trans (HBB.out.mono HB2.out.size)
          clear hk2 HK1' HBB HG hlt HR HE HB2
          go_wp2_with fail
          refine (pmul_any (m := rm 0) _ i i _ _ j j _ wr R r1 r2 (by omega) (by omega) (by rw [on1_top, on1_top]; exact HC.out)).mono ?_
          rintro e w5 ⟨a', n', cap', rfl, hO, b⟩
          replace R := R.below b
          replace E := E.below b
          replace B := B.trans (b.mono B.size)
          have q1 := eql_err y
          have q2 := neq_err y
          have e1 := E.1
          unfold Sent at e1
          obtain ⟨T, hT⟩ : ∃ T : Nat, T = 2049 := ⟨_, rfl⟩
          have hTi : (T : Int) = 2049 := by omega
          have hmk := made64 w5 T (by omega)
          rw [hTi] at hmk
          have HT := Lib.hid hT
          clear hT hTi
          clear b r1 r2
          rcases HU4.out with u4 | ⟨u4, u5⟩
          all_goals
            go_wp2_with fail
            have b7 : Below w5.heap.size w5 (w5.alloc (obj64 (List.replicate T 0))) := (Below.refl _ _).alloc (Nat.le_refl _) _
            have E7 := E.below b7
            have B7 := B.trans (b7.mono B.size)
            clear hmk e1 b7
            generalize w5.alloc (obj64 (List.replicate T 0)) = w7 at E7 B7 ⊢
            refine (from_long _ T T w7 (by have := HT.out; omega) (by have := HT.out; omega) y E7).mono ?_
            rintro e w8 ⟨rfl, b⟩
            have e2 := (E7.below b).1
            have B8 := B7.trans (b.mono B7.size)
            unfold Sent at e2
            clear b
            go_wp2_with fail
            go_ret
            exact ⟨rfl, B8⟩
set_option maxRecDepth 100000 in
set_option maxHeartbeats 4000000 in
theorem coreQA (x0 x1 : Int) (n k K : Nat) (w : World) (y : Addr) (E : ErrAt w 1 y) (hn : n = (x0 % 2048).toNat) (hk : k = (x1 % 2048).toNat) (hb : 200000 < n * k) (hK : K = 200000 / n) (hc : 2048 < n + K) :
    Calls Tryd.prog 6 #[.int .i64 x0, .int .i64 x1] w fun e w' => e = .returned (.bool true) ∧ Below w.heap.size w w' := by
  have hn7 : n ≤ 2047 := by omega
  have hk7 : k ≤ 2047 := by omega
  have hn0 : 0 < n := by
    rcases Nat.eq_zero_or_pos n with h | h
    · rw [h, Nat.zero_mul] at hb; omega
    · exact h
  have hKk : K ≤ 2047 := by
    rw [hK]
    have h1 : 200000 / n < k := (Nat.div_lt_iff_lt_mul hn0).2 (by rw [Nat.mul_comm]; exact hb)
    omega
  have hq : (200000 : Int).tdiv (n : Int) = (K : Int) := by
    rw [hK]; rfl
  have hq2 : (200000 : Int) / (n : Int) = (K : Int) := by
    rw [hK]; rfl
  have z0 : ((n : Int) == 0) = false := by rw [beq_eq_false_iff_ne]; omega
  have z1 : ¬ (n : Int) = 0 := by omega
  have z2 : ¬ n = 0 := by omega
  have HA : bits .and .i64 x0 2047 = (n : Int) := by rw [and2047, hn]
  have HB : bits .and .i64 x1 2047 = (k : Int) := by rw [and2047, hk]
  obtain ⟨N, hN⟩ : ∃ N, N = n * k := ⟨_, rfl⟩
  have hm : (n : Int) * (k : Int) = (N : Int) := by rw [hN]; exact (Int.natCast_mul n k).symm
  have hNb : N ≤ 4190209 := by rw [hN]; exact Nat.mul_le_mul hn7 hk7
  have t7 : decide ((200000 : Int) < (N : Int)) = true := decide_eq_true (by rw [← hN] at hb; omega)
  obtain ⟨S, hS⟩ : ∃ S, S = n + K := ⟨_, rfl⟩
  have hSm : (n : Int) + (K : Int) = (S : Int) := by omega
  have hSb : S ≤ 4094 := by omega
  have u1 : decide ((2048 : Int) < (S : Int)) = true := decide_eq_true (by omega)
  have u2 : (0 : Int) < (n : Int) := by omega
  have u3 : (0 : Int) < (K : Int) := by omega
  have u4 : decide ((0 : Int) < (n : Int)) = true := decide_eq_true u2
  have u5 : decide ((0 : Int) < (K : Int)) = true := decide_eq_true u3
  have u6 : decide ((S : Int) ≤ 2048) = false := decide_eq_false (by omega)
  have u8 : 0 < n := by omega
  have u9 : 0 < K := by omega
  have HC := Lib.hid hc
  have HNN := Lib.hid hN
  have HSS := Lib.hid hS
  clear hn hk hb hc hN hS hK
  go_enter Tryd.func6, Tryd.ntmps6
  go_wp2_with fail
  refine (first_any w).mono ?_
  rintro e w1 ⟨rfl, B⟩
  replace E := E.below B
  go_wp2_with fail
  refine (ring_any 0 w1).mono ?_
  rintro e w2 ⟨g, s, be, ce, bl, rfl, R, b⟩
  replace E := E.below b
  replace B := B.trans (b.mono B.size)
  clear b
  have hmk1 := made64 w2 n (by omega)
  have hmk2 := made64 (w2.alloc (obj64 (List.replicate n 0))) K (by omega)
  go_wp2_with fail
  have hb1 : Below w2.heap.size w2 (w2.alloc (obj64 (List.replicate n 0))) := (Below.refl _ _).alloc (Nat.le_refl _) _
  have hk1 : Blk64 (w2.alloc (obj64 (List.replicate n 0))) w2.heap.size (on1 n 0) := by rw [← on1_zero]; exact Blk64.new w2 _
  have hsz : (w2.alloc (obj64 (List.replicate n 0))).heap.size = w2.heap.size + 1 := Array.size_push _
  clear hmk1 hmk2
  generalize w2.alloc (obj64 (List.replicate n 0)) = w3 at hb1 hk1 hsz ⊢
  have hb2 : Below w2.heap.size w2 (w3.alloc (obj64 (List.replicate K 0))) := hb1.alloc hb1.size _
  have hb3 : Below w3.heap.size w3 (w3.alloc (obj64 (List.replicate K 0))) := (Below.refl _ _).alloc (Nat.le_refl _) _
  have hk2 : Blk64 (w3.alloc (obj64 (List.replicate K 0))) w3.heap.size (on1 K 0) := by rw [← on1_zero]; exact Blk64.new w3 _
  replace hk1 : Blk64 (w3.alloc (obj64 (List.replicate K 0))) w2.heap.size (on1 n 0) := (hb3.block _ hk1.lt).trans hk1
  rw [hsz] at hk2
  generalize w3.alloc (obj64 (List.replicate K 0)) = w4 at hb2 hk1 hk2 ⊢
  have HE := Lib.hid E
  have HR := Lib.hid R
  have HB2 := Lib.hid B
  have HK2 := Lib.hid hk2
  have HBB := Lib.hid hb2
  clear hb1 hb2 hb3 hsz E R B hk2 HA HB hm
  go_loopg [10] n (fun gh s10 wx => ∃ (i : Nat), gh = n - i ∧ i ≤ n ∧ s10 = .int .i64 (i : Int) ∧ Blk64 wx w2.heap.size (on1 n i) ∧ Hid (Blk64 wx (w2.heap.size + 1) (on1 K 0)) ∧ Hid (Below w2.heap.size w2 wx))
  case atStart => exact ⟨0, rfl, Nat.zero_le _, rfl, hk1, HK2, HBB⟩
  case round =>
    clear hk1 HK2 HBB
    obtain ⟨i, hg, hi, rfl, hk1, HK2, HBB⟩ := hrel
    have HG := Lib.hid hg
    clear hg
    by_cases hlt : i < n
    · have v1 : (i : Int) < (n : Int) := by omega
      have v0 : (0 : Int) ≤ (i : Int) := by omega
      have d1 := hk1.cell (i := i) (by rw [on1_length]; exact hlt)
      have d2 := hk1.free i
      generalize nth64 (on1 n i) i = zo at d1
      have HN := Lib.hid (Blk64.lay hk1 (on1_set n i))
      have HO : Hid (Blk64 (wr.setCell ⟨w2.heap.size, i, none⟩ (.int .i64 1)) (w2.heap.size + 1) (on1 K 0)) := (Below.heap_setCell _ _ _ _ (by show w2.heap.size + 1 ≠ w2.heap.size; omega)).trans HK2.out
      have HNB : Hid (Below w2.heap.size w2 (wr.setCell ⟨w2.heap.size, i, none⟩ (.int .i64 1))) := HBB.out.setCell (p := ⟨w2.heap.size, i, none⟩) (Nat.le_refl _) _
      clear hk1 HK2 HBB
      go_wp2_with fail
      go_roundg (n - (i + 1))
      case measure => have := HG.out; omega
      case rel => exact ⟨i + 1, rfl, by omega, by go_num, HN.out, HO, HNB⟩
    · obtain rfl : i = n := by omega
      have HK1' := Lib.hid hk1
      have hk2 := HK2.out
      clear hk1 HK2 HG hlt
      go_wp2_with fail
      go_loopg [11] K (fun gh s11 wx => ∃ (j : Nat), gh = K - j ∧ j ≤ K ∧ s11 = .int .i64 (j : Int) ∧ Blk64 wx (w2.heap.size + 1) (on1 K j) ∧ Hid (Blk64 wx w2.heap.size (on1 i i)) ∧ Hid (Below w2.heap.size w2 wx))
      case atStart => exact ⟨0, rfl, Nat.zero_le _, rfl, hk2, HK1', HBB⟩
      case round =>
        clear hk2 HK1' HBB
        obtain ⟨j, hg, hj, rfl, hk2, HK1', HBB⟩ := hrel
        have HG := Lib.hid hg
        clear hg
        by_cases hlt : j < K
        · have v1 : (j : Int) < (K : Int) := by omega
          have v0 : (0 : Int) ≤ (j : Int) := by omega
          have d1 := hk2.cell (i := j) (by rw [on1_length]; exact hlt)
          have d2 := hk2.free j
          generalize nth64 (on1 K j) j = zo at d1
          have HN := Lib.hid (Blk64.lay hk2 (on1_set K j))
          have HO : Hid (Blk64 (wr.setCell ⟨w2.heap.size + 1, j, none⟩ (.int .i64 1)) w2.heap.size (on1 i i)) := (Below.heap_setCell _ _ _ _ (by show w2.heap.size ≠ w2.heap.size + 1; omega)).trans HK1'.out
          have HNB : Hid (Below w2.heap.size w2 (wr.setCell ⟨w2.heap.size + 1, j, none⟩ (.int .i64 1))) := HBB.out.setCell (p := ⟨w2.heap.size + 1, j, none⟩) (by show w2.heap.size ≤ w2.heap.size + 1; omega) _
          clear hk2 HK1' HBB
          go_wp2_with fail
          go_roundg (K - (j + 1))
          case measure => have := HG.out; omega
          case rel => exact ⟨j + 1, rfl, by omega, by go_num, HN.out, HO, HNB⟩
        · obtain rfl : j = K := by omega
          have r1 := Blk64.rowz HK1'.out (by rw [on1_length]; omega)
          have r2 := Blk64.rowz hk2 (by rw [on1_length]; omega)
          rw [on1_length] at r1 r2
          have R := HR.out.below HBB.out
          have E := HE.out.below HBB.out
          have B := HB2.out.trans (HBB.out.mono HB2.out.size)
          clear hk2 HK1' HBB HG hlt HR HE HB2
          go_wp2_with fail
          refine (pmul_long (m := rm 0) _ i i _ _ j j _ wr R r1 r2 (by omega) (by omega) (by rw [on1_top, on1_top]; exact HC.out) y E).mono ?_
          rintro e w5 ⟨rfl, b⟩
          replace R := R.below b
          replace E := E.below b
          replace B := B.trans (b.mono B.size)
          have q1 := eql_err y
          have q2 := neq_err y
          have e1 := E.1
          unfold Sent at e1
          obtain ⟨T, hT⟩ : ∃ T : Nat, T = 2049 := ⟨_, rfl⟩
          have hTi : (T : Int) = 2049 := by omega
          have hmk := made64 w5 T (by omega)
          rw [hTi] at hmk
          have HT := Lib.hid hT
          clear hT hTi
          clear b r1 r2
          go_wp2_with fail
          have b7 : Below w5.heap.size w5 (w5.alloc (obj64 (List.replicate T 0))) := (Below.refl _ _).alloc (Nat.le_refl _) _
          have E7 := E.below b7
          have B7 := B.trans (b7.mono B.size)
          clear hmk e1 b7
          generalize w5.alloc (obj64 (List.replicate T 0)) = w7 at E7 B7 ⊢
          refine (from_long _ T T w7 (by have := HT.out; omega) (by have := HT.out; omega) y E7).mono ?_
          rintro e w8 ⟨rfl, b⟩
          have e2 := (E7.below b).1
          have B8 := B7.trans (b.mono B7.size)
          unfold Sent at e2
          clear b
          go_wp2_with fail
          go_ret
          exact ⟨rfl, B8⟩
set_option maxRecDepth 100000 in
set_option maxHeartbeats 4000000 in
theorem coreQB (x0 x1 : Int) (n k K : Nat) (w : World) (y : Addr) (E : ErrAt w 1 y) (hn : n = (x0 % 2048).toNat) (hk : k = (x1 % 2048).toNat) (hb : 200000 < n * k) (hK : K = 200000 / n) (hc : n + K ≤ 2048) (c1 : 0 < n) (c2 : 0 < K) :
    Calls Tryd.prog 6 #[.int .i64 x0, .int .i64 x1] w fun e w' => e = .returned (.bool true) ∧ Below w.heap.size w w' := by
  have hn7 : n ≤ 2047 := by omega
  have hk7 : k ≤ 2047 := by omega
  have hn0 : 0 < n := by
    rcases Nat.eq_zero_or_pos n with h | h
    · rw [h, Nat.zero_mul] at hb; omega
    · exact h
  have hKk : K ≤ 2047 := by
    rw [hK]
    have h1 : 200000 / n < k := (Nat.div_lt_iff_lt_mul hn0).2 (by rw [Nat.mul_comm]; exact hb)
    omega
  have hq : (200000 : Int).tdiv (n : Int) = (K : Int) := by
    rw [hK]; rfl
  have hq2 : (200000 : Int) / (n : Int) = (K : Int) := by
    rw [hK]; rfl
  have z0 : ((n : Int) == 0) = false := by rw [beq_eq_false_iff_ne]; omega
  have z1 : ¬ (n : Int) = 0 := by omega
  have z2 : ¬ n = 0 := by omega
  have HA : bits .and .i64 x0 2047 = (n : Int) := by rw [and2047, hn]
  have HB : bits .and .i64 x1 2047 = (k : Int) := by rw [and2047, hk]
  obtain ⟨N, hN⟩ : ∃ N, N = n * k := ⟨_, rfl⟩
  have hm : (n : Int) * (k : Int) = (N : Int) := by rw [hN]; exact (Int.natCast_mul n k).symm
  have hNb : N ≤ 4190209 := by rw [hN]; exact Nat.mul_le_mul hn7 hk7
  have t7 : decide ((200000 : Int) < (N : Int)) = true := decide_eq_true (by rw [← hN] at hb; omega)
  obtain ⟨S, hS⟩ : ∃ S, S = n + K := ⟨_, rfl⟩
  have hSm : (n : Int) + (K : Int) = (S : Int) := by omega
  have hSb : S ≤ 4094 := by omega
  have u1 : decide ((2048 : Int) < (S : Int)) = false := decide_eq_false (by omega)
  have u2 : (0 : Int) < (n : Int) := by omega
  have u3 : (0 : Int) < (K : Int) := by omega
  have u4 : decide ((0 : Int) < (n : Int)) = true := decide_eq_true u2
  have u5 : decide ((0 : Int) < (K : Int)) = true := decide_eq_true u3
  have u6 : decide ((S : Int) ≤ 2048) = true := decide_eq_true (by omega)
  obtain ⟨n1, hn1⟩ : ∃ n1, n = n1 + 1 := ⟨n - 1, by omega⟩
  obtain ⟨K1, hK1⟩ : ∃ K1, K = K1 + 1 := ⟨K - 1, by omega⟩
  have HN1 := Lib.hid hn1
  have HK1 := Lib.hid hK1
  have hS1 : (S : Int) - 1 = ((n1 + K1 + 1 : Nat) : Int) := by omega
  obtain ⟨S1, hS1e⟩ : ∃ S1, S1 = n1 + K1 + 1 := ⟨_, rfl⟩
  rw [← hS1e] at hS1
  have HS1 := Lib.hid hS1e
  clear hn1 hK1 hS1e
  have HC := Lib.hid hc
  have HNN := Lib.hid hN
  have HSS := Lib.hid hS
  clear hn hk hb hc hN hS hK
  go_enter Tryd.func6, Tryd.ntmps6
  go_wp2_with fail
  refine (first_any w).mono ?_
  rintro e w1 ⟨rfl, B⟩
  replace E := E.below B
  go_wp2_with fail
  refine (ring_any 0 w1).mono ?_
  rintro e w2 ⟨g, s, be, ce, bl, rfl, R, b⟩
  replace E := E.below b
  replace B := B.trans (b.mono B.size)
  clear b
  have hmk1 := made64 w2 n (by omega)
  have hmk2 := made64 (w2.alloc (obj64 (List.replicate n 0))) K (by omega)
  go_wp2_with fail
  have hb1 : Below w2.heap.size w2 (w2.alloc (obj64 (List.replicate n 0))) := (Below.refl _ _).alloc (Nat.le_refl _) _
  have hk1 : Blk64 (w2.alloc (obj64 (List.replicate n 0))) w2.heap.size (on1 n 0) := by rw [← on1_zero]; exact Blk64.new w2 _
  have hsz : (w2.alloc (obj64 (List.replicate n 0))).heap.size = w2.heap.size + 1 := Array.size_push _
  clear hmk1 hmk2
  generalize w2.alloc (obj64 (List.replicate n 0)) = w3 at hb1 hk1 hsz ⊢
  have hb2 : Below w2.heap.size w2 (w3.alloc (obj64 (List.replicate K 0))) := hb1.alloc hb1.size _
  have hb3 : Below w3.heap.size w3 (w3.alloc (obj64 (List.replicate K 0))) := (Below.refl _ _).alloc (Nat.le_refl _) _
  have hk2 : Blk64 (w3.alloc (obj64 (List.replicate K 0))) w3.heap.size (on1 K 0) := by rw [← on1_zero]; exact Blk64.new w3 _
  replace hk1 : Blk64 (w3.alloc (obj64 (List.replicate K 0))) w2.heap.size (on1 n 0) := (hb3.block _ hk1.lt).trans hk1
  rw [hsz] at hk2
  generalize w3.alloc (obj64 (List.replicate K 0)) = w4 at hb2 hk1 hk2 ⊢
  have HE := Lib.hid E
  have HR := Lib.hid R
  have HB2 := Lib.hid B
  have HK2 := Lib.hid hk2
  have HBB := Lib.hid hb2
  clear hb1 hb2 hb3 hsz E R B hk2 HA HB hm
  go_loopg [10] n (fun gh s10 wx => ∃ (i : Nat), gh = n - i ∧ i ≤ n ∧ s10 = .int .i64 (i : Int) ∧ Blk64 wx w2.heap.size (on1 n i) ∧ Hid (Blk64 wx (w2.heap.size + 1) (on1 K 0)) ∧ Hid (Below w2.heap.size w2 wx))
  case atStart => exact ⟨0, rfl, Nat.zero_le _, rfl, hk1, HK2, HBB⟩
  case round =>
    clear hk1 HK2 HBB
    obtain ⟨i, hg, hi, rfl, hk1, HK2, HBB⟩ := hrel
    have HG := Lib.hid hg
    clear hg
    by_cases hlt : i < n
    · have v1 : (i : Int) < (n : Int) := by omega
      have v0 : (0 : Int) ≤ (i : Int) := by omega
      have d1 := hk1.cell (i := i) (by rw [on1_length]; exact hlt)
      have d2 := hk1.free i
      generalize nth64 (on1 n i) i = zo at d1
      have HN := Lib.hid (Blk64.lay hk1 (on1_set n i))
      have HO : Hid (Blk64 (wr.setCell ⟨w2.heap.size, i, none⟩ (.int .i64 1)) (w2.heap.size + 1) (on1 K 0)) := (Below.heap_setCell _ _ _ _ (by show w2.heap.size + 1 ≠ w2.heap.size; omega)).trans HK2.out
      have HNB : Hid (Below w2.heap.size w2 (wr.setCell ⟨w2.heap.size, i, none⟩ (.int .i64 1))) := HBB.out.setCell (p := ⟨w2.heap.size, i, none⟩) (Nat.le_refl _) _
      clear hk1 HK2 HBB
      go_wp2_with fail
      go_roundg (n - (i + 1))
      case measure => have := HG.out; omega
      case rel => exact ⟨i + 1, rfl, by omega, by go_num, HN.out, HO, HNB⟩
    · obtain rfl : i = n := by omega
      have HK1' := Lib.hid hk1
      have hk2 := HK2.out
      clear hk1 HK2 HG hlt
      go_wp2_with fail
      go_loopg [11] K (fun gh s11 wx => ∃ (j : Nat), gh = K - j ∧ j ≤ K ∧ s11 = .int .i64 (j : Int) ∧ Blk64 wx (w2.heap.size + 1) (on1 K j) ∧ Hid (Blk64 wx w2.heap.size (on1 i i)) ∧ Hid (Below w2.heap.size w2 wx))
      case atStart => exact ⟨0, rfl, Nat.zero_le _, rfl, hk2, HK1', HBB⟩
      case round =>
        clear hk2 HK1' HBB
        obtain ⟨j, hg, hj, rfl, hk2, HK1', HBB⟩ := hrel
        have HG := Lib.hid hg
        clear hg
        by_cases hlt : j < K
        · have v1 : (j : Int) < (K : Int) := by omega
          have v0 : (0 : Int) ≤ (j : Int) := by omega
          have d1 := hk2.cell (i := j) (by rw [on1_length]; exact hlt)
          have d2 := hk2.free j
          generalize nth64 (on1 K j) j = zo at d1
          have HN := Lib.hid (Blk64.lay hk2 (on1_set K j))
          have HO : Hid (Blk64 (wr.setCell ⟨w2.heap.size + 1, j, none⟩ (.int .i64 1)) w2.heap.size (on1 i i)) := (Below.heap_setCell _ _ _ _ (by show w2.heap.size ≠ w2.heap.size + 1; omega)).trans HK1'.out
          have HNB : Hid (Below w2.heap.size w2 (wr.setCell ⟨w2.heap.size + 1, j, none⟩ (.int .i64 1))) := HBB.out.setCell (p := ⟨w2.heap.size + 1, j, none⟩) (by show w2.heap.size ≤ w2.heap.size + 1; omega) _
          clear hk2 HK1' HBB
          go_wp2_with fail
          go_roundg (K - (j + 1))
          case measure => have := HG.out; omega
          case rel => exact ⟨j + 1, rfl, by omega, by go_num, HN.out, HO, HNB⟩
        · obtain rfl : j = K := by omega
          have r1 := Blk64.rowz HK1'.out (by rw [on1_length]; omega)
          have r2 := Blk64.rowz hk2 (by rw [on1_length]; omega)
          rw [on1_length] at r1 r2
          have R := HR.out.below HBB.out
          have E := HE.out.below HBB.out
          have B := HB2.out.trans (HBB.out.mono HB2.out.size)
          clear hk2 HK1' HBB HG hlt HR HE HB2
          go_wp2_with fail
          refine (pmul_any (m := rm 0) _ i i _ _ j j _ wr R r1 r2 (by omega) (by omega) (by rw [on1_top, on1_top]; exact HC.out)).mono ?_
          rintro e w5 ⟨a', n', cap', rfl, hO, b⟩
          have hd := (on1_dg (m := rm 0) n1).mul (on1_dg (m := rm 0) K1)
          rw [← HN1.out, ← HK1.out] at hd
          obtain rfl : n' = S1 := by rw [out_len hO hd]; exact HS1.out.symm
          clear hd hO
          replace R := R.below b
          replace E := E.below b
          replace B := B.trans (b.mono B.size)
          have q1 := eql_err y
          have q2 := neq_err y
          have e1 := E.1
          unfold Sent at e1
          obtain ⟨T, hT⟩ : ∃ T : Nat, T = 2049 := ⟨_, rfl⟩
          have hTi : (T : Int) = 2049 := by omega
          have hmk := made64 w5 T (by omega)
          rw [hTi] at hmk
          have HT := Lib.hid hT
          clear hT hTi
          clear b r1 r2
          go_wp2_with fail
          have b7 : Below w5.heap.size w5 (w5.alloc (obj64 (List.replicate T 0))) := (Below.refl _ _).alloc (Nat.le_refl _) _
          have E7 := E.below b7
          have B7 := B.trans (b7.mono B.size)
          clear hmk e1 b7
          generalize w5.alloc (obj64 (List.replicate T 0)) = w7 at E7 B7 ⊢
          refine (from_long _ T T w7 (by have := HT.out; omega) (by have := HT.out; omega) y E7).mono ?_
          rintro e w8 ⟨rfl, b⟩
          have e2 := (E7.below b).1
          have B8 := B7.trans (b.mono B7.size)
          unfold Sent at e2
          clear b
          go_wp2_with fail
          go_ret
          exact ⟨rfl, B8⟩
set_option maxRecDepth 100000 in
set_option maxHeartbeats 4000000 in
theorem coreQC (x0 x1 : Int) (n k K : Nat) (w : World) (y : Addr) (E : ErrAt w 1 y) (hn : n = (x0 % 2048).toNat) (hk : k = (x1 % 2048).toNat) (hb : 200000 < n * k) (hK : K = 200000 / n) (hc : n + K ≤ 2048) (c1 : n = 0 ∨ K = 0) :
    Calls Tryd.prog 6 #[.int .i64 x0, .int .i64 x1] w fun e w' => e = .returned (.bool true) ∧ Below w.heap.size w w' := by
  have hn7 : n ≤ 2047 := by omega
  have hk7 : k ≤ 2047 := by omega
  have hn0 : 0 < n := by
    rcases Nat.eq_zero_or_pos n with h | h
    · rw [h, Nat.zero_mul] at hb; omega
    · exact h
  have hKk : K ≤ 2047 := by
    rw [hK]
    have h1 : 200000 / n < k := (Nat.div_lt_iff_lt_mul hn0).2 (by rw [Nat.mul_comm]; exact hb)
    omega
  have hq : (200000 : Int).tdiv (n : Int) = (K : Int) := by
    rw [hK]; rfl
  have hq2 : (200000 : Int) / (n : Int) = (K : Int) := by
    rw [hK]; rfl
  have z0 : ((n : Int) == 0) = false := by rw [beq_eq_false_iff_ne]; omega
  have z1 : ¬ (n : Int) = 0 := by omega
  have z2 : ¬ n = 0 := by omega
  have HA : bits .and .i64 x0 2047 = (n : Int) := by rw [and2047, hn]
  have HB : bits .and .i64 x1 2047 = (k : Int) := by rw [and2047, hk]
  obtain ⟨N, hN⟩ : ∃ N, N = n * k := ⟨_, rfl⟩
  have hm : (n : Int) * (k : Int) = (N : Int) := by rw [hN]; exact (Int.natCast_mul n k).symm
  have hNb : N ≤ 4190209 := by rw [hN]; exact Nat.mul_le_mul hn7 hk7
  have t7 : decide ((200000 : Int) < (N : Int)) = true := decide_eq_true (by rw [← hN] at hb; omega)
  obtain ⟨S, hS⟩ : ∃ S, S = n + K := ⟨_, rfl⟩
  have hSm : (n : Int) + (K : Int) = (S : Int) := by omega
  have hSb : S ≤ 4094 := by omega
  have u1 : decide ((2048 : Int) < (S : Int)) = false := decide_eq_false (by omega)
  have u6 : decide ((S : Int) ≤ 2048) = true := decide_eq_true (by omega)
  have HU4 : Hid ((¬ 0 < n) ∨ (0 < n ∧ ¬ 0 < K)) := by show _ ∨ _; omega
  have HC := Lib.hid hc
  have HNN := Lib.hid hN
  have HSS := Lib.hid hS
  clear hn hk hb hc hN hS hK c1
  go_enter Tryd.func6, Tryd.ntmps6
  go_wp2_with fail
  refine (first_any w).mono ?_
  rintro e w1 ⟨rfl, B⟩
  replace E := E.below B
  go_wp2_with fail
  refine (ring_any 0 w1).mono ?_
  rintro e w2 ⟨g, s, be, ce, bl, rfl, R, b⟩
  replace E := E.below b
  replace B := B.trans (b.mono B.size)
  clear b
  have hmk1 := made64 w2 n (by omega)
  have hmk2 := made64 (w2.alloc (obj64 (List.replicate n 0))) K (by omega)
  go_wp2_with fail
  have hb1 : Below w2.heap.size w2 (w2.alloc (obj64 (List.replicate n 0))) := (Below.refl _ _).alloc (Nat.le_refl _) _
  have hk1 : Blk64 (w2.alloc (obj64 (List.replicate n 0))) w2.heap.size (on1 n 0) := by rw [← on1_zero]; exact Blk64.new w2 _
  have hsz : (w2.alloc (obj64 (List.replicate n 0))).heap.size = w2.heap.size + 1 := Array.size_push _
  clear hmk1 hmk2
  generalize w2.alloc (obj64 (List.replicate n 0)) = w3 at hb1 hk1 hsz ⊢
  have hb2 : Below w2.heap.size w2 (w3.alloc (obj64 (List.replicate K 0))) := hb1.alloc hb1.size _
  have hb3 : Below w3.heap.size w3 (w3.alloc (obj64 (List.replicate K 0))) := (Below.refl _ _).alloc (Nat.le_refl _) _
  have hk2 : Blk64 (w3.alloc (obj64 (List.replicate K 0))) w3.heap.size (on1 K 0) := by rw [← on1_zero]; exact Blk64.new w3 _
  replace hk1 : Blk64 (w3.alloc (obj64 (List.replicate K 0))) w2.heap.size (on1 n 0) := (hb3.block _ hk1.lt).trans hk1
  rw [hsz] at hk2
  generalize w3.alloc (obj64 (List.replicate K 0)) = w4 at hb2 hk1 hk2 ⊢
  have HE := Lib.hid E
  have HR := Lib.hid R
  have HB2 := Lib.hid B
  have HK2 := Lib.hid hk2
  have HBB := Lib.hid hb2
  clear hb1 hb2 hb3 hsz E R B hk2 HA HB hm
  go_loopg [10] n (fun gh s10 wx => ∃ (i : Nat), gh = n - i ∧ i ≤ n ∧ s10 = .int .i64 (i : Int) ∧ Blk64 wx w2.heap.size (on1 n i) ∧ Hid (Blk64 wx (w2.heap.size + 1) (on1 K 0)) ∧ Hid (Below w2.heap.size w2 wx))
  case atStart => exact ⟨0, rfl, Nat.zero_le _, rfl, hk1, HK2, HBB⟩
  case round =>
    clear hk1 HK2 HBB
    obtain ⟨i, hg, hi, rfl, hk1, HK2, HBB⟩ := hrel
    have HG := Lib.hid hg
    clear hg
    by_cases hlt : i < n
    · have v1 : (i : Int) < (n : Int) := by omega
      have v0 : (0 : Int) ≤ (i : Int) := by omega
      have d1 := hk1.cell (i := i) (by rw [on1_length]; exact hlt)
      have d2 := hk1.free i
      generalize nth64 (on1 n i) i = zo at d1
      have HN := Lib.hid (Blk64.lay hk1 (on1_set n i))
      have HO : Hid (Blk64 (wr.setCell ⟨w2.heap.size, i, none⟩ (.int .i64 1)) (w2.heap.size + 1) (on1 K 0)) := (Below.heap_setCell _ _ _ _ (by show w2.heap.size + 1 ≠ w2.heap.size; omega)).trans HK2.out
      have HNB : Hid (Below w2.heap.size w2 (wr.setCell ⟨w2.heap.size, i, none⟩ (.int .i64 1))) := HBB.out.setCell (p := ⟨w2.heap.size, i, none⟩) (Nat.le_refl _) _
      clear hk1 HK2 HBB
      go_wp2_with fail
      go_roundg (n - (i + 1))
      case measure => have := HG.out; omega
      case rel => exact ⟨i + 1, rfl, by omega, by go_num, HN.out, HO, HNB⟩
    · obtain rfl : i = n := by omega
      have HK1' := Lib.hid hk1
      have hk2 := HK2.out
      clear hk1 HK2 HG hlt
      go_wp2_with fail
      go_loopg [11] K (fun gh s11 wx => ∃ (j : Nat), gh = K - j ∧ j ≤ K ∧ s11 = .int .i64 (j : Int) ∧ Blk64 wx (w2.heap.size + 1) (on1 K j) ∧ Hid (Blk64 wx w2.heap.size (on1 i i)) ∧ Hid (Below w2.heap.size w2 wx))
      case atStart => exact ⟨0, rfl, Nat.zero_le _, rfl, hk2, HK1', HBB⟩
      case round =>
        clear hk2 HK1' HBB
        obtain ⟨j, hg, hj, rfl, hk2, HK1', HBB⟩ := hrel
        have HG := Lib.hid hg
        clear hg
        by_cases hlt : j < K
        · have v1 : (j : Int) < (K : Int) := by omega
          have v0 : (0 : Int) ≤ (j : Int) := by omega
          have d1 := hk2.cell (i := j) (by rw [on1_length]; exact hlt)
          have d2 := hk2.free j
          generalize nth64 (on1 K j) j = zo at d1
          have HN := Lib.hid (Blk64.lay hk2 (on1_set K j))
          have HO : Hid (Blk64 (wr.setCell ⟨w2.heap.size + 1, j, none⟩ (.int .i64 1)) w2.heap.size (on1 i i)) := (Below.heap_setCell _ _ _ _ (by show w2.heap.size ≠ w2.heap.size + 1; omega)).trans HK1'.out
          have HNB : Hid (Below w2.heap.size w2 (wr.setCell ⟨w2.heap.size + 1, j, none⟩ (.int .i64 1))) := HBB.out.setCell (p := ⟨w2.heap.size + 1, j, none⟩) (by show w2.heap.size ≤ w2.heap.size + 1; omega) _
          clear hk2 HK1' HBB
          go_wp2_with fail
          go_roundg (K - (j + 1))
          case measure => have := HG.out; omega
          case rel => exact ⟨j + 1, rfl, by omega, by go_num, HN.out, HO, HNB⟩
        · obtain rfl : j = K := by omega
          have r1 := Blk64.rowz HK1'.out (by rw [on1_length]; omega)
          have r2 := Blk64.rowz hk2 (by rw [on1_length]; omega)
          rw [on1_length] at r1 r2
          have R := HR.out.below HBB.out
          have E := HE.out.below HBB.out
          have B := HB2.out.trans (HBB.out.mono HB2.out.size)
          clear hk2 HK1' HBB HG hlt HR HE HB2
          go_wp2_with fail
          refine (pmul_any (m := rm 0) _ i i _ _ j j _ wr R r1 r2 (by omega) (by omega) (by rw [on1_top, on1_top]; exact HC.out)).mono ?_
          rintro e w5 ⟨a', n', cap', rfl, hO, b⟩
          replace R := R.below b
          replace E := E.below b
          replace B := B.trans (b.mono B.size)
          have q1 := eql_err y
          have q2 := neq_err y
          have e1 := E.1
          unfold Sent at e1
          obtain ⟨T, hT⟩ : ∃ T : Nat, T = 2049 := ⟨_, rfl⟩
          have hTi : (T : Int) = 2049 := by omega
          have hmk := made64 w5 T (by omega)
          rw [hTi] at hmk
          have HT := Lib.hid hT
          clear hT hTi
          clear b r1 r2
          obtain ⟨u4, u5⟩ : 0 < i ∧ ¬ 0 < j := by have := HU4.out; omega
          go_wp2_with fail
          have b7 : Below w5.heap.size w5 (w5.alloc (obj64 (List.replicate T 0))) := (Below.refl _ _).alloc (Nat.le_refl _) _
          have E7 := E.below b7
          have B7 := B.trans (b7.mono B.size)
          clear hmk e1 b7
          generalize w5.alloc (obj64 (List.replicate T 0)) = w7 at E7 B7 ⊢
          refine (from_long _ T T w7 (by have := HT.out; omega) (by have := HT.out; omega) y E7).mono ?_
          rintro e w8 ⟨rfl, b⟩
          have e2 := (E7.below b).1
          have B8 := B7.trans (b.mono B7.size)
          unfold Sent at e2
          clear b
          go_wp2_with fail
          go_ret
          exact ⟨rfl, B8⟩
theorem walk (x0 x1 : Int) (W : World) (w0 : (Lit.int .i64 x0).wf = true) (w1 : (Lit.int .i64 x1).wf = true) (h : LaidPolyLong.Holds W) :
    Calls Tryd.prog 6 #[.int .i64 x0, .int .i64 x1] W fun e w' => e = .returned (.bool true) ∧ Below W.heap.size W w' := by
  obtain ⟨f, ⟨E0, E1, E2⟩, _⟩ := h
  obtain ⟨n, hn⟩ : ∃ n, n = (x0 % 2048).toNat := ⟨_, rfl⟩
  obtain ⟨k, hk⟩ : ∃ k, k = (x1 % 2048).toNat := ⟨_, rfl⟩
  by_cases hb : 200000 < n * k
  · obtain ⟨K, hK⟩ : ∃ K, K = 200000 / n := ⟨_, rfl⟩
    by_cases hc : 2048 < n + K
    · exact coreQA x0 x1 n k K W _ E2 hn hk hb hK hc
    · by_cases c1 : n = 0 ∨ K = 0
      · exact coreQC x0 x1 n k K W _ E2 hn hk hb hK (by omega) c1
      · exact coreQB x0 x1 n k K W _ E2 hn hk hb hK (by omega) (by omega) (by omega)
  · obtain ⟨K, hK⟩ : ∃ K, K = k := ⟨_, rfl⟩
    by_cases hc : 2048 < n + K
    · exact coreKA x0 x1 n k K W _ E2 hn hk hb hK hc
    · by_cases c1 : n = 0 ∨ K = 0
      · exact coreKC x0 x1 n k K W _ E2 hn hk hb hK (by omega) c1
      · exact coreKB x0 x1 n k K W _ E2 hn hk hb hK (by omega) (by omega) (by omega)
end Go.Proofs.YtgfaaaeechgjmaaDoor.walkPolyLong
