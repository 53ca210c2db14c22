/- The walk over EncodeWide. By the verifier of shale. -/
import Derived.Test.YtnmallpimbpagaaDoorGreat1
import Derived.Test.YtnmallpimbpagaaDoorGreat2
import Derived.Test.YtnmallpimbpagaaDoorGreat3
import Derived.Test.YtnmallpimbpagaaDoorGreat4
import Derived.Test.YtnmallpimbpagaaDoorLaidEncodeWide
namespace Go.Proofs.YtnmallpimbpagaaDoor.walkEncodeWide
open Go Go.RowKit Bin Cos Enc
set_option linter.unusedVariables false
def wM (z : Int) : Nat := (z % 3).toNat + 10
def wT (z : Int) : Nat := (z % 20).toNat + 1
def wN (z : Int) : Nat := (z % 60).toNat + 1
theorem wM_go (z : Int) : z.tmod 3 % 3 + 10 = (wM z : Int) := by
  unfold wM
  have : z.tmod 3 % 3 = z % 3 := by rw [Int.tmod_eq_emod]; split <;> omega
  omega
theorem wT_go (z : Int) : z.tmod 20 % 20 + 1 = (wT z : Int) := by
  unfold wT
  have : z.tmod 20 % 20 = z % 20 := by rw [Int.tmod_eq_emod]; split <;> omega
  omega
theorem wN_go (z : Int) : z.tmod 60 % 60 + 1 = (wN z : Int) := by
  unfold wN
  have : z.tmod 60 % 60 = z % 60 := by rw [Int.tmod_eq_emod]; split <;> omega
  omega
set_option maxRecDepth 100000 in
set_option maxHeartbeats 4000000 in
theorem core (z1 z2 z3 sd z5 : Int) (w : World) (yc : Addr) (EC : ErrAt w 2 yc) :
    Calls Tryd.prog 6 #[.int .i64 z1, .int .i64 z2, .int .i64 z3, .int .u8 sd, .int .i64 z5] w fun e w' => e = .returned (.bool true) ∧ Below w.heap.size w w' := by
  go_enter Tryd.func6, Tryd.ntmps6
  go_wp2_with fail
  refine (first_any w yc EC).mono ?_
  rintro e w1 ⟨rfl, b⟩
  have B := b
  replace EC := EC.below b
  clear b
  obtain ⟨a1, a2⟩ := (show -3 < z1.tmod 3 ∧ z1.tmod 3 < 3 from tmod_bounds z1 3 (by decide))
  obtain ⟨a3, a4⟩ := (show -20 < z2.tmod 20 ∧ z2.tmod 20 < 20 from tmod_bounds z2 20 (by decide))
  obtain ⟨a5, a6⟩ := (show -60 < z3.tmod 60 ∧ z3.tmod 60 < 60 from tmod_bounds z3 60 (by decide))
  have HQ1 := Lib.hid (wM_go z1)
  have HQ2 := Lib.hid (wT_go z2)
  have HQ3 := Lib.hid (wN_go z3)
  have l1 : 10 ≤ wM z1 ∧ wM z1 ≤ 12 := by unfold wM; omega
  have l2 : 1 ≤ wT z2 ∧ wT z2 ≤ 20 := by unfold wT; omega
  have l3 : 1 ≤ wN z3 ∧ wN z3 ≤ 60 := by unfold wN; omega
  go_wp2_with fail
  rw [HQ1.out, HQ2.out, HQ3.out]
  obtain ⟨m, hm⟩ : ∃ m, m = wM z1 := ⟨_, rfl⟩
  have HMid : Hid (Pl.Mid m) := by show Pl.Mid m; rw [hm]; exact ⟨by omega, by omega⟩
  haveI := HMid.out
  rw [← hm] at l1 ⊢
  generalize wT z2 = t at l2 ⊢
  generalize wN z3 = n at l3 ⊢
  clear hm HQ1 HQ2 HQ3 a1 a2 a3 a4 a5 a6
  have ht1 := l2.1
  have ht40 : t ≤ 40 := by omega
  have hn1 := l3.1
  have hn2 : n ≤ 2048 := by omega
  have hD240 : deg m t ≤ 240 := by
    have h1 := deg_le (m := m) (by omega) t
    have h2 : m * t ≤ 12 * 20 := Nat.mul_le_mul l1.2 l2.2
    omega
  have hsz : 1023 ≤ sz m := by
    unfold sz
    have : 2 ^ 10 ≤ 2 ^ m := Nat.pow_le_pow_right (by decide) l1.1
    omega
  have hmay : May m t n := ⟨ht1, ht40, hn1, hn2, by omega, by omega⟩
  have hroom := hmay.room
  have hDpos := deg_pos (m := m) (by omega) ht1
  refine (new_any (m := m) hmay w1 yc EC).mono ?_
  rintro e w2 ⟨s, rfl, C, b, _⟩
  have HG := Lib.hid (gen_deg (m := m) t)
  obtain ⟨D, hD⟩ : ∃ D, D = deg m t := ⟨_, rfl⟩
  have HD := Lib.hid hD
  rw [← hD] at hDpos hD240 hroom HG
  replace B := B.trans (b.mono B.size)
  have hmk := fun w => made8 w n (by omega)
  clear b hD EC hsz hmay
  go_wp2_with fail
  clear hmk
  generalize hw : w2.alloc (obj8 (List.replicate n 0)) = w3
  obtain ⟨Z3, b6⟩ := lit8 w2 w3 _ hw.symm
  clear hw
  obtain ⟨g3, hg3⟩ : ∃ g3, g3 = w2.heap.size := ⟨_, rfl⟩
  have HG3 := Lib.hid hg3
  rw [← hg3] at Z3 b6 ⊢
  have HZ : Hid (∃ Y, Y.length = n ∧ Blk8 w3 g3 Y) := ⟨_, by simp, Z3⟩
  have HS : Hid (CodeAt m t n w2 s ∧ Below w.heap.size w w2) := ⟨C, B⟩
  clear Z3 C B hg3
  go_loopg [15] n (fun gh s15 wx => ∃ (k : Nat), gh = n - k ∧ k ≤ n ∧ s15 = .int .i64 (k : Int) ∧ Hid (∃ Y, Y.length = n ∧ Blk8 wx g3 Y) ∧ Below g3 w2 wx)
  case atStart => exact ⟨0, rfl, Nat.zero_le _, rfl, HZ, b6⟩
  case round =>
    clear HZ b6
    obtain ⟨k, hg, hk, rfl, HZ, hO⟩ := hrel
    have HGk := Lib.hid hg
    clear hg
    obtain ⟨Y, hY, Z3⟩ := HZ.out
    by_cases hlt : k < n
    · have x1 : (k : Int) < (n : Int) := by omega
      have x0 : (0 : Int) ≤ (k : Int) := by omega
      have d1 := Z3.cell (i := k) (by omega)
      have d2 := Z3.free k
      obtain ⟨c, hc⟩ : ∃ c : BitVec 8, (sd * ((k : Int) + 3) % 256 + (k : Int)) % 256 = Bits32.b c := ⟨BitVec.ofInt 8 ((sd * ((k : Int) + 3) % 256 + (k : Int)) % 256), by
        unfold Bits32.b; rw [BitVec.toNat_ofInt]; omega⟩
      have o4 := Only.setCell wr ⟨g3, k, none⟩ (.int .u8 (Bits32.b c))
      have hs := Z3.set k c
      have HN : Hid ((∃ Y', Y'.length = n ∧ Blk8 (wr.setCell ⟨g3, k, none⟩ (.int .u8 (Bits32.b c))) g3 Y') ∧ Below g3 w2 (wr.setCell ⟨g3, k, none⟩ (.int .u8 (Bits32.b c)))) :=
        ⟨⟨_, by rw [List.length_set]; exact hY, hs⟩, hO.trans (o4.below (Nat.le_refl g3))⟩
      clear Z3 HZ o4 hs hO
      go_wp2_with fail
      go_roundg (n - (k + 1))
      case measure => have := HGk.out; omega
      case rel => exact ⟨k + 1, rfl, by omega, by go_num, Lib.hid HN.out.1, HN.out.2⟩
    · obtain rfl : k = n := by omega
      obtain ⟨C, B⟩ := HS.out
      rw [HG3.out] at hO
      replace C := C.below hO
      replace B := B.trans (hO.mono B.size)
      clear HZ hO HS
      obtain ⟨w6, rfl⟩ : ∃ w6, w6 = wr := ⟨_, rfl⟩
      go_wp2_with fail
      refine (fast_any (m := m) ht1 ht40 w6 s C _ k Y (blk_pol Z3 hY.symm (by omega)) hn2).mono ?_
      rintro e w7 ⟨g7, rfl, Z7, b, _⟩
      rw [← HD.out] at Z7 ⊢
      replace C := C.below b
      replace Z3 := keepZ Z3 b
      replace B := B.trans (b.mono B.size)
      clear b
      go_wp2_with fail
      refine (serial_any (m := m) ht1 ht40 w7 s C _ k Y (blk_pol Z3 hY.symm (by omega)) hn2).mono ?_
      rintro e w8 ⟨g8, rfl, Z8, b, _⟩
      rw [← HD.out] at Z8 ⊢
      have hZ2l := byN_length (prt (gen m t) D (val Y)) (pb D)
      have hZ2v := val_byN (pb_room (prt_lt HG.out (val Y)))
      obtain ⟨N, hN⟩ : ∃ N, N = 8 * k + D := ⟨_, rfl⟩
      have hN1 : 0 < N := by omega
      have hN2 : N ≤ 1000000 := by omega
      have HN := Lib.hid hN
      obtain ⟨P, hP⟩ : ∃ P, P = pb D := ⟨_, rfl⟩
      have HP := Lib.hid hP
      have hP8 : P ≤ 100 := by rw [hP]; unfold pb; omega
      rw [← hP] at Z7 Z8 hZ2l hZ2v ⊢
      obtain ⟨Q, hQ⟩ : ∃ Q, Q = byN (prt (gen m t) D (val Y)) P := ⟨_, rfl⟩
      have HQ := Lib.hid hQ
      rw [← hQ] at Z7 Z8 hZ2l hZ2v
      clear hN hP hQ
      replace C := C.below b
      replace Z3 := keepZ Z3 b
      replace Z7 := keepZ Z7 b
      replace B := B.trans (b.mono B.size)
      clear b
      go_wp2_with fail
      obtain ⟨r1, r2, q, hq, r3⟩ := norm_var z5 N hN1 hN2
      have HBt : Hid (∀ nn, Calls Tryd.prog 24 #[.pointer (some ⟨s, 0, none⟩)] (World.drewN w8 nn) fun e w' => e = .returned (.int .i64 (N : Int)) ∧ Drawn (World.drewN w8 nn) w') := by
        intro nn
        have h := bits_code (m := m) (World.drewN w8 nn) s (C.drawn (Drawn.mk w8 nn)) hn2 ht40
        rw [← HD.out, ← HN.out] at h
        exact h
      go_quiet ((go_at_call 24; exact quiet_drawn (HBt.out _)))
      have d := Drawn.mk w8 nq
      have b := d.below (World.heap w8).size
      generalize World.drewN w8 nq = w9 at d b ⊢
      clear d HBt r1 r2 r3
      replace C := C.below b
      replace Z3 := keepZ Z3 b
      replace Z7 := keepZ Z7 b
      replace Z8 := keepZ Z8 b
      replace B := B.trans (b.mono B.size)
      clear b
      go_wp2_with fail
      have hq2 : q < 8 * k + deg m t := by have := HN.out; have := HD.out; omega
      have HFl : Hid (Calls Tryd.prog 18 #[.pointer (some ⟨s, 0, none⟩), .slice (some ⟨g3, 0, none⟩) k k, .slice (some ⟨g7, 0, none⟩) P P, .int .i64 (q : Int)] w9 (FlipAt D k P q (val Y) (val Q) w9)) := by
        have h := flip_any (m := m) ht1 ht40 w9 s C _ _ _ (blk_pol Z3 hY.symm (by omega)) hn2 _ _ _ (by rw [← HD.out, ← HP.out]; exact blk_pol Z7 hZ2l.symm (by omega)) q hq2
        rw [← HD.out, ← HP.out] at h
        exact h
      refine (HFl.out).mono ?_
      rintro e w10 ⟨u1, e1, X1, v1, f1, Y1, rfl, N1, NM1, hX1, hY1, b⟩
      clear HFl
      replace C := C.below b
      replace Z3 := keepZ Z3 b
      replace Z7 := keepZ Z7 b
      replace Z8 := keepZ Z8 b
      replace B := B.trans (b.mono B.size)
      clear b
      go_wp2_with fail
      replace hX1 : val X1 = val Y ^^^ ed D q := hX1
      replace hY1 : val Y1 = val Q ^^^ ep D q := hY1
      have hbad := turn_wrong (m := m) (t := t) (n := 8 * k) (k := q) (X := val Y) (X' := val X1) (Y' := Y1) ht1 (by have := HD.out; omega) hq2 (by rw [← HD.out]; exact hX1) (by rw [← HD.out]; rw [hY1, hZ2v])
      rw [← HD.out, ← HP.out] at hbad
      have hgood : byN (prt (gen m t) D (val Y)) P = Q := HQ.out.symm
      have HBad := Lib.hid hbad
      have HGood := Lib.hid hgood
      clear hbad hgood hX1 hY1
      refine (same_blk (blk_arg Z7 hZ2l.symm) (blk_arg Z8 hZ2l.symm)).mono ?_
      rintro e w' ⟨rfl, rfl⟩
      rw [decide_eq_true rfl]
      go_wp2_with fail
      refine ((by have h := right_any (m := m) ht1 ht40 w10 s C _ _ Y (blk_pol Z3 hY.symm (by omega)) hn2 _ _ _ Q (blk_pol Z7 hZ2l.symm (by omega)); rw [← HD.out, ← HP.out, decide_eq_true HGood.out] at h; exact h : Calls Tryd.prog 13 #[.pointer (some ⟨s, 0, none⟩), .slice (some ⟨g3, 0, none⟩) k k, .slice (some ⟨g7, 0, none⟩) P P] w10 fun e w' => e = .returned (.bool true) ∧ Below (World.heap w10).size w10 w')).mono ?_
      rintro e w11 ⟨rfl, b⟩
      replace C := C.below b
      replace Z3 := keepZ Z3 b
      replace Z7 := keepZ Z7 b
      replace Z8 := keepZ Z8 b
      replace N1 := NewP.keep N1 b
      replace NM1 := NewP.keep NM1 b
      replace B := B.trans (b.mono B.size)
      clear b
      go_wp2_with fail
      refine (by have h := right_any (m := m) ht1 ht40 w11 s C _ _ X1 N1.pol hn2 _ _ _ Y1 NM1.pol; rw [← HD.out, ← HP.out, decide_eq_false HBad.out] at h; exact h : Calls Tryd.prog 13 #[.pointer (some ⟨s, 0, none⟩), .slice u1 k e1, .slice v1 P f1] w11 fun e w' => e = .returned (.bool false) ∧ Below (World.heap w11).size w11 w').mono ?_
      rintro e w9 ⟨rfl, b⟩
      replace B := B.trans (b.mono B.size)
      clear b C Z3 Z7 Z8 N1 NM1
      go_wp2_with fail
      go_ret
      exact ⟨rfl, B⟩
theorem walk (a0 a1 a2 a3 a4 : Int) (W : World) (w0 : (Lit.int .i64 a0).wf = true) (w1 : (Lit.int .i64 a1).wf = true) (w2 : (Lit.int .i64 a2).wf = true) (w3 : (Lit.int .u8 a3).wf = true) (w4 : (Lit.int .i64 a4).wf = true) (h : LaidEncodeWide.Holds W) :
    Calls Tryd.prog 6 #[.int .i64 a0, .int .i64 a1, .int .i64 a2, .int .u8 a3, .int .i64 a4] W fun e w' => e = .returned (.bool true) ∧ Below W.heap.size W w' := by
  obtain ⟨f, ⟨E0, E1, E2, E3⟩, _⟩ := h
  exact core a0 a1 a2 a3 a4 W _ E3
end Go.Proofs.YtnmallpimbpagaaDoor.walkEncodeWide
