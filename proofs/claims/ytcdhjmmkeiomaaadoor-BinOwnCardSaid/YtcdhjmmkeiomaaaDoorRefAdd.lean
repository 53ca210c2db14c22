/- shaleref2.BinAdd, BinShift. By the verifier of shale. -/
import Derived.Test.YtcdhjmmkeiomaaaDoorRefBits
import Derived.Test.YtcdhjmmkeiomaaaDoorOwn64
namespace Go.Proofs.YtcdhjmmkeiomaaaDoor.Bin
open Go Go.RowKit
set_option linter.unusedVariables false
theorem bits_any (g n cap V : Nat) (w : World) (h : Blk64 w g (bitL V n)) (hn : n ≤ 100000) :
    Calls Tryd.prog 42 #[.slice (some ⟨g, 0, none⟩) n cap] w (GivesP (V % 2 ^ n) w) := by
  refine (bits_own g n cap V w h hn).mono ?_
  rintro e w1 ⟨v, m, X, rfl, ho, hb, hv, b⟩
  obtain ⟨a, c, rfl, hN⟩ := own_newP ho
  exact ⟨a, m, c, X, rfl, hN, hb, hv, b⟩
theorem bitL_step (T N i : Nat) : (bitL (T % 2 ^ i) N).set i (bz (T.testBit i)) = bitL (T % 2 ^ (i + 1)) N := by
  have h := bitL_set (T % 2 ^ i) N i (T.testBit i)
  rw [show (T % 2 ^ i).testBit i = false from Nat.testBit_lt_two_pow (Nat.mod_lt _ (Nat.two_pow_pos i)), Bool.false_xor] at h
  rw [h, mod_succ]
theorem Blk64.since {w w' : World} {g : Nat} {l : List Int} (h : Blk64 w g l) (b : Below w.heap.size w w') : Blk64 w' g l := (b.block _ h.lt).trans h
theorem Blk64.lay {w : World} {g : Nat} {l m : List Int} {i : Nat} {z : Int} (h : Blk64 w g l) (e : l.set i z = m) : Blk64 (w.setCell ⟨g, i, none⟩ (.int .i64 z)) g m := e ▸ h.set i z
set_option maxRecDepth 100000 in
set_option maxHeartbeats 2000000 in
theorem raddV {w : World} {k k' : Nat} {a a' : Option Addr} {n c n' c' u v : Nat} (K : Nat) (h1 : PolV w k a n c u) (h2 : PolV w k' a' n' c' v) (hK : k ≤ K) (hK' : k' ≤ K) (hK2 : K ≤ 1000) :
    Calls Tryd.prog 22 #[.slice a n c, .slice a' n' c'] w fun e w' => ∃ a n c, e = .returned (.slice a n c) ∧ NewV w w' K a n c (u ^^^ v) ∧ Below w.heap.size w w' := by
  have hl : u ^^^ v < room K := room_xor (Nat.lt_of_lt_of_le h1.lt (room_mono hK)) (Nat.lt_of_lt_of_le h2.lt (room_mono hK'))
  obtain ⟨X, p1, rfl, n1⟩ := h1
  obtain ⟨Y, p2, rfl, n2⟩ := h2
  have HP1 := Lib.hid p1
  have HP2 := Lib.hid p2
  obtain ⟨N, hN⟩ : ∃ N, N = 8 * max n n' := ⟨_, rfl⟩
  have HT : Hid (val X ^^^ val Y < 2 ^ N) := by
    show _ < _
    have e1 : val X < 2 ^ N := Nat.lt_of_lt_of_le (val_lt X) (Nat.pow_le_pow_right (by decide) (by have := p1.hlen; omega))
    have e2 : val Y < 2 ^ N := Nat.lt_of_lt_of_le (val_lt Y) (Nat.pow_le_pow_right (by decide) (by have := p2.hlen; omega))
    exact Nat.xor_lt_two_pow e1 e2
  have HL := Lib.hid hl
  have bN : N ≤ 8000 := by omega
  have eN : (8 : Int) * max (n : Int) (n' : Int) = (N : Int) := by omega
  have hmk := made64 w N (by omega)
  rw [bitL_zero] at hmk
  have HB0 : Hid (Below w.heap.size w (w.alloc (obj64 (bitL 0 N)))) := (Below.refl _ _).alloc (Nat.le_refl _) _
  have HK0 : Hid (Blk64 (w.alloc (obj64 (bitL 0 N))) w.heap.size (bitL 0 N)) := Blk64.new w _
  clear p1 p2 hl hN
  go_enter Tryd.func22, Tryd.ntmps22
  go_wp2_with fail
  go_loopg [6] N (fun gh s6 wx => ∃ (i : Nat), gh = N - i ∧ i ≤ N ∧ s6 = .int .i64 (i : Int) ∧ Blk64 wx w.heap.size (bitL ((val X ^^^ val Y) % 2 ^ i) N) ∧ Below w.heap.size w wx)
  case atStart => exact ⟨0, rfl, by omega, rfl, by rw [Nat.pow_zero, Nat.mod_one]; exact HK0.out, HB0.out⟩
  case round =>
    clear hmk eN
    obtain ⟨i, hg, hin, rfl, hk, hB⟩ := hrel
    have HG := Lib.hid hg
    clear hg
    by_cases hlt : i < N
    · have x1 : (i : Int) < (N : Int) := by omega
      have x0 : (0 : Int) ≤ (i : Int) := by omega
      have c1 := hk.cell (i := i) (by rw [bitL_length]; exact hlt)
      have c2 := hk.free i
      have ex := bz_xor ((val X).testBit i) ((val Y).testBit i)
      rw [← Nat.testBit_xor] at ex
      have HS := Lib.hid (Blk64.lay hk (bitL_step (val X ^^^ val Y) N i))
      have HSB : Hid (Below w.heap.size w (wr.setCell ⟨w.heap.size, i, none⟩ (.int .i64 (bz ((val X ^^^ val Y).testBit i))))) := hB.setCell (p := ⟨w.heap.size, i, none⟩) (Nat.le_refl _) _
      have HPX := Lib.hid (HP1.out.below hB)
      have HPY := Lib.hid (HP2.out.below hB)
      have hbX := bitZ_bz X i
      have hbY := bitZ_bz Y i
      have HBX := Lib.hid hbX
      have HBY := Lib.hid hbY
      clear hk hB hbX hbY
      go_wp2_with fail
      refine (rbit_any a n c X (i : Int) wr HPX.out (by omega)).mono ?_
      rintro e w1 ⟨rfl, rfl⟩
      rw [HBX.out]
      go_wp2_with fail
      refine (rbit_any a' n' c' Y (i : Int) wr HPY.out (by omega)).mono ?_
      rintro e w1 ⟨rfl, rfl⟩
      rw [HBY.out]
      generalize bz ((val X).testBit i) = b1 at ex ⊢
      generalize bz ((val Y).testBit i) = b2 at ex ⊢
      generalize bz ((val X ^^^ val Y).testBit i) = b3 at ex HS HSB ⊢
      go_wp2_with fail
      go_roundg (N - (i + 1))
      case measure => have := HG.out; omega
      case rel => exact ⟨i + 1, rfl, by omega, by go_num, HS.out, HSB.out⟩
    · obtain rfl : i = N := by omega
      go_wp2_with fail
      refine (bits_any w.heap.size i i _ wr hk (by omega)).mono ?_
      rintro e w2 ⟨a3, n3, c3, Z, rfl, hZ, bZ, vZ, b2⟩
      have hF := newV (hZ.from hB.size) bZ (vZ.trans (by rw [Nat.mod_mod, Nat.mod_eq_of_lt HT.out])) K HL.out
      have hB2 := hB.trans (b2.mono hB.size)
      clear hZ bZ vZ b2 hB hk
      go_wp2_with fail
      go_ret
      exact ⟨a3, n3, c3, rfl, hF, hB2⟩
end Go.Proofs.YtcdhjmmkeiomaaaDoor.Bin
