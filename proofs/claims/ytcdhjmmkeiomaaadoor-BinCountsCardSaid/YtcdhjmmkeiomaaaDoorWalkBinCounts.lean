/- The walk over BinCounts. By the verifier of shale. -/
import Derived.Test.YtcdhjmmkeiomaaaDoorBinLaw
import Derived.Test.YtcdhjmmkeiomaaaDoorLaidBinCounts
namespace Go.Proofs.YtcdhjmmkeiomaaaDoor.walkBinCounts
open Go Go.RowKit Bin
set_option linter.unusedVariables false
/-- how many of k numbers from lo on pass the test. -/
def cnt (lo : Nat) : Nat → Nat
  | 0 => 0
  | k + 1 => cnt lo k + if irrC (lo + k) then 1 else 0
theorem cnt1 : cnt 2 2 = 2 := by decide +kernel
theorem cnt2 : cnt 4 4 = 1 := by decide +kernel
theorem cnt3 : cnt 8 8 = 2 := by decide +kernel
theorem cnt4 : cnt 16 16 = 3 := by decide +kernel
theorem cnt5 : cnt 32 32 = 6 := by decide +kernel
theorem cnt6 : cnt 64 64 = 9 := by decide +kernel
theorem cnt7 : cnt 128 128 = 18 := by decide +kernel
theorem cnt8 : cnt 256 256 = 30 := by decide +kernel
theorem cnt_le (lo : Nat) : ∀ k, cnt lo k ≤ k
  | 0 => Nat.le_refl _
  | k + 1 => by have := cnt_le lo k; simp only [cnt]; split <;> omega
def two (x : Nat) : List (BitVec 8) := [BitVec.ofNat 8 x, BitVec.ofNat 8 (x / 256)]
theorem val_two (x : Nat) (h : x < 65536) : val (two x) = x := by
  simp only [two, val, BitVec.toNat_ofNat]; omega
theorem deg_two (x d lo : Nat) (hd : 2 ^ d = lo) (h1 : lo ≤ x) (h2 : x < 2 * lo) : degZ x = (d : Int) := by
  unfold degZ
  have h0 := Nat.two_pow_pos d
  rw [if_neg (by omega)]
  have : Deg x d := ⟨by omega, by rw [Nat.pow_succ]; omega⟩
  rw [this.log2]
theorem two_pol (w : World) (x : Nat) : Pol (w.alloc (obj8 (two x))) (some ⟨w.heap.size, 0, none⟩) 2 2 (two x) ∧ Below w.heap.size w (w.alloc (obj8 (two x))) :=
  ⟨⟨rfl, Nat.le_refl _, by decide, (fun h => by cases h), Or.inr ⟨_, 0, rfl, (Blk8.new w (two x)).row, by simp⟩⟩, (Below.refl _ _).alloc (Nat.le_refl _) _⟩
def lits : List Nat := [0, 2, 1, 2, 3, 6, 9, 18, 30]
set_option maxRecDepth 100000 in
set_option maxHeartbeats 8000000 in
theorem core (d lo ct : Nat) (hd1 : 1 ≤ d) (hd : d ≤ 8) (hlo : 2 ^ d = lo) (hct : cnt lo lo = ct) (hl : lits.getD d 0 = ct) (z : Int) (w : World) (p : Addr) (E : ErrAt w 2 p)
    (ez : z.tmod 8 % 8 + 1 = (d : Int)) (hz1 : -8 < z.tmod 8) (hz2 : z.tmod 8 < 8) :
    Calls Tryd.prog 8 #[.int .i64 z] w fun e w' => e = .returned (.bool true) ∧ Below w.heap.size w w' := by
  have HCT := Lib.hid hct
  have HLO := Lib.hid hlo
  have HL := Lib.hid hl
  have hlo8 : lo ≤ 256 := by rw [← hlo]; exact Nat.pow_le_pow_right (n := 2) (by decide) hd
  have hlo1 : 1 ≤ lo := by rw [← hlo]; exact Nat.two_pow_pos d
  have p1 : (2 : Int) ^ d = (lo : Int) := by rw [← hlo, Int.natCast_pow]; rfl
  have p2 : (2 : Int) ^ (d + 1) = 2 * (lo : Int) := by rw [Int.pow_succ, p1]; omega
  clear hct hlo hl
  go_enter Tryd.func8, Tryd.ntmps8
  go_wp2_with fail
  refine (first_any w p E).mono ?_
  rintro e w1 ⟨rfl, b1⟩
  clear E
  go_wp2_with fail
  rw [show (z.tmod 8 + 8) % 8 = z.tmod 8 % 8 by omega]
  clear ez hz1 hz2
  go_loopg [4, 5] lo (fun gh s4 s5 wx => ∃ (k x : Nat), gh = lo - k ∧ k ≤ lo ∧ x = lo + k ∧ s4 = .int .i64 (cnt lo k : Int) ∧ s5 = .int .i64 (x : Int) ∧ Below w.heap.size w wx)
  case atStart => exact ⟨0, lo, rfl, by omega, rfl, rfl, rfl, b1⟩
  case round =>
    clear b1
    obtain ⟨k, x, hg, hk, hx, rfl, rfl, B⟩ := hrel
    have HG := Lib.hid hg
    have HX := Lib.hid hx
    have hx5 : x ≤ 512 := by omega
    have hxl : lo ≤ x := by omega
    clear hg
    have hck := cnt_le lo k
    by_cases hlt : k < lo
    · have x1 : (x : Int) < 2 * (lo : Int) := by omega
      have t1 : decide ((x : Int) < 2 * (lo : Int)) = true := decide_eq_true x1
      have e1 : (x : Int) % 256 = Bits32.b (BitVec.ofNat 8 x) := by unfold Bits32.b; rw [BitVec.toNat_ofNat]; omega
      have e2 : (x : Int) / 256 % 256 = Bits32.b (BitVec.ofNat 8 (x / 256)) := by unfold Bits32.b; rw [BitVec.toNat_ofNat]; omega
      have e3 : (x : Int) / 256 = Bits32.b (BitVec.ofNat 8 (x / 256)) := by rw [← e2]; omega
      have hv := val_two x (by omega)
      have hdg := deg_two x d lo HLO.out hxl (by omega)
      obtain ⟨tp, tb⟩ := two_pol wr x
      have HT := Lib.hid (And.intro tp (And.intro tb hv))
      have HDG := Lib.hid hdg
      clear tp tb hv hx hdg
      go_wp2_with fail
      obtain ⟨tp, tb, hv⟩ := HT.out
      have B2 := B.trans (tb.mono B.size)
      clear B HT
      refine (degree_any _ 2 2 (two x) _ tp (by omega)).mono ?_
      rintro e w3 ⟨rfl, rfl⟩
      rw [hv, HDG.out]
      clear e1 e2 e3 x1 t1
      have HP := Lib.hid (And.intro tp (And.intro B2 hv))
      clear tp B2 hv tb
      go_wp2_with fail
      obtain ⟨tp, B2, hv⟩ := HP.out
      refine (irreducible_any _ 2 2 (two x) _ tp (by omega)).mono ?_
      rintro e w3 ⟨rfl, rfl⟩
      rw [hv]
      clear tp hv HP
      rcases Bool.eq_false_or_eq_true (irrC x) with hi | hi
      all_goals
        have HC := Lib.hid hi
        rw [hi]
        clear hi
        go_wp2_with fail
        go_roundg (lo - (k + 1))
        case measure => have := HG.out; omega
        case rel => exact ⟨k + 1, x + 1, rfl, by omega, by have := HX.out; omega, by simp only [cnt]; rw [← HX.out, HC.out]; first | rfl | simp, by go_num, B2⟩
    · obtain rfl : k = lo := by omega
      have x1 : ¬ ((x : Int) < 2 * (k : Int)) := by omega
      have t1 : decide ((x : Int) < 2 * (k : Int)) = false := decide_eq_false x1
      rw [HCT.out]
      have HLL := HL.out
      have HLL2 := HLO.out
      clear HL HLO p1 p2 hck hlt x1 t1 HX HG
      rcases (by omega : d = 1 ∨ d = 2 ∨ d = 3 ∨ d = 4 ∨ d = 5 ∨ d = 6 ∨ d = 7 ∨ d = 8) with rfl | rfl | rfl | rfl | rfl | rfl | rfl | rfl
      all_goals
        simp [lits] at HLL
        subst HLL
        simp at HLL2
        subst HLL2
        subst hx
        clear HCT
        go_wp2_with fail
        go_ret
        exact ⟨rfl, B.alloc B.size _⟩
theorem walk (a0 : Int) (W : World) (w0 : (Lit.int .i64 a0).wf = true) (h : LaidBinCounts.Holds W) :
    Calls Tryd.prog 8 #[.int .i64 a0] W fun e w' => e = .returned (.bool true) ∧ Below W.heap.size W w' := by
  obtain ⟨f, ⟨E0, E1⟩, _⟩ := h
  have h1 : a0.tmod 8 < 8 := Int.tmod_lt_of_pos a0 (by omega)
  have h2 : -8 < a0.tmod 8 := by
    have := Int.tmod_lt_of_pos (-a0) (b := 8) (by omega)
    rw [Int.neg_tmod] at this
    omega
  obtain ⟨d, hd⟩ : ∃ d : Nat, a0.tmod 8 % 8 + 1 = (d : Int) := ⟨(a0.tmod 8 % 8 + 1).toNat, by omega⟩
  have k1 : 1 ≤ d := by omega
  have k2 : d ≤ 8 := by omega
  rcases (by omega : d = 1 ∨ d = 2 ∨ d = 3 ∨ d = 4 ∨ d = 5 ∨ d = 6 ∨ d = 7 ∨ d = 8) with rfl | rfl | rfl | rfl | rfl | rfl | rfl | rfl
  · exact core 1 2 2 k1 k2 rfl cnt1 rfl a0 W _ E0 hd h2 h1
  · exact core 2 4 1 k1 k2 rfl cnt2 rfl a0 W _ E0 hd h2 h1
  · exact core 3 8 2 k1 k2 rfl cnt3 rfl a0 W _ E0 hd h2 h1
  · exact core 4 16 3 k1 k2 rfl cnt4 rfl a0 W _ E0 hd h2 h1
  · exact core 5 32 6 k1 k2 rfl cnt5 rfl a0 W _ E0 hd h2 h1
  · exact core 6 64 9 k1 k2 rfl cnt6 rfl a0 W _ E0 hd h2 h1
  · exact core 7 128 18 k1 k2 rfl cnt7 rfl a0 W _ E0 hd h2 h1
  · exact core 8 256 30 k1 k2 rfl cnt8 rfl a0 W _ E0 hd h2 h1
end Go.Proofs.YtcdhjmmkeiomaaaDoor.walkBinCounts
