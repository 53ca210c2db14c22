/- The walk over ScrambleSays. By the verifier of shale. -/
import Derived.Test.YtggiknecfiaokaaRef13
import Derived.Test.YtggiknecfiaokaaRefSame
import Derived.Test.YtggiknecfiaokaaRow
namespace Go.Proofs.Ytggiknecfiaokaa.walkScrambleSays
open Go Go.RowKit Bits16 Scr
set_option linter.unusedVariables false
set_option maxRecDepth 100000 in
set_option maxHeartbeats 1000000 in
theorem skip_neg (z N : Int) (w : World) (hN : N < 0) :
    Calls Try.prog 15 #[.int .i64 z, .int .i64 N] w fun e w' =>
      e = .returned (.int .i64 (h (Scr.start (BitVec.ofInt 16 z)))) ∧ Below w.heap.size w w' := by
  have t1 : decide ((1048576 : Int) < N) = false := by simp; omega
  have t3 : N < 1048576 := by omega
  go_enter Try.func15, Try.ntmps15
  go_wp2_with fail
  refine (new_any z w).mono ?_
  rintro e w1 ⟨rfl, h1, b1⟩
  have c0 := cell_of_one h1
  have l1 := h_lo (Scr.start (BitVec.ofInt 16 z))
  have l2 := h_hi (Scr.start (BitVec.ofInt 16 z))
  go_wp2_with fail
  go_loopg [14] 0 (fun _ s14 wx => s14 = .int .i64 0 ∧ w1 = wx)
  case atStart => exact ⟨rfl, rfl⟩
  case round =>
    obtain ⟨rfl, rfl⟩ := hrel
    go_wp2
    go_ret
    exact ⟨rfl, b1⟩
/-- N is what is skipped, m where it counts. -/
def SkipAt (N : Int) (m : Nat) : Prop := (N = (m : Int) ∧ m ≤ 5000) ∨ (N < 0 ∧ m = 0)
theorem skip_both (z N : Int) (m : Nat) (hm : SkipAt N m) (w : World) :
    Calls Try.prog 15 #[.int .i64 z, .int .i64 N] w fun e w' =>
      e = .returned (.int .i64 (h (lfs (8 * m) (Scr.start (BitVec.ofInt 16 z))))) ∧ Below w.heap.size w w' := by
  rcases hm with ⟨rfl, hm⟩ | ⟨hN, rfl⟩
  · have := skip_any z m w (by omega)
    rwa [Nat.mod_eq_of_lt (by omega)] at this
  · exact skip_neg z N w hN
section
variable {W : World} (z : Int) (l : List (BitVec 8)) (S : BitVec 16) (n cap : Nat) (p : Option Addr)
theorem c_mix (hS : S = Scr.start (BitVec.ofInt 16 z)) (hl : n = l.length) (hn : n ≤ 4000) (har : Arr8 W p n l) (w : World) (hb : Below W.heap.size W w) :
    Calls Try.prog 13 #[.int .i64 z, .slice p n cap] w fun e w' => ∃ v, e = .returned v ∧ Str8 w' v (mixL S l) ∧ Below W.heap.size W w' ∧ Below w.heap.size w w' := by
  refine (mix_any z l n cap p w hl (by omega) (har.below hb)).mono ?_
  rintro e w' ⟨g, rfl, hm, b, _⟩
  rw [← hS] at hm
  exact ⟨_, rfl, Str8.of (IsBytes.mk (by rw [mixL_length]; exact hl) hm.row hm.lt), hb.trans (b.mono hb.size), b⟩
theorem c_rmix (hS : S = Scr.start (BitVec.ofInt 16 z)) (hl : n = l.length) (hn : n ≤ 4000) (har : Arr8 W p n l) (w : World) (hb : Below W.heap.size W w) :
    Calls Try.prog 14 #[.int .i64 z, .slice p n cap] w fun e w' => ∃ v, e = .returned v ∧ Str8 w' v (mixL S l) ∧ Below W.heap.size W w' ∧ Below w.heap.size w w' := by
  refine (rmix_any z l n cap p w hl hn (har.below hb)).mono ?_
  rintro e w' ⟨v, rfl, ho, b⟩
  rw [← hS] at ho
  exact ⟨_, rfl, Str8.of ho.bytes, hb.trans (b.mono hb.size), b⟩
theorem c_same {v u : Value} {L : List (BitVec 8)} {w : World} (hv : Str8 w v L) (hu : Str8 w u L) (hb : Below W.heap.size W w) :
    Calls Try.prog 12 #[v, u] w fun e w' => e = .returned (.bool true) ∧ Below W.heap.size W w' := by
  refine (sames_run (Sames.mk hv hu (decide_eq_true rfl)) (SameHeap.refl _)).mono ?_
  rintro e w' ⟨rfl, rfl⟩
  exact ⟨rfl, hb⟩
theorem c_skip (N : Int) (m : Nat) (hm : SkipAt N m) (w : World) (hb : Below W.heap.size W w) :
    Calls Try.prog 15 #[.int .i64 z, .int .i64 N] w fun e w' => e = .returned (.int .i64 (h (lfs (8 * m) (Scr.start (BitVec.ofInt 16 z))))) ∧ Below W.heap.size W w' := by
  refine (skip_both z N m hm w).mono ?_
  rintro e w' ⟨rfl, b⟩
  exact ⟨rfl, hb.trans (b.mono hb.size)⟩
theorem c_rskip (N : Int) (m : Nat) (hm : SkipAt N m) (w : World) (hb : Below W.heap.size W w) :
    Calls Try.prog 16 #[.int .i64 z, .int .i64 N] w fun e w' => e = .returned (.int .i64 (h (lfs (8 * m) (Scr.start (BitVec.ofInt 16 z))))) ∧ Below W.heap.size W w' := by
  refine (rskip_any z m N w hm).mono ?_
  rintro e w' ⟨rfl, rfl⟩
  exact ⟨rfl, hb⟩
theorem c_seed (b k : Int) (w : World) (hb : Below W.heap.size W w) :
    Calls Try.prog 17 #[.agg #[.int .i64 b, .int .i64 k]] w fun e w' => e = .returned (.int .i64 (seedOf b k)) ∧ Below W.heap.size W w' := by
  refine (seed_any b k w).mono ?_
  rintro e w' ⟨rfl, b⟩
  exact ⟨rfl, hb.trans (b.mono hb.size)⟩
theorem c_rseed (b k : Int) (w : World) (hb : Below W.heap.size W w) :
    Calls Try.prog 18 #[.agg #[.int .i64 b, .int .i64 k]] w fun e w' => e = .returned (.int .i64 (seedOf b k)) ∧ Below W.heap.size W w' := by
  refine (rseed_any b k w).mono ?_
  rintro e w' ⟨rfl, b⟩
  exact ⟨rfl, hb.trans (b.mono hb.size)⟩
theorem str_on {w w' : World} {v : Value} {L : List (BitVec 8)} (hv : Str8 w v L) (b : Below w.heap.size w w') : Str8 w' v L := hv.since b.block b.size
end
theorem third {a b c : Prop} (h : a ∧ b ∧ c) : c := h.2.2
/-- what the last region holds: the base's memory, and the box of the place. -/
theorem keeps {W w : World} {B : Nat} {b k : Int} (c1 : W.cell? ⟨B, 0, none⟩ = some (.int .i64 b)) (c2 : W.cell? ⟨B, 1, none⟩ = some (.int .i64 k)) (hB : B < W.heap.size) (hb : Below W.heap.size W w) :
    w.cell? ⟨B, 0, none⟩ = some (.int .i64 b) ∧ w.cell? ⟨B, 1, none⟩ = some (.int .i64 k) ∧ Below W.heap.size W w :=
  ⟨(hb.cell (p := ⟨B, 0, none⟩) hB).trans c1, (hb.cell (p := ⟨B, 1, none⟩) hB).trans c2, hb⟩
set_option maxRecDepth 100000 in
set_option maxHeartbeats 8000000 in
theorem says_core (z nn : Int) (p : Option Addr) (n cap : Nat) (l : List (BitVec 8)) (pb pk : Int) (w : World) (har : Arr8 w p n l) (hl : n = l.length) (hn : n ≤ 4000) :
    Calls Try.prog 3 #[.int .i64 z, .slice p n cap, .int .i64 nn, .agg #[.int .i64 pb, .int .i64 pk]] w fun e w' => e = .returned (.bool true) ∧ Below w.heap.size w w' := by
  have t1 : decide ((4000 : Int) < (n : Int)) = false := by simp; omega
  obtain ⟨q, hq, hqe⟩ : ∃ q : Nat, q ≤ 4095 ∧ bits .and .i64 nn 4095 = (q : Int) := Bits32.andMask nn 4095 (by decide)
  have c1 : (w.alloc (.cells #[.int .i64 pb, .int .i64 pk] 24)).cell? ⟨w.heap.size, 0, none⟩ = some (.int .i64 pb) := by
    unfold World.cell?
    simp only
    rw [heap_alloc_new]
    rfl
  have c2 : (w.alloc (.cells #[.int .i64 pb, .int .i64 pk] 24)).cell? ⟨w.heap.size, 1, none⟩ = some (.int .i64 pk) := by
    unfold World.cell?
    simp only
    rw [heap_alloc_new]
    rfl
  have b0 : Below w.heap.size w (w.alloc (.cells #[.int .i64 pb, .int .i64 pk] 24)) := (Below.refl _ _).alloc (Nat.le_refl _) _
  have hs0 : w.heap.size < (w.alloc (.cells #[.int .i64 pb, .int .i64 pk] 24)).heap.size := by simp
  have HL := Lib.hid hl
  clear hl
  have hcs : ∃ (N : Int) (m : Nat), SkipAt N m ∧ ((nn = N ∧ decide (5000 < nn) = false ∧ decide (1048576 ≤ nn) = false) ∨ ((q : Int) = N ∧ decide (5000 < nn) = true ∧ decide (nn < 1048576) = true ∧ decide ((1048576 : Int) ≤ (q : Int)) = false) ∨
      ((q : Int) = N ∧ decide (5000 < nn) = true ∧ decide (nn < 1048576) = false ∧ decide (1048576 ≤ nn) = true)) := by
    by_cases h1 : nn ≤ 5000
    · by_cases h2 : nn < 0
      · exact ⟨nn, 0, Or.inr ⟨h2, rfl⟩, Or.inl ⟨rfl, by simp; omega, by simp; omega⟩⟩
      · exact ⟨nn, nn.toNat, Or.inl ⟨by omega, by omega⟩, Or.inl ⟨rfl, by simp; omega, by simp; omega⟩⟩
    · by_cases h2 : nn < 1048576
      · exact ⟨q, q, Or.inl ⟨rfl, by omega⟩, Or.inr (Or.inl ⟨rfl, by simp; omega, by simp; omega, by simp; omega⟩)⟩
      · exact ⟨q, q, Or.inl ⟨rfl, by omega⟩, Or.inr (Or.inr ⟨rfl, by simp; omega, by simp; omega, by simp; omega⟩)⟩
  obtain ⟨N, m, hsk, hcs⟩ := hcs
  rcases hcs with ⟨rfl, g1, g2⟩ | ⟨rfl, g1, g2, g3⟩ | ⟨rfl, g1, g2, g3⟩
  all_goals
    go_enter Try.func3, Try.ntmps3
    go_wp2_with fail
    generalize w.alloc (.cells #[.int .i64 pb, .int .i64 pk] 24) = w0 at c1 c2 b0 hs0 ⊢
    refine (first_any w0).mono ?_
    rintro e w1 ⟨rfl, b1⟩
    go_wp2_with fail
    refine (new_any z w1).mono ?_
    rintro e w2 ⟨rfl, hstr, b2⟩
    have b12 := b1.trans (b2.mono b1.size)
    have h01 := b1.size
    go_wp2_with fail
    refine (rstate_any z w2).mono ?_
    rintro e w3 ⟨rfl, rfl⟩
    go_wp2_with fail
    go_loopg [11, 12] 20 (fun g s11 s12 wx => ∃ i : Nat, i ≤ 20 ∧ g = 20 - i ∧ s12 = .int .i64 (i : Int) ∧ s11 = .int .i64 (h (lfs (8 * i) (Scr.start (BitVec.ofInt 16 z)))) ∧
      IsStr wx w1.heap.size (lfs (8 * i) (Scr.start (BitVec.ofInt 16 z))) ∧ Only w1.heap.size w2 wx)
    case atStart => exact ⟨0, Nat.zero_le _, rfl, rfl, rfl, hstr, Only.refl _ _⟩
    case round =>
      obtain ⟨i, hi, hg, rfl, rfl, hd, hO⟩ := hrel
      have HG := Lib.hid hg
      clear hg
      by_cases hlt : i < 20
      · have y : (i : Int) < 20 := by omega
        have y0 : (0 : Int) ≤ (i : Int) := by omega
        have HA := Lib.hid (lfs_add 8 (8 * i) (Scr.start (BitVec.ofInt 16 z)))
        go_wp2_with fail
        refine (rnext_any _ wr).mono ?_
        rintro e w4 ⟨rfl, rfl⟩
        go_wp2_with fail
        refine (next_any _ _ _ hd).mono ?_
        rintro e w4 ⟨rfl, hd4, hO4⟩
        rw [HA.out, show 8 * i + 8 = 8 * (i + 1) by omega] at hd4
        go_wp2
        go_roundg (20 - (i + 1))
        case measure => have := HG.out; omega
        case rel => exact ⟨i + 1, by omega, rfl, by go_num, by rw [HA.out, show 8 * i + 8 = 8 * (i + 1) by omega], hd4, hO.trans hO4⟩
      · obtain rfl : i = 20 := by omega
        have bw0 : Below w0.heap.size w0 wr := b12.trans (hO.below h01)
        have k1 := (bw0.cell (p := ⟨w.heap.size, 0, none⟩) hs0).trans c1
        have k2 := (bw0.cell (p := ⟨w.heap.size, 1, none⟩) hs0).trans c2
        have hB : w.heap.size < wr.heap.size := Nat.lt_of_lt_of_le hs0 bw0.size
        have bw : Below w.heap.size w wr := b0.trans (bw0.mono b0.size)
        have har2 := har.below bw
        clear har bw0 c1 c2 hd b1 b2 b12 hstr hO
        go_wp2_with fail
        go_region_held3 (fun w' => w'.cell? ⟨w.heap.size, 0, none⟩ = some (.int .i64 pb) ∧ w'.cell? ⟨w.heap.size, 1, none⟩ = some (.int .i64 pk) ∧ Below wr.heap.size wr w')
          (first
            | assumption
            | exact keeps k1 k2 hB (by assumption)
            | exact keeps k1 k2 hB (Below.drew (Below.refl _ _)))
          (first
            | (go_at_call 13; refine Calls.mono (c_mix z l (Scr.start (BitVec.ofInt 16 z)) n cap p rfl HL.out hn har2 _ (by first | assumption | exact third (by assumption))) ?_; rintro e w' ⟨v, rfl, hst, hbl, hbo⟩)
            | (go_at_call 14; refine Calls.mono (c_rmix z l (Scr.start (BitVec.ofInt 16 z)) n cap p rfl HL.out hn har2 _ (by first | assumption | exact third (by assumption))) ?_; rintro e w' ⟨v, rfl, hst, hbl, hbo⟩)
            | (go_at_call 12; refine Calls.mono (c_same (W := wr) (L := mixL (Scr.start (BitVec.ofInt 16 z)) l) (by first | with_reducible assumption | exact str_on (by with_reducible assumption) (by assumption)) (by first | with_reducible assumption | exact str_on (by with_reducible assumption) (by assumption)) (by first | assumption | exact third (by assumption))) ?_; rintro e w' ⟨rfl, hbl⟩)
            | (go_at_call 15; refine Calls.mono (c_skip z _ _ hsk _ (by first | assumption | exact third (by assumption))) ?_; rintro e w' ⟨rfl, hbl⟩)
            | (go_at_call 16; refine Calls.mono (c_rskip z _ _ hsk _ (by first | assumption | exact third (by assumption))) ?_; rintro e w' ⟨rfl, hbl⟩)
            | (go_at_call 17; refine Calls.mono (c_seed _ _ _ (by first | assumption | exact third (by assumption))) ?_; rintro e w' ⟨rfl, hbl⟩)
            | (go_at_call 18; refine Calls.mono (c_rseed _ _ _ (by first | assumption | exact third (by assumption))) ?_; rintro e w' ⟨rfl, hbl⟩))
        go_wp2
        go_ret
        exact ⟨rfl, bw.trans (Below.mono (by assumption) bw.size)⟩
set_option maxRecDepth 100000 in
set_option maxHeartbeats 1000000 in
theorem says_out (z nn : Int) (p : Option Addr) (n cap : Nat) (pb pk : Int) (w : World) (hn : 4000 < n) :
    Calls Try.prog 3 #[.int .i64 z, .slice p n cap, .int .i64 nn, .agg #[.int .i64 pb, .int .i64 pk]] w fun e w' => e = .returned (.bool true) ∧ Below w.heap.size w w' := by
  have t1 : decide ((4000 : Int) < (n : Int)) = true := by simp; omega
  have b0 : Below w.heap.size w (w.alloc (.cells #[.int .i64 pb, .int .i64 pk] 24)) := (Below.refl _ _).alloc (Nat.le_refl _) _
  clear hn
  go_enter Try.func3, Try.ntmps3
  go_wp2_with fail
  generalize w.alloc (.cells #[.int .i64 pb, .int .i64 pk] 24) = w0 at b0 ⊢
  refine (first_any w0).mono ?_
  rintro e w1 ⟨rfl, b1⟩
  go_wp2
  go_ret
  exact ⟨rfl, b0.trans (b1.mono b0.size)⟩
theorem walk (a0 : Int) (a1 : Option Addr) (len1 cap1 : Nat) (z1 : List Int) (a2 b k : Int) (w : World) (w1 : IsRow .u8 w a1 len1 cap1 z1) :
    Calls Try.prog 3 #[.int .i64 a0, .slice a1 len1 cap1, .int .i64 a2, .agg #[.int .i64 b, .int .i64 k]] w fun e w' => e = .returned (.bool true) ∧ Below w.heap.size w w' := by
  by_cases hn : 4000 < len1
  · exact says_out a0 a2 a1 len1 cap1 b k w hn
  · obtain ⟨hm, h⟩ := w1.bytes
    rcases h with rfl | ⟨bb, off, l, rfl, hl, hc, hr, hb⟩
    · exact says_core a0 a2 a1 0 cap1 [] b k w (Or.inl rfl) rfl (by omega)
    · exact says_core a0 a2 _ len1 cap1 l b k w (Or.inr ⟨bb, off, rfl, hr, hb⟩) hl.symm (by omega)
end Go.Proofs.Ytggiknecfiaokaa.walkScrambleSays
