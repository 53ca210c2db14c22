/- The walk over SyndromeApart. By the verifier of shale. -/
import Derived.Test.YthhhpaiednpdkaaDoorGreat1
import Derived.Test.YthhhpaiednpdkaaDoorGreat2
import Derived.Test.YthhhpaiednpdkaaDoorGreat3
import Derived.Test.YthhhpaiednpdkaaDoorGreat4
import Derived.Test.YthhhpaiednpdkaaDoorLaidSyndromeApart
import Derived.Deep.Cut
namespace Go.Proofs.YthhhpaiednpdkaaDoor.walkSyndromeApart
open Go Go.RowKit Bin Cos Enc Syn
set_option linter.unusedVariables false
set_option maxRecDepth 100000 in
set_option maxHeartbeats 4000000 in
theorem core (z1 z2 z3 : Int) (a : Option Addr) (na ca : Nat) (z : Nat → Int) (a' : Option Addr) (na' ca' : Nat) (z' : Nat → Int) (hm1 : na ≤ maxLen) (hm2 : na' ≤ maxLen) (w : World) (yc yn : Addr)
    (EC : ErrAt w 2 yc) (UN : ErrAt w 0 yn) (Y1 : RowZ w a na z) (Y2 : RowZ w a' na' z') :
    Calls Tryd.prog 4 #[.int .i64 z1, .int .i64 z2, .int .i64 z3, .slice a na ca, .slice a' na' ca'] w fun e w' => e = .returned (.bool true) ∧ Below w.heap.size w w' := by
  go_enter Tryd.func4, Tryd.ntmps4
  go_wp2_with fail
  refine (first7_any w yc yn EC UN).mono ?_
  rintro e w1 ⟨rfl, b⟩
  have B := b
  replace EC := EC.below b
  replace UN := UN.below b
  replace Y1 := rowZ_below Y1 b
  replace Y2 := rowZ_below Y2 b
  clear b
  go_wp2_with fail
  refine (made7_any z1 z2 z3 w1 yc EC).mono ?_
  rintro e w2 ⟨m, t, n, M, s, ga, gn, gc, hm6, hm10, ht6, hn24, hmay, rfl, C, G, b⟩
  haveI := M
  replace Y1 := rowZ_below Y1 b
  replace Y2 := rowZ_below Y2 b
  replace EC := EC.below b
  replace UN := UN.below b
  replace B := B.trans (b.mono B.size)
  clear b
  clear G
  have ht1 := hmay.t1
  have ht40 := hmay.t2
  have hn1 := hmay.n1
  have hn2 := hmay.n2
  have hroom := hmay.room
  have hDpos := deg_pos M.lo ht1
  have hD60 : deg m t ≤ 60 := by
    have h1 := deg_le M.lo t
    have h2 : m * t ≤ 10 * 6 := Nat.mul_le_mul hm10 ht6
    omega
  obtain ⟨D, hD⟩ : ∃ D, D = deg m t := ⟨_, rfl⟩
  have HD := Lib.hid hD
  rw [← hD] at hDpos hD60 hroom
  rw [← hD]
  obtain ⟨P, hP⟩ : ∃ P, P = pb D := ⟨_, rfl⟩
  have HPB := Lib.hid hP
  have hP8 : P ≤ 8 := by rw [hP]; unfold pb; omega
  clear hD hP
  go_wp2_with fail
  generalize hw : w2.alloc (.cells #[.int .i64 (m : Int), .int .i64 (t : Int), .int .i64 (n : Int), .slice ga gn gc, .int .i64 (D : Int)] 27 (0, 0)) = w3
  obtain ⟨K, b⟩ := newCd w2 w3 _ _ _ _ _ hw
  clear hw
  replace Y1 := rowZ_below Y1 b
  replace Y2 := rowZ_below Y2 b
  replace EC := EC.below b
  replace UN := UN.below b
  replace C := C.below b
  replace B := B.trans (b.mono B.size)
  clear b
  obtain ⟨bq, hbq⟩ : ∃ bq, bq = w2.heap.size := ⟨_, rfl⟩
  rw [← hbq] at K ⊢
  clear hbq
  obtain ⟨N, hN⟩ : ∃ N, N = 8 * n + D := ⟨_, rfl⟩
  have HN := Lib.hid hN
  have hN0 : 8 * n + deg m t = N := by have := HD.out; omega
  have hNz : N ≤ sz m := by omega
  clear hN
  have HPl : Hid (Calls Tryd.prog 18 #[.slice a na ca, cdV m t n ga gn gc D] w3 (PlAt N t w3)) := by
    have h := places_any m t n ga gn gc D hDpos (by omega) hn2 ht40 a na ca z hm1 w3 Y1
    rw [← HN.out] at h
    exact h
  refine (HPl.out).mono ?_
  rintro e w4 ⟨v1, p1, c1, rfl, R1, hv1, hp1, b⟩
  clear HPl
  clear Y1
  replace Y2 := rowZ_below Y2 b
  replace EC := EC.below b
  replace UN := UN.below b
  replace C := C.below b
  replace K := keepB K b
  replace B := B.trans (b.mono B.size)
  clear b
  obtain ⟨c0, c1, c2, c3, c4, _⟩ := cd_cells K
  go_wp2_with fail
  clear c0 c1 c2 c3 c4
  have HPl : Hid (Calls Tryd.prog 18 #[.slice a' na' ca', cdV m t n ga gn gc D] w4 (PlAt N t w4)) := by
    have h := places_any m t n ga gn gc D hDpos (by omega) hn2 ht40 a' na' ca' z' hm2 w4 Y2
    rw [← HN.out] at h
    exact h
  refine (HPl.out).mono ?_
  rintro e w5 ⟨v2, p2, c2, rfl, R2, hv2, hp2, b⟩
  clear HPl
  clear Y2
  replace EC := EC.below b
  replace UN := UN.below b
  replace C := C.below b
  replace K := keepB K b
  replace R1 := R1.below b
  replace B := B.trans (b.mono B.size)
  clear b
  obtain ⟨c0, c1, c2, c3, c4, _⟩ := cd_cells K
  go_wp2_with fail
  clear c0 c1 c2 c3 c4
  have hq1 : pop v1 N ≤ 100000 := by omega
  have hq2 : pop v2 N ≤ 100000 := by omega
  have x1 : xs (plc v1 N) = v1 := by rw [xs_plc, Nat.mod_eq_of_lt hv1]
  have x2 : xs (plc v2 N) = v2 := by rw [xs_plc, Nat.mod_eq_of_lt hv2]
  have HK : Hid (decide (syn m v1 (2 * t) = syn m v2 (2 * t)) = decide (plc v1 N = plc v2 N)) := decide_eq_decide.2 ⟨fun h => by
    have hv : v1 ^^^ v2 < 2 ^ N := Nat.xor_lt_two_pow hv1 hv2
    rcases sv_few (m := m) (t := t) hv hNz (fun j h1 h2 => by rw [sv_xor, syn_inj h j h1 h2, BitVec.xor_self]; rfl) with h0 | h0
    · rw [xor_eq_zero h0]
    · have := pop_xor_le v1 v2 N
      omega, fun h => by
    have : xs (plc v1 N) = xs (plc v2 N) := by rw [h]
    rw [x1, x2] at this
    rw [this]⟩
  have X1 := Lib.hid x1
  have X2 := Lib.hid x2
  obtain ⟨l1, hl1⟩ : ∃ l1, l1 = plc v1 N := ⟨_, rfl⟩
  obtain ⟨l2, hl2⟩ : ∃ l2, l2 = plc v2 N := ⟨_, rfl⟩
  have HB1 : Hid (∀ p ∈ l1, p < 8 * n + deg m t) := fun p hp => by rw [hN0]; rw [hl1] at hp; exact (mem_plc.1 hp).1
  have HB2 : Hid (∀ p ∈ l2, p < 8 * n + deg m t) := fun p hp => by rw [hN0]; rw [hl2] at hp; exact (mem_plc.1 hp).1
  rw [← hl1] at R1 X1 HK
  rw [← hl2] at R2 X2 HK
  generalize pop v1 N = n1 at R1 hp1 hq1 ⊢
  generalize pop v2 N = n2 at R2 hp2 hq2 ⊢
  clear hl1 hl2 x1 x2
  refine (bits_any (m := m) w5 s C hn2 ht40 p1 n1 c1 l1 R1 hq1 HB1.out).mono ?_
  rintro e w6 ⟨g3, rfl, I3, b, _⟩
  rw [X1.out] at I3
  replace EC := EC.below b
  replace UN := UN.below b
  replace C := C.below b
  replace K := keepB K b
  replace R1 := R1.below b
  replace R2 := R2.below b
  replace B := B.trans (b.mono B.size)
  clear b
  obtain ⟨c0, c1, c2, c3, c4, _⟩ := cd_cells K
  go_wp2_with fail
  clear c0 c1 c2 c3 c4
  refine (bits_any (m := m) w6 s C hn2 ht40 p2 n2 c2 l2 R2 hq2 HB2.out).mono ?_
  rintro e w7 ⟨g4, rfl, I4, b, _⟩
  rw [X2.out] at I4
  replace EC := EC.below b
  replace UN := UN.below b
  replace C := C.below b
  replace K := keepB K b
  replace R1 := R1.below b
  replace R2 := R2.below b
  replace I3 := keepI I3 b
  replace B := B.trans (b.mono B.size)
  clear b
  obtain ⟨c0, c1, c2, c3, c4, _⟩ := cd_cells K
  go_wp2_with fail
  clear c0 c1 c2 c3 c4
  refine (same_of (m := m) I3 I4 (by omega)).mono ?_
  rintro e w8 ⟨rfl, d⟩
  rw [HK.out]
  have b := d.below w7.heap.size
  clear d
  replace EC := EC.below b
  replace UN := UN.below b
  replace C := C.below b
  replace K := keepB K b
  replace R1 := R1.below b
  replace R2 := R2.below b
  replace I3 := keepI I3 b
  replace I4 := keepI I4 b
  replace B := B.trans (b.mono B.size)
  clear b
  obtain ⟨c0, c1, c2, c3, c4, _⟩ := cd_cells K
  go_wp2_with fail
  clear c0 c1 c2 c3 c4
  refine (sameInts_any p1 n1 c1 l1 p2 n2 c2 l2 w8 R1 R2 hq1).mono ?_
  rintro e w9 ⟨rfl, d⟩
  have tb : ∀ b : Bool, (b == b) = true := fun b => by cases b <;> rfl
  have tbb := tb (decide (l1 = l2))
  generalize decide (l1 = l2) = bb at tbb ⊢
  clear tb
  have b := d.below w8.heap.size
  clear d
  replace EC := EC.below b
  replace UN := UN.below b
  replace C := C.below b
  replace K := keepB K b
  replace R1 := R1.below b
  replace R2 := R2.below b
  replace I3 := keepI I3 b
  replace I4 := keepI I4 b
  replace B := B.trans (b.mono B.size)
  clear b
  obtain ⟨c0, c1, c2, c3, c4, _⟩ := cd_cells K
  go_wp2_with fail
  clear c0 c1 c2 c3 c4
  refine (add_of (m := m) I3 I3 (by omega)).mono ?_
  rintro e w10 ⟨g5, rfl, I5, b⟩
  rw [Nat.xor_self] at I5
  replace EC := EC.below b
  replace UN := UN.below b
  replace C := C.below b
  replace K := keepB K b
  replace R1 := R1.below b
  replace R2 := R2.below b
  replace I3 := keepI I3 b
  replace I4 := keepI I4 b
  replace B := B.trans (b.mono B.size)
  clear b
  obtain ⟨c0, c1, c2, c3, c4, _⟩ := cd_cells K
  go_wp2_with fail
  clear c0 c1 c2 c3 c4
  refine (clean_of (m := m) I5 (by omega)).mono ?_
  rintro e w' ⟨rfl, rfl⟩
  rw [decide_eq_true (fun j hj => sv_zero _)]
  clear C K R1 R2 I3 I4 I5
  go_wp2_with fail
  go_ret
  exact ⟨rfl, B⟩
theorem walk (a0 a1 a2 : Int) (a3 : Option Addr) (len3 cap3 : Nat) (z3 : List Int) (a4 : Option Addr) (len4 cap4 : Nat) (z4 : List Int) (W : World) (w0 : (Lit.int .i64 a0).wf = true) (w1 : (Lit.int .i64 a1).wf = true) (w2 : (Lit.int .i64 a2).wf = true) (w3 : IsRow .i64 W a3 len3 cap3 z3) (w4 : IsRow .i64 W a4 len4 cap4 z4) (h : LaidSyndromeApart.Holds W) :
    Calls Tryd.prog 4 #[.int .i64 a0, .int .i64 a1, .int .i64 a2, .slice a3 len3 cap3, .slice a4 len4 cap4] W fun e w' => e = .returned (.bool true) ∧ Below W.heap.size W w' := by
  obtain ⟨f, ⟨E0, E1, E2, E3⟩, _⟩ := h
  obtain ⟨h3, m3⟩ := isrow_z w3
  obtain ⟨h4, m4⟩ := isrow_z w4
  exact core a0 a1 a2 a3 len3 cap3 _ a4 len4 cap4 _ m3 m4 W _ _ E3 E1 h3 h4
end Go.Proofs.YthhhpaiednpdkaaDoor.walkSyndromeApart
