/- shaleref2.BinGcd, Irreducible. By the verifier of shale. -/
import Derived.Test.YtcdhjmmkeiomaaaDoorRefDiv
namespace Go.Proofs.YtcdhjmmkeiomaaaDoor.Bin
open Go Go.RowKit
set_option linter.unusedVariables false
theorem rdegV {w : World} {k : Nat} {a : Option Addr} {n c u : Nat} (h1 : PolV w k a n c u) (hk : k ≤ 1000) :
    Calls Tryd.prog 15 #[.slice a n c] w fun e w' => e = .returned (.int .i64 (degZ u)) ∧ w = w' := by
  obtain ⟨X, p1, rfl, n1⟩ := h1
  exact rdeg_any a n c X w p1 (by omega)
theorem NewV.fit {w0 w : World} {K k : Nat} {a : Option Addr} {n c v : Nat} (h : NewV w0 w K a n c v) (hv : v < room k) : NewV w0 w k a n c v := by
  obtain ⟨X, h1, h2, h3, h4⟩ := h
  exact newV h1 h2 h3 k hv
theorem NewV.since {w0 w w' : World} {K : Nat} {a : Option Addr} {n c v : Nat} (h : NewV w0 w K a n c v) (b : Below w.heap.size w w') : NewV w0 w' K a n c v := by
  obtain ⟨X, h1, h2, h3, h4⟩ := h
  exact ⟨X, h1.since b, h2, h3, h4⟩
theorem NewV.from {w0 w1 w : World} {K : Nat} {a : Option Addr} {n c v : Nat} (h : NewV w1 w K a n c v) (b : w0.heap.size ≤ w1.heap.size) : NewV w0 w K a n c v := by
  obtain ⟨X, h1, h2, h3, h4⟩ := h
  exact ⟨X, h1.from b, h2, h3, h4⟩
set_option maxRecDepth 100000 in
set_option maxHeartbeats 2000000 in
theorem rgcdV {w : World} {k k' : Nat} {a a' : Option Addr} {n c n' c' u v : Nat} (K : Nat) (h1 : PolV w k a n c u) (h2 : PolV w k' a' n' c' v) (hK : k ≤ K) (hK' : k' ≤ K) (hK2 : K ≤ 200) :
    Calls Tryd.prog 25 #[.slice a n c, .slice a' n' c'] w fun e w' => ∃ a n c, e = .returned (.slice a n c) ∧ NewV w w' K a n c (pgcd u v) ∧ Below w.heap.size w w' := by
  have l1 := Nat.lt_of_lt_of_le h1.lt (room_mono hK)
  have l2 := Nat.lt_of_lt_of_le h2.lt (room_mono hK')
  have H1 := Lib.hid h1
  have H2 := Lib.hid h2
  have HL := Lib.hid (And.intro l1 l2)
  clear h1 h2 l1 l2
  go_enter Tryd.func25, Tryd.ntmps25
  go_wp2_with fail
  refine (raddV K H1.out (polV_nil w) hK (Nat.zero_le _) (by omega)).mono ?_
  rintro e w1 ⟨aA, nA, cA, rfl, hA, b1⟩
  rw [Nat.xor_zero] at hA
  go_wp2_with fail
  refine (raddV K (H2.out.below b1) (polV_nil w1) hK' (Nat.zero_le _) (by omega)).mono ?_
  rintro e w2 ⟨aB, nB, cB, rfl, hB, b2⟩
  rw [Nat.xor_zero] at hB
  have hA2 := hA.since b2
  have hB2 := hB.from b1.size
  have B2 := b1.trans (b2.mono b1.size)
  clear hA hB b1 b2
  go_wp2_with fail
  go_loopg [0, 1] v (fun gh s0 s1 wx => ∃ (aa ab : Option Addr) (na nb ca cb A B : Nat), gh = B ∧ s0 = .slice aa na ca ∧ s1 = .slice ab nb cb ∧ NewV w wx K aa na ca A ∧ NewV w wx K ab nb cb B ∧ Below w.heap.size w wx ∧ Hid (A < room K ∧ B < room K ∧ ∀ g, IsGcd A B g → IsGcd u v g))
  case atStart => exact ⟨aA, aB, nA, nB, cA, cB, u, v, rfl, rfl, rfl, hA2, hB2, B2, HL.out.1, HL.out.2, fun g h => h⟩
  case round =>
    clear hA2 hB2 B2 H1 H2 HL
    obtain ⟨aa, ab, na, nb, ca, cb, A, B, hg, rfl, rfl, hA, hB, hW, HI⟩ := hrel
    have HG := Lib.hid hg
    clear hg
    by_cases h0 : B = 0
    · subst h0
      have HF : Hid (A = pgcd u v) := pgcd_of (HI.out.2.2 A (IsGcd.right_zero A))
      go_wp2_with fail
      refine (rdegV hB.pol (by omega)).mono ?_
      rintro e w5 ⟨rfl, rfl⟩
      rw [degZ_zero]
      go_wp2_with fail
      go_ret
      exact ⟨aa, na, ca, rfl, by rw [← HF.out]; exact hA, hW⟩
    · have HZ := Lib.hid h0
      have t : decide (0 ≤ degZ B) = true := by rw [degZ_ne h0]; exact decide_eq_true (by omega)
      clear h0
      go_wp2_with fail
      refine (rdegV hB.pol (by omega)).mono ?_
      rintro e w5 ⟨rfl, rfl⟩
      go_wp2_with fail
      refine (rdivV K hA.pol hB.pol (Nat.le_refl _) (Nat.le_refl _) hK2 HZ.out).mono ?_
      rintro e w5 ⟨aq, nq, cq, ar, nr, cr, q, r, rfl, hq, hr, hd, b5⟩
      have hlt := rest_lt hd HZ.out
      have HI2 : Hid (B < room K ∧ r < room K ∧ ∀ g, IsGcd B r g → IsGcd u v g) := ⟨HI.out.2.1, Nat.lt_trans hlt HI.out.2.1, fun g h => HI.out.2.2 g (IsGcd.step hd h)⟩
      have HLT := Lib.hid hlt
      have hB3 := hB.since b5
      have hr3 := hr.from hW.size
      have hW3 := hW.trans (b5.mono hW.size)
      clear hq hr hd b5 hA hB hW HI hlt t
      go_wp2_with fail
      go_roundg r
      case measure => have := HG.out; have := HLT.out; omega
      case rel => exact ⟨ab, ar, nb, nr, cb, cr, B, r, rfl, rfl, rfl, hB3, hr3, hW3, HI2.out⟩
theorem pgcd_comm (a b : Nat) : pgcd a b = pgcd b a := pgcd_of (pgcd_is a b).comm
theorem degZ_one {g : Nat} (h : g ≠ 0) : degZ g = 0 ↔ g = 1 := by
  rw [degZ_ne h]
  constructor
  · intro h1
    have := (deg_of h).2
    rw [show g.log2 = 0 by omega] at this
    omega
  · intro h1; rw [h1]; rfl
theorem two_polV (w : World) : PolV (w.alloc (obj8 [2])) 1 (some ⟨w.heap.size, 0, none⟩) 1 1 2 ∧ Below w.heap.size w (w.alloc (obj8 [2])) :=
  ⟨⟨[2], ⟨rfl, Nat.le_refl _, by decide, (fun h => by cases h), Or.inr ⟨_, 0, rfl, (Blk8.new w [2]).row, by simp⟩⟩, rfl, Nat.le_refl _⟩, (Below.refl _ _).alloc (Nat.le_refl _) _⟩
set_option maxRecDepth 100000 in
set_option maxHeartbeats 2000000 in
theorem rirrV {w : World} {a : Option Addr} {n c v : Nat} (h1 : PolV w 40 a n c v) :
    Calls Tryd.prog 27 #[.slice a n c] w fun e w' => e = .returned (.bool (irrC v)) ∧ Below w.heap.size w w' := by
  have H1 := Lib.hid h1
  have HL := Lib.hid h1.lt
  clear h1
  by_cases hs : v < 2
  · have t := degZ_small hs
    have HF := Lib.hid (irrC_small' hs)
    clear hs
    go_enter Tryd.func27, Tryd.ntmps27
    go_wp2_with fail
    refine (rdegV H1.out (by omega)).mono ?_
    rintro e w1 ⟨rfl, rfl⟩
    generalize degZ v = D at t ⊢
    go_wp2_with fail
    go_ret
    exact ⟨ret_bool HF.out.symm, Below.refl _ _⟩
  · have h0 : v ≠ 0 := by omega
    have hd := degZ_ne h0
    have h1 : 1 ≤ v.log2 := (Nat.le_log2 h0).2 (by omega)
    have HD := Lib.hid (deg_of h0)
    have HZ := Lib.hid h0
    by_cases hw : 32 < v.log2
    · have HF := Lib.hid (irrC_wide hw)
      generalize v.log2 = d at hw hd h1 HD
      have t1 : decide ((d : Int) < 1) = false := decide_eq_false (by omega)
      have t2 : decide ((32 : Int) < (d : Int)) = true := decide_eq_true (by omega)
      clear h0 hs HD hw h1
      go_enter Tryd.func27, Tryd.ntmps27
      go_wp2_with fail
      refine (rdegV H1.out (by omega)).mono ?_
      rintro e w1 ⟨rfl, rfl⟩
      rw [hd]
      clear hd
      go_wp2_with fail
      go_ret
      exact ⟨ret_bool HF.out.symm, Below.refl _ _⟩
    · have HF : Hid (irrC v = irrF 17 1 2 v) := by
        show _ = _
        unfold irrC; rw [if_neg (by omega)]
      obtain ⟨d, hde⟩ : ∃ d, d = v.log2 := ⟨_, rfl⟩
      rw [← hde] at hw hd h1 HD
      have HE := Lib.hid hde
      have t1 : decide ((d : Int) < 1) = false := decide_eq_false (by omega)
      have t2 : decide ((32 : Int) < (d : Int)) = false := decide_eq_false (by omega)
      have h32 : d ≤ 32 := by omega
      clear h0 hs hw hde
      go_enter Tryd.func27, Tryd.ntmps27
      go_wp2_with fail
      refine (rdegV H1.out (by omega)).mono ?_
      rintro e w1 ⟨rfl, rfl⟩
      rw [hd]
      clear hd
      have HP := Lib.hid (two_polV w)
      go_wp2_with fail
      obtain ⟨P2, B0⟩ := HP.out
      have H0 : PolV (w.alloc (obj8 [2])) 40 a n c v := H1.out.below B0
      change Code.wp _ _ _ _ (w.alloc (obj8 [2]))
      generalize w.alloc (obj8 [2]) = w2 at P2 B0 H0 ⊢
      generalize w.heap.size = g2 at P2 ⊢
      clear HP t1 t2
      go_loopg [5, 6] (17 : Nat) (fun gh s5 s6 wx => ∃ (f i y k' : Nat) (ay : Option Addr) (ny cy : Nat), gh = f ∧ f + i = 18 ∧ 1 ≤ i ∧ s6 = .int .i64 (i : Int) ∧ s5 = .slice ay ny cy ∧ PolV wx 40 ay ny cy y ∧ PolV wx 1 (some ⟨g2, 0, none⟩) 1 1 2 ∧ PolV wx 40 a n c v ∧ Hid (irrC v = irrF f i y v) ∧ Below w.heap.size w wx)
      case atStart => exact ⟨17, 1, 2, 0, _, 1, 1, rfl, rfl, by omega, rfl, rfl, by obtain ⟨X, q1, q2, q3⟩ := P2; exact ⟨X, q1, q2, by omega⟩, P2, H0, HF.out, B0⟩
      case round =>
        clear HF P2 B0 H0
        obtain ⟨f, i, y, k', ay, ny, cy, hg, hfi, hi1, rfl, rfl, PY, P2, P0, HI, B⟩ := hrel
        have HG := Lib.hid hg
        clear hg
        by_cases hle : 2 * i ≤ d
        · have t : decide ((i : Int) ≤ (d : Int) / 2) = true := decide_eq_true (by omega)
          obtain ⟨f', hf'⟩ : ∃ f', f = f' + 1 := ⟨f - 1, by omega⟩
          have HI2 : Hid (irrC v = if pgcd v (pmod (pm y y) v ^^^ 2) = 1 then irrF f' (i + 1) (pmod (pm y y) v) v else false) := by
            show _ = _
            have := HI.out
            rw [hf', irrF, ← HE.out, if_pos hle, pmul_pm] at this
            exact this
          have HF' := Lib.hid hf'
          clear HI hle hf'
          go_wp2_with fail
          refine (rmulV 80 PY PY (by decide) (by decide) (by decide)).mono ?_
          rintro e w3 ⟨a3, n3, c3, rfl, hm, b⟩
          replace PY := PY.below b
          replace P2 := P2.below b
          replace P0 := P0.below b
          replace B := B.trans (b.mono B.size)
          have PM := hm.pol
          clear hm b
          go_wp2_with fail
          refine (rdivV 80 PM P0 (by decide) (by decide) (by decide) HZ.out).mono ?_
          rintro e w4 ⟨aq, nq, cq, ar, nr, cr, q, r, rfl, hq, hr, hdv, b⟩
          replace P2 := P2.below b
          replace P0 := P0.below b
          replace B := B.trans (b.mono B.size)
          have HR : Hid (r = pmod (pm y y) v) := pmod_of HD.out hdv.1 (by
            rcases hdv.2 with h | ⟨i', j', d1, d2, hij⟩
            · rw [h]; exact Nat.two_pow_pos _
            · have := d2.eq HD.out
              exact lt_of_deg d1 (by omega))
          have PR := (hr.fit (Nat.lt_trans (rest_lt hdv HZ.out) HL.out)).pol
          rw [← HR.out] at HI2
          clear hq hr hdv b PM PY
          go_wp2_with fail
          refine (raddV 40 PR P2 (by decide) (by decide) (by decide)).mono ?_
          rintro e w5 ⟨a5, n5, c5, rfl, hs, b⟩
          replace PR := PR.below b
          replace P2 := P2.below b
          replace P0 := P0.below b
          replace B := B.trans (b.mono B.size)
          have PS := hs.pol
          clear hs b
          go_wp2_with fail
          refine (rgcdV 40 PS P0 (by decide) (by decide) (by decide)).mono ?_
          rintro e w6 ⟨a6, n6, c6, rfl, hg, b⟩
          replace PR := PR.below b
          replace P2 := P2.below b
          replace P0 := P0.below b
          replace B := B.trans (b.mono B.size)
          have PG := hg.pol
          clear hg b PS
          rw [pgcd_comm] at PG
          have hg0 : pgcd v (r ^^^ 2) ≠ 0 := fun h => HZ.out (by obtain ⟨x, hx⟩ := (pgcd_is v (r ^^^ 2)).1; rw [h, pm_zero] at hx; exact hx)
          have H1G := Lib.hid (degZ_one hg0)
          go_wp2_with fail
          refine (rdegV PG (by decide)).mono ?_
          rintro e w7 ⟨rfl, rfl⟩
          clear PG
          by_cases hp : pgcd v (r ^^^ 2) = 1
          · have HN : Hid (irrC v = irrF f' (i + 1) r v) := by
              have := HI2.out
              rw [if_pos hp] at this
              exact this
            rw [hp, show degZ 1 = 0 from rfl]
            clear hp HI2 hg0
            go_wp2_with fail
            go_roundg f'
            case measure => have := HG.out; have := HF'.out; omega
            case rel => exact ⟨f', i + 1, r, 0, ar, nr, cr, rfl, by have := HF'.out; omega, by omega, by go_num, rfl, PR, P2, P0, HN.out, B⟩
          · have HN : Hid (irrC v = false) := by
              have := HI2.out
              rw [if_neg hp] at this
              exact this
            have hz : degZ (pgcd v (r ^^^ 2)) ≠ 0 := fun h => hp (H1G.out.1 h)
            generalize degZ (pgcd v (r ^^^ 2)) = D at hz ⊢
            have t2 : (D == 0) = false := by rw [beq_eq_false_iff_ne]; exact hz
            have t3 : (D != 0) = true := by rw [bne_iff_ne]; exact hz
            clear hp HI2 hg0 H1G hz
            go_wp2_with fail
            go_ret
            exact ⟨ret_bool HN.out.symm, B⟩
        · have t : decide ((i : Int) ≤ (d : Int) / 2) = false := decide_eq_false (by omega)
          have HN : Hid (irrC v = true) := by
            show _ = _
            have := HI.out
            obtain ⟨f', hf'⟩ : ∃ f', f = f' + 1 ∨ f = 0 := by
              cases f with
              | zero => exact ⟨0, Or.inr rfl⟩
              | succ k => exact ⟨k, Or.inl rfl⟩
            rcases hf' with h | h
            · rw [h, irrF, ← HE.out, if_neg hle] at this
              exact this
            · rw [h, irrF] at this
              exact this
          clear HI hle
          go_wp2_with fail
          go_ret
          exact ⟨ret_bool HN.out.symm, B⟩
end Go.Proofs.YtcdhjmmkeiomaaaDoor.Bin
