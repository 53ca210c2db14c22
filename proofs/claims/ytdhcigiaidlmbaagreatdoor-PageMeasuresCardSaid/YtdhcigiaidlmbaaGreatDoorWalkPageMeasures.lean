/- The walk over PageMeasures. By the verifier of shale. -/
import Derived.Test.YtdhcigiaidlmbaaGreatDoorGreat1
import Derived.Test.YtdhcigiaidlmbaaGreatDoorGreat2
import Derived.Test.YtdhcigiaidlmbaaGreatDoorGreat3
import Derived.Test.YtdhcigiaidlmbaaGreatDoorGreat4
import Derived.Test.YtdhcigiaidlmbaaGreatDoorGreat5
import Derived.Test.YtdhcigiaidlmbaaGreatDoorGreat6
import Derived.Test.YtdhcigiaidlmbaaGreatDoorLaidPageMeasures
import Derived.Deep.Cut
import Derived.Lib.QuietBelow
namespace Go.Proofs.YtdhcigiaidlmbaaGreatDoor.walkPageMeasures
open Go Go.RowKit Bin Pl Cos Enc Syn Loc Sea Dec Crc Pg
set_option linter.unusedVariables false
section
variable {m : Nat} [M : Pl.Mid m]
set_option maxRecDepth 100000 in
set_option maxHeartbeats 4000000 in
theorem good {t sc : Nat} (g0 g1 g5 g6 g7 g8 : Int) (w : World) (h1 : g1 ≤ 9223372036854775807) (h1l : -9223372036854775808 ≤ g1) (f : Nat → Addr) (hsc : sc ≤ 1024) (H : Enc.May m t (sc + 32)) (hs : 1 ≤ secs g0 g1 (sc : Int) (m : Int) (t : Int) g5 g6 g7 g8) (HA : AllErrs w f) (T : Tab w) :
    Calls Tryz.prog 3 #[.agg #[.int .i64 g0, .int .i64 g1, .int .i64 (sc : Int), .int .i64 (m : Int), .int .i64 (t : Int), .int .i64 g5, .int .i64 g6, .int .i64 g7, .int .i64 g8]] w fun e w' => e = .returned (.bool true) ∧ Below w.heap.size w w' := by
  have HP : Hid (∀ W, Below w.heap.size w W → AllErrs W f ∧ Tab W) := fun W b => ⟨HA.below b, T.below b T.lt⟩
  have HRV := Lib.hid (fun W => rvalid_yes (m := m) (t := t) (sc := sc) g0 g1 g5 g6 g7 g8 (by omega) H hs W)
  have HNW : Hid (∀ W, Below w.heap.size w W → Calls Tryz.prog 12 #[.agg #[.int .i64 g0, .int .i64 g1, .int .i64 (sc : Int), .int .i64 (m : Int), .int .i64 (t : Int), .int .i64 g5, .int .i64 g6, .int .i64 g7, .int .i64 g8]] W (PgMadeAt m t sc W)) := fun W b => pnew_yes (m := m) (t := t) (sc := sc) g0 g1 g5 g6 g7 g8 h1 h1l (by omega) H hs W (f 4) ((HP.out W b).1.1.2.2.2.2.1)
  have HVA : Hid (∀ W, Below w.heap.size w W → Calls Tryz.prog 13 #[.agg #[.int .i64 g0, .int .i64 g1, .int .i64 (sc : Int), .int .i64 (m : Int), .int .i64 (t : Int), .int .i64 g5, .int .i64 g6, .int .i64 g7, .int .i64 g8]] W fun e w' => e = .returned .nilIface ∧ Below W.heap.size W w') := fun W b => pvalid_of g0 g1 (sc : Int) (m : Int) (t : Int) g5 g6 g7 g8 W .nilIface fun W2 b2 => (codeOf_yes (m := m) (t := t) (sc := sc) g0 g1 g5 g6 g7 g8 h1 h1l (by omega) H hs W2 (f 4) (((HP.out W b).1.below b2).1.2.2.2.2.1)).mono fun e w' h => by
    obtain ⟨s, h1, _, h3, _⟩ := h
    exact ⟨_, h1, h3⟩
  obtain ⟨S0, hS0⟩ : ∃ S0, S0 = secs g0 g1 (sc : Int) (m : Int) (t : Int) g5 g6 g7 g8 := ⟨_, rfl⟩
  have HSc : Hid (∀ W, Calls Tryz.prog 15 #[.agg #[.int .i64 g0, .int .i64 g1, .int .i64 (sc : Int), .int .i64 (m : Int), .int .i64 (t : Int), .int .i64 g5, .int .i64 g6, .int .i64 g7, .int .i64 g8]] W fun e w' => e = .returned (.int .i64 S0) ∧ Below W.heap.size W w') := fun W => by rw [hS0]; exact secs_any g0 g1 (sc : Int) (m : Int) (t : Int) g5 g6 g7 g8 W h1 h1l
  have HRc : Hid (∀ W, Calls Tryz.prog 16 #[.agg #[.int .i64 g0, .int .i64 g1, .int .i64 (sc : Int), .int .i64 (m : Int), .int .i64 (t : Int), .int .i64 g5, .int .i64 g6, .int .i64 g7, .int .i64 g8]] W fun e w' => e = .returned (.int .i64 S0) ∧ Below W.heap.size W w') := fun W => by rw [hS0]; exact rsecs_all g0 g1 (sc : Int) (m : Int) (t : Int) g5 g6 g7 g8 W
  have HSV : Hid (SeeV f .nilIface 0) := .inl ⟨rfl, rfl⟩
  have HNn : Hid (t ≤ 40 ∧ sc ≤ 1024 ∧ deg m t ≤ 560) := ⟨by have := H; obtain ⟨_, h, _⟩ := this; omega, hsc, deg_560 (m := m) (by obtain ⟨_, h, _⟩ := H; omega)⟩
  clear hS0 h1 h1l hsc H hs HA T
  go_enter Tryz.func3, Tryz.ntmps3
  go_wp2_with fail
  generalize hw : w.alloc (.cells #[.int .i64 g0, .int .i64 g1, .int .i64 (sc : Int), .int .i64 (m : Int), .int .i64 (t : Int), .int .i64 g5, .int .i64 g6, .int .i64 g7, .int .i64 g8] 23 (0, 0)) = w1
  obtain ⟨K, b1⟩ := newG w w1 _ _ _ _ _ _ _ _ _ hw
  obtain ⟨bg, hbg⟩ : ∃ bg, bg = w.heap.size := ⟨_, rfl⟩
  rw [← hbg] at K ⊢
  clear hw hbg
  have H1 := HP.out w1 b1
  refine (first13_any w1 H1.1.1.2.2.2.2.1 H1.1.1.2.2.2.2.2.1 H1.1.1.2.2.1 H1.1.1.2.2.2.2.2.2.1 H1.2).mono ?_
  clear H1
  rintro e w2 ⟨rfl, b⟩
  replace K := keepG K b
  have B2 := Lib.hid (b1.trans (b.mono b1.size))
  have HK2 := Lib.hid K
  obtain ⟨e0, e1, e2, e3, e4, e5, e6, e7, e8⟩ := g_cells K
  clear K b b1
  go_wp2_with fail
  refine (HRV.out w2).mono ?_
  rintro e w3 ⟨ga, gn, gc, rfl, hG, b⟩
  clear hG
  have HK3 := Lib.hid (keepG HK2.out b)
  have B3 := Lib.hid (B2.out.trans (b.mono B2.out.size))
  clear e0 e1 e2 e3 e4 e5 e6 e7 e8 b
  go_upto_region 3 with (fail)
  generalize hw : w3.alloc (.cells #[.int .i64 (m : Int), .int .i64 (t : Int), .int .i64 ((sc : Int) + 32), .slice ga gn gc, .int .i64 (deg m t : Int)] 27 (0, 0)) = w4
  have KX : w4.heap[w3.heap.size]? = some (cdO (.int .i64 (m : Int)) (.int .i64 (t : Int)) (.int .i64 ((sc : Int) + 32)) (.slice ga gn gc) (.int .i64 (deg m t : Int))) := by rw [← hw]; exact heap_alloc_new w3 _
  have b4 : Below w3.heap.size w3 w4 := by rw [← hw]; exact (Below.refl _ _).alloc (Nat.le_refl _) _
  obtain ⟨bx, hbx⟩ : ∃ bx, bx = w3.heap.size := ⟨_, rfl⟩
  rw [← hbx] at KX ⊢
  clear hw hbx
  have HK4 := Lib.hid (And.intro (keepG HK3.out b4) KX)
  have B4 := Lib.hid (B3.out.trans (b4.mono B3.out.size))
  obtain ⟨k0, k1, k2, k3, k4, _⟩ := cd_cells KX
  clear KX b4 k0 k1 k2 k3
  by_cases hd : 250 < deg m t
  · have t1 : decide ((250 : Int) < (deg m t : Int)) = true := decide_eq_true (by omega)
    have t2 : (250 : Int) < (deg m t : Int) := by omega
    have t3 : 250 < deg m t := hd
    have t4 : decide (250 < deg m t) = true := decide_eq_true hd
    clear hd
    go_wp2_with fail
    go_ret
    exact ⟨rfl, B4.out⟩
  have t1 : decide ((250 : Int) < (deg m t : Int)) = false := decide_eq_false (by omega)
  have t2 : ¬ (250 : Int) < (deg m t : Int) := by omega
  have t3 : ¬ 250 < deg m t := hd
  have t4 : decide (250 < deg m t) = false := decide_eq_false hd
  clear hd
  obtain ⟨e0, e1, e2, e3, e4, e5, e6, e7, e8⟩ := g_cells HK4.out.1
  go_wp2_with fail
  refine (HNW.out w4 B4.out).mono ?_
  rintro e w5 ⟨cb, s, db, rfl, PG, CD, _, b, _⟩
  clear e0 e1 e2 e3 e4 e5 e6 e7 e8 k4
  have HK5 := Lib.hid (And.intro (keepG HK4.out.1 b) (keepG HK4.out.2 b))
  have B5 := Lib.hid (B4.out.trans (b.mono B4.out.size))
  have HC5 := Lib.hid (And.intro PG CD)
  clear PG CD
  clear b
  obtain ⟨e0, e1, e2, e3, e4, e5, e6, e7, e8⟩ := g_cells HK5.out.1
  go_wp2_with fail
  refine (HVA.out w5 B5.out).mono ?_
  rintro e w6 ⟨rfl, b⟩
  clear e0 e1 e2 e3 e4 e5 e6 e7 e8
  have HK6 := Lib.hid (And.intro (keepG HK5.out.1 b) (keepG HK5.out.2 b))
  have B6 := Lib.hid (B5.out.trans (b.mono B5.out.size))
  have HC6 : Hid (pgAt w6 cb sc s db ∧ CodeAt m t (sc + 32) w6 s) := ⟨HC5.out.1.below b, HC5.out.2.below b⟩
  clear b
  have HIs : Hid (∀ q os, Calls Tryz.prog 14 #[.nilIface, .int .i64 0] (Sort.grow (redrawn w6 q) os) fun x w'' => x = .returned (.bool true) ∧ ∃ p : Regrown, w'' = Sort.grow (redrawn w6 p.d) p.os) := fun q os => Calls.regrown_of (is_v ((HP.out w6 B6.out).1.below (below_regrown w6 q os)) HSV.out)
  have HSe : Hid (∀ q os, Calls Tryz.prog 15 #[.agg #[.int .i64 g0, .int .i64 g1, .int .i64 (sc : Int), .int .i64 (m : Int), .int .i64 (t : Int), .int .i64 g5, .int .i64 g6, .int .i64 g7, .int .i64 g8]] (Sort.grow (redrawn w6 q) os) fun x w'' => x = .returned (.int .i64 S0) ∧ ∃ p : Regrown, w'' = Sort.grow (redrawn w6 p.d) p.os) := fun q os => Calls.regrown_of (HSc.out _)
  have HRs : Hid (∀ q os, Calls Tryz.prog 16 #[.agg #[.int .i64 g0, .int .i64 g1, .int .i64 (sc : Int), .int .i64 (m : Int), .int .i64 (t : Int), .int .i64 g5, .int .i64 g6, .int .i64 g7, .int .i64 g8]] (Sort.grow (redrawn w6 q) os) fun x w'' => x = .returned (.int .i64 S0) ∧ ∃ p : Regrown, w'' = Sort.grow (redrawn w6 p.d) p.os) := fun q os => Calls.regrown_of (HRc.out _)
  obtain ⟨Sz, hSz⟩ : ∃ Sz : Int, Sz = ((sc + 32 + pb (deg m t) : Nat) : Int) := ⟨_, rfl⟩
  have HSi : Hid (∀ q os, Calls Tryz.prog 17 #[.pointer (some ⟨cb, 0, none⟩)] (Sort.grow (redrawn w6 q) os) fun x w'' => x = .returned (.int .i64 Sz) ∧ ∃ p : Regrown, w'' = Sort.grow (redrawn w6 p.d) p.os) := fun q os => Calls.regrown_of ((csize_any (HC6.out.1.below (below_regrown w6 q os)) (HC6.out.2.below (below_regrown w6 q os)) HNn.out.1 HNn.out.2.1).mono fun e w' h => ⟨by rw [hSz]; exact h.1, h.2.below _⟩)
  have HRz : Hid (∀ q os, Calls Tryz.prog 18 #[.agg #[.int .i64 g0, .int .i64 g1, .int .i64 (sc : Int), .int .i64 (m : Int), .int .i64 (t : Int), .int .i64 g5, .int .i64 g6, .int .i64 g7, .int .i64 g8, .int .i64 (m : Int), .int .i64 (t : Int), .int .i64 ((sc : Int) + 32), .slice ga gn gc, .int .i64 (deg m t : Int)]] (Sort.grow (redrawn w6 q) os) fun x w'' => x = .returned (.int .i64 Sz) ∧ ∃ p : Regrown, w'' = Sort.grow (redrawn w6 p.d) p.os) := fun q os => Calls.regrown_of (by rw [hSz]; have h := rsize_gen g0 g1 g5 g6 g7 g8 m sc t (sc + 32) ga gn gc (deg m t) HNn.out.2.1 HNn.out.2.2 (Sort.grow (redrawn w6 q) os); rw [show ((sc + 32 : Nat) : Int) = (sc : Int) + 32 from rfl] at h; exact h)
  clear hSz
  obtain ⟨e0, e1, e2, e3, e4, e5, e6, e7, e8⟩ := g_cells HK6.out.1
  obtain ⟨k0, k1, k2, k3, k4, _⟩ := cd_cells HK6.out.2
  replace e0 := cell_regrown e0
  replace e1 := cell_regrown e1
  replace e2 := cell_regrown e2
  replace e3 := cell_regrown e3
  replace e4 := cell_regrown e4
  replace e5 := cell_regrown e5
  replace e6 := cell_regrown e6
  replace e7 := cell_regrown e7
  replace e8 := cell_regrown e8
  replace k0 := cell_regrown k0
  replace k1 := cell_regrown k1
  replace k2 := cell_regrown k2
  replace k3 := cell_regrown k3
  replace k4 := cell_regrown k4
  go_upto_region 7 with (fail)
  refine wp_region_quiet_below (by kernel_rfl) (by kernel_rfl) ?_
  repeat (go_big_quiet_step (first | (go_at_call 14; with_reducible exact HIs.out _ _) | (go_at_call 15; with_reducible exact HSe.out _ _) | (go_at_call 16; with_reducible exact HRs.out _ _) | (go_at_call 17; with_reducible exact HSi.out _ _) | (go_at_call 18; with_reducible exact HRz.out _ _)))
  refine wpQuiet_nil ?_
  intro _ hw'
  obtain ⟨⟨dq, osq⟩, hw''⟩ := hw'
  subst hw''
  have b5 := below_regrown w6 dq osq
  generalize Sort.grow (redrawn w6 dq) osq = wS at b5 ⊢
  have HF := Lib.hid (B6.out.trans (b5.mono B6.out.size))
  clear b5 e0 e1 e2 e3 e4 e5 e6 e7 e8 k0 k1 k2 k3 k4
  go_wp2_with fail
  go_ret
  exact ⟨rfl, HF.out⟩
end
set_option maxRecDepth 100000 in
set_option maxHeartbeats 4000000 in
theorem bad (g0 g1 g2 g3 g4 g5 g6 g7 g8 : Int) (w : World) (h1 : g1 ≤ 9223372036854775807) (h1l : -9223372036854775808 ≤ g1) (f : Nat → Addr) (y : Addr) (c : Int) (hv : SeeV f (errOf y) c) (hc : c ≠ 0)
    (hC : ∀ w, AllErrs w f → Calls Tryz.prog 35 #[.agg #[.int .i64 g0, .int .i64 g1, .int .i64 g2, .int .i64 g3, .int .i64 g4, .int .i64 g5, .int .i64 g6, .int .i64 g7, .int .i64 g8]] w fun e w' => e = .returned (.tuple #[.pointer none, errOf y]) ∧ Below w.heap.size w w')
    (hR : ∀ w, Calls Tryz.prog 11 #[.agg #[.int .i64 g0, .int .i64 g1, .int .i64 g2, .int .i64 g3, .int .i64 g4, .int .i64 g5, .int .i64 g6, .int .i64 g7, .int .i64 g8]] w fun e w' => e = .returned (.tuple #[cdZ, .int .i64 c]) ∧ Below w.heap.size w w') (HA : AllErrs w f) (T : Tab w) :
    Calls Tryz.prog 3 #[.agg #[.int .i64 g0, .int .i64 g1, .int .i64 g2, .int .i64 g3, .int .i64 g4, .int .i64 g5, .int .i64 g6, .int .i64 g7, .int .i64 g8]] w fun e w' => e = .returned (.bool true) ∧ Below w.heap.size w w' := by
  have HP : Hid (∀ W, Below w.heap.size w W → AllErrs W f ∧ Tab W) := fun W b => ⟨HA.below b, T.below b T.lt⟩
  have HRV := Lib.hid hR
  have HNW : Hid (∀ W, Below w.heap.size w W → Calls Tryz.prog 12 #[.agg #[.int .i64 g0, .int .i64 g1, .int .i64 g2, .int .i64 g3, .int .i64 g4, .int .i64 g5, .int .i64 g6, .int .i64 g7, .int .i64 g8]] W fun e w' => e = .returned (.tuple #[.pointer none, errOf y]) ∧ Below W.heap.size W w') := fun W b => pnew_bad g0 g1 g2 g3 g4 g5 g6 g7 g8 W y fun W2 b2 => hC W2 ((HP.out W b).1.below b2)
  have HVA : Hid (∀ W, Below w.heap.size w W → Calls Tryz.prog 13 #[.agg #[.int .i64 g0, .int .i64 g1, .int .i64 g2, .int .i64 g3, .int .i64 g4, .int .i64 g5, .int .i64 g6, .int .i64 g7, .int .i64 g8]] W fun e w' => e = .returned (errOf y) ∧ Below W.heap.size W w') := fun W b => pvalid_of g0 g1 g2 g3 g4 g5 g6 g7 g8 W (errOf y) fun W2 b2 => (hC W2 ((HP.out W b).1.below b2)).mono fun e w' h => ⟨_, h.1, h.2⟩
  obtain ⟨S0, hS0⟩ : ∃ S0, S0 = secs g0 g1 g2 g3 g4 g5 g6 g7 g8 := ⟨_, rfl⟩
  have HSc : Hid (∀ W, Calls Tryz.prog 15 #[.agg #[.int .i64 g0, .int .i64 g1, .int .i64 g2, .int .i64 g3, .int .i64 g4, .int .i64 g5, .int .i64 g6, .int .i64 g7, .int .i64 g8]] W fun e w' => e = .returned (.int .i64 S0) ∧ Below W.heap.size W w') := fun W => by rw [hS0]; exact secs_any g0 g1 g2 g3 g4 g5 g6 g7 g8 W h1 h1l
  have HRc : Hid (∀ W, Calls Tryz.prog 16 #[.agg #[.int .i64 g0, .int .i64 g1, .int .i64 g2, .int .i64 g3, .int .i64 g4, .int .i64 g5, .int .i64 g6, .int .i64 g7, .int .i64 g8]] W fun e w' => e = .returned (.int .i64 S0) ∧ Below W.heap.size W w') := fun W => by rw [hS0]; exact rsecs_all g0 g1 g2 g3 g4 g5 g6 g7 g8 W
  have HSV := Lib.hid hv
  have q1 : (c == 0) = false := by rw [beq_eq_false_iff_ne]; exact hc
  have q2 : decide (c = 0) = false := decide_eq_false hc
  have q3 : ¬ c = 0 := hc
  clear hS0 h1 h1l HA T hR hC hv hc
  go_enter Tryz.func3, Tryz.ntmps3
  go_wp2_with fail
  generalize hw : w.alloc (.cells #[.int .i64 g0, .int .i64 g1, .int .i64 g2, .int .i64 g3, .int .i64 g4, .int .i64 g5, .int .i64 g6, .int .i64 g7, .int .i64 g8] 23 (0, 0)) = w1
  obtain ⟨K, b1⟩ := newG w w1 _ _ _ _ _ _ _ _ _ hw
  obtain ⟨bg, hbg⟩ : ∃ bg, bg = w.heap.size := ⟨_, rfl⟩
  rw [← hbg] at K ⊢
  clear hw hbg
  have H1 := HP.out w1 b1
  refine (first13_any w1 H1.1.1.2.2.2.2.1 H1.1.1.2.2.2.2.2.1 H1.1.1.2.2.1 H1.1.1.2.2.2.2.2.2.1 H1.2).mono ?_
  clear H1
  rintro e w2 ⟨rfl, b⟩
  replace K := keepG K b
  have B2 := Lib.hid (b1.trans (b.mono b1.size))
  have HK2 := Lib.hid K
  obtain ⟨e0, e1, e2, e3, e4, e5, e6, e7, e8⟩ := g_cells K
  clear K b b1
  go_wp2_with fail
  refine (HRV.out w2).mono ?_
  rintro e w3 ⟨rfl, b⟩
  have HK3 := Lib.hid (keepG HK2.out b)
  have B3 := Lib.hid (B2.out.trans (b.mono B2.out.size))
  clear e0 e1 e2 e3 e4 e5 e6 e7 e8 b
  go_upto_region 3 with (fail)
  generalize hw : w3.alloc (.cells #[.int .i64 0, .int .i64 0, .int .i64 0, .slice none 0 0, .int .i64 0] 27 (0, 0)) = w4
  have KX : w4.heap[w3.heap.size]? = some (cdO (.int .i64 0) (.int .i64 0) (.int .i64 0) (.slice none 0 0) (.int .i64 0)) := by rw [← hw]; exact heap_alloc_new w3 _
  have b4 : Below w3.heap.size w3 w4 := by rw [← hw]; exact (Below.refl _ _).alloc (Nat.le_refl _) _
  obtain ⟨bx, hbx⟩ : ∃ bx, bx = w3.heap.size := ⟨_, rfl⟩
  rw [← hbx] at KX ⊢
  clear hw hbx
  have HK4 := Lib.hid (And.intro (keepG HK3.out b4) KX)
  have B4 := Lib.hid (B3.out.trans (b4.mono B3.out.size))
  obtain ⟨k0, k1, k2, k3, k4, _⟩ := cd_cells KX
  clear KX b4 k0 k1 k2 k3
  obtain ⟨e0, e1, e2, e3, e4, e5, e6, e7, e8⟩ := g_cells HK4.out.1
  go_wp2_with fail
  refine (HNW.out w4 B4.out).mono ?_
  rintro e w5 ⟨rfl, b⟩
  clear e0 e1 e2 e3 e4 e5 e6 e7 e8 k4
  have HK5 := Lib.hid (And.intro (keepG HK4.out.1 b) (keepG HK4.out.2 b))
  have B5 := Lib.hid (B4.out.trans (b.mono B4.out.size))
  clear b
  obtain ⟨e0, e1, e2, e3, e4, e5, e6, e7, e8⟩ := g_cells HK5.out.1
  go_wp2_with fail
  refine (HVA.out w5 B5.out).mono ?_
  rintro e w6 ⟨rfl, b⟩
  clear e0 e1 e2 e3 e4 e5 e6 e7 e8
  have HK6 := Lib.hid (And.intro (keepG HK5.out.1 b) (keepG HK5.out.2 b))
  have B6 := Lib.hid (B5.out.trans (b.mono B5.out.size))
  clear b
  have HIs : Hid (∀ q os, Calls Tryz.prog 14 #[errOf y, .int .i64 c] (Sort.grow (redrawn w6 q) os) fun x w'' => x = .returned (.bool true) ∧ ∃ p : Regrown, w'' = Sort.grow (redrawn w6 p.d) p.os) := fun q os => Calls.regrown_of (is_v ((HP.out w6 B6.out).1.below (below_regrown w6 q os)) HSV.out)
  have HSe : Hid (∀ q os, Calls Tryz.prog 15 #[.agg #[.int .i64 g0, .int .i64 g1, .int .i64 g2, .int .i64 g3, .int .i64 g4, .int .i64 g5, .int .i64 g6, .int .i64 g7, .int .i64 g8]] (Sort.grow (redrawn w6 q) os) fun x w'' => x = .returned (.int .i64 S0) ∧ ∃ p : Regrown, w'' = Sort.grow (redrawn w6 p.d) p.os) := fun q os => Calls.regrown_of (HSc.out _)
  have HRs : Hid (∀ q os, Calls Tryz.prog 16 #[.agg #[.int .i64 g0, .int .i64 g1, .int .i64 g2, .int .i64 g3, .int .i64 g4, .int .i64 g5, .int .i64 g6, .int .i64 g7, .int .i64 g8]] (Sort.grow (redrawn w6 q) os) fun x w'' => x = .returned (.int .i64 S0) ∧ ∃ p : Regrown, w'' = Sort.grow (redrawn w6 p.d) p.os) := fun q os => Calls.regrown_of (HRc.out _)
  obtain ⟨e0, e1, e2, e3, e4, e5, e6, e7, e8⟩ := g_cells HK6.out.1
  obtain ⟨k0, k1, k2, k3, k4, _⟩ := cd_cells HK6.out.2
  replace e0 := cell_regrown e0
  replace e1 := cell_regrown e1
  replace e2 := cell_regrown e2
  replace e3 := cell_regrown e3
  replace e4 := cell_regrown e4
  replace e5 := cell_regrown e5
  replace e6 := cell_regrown e6
  replace e7 := cell_regrown e7
  replace e8 := cell_regrown e8
  replace k0 := cell_regrown k0
  replace k1 := cell_regrown k1
  replace k2 := cell_regrown k2
  replace k3 := cell_regrown k3
  replace k4 := cell_regrown k4
  go_upto_region 7 with (fail)
  refine wp_region_quiet_below (by kernel_rfl) (by kernel_rfl) ?_
  repeat (go_big_quiet_step (first | (go_at_call 14; with_reducible exact HIs.out _ _) | (go_at_call 15; with_reducible exact HSe.out _ _) | (go_at_call 16; with_reducible exact HRs.out _ _)))
  refine wpQuiet_nil ?_
  intro _ hw'
  obtain ⟨⟨dq, osq⟩, hw''⟩ := hw'
  subst hw''
  have b5 := below_regrown w6 dq osq
  generalize Sort.grow (redrawn w6 dq) osq = wS at b5 ⊢
  have HF := Lib.hid (B6.out.trans (b5.mono B6.out.size))
  clear b5 e0 e1 e2 e3 e4 e5 e6 e7 e8 k0 k1 k2 k3 k4
  go_wp2_with fail
  go_ret
  exact ⟨rfl, HF.out⟩
theorem walk (n0 : Nat → Int) (W : World) (w0 : ∀ i, i < 9 → (Lit.int .i64 (n0 i)).wf = true) (h : LaidPageMeasures.Holds W) :
    Calls Tryz.prog 3 #[.agg ((List.range 9).map fun i => .int .i64 (n0 i)).toArray] W fun e w' => e = .returned (.bool true) ∧ Below W.heap.size W w' := by
  obtain ⟨T, f', hE, hd⟩ := h
  obtain ⟨f, hf⟩ : ∃ f : Nat → Addr, f = fun i => f' (i + 1) := ⟨_, rfl⟩
  have hA : AllErrs W f := by
    rw [hf]
    obtain ⟨a0, a1, a2, a3, a4, a5, a6, a7, a8, a9, a10, a11, a12, a13, a14, a15, a16, a17, a18⟩ := hE
    exact ⟨⟨a0, a1, a2, a3, a4, a5, a6, a7, a8, a9, a10, a11, a12, a13, a14, a15, a16, a17, a18⟩, fun i j hi hj hij => hd (i + 1) (j + 1) (by omega) (by omega) (by omega) (by omega) (by omega)⟩
  clear hf
  have h1 := w0 1 (by decide)
  have hb := int64_bounds h1
  show Calls Tryz.prog 3 #[.agg #[.int .i64 (n0 0), .int .i64 (n0 1), .int .i64 (n0 2), .int .i64 (n0 3), .int .i64 (n0 4), .int .i64 (n0 5), .int .i64 (n0 6), .int .i64 (n0 7), .int .i64 (n0 8)]] W _
  rcases geo_cases (n0 0) (n0 1) (n0 2) (n0 3) (n0 4) (n0 5) (n0 6) (n0 7) (n0 8) hb.2 hb.1 f with ⟨m, t, sc, M, e2, e3, e4, hsc, H, hs⟩ | ⟨y, c, hv, hc, hC, hR⟩
  · rw [e2, e3, e4] at hs ⊢
    exact good (n0 0) (n0 1) (n0 5) (n0 6) (n0 7) (n0 8) W hb.2 hb.1 f hsc H hs hA T
  · exact bad (n0 0) (n0 1) (n0 2) (n0 3) (n0 4) (n0 5) (n0 6) (n0 7) (n0 8) W hb.2 hb.1 f y c hv hc hC hR hA T
end Go.Proofs.YtdhcigiaidlmbaaGreatDoor.walkPageMeasures
