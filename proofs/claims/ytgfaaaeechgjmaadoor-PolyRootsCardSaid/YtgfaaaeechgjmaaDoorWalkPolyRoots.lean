/- The walk over PolyRoots. By the verifier of shale. -/
import Derived.Test.YtgfaaaeechgjmaaDoorPolyLaw
import Derived.Test.YtgfaaaeechgjmaaDoorLaidPolyRoots
namespace Go.Proofs.YtgfaaaeechgjmaaDoor.walkPolyRoots
open Go Go.RowKit Fld Bits16 Pl
set_option linter.unusedVariables false
section
variable {m : Nat} [M : Mid m]
theorem ev_len {p : Ser (El m)} {n N K : Nat} (h : Bd p n) (hN : n ≤ N) (hK : n ≤ K) (x : El m) : ev N p x = ev K p x := (ev_more x n N p h hN).trans (ev_more x n K p h hK).symm
/-- how many of the first k are the element x. -/
def cnt (l : List Int) (x : El m) : Nat → Nat
  | 0 => 0
  | k + 1 => cnt l x k + if elm m (l.getD k 0) = x then 1 else 0
theorem cnt_le (l : List Int) (x : El m) : ∀ k, cnt l x k ≤ k
  | 0 => Nat.le_refl _
  | k + 1 => by have := cnt_le l x k; simp only [cnt]; split <;> omega
theorem der_lin (A : Ser (El m)) (a : El m) : der (cv A (lin a)) = padd (cv (der A) (lin a)) A := by
  funext i
  show (if i % 2 = 0 then cv A (lin a) (i + 1) else 0) = cv (der A) (lin a) i + A i
  rw [lin_succ]
  cases i with
  | zero =>
    rw [lin_first]
    show A 0 + A 1 * a = der A 0 * a + A 0
    rw [show der A 0 = A 1 from rfl, Fl.add_comm]
  | succ j =>
    rw [lin_succ]
    show (if (j + 1) % 2 = 0 then A (j + 1) + A (j + 1 + 1) * a else 0) = ((if j % 2 = 0 then A (j + 1) else 0) + (if (j + 1) % 2 = 0 then A (j + 1 + 1) else 0) * a) + A (j + 1)
    rcases Nat.mod_two_eq_zero_or_one j with h | h
    · rw [if_neg (by omega), if_pos h, if_neg (by omega), zero_mul, Fl.add_zero, Fl.add_self]
    · rw [if_pos (by omega), if_neg (by omega), if_pos (by omega), zero_add, Fl.add_comm]
theorem ev_pls (l : List Int) (x : El m) : ∀ k N, k + 1 ≤ N → (ev N (pls l k) x = 0 ↔ 0 < cnt l x k)
  | 0, N, hN => by
    rw [ev_len (pls_bd l 0) hN (Nat.le_refl 1)]
    show pls l 0 0 + x * 0 = 0 ↔ 0 < 0
    rw [Pl.mul_zero, Fl.add_zero]
    exact ⟨fun e => absurd e Fl.one_ne, fun h => absurd h (by omega)⟩
  | k + 1, N, hN => by
    rw [ev_len (pls_bd l (k + 1)) hN (by omega : k + 1 + 1 ≤ k + 3)]
    show ev (k + 3) (cv (pls l k) (lin (elm m (l.getD k 0)))) x = 0 ↔ _
    rw [ev_cv x (k + 1) 2 _ _ _ (pls_bd l k) (lin_dg _).2 (by omega), ev_lin]
    have ih := ev_pls l x k (k + 1) (Nat.le_refl _)
    simp only [cnt]
    by_cases h : elm m (l.getD k 0) = x
    · rw [if_pos h, h, Fl.add_self, Pl.mul_zero]
      exact ⟨fun _ => by omega, fun _ => rfl⟩
    · rw [if_neg h]
      show _ ↔ 0 < cnt l x k
      rw [← ih]
      constructor
      · intro e
        rcases mul_eq_zero e with e | e
        · exact e
        · exact absurd (add_cancel e) h
      · intro e; rw [e, zero_mul]
theorem ev_der (l : List Int) (x : El m) : ∀ k N, k + 1 ≤ N → 0 < cnt l x k → (ev N (der (pls l k)) x = 0 ↔ 1 < cnt l x k)
  | 0, N, hN, h => absurd h (by simp [cnt])
  | k + 1, N, hN, h0 => by
    rw [ev_len (der_bdK (pls_bd l (k + 1))) hN (by omega : k + 1 + 1 ≤ k + 3)]
    show ev (k + 3) (der (cv (pls l k) (lin (elm m (l.getD k 0))))) x = 0 ↔ _
    rw [der_lin, ev_add, ev_cv x (k + 1) 2 _ _ _ (der_bdK (pls_bd l k)) (lin_dg _).2 (by omega), ev_lin]
    simp only [cnt] at h0 ⊢
    by_cases h : elm m (l.getD k 0) = x
    · rw [if_pos h, h, Fl.add_self, Pl.mul_zero, zero_add, ev_pls l x k (k + 3) (by omega)]
      omega
    · rw [if_neg h] at h0 ⊢
      replace h0 : 0 < cnt l x k := h0
      show _ ↔ 1 < cnt l x k
      rw [(ev_pls l x k (k + 3) (by omega)).2 h0, Fl.add_zero, ← ev_der l x k (k + 1) (Nat.le_refl _) h0]
      constructor
      · intro e
        rcases mul_eq_zero e with e | e
        · exact e
        · exact absurd (add_cancel e) h
      · intro e; rw [e, zero_mul]
theorem rts_pre (n : Nat) (P : Ser (El m)) (j : Nat) : ∀ k, ∃ t, rts n P (j + k) = rts n P j ++ t
  | 0 => ⟨[], (List.append_nil _).symm⟩
  | k + 1 => by
    obtain ⟨t, ht⟩ := rts_pre n P j k
    show ∃ u, rts n P (j + k) ++ _ = _
    rw [ht, List.append_assoc]
    exact ⟨_, rfl⟩
theorem rts_at (n : Nat) (P : Ser (El m)) (j S : Nat) (h : j < S) (h0 : ev n P (elm m (j : Int)) = 0) : (rts n P j).length < (rts n P S).length ∧ (intsN (rts n P S)).getD (rts n P j).length 0 = (j : Int) := by
  obtain ⟨t, ht⟩ := rts_pre n P (j + 1) (S - (j + 1))
  rw [show j + 1 + (S - (j + 1)) = S by omega, rts, if_pos h0] at ht
  constructor
  · rw [ht]; simp
  · rw [ht]
    unfold intsN
    simp [List.getD_eq_getElem?_getD]
theorem zn_at (a : El m) (j : Nat) (hj : j < 2 ^ m) : (zn a == (j : Int)) = decide (a = elm m (j : Int)) := by
  have e : zn (elm m (j : Int)) = (j : Int) := by
    show h (el m (j : Int)) = _
    unfold Bits16.h
    rw [el_nat m M.hi]
    have hp := pow14 m M.hi
    have : (BitVec.ofInt 64 (j : Int)).toNat = j := by rw [BitVec.toNat_ofInt]; omega
    rw [this, Nat.mod_eq_of_lt hj]
  rw [Bool.eq_iff_iff, beq_iff_eq, decide_eq_true_iff]
  constructor
  · intro h1; exact zn_inj (h1.trans e.symm)
  · intro h1; rw [h1]; exact e
/-- what the loops keep. -/
def St (m : Nat) [M : Mid m] (w wx : World) (g s be ce bl : Nat) (a1 : Option Addr) (n1 c1 : Nat) (l : List Int) (ap : Option Addr) (np cp : Nat) (P : Ser (El m)) (ad : Option Addr) (nd cd : Nat) (D : Ser (El m)) (ar : Option Addr) (nr cr : Nat) (L : List Int) : Prop :=
  RingAt m wx g s be ce bl ∧ RowZ wx a1 n1 c1 l ∧ PV m wx 17 ap np cp P ∧ PV m wx 17 ad nd cd D ∧ RowZ wx ar nr cr L ∧ Below w.heap.size w wx
theorem St.drawn {w wx w' : World} {g s be ce bl : Nat} {a1 : Option Addr} {n1 c1 : Nat} {l : List Int} {ap : Option Addr} {np cp : Nat} {P : Ser (El m)} {ad : Option Addr} {nd cd : Nat} {D : Ser (El m)} {ar : Option Addr} {nr cr : Nat} {L : List Int} (h : St m w wx g s be ce bl a1 n1 c1 l ap np cp P ad nd cd D ar nr cr L) (d : Drawn wx w') : St m w w' g s be ce bl a1 n1 c1 l ap np cp P ad nd cd D ar nr cr L := by
  obtain ⟨h1, h2, h3, h4, h5, h6⟩ := h
  have b := d.below wx.heap.size
  exact ⟨h1.below b, h2.below b, h3.below b, h4.below b, h5.below b, h6.trans (b.mono h6.size)⟩
end
set_option maxRecDepth 100000 in
set_option maxHeartbeats 1000000 in
theorem long (x0 : Int) (a1 : Option Addr) (n1 c1 : Nat) (w : World) (h : 16 < n1) :
    Calls Tryd.prog 4 #[.int .i64 x0, .slice a1 n1 c1] w fun e w' => e = .returned (.bool true) ∧ Below w.heap.size w w' := by
  have t1 : decide ((16 : Int) < (n1 : Int)) = true := decide_eq_true (by omega)
  clear h
  go_enter Tryd.func4, Tryd.ntmps4
  go_wp2_with fail
  refine (first_any w).mono ?_
  rintro e w1 ⟨rfl, B⟩
  go_wp2_with fail
  refine (ring_any x0 w1).mono ?_
  rintro e w2 ⟨g, s, be, ce, bl, rfl, R, b⟩
  replace B := B.trans (b.mono B.size)
  clear b
  go_wp2_with fail
  go_ret
  exact ⟨rfl, B⟩
set_option maxRecDepth 100000 in
set_option maxHeartbeats 2000000 in
theorem core (x0 : Int) (a1 : Option Addr) (n1 c1 : Nat) (l : List Int) (w : World) (P1 : RowZ w a1 n1 c1 l) (k1 : n1 ≤ 16) :
    Calls Tryd.prog 4 #[.int .i64 x0, .slice a1 n1 c1] w fun e w' => e = .returned (.bool true) ∧ Below w.heap.size w w' := by
  have t1 : decide ((16 : Int) < (n1 : Int)) = false := decide_eq_false (by omega)
  have hm8 := rm_hi x0
  have hm14 : ((rm x0 : Nat) : Int) ≤ 14 := by omega
  have ho := shl_one (rm x0) Mid.hi
  have e1 := els_lo (rm x0) Mid.lo
  have e2 := els_hi (rm x0) Mid.hi
  obtain ⟨S, hS⟩ : ∃ S, S = els (rm x0) := ⟨_, rfl⟩
  have hS2 : Hid (S = 2 ^ rm x0) := hS
  rw [← hS] at ho e1 e2
  clear hS
  go_enter Tryd.func4, Tryd.ntmps4
  go_wp2_with fail
  refine (first_any w).mono ?_
  rintro e w1 ⟨rfl, B⟩
  replace P1 := P1.below B
  go_wp2_with fail
  refine (ring_any x0 w1).mono ?_
  rintro e w2 ⟨g, s, be, ce, bl, rfl, R, b⟩
  replace P1 := P1.below b
  replace B := B.trans (b.mono B.size)
  clear b
  go_wp2_with fail
  refine (fromV R P1 (by omega) 17 (by omega)).mono ?_
  rintro e w3 ⟨ap, np, cp, rfl, h, b⟩
  replace P1 := P1.below b
  replace R := R.below b
  replace B := B.trans (b.mono B.size)
  have Pp := h.pol
  clear h b
  have HDg : Hid ((Pl.top (pls (m := rm x0) l n1) 17 : Int) - 1 = (n1 : Int)) := by
    show _ = _
    rw [top_dg' Pp.bd (pls_dg l n1)]; omega
  have HRt : Hid (rootsV 17 (pls (m := rm x0) l n1) = intsN (rts (n1 + 1) (pls (m := rm x0) l n1) S)) := by
    show _ = _
    unfold rootsV
    rw [top_dg' Pp.bd (pls_dg l n1), if_neg (by omega), hS2.out]
  have HEv : Hid (∀ x : El (rm x0), ev 17 (pls (m := rm x0) l n1) x = ev (n1 + 1) (pls (m := rm x0) l n1) x) := fun x => ev_len (pls_bd l n1) (by omega) (Nat.le_refl _) x
  go_wp2_with fail
  refine (degV R Pp).mono ?_
  rintro e w' ⟨rfl, rfl⟩
  rw [HDg.out]
  clear HDg
  go_wp2_with fail
  refine (derV R Pp (by decide)).mono ?_
  rintro e w4 ⟨ad, nd, cd, rfl, h, b⟩
  replace P1 := P1.below b
  replace R := R.below b
  replace Pp := Pp.below b
  replace B := B.trans (b.mono B.size)
  have Pd := h.pol
  clear h b
  go_wp2_with fail
  refine (rootsV_any R Pp (by decide)).mono ?_
  rintro e w5 ⟨ar, nr, cr, rfl, Pr, b⟩
  rw [HRt.out] at Pr
  replace P1 := P1.below b
  replace R := R.below b
  replace Pp := Pp.below b
  replace Pd := Pd.below b
  replace B := B.trans (b.mono B.size)
  have hnr : nr ≤ maxLen := Nat.le_trans Pr.hcap Pr.hmost
  unfold maxLen at hnr
  have HNR : Hid (nr = (rts (n1 + 1) (pls (m := rm x0) l n1) S).length) := by
    show _ = _
    rw [Pr.hlen]; simp [intsN]
  have HS0 : Hid (St (rm x0) w w5 g s be ce bl a1 n1 c1 l ap np cp (pls (m := rm x0) l n1) ad nd cd (der (pls (m := rm x0) l n1)) ar nr cr (intsN (rts (n1 + 1) (pls (m := rm x0) l n1) S))) := ⟨R, P1, Pp, Pd, Pr, B⟩
  clear P1 R Pp Pd Pr B b HRt
  go_wp2_with fail
  go_loopg [11, 13] S (fun gh s11 s13 wx => ∃ (j c : Nat), gh = S - j ∧ j ≤ S ∧ s13 = .int .i64 (j : Int) ∧ s11 = .int .i64 (c : Int) ∧ Hid (c = (rts (n1 + 1) (pls (m := rm x0) l n1) j).length) ∧ Hid (St (rm x0) w wx g s be ce bl a1 n1 c1 l ap np cp (pls (m := rm x0) l n1) ad nd cd (der (pls (m := rm x0) l n1)) ar nr cr (intsN (rts (n1 + 1) (pls (m := rm x0) l n1) S))))
  case atStart => exact ⟨0, 0, rfl, Nat.zero_le _, rfl, rfl, rfl, HS0⟩
  case round =>
    clear HS0
    obtain ⟨j, c, hg, hj, rfl, rfl, HC, HS⟩ := hrel
    have HG := Lib.hid hg
    clear hg
    obtain ⟨W0, rfl⟩ : ∃ W0, W0 = wr := ⟨_, rfl⟩
    by_cases hlt : j < S
    · have x1 : (j : Int) < (S : Int) := by omega
      have x2 : decide ((j : Int) < (S : Int)) = true := decide_eq_true x1
      have HJ : Hid (j < 2 ^ rm x0) := by rw [← hS2.out]; exact hlt
      go_wp2_with fail
      rw [ho]
      go_loopg [14, 15] n1 (fun gh s14 s15 wx => ∃ (i t : Nat), gh = n1 - i ∧ i ≤ n1 ∧ s15 = .int .i64 (i : Int) ∧ s14 = .int .i64 (t : Int) ∧ Hid (t = cnt l (elm (rm x0) (j : Int)) i) ∧ Hid (St (rm x0) w wx g s be ce bl a1 n1 c1 l ap np cp (pls (m := rm x0) l n1) ad nd cd (der (pls (m := rm x0) l n1)) ar nr cr (intsN (rts (n1 + 1) (pls (m := rm x0) l n1) S))))
      case atStart => exact ⟨0, 0, rfl, Nat.zero_le _, rfl, rfl, rfl, HS⟩
      case round =>
        clear HS
        obtain ⟨i, t, hg, hi, rfl, rfl, HT, HS⟩ := hrel
        have HG2 := Lib.hid hg
        clear hg
        have ht : t ≤ i := by rw [HT.out]; exact cnt_le _ _ _
        by_cases hlt2 : i < n1
        · have v1 : (i : Int) < (n1 : Int) := by omega
          have v0 : (0 : Int) ≤ (i : Int) := by omega
          obtain ⟨bb, off, rfl, d1, _⟩ := HS.out.2.1.row i hlt2
          by_cases he : elm (rm x0) (l.getD i 0) = elm (rm x0) (j : Int)
          · have tz : (zn (elm (rm x0) (l.getD i 0)) == (j : Int)) = true := (zn_at _ j HJ.out).trans (decide_eq_true he)
            have HT2 : Hid (t + 1 = cnt l (elm (rm x0) (j : Int)) (i + 1)) := by
              show _ = _
              simp only [cnt]
              rw [if_pos he, HT.out]
            clear he
            go_wp2_with fail
            refine (rlow_any (m := rm x0) (l.getD i 0) wr).mono ?_
            rintro e w6 ⟨rfl, rfl⟩
            generalize zn (elm (rm x0) (l.getD i 0)) = zz at tz ⊢
            go_wp2_with fail
            go_roundg (n1 - (i + 1))
            case measure => have := HG2.out; omega
            case rel => exact ⟨i + 1, t + 1, rfl, by omega, by go_num, by go_num, HT2, HS⟩
          · have tz : (zn (elm (rm x0) (l.getD i 0)) == (j : Int)) = false := (zn_at _ j HJ.out).trans (decide_eq_false he)
            have HT2 : Hid (t = cnt l (elm (rm x0) (j : Int)) (i + 1)) := by
              show _ = _
              simp only [cnt]
              rw [if_neg he, HT.out, Nat.add_zero]
            clear he
            go_wp2_with fail
            refine (rlow_any (m := rm x0) (l.getD i 0) wr).mono ?_
            rintro e w6 ⟨rfl, rfl⟩
            generalize zn (elm (rm x0) (l.getD i 0)) = zz at tz ⊢
            go_wp2_with fail
            go_roundg (n1 - (i + 1))
            case measure => have := HG2.out; omega
            case rel => exact ⟨i + 1, t, rfl, by omega, by go_num, rfl, HT2, HS⟩
        · obtain rfl : i = n1 := by omega
          have hR := HS.out.1
          have hp := HS.out.2.2.1
          by_cases h0 : 0 < t
          · have HV : Hid (ev 17 (pls l i) (elm (rm x0) (j : Int)) = 0) := by
              show _ = _
              rw [ev_pls l _ i 17 (by omega), ← HT.out]; exact h0
            have hat := rts_at (i + 1) (pls (m := rm x0) l i) j S hlt (by rw [← HEv.out]; exact HV.out)
            rw [← HC.out, ← HNR.out] at hat
            have hc1 : c < nr := hat.1
            have hc2 : (c : Int) < (nr : Int) := by omega
            have hc3 : ¬ nr ≤ c := by omega
            have hc0 : (0 : Int) ≤ (c : Int) := by omega
            have HC2 : Hid (c + 1 = (rts (i + 1) (pls (m := rm x0) l i) (j + 1)).length) := by
              show _ = _
              rw [rts, if_pos (by rw [← HEv.out]; exact HV.out), List.length_append, HC.out]; rfl
            have HA := Lib.hid hat.2
            clear hat
            go_wp2_with fail
            refine (evalV (j : Int) hR hp).mono ?_
            rintro e w6 ⟨rfl, d⟩
            have HS6 := Lib.hid (HS.out.drawn d)
            rw [HV.out, zn_zero]
            obtain ⟨bb, off, rfl, d1, _⟩ := HS6.out.2.2.2.2.1.row c hc1
            rw [HA.out] at d1
            have hR6 := HS6.out.1
            have hd6 := HS6.out.2.2.2.1
            clear d HS hR hp
            go_wp2_with fail
            refine (evalV (j : Int) hR6 hd6).mono ?_
            rintro e w7 ⟨rfl, d⟩
            have HS7 := Lib.hid (HS6.out.drawn d)
            have hdv := ev_der l (elm (rm x0) (j : Int)) i 17 (by omega) (by rw [← HT.out]; exact h0)
            rw [← HT.out] at hdv
            have hze := zn_eq0 (ev 17 (der (pls l i)) (elm (rm x0) (j : Int)))
            clear d d1 HS6 hR6 hd6
            by_cases h1 : 1 < t
            · have hz : (zn (ev 17 (der (pls l i)) (elm (rm x0) (j : Int))) == 0) = true := hze.trans (decide_eq_true (hdv.2 h1))
              have x5 : decide ((1 : Int) < (t : Int)) = true := decide_eq_true (by omega)
              clear hze hdv
              generalize zn (ev 17 (der (pls l i)) (elm (rm x0) (j : Int))) = zz at hz ⊢
              go_wp2_with fail
              go_roundg (S - (j + 1))
              case measure => have := HG.out; omega
              case rel => exact ⟨j + 1, c + 1, rfl, by omega, by go_num, by go_num, HC2, HS7⟩
            · have hz : (zn (ev 17 (der (pls l i)) (elm (rm x0) (j : Int))) == 0) = false := hze.trans (decide_eq_false fun e => h1 (hdv.1 e))
              have x5 : decide ((1 : Int) < (t : Int)) = false := decide_eq_false (by omega)
              clear hze hdv
              generalize zn (ev 17 (der (pls l i)) (elm (rm x0) (j : Int))) = zz at hz ⊢
              go_wp2_with fail
              go_roundg (S - (j + 1))
              case measure => have := HG.out; omega
              case rel => exact ⟨j + 1, c + 1, rfl, by omega, by go_num, by go_num, HC2, HS7⟩
          · have hv : ev 17 (pls l i) (elm (rm x0) (j : Int)) ≠ 0 := fun e => by
              rw [ev_pls l _ i 17 (by omega), ← HT.out] at e
              exact h0 e
            have HC2 : Hid (c = (rts (i + 1) (pls (m := rm x0) l i) (j + 1)).length) := by
              show _ = _
              rw [rts, if_neg (by rw [← HEv.out]; exact hv), List.append_nil, HC.out]
            have hz : (zn (ev 17 (pls l i) (elm (rm x0) (j : Int))) == 0) = false := (zn_eq0 _).trans (decide_eq_false hv)
            clear hv
            go_wp2_with fail
            refine (evalV (j : Int) hR hp).mono ?_
            rintro e w6 ⟨rfl, d⟩
            have HS6 := Lib.hid (HS.out.drawn d)
            generalize zn (ev 17 (pls l i) (elm (rm x0) (j : Int))) = zz at hz ⊢
            clear d HS hR hp
            go_wp2_with fail
            go_roundg (S - (j + 1))
            case measure => have := HG.out; omega
            case rel => exact ⟨j + 1, c, rfl, by omega, by go_num, rfl, HC2, HS6⟩
    · obtain rfl : j = S := by omega
      have hc : c = nr := by rw [HC.out, HNR.out]
      subst hc
      have x1 : ¬ (j : Int) < (j : Int) := by omega
      clear hlt HC HNR
      go_wp2_with fail
      go_ret
      exact ⟨rfl, HS.out.2.2.2.2.2⟩
theorem walk (x0 : Int) (a1 : Option Addr) (len1 cap1 : Nat) (z1 : List Int) (W : World) (w0 : (Lit.int .i64 x0).wf = true) (w1 : IsRow .i64 W a1 len1 cap1 z1) (h : LaidPolyRoots.Holds W) :
    Calls Tryd.prog 4 #[.int .i64 x0, .slice a1 len1 cap1] W fun e w' => e = .returned (.bool true) ∧ Below W.heap.size W w' := by
  by_cases k1 : len1 ≤ 16
  · exact core x0 a1 len1 cap1 _ W (row_rowz w1) k1
  · exact long x0 a1 len1 cap1 W (by omega)
end Go.Proofs.YtgfaaaeechgjmaaDoor.walkPolyRoots
