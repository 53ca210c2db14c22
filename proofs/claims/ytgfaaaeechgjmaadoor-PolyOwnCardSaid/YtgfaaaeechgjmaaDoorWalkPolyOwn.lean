/- The walk over PolyOwn. By the verifier of shale. -/
import Derived.Test.YtgfaaaeechgjmaaDoorPolyLaw
import Derived.Test.YtgfaaaeechgjmaaDoorRefZCopy
import Derived.Test.YtgfaaaeechgjmaaDoorPolyRoom
import Derived.Test.YtgfaaaeechgjmaaDoorLaidPolyOwn
namespace Go.Proofs.YtgfaaaeechgjmaaDoor.walkPolyOwn
open Go Go.RowKit Fld Bits16 Pl
set_option linter.unusedVariables false
set_option maxRecDepth 100000 in
set_option maxHeartbeats 1000000 in
theorem long (x0 : Int) (a1 : Option Addr) (n1 c1 : Nat) (a2 : Option Addr) (n2 c2 : Nat) (w : World) (h : 24 < n1 ∨ 24 < n2) :
    Calls Tryd.prog 8 #[.int .i64 x0, .slice a1 n1 c1, .slice a2 n2 c2] w fun e w' => e = .returned (.bool true) ∧ Below w.heap.size w w' := by
  have t : (decide ((24 : Int) < (n1 : Int)) = true) ∨ (decide ((24 : Int) < (n1 : Int)) = false ∧ decide ((24 : Int) < (n2 : Int)) = true) := by
    by_cases h1 : 24 < n1
    · exact Or.inl (decide_eq_true (by omega))
    · skip
      exact Or.inr <| ⟨decide_eq_false (by omega), decide_eq_true (by omega)⟩
  clear h
  rcases t with t0 | ⟨t0, t1⟩
  all_goals
    go_enter Tryd.func8, Tryd.ntmps8
    go_wp2_with fail
    refine (first_any w).mono ?_
    rintro e w1 ⟨rfl, B⟩
    go_wp2_with fail
    refine (ring_any x0 w1).mono ?_
    rintro e w2 ⟨g, s, be, ce, bl, rfl, R, b⟩
    replace B := B.trans (b.mono B.size)
    clear b
    go_wp2_with fail
    go_ret
    exact ⟨rfl, B⟩
set_option maxRecDepth 100000 in
set_option maxHeartbeats 4000000 in
theorem core (x0 : Int) (a1 : Option Addr) (n1 c1 : Nat) (a2 : Option Addr) (n2 c2 : Nat) (l1 l2 : List Int) (w : World) (q : Addr) (E1 : ErrAt w 0 q)
    (Pp : RowZ w a1 n1 c1 l1) (Pq : RowZ w a2 n2 c2 l2) (kp : n1 ≤ 24) (kq : n2 ≤ 24) :
    Calls Tryd.prog 8 #[.int .i64 x0, .slice a1 n1 c1, .slice a2 n2 c2] w fun e w' => e = .returned (.bool true) ∧ Below w.heap.size w w' := by
  have t0 : decide ((24 : Int) < (n1 : Int)) = false := decide_eq_false (by omega)
  have t1 : decide ((24 : Int) < (n2 : Int)) = false := decide_eq_false (by omega)
  go_enter Tryd.func8, Tryd.ntmps8
  go_wp2_with fail
  refine (first_any w).mono ?_
  rintro e w1 ⟨rfl, B⟩
  replace Pp := Pp.below B
  replace Pq := Pq.below B
  replace E1 := E1.below B
  go_wp2_with fail
  refine (ring_any x0 w1).mono ?_
  rintro e w2 ⟨g, s, be, ce, bl, rfl, RG, b⟩
  replace Pp := Pp.below b
  replace Pq := Pq.below b
  replace E1 := E1.below b
  replace B := B.trans (b.mono B.size)
  clear b
  go_wp2_with fail
  refine (ints_any a1 n1 c1 l1 w2 Pp (by omega)).mono ?_
  rintro e w3 ⟨a_a, c_a, rfl, h, b⟩
  have Pa := (own_rowz h).1
  replace Pp := Pp.below b
  replace Pq := Pq.below b
  replace E1 := E1.below b
  replace RG := RG.below b
  replace B := B.trans (b.mono B.size)
  clear b h
  go_wp2_with fail
  refine (ints_any a2 n2 c2 l2 w3 Pq (by omega)).mono ?_
  rintro e w4 ⟨a_b, c_b, rfl, h, b⟩
  have Pb := (own_rowz h).1
  replace Pp := Pp.below b
  replace Pq := Pq.below b
  replace Pa := Pa.below b
  replace E1 := E1.below b
  replace RG := RG.below b
  replace B := B.trans (b.mono B.size)
  clear b h t0 t1
  go_wp2_with fail
  go_loopg [12] (2 : Nat) (fun gh s12 wx => ∃ (k : Nat), gh = 2 - k ∧ k ≤ 2 ∧ s12 = .int .i64 (k : Int) ∧ RowZ wx a1 n1 c1 l1 ∧ RowZ wx a2 n2 c2 l2 ∧ RowZ wx a_a n1 c_a l1 ∧ RowZ wx a_b n2 c_b l2 ∧ ErrAt wx 0 q ∧ RingAt (rm x0) wx g s be ce bl ∧ Below w.heap.size w wx)
  case atStart => exact ⟨0, rfl, by omega, rfl, Pp, Pq, Pa, Pb, E1, RG, B⟩
  case round =>
    clear Pp Pq Pa Pb E1 RG B
    obtain ⟨k, hg, hk, rfl, Pp, Pq, Pa, Pb, E1, RG, B⟩ := hrel
    have HG := Lib.hid hg
    clear hg
    obtain ⟨W0, rfl⟩ : ∃ W0, W0 = wr := ⟨_, rfl⟩
    by_cases hlt : k < 2
    · have x1 : decide ((k : Int) < 2) = true := decide_eq_true (by omega)
      have HR : Below W0.heap.size W0 W0 := Below.refl _ _
      have HS := Lib.hid (And.intro Pp (And.intro Pq (And.intro Pa (And.intro Pb (And.intro E1 RG)))))
      have HBW := Lib.hid B
      clear B
      go_wp2_with fail
      refine (mulO RG Pa Pb kp kq).mono ?_
      rintro e v1 ⟨a_x, n_x, c_x, rfl, h, b⟩
      have hsz := HR.size
      replace Pp := Pp.below b
      replace Pq := Pq.below b
      replace Pa := Pa.below b
      replace Pb := Pb.below b
      replace E1 := E1.below b
      replace RG := RG.below b
      replace HR := HR.trans (b.mono HR.size)
      have Rx := h.from hsz
      clear h b hsz
      go_wp2_with fail
      refine (divO RG Pa Pb kp kq q E1).mono ?_
      rintro e v2 ⟨a_y, n_y, c_y, a_z, n_z, c_z, er, rfl, h, h2, b⟩
      have hsz := HR.size
      replace Pp := Pp.below b
      replace Pq := Pq.below b
      replace Pa := Pa.below b
      replace Pb := Pb.below b
      replace Rx := Rx.below b
      replace E1 := E1.below b
      replace RG := RG.below b
      replace HR := HR.trans (b.mono HR.size)
      have Ry := h.from hsz
      have Rz := h2.from hsz
      clear h h2 b hsz
      go_wp2_with fail
      refine (fromO RG Pa kp).mono ?_
      rintro e v3 ⟨a_f, n_f, c_f, rfl, h, b⟩
      have hsz := HR.size
      replace Pp := Pp.below b
      replace Pq := Pq.below b
      replace Pa := Pa.below b
      replace Pb := Pb.below b
      replace Rx := Rx.below b
      replace Ry := Ry.below b
      replace Rz := Rz.below b
      replace E1 := E1.below b
      replace RG := RG.below b
      replace HR := HR.trans (b.mono HR.size)
      have Rf := h.from hsz
      clear h b hsz
      go_wp2_with fail
      refine (trimO RG Pa kp).mono ?_
      rintro e v4 ⟨a_t, n_t, c_t, rfl, h, b⟩
      have hsz := HR.size
      replace Pp := Pp.below b
      replace Pq := Pq.below b
      replace Pa := Pa.below b
      replace Pb := Pb.below b
      replace Rx := Rx.below b
      replace Ry := Ry.below b
      replace Rz := Rz.below b
      replace Rf := Rf.below b
      replace E1 := E1.below b
      replace RG := RG.below b
      replace HR := HR.trans (b.mono HR.size)
      have Rt := h.from hsz
      clear h b hsz
      go_wp2_with fail
      refine (addO RG Pa Pb kp kq).mono ?_
      rintro e v5 ⟨a_u, n_u, c_u, rfl, h, b⟩
      have hsz := HR.size
      replace Pp := Pp.below b
      replace Pq := Pq.below b
      replace Pa := Pa.below b
      replace Pb := Pb.below b
      replace Rx := Rx.below b
      replace Ry := Ry.below b
      replace Rz := Rz.below b
      replace Rf := Rf.below b
      replace Rt := Rt.below b
      replace E1 := E1.below b
      replace RG := RG.below b
      replace HR := HR.trans (b.mono HR.size)
      have Ru := h.from hsz
      clear h b hsz
      go_wp2_with fail
      refine (addO RG Pa (rowz_nil _) kp (by decide)).mono ?_
      rintro e v6 ⟨a_v, n_v, c_v, rfl, h, b⟩
      have hsz := HR.size
      replace Pp := Pp.below b
      replace Pq := Pq.below b
      replace Pa := Pa.below b
      replace Pb := Pb.below b
      replace Rx := Rx.below b
      replace Ry := Ry.below b
      replace Rz := Rz.below b
      replace Rf := Rf.below b
      replace Rt := Rt.below b
      replace Ru := Ru.below b
      replace E1 := E1.below b
      replace RG := RG.below b
      replace HR := HR.trans (b.mono HR.size)
      have Rv := h.from hsz
      clear h b hsz
      go_wp2_with fail
      refine (scaleO 1 RG Pa kp).mono ?_
      rintro e v7 ⟨a_s, n_s, c_s, rfl, h, b⟩
      have hsz := HR.size
      replace Pp := Pp.below b
      replace Pq := Pq.below b
      replace Pa := Pa.below b
      replace Pb := Pb.below b
      replace Rx := Rx.below b
      replace Ry := Ry.below b
      replace Rz := Rz.below b
      replace Rf := Rf.below b
      replace Rt := Rt.below b
      replace Ru := Ru.below b
      replace Rv := Rv.below b
      replace E1 := E1.below b
      replace RG := RG.below b
      replace HR := HR.trans (b.mono HR.size)
      have Rs := h.from hsz
      clear h b hsz
      go_wp2_with fail
      refine (derO RG Pa kp).mono ?_
      rintro e v8 ⟨a_d, n_d, c_d, rfl, h, b⟩
      have hsz := HR.size
      replace Pp := Pp.below b
      replace Pq := Pq.below b
      replace Pa := Pa.below b
      replace Pb := Pb.below b
      replace Rx := Rx.below b
      replace Ry := Ry.below b
      replace Rz := Rz.below b
      replace Rf := Rf.below b
      replace Rt := Rt.below b
      replace Ru := Ru.below b
      replace Rv := Rv.below b
      replace Rs := Rs.below b
      replace E1 := E1.below b
      replace RG := RG.below b
      replace HR := HR.trans (b.mono HR.size)
      have Rd := h.from hsz
      clear h b hsz
      go_wp2_with fail
      refine (gcdO RG Pa Pb kp kq).mono ?_
      rintro e v9 ⟨a_g, n_g, c_g, rfl, h, b⟩
      have hsz := HR.size
      replace Pp := Pp.below b
      replace Pq := Pq.below b
      replace Pa := Pa.below b
      replace Pb := Pb.below b
      replace Rx := Rx.below b
      replace Ry := Ry.below b
      replace Rz := Rz.below b
      replace Rf := Rf.below b
      replace Rt := Rt.below b
      replace Ru := Ru.below b
      replace Rv := Rv.below b
      replace Rs := Rs.below b
      replace Rd := Rd.below b
      replace E1 := E1.below b
      replace RG := RG.below b
      replace HR := HR.trans (b.mono HR.size)
      have Rg := h.from hsz
      clear h b hsz
      go_wp2_with fail
      refine (gcdO RG Pa (rowz_nil _) kp (by decide)).mono ?_
      rintro e v10 ⟨a_h, n_h, c_h, rfl, h, b⟩
      have hsz := HR.size
      replace Pp := Pp.below b
      replace Pq := Pq.below b
      replace Pa := Pa.below b
      replace Pb := Pb.below b
      replace Rx := Rx.below b
      replace Ry := Ry.below b
      replace Rz := Rz.below b
      replace Rf := Rf.below b
      replace Rt := Rt.below b
      replace Ru := Ru.below b
      replace Rv := Rv.below b
      replace Rs := Rs.below b
      replace Rd := Rd.below b
      replace Rg := Rg.below b
      replace E1 := E1.below b
      replace RG := RG.below b
      replace HR := HR.trans (b.mono HR.size)
      have Rh := h.from hsz
      clear h b hsz
      go_wp2_with fail
      refine (rootsO RG Pa kp).mono ?_
      rintro e v11 ⟨a_r, n_r, c_r, rfl, h, b⟩
      have hsz := HR.size
      replace Pp := Pp.below b
      replace Pq := Pq.below b
      replace Pa := Pa.below b
      replace Pb := Pb.below b
      replace Rx := Rx.below b
      replace Ry := Ry.below b
      replace Rz := Rz.below b
      replace Rf := Rf.below b
      replace Rt := Rt.below b
      replace Ru := Ru.below b
      replace Rv := Rv.below b
      replace Rs := Rs.below b
      replace Rd := Rd.below b
      replace Rg := Rg.below b
      replace Rh := Rh.below b
      replace E1 := E1.below b
      replace RG := RG.below b
      replace HR := HR.trans (b.mono HR.size)
      have Rr := h.from hsz
      clear h b hsz
      obtain ⟨L, hL⟩ : ∃ L : List Ent, L = [(a_x, n_x, c_x), (a_y, n_y, c_y), (a_z, n_z, c_z), (a_f, n_f, c_f), (a_t, n_t, c_t), (a_u, n_u, c_u), (a_v, n_v, c_v), (a_s, n_s, c_s), (a_d, n_d, c_d), (a_g, n_g, c_g), (a_h, n_h, c_h), (a_r, n_r, c_r)] := ⟨_, rfl⟩
      have HLP : Hid (ListS (v11.alloc (litS L)) W0.heap.size v11.heap.size L) := ListS.new HR.size (by
        intro e he
        rw [hL] at he
        simp only [List.mem_cons, List.not_mem_nil, or_false] at he
        rcases he with rfl | rfl | rfl | rfl | rfl | rfl | rfl | rfl | rfl | rfl | rfl | rfl
        · exact Rx
        · exact Ry
        · exact Rz
        · exact Rf
        · exact Rt
        · exact Ru
        · exact Rv
        · exact Rs
        · exact Rd
        · exact Rg
        · exact Rh
        · exact Rr)
      have HL7 : Hid (L.length = 12) := by rw [hL]; rfl
      have HLB : Hid (Below W0.heap.size W0 (v11.alloc (litS L))) := HR.alloc HR.size _
      have hob : litS L = .cells #[.slice a_x n_x c_x, .slice a_y n_y c_y, .slice a_z n_z c_z, .slice a_f n_f c_f, .slice a_t n_t c_t, .slice a_u n_u c_u, .slice a_v n_v c_v, .slice a_s n_s c_s, .slice a_d n_d c_d, .slice a_g n_g c_g, .slice a_h n_h c_h, .slice a_r n_r c_r] 22 := by rw [hL]; rfl
      have HOB := Lib.hid hob
      clear hob hL Rx Ry Rz Rf Rt Ru Rv Rs Rd Rg Rh Rr
      go_wp2_with fail
      rw [← HOB.out]
      generalize v11.alloc (litS L) = w9 at HLP HLB ⊢
      generalize v11.heap.size = gl at HLP ⊢
      clear HOB Pp Pq Pa Pb E1 RG HR
      go_loopg [111] (12 : Nat) (fun gh s111 wx => ∃ (i : Nat), gh = 12 - i ∧ i ≤ 12 ∧ s111 = .int .i64 (i : Int) ∧ Hid (ListS wx W0.heap.size gl L) ∧ Hid (Below W0.heap.size W0 wx))
      case atStart => exact ⟨0, rfl, by omega, rfl, HLP, HLB⟩
      case round =>
        clear HLP HLB
        obtain ⟨i, hg, hi, rfl, HLP, HLB⟩ := hrel
        have HG2 := Lib.hid hg
        clear hg
        by_cases hlt2 : i < 12
        · have y1 : decide ((i : Int) < 12) = true := decide_eq_true (by omega)
          have y0 : (0 : Int) ≤ (i : Int) := by omega
          have y2 : (i : Int) < 12 := by omega
          have hiL : i < L.length := by rw [HL7.out]; exact hlt2
          have c1 := HLP.out.cell i hiL
          have hmx : (ent L i).2.1 ≤ 9223372036854775807 := by have := (HLP.out.each i hiL).1; unfold maxLen at this; omega
          obtain ⟨a9, ha9⟩ : ∃ a9, a9 = (ent L i).1 := ⟨_, rfl⟩
          obtain ⟨n9, hn9⟩ : ∃ n9, n9 = (ent L i).2.1 := ⟨_, rfl⟩
          obtain ⟨c9, hc9⟩ : ∃ c9, c9 = (ent L i).2.2 := ⟨_, rfl⟩
          rw [← ha9, ← hn9, ← hc9] at c1
          rw [← hn9] at hmx
          have HE := Lib.hid (And.intro ha9 hn9)
          have HIL := Lib.hid hiL
          clear ha9 hn9 hc9 hiL hlt2
          go_wp2_with fail
          clear c1
          go_loopg [22] n9 (fun gh s22 wx => ∃ (j : Nat), gh = n9 - j ∧ j ≤ n9 ∧ s22 = .int .i64 (j : Int) ∧ Hid (ListS wx W0.heap.size gl L) ∧ Hid (Below W0.heap.size W0 wx))
          case atStart => exact ⟨0, rfl, by omega, rfl, HLP, HLB⟩
          case round =>
            clear HLP HLB
            obtain ⟨j, hg, hj, rfl, HLP, HLB⟩ := hrel
            have HG3 := Lib.hid hg
            clear hg
            by_cases hlt3 : j < n9
            · have z1 : (j : Int) < (n9 : Int) := by omega
              have z0 : (0 : Int) ≤ (j : Int) := by omega
              have hR := HLP.out.each i HIL.out
              rw [← HE.out.1, ← HE.out.2] at hR
              have hap := HLP.out.apart i HIL.out
              rw [← HE.out.1, ← HE.out.2] at hap
              obtain ⟨g9, hg9, hg0, hB9⟩ : ∃ g9, a9 = some ⟨g9, 0, none⟩ ∧ W0.heap.size ≤ g9 ∧ Buf64 wr g9 n9 := by
                rcases hR.2 with h | h
                · omega
                · exact h
              subst hg9
              have hne := hap g9 0 rfl (by omega)
              obtain ⟨zo, d1⟩ := hB9.cell hlt3
              have d2 := hB9.free j
              have HN := Lib.hid (HLP.out.set g9 j (-9) hne)
              have HNB : Hid (Below W0.heap.size W0 (wr.setCell ⟨g9, j, none⟩ (.int .i64 (-9)))) := HLB.out.setCell (p := ⟨g9, j, none⟩) hg0 _
              clear hR hap hB9 hne hg0 HLP HLB hlt3
              go_wp2_with fail
              go_roundg (n9 - (j + 1))
              case measure => have := HG3.out; omega
              case rel => exact ⟨j + 1, rfl, by omega, by go_num, HN, HNB⟩
            · obtain rfl : j = n9 := by omega
              go_wp2_with fail
              go_roundg (12 - (i + 1))
              case measure => have := HG2.out; omega
              case rel => exact ⟨i + 1, rfl, by omega, by go_num, HLP, HLB⟩
        · obtain rfl : i = 12 := by omega
          obtain ⟨S1, S2, S3, S4, S5, S6⟩ := HS.out
          replace S1 := S1.below HLB.out
          replace S2 := S2.below HLB.out
          replace S3 := S3.below HLB.out
          replace S4 := S4.below HLB.out
          replace S5 := S5.below HLB.out
          replace S6 := S6.below HLB.out
          have BW := HBW.out.trans (HLB.out.mono HBW.out.size)
          clear HS HLP HLB
          go_wp2_with fail
          go_roundg (2 - (k + 1))
          case measure => have := HG.out; omega
          case rel => exact ⟨k + 1, rfl, by omega, by go_num, S1, S2, S3, S4, S5, S6, BW⟩
    · obtain rfl : k = 2 := by omega
      go_wp2_with fail
      refine (sameZ_any _ _ _ _ _ _ _ _ W0 Pa Pp).mono ?_
      rintro e w6 ⟨rfl, d⟩
      rw [decide_eq_true rfl]
      have b := d.below W0.heap.size
      replace Pb := Pb.below b
      replace Pq := Pq.below b
      replace B := B.trans (b.mono B.size)
      clear b d
      go_wp2_with fail
      refine (sameZ_any _ _ _ _ _ _ _ _ w6 Pb Pq).mono ?_
      rintro e w7 ⟨rfl, d⟩
      rw [decide_eq_true rfl]
      have b := d.below w6.heap.size
      replace B := B.trans (b.mono B.size)
      clear b d
      go_wp2_with fail
      go_ret
      exact ⟨rfl, B⟩
theorem walk (x0 : Int) (a1 : Option Addr) (len1 cap1 : Nat) (z1 : List Int) (a2 : Option Addr) (len2 cap2 : Nat) (z2 : List Int) (W : World) (w0 : (Lit.int .i64 x0).wf = true) (w1 : IsRow .i64 W a1 len1 cap1 z1) (w2 : IsRow .i64 W a2 len2 cap2 z2) (h : LaidPolyOwn.Holds W) :
    Calls Tryd.prog 8 #[.int .i64 x0, .slice a1 len1 cap1, .slice a2 len2 cap2] W fun e w' => e = .returned (.bool true) ∧ Below W.heap.size W w' := by
  obtain ⟨f, ⟨E0, E1, E2⟩, _⟩ := h
  by_cases k1 : len1 ≤ 24
  · by_cases k2 : len2 ≤ 24
    · exact core x0 a1 len1 cap1 a2 len2 cap2 _ _ W _ E1 (row_rowz w1) (row_rowz w2) k1 k2
    · exact long x0 a1 len1 cap1 a2 len2 cap2 W (by omega)
  · exact long x0 a1 len1 cap1 a2 len2 cap2 W (by omega)
end Go.Proofs.YtgfaaaeechgjmaaDoor.walkPolyOwn
