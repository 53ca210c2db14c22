/- The walk over BinOwn. By the verifier of shale. -/
import Derived.Test.YtcdhjmmkeiomaaaDoorOwnL
import Derived.Test.YtcdhjmmkeiomaaaDoorLaidBinOwn
namespace Go.Proofs.YtcdhjmmkeiomaaaDoor.walkBinOwn
open Go Go.RowKit Bin
set_option linter.unusedVariables false
theorem shift3 {w : World} {a : Option Addr} {n c u : Nat} (h : PolV w 40 a n c u) : shiftZ u (max 3 (-10000)) < room 100 ∧ (u = 0 ∨ (3 : Int) ≤ 4096 - degZ u) := by
  have hd := degZ_room h.lt
  by_cases h0 : u = 0
  · subst h0
    exact ⟨by rw [shiftZ_zero]; exact room_pos _, Or.inl rfl⟩
  · have hz : (3 : Int) ≤ 4096 - degZ u := by omega
    refine ⟨?_, Or.inr hz⟩
    rw [show max (3 : Int) (-10000) = 3 by omega]
    have e := degZ_ne h0
    exact room_pow 100 (shiftZ_lt (N := u.log2 + 4) (deg_of h0).2 (by omega)) (by omega)
set_option maxRecDepth 100000 in
set_option maxHeartbeats 2000000 in
theorem core0 (a0 : Option Addr) (n0 c0 : Nat) (a1 : Option Addr) (n1 c1 : Nat) (X Y : List (BitVec 8)) (w : World) (p q : Addr) (E : ErrAt w 2 p) (F1 : ErrAt w 0 q)
    (Pp : Pol w a0 n0 c0 X) (Pq : Pol w a1 n1 c1 Y) (kp : n0 ≤ 40) (kq : n1 ≤ 40) (hB : val Y = 0) :
    Calls Tryd.prog 9 #[.slice a0 n0 c0, .slice a1 n1 c1] w fun e w' => e = .returned (.bool true) ∧ Below w.heap.size w w' := by
  have t0 : decide ((40 : Int) < (n0 : Int)) = false := decide_eq_false (by omega)
  have t1 : decide ((40 : Int) < (n1 : Int)) = false := decide_eq_false (by omega)
  have HB := Lib.hid hB
  have HRM := Lib.hid (shift3 (pv Pp kp))
  clear hB
  go_enter Tryd.func9, Tryd.ntmps9
  go_wp2_with fail
  refine (first_any w p E).mono ?_
  rintro e w1 ⟨rfl, B⟩
  replace Pp := Pp.below B
  replace Pq := Pq.below B
  have E1 := F1.below B
  clear E F1
  go_wp2_with fail
  refine (copyV Pp kp).mono ?_
  rintro e w2 ⟨g_a, rfl, -, -, Pa, b⟩
  replace Pp := Pp.below b
  replace Pq := Pq.below b
  replace E1 := E1.below b
  replace B := B.trans (b.mono B.size)
  clear b
  go_wp2_with fail
  refine (copyV Pq kq).mono ?_
  rintro e w3 ⟨g_b, rfl, -, -, Pb, b⟩
  replace Pp := Pp.below b
  replace Pq := Pq.below b
  replace Pa := Pa.below b
  replace E1 := E1.below b
  replace B := B.trans (b.mono B.size)
  clear b t0 t1
  go_wp2_with fail
  go_loopg [8] (2 : Nat) (fun gh s8 wx => ∃ (k : Nat), gh = 2 - k ∧ k ≤ 2 ∧ s8 = .int .i64 (k : Int) ∧ Pol wx a0 n0 c0 X ∧ Pol wx a1 n1 c1 Y ∧ Pol wx (some ⟨g_a, 0, none⟩) n0 n0 X ∧ Pol wx (some ⟨g_b, 0, none⟩) n1 n1 Y ∧ ErrAt wx 0 q ∧ Below w.heap.size w wx)
  case atStart => exact ⟨0, rfl, by omega, rfl, Pp, Pq, Pa, Pb, E1, B⟩
  case round =>
    clear Pp Pq Pa Pb E1 B
    obtain ⟨k, hg, hk, rfl, Pp, Pq, Pa, Pb, E1, B⟩ := hrel
    have HG := Lib.hid hg
    clear hg
    obtain ⟨W0, rfl⟩ : ∃ W0, W0 = wr := ⟨_, rfl⟩
    by_cases hlt : k < 2
    · have x1 : decide ((k : Int) < 2) = true := decide_eq_true (by omega)
      have HR : Below W0.heap.size W0 W0 := Below.refl _ _
      have HS := Lib.hid (And.intro Pp (And.intro Pq (And.intro Pa (And.intro Pb E1))))
      have HBW := Lib.hid B
      clear B
      go_wp2_with fail
      refine (mulV 80 (pv Pa kp) (pv Pb kq) (by decide) (by decide) (by decide)).mono ?_
      rintro e v1 ⟨a_x, n_x, c_x, rfl, h, b⟩
      have hsz := HR.size
      replace Pp := Pp.below b
      replace Pq := Pq.below b
      replace Pa := Pa.below b
      replace Pb := Pb.below b
      replace E1 := E1.below b
      replace HR := HR.trans (b.mono HR.size)
      have Rx := Room8.of h hsz
      clear h b hsz
      go_wp2_with fail
      have HPB : PolV v1 40 (some ⟨g_b, 0, none⟩) n1 n1 0 := by have h := pv Pb kq; rw [HB.out] at h; exact h
      refine (divZ (k := 40) HPB (by decide) q E1).mono ?_
      rintro e v2 ⟨rfl, d⟩
      have b := d.below v1.heap.size
      replace Pp := Pp.below b
      replace Pq := Pq.below b
      replace Pa := Pa.below b
      replace Pb := Pb.below b
      replace Rx := Rx.below b
      replace E1 := E1.below b
      replace HR := HR.trans (b.mono HR.size)
      clear b d HPB
      have Ry := Room8.nil v2 W0.heap.size none
      have Rz := Room8.nil v2 W0.heap.size none
      go_wp2_with fail
      refine (shiftV 3 100 (pv Pa kp) (by decide) HRM.out.1 HRM.out.2).mono ?_
      rintro e v3 ⟨a_s, n_s, c_s, rfl, h, b⟩
      have hsz := HR.size
      replace Pp := Pp.below b
      replace Pq := Pq.below b
      replace Pa := Pa.below b
      replace Pb := Pb.below b
      replace Rx := Rx.below b
      replace Ry := Ry.below b
      replace Rz := Rz.below b
      replace E1 := E1.below b
      replace HR := HR.trans (b.mono HR.size)
      have Rs := Room8.of h hsz
      clear h b hsz
      go_wp2_with fail
      refine (addV 40 (pv Pa kp) (pv Pb kq) (by decide) (by decide) (by decide)).mono ?_
      rintro e v4 ⟨a_u, n_u, c_u, rfl, h, b⟩
      have hsz := HR.size
      replace Pp := Pp.below b
      replace Pq := Pq.below b
      replace Pa := Pa.below b
      replace Pb := Pb.below b
      replace Rx := Rx.below b
      replace Ry := Ry.below b
      replace Rz := Rz.below b
      replace Rs := Rs.below b
      replace E1 := E1.below b
      replace HR := HR.trans (b.mono HR.size)
      have Ru := Room8.of h hsz
      clear h b hsz
      go_wp2_with fail
      refine (gcdV 40 (pv Pa kp) (pv Pb kq) (by decide) (by decide) (by decide)).mono ?_
      rintro e v5 ⟨a_g, n_g, c_g, rfl, h, b⟩
      have hsz := HR.size
      replace Pp := Pp.below b
      replace Pq := Pq.below b
      replace Pa := Pa.below b
      replace Pb := Pb.below b
      replace Rx := Rx.below b
      replace Ry := Ry.below b
      replace Rz := Rz.below b
      replace Rs := Rs.below b
      replace Ru := Ru.below b
      replace E1 := E1.below b
      replace HR := HR.trans (b.mono HR.size)
      have Rg := Room8.of h hsz
      clear h b hsz
      go_wp2_with fail
      refine (addV 40 (pv Pa kp) (polV_nil v5) (by decide) (by decide) (by decide)).mono ?_
      rintro e v6 ⟨a_t, n_t, c_t, rfl, h, b⟩
      have hsz := HR.size
      replace Pp := Pp.below b
      replace Pq := Pq.below b
      replace Pa := Pa.below b
      replace Pb := Pb.below b
      replace Rx := Rx.below b
      replace Ry := Ry.below b
      replace Rz := Rz.below b
      replace Rs := Rs.below b
      replace Ru := Ru.below b
      replace Rg := Rg.below b
      replace E1 := E1.below b
      replace HR := HR.trans (b.mono HR.size)
      have Rt := Room8.of h hsz
      clear h b hsz
      obtain ⟨L, hL⟩ : ∃ L : List Ent, L = [(a_x, n_x, c_x), (none, 0, 0), (none, 0, 0), (a_s, n_s, c_s), (a_u, n_u, c_u), (a_g, n_g, c_g), (a_t, n_t, c_t)] := ⟨_, rfl⟩
      have HLP : Hid (ListP (v6.alloc (litP L)) W0.heap.size v6.heap.size L) := ListP.new HR.size (by
        intro e he
        rw [hL] at he
        simp only [List.mem_cons, List.not_mem_nil, or_false] at he
        rcases he with rfl | rfl | rfl | rfl | rfl | rfl | rfl
        · exact Rx
        · exact Ry
        · exact Rz
        · exact Rs
        · exact Ru
        · exact Rg
        · exact Rt)
      have HL7 : Hid (L.length = 7) := by rw [hL]; rfl
      have HLB : Hid (Below W0.heap.size W0 (v6.alloc (litP L))) := HR.alloc HR.size _
      have hob : litP L = .cells #[.slice a_x n_x c_x, .slice none 0 0, .slice none 0 0, .slice a_s n_s c_s, .slice a_u n_u c_u, .slice a_g n_g c_g, .slice a_t n_t c_t] 24 := by rw [hL]; rfl
      have HOB := Lib.hid hob
      clear hob hL Rx Ry Rz Rs Ru Rg Rt
      go_wp2_with fail
      rw [← HOB.out]
      generalize v6.alloc (litP L) = w9 at HLP HLB ⊢
      generalize v6.heap.size = gl at HLP ⊢
      clear HOB Pp Pq Pa Pb E1 HR
      go_loopg [73] (7 : Nat) (fun gh s73 wx => ∃ (i : Nat), gh = 7 - i ∧ i ≤ 7 ∧ s73 = .int .i64 (i : Int) ∧ Hid (ListP wx W0.heap.size gl L) ∧ Hid (Below W0.heap.size W0 wx))
      case atStart => exact ⟨0, rfl, by omega, rfl, HLP, HLB⟩
      case round =>
        clear HLP HLB
        obtain ⟨i, hg, hi, rfl, HLP, HLB⟩ := hrel
        have HG2 := Lib.hid hg
        clear hg
        by_cases hlt2 : i < 7
        · have y1 : decide ((i : Int) < 7) = true := decide_eq_true (by omega)
          have y0 : (0 : Int) ≤ (i : Int) := by omega
          have y2 : (i : Int) < 7 := by omega
          have hiL : i < L.length := by rw [HL7.out]; exact hlt2
          have c1 := HLP.out.cell i hiL
          have hmx : (ent L i).2.1 ≤ 9223372036854775807 := by have := (HLP.out.each i hiL).1; unfold maxLen at this; omega
          obtain ⟨a9, ha9⟩ : ∃ a9, a9 = (ent L i).1 := ⟨_, rfl⟩
          obtain ⟨n9, hn9⟩ : ∃ n9, n9 = (ent L i).2.1 := ⟨_, rfl⟩
          obtain ⟨c9, hc9⟩ : ∃ c9, c9 = (ent L i).2.2 := ⟨_, rfl⟩
          rw [← ha9, ← hn9, ← hc9] at c1
          rw [← hn9] at hmx
          have HE := Lib.hid (And.intro ha9 hn9)
          have HIL := Lib.hid hiL
          clear ha9 hn9 hc9 hiL hlt2
          go_wp2_with fail
          clear c1
          go_loopg [18] n9 (fun gh s18 wx => ∃ (j : Nat), gh = n9 - j ∧ j ≤ n9 ∧ s18 = .int .i64 (j : Int) ∧ Hid (ListP wx W0.heap.size gl L) ∧ Hid (Below W0.heap.size W0 wx))
          case atStart => exact ⟨0, rfl, by omega, rfl, HLP, HLB⟩
          case round =>
            clear HLP HLB
            obtain ⟨j, hg, hj, rfl, HLP, HLB⟩ := hrel
            have HG3 := Lib.hid hg
            clear hg
            by_cases hlt3 : j < n9
            · have z1 : (j : Int) < (n9 : Int) := by omega
              have z0 : (0 : Int) ≤ (j : Int) := by omega
              have hR := HLP.out.each i HIL.out
              rw [← HE.out.1, ← HE.out.2] at hR
              have hap := HLP.out.apart i HIL.out
              rw [← HE.out.1, ← HE.out.2] at hap
              obtain ⟨g, X9, hg9, hg0, hn9, hB9⟩ : ∃ g X, a9 = some ⟨g, 0, none⟩ ∧ W0.heap.size ≤ g ∧ n9 = X.length ∧ Buf8 wr g X := by
                rcases hR.2 with h | h
                · omega
                · exact h
              subst hg9
              have hne := hap g 0 rfl (by omega)
              have d1 := hB9.cell j (by omega)
              have d2 := hB9.free j
              have HN := Lib.hid (HLP.out.set g j 238 hne)
              have HNB : Hid (Below W0.heap.size W0 (wr.setCell ⟨g, j, none⟩ (.int .u8 (Bits32.b 238)))) := HLB.out.setCell (p := ⟨g, j, none⟩) hg0 _
              clear hR hap hn9 hB9 hne hg0 HLP HLB hlt3
              go_wp2_with fail
              go_roundg (n9 - (j + 1))
              case measure => have := HG3.out; omega
              case rel => exact ⟨j + 1, rfl, by omega, by go_num, HN, HNB⟩
            · obtain rfl : j = n9 := by omega
              go_wp2_with fail
              go_roundg (7 - (i + 1))
              case measure => have := HG2.out; omega
              case rel => exact ⟨i + 1, rfl, by omega, by go_num, HLP, HLB⟩
        · obtain rfl : i = 7 := by omega
          obtain ⟨S1, S2, S3, S4, S5⟩ := HS.out
          replace S1 := S1.below HLB.out
          replace S2 := S2.below HLB.out
          replace S3 := S3.below HLB.out
          replace S4 := S4.below HLB.out
          replace S5 := S5.below HLB.out
          have BW := HBW.out.trans (HLB.out.mono HBW.out.size)
          have e1 := S5.1
          unfold Sent at e1
          have q1 := neq_err q
          clear HS HLP HLB
          go_wp2_with fail
          go_roundg (2 - (k + 1))
          case measure => have := HG.out; omega
          case rel => exact ⟨k + 1, rfl, by omega, by go_num, S1, S2, S3, S4, S5, BW⟩
    · obtain rfl : k = 2 := by omega
      go_wp2_with fail
      refine (sameXV Pa Pp).mono ?_
      rintro e w' ⟨rfl, rfl⟩
      go_wp2_with fail
      refine (sameXV Pb Pq).mono ?_
      rintro e w' ⟨rfl, rfl⟩
      go_wp2_with fail
      go_ret
      exact ⟨rfl, B⟩
set_option maxRecDepth 100000 in
set_option maxHeartbeats 2000000 in
theorem core1 (a0 : Option Addr) (n0 c0 : Nat) (a1 : Option Addr) (n1 c1 : Nat) (X Y : List (BitVec 8)) (w : World) (p q : Addr) (E : ErrAt w 2 p) (F1 : ErrAt w 0 q)
    (Pp : Pol w a0 n0 c0 X) (Pq : Pol w a1 n1 c1 Y) (kp : n0 ≤ 40) (kq : n1 ≤ 40) (hB : val Y ≠ 0) :
    Calls Tryd.prog 9 #[.slice a0 n0 c0, .slice a1 n1 c1] w fun e w' => e = .returned (.bool true) ∧ Below w.heap.size w w' := by
  have t0 : decide ((40 : Int) < (n0 : Int)) = false := decide_eq_false (by omega)
  have t1 : decide ((40 : Int) < (n1 : Int)) = false := decide_eq_false (by omega)
  have HB := Lib.hid hB
  have HRM := Lib.hid (shift3 (pv Pp kp))
  clear hB
  go_enter Tryd.func9, Tryd.ntmps9
  go_wp2_with fail
  refine (first_any w p E).mono ?_
  rintro e w1 ⟨rfl, B⟩
  replace Pp := Pp.below B
  replace Pq := Pq.below B
  have E1 := F1.below B
  clear E F1
  go_wp2_with fail
  refine (copyV Pp kp).mono ?_
  rintro e w2 ⟨g_a, rfl, -, -, Pa, b⟩
  replace Pp := Pp.below b
  replace Pq := Pq.below b
  replace E1 := E1.below b
  replace B := B.trans (b.mono B.size)
  clear b
  go_wp2_with fail
  refine (copyV Pq kq).mono ?_
  rintro e w3 ⟨g_b, rfl, -, -, Pb, b⟩
  replace Pp := Pp.below b
  replace Pq := Pq.below b
  replace Pa := Pa.below b
  replace E1 := E1.below b
  replace B := B.trans (b.mono B.size)
  clear b t0 t1
  go_wp2_with fail
  go_loopg [8] (2 : Nat) (fun gh s8 wx => ∃ (k : Nat), gh = 2 - k ∧ k ≤ 2 ∧ s8 = .int .i64 (k : Int) ∧ Pol wx a0 n0 c0 X ∧ Pol wx a1 n1 c1 Y ∧ Pol wx (some ⟨g_a, 0, none⟩) n0 n0 X ∧ Pol wx (some ⟨g_b, 0, none⟩) n1 n1 Y ∧ ErrAt wx 0 q ∧ Below w.heap.size w wx)
  case atStart => exact ⟨0, rfl, by omega, rfl, Pp, Pq, Pa, Pb, E1, B⟩
  case round =>
    clear Pp Pq Pa Pb E1 B
    obtain ⟨k, hg, hk, rfl, Pp, Pq, Pa, Pb, E1, B⟩ := hrel
    have HG := Lib.hid hg
    clear hg
    obtain ⟨W0, rfl⟩ : ∃ W0, W0 = wr := ⟨_, rfl⟩
    by_cases hlt : k < 2
    · have x1 : decide ((k : Int) < 2) = true := decide_eq_true (by omega)
      have HR : Below W0.heap.size W0 W0 := Below.refl _ _
      have HS := Lib.hid (And.intro Pp (And.intro Pq (And.intro Pa (And.intro Pb E1))))
      have HBW := Lib.hid B
      clear B
      go_wp2_with fail
      refine (mulV 80 (pv Pa kp) (pv Pb kq) (by decide) (by decide) (by decide)).mono ?_
      rintro e v1 ⟨a_x, n_x, c_x, rfl, h, b⟩
      have hsz := HR.size
      replace Pp := Pp.below b
      replace Pq := Pq.below b
      replace Pa := Pa.below b
      replace Pb := Pb.below b
      replace E1 := E1.below b
      replace HR := HR.trans (b.mono HR.size)
      have Rx := Room8.of h hsz
      clear h b hsz
      go_wp2_with fail
      refine (divV 40 (pv Pa kp) (pv Pb kq) (by decide) (by decide) (by decide) HB.out).mono ?_
      rintro e v2 ⟨a_y, n_y, c_y, a_z, n_z, c_z, Qd, Rm, rfl, h, h2, hd, b⟩
      have hsz := HR.size
      replace Pp := Pp.below b
      replace Pq := Pq.below b
      replace Pa := Pa.below b
      replace Pb := Pb.below b
      replace Rx := Rx.below b
      replace E1 := E1.below b
      replace HR := HR.trans (b.mono HR.size)
      have Ry := Room8.of h hsz
      have Rz := Room8.of h2 hsz
      clear h h2 hd b hsz
      go_wp2_with fail
      refine (shiftV 3 100 (pv Pa kp) (by decide) HRM.out.1 HRM.out.2).mono ?_
      rintro e v3 ⟨a_s, n_s, c_s, rfl, h, b⟩
      have hsz := HR.size
      replace Pp := Pp.below b
      replace Pq := Pq.below b
      replace Pa := Pa.below b
      replace Pb := Pb.below b
      replace Rx := Rx.below b
      replace Ry := Ry.below b
      replace Rz := Rz.below b
      replace E1 := E1.below b
      replace HR := HR.trans (b.mono HR.size)
      have Rs := Room8.of h hsz
      clear h b hsz
      go_wp2_with fail
      refine (addV 40 (pv Pa kp) (pv Pb kq) (by decide) (by decide) (by decide)).mono ?_
      rintro e v4 ⟨a_u, n_u, c_u, rfl, h, b⟩
      have hsz := HR.size
      replace Pp := Pp.below b
      replace Pq := Pq.below b
      replace Pa := Pa.below b
      replace Pb := Pb.below b
      replace Rx := Rx.below b
      replace Ry := Ry.below b
      replace Rz := Rz.below b
      replace Rs := Rs.below b
      replace E1 := E1.below b
      replace HR := HR.trans (b.mono HR.size)
      have Ru := Room8.of h hsz
      clear h b hsz
      go_wp2_with fail
      refine (gcdV 40 (pv Pa kp) (pv Pb kq) (by decide) (by decide) (by decide)).mono ?_
      rintro e v5 ⟨a_g, n_g, c_g, rfl, h, b⟩
      have hsz := HR.size
      replace Pp := Pp.below b
      replace Pq := Pq.below b
      replace Pa := Pa.below b
      replace Pb := Pb.below b
      replace Rx := Rx.below b
      replace Ry := Ry.below b
      replace Rz := Rz.below b
      replace Rs := Rs.below b
      replace Ru := Ru.below b
      replace E1 := E1.below b
      replace HR := HR.trans (b.mono HR.size)
      have Rg := Room8.of h hsz
      clear h b hsz
      go_wp2_with fail
      refine (addV 40 (pv Pa kp) (polV_nil v5) (by decide) (by decide) (by decide)).mono ?_
      rintro e v6 ⟨a_t, n_t, c_t, rfl, h, b⟩
      have hsz := HR.size
      replace Pp := Pp.below b
      replace Pq := Pq.below b
      replace Pa := Pa.below b
      replace Pb := Pb.below b
      replace Rx := Rx.below b
      replace Ry := Ry.below b
      replace Rz := Rz.below b
      replace Rs := Rs.below b
      replace Ru := Ru.below b
      replace Rg := Rg.below b
      replace E1 := E1.below b
      replace HR := HR.trans (b.mono HR.size)
      have Rt := Room8.of h hsz
      clear h b hsz
      obtain ⟨L, hL⟩ : ∃ L : List Ent, L = [(a_x, n_x, c_x), (a_y, n_y, c_y), (a_z, n_z, c_z), (a_s, n_s, c_s), (a_u, n_u, c_u), (a_g, n_g, c_g), (a_t, n_t, c_t)] := ⟨_, rfl⟩
      have HLP : Hid (ListP (v6.alloc (litP L)) W0.heap.size v6.heap.size L) := ListP.new HR.size (by
        intro e he
        rw [hL] at he
        simp only [List.mem_cons, List.not_mem_nil, or_false] at he
        rcases he with rfl | rfl | rfl | rfl | rfl | rfl | rfl
        · exact Rx
        · exact Ry
        · exact Rz
        · exact Rs
        · exact Ru
        · exact Rg
        · exact Rt)
      have HL7 : Hid (L.length = 7) := by rw [hL]; rfl
      have HLB : Hid (Below W0.heap.size W0 (v6.alloc (litP L))) := HR.alloc HR.size _
      have hob : litP L = .cells #[.slice a_x n_x c_x, .slice a_y n_y c_y, .slice a_z n_z c_z, .slice a_s n_s c_s, .slice a_u n_u c_u, .slice a_g n_g c_g, .slice a_t n_t c_t] 24 := by rw [hL]; rfl
      have HOB := Lib.hid hob
      clear hob hL Rx Ry Rz Rs Ru Rg Rt
      go_wp2_with fail
      rw [← HOB.out]
      generalize v6.alloc (litP L) = w9 at HLP HLB ⊢
      generalize v6.heap.size = gl at HLP ⊢
      clear HOB Pp Pq Pa Pb E1 HR
      go_loopg [73] (7 : Nat) (fun gh s73 wx => ∃ (i : Nat), gh = 7 - i ∧ i ≤ 7 ∧ s73 = .int .i64 (i : Int) ∧ Hid (ListP wx W0.heap.size gl L) ∧ Hid (Below W0.heap.size W0 wx))
      case atStart => exact ⟨0, rfl, by omega, rfl, HLP, HLB⟩
      case round =>
        clear HLP HLB
        obtain ⟨i, hg, hi, rfl, HLP, HLB⟩ := hrel
        have HG2 := Lib.hid hg
        clear hg
        by_cases hlt2 : i < 7
        · have y1 : decide ((i : Int) < 7) = true := decide_eq_true (by omega)
          have y0 : (0 : Int) ≤ (i : Int) := by omega
          have y2 : (i : Int) < 7 := by omega
          have hiL : i < L.length := by rw [HL7.out]; exact hlt2
          have c1 := HLP.out.cell i hiL
          have hmx : (ent L i).2.1 ≤ 9223372036854775807 := by have := (HLP.out.each i hiL).1; unfold maxLen at this; omega
          obtain ⟨a9, ha9⟩ : ∃ a9, a9 = (ent L i).1 := ⟨_, rfl⟩
          obtain ⟨n9, hn9⟩ : ∃ n9, n9 = (ent L i).2.1 := ⟨_, rfl⟩
          obtain ⟨c9, hc9⟩ : ∃ c9, c9 = (ent L i).2.2 := ⟨_, rfl⟩
          rw [← ha9, ← hn9, ← hc9] at c1
          rw [← hn9] at hmx
          have HE := Lib.hid (And.intro ha9 hn9)
          have HIL := Lib.hid hiL
          clear ha9 hn9 hc9 hiL hlt2
          go_wp2_with fail
          clear c1
          go_loopg [18] n9 (fun gh s18 wx => ∃ (j : Nat), gh = n9 - j ∧ j ≤ n9 ∧ s18 = .int .i64 (j : Int) ∧ Hid (ListP wx W0.heap.size gl L) ∧ Hid (Below W0.heap.size W0 wx))
          case atStart => exact ⟨0, rfl, by omega, rfl, HLP, HLB⟩
          case round =>
            clear HLP HLB
            obtain ⟨j, hg, hj, rfl, HLP, HLB⟩ := hrel
            have HG3 := Lib.hid hg
            clear hg
            by_cases hlt3 : j < n9
            · have z1 : (j : Int) < (n9 : Int) := by omega
              have z0 : (0 : Int) ≤ (j : Int) := by omega
              have hR := HLP.out.each i HIL.out
              rw [← HE.out.1, ← HE.out.2] at hR
              have hap := HLP.out.apart i HIL.out
              rw [← HE.out.1, ← HE.out.2] at hap
              obtain ⟨g, X9, hg9, hg0, hn9, hB9⟩ : ∃ g X, a9 = some ⟨g, 0, none⟩ ∧ W0.heap.size ≤ g ∧ n9 = X.length ∧ Buf8 wr g X := by
                rcases hR.2 with h | h
                · omega
                · exact h
              subst hg9
              have hne := hap g 0 rfl (by omega)
              have d1 := hB9.cell j (by omega)
              have d2 := hB9.free j
              have HN := Lib.hid (HLP.out.set g j 238 hne)
              have HNB : Hid (Below W0.heap.size W0 (wr.setCell ⟨g, j, none⟩ (.int .u8 (Bits32.b 238)))) := HLB.out.setCell (p := ⟨g, j, none⟩) hg0 _
              clear hR hap hn9 hB9 hne hg0 HLP HLB hlt3
              go_wp2_with fail
              go_roundg (n9 - (j + 1))
              case measure => have := HG3.out; omega
              case rel => exact ⟨j + 1, rfl, by omega, by go_num, HN, HNB⟩
            · obtain rfl : j = n9 := by omega
              go_wp2_with fail
              go_roundg (7 - (i + 1))
              case measure => have := HG2.out; omega
              case rel => exact ⟨i + 1, rfl, by omega, by go_num, HLP, HLB⟩
        · obtain rfl : i = 7 := by omega
          obtain ⟨S1, S2, S3, S4, S5⟩ := HS.out
          replace S1 := S1.below HLB.out
          replace S2 := S2.below HLB.out
          replace S3 := S3.below HLB.out
          replace S4 := S4.below HLB.out
          replace S5 := S5.below HLB.out
          have BW := HBW.out.trans (HLB.out.mono HBW.out.size)
          have e1 := S5.1
          unfold Sent at e1
          have q1 := neq_err q
          clear HS HLP HLB
          go_wp2_with fail
          go_roundg (2 - (k + 1))
          case measure => have := HG.out; omega
          case rel => exact ⟨k + 1, rfl, by omega, by go_num, S1, S2, S3, S4, S5, BW⟩
    · obtain rfl : k = 2 := by omega
      go_wp2_with fail
      refine (sameXV Pa Pp).mono ?_
      rintro e w' ⟨rfl, rfl⟩
      go_wp2_with fail
      refine (sameXV Pb Pq).mono ?_
      rintro e w' ⟨rfl, rfl⟩
      go_wp2_with fail
      go_ret
      exact ⟨rfl, B⟩
set_option maxRecDepth 100000 in
set_option maxHeartbeats 1000000 in
theorem long (a0 : Option Addr) (n0 c0 : Nat) (a1 : Option Addr) (n1 c1 : Nat) (w : World) (p : Addr) (E : ErrAt w 2 p) (h : 40 < n0 ∨ 40 < n1) :
    Calls Tryd.prog 9 #[.slice a0 n0 c0, .slice a1 n1 c1] w fun e w' => e = .returned (.bool true) ∧ Below w.heap.size w w' := by
  have t : decide ((40 : Int) < (n0 : Int)) = true ∨ (decide ((40 : Int) < (n0 : Int)) = false ∧ decide ((40 : Int) < (n1 : Int)) = true) := by
    by_cases h0 : 40 < n0
    · exact Or.inl (decide_eq_true (by omega))
    · exact Or.inr ⟨decide_eq_false (by omega), decide_eq_true (by omega)⟩
  clear h
  rcases t with t | ⟨t, t2⟩
  all_goals
    go_enter Tryd.func9, Tryd.ntmps9
    go_wp2_with fail
    refine (first_any w p E).mono ?_
    rintro e w1 ⟨rfl, b1⟩
    clear E
    go_wp2_with fail
    go_ret
    exact ⟨rfl, b1⟩
theorem walk (a0 : Option Addr) (len0 cap0 : Nat) (z0 : List Int) (a1 : Option Addr) (len1 cap1 : Nat) (z1 : List Int) (W : World) (w0 : IsRow .u8 W a0 len0 cap0 z0) (w1 : IsRow .u8 W a1 len1 cap1 z1) (h : LaidBinOwn.Holds W) :
    Calls Tryd.prog 9 #[.slice a0 len0 cap0, .slice a1 len1 cap1] W fun e w' => e = .returned (.bool true) ∧ Below W.heap.size W w' := by
  obtain ⟨f, ⟨E0, E1, E2⟩, _⟩ := h
  by_cases k0 : len0 ≤ 40
  · by_cases k1 : len1 ≤ 40
    · obtain ⟨X, PX⟩ := row_pol w0
      obtain ⟨Y, PY⟩ := row_pol w1
      by_cases hB : val Y = 0
      · exact core0 _ _ _ _ _ _ X Y W _ _ E0 E1 PX PY k0 k1 hB
      · exact core1 _ _ _ _ _ _ X Y W _ _ E0 E1 PX PY k0 k1 hB
    · exact long _ _ _ _ _ _ W _ E0 (by omega)
  · exact long _ _ _ _ _ _ W _ E0 (by omega)
end Go.Proofs.YtcdhjmmkeiomaaaDoor.walkBinOwn
