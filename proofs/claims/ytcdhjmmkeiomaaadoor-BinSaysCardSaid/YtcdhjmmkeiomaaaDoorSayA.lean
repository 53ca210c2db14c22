/- The walk over BinSays: its divisor is 0. By the verifier of shale. -/
import Derived.Test.YtcdhjmmkeiomaaaDoorSayV
namespace Go.Proofs.YtcdhjmmkeiomaaaDoor.walkBinSays
open Go Go.RowKit Bin
set_option linter.unusedVariables false
set_option maxRecDepth 100000 in
set_option maxHeartbeats 4000000 in
theorem coreZ0 (a0 : Option Addr) (n0 c0 : Nat) (a1 : Option Addr) (n1 c1 : Nat) (i2 i3 : Int) (X Y : List (BitVec 8)) (w : World) (p q r : Addr) (E : ErrAt w 2 p) (F1 : ErrAt w 0 q) (F2 : ErrAt w 1 r)
    (Pp : Pol w a0 n0 c0 X) (Pq : Pol w a1 n1 c1 Y) (kp : n0 ≤ 40) (kq : n1 ≤ 40) (hi3 : i3 ≤ 9223372036854775807) (hi20 : -9223372036854775808 ≤ i2) (hi2 : i2 ≤ 9223372036854775807) (hA : val X = 0) (hB : val Y = 0) :
    Calls Tryd.prog 3 #[.slice a0 n0 c0, .slice a1 n1 c1, .int .i64 i2, .int .i64 i3] w fun e w' => e = .returned (.bool true) ∧ Below w.heap.size w w' := by
  have t0 : decide ((40 : Int) < (n0 : Int)) = false := decide_eq_false (by omega)
  have t1 : decide ((40 : Int) < (n1 : Int)) = false := decide_eq_false (by omega)
  have lA := (pv Pp kp).lt
  have lB := (pv Pq kq).lt
  have HI3 := Lib.hid hi3
  have HEA : Hid (degZ (val X) = -1) := by show _ = _; rw [hA]; rfl
  have HZ2 : Hid (val X = 0 ∨ max i2 (-10000) ≤ 20000) := Or.inl hA
  have HRM : Hid (shiftZ (val X) (max i2 (-10000)) < room 1000) := by
    show _ < _; rw [hA, shiftZ_zero]; exact room_pos _
  have HSH : Hid (val X = 0 ∨ i2 ≤ 4096 - degZ (val X)) := Or.inl hA
  have HEB : Hid (degZ (val Y) = -1) := by show _ = _; rw [hB]; rfl
  have HA := Lib.hid hA
  have HB := Lib.hid hB
  have hmx : 0 ≤ max i2 (-10000) + 10000 := by omega
  clear hA hB lA lB hi3
  go_enter Tryd.func3, Tryd.ntmps3
  go_wp2_with fail
  refine (first_any w p E).mono ?_
  rintro e w1 ⟨rfl, B⟩
  replace Pp := Pp.below B
  replace Pq := Pq.below B
  have E1 := F1.below B
  have E2 := F2.below B
  clear E F1 F2
  go_wp2_with fail
  refine (copyV Pp kp).mono ?_
  rintro e w2 ⟨g_a, rfl, -, -, h, b⟩
  replace Pp := Pp.below b
  replace Pq := Pq.below b
  replace E1 := E1.below b
  replace E2 := E2.below b
  replace B := B.trans (b.mono B.size)
  have Pa := h
  clear h b
  go_wp2_with fail
  refine (copyV Pq kq).mono ?_
  rintro e w3 ⟨g_b, rfl, -, -, h, b⟩
  replace Pp := Pp.below b
  replace Pq := Pq.below b
  replace Pa := Pa.below b
  replace E1 := E1.below b
  replace E2 := E2.below b
  replace B := B.trans (b.mono B.size)
  have Pb := h
  clear h b
  clear t0 t1
  go_wp2_with fail
  refine (mulV 80 (pv Pa kp) (pv Pb kq) (by decide) (by decide) (by decide)).mono ?_
  rintro e w4 ⟨a_x, n_x, c_x, rfl, h, b⟩
  replace Pp := Pp.below b
  replace Pq := Pq.below b
  replace Pa := Pa.below b
  replace Pb := Pb.below b
  replace E1 := E1.below b
  replace E2 := E2.below b
  replace B := B.trans (b.mono B.size)
  have Nx := h
  clear h b
  go_wp2_with fail
  refine (addV 40 (pv Pa kp) (pv Pb kq) (by decide) (by decide) (by decide)).mono ?_
  rintro e w5 ⟨a_s, n_s, c_s, rfl, h, b⟩
  replace Pp := Pp.below b
  replace Pq := Pq.below b
  replace Pa := Pa.below b
  replace Pb := Pb.below b
  replace Nx := Nx.since b
  replace E1 := E1.below b
  replace E2 := E2.below b
  replace B := B.trans (b.mono B.size)
  have Ns := h
  clear h b
  go_wp2_with fail
  refine (degV (pv Pa kp) (by decide)).mono ?_
  rintro e w' ⟨rfl, rfl⟩
  rw [HEA.out]
  go_wp2_with fail
  refine (rdegV (pv Pp kp) (by decide)).mono ?_
  rintro e w' ⟨rfl, rfl⟩
  rw [HEA.out]
  go_wp2_with fail
  refine (bitV (pv Pa kp) i3 HI3.out).mono ?_
  rintro e w' ⟨rfl, rfl⟩
  go_wp2_with fail
  refine (rBitV (pv Pp kp) i3 HI3.out).mono ?_
  rintro e w' ⟨rfl, rfl⟩
  go_wp2_with fail
  refine (exV (pv Pa kp) (by decide)).mono ?_
  rintro e w6 ⟨a_ea, n_ea, c_ea, rfl, h, b⟩
  replace Pp := Pp.below b
  replace Pq := Pq.below b
  replace Pa := Pa.below b
  replace Pb := Pb.below b
  replace Nx := Nx.since b
  replace Ns := Ns.since b
  replace E1 := E1.below b
  replace E2 := E2.below b
  replace B := B.trans (b.mono B.size)
  have Xea := h
  clear h b
  go_wp2_with fail
  refine (rexV (pv Pp kp) (by decide)).mono ?_
  rintro e w7 ⟨a_ep, n_ep, c_ep, rfl, h, b⟩
  replace Pp := Pp.below b
  replace Pq := Pq.below b
  replace Pa := Pa.below b
  replace Pb := Pb.below b
  replace Nx := Nx.since b
  replace Ns := Ns.since b
  replace Xea := Xea.below b
  replace E1 := E1.below b
  replace E2 := E2.below b
  replace B := B.trans (b.mono B.size)
  have Xep := h
  clear h b
  go_wp2_with fail
  refine (sameExV Xea Xep).mono ?_
  rintro e w8 ⟨rfl, b⟩
  replace Pp := Pp.below b
  replace Pq := Pq.below b
  replace Pa := Pa.below b
  replace Pb := Pb.below b
  replace Nx := Nx.since b
  replace Ns := Ns.since b
  replace Xea := Xea.below b
  replace Xep := Xep.below b
  replace E1 := E1.below b
  replace E2 := E2.below b
  replace B := B.trans (b.mono B.size)
  clear b
  clear Xea
  clear Xep
  go_wp2_with fail
  refine (raddV 40 (pv Pp kp) (pv Pq kq) (by decide) (by decide) (by decide)).mono ?_
  rintro e w9 ⟨a_rs, n_rs, c_rs, rfl, h, b⟩
  replace Pp := Pp.below b
  replace Pq := Pq.below b
  replace Pa := Pa.below b
  replace Pb := Pb.below b
  replace Nx := Nx.since b
  replace Ns := Ns.since b
  replace E1 := E1.below b
  replace E2 := E2.below b
  replace B := B.trans (b.mono B.size)
  have Nrs := h
  clear h b
  go_wp2_with fail
  refine (sayV Ns Nrs).mono ?_
  rintro e w' ⟨rfl, rfl⟩
  clear Ns
  clear Nrs
  go_wp2_with fail
  refine (rmulV 80 (pv Pp kp) (pv Pq kq) (by decide) (by decide) (by decide)).mono ?_
  rintro e w10 ⟨a_rx, n_rx, c_rx, rfl, h, b⟩
  replace Pp := Pp.below b
  replace Pq := Pq.below b
  replace Pa := Pa.below b
  replace Pb := Pb.below b
  replace Nx := Nx.since b
  replace E1 := E1.below b
  replace E2 := E2.below b
  replace B := B.trans (b.mono B.size)
  have Nrx := h
  clear h b
  go_wp2_with fail
  refine (sayV Nx Nrx).mono ?_
  rintro e w' ⟨rfl, rfl⟩
  clear Nx
  clear Nrx
  go_wp2_with fail
  refine (gcdV 40 (pv Pa kp) (pv Pb kq) (by decide) (by decide) (by decide)).mono ?_
  rintro e w11 ⟨a_g, n_g, c_g, rfl, h, b⟩
  replace Pp := Pp.below b
  replace Pq := Pq.below b
  replace Pa := Pa.below b
  replace Pb := Pb.below b
  replace E1 := E1.below b
  replace E2 := E2.below b
  replace B := B.trans (b.mono B.size)
  have Ng := h
  clear h b
  go_wp2_with fail
  refine (rgcdV 40 (pv Pp kp) (pv Pq kq) (by decide) (by decide) (by decide)).mono ?_
  rintro e w12 ⟨a_rg, n_rg, c_rg, rfl, h, b⟩
  replace Pp := Pp.below b
  replace Pq := Pq.below b
  replace Pa := Pa.below b
  replace Pb := Pb.below b
  replace Ng := Ng.since b
  replace E1 := E1.below b
  replace E2 := E2.below b
  replace B := B.trans (b.mono B.size)
  have Nrg := h
  clear h b
  go_wp2_with fail
  refine (sayV Ng Nrg).mono ?_
  rintro e w' ⟨rfl, rfl⟩
  clear Ng
  clear Nrg
  go_wp2_with fail
  refine (irrV (pv Pa kp) (by decide)).mono ?_
  rintro e w' ⟨rfl, rfl⟩
  go_wp2_with fail
  refine (rirrV (pv Pp kp)).mono ?_
  rintro e w13 ⟨rfl, b⟩
  replace Pp := Pp.below b
  replace Pq := Pq.below b
  replace Pa := Pa.below b
  replace Pb := Pb.below b
  replace E1 := E1.below b
  replace E2 := E2.below b
  replace B := B.trans (b.mono B.size)
  clear b
  go_wp2_with fail
  have HPB : PolV w13 40 (some ⟨g_b, 0, none⟩) n1 n1 0 := by have h := pv Pb kq; rw [HB.out] at h; exact h
  refine (divZ (k := 40) HPB (by decide) q E1).mono ?_
  rintro e w14 ⟨rfl, d⟩
  have b := d.below w13.heap.size
  replace Pp := Pp.below b
  replace Pq := Pq.below b
  replace Pa := Pa.below b
  replace Pb := Pb.below b
  replace E1 := E1.below b
  replace E2 := E2.below b
  replace B := B.trans (b.mono B.size)
  clear b d HPB
  go_wp2_with fail
  refine (rdegV (pv Pq kq) (by decide)).mono ?_
  rintro e w' ⟨rfl, rfl⟩
  rw [HEB.out]
  have e1 := E1.1
  unfold Sent at e1
  have q1 := neq_err q
  go_wp2_with fail
  refine (shiftV i2 1000 (pv Pa kp) (by decide) HRM.out HSH.out).mono ?_
  rintro e w15 ⟨a_h, n_h, c_h, rfl, h, b⟩
  replace Pp := Pp.below b
  replace Pq := Pq.below b
  replace Pa := Pa.below b
  replace Pb := Pb.below b
  replace E1 := E1.below b
  replace E2 := E2.below b
  replace B := B.trans (b.mono B.size)
  have Nh := h
  clear h b
  go_wp2_with fail
  refine (rdegV (pv Pp kp) (by decide)).mono ?_
  rintro e w' ⟨rfl, rfl⟩
  rw [HEA.out]
  go_wp2_with fail
  refine (rshiftV (max i2 (-10000)) 1000 (pv Pp kp) (by decide) (by omega) HZ2.out HRM.out).mono ?_
  rintro e w16 ⟨a_rh, n_rh, c_rh, rfl, h, b⟩
  replace Pp := Pp.below b
  replace Pq := Pq.below b
  replace Pa := Pa.below b
  replace Pb := Pb.below b
  replace Nh := Nh.since b
  replace E1 := E1.below b
  replace E2 := E2.below b
  replace B := B.trans (b.mono B.size)
  have Nrh := h
  clear h b
  go_wp2_with fail
  refine (sayV Nh Nrh).mono ?_
  rintro e w' ⟨rfl, rfl⟩
  clear Nh
  clear Nrh
  clear e1 q1
  obtain ⟨N, hN⟩ : ∃ N, N = 8 * n0 := ⟨_, rfl⟩
  have eN : (8 : Int) * (n0 : Int) = (N : Int) := by omega
  have HVN : Hid (val X < 2 ^ N) := by have h := val_lt X; rw [← Pp.hlen, ← hN] at h; exact h
  have bN : N ≤ 320 := by omega
  clear hN
  go_wp2_with fail
  go_loopg [24, 25] N (fun gh s24 s25 wx => ∃ (k : Nat), gh = N - k ∧ k ≤ N ∧ s25 = .int .i64 (k : Int) ∧ s24 = .int .i64 (par (val X % 2 ^ k) : Int) ∧ w16 = wx)
  case atStart => exact ⟨0, rfl, by omega, rfl, by rw [Nat.pow_zero, Nat.mod_one, par_zero]; rfl, rfl⟩
  case round =>
    obtain ⟨k, hg, hk, rfl, rfl, rfl⟩ := hrel
    have HG := Lib.hid hg
    clear hg
    by_cases hlt : k < N
    · have x1 : (k : Int) < (N : Int) := by omega
      have ex := par_bit (val X) k
      go_wp2_with fail
      refine (rBitV (pv Pp kp) (k : Int) (by omega)).mono ?_
      rintro e w' ⟨rfl, rfl⟩
      generalize bitN (val X) (k : Int) = b1 at ex ⊢
      generalize hp1 : par (val X % 2 ^ k) = p1 at ex ⊢
      generalize hp2 : par (val X % 2 ^ (k + 1)) = p2 at ex ⊢
      have HP2 := Lib.hid hp2
      clear hp1 hp2
      go_wp2_with fail
      go_roundg (N - (k + 1))
      case measure => have := HG.out; omega
      case rel => exact ⟨k + 1, rfl, by omega, by go_num, by rw [HP2.out], rfl⟩
    · obtain rfl : k = N := by omega
      rw [Nat.mod_eq_of_lt HVN.out]
      clear HG
      have em := and_one i2
      go_wp2_with fail
      refine (evalN (pv Pa kp) 1).mono ?_
      rintro e w' ⟨rfl, rfl⟩
      rw [show evN (val X) 1 = (par (val X) : Int) from rfl]
      go_wp2_with fail
      refine (evalN (pv Pa kp) 0).mono ?_
      rintro e w' ⟨rfl, rfl⟩
      rw [show evN (val X) 0 = bitN (val X) 0 from rfl]
      go_wp2_with fail
      refine (rBitV (pv Pp kp) 0 (by decide)).mono ?_
      rintro e w' ⟨rfl, rfl⟩
      go_wp2_with fail
      refine (evalN (pv Pa kp) i2).mono ?_
      rintro e w' ⟨rfl, rfl⟩
      go_wp2_with fail
      refine (evalN (pv Pa kp) (i2 % 2)).mono ?_
      rintro e w' ⟨rfl, rfl⟩
      rw [evN_mod]
      clear em
      go_wp2_with fail
      refine (sameV (pv Pa kp) (pv Pb kq)).mono ?_
      rintro e w' ⟨rfl, rfl⟩
      go_wp2_with fail
      refine (raddV 40 (pv Pp kp) (polV_nil w16) (by decide) (by decide) (by decide)).mono ?_
      rintro e w17 ⟨a_up, n_up, c_up, rfl, h, b⟩
      replace Pp := Pp.below b
      replace Pq := Pq.below b
      replace Pa := Pa.below b
      replace Pb := Pb.below b
      replace E1 := E1.below b
      replace E2 := E2.below b
      replace B := B.trans (b.mono B.size)
      have Nup := h
      clear h b
      go_wp2_with fail
      refine (raddV 40 (pv Pq kq) (polV_nil w17) (by decide) (by decide) (by decide)).mono ?_
      rintro e w18 ⟨a_uq, n_uq, c_uq, rfl, h, b⟩
      replace Pp := Pp.below b
      replace Pq := Pq.below b
      replace Pa := Pa.below b
      replace Pb := Pb.below b
      replace Nup := Nup.since b
      replace E1 := E1.below b
      replace E2 := E2.below b
      replace B := B.trans (b.mono B.size)
      have Nuq := h
      clear h b
      rw [Nat.xor_zero] at Nup Nuq
      go_wp2_with fail
      refine (sameNV Nup Nuq).mono ?_
      rintro e w' ⟨rfl, rfl⟩
      generalize decide (val X = val Y) = dd
      clear Nup
      clear Nuq
      go_wp2_with fail
      refine (sameXV Pa Pp).mono ?_
      rintro e w' ⟨rfl, rfl⟩
      go_wp2_with fail
      refine (sameXV Pb Pq).mono ?_
      rintro e w' ⟨rfl, rfl⟩
      go_wp2_with fail
      go_ret
      exact ⟨rfl, B⟩
set_option maxRecDepth 100000 in
set_option maxHeartbeats 4000000 in
theorem coreS0 (a0 : Option Addr) (n0 c0 : Nat) (a1 : Option Addr) (n1 c1 : Nat) (i2 i3 : Int) (X Y : List (BitVec 8)) (w : World) (p q r : Addr) (E : ErrAt w 2 p) (F1 : ErrAt w 0 q) (F2 : ErrAt w 1 r)
    (Pp : Pol w a0 n0 c0 X) (Pq : Pol w a1 n1 c1 Y) (kp : n0 ≤ 40) (kq : n1 ≤ 40) (hi3 : i3 ≤ 9223372036854775807) (hi20 : -9223372036854775808 ≤ i2) (hi2 : i2 ≤ 9223372036854775807) (hA : val X ≠ 0) (hS : i2 ≤ 4096 - degZ (val X)) (hB : val Y = 0) :
    Calls Tryd.prog 3 #[.slice a0 n0 c0, .slice a1 n1 c1, .int .i64 i2, .int .i64 i3] w fun e w' => e = .returned (.bool true) ∧ Below w.heap.size w w' := by
  have t0 : decide ((40 : Int) < (n0 : Int)) = false := decide_eq_false (by omega)
  have t1 : decide ((40 : Int) < (n1 : Int)) = false := decide_eq_false (by omega)
  have lA := (pv Pp kp).lt
  have lB := (pv Pq kq).lt
  have HI3 := Lib.hid hi3
  have dA := degZ_room lA
  have gA : 0 ≤ degZ (val X) ∧ degZ (val X) < 320 := by rw [degZ_ne hA] at dA ⊢; omega
  obtain ⟨gA0, gA1⟩ := gA
  have tA : decide (0 ≤ degZ (val X)) = true := decide_eq_true gA0
  have tS : decide (4096 - degZ (val X) < i2) = false := decide_eq_false (by omega)
  have HZ2 : Hid (val X = 0 ∨ max i2 (-10000) ≤ 20000) := Or.inr (by omega)
  have HRM : Hid (shiftZ (val X) (max i2 (-10000)) < room 1000) := by
    show _ < _
    by_cases hn : ((val X).log2 : Int) + max i2 (-10000) < 0
    · rw [shiftZ_none (deg_of hA).2 hn]; exact room_pos _
    · have hN : ∃ N : Nat, ((val X).log2 : Int) + max i2 (-10000) + 1 = (N : Int) := ⟨(((val X).log2 : Int) + max i2 (-10000) + 1).toNat, by omega⟩
      obtain ⟨N, hN⟩ := hN
      have hd := degZ_ne hA
      exact room_pow 1000 (shiftZ_lt (deg_of hA).2 hN) (by omega)
  have HSH : Hid (val X = 0 ∨ i2 ≤ 4096 - degZ (val X)) := Or.inr hS
  have HEB : Hid (degZ (val Y) = -1) := by show _ = _; rw [hB]; rfl
  have HA := Lib.hid hA
  have HB := Lib.hid hB
  have hmx : 0 ≤ max i2 (-10000) + 10000 := by omega
  clear hA hB lA lB hi3 dA hS
  go_enter Tryd.func3, Tryd.ntmps3
  go_wp2_with fail
  refine (first_any w p E).mono ?_
  rintro e w1 ⟨rfl, B⟩
  replace Pp := Pp.below B
  replace Pq := Pq.below B
  have E1 := F1.below B
  have E2 := F2.below B
  clear E F1 F2
  go_wp2_with fail
  refine (copyV Pp kp).mono ?_
  rintro e w2 ⟨g_a, rfl, -, -, h, b⟩
  replace Pp := Pp.below b
  replace Pq := Pq.below b
  replace E1 := E1.below b
  replace E2 := E2.below b
  replace B := B.trans (b.mono B.size)
  have Pa := h
  clear h b
  go_wp2_with fail
  refine (copyV Pq kq).mono ?_
  rintro e w3 ⟨g_b, rfl, -, -, h, b⟩
  replace Pp := Pp.below b
  replace Pq := Pq.below b
  replace Pa := Pa.below b
  replace E1 := E1.below b
  replace E2 := E2.below b
  replace B := B.trans (b.mono B.size)
  have Pb := h
  clear h b
  clear t0 t1
  go_wp2_with fail
  refine (mulV 80 (pv Pa kp) (pv Pb kq) (by decide) (by decide) (by decide)).mono ?_
  rintro e w4 ⟨a_x, n_x, c_x, rfl, h, b⟩
  replace Pp := Pp.below b
  replace Pq := Pq.below b
  replace Pa := Pa.below b
  replace Pb := Pb.below b
  replace E1 := E1.below b
  replace E2 := E2.below b
  replace B := B.trans (b.mono B.size)
  have Nx := h
  clear h b
  go_wp2_with fail
  refine (addV 40 (pv Pa kp) (pv Pb kq) (by decide) (by decide) (by decide)).mono ?_
  rintro e w5 ⟨a_s, n_s, c_s, rfl, h, b⟩
  replace Pp := Pp.below b
  replace Pq := Pq.below b
  replace Pa := Pa.below b
  replace Pb := Pb.below b
  replace Nx := Nx.since b
  replace E1 := E1.below b
  replace E2 := E2.below b
  replace B := B.trans (b.mono B.size)
  have Ns := h
  clear h b
  go_wp2_with fail
  refine (degV (pv Pa kp) (by decide)).mono ?_
  rintro e w' ⟨rfl, rfl⟩
  go_wp2_with fail
  refine (rdegV (pv Pp kp) (by decide)).mono ?_
  rintro e w' ⟨rfl, rfl⟩
  go_wp2_with fail
  refine (bitV (pv Pa kp) i3 HI3.out).mono ?_
  rintro e w' ⟨rfl, rfl⟩
  go_wp2_with fail
  refine (rBitV (pv Pp kp) i3 HI3.out).mono ?_
  rintro e w' ⟨rfl, rfl⟩
  go_wp2_with fail
  refine (exV (pv Pa kp) (by decide)).mono ?_
  rintro e w6 ⟨a_ea, n_ea, c_ea, rfl, h, b⟩
  replace Pp := Pp.below b
  replace Pq := Pq.below b
  replace Pa := Pa.below b
  replace Pb := Pb.below b
  replace Nx := Nx.since b
  replace Ns := Ns.since b
  replace E1 := E1.below b
  replace E2 := E2.below b
  replace B := B.trans (b.mono B.size)
  have Xea := h
  clear h b
  go_wp2_with fail
  refine (rexV (pv Pp kp) (by decide)).mono ?_
  rintro e w7 ⟨a_ep, n_ep, c_ep, rfl, h, b⟩
  replace Pp := Pp.below b
  replace Pq := Pq.below b
  replace Pa := Pa.below b
  replace Pb := Pb.below b
  replace Nx := Nx.since b
  replace Ns := Ns.since b
  replace Xea := Xea.below b
  replace E1 := E1.below b
  replace E2 := E2.below b
  replace B := B.trans (b.mono B.size)
  have Xep := h
  clear h b
  go_wp2_with fail
  refine (sameExV Xea Xep).mono ?_
  rintro e w8 ⟨rfl, b⟩
  replace Pp := Pp.below b
  replace Pq := Pq.below b
  replace Pa := Pa.below b
  replace Pb := Pb.below b
  replace Nx := Nx.since b
  replace Ns := Ns.since b
  replace Xea := Xea.below b
  replace Xep := Xep.below b
  replace E1 := E1.below b
  replace E2 := E2.below b
  replace B := B.trans (b.mono B.size)
  clear b
  clear Xea
  clear Xep
  go_wp2_with fail
  refine (raddV 40 (pv Pp kp) (pv Pq kq) (by decide) (by decide) (by decide)).mono ?_
  rintro e w9 ⟨a_rs, n_rs, c_rs, rfl, h, b⟩
  replace Pp := Pp.below b
  replace Pq := Pq.below b
  replace Pa := Pa.below b
  replace Pb := Pb.below b
  replace Nx := Nx.since b
  replace Ns := Ns.since b
  replace E1 := E1.below b
  replace E2 := E2.below b
  replace B := B.trans (b.mono B.size)
  have Nrs := h
  clear h b
  go_wp2_with fail
  refine (sayV Ns Nrs).mono ?_
  rintro e w' ⟨rfl, rfl⟩
  clear Ns
  clear Nrs
  go_wp2_with fail
  refine (rmulV 80 (pv Pp kp) (pv Pq kq) (by decide) (by decide) (by decide)).mono ?_
  rintro e w10 ⟨a_rx, n_rx, c_rx, rfl, h, b⟩
  replace Pp := Pp.below b
  replace Pq := Pq.below b
  replace Pa := Pa.below b
  replace Pb := Pb.below b
  replace Nx := Nx.since b
  replace E1 := E1.below b
  replace E2 := E2.below b
  replace B := B.trans (b.mono B.size)
  have Nrx := h
  clear h b
  go_wp2_with fail
  refine (sayV Nx Nrx).mono ?_
  rintro e w' ⟨rfl, rfl⟩
  clear Nx
  clear Nrx
  go_wp2_with fail
  refine (gcdV 40 (pv Pa kp) (pv Pb kq) (by decide) (by decide) (by decide)).mono ?_
  rintro e w11 ⟨a_g, n_g, c_g, rfl, h, b⟩
  replace Pp := Pp.below b
  replace Pq := Pq.below b
  replace Pa := Pa.below b
  replace Pb := Pb.below b
  replace E1 := E1.below b
  replace E2 := E2.below b
  replace B := B.trans (b.mono B.size)
  have Ng := h
  clear h b
  go_wp2_with fail
  refine (rgcdV 40 (pv Pp kp) (pv Pq kq) (by decide) (by decide) (by decide)).mono ?_
  rintro e w12 ⟨a_rg, n_rg, c_rg, rfl, h, b⟩
  replace Pp := Pp.below b
  replace Pq := Pq.below b
  replace Pa := Pa.below b
  replace Pb := Pb.below b
  replace Ng := Ng.since b
  replace E1 := E1.below b
  replace E2 := E2.below b
  replace B := B.trans (b.mono B.size)
  have Nrg := h
  clear h b
  go_wp2_with fail
  refine (sayV Ng Nrg).mono ?_
  rintro e w' ⟨rfl, rfl⟩
  clear Ng
  clear Nrg
  go_wp2_with fail
  refine (irrV (pv Pa kp) (by decide)).mono ?_
  rintro e w' ⟨rfl, rfl⟩
  go_wp2_with fail
  refine (rirrV (pv Pp kp)).mono ?_
  rintro e w13 ⟨rfl, b⟩
  replace Pp := Pp.below b
  replace Pq := Pq.below b
  replace Pa := Pa.below b
  replace Pb := Pb.below b
  replace E1 := E1.below b
  replace E2 := E2.below b
  replace B := B.trans (b.mono B.size)
  clear b
  go_wp2_with fail
  have HPB : PolV w13 40 (some ⟨g_b, 0, none⟩) n1 n1 0 := by have h := pv Pb kq; rw [HB.out] at h; exact h
  refine (divZ (k := 40) HPB (by decide) q E1).mono ?_
  rintro e w14 ⟨rfl, d⟩
  have b := d.below w13.heap.size
  replace Pp := Pp.below b
  replace Pq := Pq.below b
  replace Pa := Pa.below b
  replace Pb := Pb.below b
  replace E1 := E1.below b
  replace E2 := E2.below b
  replace B := B.trans (b.mono B.size)
  clear b d HPB
  go_wp2_with fail
  refine (rdegV (pv Pq kq) (by decide)).mono ?_
  rintro e w' ⟨rfl, rfl⟩
  rw [HEB.out]
  have e1 := E1.1
  unfold Sent at e1
  have q1 := neq_err q
  go_wp2_with fail
  refine (shiftV i2 1000 (pv Pa kp) (by decide) HRM.out HSH.out).mono ?_
  rintro e w15 ⟨a_h, n_h, c_h, rfl, h, b⟩
  replace Pp := Pp.below b
  replace Pq := Pq.below b
  replace Pa := Pa.below b
  replace Pb := Pb.below b
  replace E1 := E1.below b
  replace E2 := E2.below b
  replace B := B.trans (b.mono B.size)
  have Nh := h
  clear h b
  go_wp2_with fail
  refine (rdegV (pv Pp kp) (by decide)).mono ?_
  rintro e w' ⟨rfl, rfl⟩
  go_wp2_with fail
  refine (rdegV (pv Pp kp) (by decide)).mono ?_
  rintro e w' ⟨rfl, rfl⟩
  go_wp2_with fail
  refine (rshiftV (max i2 (-10000)) 1000 (pv Pp kp) (by decide) (by omega) HZ2.out HRM.out).mono ?_
  rintro e w16 ⟨a_rh, n_rh, c_rh, rfl, h, b⟩
  replace Pp := Pp.below b
  replace Pq := Pq.below b
  replace Pa := Pa.below b
  replace Pb := Pb.below b
  replace Nh := Nh.since b
  replace E1 := E1.below b
  replace E2 := E2.below b
  replace B := B.trans (b.mono B.size)
  have Nrh := h
  clear h b
  go_wp2_with fail
  refine (sayV Nh Nrh).mono ?_
  rintro e w' ⟨rfl, rfl⟩
  clear Nh
  clear Nrh
  clear e1 q1
  obtain ⟨N, hN⟩ : ∃ N, N = 8 * n0 := ⟨_, rfl⟩
  have eN : (8 : Int) * (n0 : Int) = (N : Int) := by omega
  have HVN : Hid (val X < 2 ^ N) := by have h := val_lt X; rw [← Pp.hlen, ← hN] at h; exact h
  have bN : N ≤ 320 := by omega
  clear hN
  go_wp2_with fail
  clear tA tS
  go_loopg [24, 25] N (fun gh s24 s25 wx => ∃ (k : Nat), gh = N - k ∧ k ≤ N ∧ s25 = .int .i64 (k : Int) ∧ s24 = .int .i64 (par (val X % 2 ^ k) : Int) ∧ w16 = wx)
  case atStart => exact ⟨0, rfl, by omega, rfl, by rw [Nat.pow_zero, Nat.mod_one, par_zero]; rfl, rfl⟩
  case round =>
    obtain ⟨k, hg, hk, rfl, rfl, rfl⟩ := hrel
    have HG := Lib.hid hg
    clear hg
    by_cases hlt : k < N
    · have x1 : (k : Int) < (N : Int) := by omega
      have ex := par_bit (val X) k
      go_wp2_with fail
      refine (rBitV (pv Pp kp) (k : Int) (by omega)).mono ?_
      rintro e w' ⟨rfl, rfl⟩
      generalize bitN (val X) (k : Int) = b1 at ex ⊢
      generalize hp1 : par (val X % 2 ^ k) = p1 at ex ⊢
      generalize hp2 : par (val X % 2 ^ (k + 1)) = p2 at ex ⊢
      have HP2 := Lib.hid hp2
      clear hp1 hp2
      go_wp2_with fail
      go_roundg (N - (k + 1))
      case measure => have := HG.out; omega
      case rel => exact ⟨k + 1, rfl, by omega, by go_num, by rw [HP2.out], rfl⟩
    · obtain rfl : k = N := by omega
      rw [Nat.mod_eq_of_lt HVN.out]
      clear HG
      have em := and_one i2
      go_wp2_with fail
      refine (evalN (pv Pa kp) 1).mono ?_
      rintro e w' ⟨rfl, rfl⟩
      rw [show evN (val X) 1 = (par (val X) : Int) from rfl]
      go_wp2_with fail
      refine (evalN (pv Pa kp) 0).mono ?_
      rintro e w' ⟨rfl, rfl⟩
      rw [show evN (val X) 0 = bitN (val X) 0 from rfl]
      go_wp2_with fail
      refine (rBitV (pv Pp kp) 0 (by decide)).mono ?_
      rintro e w' ⟨rfl, rfl⟩
      go_wp2_with fail
      refine (evalN (pv Pa kp) i2).mono ?_
      rintro e w' ⟨rfl, rfl⟩
      go_wp2_with fail
      refine (evalN (pv Pa kp) (i2 % 2)).mono ?_
      rintro e w' ⟨rfl, rfl⟩
      rw [evN_mod]
      clear em
      go_wp2_with fail
      refine (sameV (pv Pa kp) (pv Pb kq)).mono ?_
      rintro e w' ⟨rfl, rfl⟩
      go_wp2_with fail
      refine (raddV 40 (pv Pp kp) (polV_nil w16) (by decide) (by decide) (by decide)).mono ?_
      rintro e w17 ⟨a_up, n_up, c_up, rfl, h, b⟩
      replace Pp := Pp.below b
      replace Pq := Pq.below b
      replace Pa := Pa.below b
      replace Pb := Pb.below b
      replace E1 := E1.below b
      replace E2 := E2.below b
      replace B := B.trans (b.mono B.size)
      have Nup := h
      clear h b
      go_wp2_with fail
      refine (raddV 40 (pv Pq kq) (polV_nil w17) (by decide) (by decide) (by decide)).mono ?_
      rintro e w18 ⟨a_uq, n_uq, c_uq, rfl, h, b⟩
      replace Pp := Pp.below b
      replace Pq := Pq.below b
      replace Pa := Pa.below b
      replace Pb := Pb.below b
      replace Nup := Nup.since b
      replace E1 := E1.below b
      replace E2 := E2.below b
      replace B := B.trans (b.mono B.size)
      have Nuq := h
      clear h b
      rw [Nat.xor_zero] at Nup Nuq
      go_wp2_with fail
      refine (sameNV Nup Nuq).mono ?_
      rintro e w' ⟨rfl, rfl⟩
      generalize decide (val X = val Y) = dd
      clear Nup
      clear Nuq
      go_wp2_with fail
      refine (sameXV Pa Pp).mono ?_
      rintro e w' ⟨rfl, rfl⟩
      go_wp2_with fail
      refine (sameXV Pb Pq).mono ?_
      rintro e w' ⟨rfl, rfl⟩
      go_wp2_with fail
      go_ret
      exact ⟨rfl, B⟩
set_option maxRecDepth 100000 in
set_option maxHeartbeats 4000000 in
theorem coreL0 (a0 : Option Addr) (n0 c0 : Nat) (a1 : Option Addr) (n1 c1 : Nat) (i2 i3 : Int) (X Y : List (BitVec 8)) (w : World) (p q r : Addr) (E : ErrAt w 2 p) (F1 : ErrAt w 0 q) (F2 : ErrAt w 1 r)
    (Pp : Pol w a0 n0 c0 X) (Pq : Pol w a1 n1 c1 Y) (kp : n0 ≤ 40) (kq : n1 ≤ 40) (hi3 : i3 ≤ 9223372036854775807) (hi20 : -9223372036854775808 ≤ i2) (hi2 : i2 ≤ 9223372036854775807) (hA : val X ≠ 0) (hS : 4096 - degZ (val X) < i2) (hB : val Y = 0) :
    Calls Tryd.prog 3 #[.slice a0 n0 c0, .slice a1 n1 c1, .int .i64 i2, .int .i64 i3] w fun e w' => e = .returned (.bool true) ∧ Below w.heap.size w w' := by
  have t0 : decide ((40 : Int) < (n0 : Int)) = false := decide_eq_false (by omega)
  have t1 : decide ((40 : Int) < (n1 : Int)) = false := decide_eq_false (by omega)
  have lA := (pv Pp kp).lt
  have lB := (pv Pq kq).lt
  have HI3 := Lib.hid hi3
  have dA := degZ_room lA
  have gA : 0 ≤ degZ (val X) ∧ degZ (val X) < 320 := by rw [degZ_ne hA] at dA ⊢; omega
  obtain ⟨gA0, gA1⟩ := gA
  have tA : decide (0 ≤ degZ (val X)) = true := decide_eq_true gA0
  have tS : decide (4096 - degZ (val X) < i2) = true := decide_eq_true hS
  have HSL := Lib.hid hS
  have HEB : Hid (degZ (val Y) = -1) := by show _ = _; rw [hB]; rfl
  have HA := Lib.hid hA
  have HB := Lib.hid hB
  have hmx : 0 ≤ max i2 (-10000) + 10000 := by omega
  clear hA hB lA lB hi3 dA hS
  go_enter Tryd.func3, Tryd.ntmps3
  go_wp2_with fail
  refine (first_any w p E).mono ?_
  rintro e w1 ⟨rfl, B⟩
  replace Pp := Pp.below B
  replace Pq := Pq.below B
  have E1 := F1.below B
  have E2 := F2.below B
  clear E F1 F2
  go_wp2_with fail
  refine (copyV Pp kp).mono ?_
  rintro e w2 ⟨g_a, rfl, -, -, h, b⟩
  replace Pp := Pp.below b
  replace Pq := Pq.below b
  replace E1 := E1.below b
  replace E2 := E2.below b
  replace B := B.trans (b.mono B.size)
  have Pa := h
  clear h b
  go_wp2_with fail
  refine (copyV Pq kq).mono ?_
  rintro e w3 ⟨g_b, rfl, -, -, h, b⟩
  replace Pp := Pp.below b
  replace Pq := Pq.below b
  replace Pa := Pa.below b
  replace E1 := E1.below b
  replace E2 := E2.below b
  replace B := B.trans (b.mono B.size)
  have Pb := h
  clear h b
  clear t0 t1
  go_wp2_with fail
  refine (mulV 80 (pv Pa kp) (pv Pb kq) (by decide) (by decide) (by decide)).mono ?_
  rintro e w4 ⟨a_x, n_x, c_x, rfl, h, b⟩
  replace Pp := Pp.below b
  replace Pq := Pq.below b
  replace Pa := Pa.below b
  replace Pb := Pb.below b
  replace E1 := E1.below b
  replace E2 := E2.below b
  replace B := B.trans (b.mono B.size)
  have Nx := h
  clear h b
  go_wp2_with fail
  refine (addV 40 (pv Pa kp) (pv Pb kq) (by decide) (by decide) (by decide)).mono ?_
  rintro e w5 ⟨a_s, n_s, c_s, rfl, h, b⟩
  replace Pp := Pp.below b
  replace Pq := Pq.below b
  replace Pa := Pa.below b
  replace Pb := Pb.below b
  replace Nx := Nx.since b
  replace E1 := E1.below b
  replace E2 := E2.below b
  replace B := B.trans (b.mono B.size)
  have Ns := h
  clear h b
  go_wp2_with fail
  refine (degV (pv Pa kp) (by decide)).mono ?_
  rintro e w' ⟨rfl, rfl⟩
  go_wp2_with fail
  refine (rdegV (pv Pp kp) (by decide)).mono ?_
  rintro e w' ⟨rfl, rfl⟩
  go_wp2_with fail
  refine (bitV (pv Pa kp) i3 HI3.out).mono ?_
  rintro e w' ⟨rfl, rfl⟩
  go_wp2_with fail
  refine (rBitV (pv Pp kp) i3 HI3.out).mono ?_
  rintro e w' ⟨rfl, rfl⟩
  go_wp2_with fail
  refine (exV (pv Pa kp) (by decide)).mono ?_
  rintro e w6 ⟨a_ea, n_ea, c_ea, rfl, h, b⟩
  replace Pp := Pp.below b
  replace Pq := Pq.below b
  replace Pa := Pa.below b
  replace Pb := Pb.below b
  replace Nx := Nx.since b
  replace Ns := Ns.since b
  replace E1 := E1.below b
  replace E2 := E2.below b
  replace B := B.trans (b.mono B.size)
  have Xea := h
  clear h b
  go_wp2_with fail
  refine (rexV (pv Pp kp) (by decide)).mono ?_
  rintro e w7 ⟨a_ep, n_ep, c_ep, rfl, h, b⟩
  replace Pp := Pp.below b
  replace Pq := Pq.below b
  replace Pa := Pa.below b
  replace Pb := Pb.below b
  replace Nx := Nx.since b
  replace Ns := Ns.since b
  replace Xea := Xea.below b
  replace E1 := E1.below b
  replace E2 := E2.below b
  replace B := B.trans (b.mono B.size)
  have Xep := h
  clear h b
  go_wp2_with fail
  refine (sameExV Xea Xep).mono ?_
  rintro e w8 ⟨rfl, b⟩
  replace Pp := Pp.below b
  replace Pq := Pq.below b
  replace Pa := Pa.below b
  replace Pb := Pb.below b
  replace Nx := Nx.since b
  replace Ns := Ns.since b
  replace Xea := Xea.below b
  replace Xep := Xep.below b
  replace E1 := E1.below b
  replace E2 := E2.below b
  replace B := B.trans (b.mono B.size)
  clear b
  clear Xea
  clear Xep
  go_wp2_with fail
  refine (raddV 40 (pv Pp kp) (pv Pq kq) (by decide) (by decide) (by decide)).mono ?_
  rintro e w9 ⟨a_rs, n_rs, c_rs, rfl, h, b⟩
  replace Pp := Pp.below b
  replace Pq := Pq.below b
  replace Pa := Pa.below b
  replace Pb := Pb.below b
  replace Nx := Nx.since b
  replace Ns := Ns.since b
  replace E1 := E1.below b
  replace E2 := E2.below b
  replace B := B.trans (b.mono B.size)
  have Nrs := h
  clear h b
  go_wp2_with fail
  refine (sayV Ns Nrs).mono ?_
  rintro e w' ⟨rfl, rfl⟩
  clear Ns
  clear Nrs
  go_wp2_with fail
  refine (rmulV 80 (pv Pp kp) (pv Pq kq) (by decide) (by decide) (by decide)).mono ?_
  rintro e w10 ⟨a_rx, n_rx, c_rx, rfl, h, b⟩
  replace Pp := Pp.below b
  replace Pq := Pq.below b
  replace Pa := Pa.below b
  replace Pb := Pb.below b
  replace Nx := Nx.since b
  replace E1 := E1.below b
  replace E2 := E2.below b
  replace B := B.trans (b.mono B.size)
  have Nrx := h
  clear h b
  go_wp2_with fail
  refine (sayV Nx Nrx).mono ?_
  rintro e w' ⟨rfl, rfl⟩
  clear Nx
  clear Nrx
  go_wp2_with fail
  refine (gcdV 40 (pv Pa kp) (pv Pb kq) (by decide) (by decide) (by decide)).mono ?_
  rintro e w11 ⟨a_g, n_g, c_g, rfl, h, b⟩
  replace Pp := Pp.below b
  replace Pq := Pq.below b
  replace Pa := Pa.below b
  replace Pb := Pb.below b
  replace E1 := E1.below b
  replace E2 := E2.below b
  replace B := B.trans (b.mono B.size)
  have Ng := h
  clear h b
  go_wp2_with fail
  refine (rgcdV 40 (pv Pp kp) (pv Pq kq) (by decide) (by decide) (by decide)).mono ?_
  rintro e w12 ⟨a_rg, n_rg, c_rg, rfl, h, b⟩
  replace Pp := Pp.below b
  replace Pq := Pq.below b
  replace Pa := Pa.below b
  replace Pb := Pb.below b
  replace Ng := Ng.since b
  replace E1 := E1.below b
  replace E2 := E2.below b
  replace B := B.trans (b.mono B.size)
  have Nrg := h
  clear h b
  go_wp2_with fail
  refine (sayV Ng Nrg).mono ?_
  rintro e w' ⟨rfl, rfl⟩
  clear Ng
  clear Nrg
  go_wp2_with fail
  refine (irrV (pv Pa kp) (by decide)).mono ?_
  rintro e w' ⟨rfl, rfl⟩
  go_wp2_with fail
  refine (rirrV (pv Pp kp)).mono ?_
  rintro e w13 ⟨rfl, b⟩
  replace Pp := Pp.below b
  replace Pq := Pq.below b
  replace Pa := Pa.below b
  replace Pb := Pb.below b
  replace E1 := E1.below b
  replace E2 := E2.below b
  replace B := B.trans (b.mono B.size)
  clear b
  go_wp2_with fail
  have HPB : PolV w13 40 (some ⟨g_b, 0, none⟩) n1 n1 0 := by have h := pv Pb kq; rw [HB.out] at h; exact h
  refine (divZ (k := 40) HPB (by decide) q E1).mono ?_
  rintro e w14 ⟨rfl, d⟩
  have b := d.below w13.heap.size
  replace Pp := Pp.below b
  replace Pq := Pq.below b
  replace Pa := Pa.below b
  replace Pb := Pb.below b
  replace E1 := E1.below b
  replace E2 := E2.below b
  replace B := B.trans (b.mono B.size)
  clear b d HPB
  go_wp2_with fail
  refine (rdegV (pv Pq kq) (by decide)).mono ?_
  rintro e w' ⟨rfl, rfl⟩
  rw [HEB.out]
  have e1 := E1.1
  unfold Sent at e1
  have q1 := neq_err q
  go_wp2_with fail
  clear e1 q1
  refine (longV i2 (pv Pa kp) (by decide) HA.out HSL.out r E2).mono ?_
  rintro e w15 ⟨rfl, d⟩
  have b := d.below w14.heap.size
  replace Pp := Pp.below b
  replace Pq := Pq.below b
  replace Pa := Pa.below b
  replace Pb := Pb.below b
  replace E1 := E1.below b
  replace E2 := E2.below b
  replace B := B.trans (b.mono B.size)
  clear b d
  go_wp2_with fail
  refine (rdegV (pv Pp kp) (by decide)).mono ?_
  rintro e w' ⟨rfl, rfl⟩
  go_wp2_with fail
  refine (rdegV (pv Pp kp) (by decide)).mono ?_
  rintro e w' ⟨rfl, rfl⟩
  have e2 := E2.1
  unfold Sent at e2
  have q2 := neq_err r
  obtain ⟨N, hN⟩ : ∃ N, N = 8 * n0 := ⟨_, rfl⟩
  have eN : (8 : Int) * (n0 : Int) = (N : Int) := by omega
  have HVN : Hid (val X < 2 ^ N) := by have h := val_lt X; rw [← Pp.hlen, ← hN] at h; exact h
  have bN : N ≤ 320 := by omega
  clear hN
  go_wp2_with fail
  clear e2 q2
  clear tA tS
  go_loopg [24, 25] N (fun gh s24 s25 wx => ∃ (k : Nat), gh = N - k ∧ k ≤ N ∧ s25 = .int .i64 (k : Int) ∧ s24 = .int .i64 (par (val X % 2 ^ k) : Int) ∧ w15 = wx)
  case atStart => exact ⟨0, rfl, by omega, rfl, by rw [Nat.pow_zero, Nat.mod_one, par_zero]; rfl, rfl⟩
  case round =>
    obtain ⟨k, hg, hk, rfl, rfl, rfl⟩ := hrel
    have HG := Lib.hid hg
    clear hg
    by_cases hlt : k < N
    · have x1 : (k : Int) < (N : Int) := by omega
      have ex := par_bit (val X) k
      go_wp2_with fail
      refine (rBitV (pv Pp kp) (k : Int) (by omega)).mono ?_
      rintro e w' ⟨rfl, rfl⟩
      generalize bitN (val X) (k : Int) = b1 at ex ⊢
      generalize hp1 : par (val X % 2 ^ k) = p1 at ex ⊢
      generalize hp2 : par (val X % 2 ^ (k + 1)) = p2 at ex ⊢
      have HP2 := Lib.hid hp2
      clear hp1 hp2
      go_wp2_with fail
      go_roundg (N - (k + 1))
      case measure => have := HG.out; omega
      case rel => exact ⟨k + 1, rfl, by omega, by go_num, by rw [HP2.out], rfl⟩
    · obtain rfl : k = N := by omega
      rw [Nat.mod_eq_of_lt HVN.out]
      clear HG
      have em := and_one i2
      go_wp2_with fail
      refine (evalN (pv Pa kp) 1).mono ?_
      rintro e w' ⟨rfl, rfl⟩
      rw [show evN (val X) 1 = (par (val X) : Int) from rfl]
      go_wp2_with fail
      refine (evalN (pv Pa kp) 0).mono ?_
      rintro e w' ⟨rfl, rfl⟩
      rw [show evN (val X) 0 = bitN (val X) 0 from rfl]
      go_wp2_with fail
      refine (rBitV (pv Pp kp) 0 (by decide)).mono ?_
      rintro e w' ⟨rfl, rfl⟩
      go_wp2_with fail
      refine (evalN (pv Pa kp) i2).mono ?_
      rintro e w' ⟨rfl, rfl⟩
      go_wp2_with fail
      refine (evalN (pv Pa kp) (i2 % 2)).mono ?_
      rintro e w' ⟨rfl, rfl⟩
      rw [evN_mod]
      clear em
      go_wp2_with fail
      refine (sameV (pv Pa kp) (pv Pb kq)).mono ?_
      rintro e w' ⟨rfl, rfl⟩
      go_wp2_with fail
      refine (raddV 40 (pv Pp kp) (polV_nil w15) (by decide) (by decide) (by decide)).mono ?_
      rintro e w16 ⟨a_up, n_up, c_up, rfl, h, b⟩
      replace Pp := Pp.below b
      replace Pq := Pq.below b
      replace Pa := Pa.below b
      replace Pb := Pb.below b
      replace E1 := E1.below b
      replace E2 := E2.below b
      replace B := B.trans (b.mono B.size)
      have Nup := h
      clear h b
      go_wp2_with fail
      refine (raddV 40 (pv Pq kq) (polV_nil w16) (by decide) (by decide) (by decide)).mono ?_
      rintro e w17 ⟨a_uq, n_uq, c_uq, rfl, h, b⟩
      replace Pp := Pp.below b
      replace Pq := Pq.below b
      replace Pa := Pa.below b
      replace Pb := Pb.below b
      replace Nup := Nup.since b
      replace E1 := E1.below b
      replace E2 := E2.below b
      replace B := B.trans (b.mono B.size)
      have Nuq := h
      clear h b
      rw [Nat.xor_zero] at Nup Nuq
      go_wp2_with fail
      refine (sameNV Nup Nuq).mono ?_
      rintro e w' ⟨rfl, rfl⟩
      generalize decide (val X = val Y) = dd
      clear Nup
      clear Nuq
      go_wp2_with fail
      refine (sameXV Pa Pp).mono ?_
      rintro e w' ⟨rfl, rfl⟩
      go_wp2_with fail
      refine (sameXV Pb Pq).mono ?_
      rintro e w' ⟨rfl, rfl⟩
      go_wp2_with fail
      go_ret
      exact ⟨rfl, B⟩
end Go.Proofs.YtcdhjmmkeiomaaaDoor.walkBinSays
