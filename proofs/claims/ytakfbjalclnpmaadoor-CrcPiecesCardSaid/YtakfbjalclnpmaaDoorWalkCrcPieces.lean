/- The walk over CrcPieces. By the verifier of shale. -/
import Derived.Test.YtakfbjalclnpmaaDoorCrcFirst
import Derived.Test.YtakfbjalclnpmaaDoorRow
import Derived.Deep.RegionHeld3
import Derived.Deep.Cut
import Derived.Deep.DeepCutAuto
namespace Go.Proofs.YtakfbjalclnpmaaDoor.walkCrcPieces
open Go Go.RowKit Crc
set_option linter.unusedVariables false
theorem st_take_take (l : List (BitVec 8)) (c k : Nat) : st (st ones (l.take c)) ((l.drop c).take k) = st ones (l.take (c + k)) := by
  rw [← st_append, List.take_add]
set_option maxRecDepth 100000 in
set_option maxHeartbeats 16000000 in
theorem pieces_some (bb off cap n : Nat) (l : List (BitVec 8)) (pm : Option Addr) (ml mc : Nat) (w : World) (ht : Tab w) (hr : Row8 w bb off l) (hb : bb < w.heap.size) (hl : n = l.length) (h0 : 0 < n) (hn : n ≤ 4000) (hc : n ≤ cap) (hml : ml ≤ 100)
    (hmo : Hid (∀ j, j < ml → ∃ mb mo z, pm = some ⟨mb, mo, none⟩ ∧ w.cell? ⟨mb, mo + j, none⟩ = some (.int .i64 z) ∧ mb < w.heap.size)) :
    Calls Tryd.prog 3 #[.slice (some ⟨bb, off, none⟩) n cap, .slice pm ml mc] w fun e w' => e = .returned (.bool true) ∧ Below w.heap.size w w' := by
  have t1 : decide ((4000 : Int) < (n : Int)) = false := by simp; omega
  have t3 : decide ((100 : Int) < (ml : Int)) = false := by simp; omega
  have hm : n ≤ maxLen := by unfold maxLen; omega
  have r3 : Arg8 w (.slice (some ⟨bb, off, none⟩) n cap) l := Arg8.whole hr hb hl hm
  have HL := Lib.hid hl
  clear hl
  go_enter Tryd.func3, Tryd.ntmps3
  go_wp2_with fail
  refine (first_any w ht).mono ?_
  rintro e w1 ⟨rfl, b1⟩
  go_wp2_with fail
  refine (new_any w1).mono ?_
  rintro e w2 ⟨rfl, hs, b2⟩
  go_wp2_with fail
  have ht1 := ht.below b1 ht.lt
  have hh : Held w w1.heap.size ones w2 := ⟨b1.trans (b2.mono b1.size), hs⟩
  have HZ : Hid (w.heap.size ≤ w1.heap.size) := b1.size
  clear b2 hs
  go_loopg [7, 8] ml (fun g s7 s8 wx => ∃ c i : Nat, i ≤ ml ∧ g = ml - i ∧ c ≤ n ∧ s8 = .int .i64 (i : Int) ∧ s7 = .int .i64 (c : Int) ∧ Held w w1.heap.size (st ones (l.take c)) wx)
  case atStart => exact ⟨0, 0, Nat.zero_le _, rfl, Nat.zero_le _, rfl, rfl, hh⟩
  case round =>
    obtain ⟨c, i, hi, hg, hcn, rfl, rfl, hd⟩ := hrel
    have HG := Lib.hid hg
    clear hg hh
    by_cases hlt : i < ml
    · obtain ⟨mb, mo, z, rfl, hz, hmb⟩ := hmo.out i hlt
      replace hz : wr.cell? ⟨mb, mo + i, none⟩ = some (.int .i64 z) := (hd.1.cell (p := ⟨mb, mo + i, none⟩) hmb).trans hz
      have j1 : (0 : Int) ≤ (i : Int) := by omega
      have j2 : (i : Int) < (ml : Int) := by omega
      obtain ⟨q, hq, hqe⟩ := Bits32.and127 z
      obtain ⟨r, hr1, hr2⟩ : ∃ r : Nat, c + r = n ∧ (n : Int) - (c : Int) = (r : Int) := ⟨n - c, by omega, by omega⟩
      have HR1 := Lib.hid hr1
      obtain ⟨k, hk⟩ : ∃ k : Nat, (k = q ∧ k ≤ r) ∨ (k = r ∧ k < q) := by
        by_cases h : q ≤ r
        · exact ⟨q, Or.inl ⟨rfl, h⟩⟩
        · exact ⟨r, Or.inr ⟨rfl, by omega⟩⟩
      have hk2 : k ≤ r := by omega
      obtain ⟨d, hd1, hd2⟩ : ∃ d : Nat, d = c + k ∧ (c : Int) + (k : Int) = (d : Int) := ⟨c + k, rfl, by omega⟩
      have HD1 := Lib.hid hd1
      have f1 : d ≤ n := by omega
      have f2 : c ≤ d := by omega
      have f3 : (c : Int) ≤ (d : Int) := by omega
      have f4 : (d : Int) ≤ (cap : Int) := by omega
      have f5 : (0 : Int) ≤ (c : Int) := by omega
      have f6 : (d : Int) ≤ (n : Int) := by omega
      have f7 : k ≤ n := by omega
      have f8 : c ≤ n := by omega
      clear hr1 hd1
      have HS : Hid (st (st ones (l.take c)) ((l.drop c).take k) = st ones (l.take d)) := by
        have := HD1.out
        show _ = _
        rw [this]; exact st_take_take l c k
      rcases hk with ⟨rfl, hk⟩ | ⟨rfl, hk⟩
      all_goals
        go_upto_if 46 with (fail)
        go_cut [] (fun wx => Held w w1.heap.size (st ones (l.take d)) wx)
        case first =>
          by_cases hp : i % 2 = 0
          · have te : ((i : Int) % 2 == 0) = true := by rw [beq_iff_eq]; omega
            have HP := Lib.hid hp
            clear hp
            by_cases hq : c < cap
            · have r1 : Arg8 w (.slice (some ⟨bb, off + c, none⟩) (d - c) (cap - c)) ((l.drop c).take k) := by
                have := HD1.out
                have h2 : d - c = k := by omega
                rw [h2]
                have := HL.out
                exact Arg8.take (hr.drop c) hb (by simp; omega) (by simp; omega)
              go_wp2_with fail
              refine (write_held ht r1 HZ.out hd).mono ?_
              rintro e w5 ⟨rfl, h5⟩
              go_wp2
              go_meet
              case rel => rw [HS.out] at h5; exact h5
            · have ec : cap = c := by omega
              have ek : k = 0 := by have := HR1.out; omega
              have r1 : Arg8 w (.slice (some ⟨bb, off, none⟩) 0 0) ((l.drop c).take k) := by
                rw [ek, List.take_zero]; exact Arg8.nil _ _ _
              have ed : d = c := by have := HD1.out; omega
              subst ed
              subst ec
              clear ek
              go_wp2_with fail
              refine (write_held ht r1 HZ.out hd).mono ?_
              rintro e w5 ⟨rfl, h5⟩
              go_wp2
              go_meet
              case rel => rw [HS.out] at h5; exact h5
          · have te : ((i : Int) % 2 == 0) = false := by rw [beq_eq_false_iff_ne]; omega
            rw [te]
            have HP := Lib.hid hp
            clear hp
            obtain ⟨wo, rfl⟩ : ∃ wo : World, wo = wr := ⟨_, rfl⟩
            go_wp2_with fail
            go_loopg [10] k (fun g s10 wx => ∃ j : Nat, j ≤ k ∧ g = k - j ∧ s10 = .int .i64 (j : Int) ∧ Held w w1.heap.size (st ones (l.take (c + j))) wx)
            case atStart => exact ⟨0, Nat.zero_le _, rfl, rfl, hd⟩
            case round =>
              obtain ⟨j, hj, hg2, rfl, hd2⟩ := hrel
              have HG2 := Lib.hid hg2
              clear hg2
              by_cases hjk : j < k
              · have x1 : c + j < n := by have := HD1.out; omega
                have cell := (hd2.1.cell (p := ⟨bb, off + (c + j), none⟩) hb).trans (hr (c + j) (by have := HL.out; omega))
                have x2 : (0 : Int) ≤ (c : Int) + (j : Int) := by omega
                have x3 : (c : Int) + (j : Int) < (n : Int) := by omega
                have HT : Hid (Crc.step (st ones (l.take (c + j))) (nth8 l (c + j)) = st ones (l.take (c + (j + 1)))) := (st_take ones l (c + j) (by have := HL.out; omega)).symm
                go_wp2_with fail
                refine (byte_held (nth8 l (c + j)) ht HZ.out hd2).mono ?_
                rintro e w5 ⟨rfl, h5⟩
                go_wp2
                go_roundg (k - (j + 1))
                case measure => have := HG2.out; omega
                case rel => exact ⟨j + 1, by omega, rfl, by go_num, by rw [HT.out] at h5; exact h5⟩
              · have hd3 : Held w w1.heap.size (st ones (l.take d)) wr := by
                  have h1 := HD1.out
                  have h2 : d = c + j := by omega
                  rw [h2]; exact hd2
                go_wp2
                go_meet
                case rel => exact hd3
        case rest =>
          clear hd
          have hv : Bits32.u (st ones (l.take d) ^^^ ones) = Bits32.u (crc (l.take d)) := rfl
          have r4 : Arg8 w (.slice (some ⟨bb, off, none⟩) d cap) (l.take d) := Arg8.take hr hb (by have := HL.out; omega) (by have := HL.out; omega)
          go_wp2_with fail
          go_region_held3 (fun w' => Held w w1.heap.size (st ones (l.take d)) w') (first | assumption | exact Held.drew (by assumption))
            (first
              | (go_at_call 13; refine Calls.mono (of_held (l := ?_) ht ?_ (by assumption)) ?_; rotate_left; (first | with_reducible exact r4); rintro e w' ⟨rfl, hg⟩)
              | (go_at_call 12; refine Calls.mono (value_held (by assumption)) ?_; rintro e w' ⟨rfl, rfl⟩))
          go_wp2
          go_roundg (ml - (i + 1))
          case measure => have := HG.out; omega
          case rel => exact ⟨d, i + 1, by omega, rfl, by omega, by go_num, by go_num, by assumption⟩
    · by_cases hq : c < cap
      · have r1 : Arg8 w (.slice (some ⟨bb, off + c, none⟩) (n - c) (cap - c)) (l.drop c) := Arg8.drop hr hb (by have := HL.out; omega) (by have := HL.out; omega)
        have HS : Hid (st (st ones (l.take c)) (l.drop c) ^^^ ones = crc l) := by
          show _ = _
          rw [← st_append, List.take_append_drop]; rfl
        have f3 : (c : Int) ≤ (n : Int) := by omega
        have f5 : (0 : Int) ≤ (c : Int) := by omega
        go_wp2_with fail
        refine (write_held ht r1 HZ.out hd).mono ?_
        rintro e w5 ⟨rfl, h5⟩
        go_wp2_with fail
        refine (value_held h5).mono ?_
        rintro e w6 ⟨rfl, rfl⟩
        rw [HS.out]
        go_wp2_with fail
        refine (of_held ht r3 h5).mono ?_
        rintro e w7 ⟨rfl, h7⟩
        go_wp2
        go_ret
        exact ⟨rfl, h7.1⟩
      · have ec : c = cap := by omega
        have en : c = n := by omega
        subst ec
        subst en
        have r1 : Arg8 w (.slice (some ⟨bb, off, none⟩) 0 0) (l.drop c) := by
          rw [List.drop_of_length_le (by have := HL.out; omega)]; exact Arg8.nil _ _ _
        have HS : Hid (st (st ones (l.take c)) (l.drop c) ^^^ ones = crc l) := by
          show _ = _
          rw [← st_append, List.take_append_drop]; rfl
        have f5 : (0 : Int) ≤ (c : Int) := by omega
        go_wp2_with fail
        refine (write_held ht r1 HZ.out hd).mono ?_
        rintro e w5 ⟨rfl, h5⟩
        go_wp2_with fail
        refine (value_held h5).mono ?_
        rintro e w6 ⟨rfl, rfl⟩
        rw [HS.out]
        go_wp2_with fail
        refine (of_held ht r3 h5).mono ?_
        rintro e w7 ⟨rfl, h7⟩
        go_wp2
        go_ret
        exact ⟨rfl, h7.1⟩

set_option maxRecDepth 100000 in
set_option maxHeartbeats 1000000 in
theorem pieces_out (p pm : Option Addr) (cap n ml mc : Nat) (w : World) (ht : Tab w) (h : 4000 < n ∨ (n ≤ 4000 ∧ 100 < ml)) :
    Calls Tryd.prog 3 #[.slice p n cap, .slice pm ml mc] w fun e w' => e = .returned (.bool true) ∧ Below w.heap.size w w' := by
  rcases h with h | ⟨h1, h2⟩
  · have t1 : decide ((4000 : Int) < (n : Int)) = true := by simp; omega
    clear h
    go_enter Tryd.func3, Tryd.ntmps3
    go_wp2_with fail
    refine (first_any w ht).mono ?_
    rintro e w1 ⟨rfl, b1⟩
    go_wp2
    go_ret
    exact ⟨rfl, b1⟩
  · have t1 : decide ((4000 : Int) < (n : Int)) = false := by simp; omega
    have t3 : decide ((100 : Int) < (ml : Int)) = true := by simp; omega
    clear h1 h2
    go_enter Tryd.func3, Tryd.ntmps3
    go_wp2_with fail
    refine (first_any w ht).mono ?_
    rintro e w1 ⟨rfl, b1⟩
    go_wp2
    go_ret
    exact ⟨rfl, b1⟩

set_option maxRecDepth 100000 in
set_option maxHeartbeats 16000000 in
/-- no bytes: whatever the cuts, all pieces are of no bytes. -/
theorem pieces_none (p pm : Option Addr) (cap ml mc : Nat) (w : World) (ht : Tab w) (hp : p = none → cap = 0) (hml : ml ≤ 100)
    (hmo : Hid (∀ j, j < ml → ∃ mb mo z, pm = some ⟨mb, mo, none⟩ ∧ w.cell? ⟨mb, mo + j, none⟩ = some (.int .i64 z) ∧ mb < w.heap.size)) :
    Calls Tryd.prog 3 #[.slice p 0 cap, .slice pm ml mc] w fun e w' => e = .returned (.bool true) ∧ Below w.heap.size w w' := by
  have t3 : decide ((100 : Int) < (ml : Int)) = false := by simp; omega
  have hn := fun (a : Option Addr) (c : Nat) => Arg8.nil w a c
  have hv : Bits32.u (st ones [] ^^^ ones) = Bits32.u (crc []) := rfl
  have hv2 : Bits32.u (ones ^^^ ones) = Bits32.u (crc []) := rfl
  have hcase : (p = none ∧ cap = 0) ∨ ∃ a, p = some a := by
    cases p with
    | none => exact Or.inl ⟨rfl, hp rfl⟩
    | some a => exact Or.inr ⟨a, rfl⟩
  clear hp
  rcases hcase with ⟨rfl, rfl⟩ | ⟨pa, rfl⟩
  all_goals
    go_enter Tryd.func3, Tryd.ntmps3
    go_wp2_with fail
    refine (first_any w ht).mono ?_
    rintro e w1 ⟨rfl, b1⟩
    go_wp2_with fail
    refine (new_any w1).mono ?_
    rintro e w2 ⟨rfl, hs, b2⟩
    go_wp2_with fail
    have hh : Held w w1.heap.size ones w2 := ⟨b1.trans (b2.mono b1.size), hs⟩
    have HZ : Hid (w.heap.size ≤ w1.heap.size) := b1.size
    clear b2 hs
    go_loopg [7, 8] ml (fun g s7 s8 wx => ∃ i : Nat, i ≤ ml ∧ g = ml - i ∧ s8 = .int .i64 (i : Int) ∧ s7 = .int .i64 0 ∧ Held w w1.heap.size ones wx)
    case atStart => exact ⟨0, Nat.zero_le _, rfl, rfl, rfl, hh⟩
    case round =>
      obtain ⟨i, hi, hg, rfl, rfl, hd⟩ := hrel
      have HG := Lib.hid hg
      clear hg hh
      by_cases hlt : i < ml
      · obtain ⟨mb, mo, z, rfl, hz, hmb⟩ := hmo.out i hlt
        replace hz : wr.cell? ⟨mb, mo + i, none⟩ = some (.int .i64 z) := (hd.1.cell (p := ⟨mb, mo + i, none⟩) hmb).trans hz
        have j1 : (0 : Int) ≤ (i : Int) := by omega
        have j2 : (i : Int) < (ml : Int) := by omega
        obtain ⟨q, hq, hqe⟩ := Bits32.and127 z
        have hq0 : q = 0 ∨ 0 < q := by omega
        have hpar : ((i : Int) % 2 == 0) = true ∨ ((i : Int) % 2 == 0) = false := by cases ((i : Int) % 2 == 0) <;> simp
        rcases hq0 with rfl | hq0 <;> rcases hpar with hpar | hpar
        all_goals
          go_upto_if 46 with (fail)
          go_cut [] (fun wx => Held w w1.heap.size ones wx)
          case first =>
            go_wp2_with fail
            first
              | (refine (write_held ht (hn _ _) HZ.out hd).mono ?_
                 rintro e w5 ⟨rfl, h5⟩
                 go_wp2
                 go_meet
                 case rel => exact h5)
              | (obtain ⟨wo, rfl⟩ : ∃ wo : World, wo = wr := ⟨_, rfl⟩
                 go_loopg [10] 0 (fun g s10 wx => s10 = .int .i64 0 ∧ Held w w1.heap.size ones wx)
                 case atStart => exact ⟨rfl, hd⟩
                 case round =>
                   obtain ⟨rfl, hd2⟩ := hrel
                   go_wp2
                   go_meet
                   case rel => exact hd2)
          case rest =>
            clear hd
            go_wp2_with fail
            go_region_held3 (fun w' => Held w w1.heap.size ones w') (first | assumption | exact Held.drew (by assumption))
              (first
                | (go_at_call 13; refine Calls.mono (of_held (l := ?_) ht ?_ (by assumption)) ?_; rotate_left; (first | with_reducible exact hn _ _); rintro e w' ⟨rfl, hg⟩)
                | (go_at_call 12; refine Calls.mono (value_held (by assumption)) ?_; rintro e w' ⟨rfl, rfl⟩))
            go_wp2
            go_roundg (ml - (i + 1))
            case measure => have := HG.out; omega
            case rel => exact ⟨i + 1, by omega, rfl, by go_num, rfl, by assumption⟩
      · go_wp2_with fail
        refine (write_held ht (hn _ _) HZ.out hd).mono ?_
        rintro e w5 ⟨rfl, h5⟩
        go_wp2_with fail
        refine (value_held h5).mono ?_
        rintro e w6 ⟨rfl, rfl⟩
        go_wp2_with fail
        refine (of_held ht (hn _ _) h5).mono ?_
        rintro e w7 ⟨rfl, h7⟩
        go_wp2
        go_ret
        exact ⟨rfl, h7.1⟩
theorem walk (a0 : Option Addr) (len0 cap0 : Nat) (z0 : List Int) (a3 : Option Addr) (len3 cap3 : Nat) (z3 : List Int) (w : World) (w0 : IsRow .u8 w a0 len0 cap0 z0) (w3 : IsRow .i64 w a3 len3 cap3 z3) (ht : Tab w) :
    Calls Tryd.prog 3 #[.slice a0 len0 cap0, .slice a3 len3 cap3] w fun e w' => e = .returned (.bool true) ∧ Below w.heap.size w w' := by
  obtain ⟨hm, h⟩ := w0.bytes
  obtain ⟨hm3, hc3, h3⟩ := w3.at
  by_cases h4 : 4000 < len0 ∨ (len0 ≤ 4000 ∧ 100 < len3)
  · exact pieces_out _ _ _ _ _ _ w ht h4
  · have hmo : Hid (∀ j, j < len3 → ∃ mb mo z, a3 = some ⟨mb, mo, none⟩ ∧ w.cell? ⟨mb, mo + j, none⟩ = some (.int .i64 z) ∧ mb < w.heap.size) := by
      intro j hj
      obtain ⟨mb, mo, z, e1, e2, e3, _⟩ := h3 j hj
      exact ⟨mb, mo, z, e1, e2, e3⟩
    rcases h with rfl | ⟨bb, off, l, rfl, hl, hc, hr, hb⟩
    · exact pieces_none _ _ _ _ _ w ht w0.nil_cap (by omega) hmo
    · by_cases h0 : len0 = 0
      · subst h0
        exact pieces_none _ _ _ _ _ w ht (fun h => by cases h) (by omega) hmo
      · exact pieces_some bb off cap0 len0 l a3 len3 cap3 w ht hr hb hl.symm (by omega) (by omega) hc (by omega) hmo
end Go.Proofs.YtakfbjalclnpmaaDoor.walkCrcPieces
