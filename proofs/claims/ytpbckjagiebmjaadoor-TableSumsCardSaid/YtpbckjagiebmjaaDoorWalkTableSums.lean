/- The walk over TableSums. By the verifier of shale. -/
import Derived.Test.YtpbckjagiebmjaaDoorTbTwo
import Derived.Test.YtpbckjagiebmjaaDoorRowTd
import Derived.Test.YtpbckjagiebmjaaDoorLaidTableSums
import Derived.StillTailTactics
import Derived.Test.YtpbckjagiebmjaaDoorSee
import Derived.Lib.QuietBelow
import Derived.Deep.Cut
namespace Go.Proofs.YtpbckjagiebmjaaDoor.walkTableSums
open Go Go.RowKit Tb
set_option linter.unusedVariables false
set_option linter.unusedSimpArgs false
/-- both tables, as they stand. -/
def TU (w : World) (base lb tb mb ob cO : Nat) (kb : Nat → Nat) (tb2 mb2 ob2 cO2 : Nat) (kb2 : Nat → Nat) (kf : Nat → Nat → Int) (m : Int → Option Sl) (cnt nb : Nat) (kf2 : Nat → Nat → Int) (m2 : Int → Option Sl) (cnt2 nb2 : Nat) (W : World) : Prop :=
  TabAt W base tb mb ob 8 8 cO kb kf m cnt nb ∧ TabAt W lb tb2 mb2 ob2 8 8 cO2 kb2 kf2 m2 cnt2 nb2 ∧ Below base w W ∧ base ≤ W.heap.size
theorem TU.below {w W W' : World} {base lb tb mb ob cO : Nat} {kb : Nat → Nat} {tb2 mb2 ob2 cO2 : Nat} {kb2 : Nat → Nat} {kf : Nat → Nat → Int} {m : Int → Option Sl} {cnt nb : Nat} {kf2 : Nat → Nat → Int} {m2 : Int → Option Sl} {cnt2 nb2 : Nat} (h : TU w base lb tb mb ob cO kb tb2 mb2 ob2 cO2 kb2 kf m cnt nb kf2 m2 cnt2 nb2 W) (q : Below W.heap.size W W') : TU w base lb tb mb ob cO kb tb2 mb2 ob2 cO2 kb2 kf m cnt nb kf2 m2 cnt2 nb2 W' :=
  ⟨h.1.below q, h.2.1.below q, h.2.2.1.trans (q.mono h.2.2.2), Nat.le_trans h.2.2.2 q.size⟩
theorem tot_le (kf : Nat → Nat → Int) : ∀ B, totN kf 8 B ≤ 8 * B
  | 0 => Nat.le_refl _
  | B + 1 => by
    have := tot_le kf B
    have := liveN_le (kf B) 8
    unfold totN
    omega
set_option maxRecDepth 100000 in
set_option maxHeartbeats 8000000 in
theorem core (a0 : Option Addr) (n0 c0 : Nat) (D0 : Nat → DoT) (a1 : Option Addr) (n1 c1 : Nat) (D1 : Nat → DoT) (w : World) {yo yn : Addr} (EO : ErrAt w 1 yo) (EN : ErrAt w 2 yn) (R0 : RowTd w a0 n0 D0) (R1 : RowTd w a1 n1 D1) :
    Calls Tryd.prog 4 #[.slice a0 n0 c0, .slice a1 n1 c1] w fun e w' => e = .returned (.bool true) ∧ Below w.heap.size w w' := by
  obtain ⟨base, hbase⟩ : ∃ base, base = w.heap.size := ⟨_, rfl⟩
  have HBS := Lib.hid hbase
  have HE : Hid (∀ W, Below base w W → ErrAt W 1 yo ∧ ErrAt W 2 yn) := fun W b => by rw [hbase] at b; exact ⟨EO.below b, EN.below b⟩
  have HR0 : Hid (∀ W, Below base w W → ∀ i, i < n0 → ∃ bb off, a0 = some ⟨bb, off, none⟩ ∧ DoTAt W bb (off + i * 10) (D0 i)) := fun W b i hi => by
    obtain ⟨bb, off, h1, h2⟩ := R0.2 i hi
    have hk : bb < base := by rw [hbase]; exact World.block_lt_of_cell? w _ h2.1
    have hb := b.block bb hk
    obtain ⟨d0, d1, d2, d3, d4, d5, d6, d7, d8, d9⟩ := h2
    exact ⟨bb, off, h1, (cell_heapT hb).trans d0, (cell_heapT hb).trans d1, (cell_heapT hb).trans d2, (cell_heapT hb).trans d3, (cell_heapT hb).trans d4, (cell_heapT hb).trans d5, (cell_heapT hb).trans d6, (cell_heapT hb).trans d7, (cell_heapT hb).trans d8, (cell_heapT hb).trans d9⟩
  have HR1 : Hid (∀ W, Below base w W → ∀ i, i < n1 → ∃ bb off, a1 = some ⟨bb, off, none⟩ ∧ DoTAt W bb (off + i * 10) (D1 i)) := fun W b i hi => by
    obtain ⟨bb, off, h1, h2⟩ := R1.2 i hi
    have hk : bb < base := by rw [hbase]; exact World.block_lt_of_cell? w _ h2.1
    have hb := b.block bb hk
    obtain ⟨d0, d1, d2, d3, d4, d5, d6, d7, d8, d9⟩ := h2
    exact ⟨bb, off, h1, (cell_heapT hb).trans d0, (cell_heapT hb).trans d1, (cell_heapT hb).trans d2, (cell_heapT hb).trans d3, (cell_heapT hb).trans d4, (cell_heapT hb).trans d5, (cell_heapT hb).trans d6, (cell_heapT hb).trans d7, (cell_heapT hb).trans d8, (cell_heapT hb).trans d9⟩
  have B : Below base w w := Below.refl _ _
  have hl0 := R0.1
  have hl1 := R1.1
  rw [← hbase]
  clear EO EN R0 R1 hbase
  go_enter Tryd.func4, Tryd.ntmps4
  go_wp2_with fail
  refine (first20_any w (HE.out _ B).1 (HE.out _ B).2).mono ?_
  rintro e w3 ⟨rfl, b⟩
  replace B := belB HBS.out B b
  clear b
  by_cases hn0 : 100 < n0
  · have t : decide ((100 : Int) < (n0 : Int)) = true := decide_eq_true (by omega)
    have HB := Lib.hid B
    clear B HE HR0 HR1
    go_wp2_with fail
    go_ret
    exact ⟨rfl, HB.out⟩
  by_cases hn1 : 100 < n1
  · have t : decide ((100 : Int) < (n0 : Int)) = false := decide_eq_false (by omega)
    have t1 : decide ((100 : Int) < (n1 : Int)) = true := decide_eq_true (by omega)
    have HB := Lib.hid B
    clear B HE HR0 HR1
    go_wp2_with fail
    go_ret
    exact ⟨rfl, HB.out⟩
  have t : decide ((100 : Int) < (n0 : Int)) = false := decide_eq_false (by omega)
  have t1 : decide ((100 : Int) < (n1 : Int)) = false := decide_eq_false (by omega)
  have HB3 := Lib.hid B
  have HN := Lib.hid (And.intro hn0 hn1)
  clear B hn0 hn1
  go_wp2_with fail
  have HNew : Hid (Calls Tryd.prog 7 #[.int .i64 8, .int .i64 8] w3 (MadeT w3 8 8)) := new_any (B := 8) (P := 8) (by decide) (by decide) (by decide) (by decide) w3
  refine HNew.out.mono ?_
  rintro e w4 ⟨tb, mb, ob, cO, kb, rfl, T0, b4⟩
  have HT0 := Lib.hid (And.intro T0 b4)
  clear T0 b4 HNew
  go_wp2_with fail
  have HNew : Hid (Calls Tryd.prog 7 #[.int .i64 8, .int .i64 8] w4 (MadeT w4 8 8)) := new_any (B := 8) (P := 8) (by decide) (by decide) (by decide) (by decide) w4
  refine HNew.out.mono ?_
  rintro e w5 ⟨tb2, mb2, ob2, cO2, kb2, rfl, U0, b5⟩
  clear HNew
  obtain ⟨lb, hlb⟩ : ∃ lb, lb = w4.heap.size := ⟨_, rfl⟩
  have HS : Hid (TwoT w base lb tb mb ob cO kb tb2 mb2 ob2 cO2 kb2 0 0 w5) := by
    have hs3 : base ≤ w3.heap.size := by rw [HBS.out]; exact HB3.out.size
    have hs4 := HT0.out.2.size
    refine ⟨belB HBS.out (belB HBS.out HB3.out HT0.out.2) b5, (ok_made hs3 HT0.out.1).below b5, ?_, ok_made (by omega) U0, by omega⟩
    obtain ⟨h1, h2, h3, h4⟩ := tab_old HT0.out.1
    rw [hlb]
    exact ⟨h1, h2, h3, h4⟩
  clear U0 b5 HT0 hlb HB3 t t1
  go_upto_region 8 with (fail)
  go_wp2_with fail
  go_loopg [10] n0 (fun gh s10 wx => ∃ i : Nat, gh = n0 - i ∧ i ≤ n0 ∧ s10 = .int .i64 (i : Int) ∧ Hid (TwoT w base lb tb mb ob cO kb tb2 mb2 ob2 cO2 kb2 i 0 wx))
  case atStart => exact ⟨0, rfl, Nat.zero_le _, rfl, HS⟩
  case round =>
    clear HS
    obtain ⟨i, hg, hin, rfl, HX⟩ := hrel
    have HI := Lib.hid hg
    clear hg
    by_cases hlt : i < n0
    · have x1 : (i : Int) < (n0 : Int) := by omega
      have x0 : (0 : Int) ≤ (i : Int) := by omega
      have x60 : (i : Int) < 100 := by have := HN.out; omega
      have HLT := Lib.hid hlt
      have hd := HR0.out wr HX.out.bel i hlt
      obtain ⟨bb, off, rfl, d0, d1, d2, d3, d4, d5, d6, d7, d8, _⟩ := hd
      obtain ⟨d, hd⟩ : ∃ d, d = D0 i := ⟨_, rfl⟩
      rw [← hd] at d0 d1 d2 d3 d4 d5 d6 d7 d8
      clear hd hlt
      go_upto_region 11 with (fail)
      refine wp_region_still_tail 16 (by kernel_rfl) (by kernel_rfl) ?_
      simp only [List.take_succ_cons, List.take_zero, List.drop_succ_cons, List.drop_zero]
      change wpStill _ _ wr.drew (fun a' => wpList _ _ _ _ a' wr.drew) _ _
      have bd : Below wr.heap.size wr wr.drew := (Drawn.mk wr 1).below wr.heap.size
      replace HX := Lib.hid (HX.out.below bd)
      replace d0 := (cell_heapT (W := wr.drew) (i := off + i * 10) (show wr.drew.heap[bb]? = wr.heap[bb]? from rfl)).trans d0
      replace d1 := (cell_heapT (W := wr.drew) (i := off + i * 10 + 1) (show wr.drew.heap[bb]? = wr.heap[bb]? from rfl)).trans d1
      replace d2 := (cell_heapT (W := wr.drew) (i := off + i * 10 + 2) (show wr.drew.heap[bb]? = wr.heap[bb]? from rfl)).trans d2
      replace d3 := (cell_heapT (W := wr.drew) (i := off + i * 10 + 3) (show wr.drew.heap[bb]? = wr.heap[bb]? from rfl)).trans d3
      replace d4 := (cell_heapT (W := wr.drew) (i := off + i * 10 + 4) (show wr.drew.heap[bb]? = wr.heap[bb]? from rfl)).trans d4
      replace d5 := (cell_heapT (W := wr.drew) (i := off + i * 10 + 5) (show wr.drew.heap[bb]? = wr.heap[bb]? from rfl)).trans d5
      replace d6 := (cell_heapT (W := wr.drew) (i := off + i * 10 + 6) (show wr.drew.heap[bb]? = wr.heap[bb]? from rfl)).trans d6
      replace d7 := (cell_heapT (W := wr.drew) (i := off + i * 10 + 7) (show wr.drew.heap[bb]? = wr.heap[bb]? from rfl)).trans d7
      replace d8 := (cell_heapT (W := wr.drew) (i := off + i * 10 + 8) (show wr.drew.heap[bb]? = wr.heap[bb]? from rfl)).trans d8
      generalize wr.drew = w6 at HX d0 d1 d2 d3 d4 d5 d6 d7 d8 ⊢
      clear bd
      iterate 16 still_step
      refine wpStill_nil ?_
      go_wp2_with fail
      refine (HX.out.set1 (by have := HN.out; have := HLT.out; omega) d.key d.b d.p d.m0 d.m1 d.m2 d.m3 d.m4 d.m5 (HE.out _ HX.out.bel).1 (HE.out _ HX.out.bel).2).mono ?_
      rintro e w7 ⟨⟨v, rfl⟩, S7⟩
      have HN1 := Lib.hid S7
      clear S7 d0 d1 d2 d3 d4 d5 d6 d7 d8
      go_wp2_with fail
      go_roundg (n0 - (i + 1))
      case measure => have := HI.out; have := HLT.out; omega
      case rel => exact ⟨i + 1, rfl, HLT.out, by go_num, HN1⟩
    · obtain rfl : n0 = i := by omega
      have HS := HX
      go_wp2_with fail
      go_loopg [11] n1 (fun gh s11 wx => ∃ i : Nat, gh = n1 - i ∧ i ≤ n1 ∧ s11 = .int .i64 (i : Int) ∧ Hid (TwoT w base lb tb mb ob cO kb tb2 mb2 ob2 cO2 kb2 n0 i wx))
      case atStart => exact ⟨0, rfl, Nat.zero_le _, rfl, HS⟩
      case round =>
        clear HS
        obtain ⟨i, hg, hin, rfl, HX⟩ := hrel
        have HI := Lib.hid hg
        clear hg
        by_cases hlt : i < n1
        · have x1 : (i : Int) < (n1 : Int) := by omega
          have x0 : (0 : Int) ≤ (i : Int) := by omega
          have x60 : (i : Int) < 100 := by have := HN.out; omega
          have HLT := Lib.hid hlt
          have hd := HR1.out wr HX.out.bel i hlt
          obtain ⟨bb, off, rfl, d0, d1, d2, d3, d4, d5, d6, d7, d8, _⟩ := hd
          obtain ⟨d, hd⟩ : ∃ d, d = D1 i := ⟨_, rfl⟩
          rw [← hd] at d0 d1 d2 d3 d4 d5 d6 d7 d8
          clear hd hlt
          go_upto_region 15 with (fail)
          refine wp_region_still_tail 16 (by kernel_rfl) (by kernel_rfl) ?_
          simp only [List.take_succ_cons, List.take_zero, List.drop_succ_cons, List.drop_zero]
          change wpStill _ _ wr.drew (fun a' => wpList _ _ _ _ a' wr.drew) _ _
          have bd : Below wr.heap.size wr wr.drew := (Drawn.mk wr 1).below wr.heap.size
          replace HX := Lib.hid (HX.out.below bd)
          replace d0 := (cell_heapT (W := wr.drew) (i := off + i * 10) (show wr.drew.heap[bb]? = wr.heap[bb]? from rfl)).trans d0
          replace d1 := (cell_heapT (W := wr.drew) (i := off + i * 10 + 1) (show wr.drew.heap[bb]? = wr.heap[bb]? from rfl)).trans d1
          replace d2 := (cell_heapT (W := wr.drew) (i := off + i * 10 + 2) (show wr.drew.heap[bb]? = wr.heap[bb]? from rfl)).trans d2
          replace d3 := (cell_heapT (W := wr.drew) (i := off + i * 10 + 3) (show wr.drew.heap[bb]? = wr.heap[bb]? from rfl)).trans d3
          replace d4 := (cell_heapT (W := wr.drew) (i := off + i * 10 + 4) (show wr.drew.heap[bb]? = wr.heap[bb]? from rfl)).trans d4
          replace d5 := (cell_heapT (W := wr.drew) (i := off + i * 10 + 5) (show wr.drew.heap[bb]? = wr.heap[bb]? from rfl)).trans d5
          replace d6 := (cell_heapT (W := wr.drew) (i := off + i * 10 + 6) (show wr.drew.heap[bb]? = wr.heap[bb]? from rfl)).trans d6
          replace d7 := (cell_heapT (W := wr.drew) (i := off + i * 10 + 7) (show wr.drew.heap[bb]? = wr.heap[bb]? from rfl)).trans d7
          replace d8 := (cell_heapT (W := wr.drew) (i := off + i * 10 + 8) (show wr.drew.heap[bb]? = wr.heap[bb]? from rfl)).trans d8
          generalize wr.drew = w6 at HX d0 d1 d2 d3 d4 d5 d6 d7 d8 ⊢
          clear bd
          iterate 16 still_step
          refine wpStill_nil ?_
          go_wp2_with fail
          refine (HX.out.set2 (by have := HN.out; have := HLT.out; omega) d.key d.b d.p d.m0 d.m1 d.m2 d.m3 d.m4 d.m5 (HE.out _ HX.out.bel).1 (HE.out _ HX.out.bel).2).mono ?_
          rintro e w7 ⟨⟨v, rfl⟩, S7⟩
          have HN1 := Lib.hid S7
          clear S7 d0 d1 d2 d3 d4 d5 d6 d7 d8
          go_wp2_with fail
          go_roundg (n1 - (i + 1))
          case measure => have := HI.out; have := HLT.out; omega
          case rel => exact ⟨i + 1, rfl, HLT.out, by go_num, HN1⟩
        · obtain rfl : n1 = i := by omega
          obtain ⟨kf, m, cnt, nb, T, t1, t2, t3⟩ := HX.out.one
          obtain ⟨kf2, m2, cnt2, nb2, U, u1, u2, u3⟩ := HX.out.two
          have HC : Hid (totN kf 8 8 = cnt ∧ cnt ≤ 1000 ∧ cnt2 ≤ 1000) := ⟨t3, by have := HN.out; omega, by have := HN.out; omega⟩
          have HS : Hid (TU w base lb tb mb ob cO kb tb2 mb2 ob2 cO2 kb2 kf m cnt nb kf2 m2 cnt2 nb2 wr) := ⟨T, U, HX.out.bel, HX.out.one.size⟩
          clear T U t1 t2 t3 u1 u2 u3 HX HI
          go_wp2_with fail
          go_loopg [12, 13] 8 (fun gh s12 s13 wx => ∃ b : Nat, gh = 8 - b ∧ b ≤ 8 ∧ s12 = .int .i64 (totN kf 8 b : Int) ∧ s13 = .int .i64 (b : Int) ∧ Hid (TU w base lb tb mb ob cO kb tb2 mb2 ob2 cO2 kb2 kf m cnt nb kf2 m2 cnt2 nb2 wx))
          case atStart => exact ⟨0, rfl, by decide, rfl, rfl, HS⟩
          case round =>
            clear HS
            obtain ⟨b, hg, hin, rfl, rfl, HX⟩ := hrel
            have HI := Lib.hid hg
            clear hg
            by_cases hlt : b < 8
            · have x1 : (b : Int) < 8 := by omega
              have x0 : (0 : Int) ≤ (b : Int) := by omega
              have y1 : totN kf 8 b ≤ 64 := Nat.le_trans (tot_le kf b) (by omega)
              have y2 := liveN_le (kf b) 8
              have HL := Lib.hid (live_any HX.out.1 hlt)
              go_wp2_with fail
              refine HL.out.mono ?_
              rintro e w' ⟨rfl, rfl⟩
              clear HL
              go_wp2_with fail
              go_roundg (8 - (b + 1))
              case measure => have := HI.out; omega
              case rel => exact ⟨b + 1, rfl, hlt, by rw [show totN kf 8 (b + 1) = totN kf 8 b + liveN (kf b) 8 from rfl]; go_num, by go_num, HX⟩
            · obtain rfl : b = 8 := by omega
              rw [HC.out.1]
              clear hlt hin HI
              go_wp2_with fail
              refine (all_any HX.out.1 HC.out.2.1).mono ?_
              intro e w1 h
              obtain ⟨v, L, rfl, r, hL, _, q⟩ := listOf_of h
              obtain ⟨av, cv, rfl, fv, mv⟩ := row_slice9 r
              obtain ⟨Bs, hBs⟩ : ∃ Bs, Bs = wr.heap.size := ⟨_, rfl⟩
              rw [← hBs] at r
              have HL := Lib.hid (And.intro hL (And.intro (list_len HX.out.1 hL) fv))
              have HS : Hid (TU w base lb tb mb ob cO kb tb2 mb2 ob2 cO2 kb2 kf m cnt nb kf2 m2 cnt2 nb2 w1 ∧ w1.ownsRow Bs 47 9 (.slice av L.length cv) L.length (scells L)) := ⟨HX.out.below q, r⟩
              clear h r hL fv q hBs HX
              have hN : L.length ≤ 1000 := by rw [HL.out.2.1]; exact HC.out.2.1
              clear mv
              go_wp2_with fail
              go_loopg [15] L.length (fun gh s15 wx => ∃ i : Nat, gh = L.length - i ∧ i ≤ L.length ∧ s15 = .int .i64 (i : Int) ∧ Hid (TU w base lb tb mb ob cO kb tb2 mb2 ob2 cO2 kb2 kf m cnt nb kf2 m2 cnt2 nb2 wx ∧ wx.ownsRow Bs 47 9 (.slice av L.length cv) L.length (scells L)))
              case atStart => exact ⟨0, rfl, Nat.zero_le _, rfl, HS⟩
              case round =>
                clear HS
                obtain ⟨i, hg, hin, rfl, HX⟩ := hrel
                have HI := Lib.hid hg
                clear hg
                by_cases hlt : i < L.length
                · have x1 : (i : Int) < (L.length : Int) := by omega
                  have x0 : (0 : Int) ≤ (i : Int) := by omega
                  obtain ⟨g, rfl⟩ := HL.out.2.2 (by omega)
                  obtain ⟨p0, p1, p2, _⟩ := row_at HX.out.2 hlt
                  have hmem := get_mem hlt
                  have HST := Lib.hid HL.out.1.strict
                  obtain ⟨x, hx⟩ : ∃ x, x = L[i]! := ⟨_, rfl⟩
                  rw [← hx] at p0 p1 p2 hmem
                  obtain ⟨_, k0, k1, bx, px, sb, sp, hb8, hp8, hk⟩ := HX.out.1.1.here x.k x ((HL.out.1.1 x).1 hmem)
                  rw [sb] at p1
                  rw [sp] at p2
                  have HAt := Lib.hid (at_yes HX.out.1.1 hb8 hp8 (by rw [hk]; omega))
                  rw [hk] at HAt
                  have HXX := Lib.hid (And.intro hx hlt)
                  clear hmem hb8 hp8 hk sb sp hx hlt
                  go_wp2_with fail
                  refine HAt.out.mono ?_
                  rintro e w2 ⟨rfl, b2⟩
                  have HX2 : Hid (TU w base lb tb mb ob cO kb tb2 mb2 ob2 cO2 kb2 kf m cnt nb kf2 m2 cnt2 nb2 w2 ∧ w2.ownsRow Bs 47 9 (.slice (some ⟨g, 0, none⟩) L.length cv) L.length (scells L)) := ⟨HX.out.1.below b2, own_below HX.out.2 b2⟩
                  clear p0 p1 p2 b2 HX HAt
                  obtain ⟨p0, _⟩ := row_at HX2.out.2 HXX.out.2
                  rw [← HXX.out.1] at p0
                  cases i with
                  | zero =>
                    go_wp2_with fail
                    go_roundg (L.length - (0 + 1))
                    case measure => have := HI.out; have := HXX.out.2; omega
                    case rel => exact ⟨0 + 1, rfl, HXX.out.2, by go_num, HX2⟩
                  | succ j =>
                    have hjl : j < L.length := by have := HXX.out.2; omega
                    have hj : ((j + 1 : Nat) : Int) - 1 = (j : Int) := by omega
                    have hj2 : (j : Int) + 1 - 1 = (j : Int) := by omega
                    have z0 : (0 : Int) ≤ (j : Int) := by omega
                    have z1 : (j : Int) < (L.length : Int) := by omega
                    have z2 : (0 : Int) < (j : Int) + 1 := by omega
                    obtain ⟨q0, _⟩ := row_at HX2.out.2 hjl
                    obtain ⟨y, hy⟩ : ∃ y, y = L[j]! := ⟨_, rfl⟩
                    rw [← hy] at q0
                    have hlt2 : y.k < x.k := by
                      rw [hy, HXX.out.1, getElem!_pos L j hjl, getElem!_pos L (j + 1) HXX.out.2]
                      exact List.pairwise_iff_getElem.1 HST.out j (j + 1) hjl HXX.out.2 (Nat.lt_succ_self j)
                    have t4 : decide (x.k ≤ y.k) = false := decide_eq_false (by omega)
                    clear hy hlt2
                    go_wp2_with fail
                    go_roundg (L.length - (j + 1 + 1))
                    case measure => have := HI.out; have := HXX.out.2; omega
                    case rel => exact ⟨j + 1 + 1, rfl, HXX.out.2, by go_num, HX2⟩
                · obtain rfl : L.length = i := by omega
                  clear hin HI
                  obtain ⟨q0, hq0⟩ : ∃ q : Bool, ((L.length : Int) == (cnt2 : Int)) = q := ⟨_, rfl⟩
                  have HQ0 : Hid (decide (L.length = cnt2) = q0) := by
                    show decide (L.length = cnt2) = q0
                    rw [← hq0, Bool.eq_iff_iff]
                    simp only [decide_eq_true_eq, beq_iff_eq]
                    omega
                  go_wp2_with fail
                  refine (len_any HX.out.1.2.1).mono ?_
                  rintro e w' ⟨rfl, rfl⟩
                  have HS := HX
                  clear HX
                  go_wp2_with fail
                  clear hq0
                  go_loopg [18, 19] L.length (fun gh s18 s19 wx => ∃ i : Nat, gh = L.length - i ∧ i ≤ L.length ∧ s18 = .bool (goodN m2 q0 L i) ∧ s19 = .int .i64 (i : Int) ∧ Hid (TU w base lb tb mb ob cO kb tb2 mb2 ob2 cO2 kb2 kf m cnt nb kf2 m2 cnt2 nb2 wx ∧ wx.ownsRow Bs 47 9 (.slice av L.length cv) L.length (scells L)))
                  case atStart => exact ⟨0, rfl, Nat.zero_le _, by rw [goodN_zero], rfl, HS⟩
                  case round =>
                    clear HS
                    obtain ⟨i, hg, hin, rfl, rfl, HX⟩ := hrel
                    have HI := Lib.hid hg
                    clear hg
                    cases hgd : goodN m2 q0 L i with
                    | false =>
                      have HGN : Hid (goodN m2 q0 L L.length = false) := goodN_false hgd hin
                      by_cases hlt : i < L.length
                      · have x1 : (i : Int) < (L.length : Int) := by omega
                        clear hgd
                        have hE : ∀ L' M', ListOf m L' → ListOf m2 M' → M'.length = cnt2 → (∀ j s, m2 j = some s → s.k = j) → eqL L' M' = false := fun L' M' l1 l2 hM hk' => by
                          rw [listOf_one l1 HL.out.1, ← goodN_eq HL.out.1 l2 hk' hM, HQ0.out]
                          exact HGN.out
                        have HS1 : Hid (∀ W, TU w base lb tb mb ob cO kb tb2 mb2 ob2 cO2 kb2 kf m cnt nb kf2 m2 cnt2 nb2 W → Calls Tryd.prog 24 #[.pointer (some ⟨tb, 0, none⟩), .pointer (some ⟨tb2, 0, none⟩)] W fun e w' => e = .returned (.bool false) ∧ Below W.heap.size W w') := fun W h => (same_any h.1 h.2.1 HC.out.2.1 HC.out.2.2).mono fun e w' hh => by
                          obtain ⟨L', M', l1, l2, he, hb⟩ := hh
                          rw [hE L' M' l1 l2 (list_len h.2.1 l2) fun j s hs => (h.2.1.here j s hs).1] at he
                          exact ⟨he, hb⟩
                        have HS2 : Hid (∀ W, TU w base lb tb mb ob cO kb tb2 mb2 ob2 cO2 kb2 kf m cnt nb kf2 m2 cnt2 nb2 W → Calls Tryd.prog 24 #[.pointer (some ⟨tb2, 0, none⟩), .pointer (some ⟨tb, 0, none⟩)] W fun e w' => e = .returned (.bool false) ∧ Below W.heap.size W w') := fun W h => (same_any h.2.1 h.1 HC.out.2.2 HC.out.2.1).mono fun e w' hh => by
                          obtain ⟨M', L', l2, l1, he, hb⟩ := hh
                          rw [eqL_comm, hE L' M' l1 l2 (list_len h.2.1 l2) fun j s hs => (h.2.1.here j s hs).1] at he
                          exact ⟨he, hb⟩
                        have HS3 : Hid (∀ W, TU w base lb tb mb ob cO kb tb2 mb2 ob2 cO2 kb2 kf m cnt nb kf2 m2 cnt2 nb2 W → Calls Tryd.prog 24 #[.pointer (some ⟨tb, 0, none⟩), .pointer (some ⟨tb, 0, none⟩)] W fun e w' => e = .returned (.bool true) ∧ Below W.heap.size W w') := fun W h => (same_any h.1 h.1 HC.out.2.1 HC.out.2.1).mono fun e w' hh => by
                          obtain ⟨L', M', l1, l2, he, hb⟩ := hh
                          rw [listOf_one l1 l2, eqL_self] at he
                          exact ⟨he, hb⟩
                        have HLen := Lib.hid (len_any HX.out.1.1)
                        clear hE
                        go_wp2_with fail
                        refine HLen.out.mono ?_
                        rintro e wL ⟨rfl, rfl⟩
                        go_wp2_with (first
                          | (go_at_call 24; (with_reducible refine Calls.mono (HS1.out _ HX.out.1) ?_); rintro e' wA ⟨rfl, bA⟩; have HA := Lib.hid (HX.out.1.below bA); clear bA)
                          | (go_at_call 24; (with_reducible refine Calls.mono (HS2.out _ HA.out) ?_); rintro e' wB ⟨rfl, bB⟩; have HBB := Lib.hid (HA.out.below bB); clear bB)
                          | (go_at_call 24; (with_reducible refine Calls.mono (HS3.out _ HBB.out) ?_); rintro e' wC ⟨rfl, bC⟩; have HCC := Lib.hid (HBB.out.below bC); clear bC))
                        go_ret
                        exact ⟨rfl, HCC.out.2.2.1⟩
                      · obtain rfl : L.length = i := by omega
                        clear hgd
                        have hE : ∀ L' M', ListOf m L' → ListOf m2 M' → M'.length = cnt2 → (∀ j s, m2 j = some s → s.k = j) → eqL L' M' = false := fun L' M' l1 l2 hM hk' => by
                          rw [listOf_one l1 HL.out.1, ← goodN_eq HL.out.1 l2 hk' hM, HQ0.out]
                          exact HGN.out
                        have HS1 : Hid (∀ W, TU w base lb tb mb ob cO kb tb2 mb2 ob2 cO2 kb2 kf m cnt nb kf2 m2 cnt2 nb2 W → Calls Tryd.prog 24 #[.pointer (some ⟨tb, 0, none⟩), .pointer (some ⟨tb2, 0, none⟩)] W fun e w' => e = .returned (.bool false) ∧ Below W.heap.size W w') := fun W h => (same_any h.1 h.2.1 HC.out.2.1 HC.out.2.2).mono fun e w' hh => by
                          obtain ⟨L', M', l1, l2, he, hb⟩ := hh
                          rw [hE L' M' l1 l2 (list_len h.2.1 l2) fun j s hs => (h.2.1.here j s hs).1] at he
                          exact ⟨he, hb⟩
                        have HS2 : Hid (∀ W, TU w base lb tb mb ob cO kb tb2 mb2 ob2 cO2 kb2 kf m cnt nb kf2 m2 cnt2 nb2 W → Calls Tryd.prog 24 #[.pointer (some ⟨tb2, 0, none⟩), .pointer (some ⟨tb, 0, none⟩)] W fun e w' => e = .returned (.bool false) ∧ Below W.heap.size W w') := fun W h => (same_any h.2.1 h.1 HC.out.2.2 HC.out.2.1).mono fun e w' hh => by
                          obtain ⟨M', L', l2, l1, he, hb⟩ := hh
                          rw [eqL_comm, hE L' M' l1 l2 (list_len h.2.1 l2) fun j s hs => (h.2.1.here j s hs).1] at he
                          exact ⟨he, hb⟩
                        have HS3 : Hid (∀ W, TU w base lb tb mb ob cO kb tb2 mb2 ob2 cO2 kb2 kf m cnt nb kf2 m2 cnt2 nb2 W → Calls Tryd.prog 24 #[.pointer (some ⟨tb, 0, none⟩), .pointer (some ⟨tb, 0, none⟩)] W fun e w' => e = .returned (.bool true) ∧ Below W.heap.size W w') := fun W h => (same_any h.1 h.1 HC.out.2.1 HC.out.2.1).mono fun e w' hh => by
                          obtain ⟨L', M', l1, l2, he, hb⟩ := hh
                          rw [listOf_one l1 l2, eqL_self] at he
                          exact ⟨he, hb⟩
                        have HLen := Lib.hid (len_any HX.out.1.1)
                        clear hE
                        go_wp2_with fail
                        refine HLen.out.mono ?_
                        rintro e wL ⟨rfl, rfl⟩
                        go_wp2_with (first
                          | (go_at_call 24; (with_reducible refine Calls.mono (HS1.out _ HX.out.1) ?_); rintro e' wA ⟨rfl, bA⟩; have HA := Lib.hid (HX.out.1.below bA); clear bA)
                          | (go_at_call 24; (with_reducible refine Calls.mono (HS2.out _ HA.out) ?_); rintro e' wB ⟨rfl, bB⟩; have HBB := Lib.hid (HA.out.below bB); clear bB)
                          | (go_at_call 24; (with_reducible refine Calls.mono (HS3.out _ HBB.out) ?_); rintro e' wC ⟨rfl, bC⟩; have HCC := Lib.hid (HBB.out.below bC); clear bC))
                        go_ret
                        exact ⟨rfl, HCC.out.2.2.1⟩
                    | true =>
                      have HGD := Lib.hid hgd
                      clear hgd
                      by_cases hlt : i < L.length
                      · have x1 : (i : Int) < (L.length : Int) := by omega
                        have x0 : (0 : Int) ≤ (i : Int) := by omega
                        obtain ⟨g, rfl⟩ := HL.out.2.2 (by omega)
                        obtain ⟨p0, _⟩ := row_at HX.out.2 hlt
                        have hmem := get_mem hlt
                        obtain ⟨x, hx⟩ : ∃ x, x = L[i]! := ⟨_, rfl⟩
                        rw [← hx] at p0 hmem
                        obtain ⟨_, k0, k1, _⟩ := HX.out.1.1.here x.k x ((HL.out.1.1 x).1 hmem)
                        have HGet := Lib.hid (get_any HX.out.1.2.1 (wf_key k0 k1))
                        obtain ⟨s, hs⟩ : ∃ s, s = (m2 x.k).getD zSl := ⟨_, rfl⟩
                        obtain ⟨r0, hr⟩ : ∃ r, r = (m2 x.k).isSome := ⟨_, rfl⟩
                        rw [← hs, ← hr] at HGet
                        have HXX := Lib.hid (And.intro hx hlt)
                        have HSR := Lib.hid (And.intro hs hr)
                        clear hmem hx hlt hs hr
                        go_wp2_with fail
                        refine HGet.out.mono ?_
                        rintro e w2 ⟨rfl, b2⟩
                        have HX2 : Hid (TU w base lb tb mb ob cO kb tb2 mb2 ob2 cO2 kb2 kf m cnt nb kf2 m2 cnt2 nb2 w2 ∧ w2.ownsRow Bs 47 9 (.slice (some ⟨g, 0, none⟩) L.length cv) L.length (scells L)) := ⟨HX.out.1.below b2, own_below HX.out.2 b2⟩
                        clear p0 b2 HX HGet
                        go_upto_region 33 with (fail)
                        generalize hw : w2.alloc (.cells #[.int .i64 s.k, .int .i64 s.b, .int .i64 s.p, .int .i64 s.m0, .int .i64 s.m1, .int .i64 s.m2, .int .i64 s.m3, .int .i64 s.m4, .int .i64 s.m5] 47 (0, 0)) = w3
                        obtain ⟨J3, b3⟩ := newSl w2 w3 s hw
                        clear hw
                        obtain ⟨zb, hzb⟩ : ∃ zb, zb = w2.heap.size := ⟨_, rfl⟩
                        rw [← hzb] at J3 ⊢
                        have HB3 := Lib.hid b3
                        clear hzb b3
                        cases r0 with
                        | false =>
                          have hnone : ¬ goodS m2 (L[i]!) := by
                            rintro ⟨t, ht, _⟩
                            have := HSR.out.2
                            rw [HXX.out.1, ht] at this
                            cases this
                          have HIF : Hid ((false : Bool) = true ↔ goodS m2 (L[i]!)) := ⟨fun h => (nomatch h), fun h => absurd h hnone⟩
                          clear hnone J3
                          go_quiet (fail)
                          have b5 : Below w3.heap.size w3 (w3.drewN nq) := (Drawn.mk w3 nq).below w3.heap.size
                          generalize w3.drewN nq = wS at b5 ⊢
                          have HX5 : Hid (TU w base lb tb mb ob cO kb tb2 mb2 ob2 cO2 kb2 kf m cnt nb kf2 m2 cnt2 nb2 wS ∧ wS.ownsRow Bs 47 9 (.slice (some ⟨g, 0, none⟩) L.length cv) L.length (scells L)) := ⟨(HX2.out.1.below HB3.out).below b5, own_below (own_below HX2.out.2 HB3.out) b5⟩
                          have HR : Hid (goodN m2 q0 L (i + 1) = false) := goodN_step HGD.out (r := false) HIF.out
                          clear b5
                          go_wp2_with fail
                          go_roundg (L.length - (i + 1))
                          case measure => have := HI.out; have := HXX.out.2; omega
                          case rel => exact ⟨i + 1, rfl, HXX.out.2, by rw [HR.out], by go_num, HX5⟩
                        | true =>
                          obtain ⟨p0, p1, p2, p3, p4, p5, p6, p7, p8⟩ := row_at HX2.out.2 HXX.out.2
                          rw [← HXX.out.1] at p0 p1 p2 p3 p4 p5 p6 p7 p8
                          have hg := World.block_lt_of_cell? w2 _ p0
                          have hb3 := HB3.out.block g hg
                          obtain ⟨_, z1, z2, z3, _, z5, _⟩ := sl_cells9 (s := s) J3
                          replace p1 := (cell_heapT hb3).trans p1
                          replace p2 := (cell_heapT hb3).trans p2
                          replace p3 := (cell_heapT hb3).trans p3
                          replace p5 := (cell_heapT hb3).trans p5
                          replace z1 := cell_regrown z1
                          replace z2 := cell_regrown z2
                          replace z3 := cell_regrown z3
                          replace z5 := cell_regrown z5
                          replace p1 := cell_regrown p1
                          replace p2 := cell_regrown p2
                          replace p3 := cell_regrown p3
                          replace p5 := cell_regrown p5
                          have hm : m2 x.k = some s := by
                            have h1 := HSR.out.1
                            have h2 := HSR.out.2
                            cases hq : m2 x.k with
                            | none => rw [hq] at h2; cases h2
                            | some t => rw [hq] at h1; rw [h1]; rfl
                          have hIff : Hid (likeS s x = true ↔ goodS m2 (L[i]!)) := by
                            rw [← HXX.out.1]
                            exact ⟨fun h => ⟨s, hm, h⟩, fun ⟨t, ht, h⟩ => by rw [hm] at ht; cases ht; exact h⟩
                          obtain ⟨cP, hP⟩ : ∃ c, (s.b == x.b && s.p == x.p) = c := ⟨_, rfl⟩
                          obtain ⟨c2, h2⟩ : ∃ c, (s.m2 == x.m2) = c := ⟨_, rfl⟩
                          obtain ⟨c3, h3⟩ : ∃ c, (s.m0 == x.m0) = c := ⟨_, rfl⟩
                          have HSP : Hid (∀ q os, Calls Tryd.prog 12 #[.agg #[.int .i64 s.b, .int .i64 s.p], .agg #[.int .i64 x.b, .int .i64 x.p]] (Sort.grow (redrawn w3 q) os) fun x w'' => x = .returned (.bool cP) ∧ ∃ p : Regrown, w'' = Sort.grow (redrawn w3 p.d) p.os) := fun q os => Calls.regrown_of (by
                            have h := samePlace_any s.b s.p x.b x.p (Sort.grow (redrawn w3 q) os)
                            rw [show (decide (s.b = x.b) && decide (s.p = x.p)) = cP from hP] at h
                            exact h)
                          have HLK : Hid (likeS s x = (cP && c2 && c3)) := by
                            show likeS s x = _
                            unfold likeS
                            rw [hP, h2, h3]
                          clear hP hm hg hb3 p0 p4 p6 p7 p8 J3
                          cases cP with
                          | false =>
                            refine wp_region_quiet_below (by kernel_rfl) (by kernel_rfl) ?_
                            repeat (go_big_quiet_step (first | (go_at_call 12; with_reducible exact HSP.out _ _)))
                            refine wpQuiet_nil ?_
                            intro _ hw'
                            obtain ⟨⟨dq, osq⟩, hw''⟩ := hw'
                            subst hw''
                            have b5 := below_regrown w3 dq osq
                            generalize Sort.grow (redrawn w3 dq) osq = wS at b5 ⊢
                            have HIF : Hid ((false : Bool) = true ↔ goodS m2 (L[i]!)) := by rw [← hIff.out, HLK.out]; exact Iff.rfl
                            have HX5 : Hid (TU w base lb tb mb ob cO kb tb2 mb2 ob2 cO2 kb2 kf m cnt nb kf2 m2 cnt2 nb2 wS ∧ wS.ownsRow Bs 47 9 (.slice (some ⟨g, 0, none⟩) L.length cv) L.length (scells L)) := ⟨(HX2.out.1.below HB3.out).below b5, own_below (own_below HX2.out.2 HB3.out) b5⟩
                            have HR : Hid (goodN m2 q0 L (i + 1) = false) := goodN_step HGD.out (r := false) HIF.out
                            clear b5
                            go_wp2_with fail
                            go_roundg (L.length - (i + 1))
                            case measure => have := HI.out; have := HXX.out.2; omega
                            case rel => exact ⟨i + 1, rfl, HXX.out.2, by rw [HR.out], by go_num, HX5⟩
                          | true =>
                            cases c2 with
                            | false =>
                              refine wp_region_quiet_below (by kernel_rfl) (by kernel_rfl) ?_
                              repeat (go_big_quiet_step (first | (go_at_call 12; with_reducible exact HSP.out _ _)))
                              refine wpQuiet_nil ?_
                              intro _ hw'
                              obtain ⟨⟨dq, osq⟩, hw''⟩ := hw'
                              subst hw''
                              have b5 := below_regrown w3 dq osq
                              generalize Sort.grow (redrawn w3 dq) osq = wS at b5 ⊢
                              have HIF : Hid ((false : Bool) = true ↔ goodS m2 (L[i]!)) := by rw [← hIff.out, HLK.out]; exact Iff.rfl
                              have HX5 : Hid (TU w base lb tb mb ob cO kb tb2 mb2 ob2 cO2 kb2 kf m cnt nb kf2 m2 cnt2 nb2 wS ∧ wS.ownsRow Bs 47 9 (.slice (some ⟨g, 0, none⟩) L.length cv) L.length (scells L)) := ⟨(HX2.out.1.below HB3.out).below b5, own_below (own_below HX2.out.2 HB3.out) b5⟩
                              have HR : Hid (goodN m2 q0 L (i + 1) = false) := goodN_step HGD.out (r := false) HIF.out
                              clear b5
                              go_wp2_with fail
                              go_roundg (L.length - (i + 1))
                              case measure => have := HI.out; have := HXX.out.2; omega
                              case rel => exact ⟨i + 1, rfl, HXX.out.2, by rw [HR.out], by go_num, HX5⟩
                            | true =>
                              cases c3 with
                              | false =>
                                refine wp_region_quiet_below (by kernel_rfl) (by kernel_rfl) ?_
                                repeat (go_big_quiet_step (first | (go_at_call 12; with_reducible exact HSP.out _ _)))
                                refine wpQuiet_nil ?_
                                intro _ hw'
                                obtain ⟨⟨dq, osq⟩, hw''⟩ := hw'
                                subst hw''
                                have b5 := below_regrown w3 dq osq
                                generalize Sort.grow (redrawn w3 dq) osq = wS at b5 ⊢
                                have HIF : Hid ((false : Bool) = true ↔ goodS m2 (L[i]!)) := by rw [← hIff.out, HLK.out]; exact Iff.rfl
                                have HX5 : Hid (TU w base lb tb mb ob cO kb tb2 mb2 ob2 cO2 kb2 kf m cnt nb kf2 m2 cnt2 nb2 wS ∧ wS.ownsRow Bs 47 9 (.slice (some ⟨g, 0, none⟩) L.length cv) L.length (scells L)) := ⟨(HX2.out.1.below HB3.out).below b5, own_below (own_below HX2.out.2 HB3.out) b5⟩
                                have HR : Hid (goodN m2 q0 L (i + 1) = false) := goodN_step HGD.out (r := false) HIF.out
                                clear b5
                                go_wp2_with fail
                                go_roundg (L.length - (i + 1))
                                case measure => have := HI.out; have := HXX.out.2; omega
                                case rel => exact ⟨i + 1, rfl, HXX.out.2, by rw [HR.out], by go_num, HX5⟩
                              | true =>
                                refine wp_region_quiet_below (by kernel_rfl) (by kernel_rfl) ?_
                                repeat (go_big_quiet_step (first | (go_at_call 12; with_reducible exact HSP.out _ _)))
                                refine wpQuiet_nil ?_
                                intro _ hw'
                                obtain ⟨⟨dq, osq⟩, hw''⟩ := hw'
                                subst hw''
                                have b5 := below_regrown w3 dq osq
                                generalize Sort.grow (redrawn w3 dq) osq = wS at b5 ⊢
                                have HIF : Hid ((true : Bool) = true ↔ goodS m2 (L[i]!)) := by rw [← hIff.out, HLK.out]; exact Iff.rfl
                                have HX5 : Hid (TU w base lb tb mb ob cO kb tb2 mb2 ob2 cO2 kb2 kf m cnt nb kf2 m2 cnt2 nb2 wS ∧ wS.ownsRow Bs 47 9 (.slice (some ⟨g, 0, none⟩) L.length cv) L.length (scells L)) := ⟨(HX2.out.1.below HB3.out).below b5, own_below (own_below HX2.out.2 HB3.out) b5⟩
                                have HR : Hid (goodN m2 q0 L (i + 1) = true) := goodN_step HGD.out (r := true) HIF.out
                                clear b5
                                go_wp2_with fail
                                go_roundg (L.length - (i + 1))
                                case measure => have := HI.out; have := HXX.out.2; omega
                                case rel => exact ⟨i + 1, rfl, HXX.out.2, by rw [HR.out], by go_num, HX5⟩
                      · obtain rfl : L.length = i := by omega
                        have HGN := HGD
                        have hE : ∀ L' M', ListOf m L' → ListOf m2 M' → M'.length = cnt2 → (∀ j s, m2 j = some s → s.k = j) → eqL L' M' = true := fun L' M' l1 l2 hM hk' => by
                          rw [listOf_one l1 HL.out.1, ← goodN_eq HL.out.1 l2 hk' hM, HQ0.out]
                          exact HGN.out
                        have HS1 : Hid (∀ W, TU w base lb tb mb ob cO kb tb2 mb2 ob2 cO2 kb2 kf m cnt nb kf2 m2 cnt2 nb2 W → Calls Tryd.prog 24 #[.pointer (some ⟨tb, 0, none⟩), .pointer (some ⟨tb2, 0, none⟩)] W fun e w' => e = .returned (.bool true) ∧ Below W.heap.size W w') := fun W h => (same_any h.1 h.2.1 HC.out.2.1 HC.out.2.2).mono fun e w' hh => by
                          obtain ⟨L', M', l1, l2, he, hb⟩ := hh
                          rw [hE L' M' l1 l2 (list_len h.2.1 l2) fun j s hs => (h.2.1.here j s hs).1] at he
                          exact ⟨he, hb⟩
                        have HS2 : Hid (∀ W, TU w base lb tb mb ob cO kb tb2 mb2 ob2 cO2 kb2 kf m cnt nb kf2 m2 cnt2 nb2 W → Calls Tryd.prog 24 #[.pointer (some ⟨tb2, 0, none⟩), .pointer (some ⟨tb, 0, none⟩)] W fun e w' => e = .returned (.bool true) ∧ Below W.heap.size W w') := fun W h => (same_any h.2.1 h.1 HC.out.2.2 HC.out.2.1).mono fun e w' hh => by
                          obtain ⟨M', L', l2, l1, he, hb⟩ := hh
                          rw [eqL_comm, hE L' M' l1 l2 (list_len h.2.1 l2) fun j s hs => (h.2.1.here j s hs).1] at he
                          exact ⟨he, hb⟩
                        have HS3 : Hid (∀ W, TU w base lb tb mb ob cO kb tb2 mb2 ob2 cO2 kb2 kf m cnt nb kf2 m2 cnt2 nb2 W → Calls Tryd.prog 24 #[.pointer (some ⟨tb, 0, none⟩), .pointer (some ⟨tb, 0, none⟩)] W fun e w' => e = .returned (.bool true) ∧ Below W.heap.size W w') := fun W h => (same_any h.1 h.1 HC.out.2.1 HC.out.2.1).mono fun e w' hh => by
                          obtain ⟨L', M', l1, l2, he, hb⟩ := hh
                          rw [listOf_one l1 l2, eqL_self] at he
                          exact ⟨he, hb⟩
                        have HLen := Lib.hid (len_any HX.out.1.1)
                        clear hE
                        go_wp2_with fail
                        refine HLen.out.mono ?_
                        rintro e wL ⟨rfl, rfl⟩
                        go_wp2_with (first
                          | (go_at_call 24; (with_reducible refine Calls.mono (HS1.out _ HX.out.1) ?_); rintro e' wA ⟨rfl, bA⟩; have HA := Lib.hid (HX.out.1.below bA); clear bA)
                          | (go_at_call 24; (with_reducible refine Calls.mono (HS2.out _ HA.out) ?_); rintro e' wB ⟨rfl, bB⟩; have HBB := Lib.hid (HA.out.below bB); clear bB)
                          | (go_at_call 24; (with_reducible refine Calls.mono (HS3.out _ HBB.out) ?_); rintro e' wC ⟨rfl, bC⟩; have HCC := Lib.hid (HBB.out.below bC); clear bC))
                        go_ret
                        exact ⟨rfl, HCC.out.2.2.1⟩
theorem walk (a0 : Option Addr) (len0 cap0 : Nat) (z0 : Nat → DoT) (a1 : Option Addr) (len1 cap1 : Nat) (z1 : Nat → DoT) (W : World) (w0 : RowTd W a0 len0 z0) (w1 : RowTd W a1 len1 z1) (h : LaidTableSums.Holds W) :
    Calls Tryd.prog 4 #[.slice a0 len0 cap0, .slice a1 len1 cap1] W fun e w' => e = .returned (.bool true) ∧ Below W.heap.size W w' := by
  obtain ⟨f, ⟨EN, _, EO⟩, _⟩ := h
  exact core a0 len0 cap0 z0 a1 len1 cap1 z1 W EO EN w0 w1
end Go.Proofs.YtpbckjagiebmjaaDoor.walkTableSums
