/- The walk over BufferKeeps. By the verifier of shale. -/
import Derived.Test.YtabpfadbioalgaaDoorWtKeep
import Derived.Test.YtabpfadbioalgaaDoorRowDo
import Derived.Test.YtabpfadbioalgaaDoorOwn64
import Derived.Test.YtabpfadbioalgaaDoorLaidBufferKeeps
import Derived.Deep.Cut
namespace Go.Proofs.YtabpfadbioalgaaDoor.walkBufferKeeps
open Go Go.RowKit Bin Wt
set_option linter.unusedVariables false
set_option linter.unusedSimpArgs false
theorem and15 (z : Int) : bits .and .i64 z 15 = (((z % 16).toNat : Nat) : Int) := by
  show IntKind.i64.wrap ((BitVec.ofInt 64 z &&& BitVec.ofInt 64 15).toNat : Int) = _
  rw [BitVec.toNat_and, show (BitVec.ofInt 64 15).toNat = 2 ^ 4 - 1 by decide, Nat.and_two_pow_sub_one_eq_mod, BitVec.toNat_ofInt]
  rw [show (((z % ((2 ^ 64 : Nat) : Int)).toNat % 2 ^ 4 : Nat) : Int) = ((z % 16).toNat : Int) by omega]
  exact IntWalk.i64_in _ (by omega)
theorem and127 (i : Nat) (h : i < 128) : bits .and .i64 (i : Int) 127 = (i : Int) := by
  show IntKind.i64.wrap ((BitVec.ofInt 64 (i : Int) &&& BitVec.ofInt 64 127).toNat : Int) = _
  rw [BitVec.toNat_and, show (BitVec.ofInt 64 127).toNat = 2 ^ 7 - 1 by decide, Nat.and_two_pow_sub_one_eq_mod, BitVec.toNat_ofInt]
  rw [show ((((i : Int) % ((2 ^ 64 : Nat) : Int)).toNat % 2 ^ 7 : Nat) : Int) = (i : Int) by omega]
  exact IntWalk.i64_in _ (by omega)
theorem neq_err (a : Addr) (w : World) : (binOp .neq 26 (errOf a) (errOf a)).run Tryd.prog w = .ok (.bool false) w := by
  obtain ⟨i, hi, hc⟩ := Option.map_eq_some_iff.1 compErr
  obtain ⟨j, hj, _⟩ := Option.map_eq_some_iff.1 sizeErr
  simp only [binOp]
  simp [Op.equal, Op.maxDepth, run_equalIn_iface_ptr_same w 9998 a Tryd.underlying26 Tryd.underlying86 hi hc hj, errOf]
theorem cnt_le (f : Nat → Int) (k : Nat) : cntK f k ≤ k := by
  unfold cntK
  have := List.length_filter_le (fun j => decide (f j ≠ 0)) (List.range k)
  rwa [List.length_range] at this
theorem may116 (T : Nat) (h : T < 16) : may 1 ((T : Int) + 1) 16 := ⟨⟨by decide, by decide⟩, ⟨by omega, by omega⟩, ⟨by decide, by decide⟩⟩
set_option maxRecDepth 100000 in
set_option maxHeartbeats 2000000 in
theorem core (x0 : Int) (a : Option Addr) (n c : Nat) (D : Nat → DoV) (w : World) {yf yn ys : Addr} (EF : ErrAt w 1 yf) (EN : ErrAt w 2 yn) (ES : ErrAt w 3 ys) (R : RowDo w a n D) :
    Calls Tryd.prog 4 #[.int .i64 x0, .slice a n c] w fun e w' => e = .returned (.bool true) ∧ Below w.heap.size w w' := by
  obtain ⟨base, hbase⟩ : ∃ base, base = w.heap.size := ⟨_, rfl⟩
  have HBS := Lib.hid hbase
  have HE : Hid (∀ W, Below base w W → ErrAt W 1 yf ∧ ErrAt W 2 yn ∧ ErrAt W 3 ys) := fun W b => by rw [hbase] at b; exact ⟨EF.below b, EN.below b, ES.below b⟩
  have HR : Hid (∀ W, Below base w W → ∀ i, i < n → ∃ kb off, a = some ⟨kb, off, none⟩ ∧ W.cell? ⟨kb, off + i * 4, none⟩ = some (.int .i64 (D i).key) ∧ W.cell? ⟨kb, off + i * 4 + 1, none⟩ = some (.bool (D i).trim)) := fun W b i hi => by
    obtain ⟨kb, off, h1, h2, h3, _⟩ := R i hi
    have hk : kb < base := by rw [hbase]; exact World.block_lt_of_cell? w _ h2
    exact ⟨kb, off, h1, (cell_heap (b.block kb hk)).trans h2, (cell_heap (b.block kb hk)).trans h3⟩
  have B : Below base w w := Below.refl _ _
  obtain ⟨T0, hT0⟩ : ∃ T : Nat, T = (x0 % 16).toNat := ⟨_, rfl⟩
  have hb7 : bits .and .i64 x0 15 = (T0 : Int) := by rw [and15, hT0]
  have hT8 : T0 < 16 := by rw [hT0]; omega
  rw [← hbase]
  clear EF EN ES R hbase hT0
  go_enter Tryd.func4, Tryd.ntmps4
  go_wp2_with fail
  refine (first19_any w (HE.out _ B).1 (HE.out _ B).2.1 (HE.out _ B).2.2).mono ?_
  rintro e w3 ⟨rfl, b⟩
  replace B := belB HBS.out B b
  clear b
  go_wp2_with fail
  refine (new_yes 1 ((T0 : Int) + 1) 16 (may116 T0 hT8) w3).mono ?_
  rintro e w4 ⟨rfl, P, b⟩
  have B0sz : Hid (base ≤ w3.heap.size) := by rw [HBS.out]; exact B.size
  replace B := belB HBS.out B b
  obtain ⟨bb, hbb⟩ : ∃ bb, bb = w3.heap.size := ⟨_, rfl⟩
  have HBO0 : Hid (base ≤ bb) := by have h1 := HBS.out; have h2 := B0sz.out; show base ≤ bb; omega
  rw [← hbb] at P ⊢
  clear b hbb
  by_cases hn : 100 < n
  · have t : decide ((100 : Int) < (n : Int)) = true := decide_eq_true (by omega)
    have HB := Lib.hid B
    clear P B HE HR hn
    go_wp2_with fail
    go_ret
    exact ⟨rfl, HB.out⟩
  · have t : decide ((100 : Int) < (n : Int)) = false := decide_eq_false (by omega)
    have HPP := Lib.hid (And.intro P B)
    clear P B
    have hmk : (Instr.makeSlice 53 (.int .i64 16) (.int .i64 16)).run Tryd.prog w4 = .ok (.slice (some ⟨w4.heap.size, 0, none⟩) 16 16) (w4.alloc (obj64 (List.replicate 16 0))) := made64 w4 16 (by decide)
    have HK0 : Hid (Blk64 (w4.alloc (obj64 (List.replicate 16 0))) w4.heap.size ((List.range 16).map fun _ => 0) ∧ Below w4.heap.size w4 (w4.alloc (obj64 (List.replicate 16 0)))) := ⟨heap_alloc_new w4 _, (Below.refl _ _).alloc (Nat.le_refl _) _⟩
    obtain ⟨O0, hO0⟩ : ∃ O, O = obj64 (List.replicate 16 0) := ⟨_, rfl⟩
    rw [← hO0] at hmk HK0
    clear hO0
    obtain ⟨lb, hlb⟩ : ∃ lb, lb = w4.heap.size := ⟨_, rfl⟩
    have HLB := Lib.hid hlb
    rw [← hlb] at hmk
    clear hlb
    go_wp2_with fail
    clear hmk
    generalize w4.alloc O0 = w5 at HK0 ⊢
    have HS : Hid (KeepS w base bb lb ((T0 : Int) + 1) w5) := by
      have hlb := HLB.out
      have h := HK0.out
      refine ⟨.slice none 0 0, [], fun _ => 0, ⟨HPP.out.1.below h.2, KeepL.nil, by simp; omega, by rw [hlb]; exact HPP.out.1.lt, by unfold blks; simp [Value.ownBlock]; rw [hlb]; have := HPP.out.1.lt; omega, fun e h => by cases h⟩, by rw [hlb]; exact h.1, belB HBS.out HPP.out.2 h.2⟩
    have HBO : Hid (base ≤ bb) := HBO0.out
    have HLO : Hid (base ≤ lb) := by have h1 := HBO0.out; have h2 := HPP.out.1.lt; have h3 := HLB.out; show base ≤ lb; omega
    clear HPP HK0 t
    go_loopg [9] n (fun gh s9 wx => ∃ i : Nat, gh = n - i ∧ i ≤ n ∧ s9 = .int .i64 (i : Int) ∧ Hid (KeepS w base bb lb ((T0 : Int) + 1) wx))
    case atStart => exact ⟨0, rfl, Nat.zero_le _, rfl, HS⟩
    case round =>
      clear HS
      obtain ⟨i, hg, hin, rfl, HX⟩ := hrel
      have HI := Lib.hid hg
      clear hg
      by_cases hlt : i < n
      · have x1 : (i : Int) < (n : Int) := by omega
        have x0 : (0 : Int) ≤ (i : Int) := by omega
        obtain ⟨v, L, f, hB, hF, b⟩ := HX.out
        obtain ⟨kb, off, rfl, c0, c1⟩ := HR.out wr b i hlt
        obtain ⟨K0, hK0⟩ : ∃ K : Nat, K = ((D i).key % 16).toNat := ⟨_, rfl⟩
        have hb15 : bits .and .i64 (D i).key 15 = (K0 : Int) := by rw [and15, hK0]
        have hK16 : K0 < 16 := by rw [hK0]; omega
        have hb127 := and127 i (by omega)
        have HBF := Lib.hid (And.intro hB (And.intro hF (And.intro b hK16)))
        clear hB hF b hK0
        cases ht : (D i).trim with
        | true =>
          rw [ht] at c1
          go_wp2_with fail
          refine (drop_any HBF.out.1.buf (by have := HBF.out.1.own.keys.len; omega) (K0 : Int) (by simp; omega) (HE.out wr HBF.out.2.2.1).1).mono ?_
          rintro en wp h
          have hpost := HBF.out.1.last HBF.out.2.1.lt (k := K0) (val := 200) rfl hK16 (.inl ⟨rfl, rfl, rfl⟩) (fun q hq => by cases hq) h
          clear h
          rcases hpost with ⟨rfl, hf0, hLm, hB1, b1⟩ | ⟨rfl, ⟨v1, L1, hB1⟩, b1, hm1⟩
          · have B1 := belB HBS.out HBF.out.2.2.1 b1
            have q0 : wp.cell? ⟨1, 0, none⟩ = some (errOf yf) := (HE.out wp B1).1.1
            have hF1 : Blk64 wp lb ((List.range 16).map f) := (b1.block lb HBF.out.2.1.lt).trans HBF.out.2.1
            have c2 : wp.cell? ⟨lb, K0, none⟩ = some (.int .i64 0) := by
              have h := hF1.cell (i := K0) (by simp; exact hK16)
              rw [map_nth hK16, hf0] at h
              exact h
            have eqf : ∀ W, (binOp .neq 26 (errOf yf) (errOf yf)).run Tryd.prog W = .ok (.bool false) W := fun W => neq_err yf W
            have HL := len_any hB1.buf
            rw [hLm] at HL
            have HLH := Lib.hid HL
            have HN : Hid (KeepS w base bb lb ((T0 : Int) + 1) wp) := ⟨v, L, f, hB1, hF1, B1⟩
            have xk : (0 : Int) ≤ (K0 : Int) := by omega
            have xk2 : (K0 : Int) < 16 := by omega
            clear hf0 hLm hB1 b1 B1 hF1 HL HBF c0 c1
            go_wp2_with (go_at_call 16; (with_reducible refine Calls.mono HLH.out ?_); rintro e' w' ⟨rfl, rfl⟩)
            go_roundg (n - (i + 1))
            case measure => have := HI.out; omega
            case rel => exact ⟨i + 1, rfl, hlt, by go_num, HN⟩
          · have B1 : Below base w wp := HBF.out.2.2.1.trans (b1.mono HBO.out)
            have hF1 : Blk64 wp lb ((List.range 16).map f) := hm1.trans HBF.out.2.1
            have c2 := hF1.cell (i := K0) (by simp; exact hK16)
            have f2 := hF1.free K0
            have HN : Hid (KeepS w base bb lb ((T0 : Int) + 1) (wp.setCell ⟨lb, K0, none⟩ (.int .i64 (200)))) := ⟨v1, L1, _, hB1.set K0 _, by rw [← map_set hK16]; exact hF1.set K0 (200), B1.setCell HLO.out _⟩
            have xk : (0 : Int) ≤ (K0 : Int) := by omega
            have xk2 : (K0 : Int) < 16 := by omega
            clear hB1 b1 B1 hF1 HBF c0 c1 hm1
            go_wp2_with fail
            go_roundg (n - (i + 1))
            case measure => have := HI.out; omega
            case rel => exact ⟨i + 1, rfl, hlt, by go_num, HN⟩
        | false =>
          rw [ht] at c1
          go_wp2_with fail
          generalize hw : wr.alloc (.cells #[.int .u8 ((i : Int) + 1)] 5 (0, 0)) = wb
          have hby : ((i : Int) + 1) = Bits32.b (BitVec.ofNat 8 (i + 1)) := by unfold Bits32.b; rw [BitVec.toNat_ofNat]; omega
          obtain ⟨Dp, bq⟩ := litW wr wb [BitVec.ofNat 8 (i + 1)] (by simp) (by simp [maxLen]) (by rw [← hw, hby]; rfl)
          clear hw
          have hB0 := HBF.out.1.below bq
          have hF0 : Blk64 wb lb ((List.range 16).map f) := (bq.block lb HBF.out.2.1.lt).trans HBF.out.2.1
          have B0 := belB HBS.out HBF.out.2.2.1 bq
          have HBF := Lib.hid (And.intro hB0 (And.intro hF0 (And.intro B0 hK16)))
          refine (put_any (n := 1) hB0.buf (by have := hB0.own.keys.len; omega) (K0 : Int) (by simp; omega) Dp (by decide) (HE.out wb B0).1).mono ?_
          rintro en wp ⟨e, e1, e2, e3, e4, e5, h⟩
          have hpost := HBF.out.1.last HBF.out.2.1.lt (k := K0) (val := (i : Int) + 1) e1 hK16 (.inr ⟨e2, e3, _, e4, hby, by omega, by omega⟩) e5 h
          clear h e1 e2 e3 e4 e5 Dp bq hB0 hF0 B0 hby
          rcases hpost with ⟨rfl, hf0, hLm, hB1, b1⟩ | ⟨rfl, ⟨v1, L1, hB1⟩, b1, hm1⟩
          · have B1 := belB HBS.out HBF.out.2.2.1 b1
            have q0 : wp.cell? ⟨1, 0, none⟩ = some (errOf yf) := (HE.out wp B1).1.1
            have hF1 : Blk64 wp lb ((List.range 16).map f) := (b1.block lb HBF.out.2.1.lt).trans HBF.out.2.1
            have c2 : wp.cell? ⟨lb, K0, none⟩ = some (.int .i64 0) := by
              have h := hF1.cell (i := K0) (by simp; exact hK16)
              rw [map_nth hK16, hf0] at h
              exact h
            have eqf : ∀ W, (binOp .neq 26 (errOf yf) (errOf yf)).run Tryd.prog W = .ok (.bool false) W := fun W => neq_err yf W
            have HL := len_any hB1.buf
            rw [hLm] at HL
            have HLH := Lib.hid HL
            have HN : Hid (KeepS w base bb lb ((T0 : Int) + 1) wp) := ⟨v, L, f, hB1, hF1, B1⟩
            have xk : (0 : Int) ≤ (K0 : Int) := by omega
            have xk2 : (K0 : Int) < 16 := by omega
            clear hf0 hLm hB1 b1 B1 hF1 HL HBF c0 c1
            go_wp2_with (go_at_call 16; (with_reducible refine Calls.mono HLH.out ?_); rintro e' w' ⟨rfl, rfl⟩)
            go_roundg (n - (i + 1))
            case measure => have := HI.out; omega
            case rel => exact ⟨i + 1, rfl, hlt, by go_num, HN⟩
          · have B1 : Below base w wp := HBF.out.2.2.1.trans (b1.mono HBO.out)
            have hF1 : Blk64 wp lb ((List.range 16).map f) := hm1.trans HBF.out.2.1
            have c2 := hF1.cell (i := K0) (by simp; exact hK16)
            have f2 := hF1.free K0
            have HN : Hid (KeepS w base bb lb ((T0 : Int) + 1) (wp.setCell ⟨lb, K0, none⟩ (.int .i64 ((i : Int) + 1)))) := ⟨v1, L1, _, hB1.set K0 _, by rw [← map_set hK16]; exact hF1.set K0 ((i : Int) + 1), B1.setCell HLO.out _⟩
            have xk : (0 : Int) ≤ (K0 : Int) := by omega
            have xk2 : (K0 : Int) < 16 := by omega
            clear hB1 b1 B1 hF1 HBF c0 c1 hm1
            go_wp2_with fail
            go_roundg (n - (i + 1))
            case measure => have := HI.out; omega
            case rel => exact ⟨i + 1, rfl, hlt, by go_num, HN⟩
      · obtain rfl : i = n := by omega
        obtain ⟨v, L, f, hB, hF, b⟩ := HX.out
        have HF0 : Hid (KeepB wr bb lb ((T0 : Int) + 1) f v L ∧ Blk64 wr lb ((List.range 16).map f) ∧ Below base w wr) := ⟨hB, hF, b⟩
        clear hB hF b HX HI HR
        go_wp2_with fail
        go_loopg [13, 14] 16 (fun gh s13 s14 wx => ∃ k : Nat, gh = 16 - k ∧ k ≤ 16 ∧ s13 = .int .i64 (cntK f k : Int) ∧ s14 = .int .i64 (k : Int) ∧ Hid (KeepB wx bb lb ((T0 : Int) + 1) f v L ∧ Blk64 wx lb ((List.range 16).map f) ∧ Below base w wx))
        case atStart => exact ⟨0, rfl, Nat.zero_le _, rfl, rfl, HF0⟩
        case round =>
          clear HF0
          obtain ⟨k, hg, hk, rfl, rfl, HX⟩ := hrel
          have HI := Lib.hid hg
          clear hg
          by_cases hlt : k < 16
          · have x1 : (k : Int) < 16 := by omega
            have x0 : (0 : Int) ≤ (k : Int) := by omega
            by_cases hf0 : f k = 0
            · go_wp2_with fail
              refine (get_none HX.out.1.buf (k : Int) (HX.out.1.own.gone hf0)).mono ?_
              rintro en wp ⟨rfl, b⟩
              go_upto_region 26 with (fail)
              generalize hw : wp.alloc (.cells #[.int .i64 0, .bool false, .slice none 0 0] 35 (0, 0)) = wq
              obtain ⟨hx6, b6⟩ := newE wp wq ⟨0, false, none, 0, 0, []⟩ hw
              clear hw
              have bq := b.trans (b6.mono b.size)
              have hF1 : Blk64 wq lb ((List.range 16).map f) := (bq.block lb HX.out.2.1.lt).trans HX.out.2.1
              have HF1 : Hid (KeepB wq bb lb ((T0 : Int) + 1) f v L ∧ Blk64 wq lb ((List.range 16).map f) ∧ Below base w wq) := ⟨HX.out.1.below bq, hF1, belB HBS.out HX.out.2.2 bq⟩
              have c2 : wq.cell? ⟨lb, k, none⟩ = some (.int .i64 0) := by
                have h := hF1.cell (i := k) (by simp; exact hlt)
                rw [map_nth hlt, hf0] at h
                exact h
              have HCN : Hid (cntK f (k + 1) = cntK f k) := by show _ = _; rw [cntK_succ, if_neg (by simp [hf0])]; rfl
              clear hx6 b6 bq hF1 hf0 b HX
              go_quiet (fail)
              have bD := (Drawn.mk wq nq).below wq.heap.size
              generalize wq.drewN nq = w7 at bD ⊢
              have HF2 : Hid (KeepB w7 bb lb ((T0 : Int) + 1) f v L ∧ Blk64 w7 lb ((List.range 16).map f) ∧ Below base w w7) := ⟨HF1.out.1.below bD, (bD.block lb HF1.out.2.1.lt).trans HF1.out.2.1, belB HBS.out HF1.out.2.2 bD⟩
              clear bD c2 HF1
              go_wp2_with fail
              go_roundg (16 - (k + 1))
              case measure => have := HI.out; omega
              case rel => exact ⟨k + 1, rfl, hlt, by rw [HCN.out], by go_num, HF2⟩
            · go_wp2_with fail
              obtain ⟨ix, d, hat, hd, hdk, hsays⟩ := HX.out.1.own.here hlt hf0
              have hLl := HX.out.1.own.keys.len
              rcases hsays with ⟨ht, hn1, hv⟩ | ⟨ht, hn1, xb, hl, hv, hv1, hv2⟩
              · have hg := get_some HX.out.1.buf (k : Int) hat hd (by omega) (by omega)
                rw [hdk, ht, hn1] at hg
                refine hg.mono ?_
                rintro en wp ⟨a5, c5, rfl, N, b⟩
                go_upto_region 26 with (fail)
                generalize hw : wp.alloc (.cells #[.int .i64 (k : Int), .bool true, .slice a5 0 c5] 35 (0, 0)) = wq
                obtain ⟨hx6, b6⟩ := newE wp wq ⟨(k : Int), true, a5, 0, c5, []⟩ hw
                clear hw
                have bq := b.trans (b6.mono b.size)
                have hF1 : Blk64 wq lb ((List.range 16).map f) := (bq.block lb HX.out.2.1.lt).trans HX.out.2.1
                have HF1 : Hid (KeepB wq bb lb ((T0 : Int) + 1) f v L ∧ Blk64 wq lb ((List.range 16).map f) ∧ Below base w wq) := ⟨HX.out.1.below bq, hF1, belB HBS.out HX.out.2.2 bq⟩
                have c2 : wq.cell? ⟨lb, k, none⟩ = some (.int .i64 (200)) := by
                  have h := hF1.cell (i := k) (by simp; exact hlt)
                  rw [map_nth hlt, hv] at h
                  exact h
                have HCN : Hid (cntK f (k + 1) = cntK f k + 1) := by show _ = _; rw [cntK_succ, if_pos hf0]
                obtain ⟨e0, e1, e2, _⟩ := ent3 hx6
                obtain ⟨xe, hxe⟩ : ∃ xe, xe = wp.heap.size := ⟨_, rfl⟩
                rw [← hxe] at e0 e1 e2 ⊢
                clear hxe
                have hcnt : (cntK f k : Int) ≤ 16 := by have := cnt_le f k; omega
                have hcnt0 : (0 : Int) ≤ (cntK f k : Int) := Int.natCast_nonneg _
                clear hx6 b6 bq hF1 hf0 b HX N hg hat hd hdk ht hn1 hv
                go_quiet (fail)
                have bD := (Drawn.mk wq nq).below wq.heap.size
                generalize wq.drewN nq = w7 at bD ⊢
                have HF2 : Hid (KeepB w7 bb lb ((T0 : Int) + 1) f v L ∧ Blk64 w7 lb ((List.range 16).map f) ∧ Below base w w7) := ⟨HF1.out.1.below bD, (bD.block lb HF1.out.2.1.lt).trans HF1.out.2.1, belB HBS.out HF1.out.2.2 bD⟩
                clear bD c2 HF1
                go_wp2_with fail
                go_roundg (16 - (k + 1))
                case measure => have := HI.out; omega
                case rel => exact ⟨k + 1, rfl, hlt, by rw [HCN.out]; go_num, by go_num, HF2⟩
              · rw [hv] at hv1 hv2
                have hg := get_some HX.out.1.buf (k : Int) hat hd (by omega) (by omega)
                rw [hdk, ht, hn1, hl] at hg
                refine hg.mono ?_
                rintro en wp ⟨a5, c5, rfl, N, b⟩
                obtain ⟨g5, rfl, hg5, hD5⟩ : ∃ g, a5 = some ⟨g, 0, none⟩ ∧ wr.heap.size ≤ g ∧ Buf8 wp g [xb] := by
                  rcases N.own with ⟨_, h0, _⟩ | h
                  · cases h0
                  · exact h
                go_upto_region 26 with (fail)
                generalize hw : wp.alloc (.cells #[.int .i64 (k : Int), .bool false, .slice (some ⟨g5, 0, none⟩) 1 c5] 35 (0, 0)) = wq
                obtain ⟨hx6, b6⟩ := newE wp wq ⟨(k : Int), false, some ⟨g5, 0, none⟩, 1, c5, []⟩ hw
                clear hw
                have bq := b.trans (b6.mono b.size)
                have hF1 : Blk64 wq lb ((List.range 16).map f) := (bq.block lb HX.out.2.1.lt).trans HX.out.2.1
                have HF1 : Hid (KeepB wq bb lb ((T0 : Int) + 1) f v L ∧ Blk64 wq lb ((List.range 16).map f) ∧ Below base w wq) := ⟨HX.out.1.below bq, hF1, belB HBS.out HX.out.2.2 bq⟩
                have c2 : wq.cell? ⟨lb, k, none⟩ = some (.int .i64 (Bits32.b xb)) := by
                  have h := hF1.cell (i := k) (by simp; exact hlt)
                  rw [map_nth hlt, hv] at h
                  exact h
                have HCN : Hid (cntK f (k + 1) = cntK f k + 1) := by show _ = _; rw [cntK_succ, if_pos hf0]
                obtain ⟨e0, e1, e2, _⟩ := ent3 hx6
                obtain ⟨xe, hxe⟩ : ∃ xe, xe = wp.heap.size := ⟨_, rfl⟩
                rw [← hxe] at e0 e1 e2 ⊢
                clear hxe
                have d0 : wq.cell? ⟨g5, 0, none⟩ = some (.int .u8 (Bits32.b xb)) := (hD5.below b6 hD5.lt).cell 0 (by show 0 < 1; omega)
                have hwx : IntKind.i64.wrap (Bits32.b xb) = Bits32.b xb := IntWalk.i64_in _ (by omega)
                have u1 : (Bits32.b xb == 0) = false := by rw [beq_eq_false_iff_ne]; omega
                have u2 : (Bits32.b xb == 200) = false := by rw [beq_eq_false_iff_ne]; omega
                have hcnt : (cntK f k : Int) ≤ 16 := by have := cnt_le f k; omega
                have hcnt0 : (0 : Int) ≤ (cntK f k : Int) := Int.natCast_nonneg _
                clear hx6 b6 bq hF1 hf0 b HX N hg hat hd hdk ht hn1 hl hg5 hD5 hv
                generalize Bits32.b xb = zb at d0 c2 hwx u1 u2 hv1 hv2
                have u5 : (zb == zb) = true := by simp
                have u6 : ¬ zb = 200 := by omega
                have u7 : ¬ zb = 0 := by omega
                have u8 : (zb != 0) = true := by rw [bne, u1]; rfl
                go_quiet (fail)
                have bD := (Drawn.mk wq nq).below wq.heap.size
                generalize wq.drewN nq = w7 at bD ⊢
                have HF2 : Hid (KeepB w7 bb lb ((T0 : Int) + 1) f v L ∧ Blk64 w7 lb ((List.range 16).map f) ∧ Below base w w7) := ⟨HF1.out.1.below bD, (bD.block lb HF1.out.2.1.lt).trans HF1.out.2.1, belB HBS.out HF1.out.2.2 bD⟩
                clear bD c2 HF1
                go_wp2_with fail
                go_roundg (16 - (k + 1))
                case measure => have := HI.out; omega
                case rel => exact ⟨k + 1, rfl, hlt, by rw [HCN.out]; go_num, by go_num, HF2⟩
          · obtain rfl : k = 16 := by omega
            rw [HX.out.1.own.count]
            have hm := HX.out.1.most
            go_wp2_with fail
            refine (len_any HX.out.1.buf).mono ?_
            rintro e w' ⟨rfl, rfl⟩
            have t3 : decide ((L.length : Int) ≤ (T0 : Int) + 1) = true := decide_eq_true hm
            have HFU := full_any HX.out.1.buf
            by_cases hq : (L.length : Int) = (T0 : Int) + 1
            · rw [show decide ((T0 : Int) + 1 ≤ (L.length : Int)) = true from decide_eq_true (by omega)] at HFU
              have q1 : ((L.length : Int) == (T0 : Int) + 1) = true := by simp [hq]
              have HFH := Lib.hid (And.intro HFU HX.out.2.2)
              clear HFU HX hq hm
              go_wp2_with (go_at_call 17; (with_reducible refine Calls.mono HFH.out.1 ?_); rintro e' w' ⟨rfl, dd⟩)
              go_ret
              exact ⟨rfl, belB HBS.out HFH.out.2 (dd.below _)⟩
            · rw [show decide ((T0 : Int) + 1 ≤ (L.length : Int)) = false from decide_eq_false (by omega)] at HFU
              have q1 : ((L.length : Int) == (T0 : Int) + 1) = false := by simp [hq]
              have HFH := Lib.hid (And.intro HFU HX.out.2.2)
              clear HFU HX hq hm
              go_wp2_with (go_at_call 17; (with_reducible refine Calls.mono HFH.out.1 ?_); rintro e' w' ⟨rfl, dd⟩)
              go_ret
              exact ⟨rfl, belB HBS.out HFH.out.2 (dd.below _)⟩
theorem walk (a0 : Int) (a1 : Option Addr) (len1 cap1 : Nat) (z1 : Nat → DoV) (W : World) (w0 : (Lit.int .i64 a0).wf = true) (w1 : RowDo W a1 len1 z1) (h : LaidBufferKeeps.Holds W) :
    Calls Tryd.prog 4 #[.int .i64 a0, .slice a1 len1 cap1] W fun e w' => e = .returned (.bool true) ∧ Below W.heap.size W w' := by
  obtain ⟨f, ⟨EN, _, EF, ES⟩, _⟩ := h
  exact core a0 a1 len1 cap1 z1 W EF EN ES w1
end Go.Proofs.YtabpfadbioalgaaDoor.walkBufferKeeps
