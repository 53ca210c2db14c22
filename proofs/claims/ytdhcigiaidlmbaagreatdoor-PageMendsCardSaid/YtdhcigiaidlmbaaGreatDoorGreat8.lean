/- Texts of the verifier of shale, laid into one: PgLay, PgMake, PgMade, DecDist, PgZeros, PgOpen, PgOpenE, PgFirst, PgFit, PgLayNo, PgLaw, PgErase, PgTorn, PgRd, PgWhole, PgOpenA, PgNear, SynAdd, SynPlaces, SynTurn, PgElse. -/
import Derived.Test.YtdhcigiaidlmbaaGreatDoorGreat1
import Derived.Test.YtdhcigiaidlmbaaGreatDoorGreat2
import Derived.Test.YtdhcigiaidlmbaaGreatDoorGreat3
import Derived.Test.YtdhcigiaidlmbaaGreatDoorGreat4
import Derived.Test.YtdhcigiaidlmbaaGreatDoorGreat5
import Derived.Test.YtdhcigiaidlmbaaGreatDoorGreat6
import Derived.Test.YtdhcigiaidlmbaaGreatDoorGreat7
import Derived.Deep.Cut
import Derived.Deep.RegionWith
import Derived.LoopN
import Derived.Deep.DeepCutAuto
import Derived.Laws.CopyOwn
import Derived.Lib.QuietBelow
import Derived.Maps.RangeWalk
/- Laying a page. By the verifier of shale. -/
namespace Go.Proofs.YtdhcigiaidlmbaaGreatDoor.Pg
open Go Go.RowKit Bin Pl Cos Enc Syn Loc Sea Dec Crc
set_option linter.unusedVariables false
/-- a codec in block cb: the sector's bytes, the code, the decoder. -/
def pgAt (w : World) (cb sc s db : Nat) : Prop := w.heap[cb]? = some (.cells #[.int .i64 (sc : Int), .pointer (some ⟨s, 0, none⟩), .pointer (some ⟨db, 0, none⟩)] 82 (0, 0))
theorem pgAt.cells {w : World} {cb sc s db : Nat} (h : pgAt w cb sc s db) : w.cell? ⟨cb, 0, none⟩ = some (.int .i64 (sc : Int)) ∧ w.cell? ⟨cb, 1, none⟩ = some (.pointer (some ⟨s, 0, none⟩)) ∧ w.cell? ⟨cb, 2, none⟩ = some (.pointer (some ⟨db, 0, none⟩)) := by
  have e : w.heap[cb]? = _ := h
  refine ⟨?_, ?_, ?_⟩ <;> (unfold World.cell?; simp only; rw [e]; rfl)
theorem pgAt.below {w w' : World} {cb sc s db : Nat} (h : pgAt w cb sc s db) (b : Below w.heap.size w w') : pgAt w' cb sc s db := (b.block cb (lt_of_block h)).trans h
/-- a place in a block of its own. -/
theorem newPl (w W : World) (x y : Int) (h : w.alloc (.cells #[.int .i64 x, .int .i64 y] 43 (0, 0)) = W) : W.heap[w.heap.size]? = some (.cells #[.int .i64 x, .int .i64 y] 43 (0, 0)) ∧ Below w.heap.size w W ∧ W.heap.size = w.heap.size + 1 := by
  subst h
  exact ⟨heap_alloc_new w _, (Below.refl _ _).alloc (Nat.le_refl _) _, by simp⟩
theorem pl_cells {w : World} {b : Nat} {x y : Int} {t : TypeId} (h : w.heap[b]? = some (.cells #[.int .i64 x, .int .i64 y] t (0, 0))) : w.cell? ⟨b, 0, none⟩ = some (.int .i64 x) ∧ w.cell? ⟨b, 1, none⟩ = some (.int .i64 y) := by
  refine ⟨?_, ?_⟩ <;> (unfold World.cell?; simp only; rw [h]; rfl)
theorem newMeta (w W : World) (K : Meta.M6) (h : w.alloc (.cells #[.int .i64 (Meta.fld K 0), .int .i64 (Meta.fld K 1), .int .i64 (Meta.fld K 2), .int .i64 (Meta.fld K 3), .int .i64 (Meta.fld K 4), .int .i64 (Meta.fld K 5)] 45 (0, 0)) = W) : Meta.RecAt W w.heap.size K 45 ∧ Below w.heap.size w W := by
  subst h
  exact ⟨heap_alloc_new w _, (Below.refl _ _).alloc (Nat.le_refl _) _⟩
theorem keepM {w w' : World} {r : Nat} {K : Meta.M6} {t : TypeId} (h : Meta.RecAt w r K t) (b : Below w.heap.size w w') : Meta.RecAt w' r K t := h.below b h.lt
/-- what is appended to a list of one's own. -/
theorem app_own {w w8 w9 : World} {base N : Nat} {v0 v : Value} {a d : List (BitVec 8)} (h32 : 1 ≤ N) (hown : w9.ownsRow base 5 1 v N (cells8 a ++ cells8 d))
    (hgrow : w8.grownBy w9 v0.ownBlock) (hv0 : ∀ k, v0.ownBlock = some k → base ≤ k) (b8 : Below base w w8) (hbs : base ≤ w8.heap.size) :
    ∃ g9 cap9, v = .slice (some ⟨g9, 0, none⟩) N cap9 ∧ Own8 w9 base (.slice (some ⟨g9, 0, none⟩) N cap9) N (a ++ d) ∧ Meta.Buf8 w9 g9 (a ++ d) ∧ N = (a ++ d).length ∧ N ≤ cap9 ∧ cap9 ≤ maxLen ∧ base ≤ g9 ∧ Below base w w9 := by
  have h2 : Own8 w9 base v N (a ++ d) := by unfold Own8; rw [← cells8_append]; exact hown
  obtain ⟨g9, cap9, rfl⟩ : ∃ g9 cap9, v = .slice (some ⟨g9, 0, none⟩) N cap9 := by
    obtain ⟨x, y, e⟩ := ownsRow_succ (k := N - 1) (by rw [show N - 1 + 1 = N by omega]; exact hown)
    exact ⟨x, y, by rw [e, show N - 1 + 1 = N by omega]⟩
  obtain ⟨hb, hl, hc⟩ := Meta.Own8.buf h2
  have hm : cap9 ≤ maxLen := by
    rcases h2.2 with ⟨h0, _⟩ | ⟨g', cap', cur, hv, _, _, _, hm, _⟩
    · cases h0
    · simp only [Value.slice.injEq] at hv
      rw [hv.2.2]; exact hm
  exact ⟨g9, cap9, rfl, h2, hb, hl, hc, hm, (h2.block g9 rfl).1, b8.grown hgrow hbs hv0⟩
theorem buf_pol {w : World} {g n c : Nat} {X : List (BitVec 8)} (h : Meta.Buf8 w g X) (hn : n = X.length) (hc : n ≤ c) (hm : c ≤ maxLen) : Pol w (some ⟨g, 0, none⟩) n c X := ⟨hn, hc, hm, (fun e => by cases e), Or.inr ⟨g, 0, rfl, h.row, h.lt⟩⟩
section
variable {m : Nat} [M : Pl.Mid m]
/-- what laying a page answers. -/
def LayAt (m t : Nat) [M : Pl.Mid m] (sd : BitVec 16) (K : Meta.M6) (d : List (BitVec 8)) (sc : Nat) (w : World) (e : Ending) (w' : World) : Prop :=
  ∃ g c, e = .returned (.tuple #[.slice (some ⟨g, 0, none⟩) (sc + 32 + (pb (deg m t))) c, .nilIface]) ∧ Meta.Buf8 w' g (page m t sd K d) ∧ w.heap.size ≤ g ∧ sc + 32 + (pb (deg m t)) ≤ c ∧ c ≤ maxLen ∧ Below w.heap.size w w'
abbrev sdOf (x y : Int) : BitVec 16 := Scr.start (BitVec.ofInt 16 (Scr.seedOf x y))
set_option maxRecDepth 100000 in
set_option maxHeartbeats 4000000 in
theorem lay_any {t sc cb s db : Nat} (ht1 : 1 ≤ t) (ht40 : t ≤ 40) (hsc1 : 1 ≤ sc) (hsc2 : sc ≤ 2000) {w : World} (PG : pgAt w cb sc s db) (C : CodeAt m t (sc + 32) w s) (T : Tab w) (x y : Int) (K : Meta.M6) (hK : Meta.May K) {a : Option Addr} {ca : Nat} {d : List (BitVec 8)} (hd : Pol w a sc ca d) :
    Calls Tryz.prog 20 #[.pointer (some ⟨cb, 0, none⟩), .agg #[.int .i64 x, .int .i64 y], Meta.metaV K, .slice a sc ca] w (LayAt m t (sdOf x y) K d sc w) := by
  obtain ⟨i0, hi, hz0, hz1, hz2⟩ := info8
  have HI := Lib.hid (And.intro hi (And.intro hz0 (And.intro hz1 hz2)))
  have hD1 := deg_pos M.lo ht1
  have hD5 := deg_560 (m := m) ht40
  have hPd : (pb (deg m t)) = (deg m t + 7) / 8 := rfl
  have hP1 : 1 ≤ (pb (deg m t)) := by omega
  have hP2 : (pb (deg m t)) ≤ 100 := by omega
  have HPd := Lib.hid hPd
  have HC := Lib.hid C
  have HPG := Lib.hid PG
  have HT := Lib.hid T
  have HD := Lib.hid hd
  have HK := Lib.hid hK
  have HL := Lib.hid hd.hlen
  clear PG C T hd hK hi hz0 hz1 hz2 hPd
  go_enter Tryz.func20, Tryz.ntmps20
  go_upto_region 1 with (fail)
  generalize hw : w.alloc (.cells #[.int .i64 x, .int .i64 y] 43 (0, 0)) = w1
  obtain ⟨Q, B, hsz⟩ := newPl w w1 x y hw
  clear hw
  obtain ⟨bp, hbp⟩ : ∃ bp, bp = w.heap.size := ⟨_, rfl⟩
  have HBp := Lib.hid hbp
  rw [← hbp] at Q hsz ⊢
  generalize hw : w1.alloc (.cells #[.int .i64 (Meta.fld K 0), .int .i64 (Meta.fld K 1), .int .i64 (Meta.fld K 2), .int .i64 (Meta.fld K 3), .int .i64 (Meta.fld K 4), .int .i64 (Meta.fld K 5)] 45 (0, 0)) = w2
  obtain ⟨R, b⟩ := newMeta w1 w2 K hw
  clear hw hbp
  obtain ⟨bm, hbm⟩ : ∃ bm, bm = bp + 1 := ⟨_, rfl⟩
  rw [hsz, ← hbm] at R
  rw [← hbm]
  replace Q := (b.block bp (lt_of_block Q)).trans Q
  replace B := B.trans (b.mono B.size)
  clear b hsz hbm
  obtain ⟨k0, k1, k2⟩ := (HPG.out.below B).cells
  have f0 := R.cell 0 (by omega)
  have f1 := R.cell 1 (by omega)
  have f2 := R.cell 2 (by omega)
  have f3 := R.cell 3 (by omega)
  have f4 := R.cell 4 (by omega)
  have f5 := R.cell 5 (by omega)
  have HR := Lib.hid R
  have HQ := Lib.hid Q
  clear R Q
  have hdl : d.length ≤ maxLen := by rw [← HL.out]; unfold maxLen; omega
  have HDL := Lib.hid hdl
  clear hdl
  go_wp2_with fail
  refine (Meta.bytes_yes K HK.out d _ w2 (HT.out.below B HT.out.lt) ⟨pol_bytes (HD.out.below B), HDL.out⟩).mono ?_
  rintro e w3 ⟨g1, rfl, Z1, hg1, b⟩
  have B3 := B.trans (b.mono B.size)
  obtain ⟨p0, p1⟩ := pl_cells ((b.block bp (lt_of_block HQ.out)).trans HQ.out)
  clear b f0 f1 f2 f3 f4 f5 k0 k1 k2 B hg1
  go_wp2_with fail
  refine (Scr.seed_any x y w3).mono ?_
  rintro e w4 ⟨rfl, b⟩
  replace Z1 := keepZ Z1 b
  have B4 := B3.trans (b.mono B3.size)
  clear b B3 p0 p1
  go_wp2_with fail
  refine (Scr.mix_any (Scr.seedOf x y) d sc ca a w4 HL.out (by omega) (HD.out.below B4).hrow).mono ?_
  rintro e w5 ⟨g2, rfl, Z2, b, hg2⟩
  replace Z1 := keepZ Z1 b
  have hml : (Scr.mixL (sdOf x y) d).length = sc := by rw [Scr.mixL_length]; exact HL.out.symm
  have hown : Own8 w5 w4.heap.size (.slice (some ⟨g2, 0, none⟩) sc sc) sc (Scr.mixL (sdOf x y) d) := Z2.own hg2 hml.symm (by unfold maxLen; omega)
  have hbs := b.size
  have hnews := news8 Z1
  have hv0 : ∀ k, (Value.slice (some ⟨g2, 0, none⟩) sc sc).ownBlock = some k → w4.heap.size ≤ k := fun k hk => by
    simp only [Value.ownBlock, Option.some.injEq] at hk
    omega
  have HVB := Lib.hid (And.intro hv0 (And.intro b B4))
  have hrl := Meta.rec32_length K d
  generalize hB : w4.heap.size = base at hown hbs
  have HBe := Lib.hid hB
  clear b hv0 hg2 Z2 B4 hB hml
  go_wp2_with (at_builtin; refine wpList_append_own _ rfl _ _ 25 rfl base 5 i0 (.int .u8 0) 1 1 Tryz.underlying25 HI.out.1 HI.out.2.1 HI.out.2.2.1 HI.out.2.2.2 rfl (by decide) _ sc _ rfl hown ⟨g1, 0, none⟩ 32 32 (cells8 (Meta.rec32 K d)) rfl (by rw [cells8_length, hrl, Nat.mul_one]) hnews (cells8_one _) (by unfold maxLen; omega) (by omega) hbs ?_; intro v9 w9 hown9 hgrow _; obtain ⟨g9, c9, rfl, O9, F9, hN9, hc9, hm9, hg9, b9⟩ := app_own (by omega) hown9 hgrow (by rw [← HBe.out]; exact HVB.out.1) (by rw [← HBe.out]; exact HVB.out.2.1) hbs; have H9 := Lib.hid (And.intro O9 (And.intro F9 (And.intro hN9 (And.intro hc9 (And.intro hm9 (And.intro hg9 b9)))))); obtain ⟨k0, k1, k2⟩ := (HPG.out.below (HVB.out.2.2.trans (b9.mono (by rw [← HBe.out]; exact HVB.out.2.2.size)))).cells; clear hown9 hgrow O9 F9 hN9 hc9 hm9 hg9 b9 hown hbs hnews Z1)
  have HB9 : Hid (Below w.heap.size w w9) := HVB.out.2.2.trans (H9.out.2.2.2.2.2.2.mono (by rw [← HBe.out]; exact HVB.out.2.2.size))
  have hpdl : (pgD (sdOf x y) K d).length = sc + 32 := by rw [pgD_length, ← HL.out]
  have hpd : Scr.mixL (sdOf x y) d ++ Meta.rec32 K d = pgD (sdOf x y) K d := rfl
  rw [hpd] at H9
  refine (fast_any (m := m) ht1 ht40 w9 s (HC.out.below HB9.out) _ c9 _ (buf_pol H9.out.2.1 H9.out.2.2.1 H9.out.2.2.2.1 H9.out.2.2.2.2.1) (by omega)).mono ?_
  rintro e w10 ⟨gq, rfl, Zq, b, hgq⟩
  have hYl : (byN (par m t (val (pgD (sdOf x y) K d))) (pb (deg m t))).length = (pb (deg m t)) := byN_length _ _
  have hYv : val (byN (par m t (val (pgD (sdOf x y) K d))) (pb (deg m t))) = par m t (val (pgD (sdOf x y) K d)) := val_byN (pb_room (par_lt t _))
  replace Zq : Blk8 w10 gq (byN (par m t (val (pgD (sdOf x y) K d))) (pb (deg m t))) := Zq
  obtain ⟨Y, hY⟩ : ∃ Y, Y = byN (par m t (val (pgD (sdOf x y) K d))) (pb (deg m t)) := ⟨_, rfl⟩
  rw [← hY] at Zq hYl hYv
  have HYv : Hid (val Y = par m t (val (pgD (sdOf x y) K d)) ∧ val Y < 2 ^ deg m t) := ⟨hYv, by rw [hYv]; exact par_lt t _⟩
  have O10 : Own8 w10 base (.slice (some ⟨g9, 0, none⟩) (sc + 32) c9) (sc + 32) (pgD (sdOf x y) K d) := H9.out.1.keep fun g hg => b.block g (H9.out.1.block g hg).2
  have hg9l : g9 < w9.heap.size := (H9.out.1.block g9 rfl).2
  have hne : g9 ≠ gq := by omega
  have B10 := HB9.out.trans (b.mono HB9.out.size)
  have hbw : w.heap.size ≤ base := by rw [← HBe.out]; exact HVB.out.2.2.size
  have b10 : Below base w4 w10 := H9.out.2.2.2.2.2.2.trans (b.mono (by have := (H9.out.1.block g9 rfl).1; omega))
  have h9s : base ≤ w10.heap.size := by have := b.size; have := (H9.out.1.block g9 rfl).1; omega
  obtain ⟨k0, k1, k2⟩ := (HPG.out.below B10).cells
  have hdg := degree_code w10 s (HC.out.below B10)
  have hg9b : base ≤ g9 := (H9.out.1.block g9 rfl).1
  have hgqb : base ≤ gq := by omega
  obtain ⟨D, hD⟩ : ∃ D, D = deg m t := ⟨_, rfl⟩
  have HDe := Lib.hid hD
  rw [← hD] at hdg
  obtain ⟨ov, hov⟩ : ∃ ov, ov = D % 8 := ⟨_, rfl⟩
  have e1 : (D : Int) % 8 = (ov : Int) := by omega
  have hov8 : ov < 8 := by omega
  obtain ⟨p, hp⟩ : ∃ p, p = (pb (deg m t)) := ⟨_, rfl⟩
  rw [← hp] at hYl hP1 hP2
  have hpp : pb (deg m t) = p := hp.symm
  have HP := Lib.hid hpp
  rw [hpp]
  have HG := Lib.hid (And.intro hov (And.intro hYl (And.intro hbw (And.intro hg9b (And.intro hgqb hne)))))
  have HK10 := Lib.hid (And.intro O10 (And.intro Zq (And.intro B10 (And.intro b10 h9s))))
  clear hY hYv hpdl hpd O10 Zq B10 b10 h9s b hgq hg9l hne hbw hp hpp hov hD hg9b hgqb H9 HB9 HVB hrl hYl
  go_wp2_with fail
  refine hdg.mono ?_
  rintro e w11 ⟨rfl, rfl⟩
  clear hdg
  have hlenp : (pgP m t (pgD (sdOf x y) K d)).length = p := by rw [pgP_length]; exact HP.out
  by_cases h0 : ov = 0
  · have hYf : Y = pgP m t (pgD (sdOf x y) K d) := by
      unfold pgP
      rw [← HYv.out.1]
      exact val_fill0 (by rw [HG.out.2.1]; exact HP.out.symm) (by rw [← HDe.out, ← HG.out.1, h0]) HYv.out.2
    subst h0
    obtain ⟨O10, Zq, B10, b10, hbs⟩ := HK10.out
    rw [hYf] at Zq
    have hnews := news8 Zq
    have hv0 : ∀ k, (Value.slice (some ⟨g9, 0, none⟩) (sc + 32) c9).ownBlock = some k → base ≤ k := fun k hk => by
      simp only [Value.ownBlock, Option.some.injEq] at hk
      have := HG.out.2.2.2.1; omega
    have HV := Lib.hid (And.intro hv0 (And.intro b10 B10))
    have q0 : (D : Int) % 8 = 0 := e1
    clear hYf Zq hv0 b10 B10 HK10 e1
    have HN := Lib.hid hlenp
    clear hlenp
    go_wp2_with (at_builtin; refine wpList_append_own _ rfl _ _ 25 rfl base 5 i0 (.int .u8 0) 1 1 Tryz.underlying25 HI.out.1 HI.out.2.1 HI.out.2.2.1 HI.out.2.2.2 rfl (by decide) _ (sc + 32) _ rfl O10 ⟨gq, 0, none⟩ p p (cells8 (pgP m t (pgD (sdOf x y) K d))) rfl (by rw [cells8_length, HN.out, Nat.mul_one]) hnews (cells8_one _) (by unfold maxLen; omega) (by omega) hbs ?_; intro v13 w13 hown13 hgrow _; obtain ⟨g13, c13, rfl, _, F13, hN13, hc13, hm13, hg13, b13⟩ := app_own (by omega) hown13 hgrow HV.out.1 HV.out.2.1 hbs; have HF := Lib.hid (And.intro F13 (And.intro hc13 (And.intro hm13 (And.intro hg13 (HV.out.2.2.trans ((Below.refl _ _).grown hgrow (Nat.le_trans HG.out.2.2.1 hbs) (fun k hk => Nat.le_trans HG.out.2.2.1 (HV.out.1 k hk)))))))); clear hown13 hgrow F13 hN13 hc13 hm13 hg13 b13 O10 hbs hnews)
    go_ret2
    exact ⟨g13, c13, by rw [HP.out]; rfl, HF.out.1, Nat.le_trans HG.out.2.2.1 HF.out.2.2.2.1, by rw [HP.out]; exact HF.out.2.1, HF.out.2.2.1, HF.out.2.2.2.2⟩
  · obtain ⟨Q, hQ⟩ : ∃ Q, Q = p - 1 := ⟨_, rfl⟩
    have eQ : (p : Int) - 1 = (Q : Int) := by omega
    have y0 : (0 : Int) ≤ (Q : Int) := by omega
    have y1 : (Q : Int) < (p : Int) := by omega
    have y2 : Q < p := by omega
    obtain ⟨O10, Zq, B10, b10, hbs⟩ := HK10.out
    have cb0 := Zq.cell (i := Q) (by rw [HG.out.2.1]; exact y2)
    have fb0 := Zq.free Q
    have ea := or_fb (nth8 Y Q) ov
    have hne : (ov == 0) = false := by simp [h0]
    have hne2 : ((ov : Int) == 0) = false := by rw [beq_eq_false_iff_ne]; omega
    have hne3 : ¬ (ov : Int) = 0 := by omega
    have HS : Hid (∀ nn, Blk8 ((w10.drewN nn).setCell ⟨gq, Q, none⟩ (.int .u8 (Bits32.b (nth8 Y Q ||| fb ov)))) gq (pgP m t (pgD (sdOf x y) K d)) ∧ Own8 ((w10.drewN nn).setCell ⟨gq, Q, none⟩ (.int .u8 (Bits32.b (nth8 Y Q ||| fb ov)))) base (.slice (some ⟨g9, 0, none⟩) (sc + 32) c9) (sc + 32) (pgD (sdOf x y) K d) ∧ Below base w4 ((w10.drewN nn).setCell ⟨gq, Q, none⟩ (.int .u8 (Bits32.b (nth8 Y Q ||| fb ov)))) ∧ Below w.heap.size w ((w10.drewN nn).setCell ⟨gq, Q, none⟩ (.int .u8 (Bits32.b (nth8 Y Q ||| fb ov)))) ∧ base ≤ ((w10.drewN nn).setCell ⟨gq, Q, none⟩ (.int .u8 (Bits32.b (nth8 Y Q ||| fb ov)))).heap.size) := fun nn => by
      have dB := (Drawn.mk w10 nn).below w10.heap.size
      have hs := (keepZ Zq dB).set Q (nth8 Y Q ||| fb ov)
      have o4 := Only.setCell (w10.drewN nn) ⟨gq, Q, none⟩ (.int .u8 (Bits32.b (nth8 Y Q ||| fb ov)))
      have hyf : Y.set Q (nth8 Y Q ||| fb ov) = pgP m t (pgD (sdOf x y) K d) := by
        unfold pgP
        rw [← HYv.out.1]
        have h := val_fill (Y := Y) (D := deg m t) (ov := ov) (by rw [HG.out.2.1]; exact HP.out.symm) (by rw [← HDe.out]; exact HG.out.1.symm) (by omega) HYv.out.2
        rw [HP.out, ← hQ] at h
        rw [HP.out]
        exact h
      rw [hyf] at hs
      have b1 : Below base w10 ((w10.drewN nn).setCell ⟨gq, Q, none⟩ (.int .u8 (Bits32.b (nth8 Y Q ||| fb ov)))) := (dB.mono hbs).trans (o4.below HG.out.2.2.2.2.1)
      refine ⟨hs, O10.keep fun g hg => ?_, b10.trans b1, B10.trans (b1.mono HG.out.2.2.1), Nat.le_trans hbs b1.size⟩
      have hgg : g = g9 := by simp only [Value.ownBlock, Option.some.injEq] at hg; exact hg.symm
      rw [o4.block g (by rw [hgg]; exact HG.out.2.2.2.2.2)]
      exact dB.block g (O10.block g hg).2
    clear O10 Zq B10 b10 hbs HK10 h0 hQ
    generalize Bits32.b (nth8 Y Q ||| fb ov) = zv at ea HS
    generalize Bits32.b (nth8 Y Q) = xv at cb0 ea
    go_wp2_with fail
    refine wp_region_quiet_tail (C := fun w' => ∃ nn, w' = w10.drewN nn) 10 (by kernel_rfl) (by kernel_rfl) ⟨1, rfl⟩ ?_
    simp only [List.take_succ_cons, List.take_zero, List.drop_succ_cons, List.drop_zero]
    repeat (go_big_quiet_step (fail))
    refine wpQuiet_nil ?_
    rintro _ ⟨nq, rfl⟩
    obtain ⟨Zq, O10, b10, B10, hbs⟩ := HS.out nq
    have hv2 : (w10.drewN nq).cell? ⟨gq, Q, none⟩ = some (.int .u8 xv) := cb0
    have fr2 : (w10.drewN nq).frozen? ⟨gq, Q, none⟩ = false := fb0
    have hnews := news8 Zq
    have hv0 : ∀ k, (Value.slice (some ⟨g9, 0, none⟩) (sc + 32) c9).ownBlock = some k → base ≤ k := fun k hk => by
      simp only [Value.ownBlock, Option.some.injEq] at hk
      have := HG.out.2.2.2.1; omega
    have HV := Lib.hid (And.intro hv0 (And.intro b10 B10))
    clear cb0 fb0 HS k0 k1 k2 Zq b10 B10 hv0
    generalize hww : w10.drewN nq = w12 at hv2 fr2 HV O10 hbs hnews ⊢
    clear hww
    have HN := Lib.hid hlenp
    clear hlenp
    go_wp2_with (at_builtin; refine wpList_append_own _ rfl _ _ 25 rfl base 5 i0 (.int .u8 0) 1 1 Tryz.underlying25 HI.out.1 HI.out.2.1 HI.out.2.2.1 HI.out.2.2.2 rfl (by decide) _ (sc + 32) _ rfl O10 ⟨gq, 0, none⟩ p p (cells8 (pgP m t (pgD (sdOf x y) K d))) rfl (by rw [cells8_length, HN.out, Nat.mul_one]) hnews (cells8_one _) (by unfold maxLen; omega) (by omega) hbs ?_; intro v13 w13 hown13 hgrow _; obtain ⟨g13, c13, rfl, _, F13, hN13, hc13, hm13, hg13, b13⟩ := app_own (by omega) hown13 hgrow HV.out.1 HV.out.2.1 hbs; have HF := Lib.hid (And.intro F13 (And.intro hc13 (And.intro hm13 (And.intro hg13 (HV.out.2.2.trans ((Below.refl _ _).grown hgrow (Nat.le_trans HG.out.2.2.1 hbs) (fun k hk => Nat.le_trans HG.out.2.2.1 (HV.out.1 k hk)))))))); clear hown13 hgrow F13 hN13 hc13 hm13 hg13 b13 O10 hbs hnews)
    go_ret2
    exact ⟨g13, c13, by rw [HP.out]; rfl, HF.out.1, Nat.le_trans HG.out.2.2.1 HF.out.2.2.2.1, by rw [HP.out]; exact HF.out.2.1, HF.out.2.2.1, HF.out.2.2.2.2⟩
end
end Go.Proofs.YtdhcigiaidlmbaaGreatDoor.Pg
/- A codec of a geometry that may be. By the verifier of shale. -/
namespace Go.Proofs.YtdhcigiaidlmbaaGreatDoor.Pg
open Go Go.RowKit Bin Pl Cos Enc Syn Loc Sea Dec
set_option linter.unusedVariables false
section
variable {m : Nat} [M : Pl.Mid m]
set_option maxRecDepth 100000 in
set_option maxHeartbeats 1000000 in
theorem codeOf_yes {t sc : Nat} (g0 g1 g5 g6 g7 g8 : Int) (h1 : g1 ≤ 9223372036854775807) (h1l : -9223372036854775808 ≤ g1) (hsc : sc ≤ 2000) (H : Enc.May m t (sc + 32)) (hs : 1 ≤ secs g0 g1 (sc : Int) (m : Int) (t : Int) g5 g6 g7 g8) (w : World) (y : Addr) (E : ErrAt w 4 y) :
    Calls Tryz.prog 35 #[.agg #[.int .i64 g0, .int .i64 g1, .int .i64 (sc : Int), .int .i64 (m : Int), .int .i64 (t : Int), .int .i64 g5, .int .i64 g6, .int .i64 g7, .int .i64 g8]] w (MadeAt m t (sc + 32) w) := by
  have HS := Lib.hid (fun W => secs_any g0 g1 (sc : Int) (m : Int) (t : Int) g5 g6 g7 g8 W h1 h1l)
  obtain ⟨q, hq⟩ : ∃ q, q = secs g0 g1 (sc : Int) (m : Int) (t : Int) g5 g6 g7 g8 := ⟨_, rfl⟩
  rw [← hq] at HS hs
  have t1 : ¬ q < 1 := by omega
  have t2 : decide (q < 1) = false := decide_eq_false t1
  have HE := Lib.hid E
  have HH := Lib.hid H
  have e32 : (sc : Int) + 32 = ((sc + 32 : Nat) : Int) := by omega
  have HE32 := Lib.hid e32
  clear hq E H e32
  go_enter Tryz.func35, Tryz.ntmps35
  go_wp2_with fail
  generalize hw : w.alloc (.cells #[.int .i64 g0, .int .i64 g1, .int .i64 (sc : Int), .int .i64 (m : Int), .int .i64 (t : Int), .int .i64 g5, .int .i64 g6, .int .i64 g7, .int .i64 g8] 23 (0, 0)) = w1
  obtain ⟨K, B⟩ := newG w w1 _ _ _ _ _ _ _ _ _ hw
  clear hw
  obtain ⟨bg, hbg⟩ : ∃ bg, bg = w.heap.size := ⟨_, rfl⟩
  rw [← hbg] at K ⊢
  clear hbg
  refine (HS.out _).mono ?_
  rintro e w2 ⟨rfl, b⟩
  replace K := keepG K b
  replace B := B.trans (b.mono B.size)
  obtain ⟨e0, e1, e2, e3, e4, e5, e6, e7, e8⟩ := g_cells K
  clear K b HS
  go_wp2_with fail
  rw [HE32.out]
  refine (new_any (m := m) HH.out w2 y (HE.out.below B)).mono ?_
  rintro e w3 ⟨s, rfl, C, b, hs2⟩
  have HF := Lib.hid (And.intro C (And.intro (B.trans (b.mono B.size)) (Nat.le_trans B.size hs2)))
  clear C b hs2 B e0 e1 e2 e3 e4 e5 e6 e7 e8
  go_wp2_with fail
  go_ret2
  exact ⟨s, rfl, HF.out⟩
/-- what a new codec is. -/
def PgMadeAt (m t sc : Nat) [M : Pl.Mid m] (w : World) (e : Ending) (w' : World) : Prop := ∃ cb s db, e = .returned (.tuple #[.pointer (some ⟨cb, 0, none⟩), .nilIface]) ∧ pgAt w' cb sc s db ∧ CodeAt m t (sc + 32) w' s ∧ decAt w' db s ∧ Below w.heap.size w w' ∧ w.heap.size ≤ cb
set_option maxRecDepth 100000 in
set_option maxHeartbeats 2000000 in
theorem pnew_yes {t sc : Nat} (g0 g1 g5 g6 g7 g8 : Int) (h1 : g1 ≤ 9223372036854775807) (h1l : -9223372036854775808 ≤ g1) (hsc : sc ≤ 2000) (H : Enc.May m t (sc + 32)) (hs : 1 ≤ secs g0 g1 (sc : Int) (m : Int) (t : Int) g5 g6 g7 g8) (w : World) (y : Addr) (E : ErrAt w 4 y) :
    Calls Tryz.prog 12 #[.agg #[.int .i64 g0, .int .i64 g1, .int .i64 (sc : Int), .int .i64 (m : Int), .int .i64 (t : Int), .int .i64 g5, .int .i64 g6, .int .i64 g7, .int .i64 g8]] w (PgMadeAt m t sc w) := by
  have HC := Lib.hid (fun W b => codeOf_yes (m := m) (t := t) (sc := sc) g0 g1 g5 g6 g7 g8 h1 h1l hsc H hs W y (E.below b))
  clear H hs E
  go_enter Tryz.func12, Tryz.ntmps12
  go_wp2_with fail
  generalize hw : w.alloc (.cells #[.int .i64 g0, .int .i64 g1, .int .i64 (sc : Int), .int .i64 (m : Int), .int .i64 (t : Int), .int .i64 g5, .int .i64 g6, .int .i64 g7, .int .i64 g8] 23 (0, 0)) = w1
  obtain ⟨K, B⟩ := newG w w1 _ _ _ _ _ _ _ _ _ hw
  clear hw
  obtain ⟨bg, hbg⟩ : ∃ bg, bg = w.heap.size := ⟨_, rfl⟩
  rw [← hbg] at K ⊢
  clear hbg
  refine (HC.out w1 B).mono ?_
  rintro e w2 ⟨s, rfl, C, b, hs2⟩
  replace K := keepG K b
  replace B := B.trans (b.mono B.size)
  have hbgl := lt_of_block K
  obtain ⟨_, _, e2, _⟩ := g_cells K
  have HS : Hid (∀ w', Below w2.heap.size w2 w' → (w'.cell? ⟨bg, 2, none⟩ = some (.int .i64 (sc : Int)) ∧ Below w2.heap.size w2 w')) := fun w' b => ⟨(b.cell (p := ⟨bg, 2, none⟩) hbgl).trans e2, b⟩
  have HN : Hid (∀ w' (_ : w'.cell? ⟨bg, 2, none⟩ = some (.int .i64 (sc : Int)) ∧ Below w2.heap.size w2 w'), Calls Tryz.prog 36 #[.pointer (some ⟨s, 0, none⟩)] w' fun e w'' => ∃ db, e = .returned (.pointer (some ⟨db, 0, none⟩)) ∧ (w''.cell? ⟨bg, 2, none⟩ = some (.int .i64 (sc : Int)) ∧ Below w2.heap.size w2 w'') ∧ decAt w'' db s) := fun w' hs => (newD_any s w').mono fun e w'' h => by
    obtain ⟨db, h1, h2, h3, _⟩ := h
    exact ⟨db, h1, HS.out w'' (hs.2.trans (h3.mono hs.2.size)), h2⟩
  have hS0 := HS.out w2.drew ((Drawn.mk w2 1).below _)
  have HF := Lib.hid (And.intro C B)
  clear K b C B hs2 HC hbgl
  go_wp2_with fail
  clear e2
  go_region_held3 (fun w' => w'.cell? ⟨bg, 2, none⟩ = some (.int .i64 (sc : Int)) ∧ Below w2.heap.size w2 w')
    (first | assumption | exact ⟨by assumption, by assumption⟩ | exact HS.out _ (Below.alloc (And.right (by assumption)) (Below.size (And.right (by assumption))) _))
    (first
      | (go_at_call 36; (refine Calls.mono (HN.out _ (by assumption)) ?_); rintro e w3 ⟨db, rfl, z1, z2⟩))
  obtain ⟨C, B⟩ := HF.out
  have ba : Below w3.heap.size w3 (w3.alloc (.cells #[.int .i64 (sc : Int), .pointer (some ⟨s, 0, none⟩), .pointer (some ⟨db, 0, none⟩)] 82 (0, 0))) := (Below.refl _ _).alloc (Nat.le_refl _) _
  have b4 := z1.2.trans (ba.mono z1.2.size)
  have HFi : Hid (pgAt (w3.alloc (.cells #[.int .i64 (sc : Int), .pointer (some ⟨s, 0, none⟩), .pointer (some ⟨db, 0, none⟩)] 82 (0, 0))) w3.heap.size sc s db ∧ CodeAt m t (sc + 32) (w3.alloc (.cells #[.int .i64 (sc : Int), .pointer (some ⟨s, 0, none⟩), .pointer (some ⟨db, 0, none⟩)] 82 (0, 0))) s ∧ decAt (w3.alloc (.cells #[.int .i64 (sc : Int), .pointer (some ⟨s, 0, none⟩), .pointer (some ⟨db, 0, none⟩)] 82 (0, 0))) db s ∧ Below w.heap.size w (w3.alloc (.cells #[.int .i64 (sc : Int), .pointer (some ⟨s, 0, none⟩), .pointer (some ⟨db, 0, none⟩)] 82 (0, 0))) ∧ w.heap.size ≤ w3.heap.size) :=
    ⟨heap_alloc_new w3 _, C.below b4, keepB z2 ba, B.trans (b4.mono B.size), Nat.le_trans B.size z1.2.size⟩
  clear C B ba b4 z1 z2 HS HN hS0
  go_wp2_with fail
  go_ret2
  exact ⟨_, s, db, rfl, HFi.out⟩
end
end Go.Proofs.YtdhcigiaidlmbaaGreatDoor.Pg
/- made: the codecs that a statement of chapter 13 makes of any numbers. By the verifier of shale. -/
namespace Go.Proofs.YtdhcigiaidlmbaaGreatDoor.Pg
open Go Go.RowKit Bin Pl Cos Enc Syn Loc Sea Dec
set_option linter.unusedVariables false
def mkS (z : Int) : Nat := (z % 24).toNat + 16
def mkT (z : Int) : Nat := (z % 4).toNat + 1
theorem mkS_go (z : Int) : z.tmod 24 % 24 + 16 = (mkS z : Int) := by
  unfold mkS
  have : z.tmod 24 % 24 = z % 24 := by rw [Int.tmod_eq_emod]; split <;> omega
  omega
theorem mkT_go (z : Int) : z.tmod 4 % 4 + 1 = (mkT z : Int) := by
  unfold mkT
  have : z.tmod 4 % 4 = z % 4 := by rw [Int.tmod_eq_emod]; split <;> omega
  omega
theorem mkS_in (z : Int) : 16 ≤ mkS z ∧ mkS z ≤ 39 := by unfold mkS; omega
theorem mkT_in (z : Int) : 1 ≤ mkT z ∧ mkT z ≤ 4 := by unfold mkT; omega
instance mid10 : Pl.Mid 10 := ⟨by decide, by decide⟩
set_option maxRecDepth 100000 in
set_option maxHeartbeats 1000000 in
theorem measures_any (z1 z2 : Int) (w : World) :
    Calls Tryz.prog 43 #[.int .i64 z1, .int .i64 z2] w fun e w' => e = .returned (.agg #[.int .i64 10, .int .i64 16, .int .i64 (mkS z2 : Int), .int .i64 10, .int .i64 (mkT z1 : Int), .int .i64 2, .int .i64 0, .int .i64 4, .int .i64 8]) ∧ Below w.heap.size w w' := by
  have a1 : -4 < z1.tmod 4 := by rw [Int.tmod_eq_emod]; split <;> omega
  have a2 : z1.tmod 4 < 4 := by rw [Int.tmod_eq_emod]; split <;> omega
  have a3 : -24 < z2.tmod 24 := by rw [Int.tmod_eq_emod]; split <;> omega
  have a4 : z2.tmod 24 < 24 := by rw [Int.tmod_eq_emod]; split <;> omega
  have H1 := mkT_go z1
  have H2 := mkS_go z2
  go_enter Tryz.func43, Tryz.ntmps43
  go_wp2_with fail
  exact bodyPost_ret (v := .agg #[.int .i64 10, .int .i64 16, .int .i64 (mkS z2 : Int), .int .i64 10, .int .i64 (mkT z1 : Int), .int .i64 2, .int .i64 0, .int .i64 4, .int .i64 8]) (by simp [results, Tryz.results43, go_sem]) rfl ⟨rfl, (Below.refl _ _).alloc (Nat.le_refl _) _⟩
set_option maxRecDepth 100000 in
set_option maxHeartbeats 2000000 in
theorem rsecs_any (sc t : Nat) (h1 : 16 ≤ sc) (h2 : sc ≤ 1024) (h3 : 1 ≤ t) (h4 : t ≤ 16) (w : World) :
    Calls Tryz.prog 16 #[.agg #[.int .i64 10, .int .i64 16, .int .i64 (sc : Int), .int .i64 10, .int .i64 (t : Int), .int .i64 2, .int .i64 0, .int .i64 4, .int .i64 8]] w fun e w' => e = .returned (.int .i64 33) ∧ Below w.heap.size w w' := by
  have x1 : ¬ (sc : Int) < 16 := by omega
  have x2 : ¬ (1024 : Int) < (sc : Int) := by omega
  have x3 : ¬ (t : Int) < 1 := by omega
  have x4 : ¬ (16 : Int) < (t : Int) := by omega
  have d1 : decide ((sc : Int) < 16) = false := decide_eq_false x1
  have d2 : decide ((1024 : Int) < (sc : Int)) = false := decide_eq_false x2
  have d3 : decide ((t : Int) < 1) = false := decide_eq_false x3
  have d4 : decide ((16 : Int) < (t : Int)) = false := decide_eq_false x4
  go_enter Tryz.func16, Tryz.ntmps16
  go_wp2_with fail
  go_ret
  exact ⟨rfl, (Below.refl _ _).alloc (Nat.le_refl _) _⟩
theorem may10 {sc t : Nat} (h2 : sc ≤ 39) (h3 : 1 ≤ t) (h4 : t ≤ 4) : Enc.May 10 t (sc + 32) := by
  have h1 := deg_le (m := 10) (by omega) t
  have h5 : 10 * t ≤ 10 * 4 := Nat.mul_le_mul (Nat.le_refl _) h4
  have hs : sz 10 = 1023 := rfl
  exact ⟨h3, by omega, by omega, by omega, by omega, by omega⟩
set_option maxRecDepth 100000 in
set_option maxHeartbeats 2000000 in
theorem rvalid_any (sc t : Nat) (h1 : 16 ≤ sc) (h2 : sc ≤ 39) (h3 : 1 ≤ t) (h4 : t ≤ 4) (w : World) :
    Calls Tryz.prog 11 #[.agg #[.int .i64 10, .int .i64 16, .int .i64 (sc : Int), .int .i64 10, .int .i64 (t : Int), .int .i64 2, .int .i64 0, .int .i64 4, .int .i64 8]] w fun e w' => ∃ ga gn gc, e = .returned (.tuple #[cdV 10 t (sc + 32) ga gn gc (deg 10 t), .int .i64 0]) ∧ BarV w' ga gn gc (gen 10 t) ∧ Below w.heap.size w w' := by
  have HS := Lib.hid (fun W => rsecs_any sc t h1 (by omega) h3 (by omega) W)
  have HM := Lib.hid (may10 h2 h3 h4)
  have e32 : (sc : Int) + 32 = ((sc + 32 : Nat) : Int) := by omega
  have HE32 := Lib.hid e32
  clear e32
  go_enter Tryz.func11, Tryz.ntmps11
  go_upto_region 1 with (fail)
  generalize hw : w.alloc (.cells #[.int .i64 10, .int .i64 16, .int .i64 (sc : Int), .int .i64 10, .int .i64 (t : Int), .int .i64 2, .int .i64 0, .int .i64 4, .int .i64 8] 23 (0, 0)) = w1
  obtain ⟨K, B⟩ := newG w w1 _ _ _ _ _ _ _ _ _ hw
  have hsz : w1.heap.size = w.heap.size + 1 := by rw [← hw]; simp
  clear hw
  obtain ⟨bg, hbg⟩ : ∃ bg, bg = w.heap.size := ⟨_, rfl⟩
  have HBg := Lib.hid hbg
  rw [← hbg] at K hsz ⊢
  clear hbg
  have b0 : Below w1.heap.size w1 (w1.alloc cd0) := (Below.refl _ _).alloc (Nat.le_refl _) _
  have hblk : (w1.alloc cd0).heap[w1.heap.size]? = some cd0 := heap_alloc_new w1 _
  rw [hsz] at b0 hblk
  rw [show Obj.cells #[Value.int IntKind.i64 0, Value.int IntKind.i64 0, Value.int IntKind.i64 0, Value.slice none 0 0, Value.int IntKind.i64 0] 27 (0, 0) = cd0 from rfl]
  generalize w1.alloc cd0 = w2 at b0 hblk ⊢
  replace K := (b0.block bg (by omega)).trans K
  replace B := B.trans (b0.mono (by rw [← hsz]; exact B.size))
  clear b0 hsz
  have HK := Lib.hid (And.intro K hblk)
  obtain ⟨e0, e1, e2, e3, e4, e5, e6, e7, e8⟩ := g_cells K
  clear K hblk
  go_wp2_with fail
  refine (HS.out _).mono ?_
  rintro e w3 ⟨rfl, b⟩
  clear e0 e1 e2 e3 e4 e5 e6 e7 e8
  obtain ⟨K, hblk⟩ := HK.out
  clear HK
  replace K := keepG K b
  replace hblk := keepG hblk b
  replace B := B.trans (b.mono B.size)
  obtain ⟨e0, e1, e2, e3, e4, e5, e6, e7, e8⟩ := g_cells K
  clear K b HS
  go_wp2_with fail
  rw [HE32.out]
  refine (rnew_any (m := 10) HM.out w3).mono ?_
  rintro e w4 ⟨ga, gn, gc, rfl, hG, b⟩
  have hl3 := lt_of_block hblk
  replace hblk := keepG hblk b
  replace B := B.trans (b.mono B.size)
  have hz : w.heap.size ≤ bg + 1 := by rw [HBg.out]; omega
  have HF := Lib.hid (And.intro hG (And.intro B (And.intro hblk hl3)))
  obtain ⟨k0, k1, k2, k3, k4, kf⟩ := cd_cells hblk
  clear b hG B hblk hl3 e0 e1 e2 e3 e4 e5 e6 e7 e8
  go_wp2_with fail
  obtain ⟨hG, B, hblk, hl3⟩ := HF.out
  have e32 := HE32.out
  have o := onlyCd w4 (bg + 1) (.int .i64 10) (.int .i64 (t : Int)) (.int .i64 ((sc : Int) + 32)) (.slice ga gn gc) (.int .i64 (deg 10 t : Int))
  exact bodyPost_ret (v := .tuple #[.agg #[.int .i64 10, .int .i64 (t : Int), .int .i64 ((sc : Int) + 32), .slice ga gn gc, .int .i64 (deg 10 t : Int)], .int .i64 0]) (by simp [results, Tryz.results11, go_sem, k0, k1, k2, k3, k4]) rfl ⟨ga, gn, gc, by rw [e32]; try rfl, newV_bar (newV_only hG o hl3), B.trans (o.below hz)⟩
/-- what made answers. -/
def MadeP (sc t : Nat) (w : World) (e : Ending) (w' : World) : Prop :=
  ∃ (cb s db : Nat) (ga : Option Addr) (gn gc : Nat), e = .returned (.tuple #[.pointer (some ⟨cb, 0, none⟩), .agg #[.int .i64 10, .int .i64 16, .int .i64 (sc : Int), .int .i64 10, .int .i64 (t : Int), .int .i64 2, .int .i64 0, .int .i64 4, .int .i64 8, .int .i64 10, .int .i64 (t : Int), .int .i64 ((sc + 32 : Nat) : Int), .slice ga gn gc, .int .i64 (deg 10 t : Int)], .bool true]) ∧
    pgAt w' cb sc s db ∧ CodeAt 10 t (sc + 32) w' s ∧ decAt w' db s ∧ BarV w' ga gn gc (gen 10 t) ∧ Below w.heap.size w w'
def rxO (g0 g1 g2 g3 g4 g5 g6 g7 g8 a b c : Int) (d : Value) (e : Int) : Obj := .cells #[.int .i64 g0, .int .i64 g1, .int .i64 g2, .int .i64 g3, .int .i64 g4, .int .i64 g5, .int .i64 g6, .int .i64 g7, .int .i64 g8, .int .i64 a, .int .i64 b, .int .i64 c, d, .int .i64 e] 40 (0, 0)
theorem rx_cells {w : World} {s : Nat} {g0 g1 g2 g3 g4 g5 g6 g7 g8 a b c : Int} {d : Value} {e : Int} (h : w.heap[s]? = some (rxO g0 g1 g2 g3 g4 g5 g6 g7 g8 a b c d e)) : w.cell? ⟨s, 0, none⟩ = some (.int .i64 g0) ∧ w.cell? ⟨s, 1, none⟩ = some (.int .i64 g1) ∧ w.cell? ⟨s, 2, none⟩ = some (.int .i64 g2) ∧ w.cell? ⟨s, 3, none⟩ = some (.int .i64 g3) ∧ w.cell? ⟨s, 4, none⟩ = some (.int .i64 g4) ∧ w.cell? ⟨s, 5, none⟩ = some (.int .i64 g5) ∧ w.cell? ⟨s, 6, none⟩ = some (.int .i64 g6) ∧ w.cell? ⟨s, 7, none⟩ = some (.int .i64 g7) ∧ w.cell? ⟨s, 8, none⟩ = some (.int .i64 g8) ∧ w.cell? ⟨s, 9, none⟩ = some (.int .i64 a) ∧ w.cell? ⟨s, 10, none⟩ = some (.int .i64 b) ∧ w.cell? ⟨s, 11, none⟩ = some (.int .i64 c) ∧ w.cell? ⟨s, 12, none⟩ = some d ∧ w.cell? ⟨s, 13, none⟩ = some (.int .i64 e) ∧ ∀ i, w.frozen? ⟨s, i, none⟩ = false := by
  refine ⟨?_, ?_, ?_, ?_, ?_, ?_, ?_, ?_, ?_, ?_, ?_, ?_, ?_, ?_, ?_⟩
  all_goals first | (unfold World.cell?; simp only; rw [h]; rfl) | (intro i; unfold World.frozen?; simp only; rw [h]; unfold rxO; simp)
abbrev rx0 : Obj := rxO 0 0 0 0 0 0 0 0 0 0 0 0 (.slice none 0 0) 0
theorem rx0_eq : Obj.cells #[.int .i64 0, .int .i64 0, .int .i64 0, .int .i64 0, .int .i64 0, .int .i64 0, .int .i64 0, .int .i64 0, .int .i64 0, .int .i64 0, .int .i64 0, .int .i64 0, .slice none 0 0, .int .i64 0] 40 (0, 0) = rx0 := rfl
theorem rx0_val {w : World} {s i : Nat} {v : Value} (hb : w.heap[s]? = some rx0) (h : w.cell? ⟨s, i, none⟩ = some v) : v = .int .i64 0 ∨ v = .slice none 0 0 := by
  unfold World.cell? at h
  simp only at h
  rw [hb] at h
  unfold rx0 rxO at h
  rcases (by omega : i = 0 ∨ i = 1 ∨ i = 2 ∨ i = 3 ∨ i = 4 ∨ i = 5 ∨ i = 6 ∨ i = 7 ∨ i = 8 ∨ i = 9 ∨ i = 10 ∨ i = 11 ∨ i = 12 ∨ i = 13 ∨ 14 ≤ i) with rfl | rfl | rfl | rfl | rfl | rfl | rfl | rfl | rfl | rfl | rfl | rfl | rfl | rfl | h5
  all_goals first
    | (simp at h; exact Or.inl h.symm)
    | (simp at h; exact Or.inr h.symm)
    | skip
  obtain ⟨k, rfl⟩ : ∃ k, i = k + 14 := ⟨i - 14, by omega⟩
  simp at h
section
variable {m : Nat} [M : Pl.Mid m]
theorem FldAt_rx {w w' : World} {f be ce bl s : Nat} (h : Fld.FldAt m w f be ce bl) (o : Only s w w') (hb : w.heap[s]? = some rx0) : Fld.FldAt m w' f be ce bl := by
  have hsz : 1 < Fld.size m := by have := sz_lo M.lo; show 1 < sz m; omega
  have n1 : f ≠ s := by
    intro e
    have := h.1
    rw [e, hb] at this
    simp [rx0, rxO] at this
  have n2 : be ≠ s := by
    intro e
    have h1 := h.2.2.1 0 (by omega)
    rw [e] at h1
    rcases rx0_val hb h1 with h2 | h2
    · simp only [Value.int.injEq, true_and] at h2
      exact (Fld.pw_ne m M.lo M.hi 0).1 (Bits16.h_inj _ _ (h2.trans (by decide)))
    · cases h2
  have n3 : bl ≠ s := by
    intro e
    have h1 := h.2.2.2 (Fld.pw m 1) (Fld.pw_ne m M.lo M.hi 1).2
    rw [e, Fld.lg_pw m M.lo M.hi 1 hsz] at h1
    rcases rx0_val hb h1 with h2 | h2 <;> simp at h2
  exact ⟨(o.block f n1).trans h.1, h.2.1, fun i hi => (o.cell (p := ⟨be, i, none⟩) n2).trans (h.2.2.1 i hi), fun x hx => (o.cell (p := ⟨bl, _, none⟩) n3).trans (h.2.2.2 x hx)⟩
theorem pol_rx {w w' : World} {a : Option Addr} {n c s : Nat} {X : List (BitVec 8)} (h : Pol w a n c X) (o : Only s w w') (hb : w.heap[s]? = some rx0) : Pol w' a n c X := by
  refine ⟨h.hlen, h.hcap, h.hmost, h.hnil, ?_⟩
  by_cases h0 : n = 0
  · exact Or.inl h0
  · rcases h.hrow with h1 | ⟨bb, off, e, hr, hlt⟩
    · exact absurd h1 h0
    · have hne : bb ≠ s := by
        intro e2
        have h1 := hr 0 (by have := h.hlen; omega)
        rw [e2] at h1
        rcases rx0_val hb h1 with h2 | h2 <;> simp at h2
      exact Or.inr ⟨bb, off, e, hr.only o hne, by rw [o.size]; exact hlt⟩
theorem CodeAt_rx {t n : Nat} {w w' : World} {s b : Nat} (h : CodeAt m t n w s) (o : Only b w w') (hb : w.heap[b]? = some rx0) : CodeAt m t n w' s := by
  obtain ⟨f, be, ce, bl, ga, gn, gc, lb, tb, h1, h2, ⟨X, hX, h3⟩, h4, h5⟩ := h
  have n1 : s ≠ b := by
    intro e
    rw [e, hb] at h1
    simp [rx0, rxO, codeO] at h1
  have nU : ∀ g n R, Reg w g n R → g ≠ b := by
    intro g n R hR e
    have h : w.heap[g]? = some (objU (wl n R)) := hR
    rw [e, hb] at h
    simp [rx0, rxO, objU] at h
  refine ⟨f, be, ce, bl, ga, gn, gc, lb, tb, (o.block s n1).trans h1, FldAt_rx h2 o hb, ⟨X, pol_rx hX o hb, h3⟩, h4.only o (nU _ _ _ h4), fun x hx => ?_⟩
  obtain ⟨rb, c1, c2⟩ := h5 x hx
  have n2 : tb ≠ b := by
    intro e
    rw [e] at c1
    rcases rx0_val hb c1 with h2 | h2 <;> simp at h2
  exact ⟨rb, (o.cell (p := ⟨tb, x, none⟩) n2).trans c1, c2.only o (nU _ _ _ c2)⟩
end
theorem setRx {w : World} {s : Nat} (h : w.heap[s]? = some rx0) (a0 a1 a2 a3 a4 a5 a6 a7 a8 a9 a10 a11 : Int) (d : Value) (e : Int) : ((((((((((((((w.setCell ⟨s, 0, none⟩ (.int .i64 a0)).setCell ⟨s, 1, none⟩ (.int .i64 a1)).setCell ⟨s, 2, none⟩ (.int .i64 a2)).setCell ⟨s, 3, none⟩ (.int .i64 a3)).setCell ⟨s, 4, none⟩ (.int .i64 a4)).setCell ⟨s, 5, none⟩ (.int .i64 a5)).setCell ⟨s, 6, none⟩ (.int .i64 a6)).setCell ⟨s, 7, none⟩ (.int .i64 a7)).setCell ⟨s, 8, none⟩ (.int .i64 a8)).setCell ⟨s, 9, none⟩ (.int .i64 a9)).setCell ⟨s, 10, none⟩ (.int .i64 a10)).setCell ⟨s, 11, none⟩ (.int .i64 a11)).setCell ⟨s, 12, none⟩ d).setCell ⟨s, 13, none⟩ (.int .i64 e)).heap[s]? = some (rxO a0 a1 a2 a3 a4 a5 a6 a7 a8 a9 a10 a11 d e) := by
  have step : ∀ (w : World) (i : Nat) (v : Value) (cs : Array Value), w.heap[s]? = some (.cells cs 40 (0, 0)) → (w.setCell ⟨s, i, none⟩ v).heap[s]? = some (.cells (cs.setIfInBounds i v) 40 (0, 0)) := by
    intro w i v cs h
    have hlt := lt_of_block h
    have h' : w.heap[s] = .cells cs 40 (0, 0) := by simpa [Array.getElem?_eq_getElem hlt] using h
    show (w.heap.modify s _)[s]? = _
    rw [Array.getElem?_eq_getElem (by simpa using hlt), Array.getElem_modify_self, h']
    rfl
  have h0 : (w.setCell ⟨s, 0, none⟩ (.int .i64 a0)).heap[s]? = some (rxO a0 0 0 0 0 0 0 0 0 0 0 0 (.slice none 0 0) 0) := step _ 0 _ _ h
  have h1 : ((w.setCell ⟨s, 0, none⟩ (.int .i64 a0)).setCell ⟨s, 1, none⟩ (.int .i64 a1)).heap[s]? = some (rxO a0 a1 0 0 0 0 0 0 0 0 0 0 (.slice none 0 0) 0) := step _ 1 _ _ h0
  have h2 : (((w.setCell ⟨s, 0, none⟩ (.int .i64 a0)).setCell ⟨s, 1, none⟩ (.int .i64 a1)).setCell ⟨s, 2, none⟩ (.int .i64 a2)).heap[s]? = some (rxO a0 a1 a2 0 0 0 0 0 0 0 0 0 (.slice none 0 0) 0) := step _ 2 _ _ h1
  have h3 : ((((w.setCell ⟨s, 0, none⟩ (.int .i64 a0)).setCell ⟨s, 1, none⟩ (.int .i64 a1)).setCell ⟨s, 2, none⟩ (.int .i64 a2)).setCell ⟨s, 3, none⟩ (.int .i64 a3)).heap[s]? = some (rxO a0 a1 a2 a3 0 0 0 0 0 0 0 0 (.slice none 0 0) 0) := step _ 3 _ _ h2
  have h4 : (((((w.setCell ⟨s, 0, none⟩ (.int .i64 a0)).setCell ⟨s, 1, none⟩ (.int .i64 a1)).setCell ⟨s, 2, none⟩ (.int .i64 a2)).setCell ⟨s, 3, none⟩ (.int .i64 a3)).setCell ⟨s, 4, none⟩ (.int .i64 a4)).heap[s]? = some (rxO a0 a1 a2 a3 a4 0 0 0 0 0 0 0 (.slice none 0 0) 0) := step _ 4 _ _ h3
  have h5 : ((((((w.setCell ⟨s, 0, none⟩ (.int .i64 a0)).setCell ⟨s, 1, none⟩ (.int .i64 a1)).setCell ⟨s, 2, none⟩ (.int .i64 a2)).setCell ⟨s, 3, none⟩ (.int .i64 a3)).setCell ⟨s, 4, none⟩ (.int .i64 a4)).setCell ⟨s, 5, none⟩ (.int .i64 a5)).heap[s]? = some (rxO a0 a1 a2 a3 a4 a5 0 0 0 0 0 0 (.slice none 0 0) 0) := step _ 5 _ _ h4
  have h6 : (((((((w.setCell ⟨s, 0, none⟩ (.int .i64 a0)).setCell ⟨s, 1, none⟩ (.int .i64 a1)).setCell ⟨s, 2, none⟩ (.int .i64 a2)).setCell ⟨s, 3, none⟩ (.int .i64 a3)).setCell ⟨s, 4, none⟩ (.int .i64 a4)).setCell ⟨s, 5, none⟩ (.int .i64 a5)).setCell ⟨s, 6, none⟩ (.int .i64 a6)).heap[s]? = some (rxO a0 a1 a2 a3 a4 a5 a6 0 0 0 0 0 (.slice none 0 0) 0) := step _ 6 _ _ h5
  have h7 : ((((((((w.setCell ⟨s, 0, none⟩ (.int .i64 a0)).setCell ⟨s, 1, none⟩ (.int .i64 a1)).setCell ⟨s, 2, none⟩ (.int .i64 a2)).setCell ⟨s, 3, none⟩ (.int .i64 a3)).setCell ⟨s, 4, none⟩ (.int .i64 a4)).setCell ⟨s, 5, none⟩ (.int .i64 a5)).setCell ⟨s, 6, none⟩ (.int .i64 a6)).setCell ⟨s, 7, none⟩ (.int .i64 a7)).heap[s]? = some (rxO a0 a1 a2 a3 a4 a5 a6 a7 0 0 0 0 (.slice none 0 0) 0) := step _ 7 _ _ h6
  have h8 : (((((((((w.setCell ⟨s, 0, none⟩ (.int .i64 a0)).setCell ⟨s, 1, none⟩ (.int .i64 a1)).setCell ⟨s, 2, none⟩ (.int .i64 a2)).setCell ⟨s, 3, none⟩ (.int .i64 a3)).setCell ⟨s, 4, none⟩ (.int .i64 a4)).setCell ⟨s, 5, none⟩ (.int .i64 a5)).setCell ⟨s, 6, none⟩ (.int .i64 a6)).setCell ⟨s, 7, none⟩ (.int .i64 a7)).setCell ⟨s, 8, none⟩ (.int .i64 a8)).heap[s]? = some (rxO a0 a1 a2 a3 a4 a5 a6 a7 a8 0 0 0 (.slice none 0 0) 0) := step _ 8 _ _ h7
  have h9 : ((((((((((w.setCell ⟨s, 0, none⟩ (.int .i64 a0)).setCell ⟨s, 1, none⟩ (.int .i64 a1)).setCell ⟨s, 2, none⟩ (.int .i64 a2)).setCell ⟨s, 3, none⟩ (.int .i64 a3)).setCell ⟨s, 4, none⟩ (.int .i64 a4)).setCell ⟨s, 5, none⟩ (.int .i64 a5)).setCell ⟨s, 6, none⟩ (.int .i64 a6)).setCell ⟨s, 7, none⟩ (.int .i64 a7)).setCell ⟨s, 8, none⟩ (.int .i64 a8)).setCell ⟨s, 9, none⟩ (.int .i64 a9)).heap[s]? = some (rxO a0 a1 a2 a3 a4 a5 a6 a7 a8 a9 0 0 (.slice none 0 0) 0) := step _ 9 _ _ h8
  have h10 : (((((((((((w.setCell ⟨s, 0, none⟩ (.int .i64 a0)).setCell ⟨s, 1, none⟩ (.int .i64 a1)).setCell ⟨s, 2, none⟩ (.int .i64 a2)).setCell ⟨s, 3, none⟩ (.int .i64 a3)).setCell ⟨s, 4, none⟩ (.int .i64 a4)).setCell ⟨s, 5, none⟩ (.int .i64 a5)).setCell ⟨s, 6, none⟩ (.int .i64 a6)).setCell ⟨s, 7, none⟩ (.int .i64 a7)).setCell ⟨s, 8, none⟩ (.int .i64 a8)).setCell ⟨s, 9, none⟩ (.int .i64 a9)).setCell ⟨s, 10, none⟩ (.int .i64 a10)).heap[s]? = some (rxO a0 a1 a2 a3 a4 a5 a6 a7 a8 a9 a10 0 (.slice none 0 0) 0) := step _ 10 _ _ h9
  have h11 : ((((((((((((w.setCell ⟨s, 0, none⟩ (.int .i64 a0)).setCell ⟨s, 1, none⟩ (.int .i64 a1)).setCell ⟨s, 2, none⟩ (.int .i64 a2)).setCell ⟨s, 3, none⟩ (.int .i64 a3)).setCell ⟨s, 4, none⟩ (.int .i64 a4)).setCell ⟨s, 5, none⟩ (.int .i64 a5)).setCell ⟨s, 6, none⟩ (.int .i64 a6)).setCell ⟨s, 7, none⟩ (.int .i64 a7)).setCell ⟨s, 8, none⟩ (.int .i64 a8)).setCell ⟨s, 9, none⟩ (.int .i64 a9)).setCell ⟨s, 10, none⟩ (.int .i64 a10)).setCell ⟨s, 11, none⟩ (.int .i64 a11)).heap[s]? = some (rxO a0 a1 a2 a3 a4 a5 a6 a7 a8 a9 a10 a11 (.slice none 0 0) 0) := step _ 11 _ _ h10
  have h12 : (((((((((((((w.setCell ⟨s, 0, none⟩ (.int .i64 a0)).setCell ⟨s, 1, none⟩ (.int .i64 a1)).setCell ⟨s, 2, none⟩ (.int .i64 a2)).setCell ⟨s, 3, none⟩ (.int .i64 a3)).setCell ⟨s, 4, none⟩ (.int .i64 a4)).setCell ⟨s, 5, none⟩ (.int .i64 a5)).setCell ⟨s, 6, none⟩ (.int .i64 a6)).setCell ⟨s, 7, none⟩ (.int .i64 a7)).setCell ⟨s, 8, none⟩ (.int .i64 a8)).setCell ⟨s, 9, none⟩ (.int .i64 a9)).setCell ⟨s, 10, none⟩ (.int .i64 a10)).setCell ⟨s, 11, none⟩ (.int .i64 a11)).setCell ⟨s, 12, none⟩ d).heap[s]? = some (rxO a0 a1 a2 a3 a4 a5 a6 a7 a8 a9 a10 a11 d 0) := step _ 12 _ _ h11
  have h13 : ((((((((((((((w.setCell ⟨s, 0, none⟩ (.int .i64 a0)).setCell ⟨s, 1, none⟩ (.int .i64 a1)).setCell ⟨s, 2, none⟩ (.int .i64 a2)).setCell ⟨s, 3, none⟩ (.int .i64 a3)).setCell ⟨s, 4, none⟩ (.int .i64 a4)).setCell ⟨s, 5, none⟩ (.int .i64 a5)).setCell ⟨s, 6, none⟩ (.int .i64 a6)).setCell ⟨s, 7, none⟩ (.int .i64 a7)).setCell ⟨s, 8, none⟩ (.int .i64 a8)).setCell ⟨s, 9, none⟩ (.int .i64 a9)).setCell ⟨s, 10, none⟩ (.int .i64 a10)).setCell ⟨s, 11, none⟩ (.int .i64 a11)).setCell ⟨s, 12, none⟩ d).setCell ⟨s, 13, none⟩ (.int .i64 e)).heap[s]? = some (rxO a0 a1 a2 a3 a4 a5 a6 a7 a8 a9 a10 a11 d e) := step _ 13 _ _ h12
  exact h13
theorem secs10 (sc t : Nat) (h1 : 16 ≤ sc) (h2 : sc ≤ 39) (h3 : 1 ≤ t) (h4 : t ≤ 4) : secs 10 16 (sc : Int) 10 (t : Int) 2 0 4 8 = 33 := by
  have h : inAll 10 16 (sc : Int) 10 (t : Int) 2 0 4 8 := by
    refine ⟨⟨?_, ?_⟩, ⟨?_, ?_⟩, ⟨?_, ?_⟩, ⟨?_, ?_⟩, ⟨?_, ?_⟩, ⟨?_, ?_⟩, ⟨?_, ?_⟩, ⟨?_, ?_⟩, ?_⟩ <;> first | decide | omega
  unfold secs
  rw [if_pos h]
  decide
set_option maxRecDepth 100000 in
set_option maxHeartbeats 6000000 in
theorem made_any (z1 z2 : Int) (w : World) (y : Addr) (E : ErrAt w 4 y) :
    Calls Tryz.prog 19 #[.int .i64 z1, .int .i64 z2] w (MadeP (mkS z2) (mkT z1) w) := by
  have HM := Lib.hid (fun W => measures_any z1 z2 W)
  obtain ⟨s1, s2⟩ := mkS_in z2
  obtain ⟨t1, t2⟩ := mkT_in z1
  generalize mkS z2 = sc at HM s1 s2 ⊢
  generalize mkT z1 = t at HM t1 t2 ⊢
  have HN : Hid (∀ W, Below w.heap.size w W → Calls Tryz.prog 12 #[.agg #[.int .i64 10, .int .i64 16, .int .i64 (sc : Int), .int .i64 10, .int .i64 (t : Int), .int .i64 2, .int .i64 0, .int .i64 4, .int .i64 8]] W (PgMadeAt 10 t sc W)) := (fun W b => pnew_yes (m := 10) (t := t) (sc := sc) 10 16 2 0 4 8 (by decide) (by decide) (by omega) (may10 s2 t1 t2) (by rw [show ((10 : Nat) : Int) = 10 from rfl, secs10 sc t s1 s2 t1 t2]; decide) W y (E.below b))
  have HV := Lib.hid (fun W => rvalid_any sc t s1 s2 t1 t2 W)
  clear s1 s2 t1 t2 E
  go_enter Tryz.func19, Tryz.ntmps19
  go_wp2_with fail
  have b0 : Below w.heap.size w (w.alloc rx0) := (Below.refl _ _).alloc (Nat.le_refl _) _
  have hz : (w.alloc rx0).heap.size = w.heap.size + 1 := by simp
  have hblk : (w.alloc rx0).heap[w.heap.size]? = some rx0 := heap_alloc_new w _
  rw [rx0_eq]
  generalize w.alloc rx0 = w0 at b0 hz hblk ⊢
  obtain ⟨bx, hbx⟩ : ∃ bx, bx = w.heap.size := ⟨_, rfl⟩
  have HBX := Lib.hid hbx
  rw [← hbx] at hblk ⊢
  clear hbx
  refine (HM.out w0).mono ?_
  rintro e w1 ⟨rfl, b⟩
  replace hblk := keepG hblk b
  replace b0 := b0.trans (b.mono b0.size)
  clear b hz HM
  have HB := Lib.hid (And.intro b0 hblk)
  clear b0 hblk
  go_wp2_with fail
  generalize hw : w1.alloc (.cells #[.int .i64 10, .int .i64 16, .int .i64 (sc : Int), .int .i64 10, .int .i64 (t : Int), .int .i64 2, .int .i64 0, .int .i64 4, .int .i64 8] 23 (0, 0)) = w2
  obtain ⟨K, b⟩ := newG w1 w2 _ _ _ _ _ _ _ _ _ hw
  clear hw
  obtain ⟨bg, hbg⟩ : ∃ bg, bg = w1.heap.size := ⟨_, rfl⟩
  rw [← hbg] at K ⊢
  obtain ⟨b0, hblk⟩ := HB.out
  have hlt := lt_of_block hblk
  have hne : bx < bg := by omega
  replace hblk := keepG hblk b
  replace b0 := b0.trans (b.mono b0.size)
  clear b hbg hlt HB
  refine (HN.out w2 b0).mono ?_
  rintro e w3 ⟨cb, s, db, rfl, hP, hC, hD, b, hcb⟩
  replace K := keepG K b
  replace hblk := keepG hblk b
  replace b0 := b0.trans (b.mono b0.size)
  have HB := Lib.hid (And.intro b0 (And.intro hblk (And.intro K (And.intro hP (And.intro hC hD)))))
  obtain ⟨e0, e1, e2, e3, e4, e5, e6, e7, e8⟩ := g_cells K
  clear b0 hblk K hP hC hD b hcb HN
  go_wp2_with fail
  refine (HV.out w3).mono ?_
  rintro e w4 ⟨ga, gn, gc, rfl, hG, b⟩
  clear e0 e1 e2 e3 e4 e5 e6 e7 e8
  obtain ⟨b0, hblk, K, hP, hC, hD⟩ := HB.out
  clear HB
  replace K := keepG K b
  replace hblk := keepG hblk b
  replace b0 := b0.trans (b.mono b0.size)
  replace hP := hP.below b
  replace hC := hC.below b
  replace hD := keepB hD b
  have HB := Lib.hid (And.intro b0 (And.intro hblk (And.intro hG (And.intro hP (And.intro hC hD)))))
  obtain ⟨e0, e1, e2, e3, e4, e5, e6, e7, e8⟩ := g_cells K
  clear b0 hblk hP hC hD b hG HV
  go_wp2_with fail
  clear e0 e1 e2 e3 e4 e5 e6 e7 e8
  obtain ⟨b0, hblk, hG, hP, hC, hD⟩ := HB.out
  clear HB
  have bA : Below w4.heap.size w4 (w4.alloc (cdO (.int .i64 10) (.int .i64 (t : Int)) (.int .i64 ((sc : Int) + 32)) (.slice ga gn gc) (.int .i64 (deg 10 t : Int)))) := (Below.refl _ _).alloc (Nat.le_refl _) _
  have hq : (w4.alloc (cdO (.int .i64 10) (.int .i64 (t : Int)) (.int .i64 ((sc : Int) + 32)) (.slice ga gn gc) (.int .i64 (deg 10 t : Int)))).heap[w4.heap.size]? = some (cdO (.int .i64 10) (.int .i64 (t : Int)) (.int .i64 ((sc : Int) + 32)) (.slice ga gn gc) (.int .i64 (deg 10 t : Int))) := heap_alloc_new w4 _
  rw [show Obj.cells #[Value.int IntKind.i64 10, Value.int IntKind.i64 (t : Int), Value.int IntKind.i64 ((sc : Int) + 32), Value.slice ga gn gc, Value.int IntKind.i64 (deg 10 t : Int)] 27 (0, 0) = cdO (.int .i64 10) (.int .i64 (t : Int)) (.int .i64 ((sc : Int) + 32)) (.slice ga gn gc) (.int .i64 (deg 10 t : Int)) from rfl]
  generalize w4.alloc (cdO (.int .i64 10) (.int .i64 (t : Int)) (.int .i64 ((sc : Int) + 32)) (.slice ga gn gc) (.int .i64 (deg 10 t : Int))) = w5 at bA hq ⊢
  obtain ⟨bq, hbq⟩ : ∃ bq, bq = w4.heap.size := ⟨_, rfl⟩
  rw [← hbq] at hq ⊢
  have hlt := lt_of_block K
  have hlt2 := lt_of_block hblk
  have hn2 : bg < bq := by omega
  have hn3 : bx < bq := by omega
  clear hbq hlt hlt2
  replace K := keepG K bA
  replace hblk := keepG hblk bA
  replace b0 := b0.trans (bA.mono b0.size)
  replace hP := hP.below bA
  replace hC := hC.below bA
  replace hD := keepB hD bA
  replace hG := hG.below bA
  have HB := Lib.hid (And.intro b0 (And.intro hblk (And.intro hG (And.intro hP (And.intro hC hD)))))
  obtain ⟨e0, e1, e2, e3, e4, e5, e6, e7, e8⟩ := g_cells K
  obtain ⟨k0, k1, k2, k3, k4, k5, k6, k7, k8, k9, k10, k11, k12, k13, kf⟩ := rx_cells hblk
  obtain ⟨c0, c1, c2, c3, c4, cf⟩ := cd_cells hq
  clear b0 hblk K hP hC hD bA hG hq
  go_region
  go_wp2_with fail
  obtain ⟨b0, hblk, hG, hP, hC, hD⟩ := HB.out
  have hR := setRx hblk 10 16 (sc : Int) 10 (t : Int) 2 0 4 8 10 (t : Int) ((sc : Int) + 32) (.slice ga gn gc) (deg 10 t : Int)
  have o : Only bx w5 ((((((((((((((w5.setCell ⟨bx, 0, none⟩ (.int .i64 10)).setCell ⟨bx, 1, none⟩ (.int .i64 16)).setCell ⟨bx, 2, none⟩ (.int .i64 (sc : Int))).setCell ⟨bx, 3, none⟩ (.int .i64 10)).setCell ⟨bx, 4, none⟩ (.int .i64 (t : Int))).setCell ⟨bx, 5, none⟩ (.int .i64 2)).setCell ⟨bx, 6, none⟩ (.int .i64 0)).setCell ⟨bx, 7, none⟩ (.int .i64 4)).setCell ⟨bx, 8, none⟩ (.int .i64 8)).setCell ⟨bx, 9, none⟩ (.int .i64 10)).setCell ⟨bx, 10, none⟩ (.int .i64 (t : Int))).setCell ⟨bx, 11, none⟩ (.int .i64 ((sc : Int) + 32))).setCell ⟨bx, 12, none⟩ (.slice ga gn gc)).setCell ⟨bx, 13, none⟩ (.int .i64 (deg 10 t : Int))) := (((((((((((((Only.setCell w5 ⟨bx, 0, none⟩ (.int .i64 10)).trans (Only.setCell _ ⟨bx, 1, none⟩ (.int .i64 16))).trans (Only.setCell _ ⟨bx, 2, none⟩ (.int .i64 (sc : Int)))).trans (Only.setCell _ ⟨bx, 3, none⟩ (.int .i64 10))).trans (Only.setCell _ ⟨bx, 4, none⟩ (.int .i64 (t : Int)))).trans (Only.setCell _ ⟨bx, 5, none⟩ (.int .i64 2))).trans (Only.setCell _ ⟨bx, 6, none⟩ (.int .i64 0))).trans (Only.setCell _ ⟨bx, 7, none⟩ (.int .i64 4))).trans (Only.setCell _ ⟨bx, 8, none⟩ (.int .i64 8))).trans (Only.setCell _ ⟨bx, 9, none⟩ (.int .i64 10))).trans (Only.setCell _ ⟨bx, 10, none⟩ (.int .i64 (t : Int)))).trans (Only.setCell _ ⟨bx, 11, none⟩ (.int .i64 ((sc : Int) + 32)))).trans (Only.setCell _ ⟨bx, 12, none⟩ (.slice ga gn gc))).trans (Only.setCell _ ⟨bx, 13, none⟩ (.int .i64 (deg 10 t : Int)))
  generalize ((((((((((((((w5.setCell ⟨bx, 0, none⟩ (.int .i64 10)).setCell ⟨bx, 1, none⟩ (.int .i64 16)).setCell ⟨bx, 2, none⟩ (.int .i64 (sc : Int))).setCell ⟨bx, 3, none⟩ (.int .i64 10)).setCell ⟨bx, 4, none⟩ (.int .i64 (t : Int))).setCell ⟨bx, 5, none⟩ (.int .i64 2)).setCell ⟨bx, 6, none⟩ (.int .i64 0)).setCell ⟨bx, 7, none⟩ (.int .i64 4)).setCell ⟨bx, 8, none⟩ (.int .i64 8)).setCell ⟨bx, 9, none⟩ (.int .i64 10)).setCell ⟨bx, 10, none⟩ (.int .i64 (t : Int))).setCell ⟨bx, 11, none⟩ (.int .i64 ((sc : Int) + 32))).setCell ⟨bx, 12, none⟩ (.slice ga gn gc)).setCell ⟨bx, 13, none⟩ (.int .i64 (deg 10 t : Int))) = w6 at o hR ⊢
  clear k0 k1 k2 k3 k4 k5 k6 k7 k8 k9 k10 k11 k12 k13 kf c0 c1 c2 c3 c4 cf e0 e1 e2 e3 e4 e5 e6 e7 e8
  obtain ⟨k0, k1, k2, k3, k4, k5, k6, k7, k8, k9, k10, k11, k12, k13, kf⟩ := rx_cells hR
  have n1 : cb ≠ bx := by
    intro e
    have h : w5.heap[cb]? = some (.cells #[.int .i64 (sc : Int), .pointer (some ⟨s, 0, none⟩), .pointer (some ⟨db, 0, none⟩)] 82 (0, 0)) := hP
    rw [e, hblk] at h
    simp [rx0, rxO] at h
  have n2 : db ≠ bx := by
    intro e
    have h : w5.heap[db]? = some (.cells #[.pointer (some ⟨s, 0, none⟩)] 110 (0, 0)) := hD
    rw [e, hblk] at h
    simp [rx0, rxO] at h
  obtain ⟨X, hX, hX2⟩ := hG
  have e32 : (sc : Int) + 32 = ((sc + 32 : Nat) : Int) := by omega
  exact bodyPost_ret (v := .tuple #[.pointer (some ⟨cb, 0, none⟩), .agg #[.int .i64 10, .int .i64 16, .int .i64 (sc : Int), .int .i64 10, .int .i64 (t : Int), .int .i64 2, .int .i64 0, .int .i64 4, .int .i64 8, .int .i64 10, .int .i64 (t : Int), .int .i64 ((sc : Int) + 32), .slice ga gn gc, .int .i64 (deg 10 t : Int)], .bool true]) (by simp [results, Tryz.results19, go_sem, k0, k1, k2, k3, k4, k5, k6, k7, k8, k9, k10, k11, k12, k13]) rfl ⟨cb, s, db, ga, gn, gc, by rw [e32], (o.block cb n1).trans hP, CodeAt_rx hC o.drew hblk, (o.block db n2).trans hD, ⟨X, pol_rx hX o.drew hblk, hX2⟩, (b0.trans (o.below (Nat.le_of_eq HBX.out.symm))).drew⟩
end Go.Proofs.YtdhcigiaidlmbaaGreatDoor.Pg
/- In how many bits two lists differ, whatever their lengths. By the verifier of shale. -/
namespace Go.Proofs.YtdhcigiaidlmbaaGreatDoor.Dec
open Go Go.RowKit Bin Pl Cos Enc Syn Loc Sea
set_option linter.unusedVariables false
/-- in how many bits two lists differ; what one is longer by counts whole. -/
def ds (n1 n2 : Nat) (X Y : List (BitVec 8)) : Nat := 8 * (n1 - n2 + (n2 - n1)) + pop (val X ^^^ val Y) (8 * min n1 n2)
theorem int_eq {a b : Int} (h : a = b) : Value.int .i64 a = Value.int .i64 b := by rw [h]
section
attribute [local go_sem] Bits32.bxor
theorem pol_cell {w : World} {a : Option Addr} {n c : Nat} {X : List (BitVec 8)} (h : Pol w a n c X) {i : Nat} (hi : i < n) : ∃ b o, a = some ⟨b, o, none⟩ ∧ w.cell? ⟨b, o + i, none⟩ = some (.int .u8 (Bits32.b (nth8 X i))) := by
  rcases h.hrow with h0 | ⟨b, o, e, hr, _⟩
  · omega
  · exact ⟨b, o, e, hr i (by have := h.hlen; omega)⟩
end
end Go.Proofs.YtdhcigiaidlmbaaGreatDoor.Dec
/- How many bits of bytes are 0. By the verifier of shale. -/
namespace Go.Proofs.YtdhcigiaidlmbaaGreatDoor.Pg
open Go Go.RowKit Bin Pl Cos Enc Syn Loc Sea Dec
set_option linter.unusedVariables false
theorem zN_ones : ∀ c : BitVec 8, Lib.onesCount (~~~c).toNat = Meta.zN c 8 := by decide +kernel
theorem zN_le8 : ∀ c : BitVec 8, Meta.zN c 8 ≤ 8 := by decide +kernel
theorem not_ones : ∀ c : BitVec 8, 255#8 ^^^ c = ~~~c := by decide +kernel
theorem not8 (c : BitVec 8) : bits .xor .u8 IntKind.u8.max (Bits32.b c) = Bits32.b (~~~c) := by
  rw [← not_ones, ← Bits32.bxor]
  rfl
set_option maxRecDepth 100000 in
set_option maxHeartbeats 1000000 in
theorem zeros_any (l : List (BitVec 8)) (a : Option Addr) (n cap : Nat) (w : World) (h : Pol w a n cap l) (hn : n ≤ 100000) :
    Calls Tryz.prog 28 #[.slice a n cap] w fun e w' => e = .returned (.int .i64 (Meta.zL l n : Int)) ∧ w = w' := by
  have H := Lib.hid h
  clear h
  go_enter Tryz.func28, Tryz.ntmps28
  go_wp2_with fail
  go_loopg [3, 8] n (fun gh s3 s8 wx => ∃ k : Nat, gh = n - k ∧ k ≤ n ∧ s8 = .int .i64 (k : Int) ∧ s3 = .int .i64 (Meta.zL l k : Int) ∧ w = wx)
  case atStart => exact ⟨0, rfl, Nat.zero_le _, rfl, rfl, rfl⟩
  case round =>
    obtain ⟨k, hg, hk, rfl, rfl, rfl⟩ := hrel
    have HG := Lib.hid hg
    clear hg
    have hz := Meta.zL_le l k
    by_cases hlt : k < n
    · have x1 : (k : Int) < (n : Int) := by omega
      have x0 : (0 : Int) ≤ (k : Int) := by omega
      have HJ : Hid (k + 1 ≤ n) := hlt
      obtain ⟨b1, o1, rfl, d1⟩ := pol_cell H.out hlt
      have HZ : Hid (Meta.zL l (k + 1) = Meta.zL l k + Meta.zN (nth8 l k) 8) := rfl
      generalize nth8 l k = c at d1 HZ
      have h8 := zN_le8 c
      have HO := Lib.hid (ones8_any (~~~c) w)
      rw [zN_ones] at HO
      have hnot := not8 c
      obtain ⟨p, hp⟩ : ∃ p, p = Meta.zL l k := ⟨_, rfl⟩
      rw [← hp] at hz HZ ⊢
      generalize Meta.zN c 8 = q at h8 HO HZ
      generalize Bits32.b c = cv at d1 hnot
      generalize Bits32.b (~~~c) = nv at hnot HO
      clear hlt hp
      go_wp2_with fail
      refine HO.out.mono ?_
      rintro e w' ⟨rfl, rfl⟩
      go_wp2_with fail
      go_roundg (n - (k + 1))
      case measure => have := HG.out; have := HJ.out; omega
      case rel => exact ⟨k + 1, rfl, HJ.out, by go_num, int_eq (by rw [HZ.out]; omega), rfl⟩
    · obtain rfl : k = n := by omega
      have x1 : ¬ (k : Int) < (k : Int) := by omega
      clear hlt
      obtain ⟨p, hp⟩ : ∃ p, p = Meta.zL l k := ⟨_, rfl⟩
      rw [← hp] at hz ⊢
      have HPp := Lib.hid hp
      clear hp
      go_wp2_with fail
      go_ret
      rw [← HPp.out]
      exact ⟨rfl, rfl⟩
end Go.Proofs.YtdhcigiaidlmbaaGreatDoor.Pg
/- Opening a page, step by step. By the verifier of shale. -/
namespace Go.Proofs.YtdhcigiaidlmbaaGreatDoor.Pg
open Go Go.RowKit Bin Pl Cos Enc Syn Loc Sea Dec Crc
set_option linter.unusedVariables false
/-- a page on its way. -/
def rdAt (w : World) (rb : Nat) (x y : Int) (bv : Value) (cls : Int) (K : Meta.M6) (dv : Value) (fx : Int) : Prop :=
  w.heap[rb]? = some (.cells #[.int .i64 x, .int .i64 y, bv, .int .i64 cls, .int .i64 (Meta.fld K 0), .int .i64 (Meta.fld K 1), .int .i64 (Meta.fld K 2), .int .i64 (Meta.fld K 3), .int .i64 (Meta.fld K 4), .int .i64 (Meta.fld K 5), dv, .int .i64 fx] 96 (0, 0))
theorem rdAt.lt {w : World} {rb : Nat} {x y : Int} {bv : Value} {cls : Int} {K : Meta.M6} {dv : Value} {fx : Int} (h : rdAt w rb x y bv cls K dv fx) : rb < w.heap.size := lt_of_block h
theorem rdAt.cells {w : World} {rb : Nat} {x y : Int} {bv : Value} {cls : Int} {K : Meta.M6} {dv : Value} {fx : Int} (h : rdAt w rb x y bv cls K dv fx) :
    w.cell? ⟨rb, 0, none⟩ = some (.int .i64 x) ∧ w.cell? ⟨rb, 1, none⟩ = some (.int .i64 y) ∧ w.cell? ⟨rb, 2, none⟩ = some bv ∧ w.cell? ⟨rb, 3, none⟩ = some (.int .i64 cls) ∧ w.cell? ⟨rb, 4, none⟩ = some (.int .i64 (Meta.fld K 0)) ∧ w.cell? ⟨rb, 5, none⟩ = some (.int .i64 (Meta.fld K 1)) ∧ w.cell? ⟨rb, 6, none⟩ = some (.int .i64 (Meta.fld K 2)) ∧ w.cell? ⟨rb, 7, none⟩ = some (.int .i64 (Meta.fld K 3)) ∧ w.cell? ⟨rb, 8, none⟩ = some (.int .i64 (Meta.fld K 4)) ∧ w.cell? ⟨rb, 9, none⟩ = some (.int .i64 (Meta.fld K 5)) ∧ w.cell? ⟨rb, 10, none⟩ = some dv ∧ w.cell? ⟨rb, 11, none⟩ = some (.int .i64 fx) ∧ ∀ i, w.frozen? ⟨rb, i, none⟩ = false := by
  have e : w.heap[rb]? = _ := h
  refine ⟨?_, ?_, ?_, ?_, ?_, ?_, ?_, ?_, ?_, ?_, ?_, ?_, fun i => ?_⟩
  · unfold World.cell?; simp only; rw [e]; rfl
  · unfold World.cell?; simp only; rw [e]; rfl
  · unfold World.cell?; simp only; rw [e]; rfl
  · unfold World.cell?; simp only; rw [e]; rfl
  · unfold World.cell?; simp only; rw [e]; rfl
  · unfold World.cell?; simp only; rw [e]; rfl
  · unfold World.cell?; simp only; rw [e]; rfl
  · unfold World.cell?; simp only; rw [e]; rfl
  · unfold World.cell?; simp only; rw [e]; rfl
  · unfold World.cell?; simp only; rw [e]; rfl
  · unfold World.cell?; simp only; rw [e]; rfl
  · unfold World.cell?; simp only; rw [e]; rfl
  · unfold World.frozen?; simp only; rw [e]; rfl
theorem rdAt.same {w w' : World} {rb : Nat} {x y : Int} {bv : Value} {cls : Int} {K : Meta.M6} {dv : Value} {fx : Int} (h : rdAt w rb x y bv cls K dv fx) (b : w'.heap[rb]? = w.heap[rb]?) : rdAt w' rb x y bv cls K dv fx := b.trans h
section
variable {m : Nat} [M : Pl.Mid m]
/-- what opening stands on. -/
structure PBase (m t sc : Nat) [M : Pl.Mid m] (w : World) (cb s db : Nat) (ym yz yr : Addr) : Prop where
  pg : pgAt w cb sc s db
  base : Base m t (sc + 32) w db s ym yz
  rcd : ErrAt w 1 yr
  tab : Tab w
  sc1 : 1 ≤ sc
  sc2 : sc ≤ 1024
theorem PBase.below {t sc : Nat} {w w' : World} {cb s db : Nat} {ym yz yr : Addr} (h : PBase m t sc w cb s db ym yz yr) (b : Below w.heap.size w w') : PBase m t sc w' cb s db ym yz yr :=
  ⟨h.pg.below b, h.base.below b, h.rcd.below b, h.tab.below b h.tab.lt, h.sc1, h.sc2⟩
set_option maxRecDepth 100000 in
set_option maxHeartbeats 1000000 in
theorem erased_any {t sc : Nat} {w : World} {cb s db rb : Nat} {ym yz yr : Addr} (B : PBase m t sc w cb s db ym yz yr) {x y : Int} {a : Option Addr} {N c : Nat} {l : List (BitVec 8)} (hl : Pol w a N c l) (hN : N ≤ 100000) (R : rdAt w rb x y (.slice a N c) 0 Meta.zeroM (.slice none 0 0) 0) :
    Calls Tryz.prog 54 #[.pointer (some ⟨cb, 0, none⟩), .pointer (some ⟨rb, 0, none⟩)] w fun e w' =>
      (t < Meta.zL l N ∧ e = .returned (.bool false) ∧ Drawn w w') ∨ (Meta.zL l N ≤ t ∧ e = .returned (.bool true) ∧ rdAt w' rb x y (.slice a N c) 2 Meta.zeroM (.slice none 0 0) 0 ∧ Tn [rb] w w' [rb]) := by
  obtain ⟨k0, k1, k2⟩ := B.pg.cells
  obtain ⟨r0, r1, r2, _⟩ := R.cells
  have HZ : Hid (∀ nn, Calls Tryz.prog 28 #[.slice a N c] (w.drewN nn) fun e w' => e = .returned (.int .i64 (Meta.zL l N : Int)) ∧ Drawn (w.drewN nn) w') := fun nn => (zeros_any l a N c _ (hl.below ((Drawn.mk w nn).below _)) hN).mono fun e w' h => ⟨h.1, h.2 ▸ Drawn.refl _⟩
  have HT : Hid (∀ nn, Calls Tryz.prog 81 #[.pointer (some ⟨s, 0, none⟩)] (w.drewN nn) fun e w' => e = .returned (.int .i64 (t : Int)) ∧ Drawn (w.drewN nn) w') := fun nn => (t_code (w.drewN nn) s (B.base.code.below ((Drawn.mk w nn).below _))).mono fun e w' h => ⟨h.1, h.2 ▸ Drawn.refl _⟩
  obtain ⟨z, hz⟩ : ∃ z, z = Meta.zL l N := ⟨_, rfl⟩
  rw [← hz] at HZ ⊢
  have HR := Lib.hid R
  clear B R hl hz
  go_enter Tryz.func54, Tryz.ntmps54
  go_wp2_with fail
  by_cases hle : z ≤ t
  · have t1 : ¬ (t : Int) < (z : Int) := by omega
    have t2 : decide ((t : Int) < (z : Int)) = false := decide_eq_false t1
    have t3 : decide (t < z) = false := decide_eq_false (by omega)
    have HLE := Lib.hid hle
    clear hle
    go_quiet (first
      | (go_at_call 28; exact quiet_drawn (HZ.out _))
      | (go_at_call 81; exact quiet_drawn (HT.out _)))
    have hd := Drawn.mk w nq
    have R1 : rdAt (w.drewN nq) rb x y (.slice a N c) 0 Meta.zeroM (.slice none 0 0) 0 := HR.out
    have hT : Tn [rb] w ((w.drewN nq).setCell ⟨rb, 3, none⟩ (.int .i64 2)) [rb] := (Tn.below (hd.below w.heap.size)).trans (Tn.setCell _ _ _ (by simp))
    have R2 : rdAt ((w.drewN nq).setCell ⟨rb, 3, none⟩ (.int .i64 2)) rb x y (.slice a N c) 2 Meta.zeroM (.slice none 0 0) 0 := heap_setCell_same _ _ 3 _ _ _ R1
    obtain ⟨_, _, _, s3, _, _, _, _, _, _, _, _, sf⟩ := R1.cells
    have sf3 := sf 3
    have HE := Lib.hid (And.intro R2 hT)
    clear hd R1 hT R2 sf HZ HT
    generalize hww : w.drewN nq = w5 at s3 sf3 HE ⊢
    clear hww
    go_wp2_with fail
    go_ret
    exact .inr ⟨HLE.out, rfl, HE.out⟩
  · have t1 : (t : Int) < (z : Int) := by omega
    have t2 : decide ((t : Int) < (z : Int)) = true := decide_eq_true t1
    have t3 : decide (t < z) = true := decide_eq_true (by omega)
    have HLE : Hid (t < z) := by show t < z; omega
    clear hle
    go_quiet (first
      | (go_at_call 28; exact quiet_drawn (HZ.out _))
      | (go_at_call 81; exact quiet_drawn (HT.out _)))
    have HDr := Lib.hid (Drawn.mk w nq)
    generalize w.drewN nq = w5 at HDr ⊢
    go_wp2_with fail
    go_ret
    exact .inl ⟨HLE.out, rfl, HDr.out⟩
end
end Go.Proofs.YtdhcigiaidlmbaaGreatDoor.Pg
/- Opening a page on which nothing is. By the verifier of shale. -/
namespace Go.Proofs.YtdhcigiaidlmbaaGreatDoor.Pg
open Go Go.RowKit Bin Pl Cos Enc Syn Loc Sea Dec Crc
set_option linter.unusedVariables false
/-- what was read, in a block of its own. -/
def rsO (cls : Int) (K : Meta.M6) (dv : Value) (fx : Int) : Obj := .cells #[.int .i64 cls, .int .i64 (Meta.fld K 0), .int .i64 (Meta.fld K 1), .int .i64 (Meta.fld K 2), .int .i64 (Meta.fld K 3), .int .i64 (Meta.fld K 4), .int .i64 (Meta.fld K 5), dv, .int .i64 fx] 55 (0, 0)
theorem rs_cells {w : World} {b : Nat} {cls : Int} {K : Meta.M6} {dv : Value} {fx : Int} (h : w.heap[b]? = some (rsO cls K dv fx)) : w.cell? ⟨b, 0, none⟩ = some (.int .i64 cls) ∧ w.cell? ⟨b, 1, none⟩ = some (.int .i64 (Meta.fld K 0)) ∧ w.cell? ⟨b, 2, none⟩ = some (.int .i64 (Meta.fld K 1)) ∧ w.cell? ⟨b, 3, none⟩ = some (.int .i64 (Meta.fld K 2)) ∧ w.cell? ⟨b, 4, none⟩ = some (.int .i64 (Meta.fld K 3)) ∧ w.cell? ⟨b, 5, none⟩ = some (.int .i64 (Meta.fld K 4)) ∧ w.cell? ⟨b, 6, none⟩ = some (.int .i64 (Meta.fld K 5)) ∧ w.cell? ⟨b, 7, none⟩ = some dv ∧ w.cell? ⟨b, 8, none⟩ = some (.int .i64 fx) ∧ ∀ i, w.frozen? ⟨b, i, none⟩ = false := by
  refine ⟨?_, ?_, ?_, ?_, ?_, ?_, ?_, ?_, ?_, fun i => ?_⟩
  · unfold World.cell?; simp only; rw [h]; rfl
  · unfold World.cell?; simp only; rw [h]; rfl
  · unfold World.cell?; simp only; rw [h]; rfl
  · unfold World.cell?; simp only; rw [h]; rfl
  · unfold World.cell?; simp only; rw [h]; rfl
  · unfold World.cell?; simp only; rw [h]; rfl
  · unfold World.cell?; simp only; rw [h]; rfl
  · unfold World.cell?; simp only; rw [h]; rfl
  · unfold World.cell?; simp only; rw [h]; rfl
  · unfold World.frozen?; simp only; rw [h]; rfl
/-- what was read, as a value. -/
abbrev rsV (cls : Int) (K : Meta.M6) (dv : Value) (fx : Int) : Value := .agg #[.int .i64 cls, .int .i64 (Meta.fld K 0), .int .i64 (Meta.fld K 1), .int .i64 (Meta.fld K 2), .int .i64 (Meta.fld K 3), .int .i64 (Meta.fld K 4), .int .i64 (Meta.fld K 5), dv, .int .i64 fx]
theorem newRs (w W : World) (h : w.alloc (.cells #[.int .i64 0, .int .i64 0, .int .i64 0, .int .i64 0, .int .i64 0, .int .i64 0, .int .i64 0, .slice none 0 0, .int .i64 0] 55 (0, 0)) = W) : W.heap[w.heap.size]? = some (rsO 0 Meta.zeroM (.slice none 0 0) 0) ∧ Below w.heap.size w W := by
  subst h
  exact ⟨heap_alloc_new w _, (Below.refl _ _).alloc (Nat.le_refl _) _⟩
/-- the list of the steps, in block b. -/
def pgSteps (w : World) (b cb : Nat) : Prop := w.heap[b]? = some (.cells #[.func (.func 54) #[.pointer (some ⟨cb, 0, none⟩)] #[], .func (.func 55) #[.pointer (some ⟨cb, 0, none⟩)] #[], .func (.func 56) #[.pointer (some ⟨cb, 0, none⟩)] #[]] 97 (0, 0))
theorem pgSteps.cells {w : World} {b cb : Nat} (h : pgSteps w b cb) : w.cell? ⟨b, 0, none⟩ = some (.func (.func 54) #[.pointer (some ⟨cb, 0, none⟩)] #[]) ∧ w.cell? ⟨b, 1, none⟩ = some (.func (.func 55) #[.pointer (some ⟨cb, 0, none⟩)] #[]) ∧ w.cell? ⟨b, 2, none⟩ = some (.func (.func 56) #[.pointer (some ⟨cb, 0, none⟩)] #[]) := by
  have e : w.heap[b]? = _ := h
  refine ⟨?_, ?_, ?_⟩ <;> (unfold World.cell?; simp only; rw [e]; rfl)
section
variable {m : Nat} [M : Pl.Mid m]
set_option maxRecDepth 100000 in
set_option maxHeartbeats 1000000 in
theorem size_any {t sc : Nat} {w : World} {cb s db : Nat} {ym yz yr : Addr} (B : PBase m t sc w cb s db ym yz yr) :
    Calls Tryz.prog 17 #[.pointer (some ⟨cb, 0, none⟩)] w fun e w' => e = .returned (.int .i64 ((sc + 32 + pb (deg m t) : Nat) : Int)) ∧ Drawn w w' := by
  obtain ⟨k0, k1, k2⟩ := B.pg.cells
  have ht40 := B.base.t40
  have hs2 := B.sc2
  have hD5 := deg_560 (m := m) ht40
  have HD : Hid (∀ nn, Calls Tryz.prog 40 #[.pointer (some ⟨s, 0, none⟩)] (w.drewN nn) fun e w' => e = .returned (.int .i64 ((sc + 32 : Nat) : Int)) ∧ Drawn (w.drewN nn) w') := fun nn => (data_code (w.drewN nn) s (B.base.code.below ((Drawn.mk w nn).below _))).mono fun e w' h => ⟨h.1, h.2 ▸ Drawn.refl _⟩
  have HP : Hid (∀ nn, Calls Tryz.prog 41 #[.pointer (some ⟨s, 0, none⟩)] (w.drewN nn) fun e w' => e = .returned (.int .i64 (pb (deg m t) : Int)) ∧ Drawn (w.drewN nn) w') := fun nn => (parityB_any (w.drewN nn) s (B.base.code.below ((Drawn.mk w nn).below _)) ht40).mono fun e w' h => ⟨h.1, h.2 ▸ Drawn.refl _⟩
  have hP2 : pb (deg m t) ≤ 100 := by unfold pb; omega
  generalize pb (deg m t) = P at HP hP2 ⊢
  obtain ⟨n, hn⟩ : ∃ n, n = sc + 32 := ⟨_, rfl⟩
  rw [← hn] at HD ⊢
  have hn2 : n ≤ 1100 := by omega
  have e1 : IntKind.i64.wrap ((n : Int) + (P : Int)) = ((n + P : Nat) : Int) := by rw [IntWalk.i64_in _ (by omega)]; omega
  clear B hn
  go_enter Tryz.func17, Tryz.ntmps17
  go_wp2_with fail
  go_quiet (first
    | (go_at_call 40; exact quiet_drawn (HD.out _))
    | (go_at_call 41; exact quiet_drawn (HP.out _)))
  have HDr := Lib.hid (Drawn.mk w nq)
  generalize w.drewN nq = w5 at HDr ⊢
  go_wp2_with fail
  go_ret
  exact ⟨rfl, HDr.out⟩
set_option maxRecDepth 100000 in
set_option maxHeartbeats 1500000 in
theorem openE_any {t sc : Nat} {w : World} {cb s db : Nat} {ym yz yr : Addr} (B : PBase m t sc w cb s db ym yz yr) (x y : Int) {a : Option Addr} {N c : Nat} {l : List (BitVec 8)} (hl : Pol w a N c l) (hN : N = sc + 32 + pb (deg m t)) (hz : Meta.zL l N ≤ t) :
    Calls Tryz.prog 24 #[.pointer (some ⟨cb, 0, none⟩), .agg #[.int .i64 x, .int .i64 y], .slice a N c] w fun e w' => e = .returned (.tuple #[rsV 2 Meta.zeroM (.slice none 0 0) 0, .nilIface]) ∧ Below w.heap.size w w' := by
  have hs2 := B.sc2
  have hD5 := deg_560 (m := m) B.base.t40
  have hP2 : pb (deg m t) ≤ 100 := by unfold pb; omega
  have hN4 : N ≤ 1200 := by omega
  have HB := Lib.hid B
  have HL := Lib.hid hl
  have HZ := Lib.hid hz
  have HN := Lib.hid hN
  clear B hl hz hP2 hD5 hN
  go_enter Tryz.func24, Tryz.ntmps24
  go_upto_region 1 with (fail)
  generalize hw : w.alloc (.cells #[.int .i64 x, .int .i64 y] 43 (0, 0)) = w1
  obtain ⟨Q, b, hsz⟩ := newPl w w1 x y hw
  clear hw
  obtain ⟨bp, hbp⟩ : ∃ bp, bp = w.heap.size := ⟨_, rfl⟩
  have HBp := Lib.hid hbp
  rw [← hbp] at Q hsz ⊢
  generalize hw : w1.alloc (.cells #[.int .i64 0, .int .i64 0, .int .i64 0, .int .i64 0, .int .i64 0, .int .i64 0, .int .i64 0, .slice none 0 0, .int .i64 0] 55 (0, 0)) = w2
  obtain ⟨R, b2⟩ := newRs w1 w2 hw
  clear hw hbp
  obtain ⟨rs, hrs⟩ : ∃ rs, rs = bp + 1 := ⟨_, rfl⟩
  rw [hsz, ← hrs] at R
  rw [← hrs]
  replace Q := (b2.block bp (lt_of_block Q)).trans Q
  have B2 := b.trans (b2.mono b.size)
  have hrsl : rs < w2.heap.size := lt_of_block R
  have hrsw : w.heap.size ≤ rs := by have := HBp.out; omega
  have HRW := Lib.hid hrsw
  clear b b2 hsz hrs hrsw
  have HSz := Lib.hid (size_any (HB.out.below B2))
  rw [← HN.out] at HSz
  go_wp2_with fail
  refine HSz.out.mono ?_
  rintro e w3 ⟨rfl, d⟩
  have b := d.below w2.heap.size
  replace Q := (b.block bp (lt_of_block Q)).trans Q
  replace R := (b.block rs hrsl).trans R
  have hrsl3 : rs < w3.heap.size := lt_of_block R
  have B3 := B2.trans (b.mono B2.size)
  obtain ⟨p0, p1⟩ := pl_cells Q
  clear b d B2 hrsl HSz Q
  go_wp2_with fail
  obtain ⟨w4, hw4⟩ : ∃ w4, w4 = ((w3.alloc (.cells #[.int .i64 x, .int .i64 y, .slice a N c, .int .i64 0, .int .i64 0, .int .i64 0, .int .i64 0, .int .i64 0, .int .i64 0, .int .i64 0, .slice none 0 0, .int .i64 0] 96 (0, 0))).alloc (.cells #[.func (.func 54) #[.pointer (some ⟨cb, 0, none⟩)] #[], .func (.func 55) #[.pointer (some ⟨cb, 0, none⟩)] #[], .func (.func 56) #[.pointer (some ⟨cb, 0, none⟩)] #[]] 97 (0, 0))) := ⟨_, rfl⟩
  obtain ⟨rb, hrbE⟩ : ∃ rb, rb = w3.heap.size := ⟨_, rfl⟩
  have b4 : Below w3.heap.size w3 w4 := by rw [hw4]; exact ((Below.refl _ _).alloc (Nat.le_refl _) _).alloc (by simp) _
  have hRd : rdAt w4 rb x y (.slice a N c) 0 Meta.zeroM (.slice none 0 0) 0 := by
    rw [hw4, hrbE]; exact (Below.heap_alloc _ _ _ (by simp)).trans (heap_alloc_new w3 _)
  have hSt : pgSteps w4 (rb + 1) cb := by
    rw [hw4, hrbE]
    have h := heap_alloc_new (w3.alloc (.cells #[.int .i64 x, .int .i64 y, .slice a N c, .int .i64 0, .int .i64 0, .int .i64 0, .int .i64 0, .int .i64 0, .int .i64 0, .int .i64 0, .slice none 0 0, .int .i64 0] 96 (0, 0))) (.cells #[.func (.func 54) #[.pointer (some ⟨cb, 0, none⟩)] #[], .func (.func 55) #[.pointer (some ⟨cb, 0, none⟩)] #[], .func (.func 56) #[.pointer (some ⟨cb, 0, none⟩)] #[]] 97 (0, 0))
    rw [World.size_alloc] at h
    exact h
  rw [← hw4, ← hrbE]
  have B4 := B3.trans (b4.mono B3.size)
  replace R := (b4.block rs hrsl3).trans R
  have hrbw : w.heap.size ≤ rb := by rw [hrbE]; exact B3.size
  have hne : rs ≠ rb := by omega
  have HEr := Lib.hid (erased_any (HB.out.below B4) (HL.out.below B4) (by omega) hRd)
  have HW4 := Lib.hid (And.intro R (And.intro B4 (And.intro hrbw hne)))
  obtain ⟨s0, s1, s2⟩ := hSt.cells
  clear hw4 hrbE b4 hRd hSt R B4 hrbw hne B3 p0 p1 hrsl3
  refine wp_loop_rounds 4 ?_
  rw [rounds_succ]
  go_wp2_with fail
  refine HEr.out.mono ?_
  rintro e w5 h
  rcases h with ⟨h1, _, _⟩ | ⟨_, rfl, hR5, hT5⟩
  · exact absurd HZ.out (by omega)
  · obtain ⟨R4, B4, hrbw, hne⟩ := HW4.out
    have R5 : w5.heap[rs]? = some (rsO 0 Meta.zeroM (.slice none 0 0) 0) := (hT5.same rs (lt_of_block R4) (by simpa using hne)).trans R4
    have B5 : Below w.heap.size w w5 := B4.trans { os := hT5.os, tape := hT5.tape, output := hT5.output, size := hT5.size, block := fun k hk => hT5.same k (by have := B4.size; omega) (by simp; omega) }
    obtain ⟨_, _, _, r3, r4, r5, r6, r7, r8, r9, r10, r11, _⟩ := hR5.cells
    obtain ⟨q0, q1, q2, q3, q4, q5, q6, q7, q8, qf⟩ := rs_cells R5
    have f0 := qf 0
    have f1 := qf 1
    have f2 := qf 2
    have f3 := qf 3
    have f4 := qf 4
    have f5 := qf 5
    have f6 := qf 6
    have f7 := qf 7
    have f8 := qf 8
    have hF : ((((((((((w5.setCell ⟨rs, 0, none⟩ (.int .i64 2)).setCell ⟨rs, 1, none⟩ (.int .i64 (Meta.fld Meta.zeroM 0))).setCell ⟨rs, 2, none⟩ (.int .i64 (Meta.fld Meta.zeroM 1))).setCell ⟨rs, 3, none⟩ (.int .i64 (Meta.fld Meta.zeroM 2))).setCell ⟨rs, 4, none⟩ (.int .i64 (Meta.fld Meta.zeroM 3))).setCell ⟨rs, 5, none⟩ (.int .i64 (Meta.fld Meta.zeroM 4))).setCell ⟨rs, 6, none⟩ (.int .i64 (Meta.fld Meta.zeroM 5))).setCell ⟨rs, 7, none⟩ (.slice none 0 0)).setCell ⟨rs, 8, none⟩ (.int .i64 0))).heap[rs]? = some (rsO 2 Meta.zeroM (.slice none 0 0) 0) := heap_setCell_same _ _ 8 _ _ _ (heap_setCell_same _ _ 7 _ _ _ (heap_setCell_same _ _ 6 _ _ _ (heap_setCell_same _ _ 5 _ _ _ (heap_setCell_same _ _ 4 _ _ _ (heap_setCell_same _ _ 3 _ _ _ (heap_setCell_same _ _ 2 _ _ _ (heap_setCell_same _ _ 1 _ _ _ (heap_setCell_same _ _ 0 _ _ _ R5))))))))
    have hB : Below w.heap.size w (((((((((w5.setCell ⟨rs, 0, none⟩ (.int .i64 2)).setCell ⟨rs, 1, none⟩ (.int .i64 (Meta.fld Meta.zeroM 0))).setCell ⟨rs, 2, none⟩ (.int .i64 (Meta.fld Meta.zeroM 1))).setCell ⟨rs, 3, none⟩ (.int .i64 (Meta.fld Meta.zeroM 2))).setCell ⟨rs, 4, none⟩ (.int .i64 (Meta.fld Meta.zeroM 3))).setCell ⟨rs, 5, none⟩ (.int .i64 (Meta.fld Meta.zeroM 4))).setCell ⟨rs, 6, none⟩ (.int .i64 (Meta.fld Meta.zeroM 5))).setCell ⟨rs, 7, none⟩ (.slice none 0 0)).setCell ⟨rs, 8, none⟩ (.int .i64 0)) := ((((((((B5.setCell HRW.out _).setCell HRW.out _).setCell HRW.out _).setCell HRW.out _).setCell HRW.out _).setCell HRW.out _).setCell HRW.out _).setCell HRW.out _).setCell HRW.out _
    have HF := Lib.hid (And.intro hF hB)
    clear hR5 hT5 R4 B4 hrbw hne R5 B5 qf hF hB s0 s1 s2 HEr HW4
    go_wp2_with fail
    obtain ⟨hF, hB⟩ := HF.out
    generalize (((((((((w5.setCell ⟨rs, 0, none⟩ (.int .i64 2)).setCell ⟨rs, 1, none⟩ (.int .i64 (Meta.fld Meta.zeroM 0))).setCell ⟨rs, 2, none⟩ (.int .i64 (Meta.fld Meta.zeroM 1))).setCell ⟨rs, 3, none⟩ (.int .i64 (Meta.fld Meta.zeroM 2))).setCell ⟨rs, 4, none⟩ (.int .i64 (Meta.fld Meta.zeroM 3))).setCell ⟨rs, 5, none⟩ (.int .i64 (Meta.fld Meta.zeroM 4))).setCell ⟨rs, 6, none⟩ (.int .i64 (Meta.fld Meta.zeroM 5))).setCell ⟨rs, 7, none⟩ (.slice none 0 0)).setCell ⟨rs, 8, none⟩ (.int .i64 0)) = w9 at hF hB ⊢
    obtain ⟨z0, z1, z2, z3, z4, z5, z6, z7, z8, _⟩ := rs_cells hF
    exact bodyPost_ret (v := .tuple #[rsV 2 Meta.zeroM (.slice none 0 0) 0, .nilIface]) (by simp [results, Tryz.results24, go_sem, z0, z1, z2, z3, z4, z5, z6, z7, z8]) rfl ⟨rfl, hB⟩
end
end Go.Proofs.YtdhcigiaidlmbaaGreatDoor.Pg
/- first: the examples of chapter 13. By the verifier of shale. -/
namespace Go.Proofs.YtdhcigiaidlmbaaGreatDoor.Pg
open Go Go.RowKit Bin Pl Cos Enc Syn Loc Sea Dec Crc
set_option linter.unusedVariables false
theorem secsF : secs 8 16 16 10 2 1 0 2 1 = 5 := by decide
theorem may2 : Enc.May 10 2 (16 + 32) := ⟨by decide, by decide, by decide, by decide, by decide +kernel, by decide +kernel⟩
theorem degF : deg 10 2 = 20 := by decide +kernel
/-- a whole of ones. -/
def onesL (n : Nat) : List (BitVec 8) := List.replicate n 255#8
theorem zN_full : Meta.zN 255#8 8 = 0 := by decide
theorem zL_ones (n : Nat) : ∀ k, k ≤ n → Meta.zL (onesL n) k = 0
  | 0, _ => rfl
  | k + 1, h => by
    have e : nth8 (onesL n) k = 255#8 := by
      unfold nth8 onesL
      rw [List.getD_eq_getElem?_getD, List.getElem?_replicate, if_pos (by omega)]
      rfl
    show Meta.zL (onesL n) k + Meta.zN (nth8 (onesL n) k) 8 = 0
    rw [zL_ones n k (by omega), e, zN_full]
/-- i ones, then zeros. -/
def fillB (n i : Nat) : List (BitVec 8) := List.replicate i 255#8 ++ List.replicate (n - i) 0#8
theorem fillB_length {n i : Nat} (h : i ≤ n) : (fillB n i).length = n := by unfold fillB; simp; omega
theorem fillB_0 (n : Nat) : fillB n 0 = List.replicate n 0#8 := by unfold fillB; simp
theorem fillB_n (n : Nat) : fillB n n = onesL n := by unfold fillB onesL; simp
theorem fillB_set {n i : Nat} (h : i < n) : (fillB n i).set i 255#8 = fillB n (i + 1) := by
  unfold fillB
  have e : n - i = (n - (i + 1)) + 1 := by omega
  rw [e, List.replicate_succ, List.set_append_right _ _ (by simp), List.length_replicate, Nat.sub_self, List.set_cons_zero, List.replicate_succ', List.append_assoc]
  rfl
theorem blk_buf {w : World} {g : Nat} {l : List (BitVec 8)} (h : Blk8 w g l) : Buf8 w g l := by
  refine ⟨_, _, h, fun i hi => ?_⟩
  simp [nth8, hi]
theorem buf_polF {w : World} {g : Nat} {l : List (BitVec 8)} (h : Buf8 w g l) (h0 : 0 < l.length) (hm : l.length ≤ maxLen) : Pol w (some ⟨g, 0, none⟩) l.length l.length l :=
  ⟨rfl, Nat.le_refl _, hm, fun h => by first | cases h | omega, Or.inr ⟨g, 0, rfl, h.row, h.lt⟩⟩
set_option maxRecDepth 100000 in
set_option maxHeartbeats 4000000 in
theorem first13_any (w : World) {y ym yz yr : Addr} (E : ErrAt w 4 y) (EM : ErrAt w 6 ym) (EZ : ErrAt w 9 yz) (ER : ErrAt w 1 yr) (T : Tab w) :
    Calls Tryz.prog 10 #[] w fun e w' => e = .returned (.bool true) ∧ Below w.heap.size w w' := by
  have HN : Hid (∀ W, Below w.heap.size w W → Calls Tryz.prog 12 #[.agg #[.int .i64 8, .int .i64 16, .int .i64 16, .int .i64 10, .int .i64 2, .int .i64 1, .int .i64 0, .int .i64 2, .int .i64 1]] W (PgMadeAt 10 2 16 W)) := (fun W b => pnew_yes (m := 10) (t := 2) (sc := 16) 8 16 1 0 2 1 (by decide) (by decide) (by omega) may2 (by rw [show ((10 : Nat) : Int) = 10 from rfl, show ((2 : Nat) : Int) = 2 from rfl, show ((16 : Nat) : Int) = 16 from rfl, secsF]; decide) W y (E.below b))
  have HS : Hid (∀ W, Calls Tryz.prog 15 #[.agg #[.int .i64 8, .int .i64 16, .int .i64 16, .int .i64 10, .int .i64 2, .int .i64 1, .int .i64 0, .int .i64 2, .int .i64 1]] W fun e w' => e = .returned (.int .i64 5) ∧ Below W.heap.size W w') := fun W => (secs_any 8 16 16 10 2 1 0 2 1 W (by decide) (by decide)).mono fun e w' h => ⟨by rw [h.1, secsF], h.2⟩
  have HP : Hid (∀ W, Below w.heap.size w W → ErrAt W 6 ym ∧ ErrAt W 9 yz ∧ ErrAt W 1 yr ∧ Tab W) := fun W b => ⟨EM.below b, EZ.below b, ER.below b, T.below b T.lt⟩
  clear E EM EZ ER T
  go_enter Tryz.func10, Tryz.ntmps10
  go_wp2_with fail
  generalize hw : w.alloc (.cells #[.int .i64 8, .int .i64 16, .int .i64 16, .int .i64 10, .int .i64 2, .int .i64 1, .int .i64 0, .int .i64 2, .int .i64 1] 23 (0, 0)) = w1
  obtain ⟨K, b⟩ := newG w w1 _ _ _ _ _ _ _ _ _ hw
  clear hw
  obtain ⟨bg, hbg⟩ : ∃ bg, bg = w.heap.size := ⟨_, rfl⟩
  rw [← hbg] at K ⊢
  clear hbg
  refine (HN.out w1 b).mono ?_
  rintro e w2 ⟨cb, s, db, rfl, P, C, D, b2, _⟩
  replace K := keepG K b2
  have B := b.trans (b2.mono b.size)
  obtain ⟨EM, EZ, ER, T⟩ := HP.out w2 B
  have PB : PBase 10 2 16 w2 cb s db ym yz yr := ⟨P, ⟨D, C, EM, EZ, by decide, by decide, by decide, by decide, by rw [degF]; decide⟩, ER, T, by decide, by decide⟩
  have hbl := lt_of_block K
  have HK : Hid (∀ W', Below w2.heap.size w2 W' → (W'.cell? ⟨bg, 0, none⟩ = some (.int .i64 8) ∧ W'.cell? ⟨bg, 1, none⟩ = some (.int .i64 16) ∧ W'.cell? ⟨bg, 2, none⟩ = some (.int .i64 16) ∧ W'.cell? ⟨bg, 3, none⟩ = some (.int .i64 10) ∧ W'.cell? ⟨bg, 4, none⟩ = some (.int .i64 2) ∧ W'.cell? ⟨bg, 5, none⟩ = some (.int .i64 1) ∧ W'.cell? ⟨bg, 6, none⟩ = some (.int .i64 0) ∧ W'.cell? ⟨bg, 7, none⟩ = some (.int .i64 2) ∧ W'.cell? ⟨bg, 8, none⟩ = some (.int .i64 1) ∧ Below w2.heap.size w2 W')) := fun W' b => by
    obtain ⟨e0, e1, e2, e3, e4, e5, e6, e7, e8⟩ := g_cells (keepG K b)
    exact ⟨e0, e1, e2, e3, e4, e5, e6, e7, e8, b⟩
  have HZ : Hid (∀ W' (_ : W'.cell? ⟨bg, 0, none⟩ = some (.int .i64 8) ∧ W'.cell? ⟨bg, 1, none⟩ = some (.int .i64 16) ∧ W'.cell? ⟨bg, 2, none⟩ = some (.int .i64 16) ∧ W'.cell? ⟨bg, 3, none⟩ = some (.int .i64 10) ∧ W'.cell? ⟨bg, 4, none⟩ = some (.int .i64 2) ∧ W'.cell? ⟨bg, 5, none⟩ = some (.int .i64 1) ∧ W'.cell? ⟨bg, 6, none⟩ = some (.int .i64 0) ∧ W'.cell? ⟨bg, 7, none⟩ = some (.int .i64 2) ∧ W'.cell? ⟨bg, 8, none⟩ = some (.int .i64 1) ∧ Below w2.heap.size w2 W'), Calls Tryz.prog 17 #[.pointer (some ⟨cb, 0, none⟩)] W' fun e W'' => e = .returned (.int .i64 51) ∧ (W''.cell? ⟨bg, 0, none⟩ = some (.int .i64 8) ∧ W''.cell? ⟨bg, 1, none⟩ = some (.int .i64 16) ∧ W''.cell? ⟨bg, 2, none⟩ = some (.int .i64 16) ∧ W''.cell? ⟨bg, 3, none⟩ = some (.int .i64 10) ∧ W''.cell? ⟨bg, 4, none⟩ = some (.int .i64 2) ∧ W''.cell? ⟨bg, 5, none⟩ = some (.int .i64 1) ∧ W''.cell? ⟨bg, 6, none⟩ = some (.int .i64 0) ∧ W''.cell? ⟨bg, 7, none⟩ = some (.int .i64 2) ∧ W''.cell? ⟨bg, 8, none⟩ = some (.int .i64 1) ∧ Below w2.heap.size w2 W'')) := fun W' h => (size_any (PB.below h.2.2.2.2.2.2.2.2.2)).mono fun e W'' h2 => ⟨by rw [h2.1, degF]; rfl, HK.out _ (h.2.2.2.2.2.2.2.2.2.trans ((h2.2.below _).mono h.2.2.2.2.2.2.2.2.2.size))⟩
  have HS2 : Hid (∀ W' (_ : W'.cell? ⟨bg, 0, none⟩ = some (.int .i64 8) ∧ W'.cell? ⟨bg, 1, none⟩ = some (.int .i64 16) ∧ W'.cell? ⟨bg, 2, none⟩ = some (.int .i64 16) ∧ W'.cell? ⟨bg, 3, none⟩ = some (.int .i64 10) ∧ W'.cell? ⟨bg, 4, none⟩ = some (.int .i64 2) ∧ W'.cell? ⟨bg, 5, none⟩ = some (.int .i64 1) ∧ W'.cell? ⟨bg, 6, none⟩ = some (.int .i64 0) ∧ W'.cell? ⟨bg, 7, none⟩ = some (.int .i64 2) ∧ W'.cell? ⟨bg, 8, none⟩ = some (.int .i64 1) ∧ Below w2.heap.size w2 W'), Calls Tryz.prog 15 #[.agg #[.int .i64 8, .int .i64 16, .int .i64 16, .int .i64 10, .int .i64 2, .int .i64 1, .int .i64 0, .int .i64 2, .int .i64 1]] W' fun e W'' => e = .returned (.int .i64 5) ∧ (W''.cell? ⟨bg, 0, none⟩ = some (.int .i64 8) ∧ W''.cell? ⟨bg, 1, none⟩ = some (.int .i64 16) ∧ W''.cell? ⟨bg, 2, none⟩ = some (.int .i64 16) ∧ W''.cell? ⟨bg, 3, none⟩ = some (.int .i64 10) ∧ W''.cell? ⟨bg, 4, none⟩ = some (.int .i64 2) ∧ W''.cell? ⟨bg, 5, none⟩ = some (.int .i64 1) ∧ W''.cell? ⟨bg, 6, none⟩ = some (.int .i64 0) ∧ W''.cell? ⟨bg, 7, none⟩ = some (.int .i64 2) ∧ W''.cell? ⟨bg, 8, none⟩ = some (.int .i64 1) ∧ Below w2.heap.size w2 W'')) := fun W' h => (HS.out W').mono fun e W'' h2 => ⟨h2.1, HK.out _ (h.2.2.2.2.2.2.2.2.2.trans (h2.2.mono h.2.2.2.2.2.2.2.2.2.size))⟩
  have hS1 := HK.out w2 (Below.refl _ _)
  have HB := Lib.hid (And.intro PB B)
  clear K b b2 P C D EM EZ ER T PB B hbl HS HN
  go_wp2_with fail
  refine Calls.mono (HZ.out w2 (HK.out w2 (Below.refl _ _))) ?_
  rintro e w3 ⟨rfl, z1⟩
  clear hS1
  have hZ1 := Lib.hid z1
  obtain ⟨e0, e1, e2, e3, e4, e5, e6, e7, e8, _⟩ := z1
  go_wp2_with fail
  clear e0 e1 e2 e3 e4 e5 e6 e7 e8
  refine Calls.mono (HS2.out w3 hZ1.out) ?_
  rintro e w4 ⟨rfl, _, _, _, _, _, _, _, _, _, z1⟩
  clear hZ1 HZ HS2 HK
  obtain ⟨PB, B⟩ := HB.out
  clear HB
  replace PB := PB.below z1
  replace B := B.trans (z1.mono B.size)
  have HB := Lib.hid (And.intro PB B)
  clear z1 PB B
  obtain ⟨O0, hO0⟩ : ∃ O, O = obj8 (List.replicate 51 0) := ⟨_, rfl⟩
  have hmk : (Instr.makeSlice 25 (.int .i64 51) (.int .i64 51)).run Tryz.prog w4 = .ok (.slice (some ⟨w4.heap.size, 0, none⟩) 51 51) (w4.alloc O0) := by rw [hO0]; exact made8 w4 51 (by decide)
  have HN0 : Hid (Buf8 (w4.alloc O0) w4.heap.size (fillB 51 0) ∧ Below w4.heap.size w4 (w4.alloc O0)) := ⟨by rw [hO0, fillB_0]; exact blk_buf (heap_alloc_new w4 _), (Below.refl _ _).alloc (Nat.le_refl _) _⟩
  clear hO0
  obtain ⟨g, hg⟩ : ∃ g, g = w4.heap.size := ⟨_, rfl⟩
  have HG := Lib.hid hg
  rw [← hg] at HN0 hmk
  clear hg
  go_wp2_with fail
  clear hmk
  generalize w4.alloc O0 = w5 at HN0 ⊢
  go_loopg [5] 51 (fun gh s5 wx => ∃ i : Nat, gh = 51 - i ∧ i ≤ 51 ∧ s5 = .int .i64 (i : Int) ∧ Hid (Buf8 wx g (fillB 51 i) ∧ Below g w4 wx))
  case atStart => exact ⟨0, rfl, Nat.zero_le _, rfl, HN0⟩
  case round =>
    clear HN0
    obtain ⟨i, hg, hin, rfl, HX⟩ := hrel
    have HI := Lib.hid hg
    clear hg
    by_cases hlt : i < 51
    · have x1 : (i : Int) < 51 := by omega
      have x0 : (0 : Int) ≤ (i : Int) := by omega
      have hBuf := HX.out.1
      have cv := hBuf.cell i (by rw [fillB_length hin]; exact hlt)
      have fr := hBuf.free i
      generalize Bits32.b (nth8 (fillB 51 i) i) = z0 at cv
      have HN : Hid (Buf8 (wr.setCell ⟨g, i, none⟩ (.int .u8 255)) g (fillB 51 (i + 1)) ∧ Below g w4 (wr.setCell ⟨g, i, none⟩ (.int .u8 255))) := by
        have h := hBuf.set i (by rw [fillB_length hin]; exact hlt) 255#8
        rw [fillB_set hlt] at h
        exact ⟨h, HX.out.2.setCell (Nat.le_refl _) _⟩
      clear HX hBuf
      go_wp2_with fail
      go_roundg (51 - (i + 1))
      case measure => have := HI.out; omega
      case rel => exact ⟨i + 1, rfl, hlt, by go_num, HN⟩
    · obtain rfl : i = 51 := by omega
      go_wp2_with fail
      obtain ⟨PB, B⟩ := HB.out
      obtain ⟨hBuf, b⟩ := HX.out
      rw [HG.out] at b
      replace PB := PB.below b
      replace B := B.trans (b.mono B.size)
      have hP := buf_polF hBuf (by rw [fillB_length hin]; decide) (by rw [fillB_length hin]; decide)
      rw [fillB_length hin, fillB_n] at hP
      have HB2 := Lib.hid B
      refine (openE_any PB 0 0 hP (by rw [degF]; decide) (by rw [zL_ones 51 51 (Nat.le_refl _)]; decide)).mono ?_
      rintro e w6 ⟨rfl, b6⟩
      clear PB B hBuf b hP HX HB HG
      have b7 := HB2.out.trans (b6.mono HB2.out.size)
      go_wp2_with fail
      go_ret
      exact ⟨rfl, b7.alloc b7.size _⟩
end Go.Proofs.YtdhcigiaidlmbaaGreatDoor.Pg
/- fit: data of a code's length, as the statements of chapter 13 make it. By the verifier of shale. -/
namespace Go.Proofs.YtdhcigiaidlmbaaGreatDoor.Pg
open Go Go.RowKit Bin Cos Enc
set_option linter.unusedVariables false
set_option maxRecDepth 100000 in
set_option maxHeartbeats 1000000 in
theorem fit13_any (a : Option Addr) (nb cap : Nat) (b : List (BitVec 8)) (n : Nat) (hn : n ≤ 100000) (w : World) (hP : Pol w a nb cap b) :
    Calls Tryz.prog 22 #[.slice a nb cap, .int .i64 (n : Int)] w fun e w' => e = .returned (.slice (some ⟨w.heap.size, 0, none⟩) n n) ∧ Blk8 w' w.heap.size (fitL b n) ∧ Below w.heap.size w w' := by
  have hmk := made8 w n (by omega)
  have HB0 : Hid (Below w.heap.size w (w.alloc (obj8 (List.replicate n 0)))) := (Below.refl _ _).alloc (Nat.le_refl _) _
  have HCB : Hid ((w.alloc (obj8 (List.replicate n 0))).heap[w.heap.size]? = some (.cells (List.replicate n (Value.int .u8 0)).toArray 5 (0, 0))) := by
    show _ = _
    rw [heap_alloc_new]; unfold obj8; simp [Bits32.b]
  have HT : Hid (Pol w a (min nb n) cap (b.take n)) := by
    have h := hP.take (min nb n) (Nat.min_le_left _ _)
    have e : b.take (min nb n) = b.take n := by
      have := hP.hlen
      by_cases h1 : nb ≤ n
      · rw [Nat.min_eq_left h1, List.take_of_length_le (by omega), List.take_of_length_le (by omega)]
      · rw [Nat.min_eq_right (by omega)]
    rw [e] at h; exact h
  clear hP
  go_enter Tryz.func22, Tryz.ntmps22
  have hc1 : (cells8 (b.take n)).length = Nat.min nb n := by rw [cells8_length, ← HT.out.hlen]
  have hc2 : 0 + (cells8 (b.take n)).length ≤ (List.replicate n (Value.int .u8 0)).length := by rw [cells8_length, List.length_replicate, ← HT.out.hlen]; omega
  have hc3 : 0 < (cells8 (b.take n)).length → (some ⟨w.heap.size, 0, none⟩ : Option Addr) = some ⟨w.heap.size, 0, none⟩ ∧ ∃ ad, a = some ad ∧ ∀ j v, (cells8 (b.take n))[j]? = some v → (w.alloc (obj8 (List.replicate n 0))).cell? (ad.add j) = some v := fun h0 => ⟨rfl, arg_src HT.out _ HB0.out h0⟩
  have HC := Lib.hid (And.intro hc1 (And.intro hc2 hc3))
  clear hc1 hc2 hc3
  go_wp2_with ((with_reducible show wpList _ _ _ _ _ _); refine wpList_copy_splice (o := ⟨some 10, _, _, _, _, _⟩) rfl (.tmp 8) (.tmp 9) 25 25 rfl 5 Tryz.underlying25 size8 (some ⟨w.heap.size, 0, none⟩) a n n nb cap rfl rfl w.heap.size 0 (List.replicate n (.int .u8 0)) 5 HCB.out (cells8 (b.take n)) HC.out.1 HC.out.2.2 HC.out.2.1 (cells8_one _) w.heap.size w HB0.out (Nat.le_refl _) ?_; intro w2 hw2 hb2)
  have hX0 : Blk8 w2 w.heap.size (fitL b n) := by
    have := hw2.out
    rw [splice_fit] at this
    exact this
  have HX := Lib.hid hX0
  clear hw2 hmk hX0
  go_wp2_with fail
  go_ret
  exact ⟨rfl, HX.out, hb2⟩
end Go.Proofs.YtdhcigiaidlmbaaGreatDoor.Pg
/- Lay of a record that may not be. By the verifier of shale. -/
namespace Go.Proofs.YtdhcigiaidlmbaaGreatDoor.Pg
open Go Go.RowKit Bin Pl Cos Enc Syn Loc Sea Dec Crc
set_option linter.unusedVariables false
set_option maxRecDepth 100000 in
set_option maxHeartbeats 2000000 in
theorem lay_no {sc cb s db : Nat} {w : World} (PG : pgAt w cb sc s db) {yr : Addr} (E : ErrAt w 1 yr) (x y : Int) (K : Meta.M6) (hK : ¬ Meta.May K) {a : Option Addr} {ca : Nat} :
    Calls Tryz.prog 20 #[.pointer (some ⟨cb, 0, none⟩), .agg #[.int .i64 x, .int .i64 y], Meta.metaV K, .slice a sc ca] w fun e w' => e = .returned (.tuple #[.slice none 0 0, errOf yr]) ∧ Below w.heap.size w w' := by
  have HPG := Lib.hid PG
  have HB := Lib.hid (fun W v b => Meta.bytes_no K hK v W yr (E.below b))
  clear PG E hK
  go_enter Tryz.func20, Tryz.ntmps20
  go_upto_region 1 with (fail)
  generalize hw : w.alloc (.cells #[.int .i64 x, .int .i64 y] 43 (0, 0)) = w1
  obtain ⟨Q, B, hsz⟩ := newPl w w1 x y hw
  clear hw
  obtain ⟨bp, hbp⟩ : ∃ bp, bp = w.heap.size := ⟨_, rfl⟩
  rw [← hbp] at Q hsz ⊢
  generalize hw : w1.alloc (.cells #[.int .i64 (Meta.fld K 0), .int .i64 (Meta.fld K 1), .int .i64 (Meta.fld K 2), .int .i64 (Meta.fld K 3), .int .i64 (Meta.fld K 4), .int .i64 (Meta.fld K 5)] 45 (0, 0)) = w2
  obtain ⟨R, b⟩ := newMeta w1 w2 K hw
  clear hw hbp
  obtain ⟨bm, hbm⟩ : ∃ bm, bm = bp + 1 := ⟨_, rfl⟩
  rw [hsz, ← hbm] at R
  rw [← hbm]
  replace B := B.trans (b.mono B.size)
  clear b hsz hbm Q
  obtain ⟨k0, k1, k2⟩ := (HPG.out.below B).cells
  have f0 := R.cell 0 (by omega)
  have f1 := R.cell 1 (by omega)
  have f2 := R.cell 2 (by omega)
  have f3 := R.cell 3 (by omega)
  have f4 := R.cell 4 (by omega)
  have f5 := R.cell 5 (by omega)
  clear R
  go_wp2_with fail
  refine (HB.out w2 _ B).mono ?_
  rintro e w3 ⟨rfl, b⟩
  have B3 := Lib.hid (B.trans (b.mono B.size))
  clear b f0 f1 f2 f3 f4 f5 k0 k1 k2 B
  go_wp2_with fail
  go_ret2
  exact ⟨rfl, B3.out⟩
end Go.Proofs.YtdhcigiaidlmbaaGreatDoor.Pg
/- What the laws of chapter 13 share. By the verifier of shale. -/
namespace Go.Proofs.YtdhcigiaidlmbaaGreatDoor.Pg
open Go Go.RowKit Bin Pl Cos Enc Syn Loc Sea Dec
set_option linter.unusedVariables false
theorem newRx (w W : World) (g0 g1 g2 g3 g4 g5 g6 g7 g8 a b c : Int) (d : Value) (e : Int) (h : w.alloc (.cells #[.int .i64 g0, .int .i64 g1, .int .i64 g2, .int .i64 g3, .int .i64 g4, .int .i64 g5, .int .i64 g6, .int .i64 g7, .int .i64 g8, .int .i64 a, .int .i64 b, .int .i64 c, d, .int .i64 e] 40 (0, 0)) = W) : W.heap[w.heap.size]? = some (rxO g0 g1 g2 g3 g4 g5 g6 g7 g8 a b c d e) ∧ Below w.heap.size w W := by
  subst h
  exact ⟨heap_alloc_new w _, (Below.refl _ _).alloc (Nat.le_refl _) _⟩
theorem keepF {w w' : World} {g : Nat} {l : List (BitVec 8)} (h : Meta.Buf8 w g l) (b : Below w.heap.size w w') : Meta.Buf8 w' g l := h.below b h.lt
section
variable {m : Nat} [M : Pl.Mid m]
end
end Go.Proofs.YtdhcigiaidlmbaaGreatDoor.Pg
/- Zeros of a page: a turned bit, a page that was laid; the reference's Size. By the verifier of shale. -/
namespace Go.Proofs.YtdhcigiaidlmbaaGreatDoor.Pg
open Go Go.RowKit Bin Pl Cos Enc Syn Loc Sea Dec
set_option linter.unusedVariables false
theorem zL_all (l : List (BitVec 8)) : Meta.zL l l.length = Meta.zeros8 l := by rw [Meta.zL_take l l.length (Nat.le_refl _), List.take_length]
theorem zeros8_cons (c : BitVec 8) (l : List (BitVec 8)) : Meta.zeros8 (c :: l) = Meta.zN c 8 + Meta.zeros8 l := by unfold Meta.zeros8; rw [List.map_cons, List.sum_cons]
theorem zeros_set (l : List (BitVec 8)) (q : Nat) (c : BitVec 8) (h : q < l.length) : Meta.zeros8 (l.set q c) + Meta.zN (nth8 l q) 8 = Meta.zeros8 l + Meta.zN c 8 := by
  have e1 : l.set q c = l.take q ++ c :: l.drop (q + 1) := by rw [List.set_eq_take_append_cons_drop, if_pos h]
  have e2 : l = l.take q ++ nth8 l q :: l.drop (q + 1) := by
    have : nth8 l q = l[q] := by unfold nth8; rw [List.getD_eq_getElem?_getD, List.getElem?_eq_getElem h]; rfl
    rw [this, ← List.drop_eq_getElem_cons h, List.take_append_drop]
  have e3 : Meta.zeros8 l = Meta.zeros8 (l.take q) + (Meta.zN (nth8 l q) 8 + Meta.zeros8 (l.drop (q + 1))) := by
    rw [← zeros8_cons, ← Meta.zeros8_append, ← e2]
  rw [e1, Meta.zeros8_append, zeros8_cons, e3]
  omega
theorem zN_off : ∀ (c : Fin 256) (j : Fin 8), Meta.zN (BitVec.ofNat 8 c.val &&& ~~~ BitVec.twoPow 8 j.val) 8 ≤ Meta.zN (BitVec.ofNat 8 c.val) 8 + 1 := by decide +kernel
theorem zeros_off (l : List (BitVec 8)) (q j : Nat) (h : q < l.length) (hj : j < 8) : Meta.zeros8 (l.set q (nth8 l q &&& ~~~ BitVec.twoPow 8 j)) ≤ Meta.zeros8 l + 1 := by
  have h1 := zeros_set l q (nth8 l q &&& ~~~ BitVec.twoPow 8 j) h
  have h2 := zN_off ⟨(nth8 l q).toNat, (nth8 l q).isLt⟩ ⟨j, hj⟩
  simp only [BitVec.ofNat_toNat, BitVec.setWidth_eq] at h2
  omega
section
variable {m : Nat} [M : Pl.Mid m]
theorem zeros_page {t sc : Nat} (sd : BitVec 16) (K : Meta.M6) (hK : Meta.May K) (d : List (BitVec 8)) : 37 ≤ Meta.zL (page m t sd K d) (page m t sd K d).length := by
  rw [zL_all]
  unfold page pgD
  rw [Meta.zeros8_append, Meta.zeros8_append]
  have h := Meta.zeros_rec K hK d
  rw [Meta.zL_take _ 24 (by rw [List.length_take, Meta.rec32_length]; decide), List.take_take] at h
  have e : Meta.zeros8 (Meta.rec32 K d) = Meta.zeros8 ((Meta.rec32 K d).take 24) + Meta.zeros8 ((Meta.rec32 K d).drop 24) := by rw [← Meta.zeros8_append, List.take_append_drop]
  simp only [Nat.min_self] at h
  omega
end
set_option maxRecDepth 100000 in
set_option maxHeartbeats 1000000 in
theorem rsize_any (sc t n : Nat) (ga : Option Addr) (gn gc D : Nat) (hs : sc ≤ 1024) (hD : D ≤ 560) (w : World) :
    Calls Tryz.prog 18 #[.agg #[.int .i64 10, .int .i64 16, .int .i64 (sc : Int), .int .i64 10, .int .i64 (t : Int), .int .i64 2, .int .i64 0, .int .i64 4, .int .i64 8, .int .i64 10, .int .i64 (t : Int), .int .i64 (n : Int), .slice ga gn gc, .int .i64 (D : Int)]] w fun e w' => e = .returned (.int .i64 ((sc + 32 + pb D : Nat) : Int)) ∧ Below w.heap.size w w' := by
  have hP : pb D ≤ 100 := by unfold pb; omega
  have HP : Hid (∀ W, Calls Tryz.prog 42 #[.agg #[.int .i64 10, .int .i64 (t : Int), .int .i64 (n : Int), .slice ga gn gc, .int .i64 (D : Int)]] W fun e w' => e = .returned (.int .i64 (pb D : Int)) ∧ Below W.heap.size W w') := fun W => rparity_any 10 t n ga gn gc D (by omega) W
  generalize pb D = P at HP hP ⊢
  go_enter Tryz.func18, Tryz.ntmps18
  go_wp2_with fail
  generalize hw : w.alloc (.cells #[.int .i64 10, .int .i64 16, .int .i64 (sc : Int), .int .i64 10, .int .i64 (t : Int), .int .i64 2, .int .i64 0, .int .i64 4, .int .i64 8, .int .i64 10, .int .i64 (t : Int), .int .i64 (n : Int), .slice ga gn gc, .int .i64 (D : Int)] 40 (0, 0)) = w1
  obtain ⟨K, B⟩ := newRx w w1 _ _ _ _ _ _ _ _ _ _ _ _ _ _ hw
  clear hw
  obtain ⟨bq, hbq⟩ : ∃ bq, bq = w.heap.size := ⟨_, rfl⟩
  rw [← hbq] at K ⊢
  clear hbq
  have hlA := lt_of_block K
  have HS : Hid (∀ w', Below w1.heap.size w1 w' → (w'.cell? ⟨bq, 2, none⟩ = some (.int .i64 (sc : Int)) ∧ w'.cell? ⟨bq, 9, none⟩ = some (.int .i64 10) ∧ w'.cell? ⟨bq, 10, none⟩ = some (.int .i64 (t : Int)) ∧ w'.cell? ⟨bq, 11, none⟩ = some (.int .i64 (n : Int)) ∧ w'.cell? ⟨bq, 12, none⟩ = some (.slice ga gn gc) ∧ w'.cell? ⟨bq, 13, none⟩ = some (.int .i64 (D : Int)) ∧ Below w1.heap.size w1 w')) := fun w' b => by
    obtain ⟨c0, c1, c2, c3, c4, c5, c6, c7, c8, c9, c10, c11, c12, c13, _⟩ := rx_cells ((b.block bq hlA).trans K)
    exact ⟨c2, c9, c10, c11, c12, c13, b⟩
  have HA : Hid (∀ w' (_ : (w'.cell? ⟨bq, 2, none⟩ = some (.int .i64 (sc : Int)) ∧ w'.cell? ⟨bq, 9, none⟩ = some (.int .i64 10) ∧ w'.cell? ⟨bq, 10, none⟩ = some (.int .i64 (t : Int)) ∧ w'.cell? ⟨bq, 11, none⟩ = some (.int .i64 (n : Int)) ∧ w'.cell? ⟨bq, 12, none⟩ = some (.slice ga gn gc) ∧ w'.cell? ⟨bq, 13, none⟩ = some (.int .i64 (D : Int)) ∧ Below w1.heap.size w1 w')), Calls Tryz.prog 42 #[.agg #[.int .i64 10, .int .i64 (t : Int), .int .i64 (n : Int), .slice ga gn gc, .int .i64 (D : Int)]] w' fun e w'' => e = .returned (.int .i64 (P : Int)) ∧ (w''.cell? ⟨bq, 2, none⟩ = some (.int .i64 (sc : Int)) ∧ w''.cell? ⟨bq, 9, none⟩ = some (.int .i64 10) ∧ w''.cell? ⟨bq, 10, none⟩ = some (.int .i64 (t : Int)) ∧ w''.cell? ⟨bq, 11, none⟩ = some (.int .i64 (n : Int)) ∧ w''.cell? ⟨bq, 12, none⟩ = some (.slice ga gn gc) ∧ w''.cell? ⟨bq, 13, none⟩ = some (.int .i64 (D : Int)) ∧ Below w1.heap.size w1 w'')) := fun w' hs => (HP.out w').mono fun e w'' h => ⟨h.1, HS.out w'' (hs.2.2.2.2.2.2.trans (h.2.mono hs.2.2.2.2.2.2.size))⟩
  have hS0 := HS.out w1.drew ((Drawn.mk w1 1).below _)
  have HB := Lib.hid B
  have HR4 : Hid (IntKind.i64.wrap (IntKind.i64.wrap ((sc : Int) + 32) + (P : Int)) = ((sc + 32 + P : Nat) : Int)) := by show _ = _; rw [IntWalk.i64_in ((sc : Int) + 32) (by omega), IntWalk.i64_in _ (by omega)]; omega
  obtain ⟨c0, c1, c2, c3, c4, c5, c6, c7, c8, c9, c10, c11, c12, c13, _⟩ := rx_cells K
  clear K B HP hlA c0 c1 c3 c4 c5 c6 c7 c8
  go_region_held3 (fun w' => (w'.cell? ⟨bq, 2, none⟩ = some (.int .i64 (sc : Int)) ∧ w'.cell? ⟨bq, 9, none⟩ = some (.int .i64 10) ∧ w'.cell? ⟨bq, 10, none⟩ = some (.int .i64 (t : Int)) ∧ w'.cell? ⟨bq, 11, none⟩ = some (.int .i64 (n : Int)) ∧ w'.cell? ⟨bq, 12, none⟩ = some (.slice ga gn gc) ∧ w'.cell? ⟨bq, 13, none⟩ = some (.int .i64 (D : Int)) ∧ Below w1.heap.size w1 w'))
    (first | assumption | exact ⟨by assumption, by assumption, by assumption, by assumption, by assumption, by assumption, by assumption⟩)
    (first
      | (go_at_call 42; (with_reducible refine Calls.mono (HA.out _ (by assumption)) ?_); rintro e w2 ⟨rfl, z1⟩))
  have b := z1.2.2.2.2.2.2
  have B := HB.out.trans (b.mono HB.out.size)
  clear z1 b c2 c9 c10 c11 c12 c13 hS0
  go_wp2_with fail
  go_ret
  exact ⟨congrArg (fun z => Ending.returned (Value.int .i64 z)) HR4.out, B⟩
end Go.Proofs.YtdhcigiaidlmbaaGreatDoor.Pg
/- Opening a page: mending it. By the verifier of shale. -/
namespace Go.Proofs.YtdhcigiaidlmbaaGreatDoor.Pg
open Go Go.RowKit Bin Pl Cos Enc Syn Loc Sea Dec Crc
set_option linter.unusedVariables false
theorem pol_drop {w : World} {bb off N c : Nat} {l : List (BitVec 8)} (h : Pol w (some ⟨bb, off, none⟩) N c l) (k : Nat) (hk : k ≤ N) : Pol w (some ⟨bb, off + k, none⟩) (N - k) (c - k) (l.drop k) := by
  refine ⟨by rw [List.length_drop, ← h.hlen], by have := h.hcap; omega, by have := h.hmost; omega, (fun e => by cases e), ?_⟩
  rcases h.hrow with h0 | ⟨bb', off', e, hr, hb⟩
  · exact .inl (by omega)
  · simp only [Option.some.injEq, Addr.mk.injEq] at e
    obtain ⟨rfl, rfl, _⟩ := e
    exact .inr ⟨bb, off + k, rfl, hr.drop k, hb⟩
theorem tn_pol {bl : List Nat} {w w' : World} {g : Nat} {X : List (BitVec 8)} (t : Tn bl w w' bl) (h : Meta.Buf8 w g X) (hg : g ∉ bl) : Meta.Buf8 w' g X := by
  have hl := h.lt
  obtain ⟨cur, ty, h1, h2⟩ := h
  exact ⟨cur, ty, (t.same g hl hg).trans h1, h2⟩
section
variable {m : Nat} [M : Pl.Mid m]
/-- what the step that mends leaves. -/
def TornPost (m t sc : Nat) [M : Pl.Mid m] (rb : Nat) (x y : Int) (bb off N c : Nat) (l : List (BitVec 8)) (r : Option (List Nat)) (w : World) (e : Ending) (w' : World) : Prop :=
  Tn [rb] w w' [rb] ∧ match r with
  | none => e = .returned (.bool true) ∧ rdAt w' rb x y (.slice (some ⟨bb, off, none⟩) N c) 3 Meta.zeroM (.slice none 0 0) 0
  | some p => e = .returned (.bool false) ∧ ∃ g k X1, rdAt w' rb x y (.slice (some ⟨g, 0, none⟩) (sc + 32) k) 0 Meta.zeroM (.slice none 0 0) (p.length : Int) ∧ Meta.Buf8 w' g X1 ∧ X1.length = sc + 32 ∧ sc + 32 ≤ k ∧ k ≤ maxLen ∧ w.heap.size ≤ g ∧ val X1 = val (l.take (sc + 32)) ^^^ xs p >>> deg m t
set_option maxRecDepth 100000 in
set_option maxHeartbeats 4000000 in
theorem torn_any {t sc : Nat} {w : World} {cb s db rb : Nat} {ym yz yr : Addr} (B : PBase m t sc w cb s db ym yz yr) {x y : Int} {bb off N c : Nat} {l : List (BitVec 8)} (hl : Pol w (some ⟨bb, off, none⟩) N c l) (hN : N = sc + 32 + pb (deg m t)) (R : rdAt w rb x y (.slice (some ⟨bb, off, none⟩) N c) 0 Meta.zeroM (.slice none 0 0) 0) :
    Calls Tryz.prog 55 #[.pointer (some ⟨cb, 0, none⟩), .pointer (some ⟨rb, 0, none⟩)] w (TornPost m t sc rb x y bb off N c l (dec m t (8 * (sc + 32) + deg m t) (wd m t (val (l.take (sc + 32))) (val (l.drop (sc + 32))))) w) := by
  have ht1 := B.base.t1
  have ht40 := B.base.t40
  have hD1 := deg_pos M.lo ht1
  have hD5 := deg_560 (m := m) ht40
  have hPd : pb (deg m t) = (deg m t + 7) / 8 := rfl
  have hs1 := B.sc1
  have hs2 := B.sc2
  have hcap := hl.hcap
  have hcm := hl.hmost
  unfold maxLen at hcm
  obtain ⟨n, hn⟩ : ∃ n, n = sc + 32 := ⟨_, rfl⟩
  have HNn := Lib.hid hn
  have n1 : n < N := by omega
  have n2 : n ≤ c := by omega
  have n3 : ¬ c = n := by omega
  have n4 : N ≤ 2200 := by omega
  have i1 : (0 : Int) ≤ (n : Int) := by omega
  have i2 : (n : Int) ≤ (c : Int) := by omega
  have i3 : (n : Int) ≤ (N : Int) := by omega
  have HP1 : Hid (Pol w (some ⟨bb, off, none⟩) n c (l.take n)) := hl.take n (by omega)
  have HP2 : Hid (Pol w (some ⟨bb, off + n, none⟩) (pb (deg m t)) (c - n) (l.drop n)) := by
    have h := pol_drop hl n (by omega)
    rw [show N - n = pb (deg m t) by omega] at h
    exact h
  have eP : N - n = pb (deg m t) := by omega
  obtain ⟨P, hP⟩ : ∃ P, P = pb (deg m t) := ⟨_, rfl⟩
  have HPp := Lib.hid hP
  have e3 : (N : Int) - (n : Int) = (P : Int) := by omega
  rw [← hP] at eP HP2
  have hBa := B.base
  rw [← hn] at hBa
  have HDec : Hid (∀ W, Below w.heap.size w W → Calls Tryz.prog 82 #[.pointer (some ⟨db, 0, none⟩), .slice (some ⟨bb, off, none⟩) n c, .slice (some ⟨bb, off + n, none⟩) P (c - n)] W (DecPost m t n ym (val (l.take n)) (val (l.drop n)) (dec m t (8 * n + deg m t) (wd m t (val (l.take n)) (val (l.drop n)))) W)) := fun W b => by
    have h2 := HP2.out.below b
    rw [HPp.out] at h2 ⊢
    exact decode_any (hBa.below b) (HP1.out.below b) h2
  rw [← hn]
  obtain ⟨r, hr⟩ : ∃ r, r = dec m t (8 * n + deg m t) (wd m t (val (l.take n)) (val (l.drop n))) := ⟨_, rfl⟩
  rw [← hr] at HDec ⊢
  obtain ⟨k0, k1, k2⟩ := B.pg.cells
  obtain ⟨r0, r1, r2, _⟩ := R.cells
  have hcl := lt_of_block B.pg
  have hrl := R.lt
  have HS : Hid (∀ w', Below w.heap.size w w' → (w'.cell? ⟨cb, 2, none⟩ = some (.pointer (some ⟨db, 0, none⟩)) ∧ w'.cell? ⟨rb, 2, none⟩ = some (.slice (some ⟨bb, off, none⟩) N c) ∧ Below w.heap.size w w')) := fun w' b => ⟨(b.cell (p := ⟨cb, 2, none⟩) hcl).trans k2, (b.cell (p := ⟨rb, 2, none⟩) hrl).trans r2, b⟩
  have HDc := Lib.hid (data_code w s B.base.code)
  have HR := Lib.hid (And.intro R (And.intro hrl hn))
  have hS0 := HS.out w.drew ((Drawn.mk w 1).below _)
  have HSz := Lib.hid (show w.heap.size = w.heap.size from rfl)
  rw [← hn] at HDc
  clear hl R B hBa hPd hr hn hP hcl hN hcm
  go_enter Tryz.func55, Tryz.ntmps55
  go_wp2_with fail
  refine HDc.out.mono ?_
  rintro e w' ⟨rfl, rfl⟩
  clear HDc
  go_wp2_with fail
  cases r with
  | none =>
    have HDn : Hid (∀ W (_ : (W.cell? ⟨cb, 2, none⟩ = some (.pointer (some ⟨db, 0, none⟩)) ∧ W.cell? ⟨rb, 2, none⟩ = some (.slice (some ⟨bb, off, none⟩) N c) ∧ Below w.heap.size w W)), Calls Tryz.prog 82 #[.pointer (some ⟨db, 0, none⟩), .slice (some ⟨bb, off, none⟩) n c, .slice (some ⟨bb, off + n, none⟩) P (c - n)] W fun e w'' => e = .returned (.tuple #[.slice none 0 0, .slice none 0 0, .slice none 0 0, errOf ym]) ∧ (w''.cell? ⟨cb, 2, none⟩ = some (.pointer (some ⟨db, 0, none⟩)) ∧ w''.cell? ⟨rb, 2, none⟩ = some (.slice (some ⟨bb, off, none⟩) N c) ∧ Below w.heap.size w w'')) := fun W hs => (HDec.out W hs.2.2).mono fun e w'' h => ⟨h.2, HS.out w'' (hs.2.2.trans (h.1.mono hs.2.2.size))⟩
    clear HDec
    go_region_held3 (fun w' => (w'.cell? ⟨cb, 2, none⟩ = some (.pointer (some ⟨db, 0, none⟩)) ∧ w'.cell? ⟨rb, 2, none⟩ = some (.slice (some ⟨bb, off, none⟩) N c) ∧ Below w.heap.size w w'))
      (first | assumption | exact ⟨by assumption, by assumption, by assumption⟩)
      (first
        | (go_at_call 82; (refine Calls.mono (HDn.out _ (by assumption)) ?_); rintro e w1 ⟨rfl, q1⟩))
    have b := q1.2.2
    have R1 : rdAt w1 rb x y (.slice (some ⟨bb, off, none⟩) N c) 0 Meta.zeroM (.slice none 0 0) 0 := HR.out.1.same (b.block rb HR.out.2.1)
    have hT : Tn [rb] w (w1.setCell ⟨rb, 3, none⟩ (.int .i64 3)) [rb] := (Tn.below b).trans (Tn.setCell _ _ _ (by simp))
    have R2 : rdAt (w1.setCell ⟨rb, 3, none⟩ (.int .i64 3)) rb x y (.slice (some ⟨bb, off, none⟩) N c) 3 Meta.zeroM (.slice none 0 0) 0 := heap_setCell_same _ _ 3 _ _ _ R1
    obtain ⟨_, _, _, s3, _, _, _, _, _, _, _, _, sf⟩ := R1.cells
    have sf3 := sf 3
    have HE := Lib.hid (And.intro hT (And.intro (Eq.refl (Ending.returned (.bool true))) R2))
    clear b R1 hT R2 sf HDn q1 hS0 r0 r1 r2 k0 k1 k2
    go_wp2_with fail
    go_ret
    exact ⟨HE.out.1, rfl, HE.out.2.2⟩
  | some p =>
    have HDn : Hid (∀ W (_ : (W.cell? ⟨cb, 2, none⟩ = some (.pointer (some ⟨db, 0, none⟩)) ∧ W.cell? ⟨rb, 2, none⟩ = some (.slice (some ⟨bb, off, none⟩) N c) ∧ Below w.heap.size w W)), Calls Tryz.prog 82 #[.pointer (some ⟨db, 0, none⟩), .slice (some ⟨bb, off, none⟩) n c, .slice (some ⟨bb, off + n, none⟩) P (c - n)] W fun e w'' => ∃ g k1 X1 a2 c2 a3 c3, e = .returned (.tuple #[.slice (some ⟨g, 0, none⟩) n k1, .slice a2 P c2, .slice a3 p.length c3, .nilIface]) ∧ (w''.cell? ⟨cb, 2, none⟩ = some (.pointer (some ⟨db, 0, none⟩)) ∧ w''.cell? ⟨rb, 2, none⟩ = some (.slice (some ⟨bb, off, none⟩) N c) ∧ Below w.heap.size w w'') ∧ Meta.Buf8 w'' g X1 ∧ X1.length = n ∧ n ≤ k1 ∧ k1 ≤ maxLen ∧ w.heap.size ≤ g ∧ val X1 = val (l.take n) ^^^ xs p >>> deg m t) := fun W hs => (HDec.out W hs.2.2).mono fun e w'' h => by
      obtain ⟨b, a1, c1, X1, a2, c2, Y1, a3, c3, rfl, N1, N2, R3, v1, v2⟩ := h
      obtain ⟨g, rfl, hg, hb⟩ := newP_block N1 (by have := HNn.out; omega)
      exact ⟨g, c1, X1, a2, c2, a3, c3, by rw [HPp.out], HS.out w'' (hs.2.2.trans (b.mono hs.2.2.size)), hb, N1.hlen.symm, N1.hcap, N1.hmost, Nat.le_trans hs.2.2.size hg, v1⟩
    have hpl : (0 : Int) ≤ (p.length : Int) := by omega
    obtain ⟨pl, hplE⟩ : ∃ pl, pl = p.length := ⟨_, rfl⟩
    have HPL := Lib.hid hplE
    rw [← hplE] at HDn
    clear HDec hpl hplE
    go_region_held3 (fun w' => (w'.cell? ⟨cb, 2, none⟩ = some (.pointer (some ⟨db, 0, none⟩)) ∧ w'.cell? ⟨rb, 2, none⟩ = some (.slice (some ⟨bb, off, none⟩) N c) ∧ Below w.heap.size w w'))
      (first | assumption | exact ⟨by assumption, by assumption, by assumption⟩)
      (first
        | (go_at_call 82; (refine Calls.mono (HDn.out _ (by assumption)) ?_); rintro e w1 ⟨g, j1, X1, a2, c2, a3, c3, rfl, q1, q2, q3, q4, q5, q6, q7⟩))
    have b := q1.2.2
    have R1 : rdAt w1 rb x y (.slice (some ⟨bb, off, none⟩) N c) 0 Meta.zeroM (.slice none 0 0) 0 := HR.out.1.same (b.block rb HR.out.2.1)
    have hT : Tn [rb] w ((w1.setCell ⟨rb, 2, none⟩ (.slice (some ⟨g, 0, none⟩) n j1)).setCell ⟨rb, 11, none⟩ (.int .i64 (pl : Int))) [rb] := ((Tn.below b).trans (Tn.setCell _ _ _ (by simp))).trans (Tn.setCell _ _ _ (by simp))
    have R2 : rdAt (w1.setCell ⟨rb, 2, none⟩ (.slice (some ⟨g, 0, none⟩) n j1)) rb x y (.slice (some ⟨g, 0, none⟩) n j1) 0 Meta.zeroM (.slice none 0 0) 0 := heap_setCell_same _ _ 2 _ _ _ R1
    have R3 : rdAt ((w1.setCell ⟨rb, 2, none⟩ (.slice (some ⟨g, 0, none⟩) n j1)).setCell ⟨rb, 11, none⟩ (.int .i64 (pl : Int))) rb x y (.slice (some ⟨g, 0, none⟩) n j1) 0 Meta.zeroM (.slice none 0 0) (pl : Int) := heap_setCell_same _ _ 11 _ _ _ R2
    have hgr : g ≠ rb := by have := HR.out.2.1; omega
    have hB3 : Meta.Buf8 ((w1.setCell ⟨rb, 2, none⟩ (.slice (some ⟨g, 0, none⟩) n j1)).setCell ⟨rb, 11, none⟩ (.int .i64 (pl : Int))) g X1 := tn_pol (show Tn [rb] (w1.setCell ⟨rb, 2, none⟩ (.slice (some ⟨g, 0, none⟩) n j1)) ((w1.setCell ⟨rb, 2, none⟩ (.slice (some ⟨g, 0, none⟩) n j1)).setCell ⟨rb, 11, none⟩ (.int .i64 (pl : Int))) [rb] from Tn.setCell _ _ _ (by simp)) (tn_pol (show Tn [rb] w1 (w1.setCell ⟨rb, 2, none⟩ (.slice (some ⟨g, 0, none⟩) n j1)) [rb] from Tn.setCell _ _ _ (by simp)) q2 (by simpa using hgr)) (by simpa using hgr)
    obtain ⟨_, _, s2, _, _, _, _, _, _, _, _, _, sf⟩ := R1.cells
    have sf2 := sf 2
    obtain ⟨_, _, _, _, _, _, _, _, _, _, _, t11, tf⟩ := R2.cells
    have tf11 := tf 11
    have HE := Lib.hid (And.intro hT (And.intro R3 (And.intro hB3 (And.intro q3 (And.intro q4 (And.intro q5 (And.intro q6 q7)))))))
    clear b R1 hT R2 R3 hB3 sf tf HDn q1 q2 q3 q4 q5 q6 q7 hS0 r0 r1 r2 k0 k1 k2
    go_wp2_with fail
    go_ret
    obtain ⟨h1, h2, h3, h4, h5, h6, h7, h8⟩ := HE.out
    exact ⟨h1, rfl, g, j1, X1, by rw [← HNn.out, ← HPL.out]; exact h2, h3, by rw [← HNn.out]; exact h4, by rw [← HNn.out]; exact h5, h6, h7, by rw [← HNn.out]; exact h8⟩
end
end Go.Proofs.YtdhcigiaidlmbaaGreatDoor.Pg
/- A reading, laid over. By the verifier of shale. -/
namespace Go.Proofs.YtdhcigiaidlmbaaGreatDoor.Pg
open Go Go.RowKit Bin Pl Cos Enc Syn Loc Sea Dec
set_option linter.unusedVariables false
/-- a reading, its record by numbers. -/
def rdX (w : World) (rb : Nat) (x y : Int) (bv : Value) (c k0 k1 k2 k3 k4 k5 : Int) (dv : Value) (fx : Int) : Prop := w.heap[rb]? = some (.cells #[.int .i64 x, .int .i64 y, bv, .int .i64 c, .int .i64 k0, .int .i64 k1, .int .i64 k2, .int .i64 k3, .int .i64 k4, .int .i64 k5, dv, .int .i64 fx] 96 (0, 0))
theorem rd8 {w : World} {rb : Nat} {x y : Int} {bv : Value} {c0 z0 z1 z2 z3 z4 z5 : Int} {d0 : Value} {fx : Int} (h : rdX w rb x y bv c0 z0 z1 z2 z3 z4 z5 d0 fx) (c k0 k1 k2 k3 k4 k5 : Int) (dv : Value) :
    rdX ((((((((w.setCell ⟨rb, 3, none⟩ (.int .i64 c)).setCell ⟨rb, 4, none⟩ (.int .i64 k0)).setCell ⟨rb, 5, none⟩ (.int .i64 k1)).setCell ⟨rb, 6, none⟩ (.int .i64 k2)).setCell ⟨rb, 7, none⟩ (.int .i64 k3)).setCell ⟨rb, 8, none⟩ (.int .i64 k4)).setCell ⟨rb, 9, none⟩ (.int .i64 k5)).setCell ⟨rb, 10, none⟩ dv) rb x y bv c k0 k1 k2 k3 k4 k5 dv fx := by
  have h0 : rdX (w.setCell ⟨rb, 3, none⟩ (.int .i64 c)) rb x y bv c z0 z1 z2 z3 z4 z5 d0 fx := heap_setCell_same _ _ 3 _ _ _ h
  have h1 : rdX ((w.setCell ⟨rb, 3, none⟩ (.int .i64 c)).setCell ⟨rb, 4, none⟩ (.int .i64 k0)) rb x y bv c k0 z1 z2 z3 z4 z5 d0 fx := heap_setCell_same _ _ 4 _ _ _ h0
  have h2 : rdX (((w.setCell ⟨rb, 3, none⟩ (.int .i64 c)).setCell ⟨rb, 4, none⟩ (.int .i64 k0)).setCell ⟨rb, 5, none⟩ (.int .i64 k1)) rb x y bv c k0 k1 z2 z3 z4 z5 d0 fx := heap_setCell_same _ _ 5 _ _ _ h1
  have h3 : rdX ((((w.setCell ⟨rb, 3, none⟩ (.int .i64 c)).setCell ⟨rb, 4, none⟩ (.int .i64 k0)).setCell ⟨rb, 5, none⟩ (.int .i64 k1)).setCell ⟨rb, 6, none⟩ (.int .i64 k2)) rb x y bv c k0 k1 k2 z3 z4 z5 d0 fx := heap_setCell_same _ _ 6 _ _ _ h2
  have h4 : rdX (((((w.setCell ⟨rb, 3, none⟩ (.int .i64 c)).setCell ⟨rb, 4, none⟩ (.int .i64 k0)).setCell ⟨rb, 5, none⟩ (.int .i64 k1)).setCell ⟨rb, 6, none⟩ (.int .i64 k2)).setCell ⟨rb, 7, none⟩ (.int .i64 k3)) rb x y bv c k0 k1 k2 k3 z4 z5 d0 fx := heap_setCell_same _ _ 7 _ _ _ h3
  have h5 : rdX ((((((w.setCell ⟨rb, 3, none⟩ (.int .i64 c)).setCell ⟨rb, 4, none⟩ (.int .i64 k0)).setCell ⟨rb, 5, none⟩ (.int .i64 k1)).setCell ⟨rb, 6, none⟩ (.int .i64 k2)).setCell ⟨rb, 7, none⟩ (.int .i64 k3)).setCell ⟨rb, 8, none⟩ (.int .i64 k4)) rb x y bv c k0 k1 k2 k3 k4 z5 d0 fx := heap_setCell_same _ _ 8 _ _ _ h4
  have h6 : rdX (((((((w.setCell ⟨rb, 3, none⟩ (.int .i64 c)).setCell ⟨rb, 4, none⟩ (.int .i64 k0)).setCell ⟨rb, 5, none⟩ (.int .i64 k1)).setCell ⟨rb, 6, none⟩ (.int .i64 k2)).setCell ⟨rb, 7, none⟩ (.int .i64 k3)).setCell ⟨rb, 8, none⟩ (.int .i64 k4)).setCell ⟨rb, 9, none⟩ (.int .i64 k5)) rb x y bv c k0 k1 k2 k3 k4 k5 d0 fx := heap_setCell_same _ _ 9 _ _ _ h5
  have h7 : rdX ((((((((w.setCell ⟨rb, 3, none⟩ (.int .i64 c)).setCell ⟨rb, 4, none⟩ (.int .i64 k0)).setCell ⟨rb, 5, none⟩ (.int .i64 k1)).setCell ⟨rb, 6, none⟩ (.int .i64 k2)).setCell ⟨rb, 7, none⟩ (.int .i64 k3)).setCell ⟨rb, 8, none⟩ (.int .i64 k4)).setCell ⟨rb, 9, none⟩ (.int .i64 k5)).setCell ⟨rb, 10, none⟩ dv) rb x y bv c k0 k1 k2 k3 k4 k5 dv fx := heap_setCell_same _ _ 10 _ _ _ h6
  exact h7
theorem rd9 {w : World} {rb : Nat} {x y : Int} {bv : Value} {c0 z0 z1 z2 z3 z4 z5 : Int} {d0 : Value} {fx : Int} (h : rdX w rb x y bv c0 z0 z1 z2 z3 z4 z5 d0 fx) (f : Int) : rdX (w.setCell ⟨rb, 11, none⟩ (.int .i64 f)) rb x y bv c0 z0 z1 z2 z3 z4 z5 d0 f := heap_setCell_same _ _ 11 _ _ _ h
end Go.Proofs.YtdhcigiaidlmbaaGreatDoor.Pg
/- Opening a page: its record and its sector. By the verifier of shale. -/
namespace Go.Proofs.YtdhcigiaidlmbaaGreatDoor.Pg
open Go Go.RowKit Bin Pl Cos Enc Syn Loc Sea Dec Crc
set_option linter.unusedVariables false
theorem rec6 {w : World} {r : Nat} {K : Meta.M6} {t : TypeId} (h : Meta.RecAt w r K t) : w.cell? ⟨r, 0, none⟩ = some (.int .i64 (Meta.fld K 0)) ∧ w.cell? ⟨r, 1, none⟩ = some (.int .i64 (Meta.fld K 1)) ∧ w.cell? ⟨r, 2, none⟩ = some (.int .i64 (Meta.fld K 2)) ∧ w.cell? ⟨r, 3, none⟩ = some (.int .i64 (Meta.fld K 3)) ∧ w.cell? ⟨r, 4, none⟩ = some (.int .i64 (Meta.fld K 4)) ∧ w.cell? ⟨r, 5, none⟩ = some (.int .i64 (Meta.fld K 5)) ∧ w.frozen? ⟨r, 0, none⟩ = false ∧ w.frozen? ⟨r, 1, none⟩ = false ∧ w.frozen? ⟨r, 2, none⟩ = false ∧ w.frozen? ⟨r, 3, none⟩ = false ∧ w.frozen? ⟨r, 4, none⟩ = false ∧ w.frozen? ⟨r, 5, none⟩ = false := ⟨h.cell 0 (by decide), h.cell 1 (by decide), h.cell 2 (by decide), h.cell 3 (by decide), h.cell 4 (by decide), h.cell 5 (by decide), h.free 0, h.free 1, h.free 2, h.free 3, h.free 4, h.free 5⟩
section
variable {m : Nat} [M : Pl.Mid m]
/-- what the last step leaves. -/
def WholePost (sc : Nat) (sd : BitVec 16) (rb : Nat) (x y : Int) (bv : Value) (X : List (BitVec 8)) (fx : Int) (w : World) (e : Ending) (w' : World) : Prop :=
  Tn [rb] w w' [rb] ∧ e = .returned (.bool true) ∧
    ((Meta.Good (X.drop sc) (Scr.mixL sd (X.take sc)) ∧ ∃ g, rdAt w' rb x y bv 1 (Meta.parse (X.drop sc)) (.slice (some ⟨g, 0, none⟩) sc sc) fx ∧ Blk8 w' g (Scr.mixL sd (X.take sc)) ∧ w.heap.size ≤ g) ∨
     (¬ Meta.Good (X.drop sc) (Scr.mixL sd (X.take sc)) ∧ rdAt w' rb x y bv 3 Meta.zeroM (.slice none 0 0) 0))
set_option maxRecDepth 100000 in
set_option maxHeartbeats 6000000 in
theorem whole_any {t sc : Nat} {w : World} {cb s db rb : Nat} {ym yz yr : Addr} (B : PBase m t sc w cb s db ym yz yr) {x y : Int} {g k : Nat} {X : List (BitVec 8)} (hX : Meta.Buf8 w g X) (hl : X.length = sc + 32) (hk : sc + 32 ≤ k) (hkm : k ≤ maxLen) {fx : Int} (R : rdAt w rb x y (.slice (some ⟨g, 0, none⟩) (sc + 32) k) 0 Meta.zeroM (.slice none 0 0) fx) :
    Calls Tryz.prog 56 #[.pointer (some ⟨cb, 0, none⟩), .pointer (some ⟨rb, 0, none⟩)] w (WholePost sc (sdOf x y) rb x y (.slice (some ⟨g, 0, none⟩) (sc + 32) k) X fx w) := by
  have hs1 := B.sc1
  have hs2 := B.sc2
  unfold maxLen at hkm
  obtain ⟨n, hn⟩ : ∃ n, n = sc + 32 := ⟨_, rfl⟩
  have n1 : sc ≤ n := by omega
  have n2 : sc ≤ k := by omega
  have n3 : ¬ k = sc := by omega
  have n4 : n ≤ 1100 := by omega
  have n5 : n ≤ k := by omega
  have i0 : (0 : Int) ≤ (sc : Int) := by omega
  have i1 : (sc : Int) ≤ (n : Int) := by omega
  have i2 : (sc : Int) ≤ (k : Int) := by omega
  have e3 : (n : Int) - (sc : Int) = 32 := by omega
  have e4 : n - sc = 32 := by omega
  obtain ⟨k0, k1, k2⟩ := B.pg.cells
  have hR := R
  rw [← hn] at hR hl
  obtain ⟨r0, r1, r2, _⟩ := hR.cells
  have hcl := lt_of_block B.pg
  have hrl := R.lt
  have hgl := hX.lt
  have HS : Hid (∀ w', Below w.heap.size w w' → (w'.cell? ⟨rb, 0, none⟩ = some (.int .i64 x) ∧ w'.cell? ⟨rb, 1, none⟩ = some (.int .i64 y) ∧ w'.cell? ⟨rb, 2, none⟩ = some (.slice (some ⟨g, 0, none⟩) n k) ∧ w'.cell? ⟨cb, 0, none⟩ = some (.int .i64 (sc : Int)) ∧ Below w.heap.size w w')) := fun w' b => ⟨(b.cell (p := ⟨rb, 0, none⟩) hrl).trans r0, (b.cell (p := ⟨rb, 1, none⟩) hrl).trans r1, (b.cell (p := ⟨rb, 2, none⟩) hrl).trans r2, (b.cell (p := ⟨cb, 0, none⟩) hcl).trans k0, b⟩
  have HSe : Hid (∀ w' (_ : (w'.cell? ⟨rb, 0, none⟩ = some (.int .i64 x) ∧ w'.cell? ⟨rb, 1, none⟩ = some (.int .i64 y) ∧ w'.cell? ⟨rb, 2, none⟩ = some (.slice (some ⟨g, 0, none⟩) n k) ∧ w'.cell? ⟨cb, 0, none⟩ = some (.int .i64 (sc : Int)) ∧ Below w.heap.size w w')), Calls Tryz.prog 46 #[.agg #[.int .i64 x, .int .i64 y]] w' fun e w'' => e = .returned (.int .i64 (Scr.seedOf x y)) ∧ (w''.cell? ⟨rb, 0, none⟩ = some (.int .i64 x) ∧ w''.cell? ⟨rb, 1, none⟩ = some (.int .i64 y) ∧ w''.cell? ⟨rb, 2, none⟩ = some (.slice (some ⟨g, 0, none⟩) n k) ∧ w''.cell? ⟨cb, 0, none⟩ = some (.int .i64 (sc : Int)) ∧ Below w.heap.size w w'')) := fun w' hs => (Scr.seed_any x y w').mono fun e w'' h => ⟨h.1, HS.out w'' (hs.2.2.2.2.trans (h.2.mono hs.2.2.2.2.size))⟩
  have HMi : Hid (∀ w' (_ : (w'.cell? ⟨rb, 0, none⟩ = some (.int .i64 x) ∧ w'.cell? ⟨rb, 1, none⟩ = some (.int .i64 y) ∧ w'.cell? ⟨rb, 2, none⟩ = some (.slice (some ⟨g, 0, none⟩) n k) ∧ w'.cell? ⟨cb, 0, none⟩ = some (.int .i64 (sc : Int)) ∧ Below w.heap.size w w')), Calls Tryz.prog 45 #[.int .i64 (Scr.seedOf x y), .slice (some ⟨g, 0, none⟩) sc k] w' fun e w'' => ∃ g2, e = .returned (.slice (some ⟨g2, 0, none⟩) sc sc) ∧ Blk8 w'' g2 (Scr.mixL (sdOf x y) (X.take sc)) ∧ w.heap.size ≤ g2 ∧ (w''.cell? ⟨rb, 0, none⟩ = some (.int .i64 x) ∧ w''.cell? ⟨rb, 1, none⟩ = some (.int .i64 y) ∧ w''.cell? ⟨rb, 2, none⟩ = some (.slice (some ⟨g, 0, none⟩) n k) ∧ w''.cell? ⟨cb, 0, none⟩ = some (.int .i64 (sc : Int)) ∧ Below w.heap.size w w'')) := fun w' hs => (Scr.mix_any (Scr.seedOf x y) (X.take sc) sc k (some ⟨g, 0, none⟩) w' (by rw [List.length_take]; omega) (by omega) (.inr ⟨g, 0, rfl, ((hX.below hs.2.2.2.2 hgl).row.take sc), Nat.lt_of_lt_of_le hgl hs.2.2.2.2.size⟩)).mono fun e w'' h => by
    obtain ⟨g2, h1, h2, h3, h4⟩ := h
    exact ⟨g2, h1, h2, Nat.le_trans hs.2.2.2.2.size h4, HS.out w'' (hs.2.2.2.2.trans (h3.mono hs.2.2.2.2.size))⟩
  have hS0 := HS.out w.drew ((Drawn.mk w 1).below _)
  have HR := Lib.hid (And.intro hR (And.intro hrl (And.intro hgl (And.intro hX (And.intro hl B)))))
  have HNn := Lib.hid hn
  rw [← hn]
  clear hR R hX B hcl hrl hgl hl hn hkm hk
  go_enter Tryz.func56, Tryz.ntmps56
  go_wp2_with fail
  clear k0 k1 k2 r0 r1 r2
  go_region_held3 (fun w' => (w'.cell? ⟨rb, 0, none⟩ = some (.int .i64 x) ∧ w'.cell? ⟨rb, 1, none⟩ = some (.int .i64 y) ∧ w'.cell? ⟨rb, 2, none⟩ = some (.slice (some ⟨g, 0, none⟩) n k) ∧ w'.cell? ⟨cb, 0, none⟩ = some (.int .i64 (sc : Int)) ∧ Below w.heap.size w w'))
    (first | assumption | exact ⟨by assumption, by assumption, by assumption, by assumption, by assumption⟩)
    (first
      | (go_at_call 46; (refine Calls.mono (HSe.out _ (by assumption)) ?_); rintro e w1 ⟨rfl, z1⟩)
      | (go_at_call 45; (refine Calls.mono (HMi.out _ (by assumption)) ?_); rintro e w1 ⟨g2, rfl, q1, q2, q3⟩))
  obtain ⟨w5, rfl⟩ : ∃ w5, w5 = w1 := ⟨_, rfl⟩
  have b := q3.2.2.2.2
  obtain ⟨e0, e1, e2, ek, _⟩ := q3
  have hg2l := q1.lt
  have hml : (Scr.mixL (sdOf x y) (X.take sc)).length = sc := by rw [Scr.mixL_length, List.length_take]; have := HR.out.2.2.2.2.1; omega
  have hdl : (X.drop sc).length = 32 := by rw [List.length_drop]; have := HR.out.2.2.2.2.1; omega
  have HS2 : Hid (∀ w', Below w5.heap.size w5 w' → (w'.cell? ⟨rb, 2, none⟩ = some (.slice (some ⟨g, 0, none⟩) n k) ∧ w'.cell? ⟨cb, 0, none⟩ = some (.int .i64 (sc : Int)) ∧ Below w5.heap.size w5 w')) := fun w' bb => ⟨(bb.cell (p := ⟨rb, 2, none⟩) (Nat.lt_of_lt_of_le HR.out.2.1 b.size)).trans e2, (bb.cell (p := ⟨cb, 0, none⟩) (World.block_lt_of_cell? _ _ ek)).trans ek, bb⟩
  have HOp : Hid (∀ w' (_ : (w'.cell? ⟨rb, 2, none⟩ = some (.slice (some ⟨g, 0, none⟩) n k) ∧ w'.cell? ⟨cb, 0, none⟩ = some (.int .i64 (sc : Int)) ∧ Below w5.heap.size w5 w')), Calls Tryz.prog 83 #[.slice (some ⟨g, sc, none⟩) 32 (k - sc), .slice (some ⟨g2, 0, none⟩) sc sc] w' fun e w'' => e = .returned (.tuple #[Meta.metaV (if Meta.Good (X.drop sc) (Scr.mixL (sdOf x y) (X.take sc)) then Meta.parse (X.drop sc) else Meta.zeroM), if Meta.Good (X.drop sc) (Scr.mixL (sdOf x y) (X.take sc)) then .nilIface else errOf yr]) ∧ (w''.cell? ⟨rb, 2, none⟩ = some (.slice (some ⟨g, 0, none⟩) n k) ∧ w''.cell? ⟨cb, 0, none⟩ = some (.int .i64 (sc : Int)) ∧ Below w5.heap.size w5 w'') ∧ Below w'.heap.size w' w'') := fun w' hs => by
    have bw := b.trans (hs.2.2.mono b.size)
    have hB := HR.out.2.2.2.2.2.below bw
    have hX' := HR.out.2.2.2.1.below bw HR.out.2.2.1
    have hrow : Row8 w' g (0 + sc) (X.drop sc) := hX'.row.drop sc
    rw [Nat.zero_add] at hrow
    refine (Meta.open_any (X.drop sc) (Scr.mixL (sdOf x y) (X.take sc)) (some ⟨g, sc, none⟩) 32 (k - sc) (.slice (some ⟨g2, 0, none⟩) sc sc) w' hB.tab (IsBytes.mk hdl.symm hrow hX'.lt) hdl.symm (by omega) yr hB.rcd ⟨blk_arg (keepZ q1 hs.2.2) hml.symm, by rw [hml]; unfold maxLen; omega⟩).mono ?_
    rintro e w'' ⟨rfl, b3⟩
    exact ⟨rfl, HS2.out w'' (hs.2.2.trans (b3.mono hs.2.2.size)), b3⟩
  obtain ⟨Km, hKm⟩ : ∃ Km, Km = if Meta.Good (X.drop sc) (Scr.mixL (sdOf x y) (X.take sc)) then Meta.parse (X.drop sc) else Meta.zeroM := ⟨_, rfl⟩
  obtain ⟨ev, hev⟩ : ∃ ev, ev = if Meta.Good (X.drop sc) (Scr.mixL (sdOf x y) (X.take sc)) then Value.nilIface else errOf yr := ⟨_, rfl⟩
  rw [← hKm, ← hev] at HOp
  have HKE := Lib.hid (And.intro hKm hev)
  clear hKm hev
  have HO1 : Hid (Calls Tryz.prog 83 #[.slice (some ⟨g, sc, none⟩) 32 (k - sc), .slice (some ⟨g2, 0, none⟩) sc sc] w5.drew fun e w'' => e = .returned (.tuple #[Meta.metaV Km, ev]) ∧ Below w5.heap.size w5 w'') := (HOp.out _ (HS2.out w5.drew ((Drawn.mk w5 1).below _))).mono fun e w'' h => ⟨h.1, h.2.1.2.2⟩
  have HO2 : Hid (Calls Tryz.prog 83 #[.slice (some ⟨g, sc, none⟩) 32 (k - sc), .slice (some ⟨g2, 0, none⟩) sc sc] (w5.alloc (.cells #[.int .i64 0, .int .i64 0, .int .i64 0, .int .i64 0, .int .i64 0, .int .i64 0] 45 (0, 0))).drew fun e w'' => e = .returned (.tuple #[Meta.metaV Km, ev]) ∧ Below w5.heap.size w5 w'' ∧ Meta.RecAt w'' w5.heap.size Meta.zeroM 45) := by
    have b7 : Below w5.heap.size w5 (w5.alloc (.cells #[.int .i64 0, .int .i64 0, .int .i64 0, .int .i64 0, .int .i64 0, .int .i64 0] 45 (0, 0))).drew := ((Below.refl _ _).alloc (Nat.le_refl _) _).drew
    have hr : Meta.RecAt (w5.alloc (.cells #[.int .i64 0, .int .i64 0, .int .i64 0, .int .i64 0, .int .i64 0, .int .i64 0] 45 (0, 0))).drew w5.heap.size Meta.zeroM 45 := heap_alloc_new w5 _
    refine (HOp.out _ (HS2.out _ b7)).mono ?_
    rintro e w'' ⟨h1, h2, h3⟩
    exact ⟨h1, h2.2.2, keepM hr h3⟩
  have hlr : rb < w5.heap.size := Nat.lt_of_lt_of_le HR.out.2.1 b.size
  have hlc : cb < w5.heap.size := World.block_lt_of_cell? _ _ ek
  have hnr : ¬ rb = w5.heap.size := by omega
  have hnc : ¬ cb = w5.heap.size := by omega
  have hnr2 : ¬ w5.heap.size = rb := by omega
  have hnc2 : ¬ w5.heap.size = cb := by omega
  clear e0 e1 HS HSe HMi z1 hS0
  go_upto_region 2 with (fail)
  go_cut [6, 7] (fun s6 s7 wx => ∃ b6 : Nat, s6 = .pointer (some ⟨b6, 0, none⟩) ∧ s7 = ev ∧ Hid (Meta.RecAt wx b6 Km 45 ∧ Below w5.heap.size w5 wx ∧ w5.heap.size ≤ b6))
  case first =>
    rename_i J9 K9 h91 h92
    go_region_with (first
        | (go_at_call 83; (refine Calls.mono HO1.out ?_); rintro e w1 ⟨rfl, z4⟩)
        | (go_at_call 83; (refine Calls.mono HO2.out ?_); rintro e w1 ⟨rfl, z4, z5⟩; obtain ⟨y0, y1, y2, y3, y4, y5, yf0, yf1, yf2, yf3, yf4, yf5⟩ := rec6 z5))
    all_goals
      (change Exit.then _ _ _ (Act.put _ (some 7) _) _; simp only [Act.put, List.setIfInBounds_toArray, List.set_cons_zero, List.set_cons_succ])
    all_goals (first
      | (have hF : Meta.RecAt ((((((w1.setCell ⟨w5.heap.size, 0, none⟩ (.int .i64 (Meta.fld Km 0))).setCell ⟨w5.heap.size, 1, none⟩ (.int .i64 (Meta.fld Km 1))).setCell ⟨w5.heap.size, 2, none⟩ (.int .i64 (Meta.fld Km 2))).setCell ⟨w5.heap.size, 3, none⟩ (.int .i64 (Meta.fld Km 3))).setCell ⟨w5.heap.size, 4, none⟩ (.int .i64 (Meta.fld Km 4))).setCell ⟨w5.heap.size, 5, none⟩ (.int .i64 (Meta.fld Km 5))) w5.heap.size Km 45 ∧ Below w5.heap.size w5 ((((((w1.setCell ⟨w5.heap.size, 0, none⟩ (.int .i64 (Meta.fld Km 0))).setCell ⟨w5.heap.size, 1, none⟩ (.int .i64 (Meta.fld Km 1))).setCell ⟨w5.heap.size, 2, none⟩ (.int .i64 (Meta.fld Km 2))).setCell ⟨w5.heap.size, 3, none⟩ (.int .i64 (Meta.fld Km 3))).setCell ⟨w5.heap.size, 4, none⟩ (.int .i64 (Meta.fld Km 4))).setCell ⟨w5.heap.size, 5, none⟩ (.int .i64 (Meta.fld Km 5))) ∧ w5.heap.size ≤ w5.heap.size := ⟨heap_setCell_same _ _ 5 _ _ _ (heap_setCell_same _ _ 4 _ _ _ (heap_setCell_same _ _ 3 _ _ _ (heap_setCell_same _ _ 2 _ _ _ (heap_setCell_same _ _ 1 _ _ _ (heap_setCell_same _ _ 0 _ _ _ z5))))), (((((z4.setCell (Nat.le_refl _) _).setCell (Nat.le_refl _) _).setCell (Nat.le_refl _) _).setCell (Nat.le_refl _) _).setCell (Nat.le_refl _) _).setCell (Nat.le_refl _) _, Nat.le_refl _⟩
         clear y0 y1 y2 y3 y4 y5 yf0 yf1 yf2 yf3 yf4 yf5 z5
         generalize ((((((w1.setCell ⟨w5.heap.size, 0, none⟩ (.int .i64 (Meta.fld Km 0))).setCell ⟨w5.heap.size, 1, none⟩ (.int .i64 (Meta.fld Km 1))).setCell ⟨w5.heap.size, 2, none⟩ (.int .i64 (Meta.fld Km 2))).setCell ⟨w5.heap.size, 3, none⟩ (.int .i64 (Meta.fld Km 3))).setCell ⟨w5.heap.size, 4, none⟩ (.int .i64 (Meta.fld Km 4))).setCell ⟨w5.heap.size, 5, none⟩ (.int .i64 (Meta.fld Km 5))) = w6 at hF ⊢
         obtain ⟨b6, hb6⟩ : ∃ b6, b6 = w5.heap.size := ⟨_, rfl⟩
         rw [← hb6]
         replace hF : Meta.RecAt w6 b6 Km 45 ∧ Below w5.heap.size w5 w6 ∧ w5.heap.size ≤ b6 := by rw [hb6]; exact hF
         clear hb6)
      | (have hF : Meta.RecAt (w1.alloc (.cells #[.int .i64 (Meta.fld Km 0), .int .i64 (Meta.fld Km 1), .int .i64 (Meta.fld Km 2), .int .i64 (Meta.fld Km 3), .int .i64 (Meta.fld Km 4), .int .i64 (Meta.fld Km 5)] 45 (0, 0))) w1.heap.size Km 45 ∧ Below w5.heap.size w5 (w1.alloc (.cells #[.int .i64 (Meta.fld Km 0), .int .i64 (Meta.fld Km 1), .int .i64 (Meta.fld Km 2), .int .i64 (Meta.fld Km 3), .int .i64 (Meta.fld Km 4), .int .i64 (Meta.fld Km 5)] 45 (0, 0))) ∧ w5.heap.size ≤ w1.heap.size := ⟨heap_alloc_new w1 _, z4.alloc z4.size _, z4.size⟩
         generalize w1.alloc (.cells #[.int .i64 (Meta.fld Km 0), .int .i64 (Meta.fld Km 1), .int .i64 (Meta.fld Km 2), .int .i64 (Meta.fld Km 3), .int .i64 (Meta.fld Km 4), .int .i64 (Meta.fld Km 5)] 45 (0, 0)) = w6 at hF ⊢
         generalize w1.heap.size = b6 at hF ⊢))
    all_goals (refine h92 _ _ (Met.intro (h91 _ _ ?_)); (repeat apply Exists.intro); exact ⟨⟨b6, rfl, rfl, hF⟩, rfl⟩)
  case rest =>
    obtain ⟨b6, rfl, hs7, HF⟩ := hcut
    replace hs7 := hs7.symm
    subst hs7
    obtain ⟨w6, rfl⟩ : ∃ w6, w6 = wc := ⟨_, rfl⟩
    have hF := HF.out
    clear HF
    clear HO1 HO2 HOp HS2 hnr hnc hnr2 hnc2
    obtain ⟨hM6, hB6, hb6⟩ := hF
    have hR6 : rdAt w6 rb x y (.slice (some ⟨g, 0, none⟩) n k) 0 Meta.zeroM (.slice none 0 0) fx := HR.out.1.same ((hB6.block rb hlr).trans (b.block rb HR.out.2.1))
    have hT6 : Tn [rb] w w6 [rb] := Tn.below (b.trans (hB6.mono b.size))
    have hQ6 := keepZ q1 hB6
    have hg2r : g2 ≠ rb := by have := HR.out.2.1; omega
    have h6r : ¬ b6 = rb := by omega
    have hr6 : ¬ rb = b6 := by omega
    have HB6 := Lib.hid (And.intro hT6 (And.intro hQ6 (And.intro hg2r (And.intro hR6 q2))))
    obtain ⟨m0, m1, m2, m3, m4, m5, _⟩ := rec6 hM6
    obtain ⟨_, _, _, s3, s4, s5, s6, s7, s8, s9, s10, s11, sf⟩ := hR6.cells
    have f3 := sf 3
    have f4 := sf 4
    have f5 := sf 5
    have f6 := sf 6
    have f7 := sf 7
    have f8 := sf 8
    have f9 := sf 9
    have f10 := sf 10
    have f11 := sf 11
    clear sf hT6 hQ6 hR6 hM6 hB6 q1 q2 hg2r hb6 b ek hlc
    by_cases hG : Meta.Good (X.drop sc) (Scr.mixL (sdOf x y) (X.take sc))
    · have he : ev = Value.nilIface := by rw [HKE.out.2, if_pos hG]
      have hk : Km = Meta.parse (X.drop sc) := by rw [HKE.out.1, if_pos hG]
      have HGG := Lib.hid (And.intro hG hk)
      subst he
      clear hG hk HKE
      go_wp2_with fail
      go_region
      obtain ⟨hT6, hQ6, hg2r, hR6, q2⟩ := HB6.out
      have r8 := rd8 (show rdX w6 rb x y _ 0 _ _ _ _ _ _ _ fx from hR6) 1 (Meta.fld Km 0) (Meta.fld Km 1) (Meta.fld Km 2) (Meta.fld Km 3) (Meta.fld Km 4) (Meta.fld Km 5) (.slice (some ⟨g2, 0, none⟩) sc sc)
      have hT8 : Tn [rb] w6 ((((((((w6.setCell ⟨rb, 3, none⟩ (.int .i64 1)).setCell ⟨rb, 4, none⟩ (.int .i64 (Meta.fld Km 0))).setCell ⟨rb, 5, none⟩ (.int .i64 (Meta.fld Km 1))).setCell ⟨rb, 6, none⟩ (.int .i64 (Meta.fld Km 2))).setCell ⟨rb, 7, none⟩ (.int .i64 (Meta.fld Km 3))).setCell ⟨rb, 8, none⟩ (.int .i64 (Meta.fld Km 4))).setCell ⟨rb, 9, none⟩ (.int .i64 (Meta.fld Km 5))).setCell ⟨rb, 10, none⟩ (.slice (some ⟨g2, 0, none⟩) sc sc)) [rb] := ((((((((Tn.setCell _ ⟨rb, 3, none⟩ (.int .i64 1) (by simp)).trans (Tn.setCell _ ⟨rb, 4, none⟩ (.int .i64 (Meta.fld Km 0)) (by simp))).trans (Tn.setCell _ ⟨rb, 5, none⟩ (.int .i64 (Meta.fld Km 1)) (by simp))).trans (Tn.setCell _ ⟨rb, 6, none⟩ (.int .i64 (Meta.fld Km 2)) (by simp))).trans (Tn.setCell _ ⟨rb, 7, none⟩ (.int .i64 (Meta.fld Km 3)) (by simp))).trans (Tn.setCell _ ⟨rb, 8, none⟩ (.int .i64 (Meta.fld Km 4)) (by simp))).trans (Tn.setCell _ ⟨rb, 9, none⟩ (.int .i64 (Meta.fld Km 5)) (by simp))).trans (Tn.setCell _ ⟨rb, 10, none⟩ (.slice (some ⟨g2, 0, none⟩) sc sc) (by simp)))
      have o8 : Only rb w6 ((((((((w6.setCell ⟨rb, 3, none⟩ (.int .i64 1)).setCell ⟨rb, 4, none⟩ (.int .i64 (Meta.fld Km 0))).setCell ⟨rb, 5, none⟩ (.int .i64 (Meta.fld Km 1))).setCell ⟨rb, 6, none⟩ (.int .i64 (Meta.fld Km 2))).setCell ⟨rb, 7, none⟩ (.int .i64 (Meta.fld Km 3))).setCell ⟨rb, 8, none⟩ (.int .i64 (Meta.fld Km 4))).setCell ⟨rb, 9, none⟩ (.int .i64 (Meta.fld Km 5))).setCell ⟨rb, 10, none⟩ (.slice (some ⟨g2, 0, none⟩) sc sc)) := ((((((((Only.setCell _ ⟨rb, 3, none⟩ (.int .i64 1)).trans (Only.setCell _ ⟨rb, 4, none⟩ (.int .i64 (Meta.fld Km 0)))).trans (Only.setCell _ ⟨rb, 5, none⟩ (.int .i64 (Meta.fld Km 1)))).trans (Only.setCell _ ⟨rb, 6, none⟩ (.int .i64 (Meta.fld Km 2)))).trans (Only.setCell _ ⟨rb, 7, none⟩ (.int .i64 (Meta.fld Km 3)))).trans (Only.setCell _ ⟨rb, 8, none⟩ (.int .i64 (Meta.fld Km 4)))).trans (Only.setCell _ ⟨rb, 9, none⟩ (.int .i64 (Meta.fld Km 5)))).trans (Only.setCell _ ⟨rb, 10, none⟩ (.slice (some ⟨g2, 0, none⟩) sc sc)))
      clear s3 s4 s5 s6 s7 s8 s9 s10 s11 f3 f4 f5 f6 f7 f8 f9 f10 f11 m0 m1 m2 m3 m4 m5
      generalize ((((((((w6.setCell ⟨rb, 3, none⟩ (.int .i64 1)).setCell ⟨rb, 4, none⟩ (.int .i64 (Meta.fld Km 0))).setCell ⟨rb, 5, none⟩ (.int .i64 (Meta.fld Km 1))).setCell ⟨rb, 6, none⟩ (.int .i64 (Meta.fld Km 2))).setCell ⟨rb, 7, none⟩ (.int .i64 (Meta.fld Km 3))).setCell ⟨rb, 8, none⟩ (.int .i64 (Meta.fld Km 4))).setCell ⟨rb, 9, none⟩ (.int .i64 (Meta.fld Km 5))).setCell ⟨rb, 10, none⟩ (.slice (some ⟨g2, 0, none⟩) sc sc)) = w8 at r8 hT8 o8 ⊢
      have HE := Lib.hid (And.intro r8 (And.intro hT8 o8))
      clear r8 hT8 o8 hT6 hQ6 hg2r hR6 q2
      go_wp2_with fail
      obtain ⟨hT6, hQ6, hg2r, hR6, q2⟩ := HB6.out
      obtain ⟨r8, hT8, o8⟩ := HE.out
      go_ret
      refine ⟨(hT6.trans hT8).trans (Tn.below ((Drawn.mk w8 1).below _)), rfl, Or.inl ⟨HGG.out.1, g2, ?_, (o8.block g2 hg2r).trans hQ6, q2⟩⟩
      rw [← HGG.out.2]
      exact r8
    · have he : ev = errOf yr := by rw [HKE.out.2, if_neg hG]
      have HGG := Lib.hid hG
      subst he
      clear hG HKE
      go_wp2_with fail
      obtain ⟨hT6, hQ6, hg2r, hR6, q2⟩ := HB6.out
      have r9 := rd9 (rd8 (show rdX w6 rb x y _ 0 _ _ _ _ _ _ _ fx from hR6) 3 0 0 0 0 0 0 (.slice none 0 0)) 0
      have hT9 : Tn [rb] w6 (((((((((w6.setCell ⟨rb, 3, none⟩ (.int .i64 3)).setCell ⟨rb, 4, none⟩ (.int .i64 0)).setCell ⟨rb, 5, none⟩ (.int .i64 0)).setCell ⟨rb, 6, none⟩ (.int .i64 0)).setCell ⟨rb, 7, none⟩ (.int .i64 0)).setCell ⟨rb, 8, none⟩ (.int .i64 0)).setCell ⟨rb, 9, none⟩ (.int .i64 0)).setCell ⟨rb, 10, none⟩ (.slice none 0 0)).setCell ⟨rb, 11, none⟩ (.int .i64 0)) [rb] := (((((((((Tn.setCell _ ⟨rb, 3, none⟩ (.int .i64 3) (by simp)).trans (Tn.setCell _ ⟨rb, 4, none⟩ (.int .i64 0) (by simp))).trans (Tn.setCell _ ⟨rb, 5, none⟩ (.int .i64 0) (by simp))).trans (Tn.setCell _ ⟨rb, 6, none⟩ (.int .i64 0) (by simp))).trans (Tn.setCell _ ⟨rb, 7, none⟩ (.int .i64 0) (by simp))).trans (Tn.setCell _ ⟨rb, 8, none⟩ (.int .i64 0) (by simp))).trans (Tn.setCell _ ⟨rb, 9, none⟩ (.int .i64 0) (by simp))).trans (Tn.setCell _ ⟨rb, 10, none⟩ (.slice none 0 0) (by simp))).trans (Tn.setCell _ ⟨rb, 11, none⟩ (.int .i64 0) (by simp)))
      generalize (((((((((w6.setCell ⟨rb, 3, none⟩ (.int .i64 3)).setCell ⟨rb, 4, none⟩ (.int .i64 0)).setCell ⟨rb, 5, none⟩ (.int .i64 0)).setCell ⟨rb, 6, none⟩ (.int .i64 0)).setCell ⟨rb, 7, none⟩ (.int .i64 0)).setCell ⟨rb, 8, none⟩ (.int .i64 0)).setCell ⟨rb, 9, none⟩ (.int .i64 0)).setCell ⟨rb, 10, none⟩ (.slice none 0 0)).setCell ⟨rb, 11, none⟩ (.int .i64 0)) = w9 at r9 hT9 ⊢
      go_ret
      exact ⟨hT6.trans hT9, rfl, Or.inr ⟨HGG.out, r9⟩⟩
end
end Go.Proofs.YtdhcigiaidlmbaaGreatDoor.Pg
/- Opening a page, whatever lies on it. By the verifier of shale. -/
namespace Go.Proofs.YtdhcigiaidlmbaaGreatDoor.Pg
open Go Go.RowKit Bin Pl Cos Enc Syn Loc Sea Dec Crc
set_option linter.unusedVariables false
section
variable {m : Nat} [M : Pl.Mid m]
/-- what a word of a page is mended to. -/
noncomputable abbrev decP (m t sc : Nat) [M : Pl.Mid m] (l : List (BitVec 8)) : Option (List Nat) := dec m t (8 * (sc + 32) + deg m t) (wd m t (val (l.take (sc + 32))) (val (l.drop (sc + 32))))
/-- what opening answers. -/
def OpenPost (m t sc : Nat) [M : Pl.Mid m] (sd : BitVec 16) (N : Nat) (l : List (BitVec 8)) (w : World) (e : Ending) (w' : World) : Prop :=
  Below w.heap.size w w' ∧
  ((Meta.zL l N ≤ t ∧ e = .returned (.tuple #[rsV 2 Meta.zeroM (.slice none 0 0) 0, .nilIface])) ∨
   (t < Meta.zL l N ∧ decP m t sc l = none ∧ e = .returned (.tuple #[rsV 3 Meta.zeroM (.slice none 0 0) 0, .nilIface])) ∨
   (t < Meta.zL l N ∧ ∃ p X, decP m t sc l = some p ∧ X.length = sc + 32 ∧ val X = val (l.take (sc + 32)) ^^^ xs p >>> deg m t ∧
     ((¬ Meta.Good (X.drop sc) (Scr.mixL sd (X.take sc)) ∧ e = .returned (.tuple #[rsV 3 Meta.zeroM (.slice none 0 0) 0, .nilIface])) ∨
      (Meta.Good (X.drop sc) (Scr.mixL sd (X.take sc)) ∧ ∃ g, e = .returned (.tuple #[rsV 1 (Meta.parse (X.drop sc)) (.slice (some ⟨g, 0, none⟩) sc sc) (p.length : Int), .nilIface]) ∧ Blk8 w' g (Scr.mixL sd (X.take sc)) ∧ w.heap.size ≤ g))))
set_option maxRecDepth 100000 in
set_option maxHeartbeats 3000000 in
theorem open_any {t sc : Nat} {w : World} {cb s db : Nat} {ym yz yr : Addr} (B : PBase m t sc w cb s db ym yz yr) (x y : Int) {bb off N c : Nat} {l : List (BitVec 8)} (hl : Pol w (some ⟨bb, off, none⟩) N c l) (hN : N = sc + 32 + pb (deg m t)) :
    Calls Tryz.prog 24 #[.pointer (some ⟨cb, 0, none⟩), .agg #[.int .i64 x, .int .i64 y], .slice (some ⟨bb, off, none⟩) N c] w (OpenPost m t sc (sdOf x y) N l w) := by
  have hs2 := B.sc2
  have hD5 := deg_560 (m := m) B.base.t40
  have hP2 : pb (deg m t) ≤ 100 := by unfold pb; omega
  have hN4 : N ≤ 1200 := by omega
  have HB := Lib.hid B
  have HL := Lib.hid hl
  have HN := Lib.hid hN
  clear B hl hP2 hD5 hN
  go_enter Tryz.func24, Tryz.ntmps24
  go_upto_region 1 with (fail)
  generalize hw : w.alloc (.cells #[.int .i64 x, .int .i64 y] 43 (0, 0)) = w1
  obtain ⟨Q, b, hsz⟩ := newPl w w1 x y hw
  clear hw
  obtain ⟨bp, hbp⟩ : ∃ bp, bp = w.heap.size := ⟨_, rfl⟩
  have HBp := Lib.hid hbp
  rw [← hbp] at Q hsz ⊢
  generalize hw : w1.alloc (.cells #[.int .i64 0, .int .i64 0, .int .i64 0, .int .i64 0, .int .i64 0, .int .i64 0, .int .i64 0, .slice none 0 0, .int .i64 0] 55 (0, 0)) = w2
  obtain ⟨R, b2⟩ := newRs w1 w2 hw
  clear hw hbp
  obtain ⟨rs, hrs⟩ : ∃ rs, rs = bp + 1 := ⟨_, rfl⟩
  rw [hsz, ← hrs] at R
  rw [← hrs]
  replace Q := (b2.block bp (lt_of_block Q)).trans Q
  have B2 := b.trans (b2.mono b.size)
  have hrsl : rs < w2.heap.size := lt_of_block R
  have hrsw : w.heap.size ≤ rs := by have := HBp.out; omega
  have HRW := Lib.hid hrsw
  clear b b2 hsz hrs hrsw
  have HSz := Lib.hid (size_any (HB.out.below B2))
  rw [← HN.out] at HSz
  go_wp2_with fail
  refine HSz.out.mono ?_
  rintro e w3 ⟨rfl, d⟩
  have b := d.below w2.heap.size
  replace Q := (b.block bp (lt_of_block Q)).trans Q
  replace R := (b.block rs hrsl).trans R
  have hrsl3 : rs < w3.heap.size := lt_of_block R
  have B3 := B2.trans (b.mono B2.size)
  obtain ⟨p0, p1⟩ := pl_cells Q
  clear b d B2 hrsl HSz Q
  go_wp2_with fail
  obtain ⟨w4, hw4⟩ : ∃ w4, w4 = ((w3.alloc (.cells #[.int .i64 x, .int .i64 y, .slice (some ⟨bb, off, none⟩) N c, .int .i64 0, .int .i64 0, .int .i64 0, .int .i64 0, .int .i64 0, .int .i64 0, .int .i64 0, .slice none 0 0, .int .i64 0] 96 (0, 0))).alloc (.cells #[.func (.func 54) #[.pointer (some ⟨cb, 0, none⟩)] #[], .func (.func 55) #[.pointer (some ⟨cb, 0, none⟩)] #[], .func (.func 56) #[.pointer (some ⟨cb, 0, none⟩)] #[]] 97 (0, 0))) := ⟨_, rfl⟩
  obtain ⟨rb, hrbE⟩ : ∃ rb, rb = w3.heap.size := ⟨_, rfl⟩
  have b4 : Below w3.heap.size w3 w4 := by rw [hw4]; exact ((Below.refl _ _).alloc (Nat.le_refl _) _).alloc (by simp) _
  have hRd : rdAt w4 rb x y (.slice (some ⟨bb, off, none⟩) N c) 0 Meta.zeroM (.slice none 0 0) 0 := by
    rw [hw4, hrbE]; exact (Below.heap_alloc _ _ _ (by simp)).trans (heap_alloc_new w3 _)
  have hSt : pgSteps w4 (rb + 1) cb := by
    rw [hw4, hrbE]
    have h := heap_alloc_new (w3.alloc (.cells #[.int .i64 x, .int .i64 y, .slice (some ⟨bb, off, none⟩) N c, .int .i64 0, .int .i64 0, .int .i64 0, .int .i64 0, .int .i64 0, .int .i64 0, .int .i64 0, .slice none 0 0, .int .i64 0] 96 (0, 0))) (.cells #[.func (.func 54) #[.pointer (some ⟨cb, 0, none⟩)] #[], .func (.func 55) #[.pointer (some ⟨cb, 0, none⟩)] #[], .func (.func 56) #[.pointer (some ⟨cb, 0, none⟩)] #[]] 97 (0, 0))
    rw [World.size_alloc] at h
    exact h
  rw [← hw4, ← hrbE]
  have B4 := B3.trans (b4.mono B3.size)
  replace R := (b4.block rs hrsl3).trans R
  have hrbw : w.heap.size ≤ rb := by rw [hrbE]; exact B3.size
  have hne : rs ≠ rb := by omega
  have HEr := Lib.hid (erased_any (HB.out.below B4) (HL.out.below B4) (by omega) hRd)
  have HW4 := Lib.hid (And.intro R (And.intro B4 (And.intro hRd hSt)))
  have HNE := Lib.hid (And.intro hrbw hne)
  obtain ⟨s0, s1, s2⟩ := hSt.cells
  clear hw4 hrbE b4 hRd hSt R B4 hrbw hne B3 p0 p1 hrsl3
  refine wp_loop_rounds 4 ?_
  rw [rounds_succ]
  go_wp2_with fail
  refine HEr.out.mono ?_
  rintro e w5 h
  rcases h with ⟨hz, rfl, d5⟩ | ⟨hz, rfl, hR5, hT5⟩
  · obtain ⟨R4, B4, hRd, hSt⟩ := HW4.out
    have b := d5.below w4.heap.size
    have R5 := (b.block rs (lt_of_block R4)).trans R4
    have hR5 := hRd.same (b.block rb hRd.lt)
    have hS5 : pgSteps w5 (rb + 1) cb := (b.block (rb + 1) (lt_of_block hSt)).trans hSt
    have B5 := B4.trans (b.mono B4.size)
    have HZ := Lib.hid hz
    clear R4 B4 hRd hSt b d5 hz HW4 HEr s0 s1 s2
    obtain ⟨s0, s1, s2⟩ := hS5.cells
    have HTo := Lib.hid (torn_any (HB.out.below B5) (HL.out.below B5) HN.out hR5)
    obtain ⟨r, hr⟩ : ∃ r, r = decP m t sc l := ⟨_, rfl⟩
    rw [show dec m t (8 * (sc + 32) + deg m t) (wd m t (val (l.take (sc + 32))) (val (l.drop (sc + 32)))) = r from hr.symm] at HTo
    have HD := Lib.hid hr
    have HW5 := Lib.hid (And.intro R5 (And.intro B5 hS5))
    clear hr R5 hR5 B5 hS5
    go_wp2_with fail
    rw [rounds_succ]
    go_wp2_with fail
    refine HTo.out.mono ?_
    clear HTo s0 s1 s2
    rintro e w6 ⟨hT6, h6⟩
    obtain ⟨R5, B5, hS5⟩ := HW5.out
    have R6 : w6.heap[rs]? = some (rsO 0 Meta.zeroM (.slice none 0 0) 0) := (hT6.same rs (lt_of_block R5) (by simpa using HNE.out.2)).trans R5
    have B6 := tn_below B5 hT6 HNE.out.1
    have hS6 : pgSteps w6 (rb + 1) cb := (hT6.same (rb + 1) (lt_of_block hS5) (by simp)).trans hS5
    clear R5 B5 hS5 hT6 HW5
    cases r with
    | none =>
      obtain ⟨rfl, hR6⟩ := h6
      clear hS6
      obtain ⟨_, _, _, r3, r4, r5, r6, r7, r8, r9, r10, r11, _⟩ := hR6.cells
      obtain ⟨q0, q1, q2, q3, q4, q5, q6, q7, q8, qf⟩ := rs_cells R6
      have f0 := qf 0
      have f1 := qf 1
      have f2 := qf 2
      have f3 := qf 3
      have f4 := qf 4
      have f5 := qf 5
      have f6 := qf 6
      have f7 := qf 7
      have f8 := qf 8
      have hF : ((((((((((w6.setCell ⟨rs, 0, none⟩ (.int .i64 3)).setCell ⟨rs, 1, none⟩ (.int .i64 (Meta.fld Meta.zeroM 0))).setCell ⟨rs, 2, none⟩ (.int .i64 (Meta.fld Meta.zeroM 1))).setCell ⟨rs, 3, none⟩ (.int .i64 (Meta.fld Meta.zeroM 2))).setCell ⟨rs, 4, none⟩ (.int .i64 (Meta.fld Meta.zeroM 3))).setCell ⟨rs, 5, none⟩ (.int .i64 (Meta.fld Meta.zeroM 4))).setCell ⟨rs, 6, none⟩ (.int .i64 (Meta.fld Meta.zeroM 5))).setCell ⟨rs, 7, none⟩ (.slice none 0 0)).setCell ⟨rs, 8, none⟩ (.int .i64 0))).heap[rs]? = some (rsO 3 Meta.zeroM (.slice none 0 0) 0) := heap_setCell_same _ _ 8 _ _ _ (heap_setCell_same _ _ 7 _ _ _ (heap_setCell_same _ _ 6 _ _ _ (heap_setCell_same _ _ 5 _ _ _ (heap_setCell_same _ _ 4 _ _ _ (heap_setCell_same _ _ 3 _ _ _ (heap_setCell_same _ _ 2 _ _ _ (heap_setCell_same _ _ 1 _ _ _ (heap_setCell_same _ _ 0 _ _ _ (R6)))))))))
      have hB : Below w.heap.size w (((((((((w6.setCell ⟨rs, 0, none⟩ (.int .i64 3)).setCell ⟨rs, 1, none⟩ (.int .i64 (Meta.fld Meta.zeroM 0))).setCell ⟨rs, 2, none⟩ (.int .i64 (Meta.fld Meta.zeroM 1))).setCell ⟨rs, 3, none⟩ (.int .i64 (Meta.fld Meta.zeroM 2))).setCell ⟨rs, 4, none⟩ (.int .i64 (Meta.fld Meta.zeroM 3))).setCell ⟨rs, 5, none⟩ (.int .i64 (Meta.fld Meta.zeroM 4))).setCell ⟨rs, 6, none⟩ (.int .i64 (Meta.fld Meta.zeroM 5))).setCell ⟨rs, 7, none⟩ (.slice none 0 0)).setCell ⟨rs, 8, none⟩ (.int .i64 0)) := (((((((((B6.setCell HRW.out _).setCell HRW.out _).setCell HRW.out _).setCell HRW.out _).setCell HRW.out _).setCell HRW.out _).setCell HRW.out _).setCell HRW.out _).setCell HRW.out _)
      have HF := Lib.hid (And.intro hF hB)
      clear qf hF hB R6 hR6 B6
      go_wp2_with fail
      obtain ⟨hF, hB⟩ := HF.out
      generalize (((((((((w6.setCell ⟨rs, 0, none⟩ (.int .i64 3)).setCell ⟨rs, 1, none⟩ (.int .i64 (Meta.fld Meta.zeroM 0))).setCell ⟨rs, 2, none⟩ (.int .i64 (Meta.fld Meta.zeroM 1))).setCell ⟨rs, 3, none⟩ (.int .i64 (Meta.fld Meta.zeroM 2))).setCell ⟨rs, 4, none⟩ (.int .i64 (Meta.fld Meta.zeroM 3))).setCell ⟨rs, 5, none⟩ (.int .i64 (Meta.fld Meta.zeroM 4))).setCell ⟨rs, 6, none⟩ (.int .i64 (Meta.fld Meta.zeroM 5))).setCell ⟨rs, 7, none⟩ (.slice none 0 0)).setCell ⟨rs, 8, none⟩ (.int .i64 0)) = w99 at hF hB ⊢
      obtain ⟨z0, z1, z2, z3, z4, z5, z6, z7, z8, _⟩ := rs_cells hF
      exact bodyPost_ret (v := .tuple #[rsV 3 Meta.zeroM (.slice none 0 0) 0, .nilIface]) (by simp [results, Tryz.results24, go_sem, z0, z1, z2, z3, z4, z5, z6, z7, z8]) rfl ⟨hB, Or.inr (Or.inl ⟨HZ.out, HD.out.symm, rfl⟩)⟩
    | some p =>
      obtain ⟨rfl, g, k, X, hR6, hX6, hXl, hk, hkm, hgw, hv⟩ := h6
      have HX := Lib.hid (And.intro hXl hv)
      have HWh := Lib.hid (whole_any (HB.out.below B6) hX6 hXl hk hkm hR6)
      have HW6 := Lib.hid (And.intro R6 B6)
      obtain ⟨s0, s1, s2⟩ := hS6.cells
      clear hX6 hXl hk hkm hgw hv R6 hR6 B6 hS6
      go_wp2_with fail
      rw [rounds_succ]
      go_wp2_with fail
      refine HWh.out.mono ?_
      clear HWh s0 s1 s2
      rintro e w7 ⟨hT7, rfl, h7⟩
      obtain ⟨R6, B6⟩ := HW6.out
      have R7 : w7.heap[rs]? = some (rsO 0 Meta.zeroM (.slice none 0 0) 0) := (hT7.same rs (lt_of_block R6) (by simpa using HNE.out.2)).trans R6
      have B7 := tn_below B6 hT7 HNE.out.1
      have hrs6 : rs < w6.heap.size := lt_of_block R6
      have hs6 := B6.size
      clear R6 B6 hT7 HW6
      rcases h7 with ⟨hG, g2, hR7, hQ7, hg2⟩ | ⟨hG, hR7⟩
      · have hgr : g2 ≠ rs := by omega
        have HG := Lib.hid (And.intro hG (Nat.le_trans hs6 hg2))
        clear hG hrs6 hs6 hg2
        obtain ⟨_, _, _, r3, r4, r5, r6, r7, r8, r9, r10, r11, _⟩ := hR7.cells
        obtain ⟨q0, q1, q2, q3, q4, q5, q6, q7, q8, qf⟩ := rs_cells R7
        have f0 := qf 0
        have f1 := qf 1
        have f2 := qf 2
        have f3 := qf 3
        have f4 := qf 4
        have f5 := qf 5
        have f6 := qf 6
        have f7 := qf 7
        have f8 := qf 8
        have hF : ((((((((((w7.setCell ⟨rs, 0, none⟩ (.int .i64 1)).setCell ⟨rs, 1, none⟩ (.int .i64 (Meta.fld (Meta.parse (X.drop sc)) 0))).setCell ⟨rs, 2, none⟩ (.int .i64 (Meta.fld (Meta.parse (X.drop sc)) 1))).setCell ⟨rs, 3, none⟩ (.int .i64 (Meta.fld (Meta.parse (X.drop sc)) 2))).setCell ⟨rs, 4, none⟩ (.int .i64 (Meta.fld (Meta.parse (X.drop sc)) 3))).setCell ⟨rs, 5, none⟩ (.int .i64 (Meta.fld (Meta.parse (X.drop sc)) 4))).setCell ⟨rs, 6, none⟩ (.int .i64 (Meta.fld (Meta.parse (X.drop sc)) 5))).setCell ⟨rs, 7, none⟩ (.slice (some ⟨g2, 0, none⟩) sc sc)).setCell ⟨rs, 8, none⟩ (.int .i64 (p.length : Int)))).heap[rs]? = some (rsO 1 (Meta.parse (X.drop sc)) (.slice (some ⟨g2, 0, none⟩) sc sc) (p.length : Int)) := heap_setCell_same _ _ 8 _ _ _ (heap_setCell_same _ _ 7 _ _ _ (heap_setCell_same _ _ 6 _ _ _ (heap_setCell_same _ _ 5 _ _ _ (heap_setCell_same _ _ 4 _ _ _ (heap_setCell_same _ _ 3 _ _ _ (heap_setCell_same _ _ 2 _ _ _ (heap_setCell_same _ _ 1 _ _ _ (heap_setCell_same _ _ 0 _ _ _ (R7)))))))))
        have hB : Below w.heap.size w (((((((((w7.setCell ⟨rs, 0, none⟩ (.int .i64 1)).setCell ⟨rs, 1, none⟩ (.int .i64 (Meta.fld (Meta.parse (X.drop sc)) 0))).setCell ⟨rs, 2, none⟩ (.int .i64 (Meta.fld (Meta.parse (X.drop sc)) 1))).setCell ⟨rs, 3, none⟩ (.int .i64 (Meta.fld (Meta.parse (X.drop sc)) 2))).setCell ⟨rs, 4, none⟩ (.int .i64 (Meta.fld (Meta.parse (X.drop sc)) 3))).setCell ⟨rs, 5, none⟩ (.int .i64 (Meta.fld (Meta.parse (X.drop sc)) 4))).setCell ⟨rs, 6, none⟩ (.int .i64 (Meta.fld (Meta.parse (X.drop sc)) 5))).setCell ⟨rs, 7, none⟩ (.slice (some ⟨g2, 0, none⟩) sc sc)).setCell ⟨rs, 8, none⟩ (.int .i64 (p.length : Int))) := (((((((((B7.setCell HRW.out _).setCell HRW.out _).setCell HRW.out _).setCell HRW.out _).setCell HRW.out _).setCell HRW.out _).setCell HRW.out _).setCell HRW.out _).setCell HRW.out _)
        have hO : Only rs w7 (((((((((w7.setCell ⟨rs, 0, none⟩ (.int .i64 1)).setCell ⟨rs, 1, none⟩ (.int .i64 (Meta.fld (Meta.parse (X.drop sc)) 0))).setCell ⟨rs, 2, none⟩ (.int .i64 (Meta.fld (Meta.parse (X.drop sc)) 1))).setCell ⟨rs, 3, none⟩ (.int .i64 (Meta.fld (Meta.parse (X.drop sc)) 2))).setCell ⟨rs, 4, none⟩ (.int .i64 (Meta.fld (Meta.parse (X.drop sc)) 3))).setCell ⟨rs, 5, none⟩ (.int .i64 (Meta.fld (Meta.parse (X.drop sc)) 4))).setCell ⟨rs, 6, none⟩ (.int .i64 (Meta.fld (Meta.parse (X.drop sc)) 5))).setCell ⟨rs, 7, none⟩ (.slice (some ⟨g2, 0, none⟩) sc sc)).setCell ⟨rs, 8, none⟩ (.int .i64 (p.length : Int))) := (((((((((Only.setCell _ ⟨rs, 0, none⟩ (.int .i64 1)).trans (Only.setCell _ ⟨rs, 1, none⟩ (.int .i64 (Meta.fld (Meta.parse (X.drop sc)) 0)))).trans (Only.setCell _ ⟨rs, 2, none⟩ (.int .i64 (Meta.fld (Meta.parse (X.drop sc)) 1)))).trans (Only.setCell _ ⟨rs, 3, none⟩ (.int .i64 (Meta.fld (Meta.parse (X.drop sc)) 2)))).trans (Only.setCell _ ⟨rs, 4, none⟩ (.int .i64 (Meta.fld (Meta.parse (X.drop sc)) 3)))).trans (Only.setCell _ ⟨rs, 5, none⟩ (.int .i64 (Meta.fld (Meta.parse (X.drop sc)) 4)))).trans (Only.setCell _ ⟨rs, 6, none⟩ (.int .i64 (Meta.fld (Meta.parse (X.drop sc)) 5)))).trans (Only.setCell _ ⟨rs, 7, none⟩ (.slice (some ⟨g2, 0, none⟩) sc sc))).trans (Only.setCell _ ⟨rs, 8, none⟩ (.int .i64 (p.length : Int))))
        have hK : Blk8 (((((((((w7.setCell ⟨rs, 0, none⟩ (.int .i64 1)).setCell ⟨rs, 1, none⟩ (.int .i64 (Meta.fld (Meta.parse (X.drop sc)) 0))).setCell ⟨rs, 2, none⟩ (.int .i64 (Meta.fld (Meta.parse (X.drop sc)) 1))).setCell ⟨rs, 3, none⟩ (.int .i64 (Meta.fld (Meta.parse (X.drop sc)) 2))).setCell ⟨rs, 4, none⟩ (.int .i64 (Meta.fld (Meta.parse (X.drop sc)) 3))).setCell ⟨rs, 5, none⟩ (.int .i64 (Meta.fld (Meta.parse (X.drop sc)) 4))).setCell ⟨rs, 6, none⟩ (.int .i64 (Meta.fld (Meta.parse (X.drop sc)) 5))).setCell ⟨rs, 7, none⟩ (.slice (some ⟨g2, 0, none⟩) sc sc)).setCell ⟨rs, 8, none⟩ (.int .i64 (p.length : Int))) g2 (Scr.mixL (sdOf x y) (X.take sc)) := (hO.block g2 hgr).trans hQ7
        have HF := Lib.hid (And.intro hF (And.intro hB hK))
        clear hO hK
        clear qf hF hB R7 hR7 B7
        go_wp2_with fail
        obtain ⟨hF, hB, hK⟩ := HF.out
        generalize (((((((((w7.setCell ⟨rs, 0, none⟩ (.int .i64 1)).setCell ⟨rs, 1, none⟩ (.int .i64 (Meta.fld (Meta.parse (X.drop sc)) 0))).setCell ⟨rs, 2, none⟩ (.int .i64 (Meta.fld (Meta.parse (X.drop sc)) 1))).setCell ⟨rs, 3, none⟩ (.int .i64 (Meta.fld (Meta.parse (X.drop sc)) 2))).setCell ⟨rs, 4, none⟩ (.int .i64 (Meta.fld (Meta.parse (X.drop sc)) 3))).setCell ⟨rs, 5, none⟩ (.int .i64 (Meta.fld (Meta.parse (X.drop sc)) 4))).setCell ⟨rs, 6, none⟩ (.int .i64 (Meta.fld (Meta.parse (X.drop sc)) 5))).setCell ⟨rs, 7, none⟩ (.slice (some ⟨g2, 0, none⟩) sc sc)).setCell ⟨rs, 8, none⟩ (.int .i64 (p.length : Int))) = w99 at hF hB hK ⊢
        obtain ⟨z0, z1, z2, z3, z4, z5, z6, z7, z8, _⟩ := rs_cells hF
        exact bodyPost_ret (v := .tuple #[rsV 1 (Meta.parse (X.drop sc)) (.slice (some ⟨g2, 0, none⟩) sc sc) (p.length : Int), .nilIface]) (by simp [results, Tryz.results24, go_sem, z0, z1, z2, z3, z4, z5, z6, z7, z8]) rfl ⟨hB, Or.inr (Or.inr ⟨HZ.out, p, X, HD.out.symm, HX.out.1, HX.out.2, Or.inr ⟨HG.out.1, g2, rfl, hK, HG.out.2⟩⟩)⟩
      · have HG := Lib.hid hG
        clear hG hrs6 hs6
        obtain ⟨_, _, _, r3, r4, r5, r6, r7, r8, r9, r10, r11, _⟩ := hR7.cells
        obtain ⟨q0, q1, q2, q3, q4, q5, q6, q7, q8, qf⟩ := rs_cells R7
        have f0 := qf 0
        have f1 := qf 1
        have f2 := qf 2
        have f3 := qf 3
        have f4 := qf 4
        have f5 := qf 5
        have f6 := qf 6
        have f7 := qf 7
        have f8 := qf 8
        have hF : ((((((((((w7.setCell ⟨rs, 0, none⟩ (.int .i64 3)).setCell ⟨rs, 1, none⟩ (.int .i64 (Meta.fld Meta.zeroM 0))).setCell ⟨rs, 2, none⟩ (.int .i64 (Meta.fld Meta.zeroM 1))).setCell ⟨rs, 3, none⟩ (.int .i64 (Meta.fld Meta.zeroM 2))).setCell ⟨rs, 4, none⟩ (.int .i64 (Meta.fld Meta.zeroM 3))).setCell ⟨rs, 5, none⟩ (.int .i64 (Meta.fld Meta.zeroM 4))).setCell ⟨rs, 6, none⟩ (.int .i64 (Meta.fld Meta.zeroM 5))).setCell ⟨rs, 7, none⟩ (.slice none 0 0)).setCell ⟨rs, 8, none⟩ (.int .i64 0))).heap[rs]? = some (rsO 3 Meta.zeroM (.slice none 0 0) 0) := heap_setCell_same _ _ 8 _ _ _ (heap_setCell_same _ _ 7 _ _ _ (heap_setCell_same _ _ 6 _ _ _ (heap_setCell_same _ _ 5 _ _ _ (heap_setCell_same _ _ 4 _ _ _ (heap_setCell_same _ _ 3 _ _ _ (heap_setCell_same _ _ 2 _ _ _ (heap_setCell_same _ _ 1 _ _ _ (heap_setCell_same _ _ 0 _ _ _ (R7)))))))))
        have hB : Below w.heap.size w (((((((((w7.setCell ⟨rs, 0, none⟩ (.int .i64 3)).setCell ⟨rs, 1, none⟩ (.int .i64 (Meta.fld Meta.zeroM 0))).setCell ⟨rs, 2, none⟩ (.int .i64 (Meta.fld Meta.zeroM 1))).setCell ⟨rs, 3, none⟩ (.int .i64 (Meta.fld Meta.zeroM 2))).setCell ⟨rs, 4, none⟩ (.int .i64 (Meta.fld Meta.zeroM 3))).setCell ⟨rs, 5, none⟩ (.int .i64 (Meta.fld Meta.zeroM 4))).setCell ⟨rs, 6, none⟩ (.int .i64 (Meta.fld Meta.zeroM 5))).setCell ⟨rs, 7, none⟩ (.slice none 0 0)).setCell ⟨rs, 8, none⟩ (.int .i64 0)) := (((((((((B7.setCell HRW.out _).setCell HRW.out _).setCell HRW.out _).setCell HRW.out _).setCell HRW.out _).setCell HRW.out _).setCell HRW.out _).setCell HRW.out _).setCell HRW.out _)
        have HF := Lib.hid (And.intro hF hB)
        clear qf hF hB R7 hR7 B7
        go_wp2_with fail
        obtain ⟨hF, hB⟩ := HF.out
        generalize (((((((((w7.setCell ⟨rs, 0, none⟩ (.int .i64 3)).setCell ⟨rs, 1, none⟩ (.int .i64 (Meta.fld Meta.zeroM 0))).setCell ⟨rs, 2, none⟩ (.int .i64 (Meta.fld Meta.zeroM 1))).setCell ⟨rs, 3, none⟩ (.int .i64 (Meta.fld Meta.zeroM 2))).setCell ⟨rs, 4, none⟩ (.int .i64 (Meta.fld Meta.zeroM 3))).setCell ⟨rs, 5, none⟩ (.int .i64 (Meta.fld Meta.zeroM 4))).setCell ⟨rs, 6, none⟩ (.int .i64 (Meta.fld Meta.zeroM 5))).setCell ⟨rs, 7, none⟩ (.slice none 0 0)).setCell ⟨rs, 8, none⟩ (.int .i64 0)) = w99 at hF hB ⊢
        obtain ⟨z0, z1, z2, z3, z4, z5, z6, z7, z8, _⟩ := rs_cells hF
        exact bodyPost_ret (v := .tuple #[rsV 3 Meta.zeroM (.slice none 0 0) 0, .nilIface]) (by simp [results, Tryz.results24, go_sem, z0, z1, z2, z3, z4, z5, z6, z7, z8]) rfl ⟨hB, Or.inr (Or.inr ⟨HZ.out, p, X, HD.out.symm, HX.out.1, HX.out.2, Or.inl ⟨HG.out, rfl⟩⟩)⟩
  · obtain ⟨R4, B4, _, _⟩ := HW4.out
    have R5 : w5.heap[rs]? = some (rsO 0 Meta.zeroM (.slice none 0 0) 0) := (hT5.same rs (lt_of_block R4) (by simpa using HNE.out.2)).trans R4
    have B5 := tn_below B4 hT5 HNE.out.1
    have HZ := Lib.hid hz
    clear R4 B4 hT5 HW4 HEr s0 s1 s2 hz
    obtain ⟨_, _, _, r3, r4, r5, r6, r7, r8, r9, r10, r11, _⟩ := hR5.cells
    obtain ⟨q0, q1, q2, q3, q4, q5, q6, q7, q8, qf⟩ := rs_cells R5
    have f0 := qf 0
    have f1 := qf 1
    have f2 := qf 2
    have f3 := qf 3
    have f4 := qf 4
    have f5 := qf 5
    have f6 := qf 6
    have f7 := qf 7
    have f8 := qf 8
    have hF : ((((((((((w5.setCell ⟨rs, 0, none⟩ (.int .i64 2)).setCell ⟨rs, 1, none⟩ (.int .i64 (Meta.fld Meta.zeroM 0))).setCell ⟨rs, 2, none⟩ (.int .i64 (Meta.fld Meta.zeroM 1))).setCell ⟨rs, 3, none⟩ (.int .i64 (Meta.fld Meta.zeroM 2))).setCell ⟨rs, 4, none⟩ (.int .i64 (Meta.fld Meta.zeroM 3))).setCell ⟨rs, 5, none⟩ (.int .i64 (Meta.fld Meta.zeroM 4))).setCell ⟨rs, 6, none⟩ (.int .i64 (Meta.fld Meta.zeroM 5))).setCell ⟨rs, 7, none⟩ (.slice none 0 0)).setCell ⟨rs, 8, none⟩ (.int .i64 0))).heap[rs]? = some (rsO 2 Meta.zeroM (.slice none 0 0) 0) := heap_setCell_same _ _ 8 _ _ _ (heap_setCell_same _ _ 7 _ _ _ (heap_setCell_same _ _ 6 _ _ _ (heap_setCell_same _ _ 5 _ _ _ (heap_setCell_same _ _ 4 _ _ _ (heap_setCell_same _ _ 3 _ _ _ (heap_setCell_same _ _ 2 _ _ _ (heap_setCell_same _ _ 1 _ _ _ (heap_setCell_same _ _ 0 _ _ _ (R5)))))))))
    have hB : Below w.heap.size w (((((((((w5.setCell ⟨rs, 0, none⟩ (.int .i64 2)).setCell ⟨rs, 1, none⟩ (.int .i64 (Meta.fld Meta.zeroM 0))).setCell ⟨rs, 2, none⟩ (.int .i64 (Meta.fld Meta.zeroM 1))).setCell ⟨rs, 3, none⟩ (.int .i64 (Meta.fld Meta.zeroM 2))).setCell ⟨rs, 4, none⟩ (.int .i64 (Meta.fld Meta.zeroM 3))).setCell ⟨rs, 5, none⟩ (.int .i64 (Meta.fld Meta.zeroM 4))).setCell ⟨rs, 6, none⟩ (.int .i64 (Meta.fld Meta.zeroM 5))).setCell ⟨rs, 7, none⟩ (.slice none 0 0)).setCell ⟨rs, 8, none⟩ (.int .i64 0)) := (((((((((B5.setCell HRW.out _).setCell HRW.out _).setCell HRW.out _).setCell HRW.out _).setCell HRW.out _).setCell HRW.out _).setCell HRW.out _).setCell HRW.out _).setCell HRW.out _)
    have HF := Lib.hid (And.intro hF hB)
    clear qf hF hB R5 hR5 B5
    go_wp2_with fail
    obtain ⟨hF, hB⟩ := HF.out
    generalize (((((((((w5.setCell ⟨rs, 0, none⟩ (.int .i64 2)).setCell ⟨rs, 1, none⟩ (.int .i64 (Meta.fld Meta.zeroM 0))).setCell ⟨rs, 2, none⟩ (.int .i64 (Meta.fld Meta.zeroM 1))).setCell ⟨rs, 3, none⟩ (.int .i64 (Meta.fld Meta.zeroM 2))).setCell ⟨rs, 4, none⟩ (.int .i64 (Meta.fld Meta.zeroM 3))).setCell ⟨rs, 5, none⟩ (.int .i64 (Meta.fld Meta.zeroM 4))).setCell ⟨rs, 6, none⟩ (.int .i64 (Meta.fld Meta.zeroM 5))).setCell ⟨rs, 7, none⟩ (.slice none 0 0)).setCell ⟨rs, 8, none⟩ (.int .i64 0)) = w99 at hF hB ⊢
    obtain ⟨z0, z1, z2, z3, z4, z5, z6, z7, z8, _⟩ := rs_cells hF
    exact bodyPost_ret (v := .tuple #[rsV 2 Meta.zeroM (.slice none 0 0) 0, .nilIface]) (by simp [results, Tryz.results24, go_sem, z0, z1, z2, z3, z4, z5, z6, z7, z8]) rfl ⟨hB, Or.inl ⟨HZ.out, rfl⟩⟩
end
end Go.Proofs.YtdhcigiaidlmbaaGreatDoor.Pg
/- Opening a page that was laid, of which few bits are turned. By the verifier of shale. -/
namespace Go.Proofs.YtdhcigiaidlmbaaGreatDoor.Pg
open Go Go.RowKit Bin Pl Cos Enc Syn Loc Sea Dec Crc
set_option linter.unusedVariables false
theorem nth_take (l : List (BitVec 8)) (n i : Nat) : nth8 (l.take n) i = if i < n then nth8 l i else 0 := by
  unfold nth8
  rw [List.getD_eq_getElem?_getD, List.getElem?_take]
  by_cases h : i < n
  · rw [if_pos h, if_pos h, List.getD_eq_getElem?_getD]
  · rw [if_neg h, if_neg h]; rfl
theorem nth_drop (l : List (BitVec 8)) (n i : Nat) : nth8 (l.drop n) i = nth8 l (n + i) := by
  unfold nth8
  rw [List.getD_eq_getElem?_getD, List.getElem?_drop, List.getD_eq_getElem?_getD]
theorem take_val (l : List (BitVec 8)) (n : Nat) : val (l.take n) = val l % 2 ^ (8 * n) := by
  apply Nat.eq_of_testBit_eq
  intro i
  rw [Nat.testBit_mod_two_pow, val_bit, val_bit, nth_take]
  by_cases h : i < 8 * n
  · rw [if_pos (by omega), decide_eq_true h, Bool.true_and]
  · rw [if_neg (by omega), decide_eq_false h, Bool.false_and]; simp
theorem drop_val (l : List (BitVec 8)) (n : Nat) : val (l.drop n) = val l >>> (8 * n) := by
  apply Nat.eq_of_testBit_eq
  intro i
  rw [Nat.testBit_shiftRight, val_bit, val_bit, nth_drop, show (8 * n + i) / 8 = n + i / 8 by omega, show (8 * n + i) % 8 = i % 8 by omega]
theorem parts_wrd (E a : Nat) : E = wrd a (E >>> a) (E % 2 ^ a) := by
  apply Nat.eq_of_testBit_eq
  intro i
  rw [wrd_bit (Nat.mod_lt _ (Nat.two_pow_pos _)), Nat.testBit_mod_two_pow, Nat.testBit_shiftRight]
  by_cases h : i < a
  · rw [if_pos h, decide_eq_true h, Bool.true_and]
  · rw [if_neg h, show a + (i - a) = i by omega]
theorem shr_lt {E a b : Nat} (h : E < 2 ^ (a + b)) : E >>> a < 2 ^ b := by
  rw [Nat.shiftRight_eq_div_pow]
  exact Nat.div_lt_of_lt_mul (by rwa [← Nat.pow_add])
theorem zN_flip : ∀ (c : Fin 256) (j : Fin 8), Meta.zN (BitVec.ofNat 8 c.val) 8 ≤ Meta.zN (BitVec.ofNat 8 c.val ^^^ BitVec.twoPow 8 j.val) 8 + 1 := by decide +kernel
theorem zeros_flip (l : List (BitVec 8)) (q j : Nat) (h : q < l.length) (hj : j < 8) : Meta.zeros8 l ≤ Meta.zeros8 (l.set q (nth8 l q ^^^ BitVec.twoPow 8 j)) + 1 := by
  have h1 := zeros_set l q (nth8 l q ^^^ BitVec.twoPow 8 j) h
  have h2 := zN_flip ⟨(nth8 l q).toNat, (nth8 l q).isLt⟩ ⟨j, hj⟩
  simp only [BitVec.ofNat_toNat, BitVec.setWidth_eq] at h2
  omega
section
variable {m : Nat} [M : Pl.Mid m]
theorem page_take {t : Nat} (sd : BitVec 16) (K : Meta.M6) (d : List (BitVec 8)) {sc : Nat} (hd : d.length = sc) : (page m t sd K d).take (sc + 32) = pgD sd K d := by
  unfold page
  rw [List.take_left' (by rw [pgD_length, hd])]
theorem page_drop {t : Nat} (sd : BitVec 16) (K : Meta.M6) (d : List (BitVec 8)) {sc : Nat} (hd : d.length = sc) : (page m t sd K d).drop (sc + 32) = pgP m t (pgD sd K d) := by
  unfold page
  rw [List.drop_left' (by rw [pgD_length, hd])]
/-- the word of a page of which the bits E are turned. -/
theorem page_wd {t sc : Nat} {sd : BitVec 16} {K : Meta.M6} {d l : List (BitVec 8)} {E : Nat} (hd : d.length = sc) (hE : E < 2 ^ (8 * (sc + 32) + deg m t)) (hv : val l = val (page m t sd K d) ^^^ E) :
    val (l.take (sc + 32)) = val (pgD sd K d) ^^^ E % 2 ^ (8 * (sc + 32)) ∧ wd m t (val (l.take (sc + 32))) (val (l.drop (sc + 32))) = wrd (deg m t) (val (pgD sd K d)) (par m t (val (pgD sd K d))) ^^^ wrd (deg m t) (E % 2 ^ (8 * (sc + 32))) (E >>> (8 * (sc + 32))) := by
  have h1 : val (l.take (sc + 32)) = val (pgD sd K d) ^^^ E % 2 ^ (8 * (sc + 32)) := by
    rw [take_val, hv, Nat.xor_mod_two_pow, ← take_val, page_take sd K d hd]
  have h2 : val (l.drop (sc + 32)) = val (pgP m t (pgD sd K d)) ^^^ E >>> (8 * (sc + 32)) := by
    rw [drop_val, hv, Nat.shiftRight_xor_distrib, ← drop_val, page_drop sd K d hd]
  refine ⟨h1, ?_⟩
  unfold Dec.wd
  rw [h1, h2, Nat.xor_mod_two_pow, pgP_val, Nat.mod_eq_of_lt (shr_lt hE), wrd_xor]
theorem page_pop {D n E : Nat} (hE : E < 2 ^ (8 * n + D)) : pop (wrd D (E % 2 ^ (8 * n)) (E >>> (8 * n))) (8 * n + D) = pop E (8 * n + D) := by
  rw [pop_wrd (shr_lt hE)]
  conv => rhs; rw [parts_wrd E (8 * n), Nat.add_comm, pop_wrd (Nat.mod_lt _ (Nat.two_pow_pos _))]
  omega
theorem near_dec {t sc : Nat} {sd : BitVec 16} {K : Meta.M6} {d l : List (BitVec 8)} {E : Nat} (hr : 8 * (sc + 32) + deg m t ≤ Fld.size m) (ht : t ≤ 40) (hd : d.length = sc) (hE : E < 2 ^ (8 * (sc + 32) + deg m t)) (hv : val l = val (page m t sd K d) ^^^ E) (hp : pop E (8 * (sc + 32) + deg m t) ≤ t) :
    ∃ p, decP m t sc l = some p ∧ p.length = pop E (8 * (sc + 32) + deg m t) ∧ ∀ X : List (BitVec 8), X.length = sc + 32 → val X = val (l.take (sc + 32)) ^^^ xs p >>> deg m t → X = pgD sd K d := by
  obtain ⟨h1, h2⟩ := page_wd (m := m) (t := t) hd hE hv
  have he : wrd (deg m t) (E % 2 ^ (8 * (sc + 32))) (E >>> (8 * (sc + 32))) < 2 ^ (8 * (sc + 32) + deg m t) := wrd_lt (Nat.mod_lt _ (Nat.two_pow_pos _)) (shr_lt hE)
  have hpp := page_pop (D := deg m t) (n := sc + 32) hE
  refine ⟨plc (wrd (deg m t) (E % 2 ^ (8 * (sc + 32))) (E >>> (8 * (sc + 32)))) (8 * (sc + 32) + deg m t), ?_, hpp, fun X hl hX => ?_⟩
  · show dec m t _ _ = _
    rw [h2]
    exact dec_near hr ht he (by rw [hpp]; exact hp)
  · refine len_inj (by rw [hl, pgD_length, hd]) ?_
    rw [hX, h1, xs_plc, Nat.mod_eq_of_lt he, shr_wrd (shr_lt hE), Nat.xor_assoc, Nat.xor_self, Nat.xor_zero]
theorem open_near {t sc : Nat} {w : World} {cb s db : Nat} {ym yz yr : Addr} (B : PBase m t sc w cb s db ym yz yr) (x y : Int) {bb off N c : Nat} {l : List (BitVec 8)} (hl : Pol w (some ⟨bb, off, none⟩) N c l) (hN : N = sc + 32 + pb (deg m t)) {K : Meta.M6} {d : List (BitVec 8)} (hK : Meta.May K) (hd : d.length = sc) {E : Nat} (hE : E < 2 ^ (8 * (sc + 32) + deg m t)) (hv : val l = val (page m t (sdOf x y) K d) ^^^ E) (hp : pop E (8 * (sc + 32) + deg m t) ≤ t) (hz : t < Meta.zL l N) :
    Calls Tryz.prog 24 #[.pointer (some ⟨cb, 0, none⟩), .agg #[.int .i64 x, .int .i64 y], .slice (some ⟨bb, off, none⟩) N c] w fun e w' => ∃ g, e = .returned (.tuple #[rsV 1 K (.slice (some ⟨g, 0, none⟩) sc sc) (pop E (8 * (sc + 32) + deg m t) : Int), .nilIface]) ∧ Blk8 w' g d ∧ w.heap.size ≤ g ∧ Below w.heap.size w w' := by
  obtain ⟨p, hp1, hp2, hp3⟩ := near_dec (m := m) (t := t) (sd := sdOf x y) (K := K) (d := d) (l := l) (E := E) B.base.room B.base.t40 hd hE hv hp
  refine (open_any B x y hl hN).mono ?_
  rintro e w' ⟨b, h⟩
  rcases h with ⟨h, _⟩ | ⟨_, h, _⟩ | ⟨_, p', X, h, hXl, hXv, h'⟩
  · omega
  · rw [hp1] at h; cases h
  · rw [hp1] at h
    cases h
    obtain rfl := hp3 X hXl hXv
    have hml : (Scr.mixL (sdOf x y) d).length = sc := by rw [Scr.mixL_length, hd]
    have e1 : (pgD (sdOf x y) K d).take sc = Scr.mixL (sdOf x y) d := by unfold pgD; rw [List.take_left' hml]
    have e2 : (pgD (sdOf x y) K d).drop sc = Meta.rec32 K d := by unfold pgD; rw [List.drop_left' hml]
    rw [e1, e2, Scr.mixL_twice] at h'
    rcases h' with ⟨hb, _⟩ | ⟨_, g, he, hg, hs⟩
    · exact absurd (Meta.rec_good K hK d) hb
    · rw [Meta.parse_rec K hK] at he
      rw [hp2] at he
      exact ⟨g, he, hg, hs, b⟩
end
end Go.Proofs.YtdhcigiaidlmbaaGreatDoor.Pg
/- The walk over package syndrome's Add. By the verifier of shale. -/
namespace Go.Proofs.YtdhcigiaidlmbaaGreatDoor.Syn
open Go Go.RowKit Bin Cos Enc Bits16
set_option linter.unusedVariables false
theorem cells64_one (l : List Int) : ∀ u ∈ cells64 l, u.oneCell' = true := by
  intro u hu
  unfold cells64 at hu
  rw [List.mem_map] at hu
  obtain ⟨x, _, rfl⟩ := hu
  rfl
end Go.Proofs.YtdhcigiaidlmbaaGreatDoor.Syn
/- places: the unlike places that a statement of chapter 7 makes of any numbers. By the verifier of shale. -/
namespace Go.Proofs.YtdhcigiaidlmbaaGreatDoor.Syn
open Go Go.RowKit Bin Cos Enc Bits16
set_option linter.unusedVariables false
theorem isrow_z {w : World} {a : Option Addr} {len cap : Nat} {zs : List Int} (h : IsRow .i64 w a len cap zs) : RowZ w a len (fun i => zs.getD i 0) ∧ len ≤ maxLen := by
  rcases h with ⟨rfl, rfl, rfl, rfl⟩ | ⟨x, rfl, hl, hm, hz, hc, hw⟩
  · exact ⟨fun i hi => by omega, Nat.zero_le _⟩
  · refine ⟨fun i hi => ?_, by omega⟩
    obtain ⟨bb, off, spot⟩ := x
    have c0 := hc i (by omega)
    obtain rfl : spot = none := by simpa [Addr.add] using World.cell?_spot (hc 0 (by omega))
    rw [add_row] at c0
    exact ⟨bb, off, rfl, c0, World.block_lt_of_cell? w _ c0⟩
end Go.Proofs.YtdhcigiaidlmbaaGreatDoor.Syn
/- Words with some places turned: for the walk over SyndromeTells. By the verifier of shale. -/
namespace Go.Proofs.YtdhcigiaidlmbaaGreatDoor.Syn
open Go Go.RowKit Bin Cos Enc Bits16
set_option linter.unusedVariables false
theorem bf_put {w : World} {g N : Nat} {p : Nat → Bool} (h : BF w g N p) (k : Nat) (b : Bool) : BF (w.setCell ⟨g, k, none⟩ (.bool b)) g N (fun i => if i = k then b else p i) := by
  unfold BF
  rw [heap_setCell_same w g k _ _ _ h]
  congr 2
  apply Array.ext
  · simp
  · intro i h1 h2
    simp at h1 h2
    by_cases e : i = k
    · subst e; simp
    · simp [e, Ne.symm e]
theorem flip_bit (v k q : Nat) : (if q = k then !v.testBit k else v.testBit q) = (v ^^^ 2 ^ k).testBit q := by
  rw [Nat.testBit_xor, Nat.testBit_two_pow]
  by_cases h : q = k
  · subst h; simp
  · have : decide (k = q) = false := decide_eq_false fun e => h e.symm
    rw [this, if_neg h, Bool.xor_false]
section
variable {m : Nat} [M : Pl.Mid m]
end
end Go.Proofs.YtdhcigiaidlmbaaGreatDoor.Syn
/- What was read, laid again, is the word that was mended. By the verifier of shale. -/
namespace Go.Proofs.YtdhcigiaidlmbaaGreatDoor.Meta
open Go Go.RowKit Crc
theorem un32_take (x : List (BitVec 8)) : un32 (x.take 4) = un32 x := by
  unfold un32
  simp [List.getD_eq_getElem?_getD]
theorem le32_un32 {x : List (BitVec 8)} (h : 4 ≤ x.length) : le32 (un32 x) = x.take 4 := by
  refine un32_inj _ _ (le32_length _) (by rw [List.length_take]; omega) ?_
  have := un32_le32 (un32 x) (un32_lo x) (un32_hi x) []
  rw [List.append_nil] at this
  rw [this, un32_take]
theorem flds_parse {l : List (BitVec 8)} (h : l.length = 32) : ∀ k, k ≤ 6 → flds (parse l) k = l.take (4 * k)
  | 0, _ => rfl
  | k + 1, hk => by
    have ih := flds_parse h k (by omega)
    show flds (parse l) k ++ le32 (fld (parse l) k) = _
    rw [ih, fld_parse l k (by omega), le32_un32 (by rw [List.length_drop]; omega), show 4 * (k + 1) = 4 * k + 4 by omega, List.take_add]
theorem good_form {l d : List (BitVec 8)} (h : Good l d) : rec32 (parse l) d = l := by
  obtain ⟨h1, h2, h3, h4⟩ := h
  have e1 : body (parse l) d = l.take 28 := by
    unfold body
    rw [flds_parse h1 6 (by omega), ← h3, le32_un32 (by rw [List.length_drop]; omega), show 28 = 4 * 6 + 4 from rfl, List.take_add]
  unfold rec32
  rw [e1, ← h2, le32_un32 (by rw [List.length_drop]; omega), ← List.take_add, List.take_of_length_le (by omega)]
end Go.Proofs.YtdhcigiaidlmbaaGreatDoor.Meta
namespace Go.Proofs.YtdhcigiaidlmbaaGreatDoor.Pg
open Go Go.RowKit Bin Pl Cos Enc Syn Loc Sea Dec Crc
set_option linter.unusedVariables false
section
variable {m : Nat} [M : Pl.Mid m]
theorem form_of {sc : Nat} {sd : BitVec 16} {X : List (BitVec 8)} (hG : Meta.Good (X.drop sc) (Scr.mixL sd (X.take sc))) : pgD sd (Meta.parse (X.drop sc)) (Scr.mixL sd (X.take sc)) = X := by
  unfold pgD
  rw [Scr.mixL_twice, Meta.good_form hG, List.take_append_drop]
theorem else_of {t sc : Nat} {l X : List (BitVec 8)} {p : List Nat} (hr : 8 * (sc + 32) + deg m t ≤ Fld.size m) (ht : t ≤ 40) (hl : sc + 32 ≤ l.length) (hX : X.length = sc + 32) (h : decP m t sc l = some p) (hv : val X = val (l.take (sc + 32)) ^^^ xs p >>> deg m t) :
    pop (val X ^^^ val (l.take (sc + 32))) (8 * (sc + 32)) + pop (par m t (val X) ^^^ val (l.drop (sc + 32)) % 2 ^ deg m t) (8 * pb (deg m t)) = p.length ∧ p.length ≤ t := by
  have hA : val (l.take (sc + 32)) < 2 ^ (8 * (sc + 32)) := by
    have := val_lt (l.take (sc + 32))
    rwa [List.length_take, Nat.min_eq_left hl] at this
  obtain ⟨e, V, he, hp, hpt, hw, hV, hs⟩ := dec_parts (m := m) (t := t) hr ht hA (Nat.mod_lt _ (Nat.two_pow_pos _)) h
  have hq := par_lt (m := m) t V
  have e1 : val (l.take (sc + 32)) = V ^^^ e >>> deg m t := by
    have h3 := congrArg (· >>> deg m t) hw
    try simp only at h3
    rwa [shr_wrd (Nat.mod_lt _ (Nat.two_pow_pos _)), Nat.shiftRight_xor_distrib, shr_wrd hq] at h3
  have e2 : val X = V := by
    rw [hv, hp, xs_plc, Nat.mod_eq_of_lt he, e1, Nat.xor_assoc, Nat.xor_self, Nat.xor_zero]
  have e3 : p.length = pop e (8 * (sc + 32) + deg m t) := by rw [hp]; rfl
  rw [e2, e3, ← hs, Nat.xor_comm V, Nat.xor_comm (par m t V)]
  exact ⟨rfl, by rw [hs]; exact hpt⟩
end
end Go.Proofs.YtdhcigiaidlmbaaGreatDoor.Pg
