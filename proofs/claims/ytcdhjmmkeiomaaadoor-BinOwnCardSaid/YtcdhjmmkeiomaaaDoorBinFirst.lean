/- The examples of chapter 3, as the statements ask them first of all. By the verifier of shale. -/
import Derived.Test.YtcdhjmmkeiomaaaDoorBinIrr
import Derived.Test.YtcdhjmmkeiomaaaDoorBinExps
import Derived.Test.YtcdhjmmkeiomaaaDoorBinOfBad
namespace Go.Proofs.YtcdhjmmkeiomaaaDoor.Bin
open Go Go.RowKit
set_option linter.unusedVariables false
/-- a list of ints that a call lays. -/
def litN (es : List Nat) : Obj := .cells (es.map fun e => Value.int .i64 ((e : Nat) : Int)).toArray 3 (0, 0)
theorem row_lit (w : World) (es : List Nat) (n : Nat) (hn : n = es.length) : RowN (w.alloc (litN es)) (some ⟨w.heap.size, 0, none⟩) n es ∧ Below w.heap.size w (w.alloc (litN es)) := by
  refine ⟨⟨hn, fun i hi => ⟨w.heap.size, 0, rfl, ?_, by simp⟩⟩, (Below.refl _ _).alloc (Nat.le_refl _) _⟩
  rw [Nat.zero_add]
  unfold World.cell?
  simp only
  rw [heap_alloc_new]
  unfold litN
  simp [show i < es.length by omega]
theorem own_row {w : World} {base n : Nat} {v : Value} {es : List Nat} (h : Own64 w base v n (ints es)) : ∃ a cap, v = .slice a n cap ∧ RowN w a n es := by
  have hl := h.len
  have hl' : n = es.length := by rw [← hl]; simp [ints]
  by_cases h0 : n = 0
  · rcases h.2 with ⟨h1, h2⟩ | ⟨g', cap', cur, hv, _⟩
    · exact ⟨none, 0, by rw [h1, h0], hl', fun i hi => by omega⟩
    · exact ⟨_, _, hv, hl', fun i hi => by omega⟩
  · obtain ⟨g, cap, hv, _, hg, _, hc⟩ := h.cells (by omega)
    refine ⟨_, _, hv, hl', fun i hi => ⟨g, 0, rfl, ?_, hg⟩⟩
    rw [Nat.zero_add, hc i hi]
    congr 2
    unfold nth64 ints
    rw [List.getD_eq_getElem?_getD, List.getD_eq_getElem?_getD, List.getElem?_map, List.getElem?_eq_getElem (show i < es.length by omega)]
    rfl
theorem x0 : xp [4, 1, 0] = 0x13 := by decide
theorem x1 : xp [1, 0] = 3 := by decide
theorem x2 : pm 3 3 = 5 := by decide +kernel
theorem x3 : degZ 0x13 = 4 := by decide
theorem x4 : exps 0x13 (topE 0x13) = [4, 1, 0] := by decide +kernel
theorem x5 {X : List (BitVec 8)} (h : val X = 5) (hb : Bare X) : X = [5] := bare_inj hb (fun _ => by decide) (by rw [h]; decide)
set_option maxRecDepth 100000 in
set_option maxHeartbeats 2000000 in
theorem first_any (w : World) (p : Addr) (E : ErrAt w 2 p) :
    Calls Tryd.prog 10 #[] w fun e w' => e = .returned (.bool true) ∧ Below w.heap.size w w' := by
  have q1 := eql_err p
  have HE := Lib.hid E
  clear E
  go_enter Tryd.func10, Tryd.ntmps10
  go_wp2_with fail
  obtain ⟨r1, b1⟩ := row_lit w [4, 1, 0] 3 rfl
  unfold litN at r1 b1
  refine (of_any _ 3 3 [4, 1, 0] _ r1 (by omega) (by decide)).mono ?_
  rintro e w2 ⟨a, n, cap, P, rfl, hP, bP, vP, b2⟩
  have B2 := b1.trans (b2.mono b1.size)
  have VP : Hid (val P = 0x13) := vP.trans x0
  have hP2 := hP.from b1.size
  clear r1 b1 b2 vP hP
  go_wp2_with fail
  obtain ⟨r1, b1⟩ := row_lit w2 [1, 0] 2 rfl
  unfold litN at r1 b1
  refine (of_any _ 2 2 [1, 0] _ r1 (by omega) (by decide)).mono ?_
  rintro e w3 ⟨a', n', cap', Q, rfl, hQ, bQ, vQ, b3⟩
  have b23 := b1.trans (b3.mono b1.size)
  have B3 := B2.trans (b23.mono B2.size)
  have VQ : Hid (val Q = 3) := vQ.trans x1
  have hP3 := hP2.since b23
  have hQ3 := hQ.from b1.size
  clear r1 b1 b3 vQ hQ b23 B2 hP2
  have nQ : n' ≤ 200 := by have := bare_len bQ (k := 1) (by rw [VQ.out]; decide); have := hQ3.hlen; omega
  go_wp2_with fail
  refine (mul_any _ n' cap' Q _ n' cap' Q w3 hQ3.pol hQ3.pol nQ nQ).mono ?_
  rintro e w4 ⟨a2, n2, cap2, X, rfl, hX, bX, vX, b4⟩
  have B4 := B3.trans (b4.mono B3.size)
  have hP4 := hP3.since b4
  have HX : Hid (X = [5]) := x5 (by rw [vX, VQ.out]; exact x2) bX
  clear vX b4 hP3 hQ3 B3 nQ
  go_wp2_with fail
  have bl : Below w4.heap.size w4 (w4.alloc (.cells #[.int .i64 (-1)] 3)) := (Below.refl _ _).alloc (Nat.le_refl _) _
  have rz : RowZ (w4.alloc (.cells #[.int .i64 (-1)] 3)) (some ⟨w4.heap.size, 0, none⟩) 1 (fun _ => -1) := by
    intro i hi
    obtain rfl : i = 0 := by omega
    refine ⟨w4.heap.size, 0, rfl, ?_, by simp⟩
    unfold World.cell?
    simp only
    rw [heap_alloc_new]; rfl
  have B5 := B4.trans (bl.mono B4.size)
  refine (of_bad _ 1 1 (fun _ => -1) 0 _ rz (by omega) (by omega) (fun i hi => by omega) (Or.inl (by decide)) p (HE.out.below B5)).mono ?_
  rintro e w5 ⟨rfl, d5⟩
  have b45 := bl.trans ((d5.below w4.heap.size))
  have B6 := B4.trans (b45.mono B4.size)
  have hP5 := hP4.since b45
  have hX5 := hX.since b45
  clear rz bl B5 d5 b45 B4 hP4 hX
  have nP : n ≤ 100 := by have := bare_len bP (k := 1) (by rw [VP.out]; decide); have := hP5.hlen; omega
  go_wp2_with fail
  refine (degree_any a n cap P w5 hP5.pol (by omega)).mono ?_
  rintro e w6 ⟨rfl, rfl⟩
  rw [VP.out, x3]
  go_wp2_with fail
  refine (exponents_any a n cap P w5 hP5.pol (by omega)).mono ?_
  rintro e w6 ⟨v', k, rfl, hO, b6⟩
  rw [VP.out, x4] at hO
  obtain ⟨ax, cx, rfl, rx⟩ := own_row hO
  obtain rfl : k = 3 := by have := rx.hlen; exact this
  have B7 := B6.trans (b6.mono B6.size)
  have hP6 := hP5.since b6
  have hX6 := hX5.since b6
  clear hO b6 B6 hP5 hX5
  go_wp2_with fail
  obtain ⟨r1, b1⟩ := row_lit w6 [4, 1, 0] 3 rfl
  unfold litN at r1 b1
  have B8 := B7.trans (b1.mono B7.size)
  have hP7 := hP6.since b1
  have hX7 := hX6.since b1
  have rx7 := rx.below b1
  refine (sameInts_any ax 3 cx [4, 1, 0] _ 3 3 [4, 1, 0] _ rx7 r1 (by omega)).mono ?_
  rintro e w8 ⟨rfl, d8⟩
  rw [show decide ([4, 1, 0] = [4, 1, 0]) = true from rfl]
  have hb := d8.below (w6.alloc (.cells #[.int .i64 4, .int .i64 1, .int .i64 0] 3)).heap.size
  have B9 := B8.trans (hb.mono B8.size)
  have hP8 := hP7.since hb
  have hX8 := hX7.since hb
  clear r1 b1 rx7 d8 hb B8 B7 hP7 hX7 hP6 hX6 rx
  go_wp2_with fail
  refine (irreducible_any a n cap P w8 hP8.pol (by omega)).mono ?_
  rintro e w9 ⟨rfl, rfl⟩
  rw [VP.out, irrC_small]
  go_wp2_with fail
  have b5 : Below w8.heap.size w8 (w8.alloc (obj8 [5])) := (Below.refl _ _).alloc (Nat.le_refl _) _
  have hb5 : Blk8 (w8.alloc (obj8 [5])) w8.heap.size [5] := Blk8.new w8 _
  have hX9 := hX8.since b5
  have B10 := B9.trans (b5.mono B9.size)
  have s1 := Str8.of hX9.pol.arg.1
  have s2 := Str8.of (hb5.arg (n := 1) (cap := 1) rfl (by decide)).1
  have e10 := (HE.out.below B10).1
  unfold Sent at e10
  refine (same_any X [5] _ _ _ s1 s2).mono ?_
  rintro e w10 ⟨rfl, rfl⟩
  rw [show decide (X = [5]) = true from decide_eq_true HX.out]
  clear b5 hb5 hX9 s1 s2
  have B11 := Lib.hid B10
  clear B10
  generalize w8.alloc (obj8 [5]) = w11 at e10 B11 ⊢
  go_wp2_with fail
  go_ret
  exact ⟨rfl, B11.out⟩
end Go.Proofs.YtcdhjmmkeiomaaaDoor.Bin
