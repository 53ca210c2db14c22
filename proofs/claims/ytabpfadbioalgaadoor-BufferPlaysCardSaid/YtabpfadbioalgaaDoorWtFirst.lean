/- The examples of chapter 19, as the statements ask them first of all. By the verifier of shale. -/
import Derived.Test.YtabpfadbioalgaaDoorWtEntW
import Derived.Test.YtabpfadbioalgaaDoorRefCopy
import Derived.Test.YtabpfadbioalgaaDoorArgs
import Derived.Deep.RegionHeld3
import Derived.Deep.Cut
namespace Go.Proofs.YtabpfadbioalgaaDoor.Wt
open Go Go.RowKit Bin
set_option linter.unusedVariables false
set_option linter.unusedSimpArgs false
theorem litW (w W : World) (Y : List (BitVec 8)) (h0 : 0 < Y.length) (hm : Y.length ≤ maxLen) (hW : w.alloc (obj8 Y) = W) : Pol W (some ⟨w.heap.size, 0, none⟩) Y.length Y.length Y ∧ Below w.heap.size w W := by
  subst hW
  have hB := Blk8.new w Y
  have hBuf : Buf8 (w.alloc (obj8 Y)) w.heap.size Y := ⟨_, _, hB, fun i hi => by simp [nth8, hi]⟩
  exact ⟨⟨rfl, Nat.le_refl _, hm, fun h => by first | cases h | omega, Or.inr ⟨w.heap.size, 0, rfl, hBuf.row, hBuf.lt⟩⟩, (Below.refl _ _).alloc (Nat.le_refl _) _⟩
theorem tn_below {bl bl' : List Nat} {X Y : World} {b : Nat} (h : Tn bl X Y bl') (hb : b ≤ X.heap.size) (hl : ∀ k ∈ bl, b ≤ k) : Below b X Y :=
  { os := h.os, tape := h.tape, output := h.output, size := h.size, block := fun k hk => h.same k (by omega) fun hm => by have := hl k hm; omega }
theorem belB {w X Y : World} {base : Nat} (hbase : base = w.heap.size) (B : Below base w X) (b : Below X.heap.size X Y) : Below base w Y := B.trans (b.mono (by rw [hbase]; exact B.size))
theorem belT {w X Y : World} {base bb bb' : Nat} {sz mo sc : Int} {v : Value} {L : List Ent} {bl' : List Nat} (hbase : base = w.heap.size) (hb : base ≤ bb') (B : Below base w X) (P : BufAt X bb' bb sz mo sc v L) (T : Tn (blks bb v) X Y bl') : Below base w Y :=
  B.trans (tn_below T (by rw [hbase]; exact B.size) (fun k hk => Nat.le_trans hb (blks_lt P k hk).1))
theorem lit2 (w W : World) (x y : BitVec 8) (hW : w.alloc (obj8 [x, y]) = W) : Pol W (some ⟨w.heap.size, 0, none⟩) 2 2 [x, y] ∧ Below w.heap.size w W := litW w W [x, y] (by show 0 < 2; decide) (by show 2 ≤ maxLen; decide) hW
theorem put2 {w : World} {bb : Nat} {mo sc : Int} {v : Value} {L : List Ent} (B : BufAt w bb bb 2 mo sc v L) (hL : L.length ≤ 1000) (key : Int) (h : (decide (0 ≤ key) && decide (key < sc)) = true) {g : Nat} {l : List (BitVec 8)} (hd : Pol w (some ⟨g, 0, none⟩) 2 2 l) {y : Addr} (E : ErrAt w 1 y) :
    Calls Tryd.prog 12 #[.pointer (some ⟨bb, 0, none⟩), .int .i64 key, .slice (some ⟨g, 0, none⟩) 2 2] w fun en w' => ∃ e : Ent, e.key = key ∧ e.trim = false ∧ e.n = 2 ∧ e.l = l ∧ (∀ q, e.a = some q → w.heap.size ≤ q.block) ∧ LastPost bb bb 2 mo sc v L e y w en w' := put_any (n := 2) B hL key h hd (by decide) E
theorem cell_heap {W X : World} {g i : Nat} (h : W.heap[g]? = X.heap[g]?) : W.cell? ⟨g, i, none⟩ = X.cell? ⟨g, i, none⟩ := by
  unfold World.cell?
  simp only
  rw [h]
theorem may229 : may 2 2 9 := ⟨⟨by decide, by decide⟩, ⟨by decide, by decide⟩, ⟨by decide, by decide⟩⟩
set_option maxRecDepth 100000 in
set_option maxHeartbeats 4000000 in
theorem first19_any (w : World) {yf yn ys : Addr} (EF : ErrAt w 1 yf) (EN : ErrAt w 2 yn) (ES : ErrAt w 3 ys) :
    Calls Tryd.prog 6 #[] w fun e w' => e = .returned (.bool true) ∧ Below w.heap.size w w' := by
  have B : Below w.heap.size w w := Below.refl _ _
  obtain ⟨base, hbase⟩ : ∃ base, base = w.heap.size := ⟨_, rfl⟩
  rw [← hbase] at B ⊢
  have HE : Hid (∀ W, Below base w W → ErrAt W 1 yf ∧ ErrAt W 2 yn ∧ ErrAt W 3 ys) := fun W b => by rw [hbase] at b; exact ⟨EF.below b, EN.below b, ES.below b⟩
  have HBS := Lib.hid hbase
  clear EF EN ES hbase
  go_enter Tryd.func6, Tryd.ntmps6
  go_wp2_with fail
  refine (new_yes 2 2 9 may229 w).mono ?_
  rintro e w1 ⟨rfl, P, b⟩
  obtain ⟨bb, hbb⟩ : ∃ bb, bb = w.heap.size := ⟨_, rfl⟩
  rw [← hbb] at P ⊢
  replace B := B.trans (b.mono (by rw [HBS.out]; exact Nat.le_refl _))
  have HBB : Hid (base ≤ bb) := by show base ≤ bb; rw [HBS.out, hbb]; exact Nat.le_refl _
  clear b hbb
  go_wp2_with fail
  generalize hw : w1.alloc (.cells #[.int .u8 1, .int .u8 2] 5 (0, 0)) = w2
  obtain ⟨D, b⟩ := lit2 w1 w2 1#8 2#8 hw
  clear hw
  replace P := P.below b
  replace B := belB HBS.out B b
  clear b
  refine (put2 P (by decide) 3 (by decide) D (HE.out _ B).1).mono ?_
  rintro en w3 ⟨e1, k1, t1, n1, l1, q1, h⟩
  obtain ⟨rfl, v1, P1, T⟩ := h.ok (.inr (by decide))
  replace B := belT HBS.out HBB.out B P T
  have P2 : BufAt w3 bb bb 2 2 9 v1 [e1] := P1
  clear P P1 D h T q1
  go_wp2_with fail
  generalize hw : w3.alloc (.cells #[.int .u8 3, .int .u8 4] 5 (0, 0)) = w4
  obtain ⟨D, b⟩ := lit2 w3 w4 3#8 4#8 hw
  clear hw
  replace P2 := P2.below b
  replace B := belB HBS.out B b
  clear b
  refine (put2 P2 (by simp) 4 (by decide) D (HE.out _ B).1).mono ?_
  rintro en w5 ⟨e2, k2, t2, n2, l2, q2, h⟩
  obtain ⟨rfl, v2, P1, T⟩ := h.ok (.inr (by simp))
  replace B := belT HBS.out HBB.out B P2 T
  have a1 : at? [e1] e2.key = none := at_gone (fun j hj d hd => by
    simp only [List.length_cons, List.length_nil] at hj
    obtain rfl : j = 0 := by omega
    simp only [List.getElem?_cons_zero, Option.some.injEq] at hd
    rw [← hd, k1, k2]; decide)
  have P3 : BufAt w5 bb bb 2 2 9 v2 [e1, e2] := by have := P1; unfold lastL at this; rw [a1] at this; exact this
  clear P2 P1 D h T q2 a1
  go_wp2_with fail
  generalize hw : w5.alloc (.cells #[.int .u8 5, .int .u8 6] 5 (0, 0)) = w6
  obtain ⟨D, b⟩ := lit2 w5 w6 5#8 6#8 hw
  clear hw
  replace P3 := P3.below b
  replace B := belB HBS.out B b
  clear b
  refine (put2 P3 (by simp) 3 (by decide) D (HE.out _ B).1).mono ?_
  rintro en w7 ⟨e3, k3, t3, n3, l3, q3, h⟩
  have a1 : at? [e1, e2] e3.key = some 0 := at_here (e := e1) rfl (by rw [k1, k3]) (fun j hj => absurd hj (by omega))
  obtain ⟨rfl, v3, P1, T⟩ := h.ok (.inl (by rw [a1]; simp))
  replace B := belT HBS.out HBB.out B P3 T
  have P4 : BufAt w7 bb bb 2 2 9 v3 [e2, e3] := by have := P1; unfold lastL at this; rw [a1] at this; exact this
  clear P3 P1 D h T q3 a1
  go_wp2_with fail
  refine (entries_any P4 (by simp) (fun e he => by simp only [List.mem_cons, List.not_mem_nil, or_false] at he; rcases he with rfl | rfl <;> omega)).mono ?_
  rintro en w8 ⟨v4, yl, rfl, pre, hlen, hrow, b, _, _⟩
  have hbk : ∀ k ∈ blks bb v3, k < w7.heap.size := fun k hk => (blks_lt P4 k hk).2
  replace P4 := P4.below b
  replace B := belB HBS.out B b
  obtain ⟨av, cv, rfl, -, -, -⟩ := row_slice hrow
  have hy0 : ∃ y0, yl[0]? = some y0 := ⟨yl[0]'(by rw [hlen]; simp), List.getElem?_eq_getElem _⟩
  obtain ⟨y0, hy0⟩ := hy0
  obtain ⟨hi0, d0, hd0, hk0, _⟩ := pre 0 y0 hy0
  rw [hi0] at hd0
  obtain rfl : e2 = d0 := by simpa using hd0
  obtain ⟨gl, hav, hgl, c0, _, _⟩ := row_cells hrow (i := 0) (e := y0.e) (by rw [List.getElem?_map, hy0]; rfl)
  rw [hav, List.length_map, hlen]
  have c4 : w8.cell? ⟨gl, 0, none⟩ = some (.int .i64 4) := by rw [Nat.zero_mul, hk0, k2] at c0; exact c0
  have hglB : gl ∉ blks bb v3 := fun hm => by have := hbk gl hm; omega
  have hglt : gl < w8.heap.size := (hrow.lt gl (by rw [hav]; rfl)).2
  have HC : Hid (∀ W : World, W.heap[gl]? = w8.heap[gl]? → W.cell? ⟨gl, 0, none⟩ = some (.int .i64 4)) := fun W h => (cell_heap h).trans c4
  have HGL := Lib.hid (And.intro hglB hglt)
  have a5 : at? [e2, e3] 5 = none := at_gone (fun j hj d hd => by
    have : d = e2 ∨ d = e3 := by have := List.mem_of_getElem? hd; simpa using this
    rcases this with rfl | rfl <;> omega)
  have a4 : at? [e2, e3] 4 = some 0 := at_here (e := e2) rfl k2 (fun j hj => absurd hj (by omega))
  have H45 := Lib.hid (And.intro a5 a4)
  clear hbk hd0 hk0 hi0 hy0 pre hlen hrow hav c0 hglB hglt b hgl c4 a5 a4
  go_wp2_with fail
  refine (drop_any P4 (by simp) 5 (by decide) (HE.out _ B).1).mono ?_
  rintro en w9 h
  obtain ⟨rfl, b⟩ := h.full H45.out.1 (by simp)
  replace P4 := P4.below b
  replace B := belB HBS.out B b
  have HC9 : Hid (w9.heap[gl]? = w8.heap[gl]? ∧ gl < w9.heap.size) := ⟨b.block _ HGL.out.2, Nat.lt_of_lt_of_le HGL.out.2 b.size⟩
  clear b h
  go_wp2_with fail
  refine (drop_any P4 (by simp) 4 (by decide) (HE.out _ B).1).mono ?_
  rintro en w10 h
  obtain ⟨rfl, v5, P5, T⟩ := h.ok (.inl (by rw [H45.out.2]; simp))
  have a4 := H45.out.2
  have P6 : BufAt w10 bb bb 2 2 9 v5 [e3, ⟨4, true, none, 0, 0, []⟩] := by have := P5; unfold lastL at this; rw [a4] at this; exact this
  replace B := belT HBS.out HBB.out B P4 T
  have HC10 : Hid (w10.heap[gl]? = w8.heap[gl]? ∧ gl < w10.heap.size) := ⟨(T.same gl HC9.out.2 HGL.out.1).trans HC9.out.1, Nat.lt_of_lt_of_le HC9.out.2 T.size⟩
  have a6 : Hid (at? [e3, ⟨4, true, none, 0, 0, []⟩] 4 = some 1) := at_here (e := ⟨4, true, none, 0, 0, []⟩) rfl rfl (fun j hj d hd => by
    obtain rfl : j = 0 := by omega
    simp only [List.getElem?_cons_zero, Option.some.injEq] at hd
    rw [← hd, k3]; decide)
  clear P4 P5 T h HC9 a4
  go_wp2_with fail
  refine (get_some P6 4 a6.out (d := ⟨4, true, none, 0, 0, []⟩) rfl (by decide) (by simp)).mono ?_
  rintro en w11 ⟨a11, c11, rfl, N, b⟩
  replace P6 := P6.below b
  replace B := belB HBS.out B b
  have HC11 : Hid (w11.heap[gl]? = w8.heap[gl]? ∧ gl < w11.heap.size) := ⟨(b.block _ HC10.out.2).trans HC10.out.1, Nat.lt_of_lt_of_le HC10.out.2 b.size⟩
  clear b N a6 HC10 H45
  go_upto_region 11 with (fail)
  generalize hw : (w11.alloc (.cells #[.int .i64 4, .bool true, .slice a11 0 c11] 35 (0, 0))) = w12
  obtain ⟨hx, b⟩ := newE w11 w12 ⟨4, true, a11, 0, c11, []⟩ hw
  clear hw
  obtain ⟨xb, hxb⟩ : ∃ xb, xb = w11.heap.size := ⟨_, rfl⟩
  rw [← hxb] at hx ⊢
  clear hxb
  replace P6 := P6.below b
  replace B := belB HBS.out B b
  have HC12 : Hid (w12.heap[gl]? = w8.heap[gl]? ∧ gl < w12.heap.size) := ⟨(b.block _ HC11.out.2).trans HC11.out.1, Nat.lt_of_lt_of_le HC11.out.2 b.size⟩
  have HSK : Hid (∀ W, Below w12.heap.size w12 W → (W.cell? ⟨gl, 0, none⟩ = some (.int .i64 4) ∧ W.cell? ⟨xb, 1, none⟩ = some (.bool true) ∧ W.cell? ⟨1, 0, none⟩ = some (errOf yf) ∧ W.cell? ⟨2, 0, none⟩ = some (errOf yn) ∧ W.cell? ⟨3, 0, none⟩ = some (errOf ys) ∧ Below w12.heap.size w12 W)) := fun W b => by
    obtain ⟨z1, z2, z3⟩ := HE.out W (belB HBS.out B b)
    refine ⟨HC.out W ((b.block _ HC12.out.2).trans HC12.out.1), ?_, z1.1, z2.1, z3.1, b⟩
    exact (ent3 ((b.block _ (lt_of_block hx)).trans hx)).2.1
  have HR1 : Hid (∀ (d : Value) (W : World) (_ : W.cell? ⟨gl, 0, none⟩ = some (.int .i64 4) ∧ W.cell? ⟨xb, 1, none⟩ = some (.bool true) ∧ W.cell? ⟨1, 0, none⟩ = some (errOf yf) ∧ W.cell? ⟨2, 0, none⟩ = some (errOf yn) ∧ W.cell? ⟨3, 0, none⟩ = some (errOf ys) ∧ Below w12.heap.size w12 W), Calls Tryd.prog 12 #[.pointer (some ⟨bb, 0, none⟩), .int .i64 9, d] W fun e W' => e = .returned (errOf yn) ∧ (W'.cell? ⟨gl, 0, none⟩ = some (.int .i64 4) ∧ W'.cell? ⟨xb, 1, none⟩ = some (.bool true) ∧ W'.cell? ⟨1, 0, none⟩ = some (errOf yf) ∧ W'.cell? ⟨2, 0, none⟩ = some (errOf yn) ∧ W'.cell? ⟨3, 0, none⟩ = some (errOf ys) ∧ Below w12.heap.size w12 W')) := fun d W hs =>
    (put_range (P6.below hs.2.2.2.2.2) 9 (by decide) d (HE.out W (belB HBS.out B hs.2.2.2.2.2)).2.1).mono fun e w' h => ⟨h.1, h.2 ▸ hs⟩
  have HR2 : Hid (∀ (a : Option Addr) (W : World) (_ : W.cell? ⟨gl, 0, none⟩ = some (.int .i64 4) ∧ W.cell? ⟨xb, 1, none⟩ = some (.bool true) ∧ W.cell? ⟨1, 0, none⟩ = some (errOf yf) ∧ W.cell? ⟨2, 0, none⟩ = some (errOf yn) ∧ W.cell? ⟨3, 0, none⟩ = some (errOf ys) ∧ Below w12.heap.size w12 W), Calls Tryd.prog 12 #[.pointer (some ⟨bb, 0, none⟩), .int .i64 3, .slice a 1 1] W fun e W' => e = .returned (errOf ys) ∧ (W'.cell? ⟨gl, 0, none⟩ = some (.int .i64 4) ∧ W'.cell? ⟨xb, 1, none⟩ = some (.bool true) ∧ W'.cell? ⟨1, 0, none⟩ = some (errOf yf) ∧ W'.cell? ⟨2, 0, none⟩ = some (errOf yn) ∧ W'.cell? ⟨3, 0, none⟩ = some (errOf ys) ∧ Below w12.heap.size w12 W')) := fun a W hs =>
    (put_size (P6.below hs.2.2.2.2.2) 3 (by decide) a 1 1 (by decide) (HE.out W (belB HBS.out B hs.2.2.2.2.2)).2.2).mono fun e w' h => ⟨h.1, h.2 ▸ hs⟩
  have hS0 := HSK.out w12.drew ((Drawn.mk w12 1).below _)
  have eqf : ∀ W, (binOp .eql 26 (errOf yf) (errOf yf)).run Tryd.prog W = .ok (.bool true) W := fun W => eql_err yf W
  have eqn : ∀ W, (binOp .eql 26 (errOf yn) (errOf yn)).run Tryd.prog W = .ok (.bool true) W := fun W => eql_err yn W
  have eqs : ∀ W, (binOp .eql 26 (errOf ys) (errOf ys)).run Tryd.prog W = .ok (.bool true) W := fun W => eql_err ys W
  have HB := Lib.hid B
  clear P6 B hx b HC12 HC11 HC
  go_region_held3 (fun W => W.cell? ⟨gl, 0, none⟩ = some (.int .i64 4) ∧ W.cell? ⟨xb, 1, none⟩ = some (.bool true) ∧ W.cell? ⟨1, 0, none⟩ = some (errOf yf) ∧ W.cell? ⟨2, 0, none⟩ = some (errOf yn) ∧ W.cell? ⟨3, 0, none⟩ = some (errOf ys) ∧ Below w12.heap.size w12 W)
    (first | assumption | exact ⟨by assumption, by assumption, by assumption, by assumption, by assumption, by assumption⟩ | exact HSK.out _ (by repeat (first | assumption | exact Below.refl _ _ | refine Below.drew ?_ | refine Below.alloc ?_ (by first | exact Nat.le_refl _ | exact Below.size (by assumption)) _)))
    (first
      | (go_at_call 12; (first | (with_reducible refine Calls.mono (HR1.out _ _ ?_) ?_) | (with_reducible refine Calls.mono (HR2.out _ _ ?_) ?_)); (first | assumption | exact ⟨by assumption, by assumption, by assumption, by assumption, by assumption, by assumption⟩); rintro e w1 ⟨rfl, z1, z2, z3, z4, z5, z6⟩))
  have hb := belB HBS.out HB.out z6
  clear z1 z2 z3 z4 z5 z6 eqf eqn eqs hS0 HR1 HR2 HSK HE
  go_wp2_with fail
  go_ret
  exact ⟨rfl, hb⟩
end Go.Proofs.YtabpfadbioalgaaDoor.Wt
