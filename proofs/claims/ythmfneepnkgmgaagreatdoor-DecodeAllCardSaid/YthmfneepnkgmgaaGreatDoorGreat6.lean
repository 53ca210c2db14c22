/- Texts of the verifier of shale, laid into one: DecTurn, DecTidy, Decode, DecMade, DecLaw, DecFirst, DecTell, SynAdd, SynLaw, SynPlaces, SynTurn, DecRight. -/
import Derived.Test.YthmfneepnkgmgaaGreatDoorGreat1
import Derived.Test.YthmfneepnkgmgaaGreatDoorGreat2
import Derived.Test.YthmfneepnkgmgaaGreatDoorGreat3
import Derived.Test.YthmfneepnkgmgaaGreatDoorGreat4
import Derived.Test.YthmfneepnkgmgaaGreatDoorGreat5
import Derived.LoopN
import Derived.LaidEqlPtr
import Derived.Laws.CopyOwn
import Derived.Lib.QuietBelow
import Derived.Deep.Cut
import Derived.Maps.RangeWalk
/- The step of mending that turns the bits. By the verifier of shale. -/
namespace Go.Proofs.YthmfneepnkgmgaaGreatDoor.Dec
open Go Go.RowKit Bin Pl Cos Enc Syn Loc Sea
set_option linter.unusedVariables false
/-- bytes in a block of their own, at base or above. -/
structure Fresh (B : Nat) (w : World) (a : Option Addr) (n c : Nat) (X : List (BitVec 8)) : Prop where
  hlen : n = X.length
  hcap : n ≤ c
  hmost : c ≤ maxLen
  own : ∃ g, a = some ⟨g, 0, none⟩ ∧ B ≤ g ∧ Buf8 w g X
theorem Fresh.pol {B : Nat} {w : World} {a : Option Addr} {n c : Nat} {X : List (BitVec 8)} (h : Fresh B w a n c X) : Pol w a n c X := by
  obtain ⟨g, rfl, hg, hb⟩ := h.own
  exact ⟨h.hlen, h.hcap, h.hmost, (fun e => by cases e), Or.inr ⟨g, 0, rfl, hb.row, hb.lt⟩⟩
theorem fresh_new {w w' : World} {a : Option Addr} {n c : Nat} {X : List (BitVec 8)} (h : NewP w w' a n c X) (hn : 0 < n) {B : Nat} (hB : B ≤ w.heap.size) : Fresh B w' a n c X := by
  obtain ⟨g, rfl, hg, hb⟩ := newP_block h hn
  exact ⟨h.hlen, h.hcap, h.hmost, g, rfl, Nat.le_trans hB hg, hb⟩
theorem Fresh.newP {w w' : World} {a : Option Addr} {n c : Nat} {X : List (BitVec 8)} (h : Fresh w.heap.size w' a n c X) : NewP w w' a n c X := by
  obtain ⟨g, e, hg, hb⟩ := h.own
  exact ⟨h.hlen, h.hcap, h.hmost, .inr ⟨g, e, hg, hb⟩⟩
theorem Fresh.same {B : Nat} {w w' : World} {a : Option Addr} {n c : Nat} {X : List (BitVec 8)} (h : Fresh B w a n c X) (k : ∀ g, a = some ⟨g, 0, none⟩ → g < w.heap.size → w'.heap[g]? = w.heap[g]?) : Fresh B w' a n c X := by
  obtain ⟨g, e, hg, hb⟩ := h.own
  have hl := hb.lt
  obtain ⟨cur, t, h1, h2⟩ := hb
  exact ⟨h.hlen, h.hcap, h.hmost, g, e, hg, cur, t, (k g e hl).trans h1, h2⟩
theorem Fresh.below {B : Nat} {w w' : World} {a : Option Addr} {n c : Nat} {X : List (BitVec 8)} (h : Fresh B w a n c X) (b : Below w.heap.size w w') : Fresh B w' a n c X := h.same fun g _ hl => b.block g hl
/-- a word holds no bytes. -/
theorem fresh_ne {B : Nat} {w : World} {a : Option Addr} {n c wb : Nat} {X : List (BitVec 8)} {d p s l q : Value} (h : Fresh B w a n c X) (hn : 0 < n) (hW : wordAt w wb d p s l q) (hd : ∀ k z, d ≠ .int k z) : ∀ g, a = some ⟨g, 0, none⟩ → g ≠ wb := by
  obtain ⟨g, rfl, hg, hb⟩ := h.own
  rintro g' e rfl
  cases e
  have h1 := hb.cell 0 (by rw [← h.hlen]; exact hn)
  rw [hW.cells.1] at h1
  exact hd _ _ (Option.some.inj h1)
theorem Fresh.store {B : Nat} {w : World} {a : Option Addr} {n c wb i : Nat} {X : List (BitVec 8)} {d p s l q u : Value} (h : Fresh B w a n c X) (hn : 0 < n) (hW : wordAt w wb d p s l q) (hd : ∀ k z, d ≠ .int k z) : Fresh B (w.setCell ⟨wb, i, none⟩ u) a n c X :=
  h.same fun g e _ => Below.heap_setCell _ _ _ _ (fresh_ne h hn hW hd g e)
theorem tn_below {w0 w w' : World} {wb : Nat} (b : Below w0.heap.size w0 w) (t : Tn [wb] w w' [wb]) (h : w0.heap.size ≤ wb) : Below w0.heap.size w0 w' :=
  b.trans { os := t.os, tape := t.tape, output := t.output, size := t.size, block := fun k hk => t.same k (by have := b.size; omega) (by simp; omega) }
/-- two lists in blocks of their own. -/
def Ap (a1 a2 : Option Addr) : Prop := ∀ x y, a1 = some x → a2 = some y → x.block ≠ y.block
theorem shr_pow (D k : Nat) : (2 ^ k) >>> D = if k < D then 0 else 2 ^ (k - D) := by
  apply Nat.eq_of_testBit_eq
  intro i
  rw [Nat.testBit_shiftRight, Nat.testBit_two_pow]
  split
  · rw [Nat.zero_testBit]; exact decide_eq_false (by omega)
  · rw [Nat.testBit_two_pow, Bool.eq_iff_iff]; simp; omega
theorem mod_pow (D k : Nat) : 2 ^ k % 2 ^ D = if k < D then 2 ^ k else 0 := by
  split
  · rename_i h
    exact Nat.mod_eq_of_lt (Nat.pow_lt_pow_right (by decide) h)
  · rename_i h
    exact Nat.mod_eq_zero_of_dvd (Nat.pow_dvd_pow 2 (by omega))
theorem xs_shr (l : List Nat) (j D : Nat) (hj : j < l.length) : xs (l.take (j + 1)) >>> D = xs (l.take j) >>> D ^^^ (if l.getD j 0 < D then 0 else 2 ^ (l.getD j 0 - D)) := by
  rw [xs_take l j hj, Nat.shiftRight_xor_distrib, shr_pow, List.getD_eq_getElem?_getD, List.getElem?_eq_getElem hj]; rfl
theorem xs_mod (l : List Nat) (j D : Nat) (hj : j < l.length) : xs (l.take (j + 1)) % 2 ^ D = xs (l.take j) % 2 ^ D ^^^ (if l.getD j 0 < D then 2 ^ l.getD j 0 else 0) := by
  rw [xs_take l j hj, Nat.xor_mod_two_pow, mod_pow, List.getD_eq_getElem?_getD, List.getElem?_eq_getElem hj]; rfl
section
variable {m : Nat} [M : Pl.Mid m]
set_option maxRecDepth 100000 in
set_option maxHeartbeats 2000000 in
theorem turnS_any {t n : Nat} {w0 w : World} {db s wb BB : Nat} {ym yz : Addr} (K : Base m t n w0 db s ym yz) (b : Below w0.heap.size w0 w) (hwb : w0.heap.size ≤ wb) (hBB : BB ≤ w.heap.size) {a a' a2 : Option Addr} {ca ca' c2 : Nat} {X Y : List (BitVec 8)} {sv lv : Value} {l : List Nat} (hW : wordAt w wb (.slice a n ca) (.slice a' (pb (deg m t)) ca') sv lv (.slice a2 l.length c2)) (hsv : ∀ x ∈ [sv, lv], ∀ z, x ≠ .int .i64 z) (hX : Fresh BB w a n ca X) (hY : Fresh BB w a' (pb (deg m t)) ca' Y) (hR : RowZ w a2 l.length c2 (intsN l)) (hl : ∀ p ∈ l, p < 8 * n + deg m t) (hAp : Ap a a') :
    Calls Tryz.prog 37 #[.pointer (some ⟨db, 0, none⟩), .pointer (some ⟨wb, 0, none⟩)] w fun e w' => e = .returned .nilIface ∧ ∃ b1 k1 X1 b2 k2 Y1, wordAt w' wb (.slice b1 n k1) (.slice b2 (pb (deg m t)) k2) sv lv (.slice a2 l.length c2) ∧ Fresh BB w' b1 n k1 X1 ∧ Fresh BB w' b2 (pb (deg m t)) k2 Y1 ∧ RowZ w' a2 l.length c2 (intsN l) ∧ val X1 = val X ^^^ xs l >>> deg m t ∧ val Y1 = val Y ^^^ xs l % 2 ^ deg m t ∧ Tn [wb] w w' [wb] ∧ Ap b1 b2 ∧ (l = [] ∨ Ap a2 b2) := by
  have hP1 : 0 < pb (deg m t) := by
    have := deg_pos M.lo K.t1
    unfold pb; omega
  have hlm : l.length ≤ maxLen := Nat.le_trans hR.hcap hR.hmost
  unfold maxLen at hlm
  have hrm := K.room
  have hszm := Fld.size_hi m M.hi
  obtain ⟨nl, hnl⟩ : ∃ nl, nl = l.length := ⟨_, rfl⟩
  obtain ⟨P, hP⟩ : ∃ P, P = pb (deg m t) := ⟨_, rfl⟩
  obtain ⟨D, hD⟩ : ∃ D, D = deg m t := ⟨_, rfl⟩
  have HFl : Hid (∀ W (bb : Below w0.heap.size w0 W) (a : Option Addr) (cap : Nat) (u : List (BitVec 8)) (a' : Option Addr) (cap' : Nat) (q : List (BitVec 8)) (k : Nat), Pol W a n cap u → Pol W a' P cap' q → k < 8 * n + D → Calls Tryz.prog 26 #[.pointer (some ⟨s, 0, none⟩), .slice a n cap, .slice a' P cap', .int .i64 (k : Int)] W (FlipAp D n P k (val u) (val q) W)) := fun W bb a cap u a' cap' q k h1 h2 h3 => by
    rw [hP] at h2 ⊢
    rw [hD] at h3 ⊢
    exact flip_apart K.t1 K.t40 W s (K.code.below bb) a cap u h1 K.n2048 a' cap' q h2 k h3
  rw [← hP] at hP1 hW hY ⊢
  rw [← hnl] at hW hR hlm ⊢
  rw [← hD] at hl hrm ⊢
  have HD := Lib.hid (K.dec)
  have HN1 := Lib.hid (And.intro K.n1 hP1)
  have HNL := Lib.hid (And.intro hnl hl)
  have HV := Lib.hid hsv
  have H0 : Hid (wordAt w wb (.slice a n ca) (.slice a' P ca') sv lv (.slice a2 nl c2) ∧ Fresh BB w a n ca X ∧ Fresh BB w a' P ca' Y ∧ RowZ w a2 nl c2 (intsN l) ∧ val X = val X ^^^ xs (l.take 0) >>> D ∧ val Y = val Y ^^^ xs (l.take 0) % 2 ^ D ∧ Tn [wb] w w [wb] ∧ Ap a a') :=
    ⟨hW, hX, hY, hR, by show val X = val X ^^^ 0 >>> D; simp, by show val Y = val Y ^^^ 0 % 2 ^ D; simp, Tn.refl _ _, hAp⟩
  obtain ⟨_, _, _, _, d4, _⟩ := hW.cells
  have HB := Lib.hid (And.intro b hwb)
  obtain ⟨V, hV⟩ : ∃ V, V = val X := ⟨_, rfl⟩
  obtain ⟨U, hU⟩ : ∃ U, U = val Y := ⟨_, rfl⟩
  have HVU := Lib.hid (And.intro hV hU)
  clear hW hX hY hR hl K b hP1 hnl hP hD hsv hV hU hwb hAp
  go_enter Tryz.func37, Tryz.ntmps37
  go_wp2_with fail
  clear d4
  go_loopg [15] nl (fun gh s15 wx => ∃ (j : Nat), gh = nl - j ∧ j ≤ nl ∧ s15 = .int .i64 (j : Int) ∧ Hid (∃ b1 k1 X1 b2 k2 Y1, wordAt wx wb (.slice b1 n k1) (.slice b2 P k2) sv lv (.slice a2 nl c2) ∧ Fresh BB wx b1 n k1 X1 ∧ Fresh BB wx b2 P k2 Y1 ∧ RowZ wx a2 nl c2 (intsN l) ∧ val X1 = V ^^^ xs (l.take j) >>> D ∧ val Y1 = U ^^^ xs (l.take j) % 2 ^ D ∧ Tn [wb] w wx [wb] ∧ Ap b1 b2 ∧ (j = 0 ∨ Ap a2 b2)))
  case atStart => exact ⟨0, rfl, Nat.zero_le _, rfl, a, ca, X, a', ca', Y, by
    obtain ⟨h1, h2, h3, h4, h5, h6, h7, h8⟩ := H0.out
    rw [HVU.out.1, HVU.out.2]
    exact ⟨h1, h2, h3, h4, h5, h6, h7, h8, .inl rfl⟩⟩
  case round =>
    clear H0
    obtain ⟨j, hg, hj, rfl, HI⟩ := hrel
    have HG := Lib.hid hg
    clear hg
    obtain ⟨W5, hW5⟩ : ∃ W5, W5 = wr := ⟨_, rfl⟩
    rw [← hW5] at HI ⊢
    clear hW5
    by_cases hlt : j < nl
    · have y0 : (j : Int) < (nl : Int) := by omega
      have y1 : (0 : Int) ≤ (j : Int) := by omega
      obtain ⟨b1, k1, X1, b2, k2, Y1, hW, hX, hY, hR, hv1, hv2, hT, _⟩ := HI.out
      obtain ⟨bb, off, rfl, cc, hbb⟩ := hR.row j hlt
      have hjl : j < l.length := by rw [← HNL.out.1]; exact hlt
      have hvj := intsN_at l j hjl
      unfold nth64 at hvj
      rw [hvj] at cc
      obtain ⟨p, hp⟩ : ∃ p, p = l.getD j 0 := ⟨_, rfl⟩
      have hpl : p < 8 * n + D := HNL.out.2 p (by
        rw [hp, List.getD_eq_getElem?_getD, List.getElem?_eq_getElem hjl]
        exact List.getElem_mem hjl)
      rw [← hp] at cc
      have hB5 := tn_below HB.out.1 hT HB.out.2
      have hdb : decAt W5 db s := (hB5.block _ (lt_of_block HD.out)).trans HD.out
      have c0 := hdb.cell
      obtain ⟨d0, d1, _⟩ := hW.cells
      have HF : Hid (∀ W, Below W5.heap.size W5 W → Calls Tryz.prog 26 #[.pointer (some ⟨s, 0, none⟩), .slice b1 n k1, .slice b2 P k2, .int .i64 (p : Int)] W fun e w' => ∃ a1 c1 X2 a3 c3 Y2, e = .returned (.tuple #[.slice a1 n c1, .slice a3 P c3, .nilIface]) ∧ (w'.cell? ⟨db, 0, none⟩ = some (.pointer (some ⟨s, 0, none⟩)) ∧ w'.cell? ⟨wb, 0, none⟩ = some (.slice b1 n k1) ∧ w'.cell? ⟨wb, 1, none⟩ = some (.slice b2 P k2) ∧ Below W5.heap.size W5 w') ∧ NewP W w' a1 n c1 X2 ∧ NewP W w' a3 P c3 Y2 ∧ val X2 = val X1 ^^^ (if p < D then 0 else 2 ^ (p - D)) ∧ val Y2 = val Y1 ^^^ (if p < D then 2 ^ p else 0) ∧ W5.heap.size ≤ W.heap.size ∧ Ap a1 a3) := fun W bW => by
        refine (HFl.out W (hB5.trans (bW.mono hB5.size)) b1 k1 X1 b2 k2 Y1 p (hX.pol.below bW) (hY.pol.below bW) hpl).mono ?_
        rintro e w' ⟨⟨a1, c1, X2, a3, c3, Y2, rfl, n1, n2, v1, v2, b6⟩, hap⟩
        have bb6 := bW.trans (b6.mono bW.size)
        exact ⟨a1, c1, X2, a3, c3, Y2, rfl, ⟨(bb6.cell (p := ⟨db, 0, none⟩) (lt_of_block hdb)).trans c0, (bb6.cell (p := ⟨wb, 0, none⟩) (lt_of_block hW)).trans d0, (bb6.cell (p := ⟨wb, 1, none⟩) (lt_of_block hW)).trans d1, bb6⟩, n1, n2, v1, v2, bW.size, hap _ _ _ _ rfl⟩
      have HBB5 := Lib.hid hbb
      have HQ := Lib.hid (And.intro hW (And.intro hX (And.intro hY (And.intro hR (And.intro hv1 (And.intro hv2 hT))))))
      have HJ := Lib.hid (And.intro hjl (And.intro hp hlt))
      have hS0 : W5.drew.cell? ⟨db, 0, none⟩ = some (.pointer (some ⟨s, 0, none⟩)) ∧ W5.drew.cell? ⟨wb, 0, none⟩ = some (.slice b1 n k1) ∧ W5.drew.cell? ⟨wb, 1, none⟩ = some (.slice b2 P k2) ∧ Below W5.heap.size W5 W5.drew := ⟨c0, d0, d1, (Drawn.mk W5 1).below _⟩
      clear hW hX hY hR hv1 hv2 hT hjl hp hlt hvj hB5 hdb hpl hbb HI
      go_wp2_with fail
      go_region_held3 (fun w' => w'.cell? ⟨db, 0, none⟩ = some (.pointer (some ⟨s, 0, none⟩)) ∧ w'.cell? ⟨wb, 0, none⟩ = some (.slice b1 n k1) ∧ w'.cell? ⟨wb, 1, none⟩ = some (.slice b2 P k2) ∧ Below W5.heap.size W5 w')
        (first | assumption | exact ⟨by assumption, by assumption, by assumption, by assumption⟩)
        (first
          | (go_at_call 26; refine Calls.mono (HF.out _ (And.right (And.right (And.right (by assumption))))) ?_; rintro e w6 ⟨a1, c1, X2, a3, c3, Y2, rfl, q0, q1, q2, q3, q4, q5, q6⟩))
      obtain ⟨hW, hX, hY, hR, hv1, hv2, hT⟩ := HQ.out
      have b6 := q0.2.2.2
      have hW6 : wordAt w6 wb (.slice b1 n k1) (.slice b2 P k2) sv lv (.slice (some ⟨bb, off, none⟩) nl c2) := (b6.block _ (lt_of_block hW)).trans hW
      have hW7 : wordAt (w6.setCell ⟨wb, 0, none⟩ (.slice a1 n c1)) wb (.slice a1 n c1) (.slice b2 P k2) sv lv (.slice (some ⟨bb, off, none⟩) nl c2) := heap_setCell_same _ _ 0 _ _ _ hW6
      have hW8 : wordAt ((w6.setCell ⟨wb, 0, none⟩ (.slice a1 n c1)).setCell ⟨wb, 1, none⟩ (.slice a3 P c3)) wb (.slice a1 n c1) (.slice a3 P c3) sv lv (.slice (some ⟨bb, off, none⟩) nl c2) := heap_setCell_same _ _ 1 _ _ _ hW7
      have hvs : ∀ (d p : Value), (∀ z, d ≠ .int .i64 z) → (∀ z, p ≠ .int .i64 z) → ∀ x ∈ [d, p, sv, lv, .slice (some ⟨bb, off, none⟩) nl c2], ∀ z, x ≠ .int .i64 z := by
        intro d p hd hp x hx z
        simp only [List.mem_cons, List.not_mem_nil, or_false] at hx
        rcases hx with rfl | rfl | rfl | rfl | rfl
        · exact hd z
        · exact hp z
        · exact HV.out _ (by simp) z
        · exact HV.out _ (by simp) z
        · simp
      have hBB2 : BB ≤ W5.heap.size := Nat.le_trans hBB hT.size
      have hX7 := ((fresh_new q1 HN1.out.1 (Nat.le_trans hBB2 q5)).store (i := 0) (u := .slice a1 n c1) HN1.out.1 hW6 (by simp)).store (i := 1) (u := .slice a3 P c3) HN1.out.1 hW7 (by simp)
      have hY7 := ((fresh_new q2 HN1.out.2 (Nat.le_trans hBB2 q5)).store (i := 0) (u := .slice a1 n c1) HN1.out.2 hW6 (by simp)).store (i := 1) (u := .slice a3 P c3) HN1.out.2 hW7 (by simp)
      have hR7 := rowz_store (i := 1) (u := .slice a3 P c3) hW7 (hvs _ _ (by simp) (by simp)) (rowz_store (i := 0) (u := .slice a1 n c1) hW6 (hvs _ _ (by simp) (by simp)) (hR.below b6))
      have hT7 : Tn [wb] w ((w6.setCell ⟨wb, 0, none⟩ (.slice a1 n c1)).setCell ⟨wb, 1, none⟩ (.slice a3 P c3)) [wb] := ((hT.trans (Tn.below b6)).trans (Tn.setCell w6 _ _ (by simp))).trans (Tn.setCell _ _ _ (by simp))
      have HN : Hid (∃ b1 k1 X1 b2 k2 Y1, wordAt ((w6.setCell ⟨wb, 0, none⟩ (.slice a1 n c1)).setCell ⟨wb, 1, none⟩ (.slice a3 P c3)) wb (.slice b1 n k1) (.slice b2 P k2) sv lv (.slice (some ⟨bb, off, none⟩) nl c2) ∧ Fresh BB ((w6.setCell ⟨wb, 0, none⟩ (.slice a1 n c1)).setCell ⟨wb, 1, none⟩ (.slice a3 P c3)) b1 n k1 X1 ∧ Fresh BB ((w6.setCell ⟨wb, 0, none⟩ (.slice a1 n c1)).setCell ⟨wb, 1, none⟩ (.slice a3 P c3)) b2 P k2 Y1 ∧ RowZ ((w6.setCell ⟨wb, 0, none⟩ (.slice a1 n c1)).setCell ⟨wb, 1, none⟩ (.slice a3 P c3)) (some ⟨bb, off, none⟩) nl c2 (intsN l) ∧ val X1 = V ^^^ xs (l.take (j + 1)) >>> D ∧ val Y1 = U ^^^ xs (l.take (j + 1)) % 2 ^ D ∧ Tn [wb] w ((w6.setCell ⟨wb, 0, none⟩ (.slice a1 n c1)).setCell ⟨wb, 1, none⟩ (.slice a3 P c3)) [wb] ∧ Ap b1 b2 ∧ (j + 1 = 0 ∨ Ap (some ⟨bb, off, none⟩) b2)) := by
        refine ⟨a1, c1, X2, a3, c3, Y2, hW8, hX7, hY7, hR7, ?_, ?_, hT7, q6, .inr fun x y hx hy => by
          cases hx
          obtain ⟨g2, e2, hg2, _⟩ := newP_block q2 HN1.out.2
          rw [e2] at hy
          cases hy
          have h5 := HBB5.out
          show bb ≠ g2
          omega⟩
        · rw [q3, hv1, xs_shr l j D HJ.out.1, ← HJ.out.2.1, Nat.xor_assoc]
        · rw [q4, hv2, xs_mod l j D HJ.out.1, ← HJ.out.2.1, Nat.xor_assoc]
      obtain ⟨f0, f1, _, _, _, ff⟩ := hW6.cells
      obtain ⟨g0, g1, _, _, _, gf⟩ := hW7.cells
      have ff0 := ff 0
      have gf1 := gf 1
      have HJ2 : Hid (j + 1 ≤ nl) := HJ.out.2.2
      clear hW hX hY hR hv1 hv2 hT b6 hW6 hW7 hW8 hvs hX7 hY7 hR7 hT7 ff gf q0 q1 q2 q3 q4 q5 q6 cc c0 d0 d1 hS0 HF
      go_wp2_with fail
      go_roundg (nl - (j + 1))
      case measure => have := HG.out; have := HJ2.out; omega
      case rel => exact ⟨j + 1, rfl, HJ2.out, by have := HJ2.out; go_num, HN.out⟩
    · obtain rfl : j = nl := by omega
      have HE : Hid (∃ b1 k1 X1 b2 k2 Y1, wordAt W5 wb (.slice b1 n k1) (.slice b2 P k2) sv lv (.slice a2 j c2) ∧ Fresh BB W5 b1 n k1 X1 ∧ Fresh BB W5 b2 P k2 Y1 ∧ RowZ W5 a2 j c2 (intsN l) ∧ val X1 = V ^^^ xs l >>> D ∧ val Y1 = U ^^^ xs l % 2 ^ D ∧ Tn [wb] w W5 [wb] ∧ Ap b1 b2 ∧ (l = [] ∨ Ap a2 b2)) := by
        obtain ⟨b1, k1, X1, b2, k2, Y1, h1, h2, h3, h4, h5, h6, h7, h8, h9⟩ := HI.out
        rw [show l.take j = l by rw [HNL.out.1]; exact List.take_length] at h5 h6
        exact ⟨b1, k1, X1, b2, k2, Y1, h1, h2, h3, h4, h5, h6, h7, h8, h9.imp_left fun h => List.eq_nil_of_length_eq_zero (by rw [← HNL.out.1]; exact h)⟩
      clear HI hlt hj
      go_wp2_with fail
      go_ret
      obtain ⟨b1, k1, X1, b2, k2, Y1, h1, h2, h3, h4, h5, h6, h7⟩ := HE.out
      exact ⟨rfl, b1, k1, X1, b2, k2, Y1, h1, h2, h3, h4, by rw [h5, HVU.out.1], by rw [h6, HVU.out.2], h7⟩
end
end Go.Proofs.YthmfneepnkgmgaaGreatDoor.Dec
/- The step of mending that clears what no coefficient has. By the verifier of shale. -/
namespace Go.Proofs.YthmfneepnkgmgaaGreatDoor.Dec
open Go Go.RowKit Bin Pl Cos Enc Syn Loc Sea
set_option linter.unusedVariables false
/-- the last byte without its highest bits. -/
theorem val_mask {Y : List (BitVec 8)} {D ov : Nat} (hl : Y.length = (D + 7) / 8) (ho : D % 8 = ov) (h0 : 0 < ov) : val (Y.set ((D + 7) / 8 - 1) (nth8 Y ((D + 7) / 8 - 1) &&& BitVec.ofNat 8 (2 ^ ov - 1))) = val Y % 2 ^ D := by
  apply Nat.eq_of_testBit_eq
  intro i
  rw [val_bit, Nat.testBit_mod_two_pow, val_bit]
  have hov : ov < 8 := by omega
  unfold nth8
  rw [List.getD_eq_getElem?_getD, List.getElem?_set]
  by_cases h1 : (D + 7) / 8 - 1 = i / 8
  · rw [if_pos h1, if_pos (by omega)]
    simp only [Option.getD_some]
    rw [← h1, BitVec.getLsbD_and]
    have e : (BitVec.ofNat 8 (2 ^ ov - 1)).getLsbD (i % 8) = decide (i < D) := by
      rw [BitVec.getLsbD_ofNat, Nat.testBit_two_pow_sub_one, Bool.eq_iff_iff]
      simp
      omega
    rw [e, Bool.and_comm]
  · rw [if_neg h1]
    by_cases h2 : i < D
    · rw [decide_eq_true h2, Bool.true_and, List.getD_eq_getElem?_getD]
    · rw [decide_eq_false h2, Bool.false_and, List.getElem?_eq_none (by omega)]
      simp
theorem val_whole {Y : List (BitVec 8)} {D : Nat} (hl : Y.length = (D + 7) / 8) (ho : D % 8 = 0) : val Y = val Y % 2 ^ D := by
  refine (Nat.mod_eq_of_lt ?_).symm
  have := val_lt Y
  rwa [hl, show 8 * ((D + 7) / 8) = D by omega] at this
theorem and_byte (x k : BitVec 8) : bits .and .u8 (Bits32.b x) (Bits32.b k) = Bits32.b (x &&& k) := by
  show IntKind.u8.wrap (Bits32.b (BitVec.ofInt 8 (Bits32.b x) &&& BitVec.ofInt 8 (Bits32.b k))) = _
  rw [Bits32.ofInt8, Bits32.ofInt8, Bits32.wrap8]
theorem Fresh.set {B : Nat} {w : World} {a : Option Addr} {n c g : Nat} {X : List (BitVec 8)} (h : Fresh B w a n c X) (e : a = some ⟨g, 0, none⟩) (i : Nat) (hi : i < n) (y : BitVec 8) : Fresh B (w.setCell ⟨g, i, none⟩ (.int .u8 (Bits32.b y))) a n c (X.set i y) := by
  obtain ⟨g', e', hg, hb⟩ := h.own
  rw [e] at e'
  cases e'
  exact ⟨by rw [List.length_set]; exact h.hlen, h.hcap, h.hmost, g, e, hg, hb.set i (by rw [← h.hlen]; exact hi) y⟩
section
variable {m : Nat} [M : Pl.Mid m]
set_option maxRecDepth 100000 in
set_option maxHeartbeats 2000000 in
theorem tidy_any {t n : Nat} {w0 w : World} {db s wb BB : Nat} {ym yz : Addr} (K : Base m t n w0 db s ym yz) (b : Below w0.heap.size w0 w) {a a' : Option Addr} {ca ca' : Nat} {Y : List (BitVec 8)} {sv lv qv : Value} (hW : wordAt w wb (.slice a n ca) (.slice a' (pb (deg m t)) ca') sv lv qv) (hY : Fresh BB w a' (pb (deg m t)) ca' Y) :
    Calls Tryz.prog 38 #[.pointer (some ⟨db, 0, none⟩), .pointer (some ⟨wb, 0, none⟩)] w fun e w' => e = .returned .nilIface ∧ ∃ Y1 g, a' = some ⟨g, 0, none⟩ ∧ Fresh BB w' a' (pb (deg m t)) ca' Y1 ∧ val Y1 = val Y % 2 ^ deg m t ∧ Tn [g] w w' [g] := by
  have K1 := K.below b
  have c0 := K1.dec.cell
  obtain ⟨_, d1, _, _, _, wf⟩ := hW.cells
  obtain ⟨g, rfl, hgB, hbuf⟩ := hY.own
  have hlen := hY.hlen
  have hD1 := deg_pos M.lo K.t1
  have hD5 := deg_560 (m := m) K.t40
  have hdg := Lib.hid (degree_code w s K1.code)
  obtain ⟨D, hD⟩ : ∃ D, D = deg m t := ⟨_, rfl⟩
  obtain ⟨P, hP⟩ : ∃ P, P = pb (deg m t) := ⟨_, rfl⟩
  have hPD : P = (D + 7) / 8 := by rw [hP, hD]; rfl
  rw [← hP] at hY hlen d1 ⊢
  rw [← hD] at hdg hD1 hD5 ⊢
  obtain ⟨ov, hov⟩ : ∃ ov, ov = D % 8 := ⟨_, rfl⟩
  have e1 : (D : Int) % 8 = (ov : Int) := by omega
  have hov8 : ov < 8 := by omega
  have HY := Lib.hid hY
  have HE := Lib.hid (And.intro hlen (And.intro hPD hov))
  have hP1 : 1 ≤ P := by omega
  have hP100 : P ≤ 100 := by omega
  clear hY hW K K1 b hP hD hgB
  by_cases h0 : ov = 0
  · subst h0
    clear hbuf hov hlen hPD
    go_enter Tryz.func38, Tryz.ntmps38
    go_wp2_with fail
    refine hdg.out.mono ?_
    rintro e w1 ⟨rfl, rfl⟩
    clear hdg
    go_wp2_with fail
    go_ret
    exact ⟨rfl, Y, g, rfl, HY.out, val_whole (by rw [← HE.out.1, HE.out.2.1]) HE.out.2.2.symm, Tn.refl _ _⟩
  · obtain ⟨Q, hQ⟩ : ∃ Q, Q = P - 1 := ⟨_, rfl⟩
    have eQ : (P : Int) - 1 = (Q : Int) := by omega
    have hQl : Q < Y.length := by omega
    have y0 : (0 : Int) ≤ (Q : Int) := by omega
    have y1 : (Q : Int) < (P : Int) := by omega
    have cb := hbuf.cell Q hQl
    have fb := hbuf.free Q
    have hne : (ov == 0) = false := by simp [h0]
    have hcases : ov = 1 ∨ ov = 2 ∨ ov = 3 ∨ ov = 4 ∨ ov = 5 ∨ ov = 6 ∨ ov = 7 := by omega
    have HZ : Hid (∀ k : BitVec 8, k = BitVec.ofNat 8 (2 ^ ov - 1) → ∀ nq, Fresh BB ((w.drewN nq).setCell ⟨g, Q, none⟩ (.int .u8 (Bits32.b (nth8 Y Q &&& k)))) (some ⟨g, 0, none⟩) P ca' (Y.set Q (nth8 Y Q &&& k)) ∧ val (Y.set Q (nth8 Y Q &&& k)) = val Y % 2 ^ D ∧ Tn [g] w ((w.drewN nq).setCell ⟨g, Q, none⟩ (.int .u8 (Bits32.b (nth8 Y Q &&& k)))) [g]) := by
      intro k hk nq
      refine ⟨(HY.out.below ((Drawn.mk w nq).below _)).set rfl Q (by omega) _, ?_, (Tn.below ((Drawn.mk w nq).below _)).trans (Tn.setCell _ _ _ (by simp))⟩
      rw [hk, show Q = (D + 7) / 8 - 1 by omega]
      exact val_mask (by rw [← hlen, hPD]) hov.symm (by omega)
    clear hbuf HE hPD hQ hov8
    generalize nth8 Y Q = x at cb HZ
    rcases hcases with rfl | rfl | rfl | rfl | rfl | rfl | rfl
    · have HZ2 := Lib.hid (HZ.out 1#8 (by decide))
      have ea : bits .and .u8 (Bits32.b x) 1 = Bits32.b (x &&& 1#8) := and_byte x 1#8
      clear HZ hov h0 hne hlen hQl
      generalize Bits32.b (x &&& 1#8) = zv at ea HZ2
      generalize Bits32.b x = xv at cb ea
      go_enter Tryz.func38, Tryz.ntmps38
      go_wp2_with fail
      refine hdg.out.mono ?_
      rintro e w1 ⟨rfl, rfl⟩
      clear hdg
      go_wp2_with fail
      refine wp_region_quiet_tail (C := fun w' => ∃ nn, w' = w.drewN nn) 16 (by kernel_rfl) (by kernel_rfl) ⟨1, rfl⟩ ?_
      simp only [List.take_succ_cons, List.take_zero, List.drop_succ_cons, List.drop_zero]
      repeat (go_big_quiet_step (fail))
      refine wpQuiet_nil ?_
      rintro _ ⟨nq, rfl⟩
      have HZ3 := Lib.hid (HZ2.out nq)
      have hv2 : (w.drewN nq).cell? ⟨g, Q, none⟩ = some (.int .u8 xv) := cb
      have fr2 : (w.drewN nq).frozen? ⟨g, Q, none⟩ = false := fb
      clear cb fb HZ2 d1 c0 wf HY
      generalize hww : w.drewN nq = w6 at HZ3 hv2 fr2 ⊢
      clear hww
      go_wp2_with fail
      go_ret
      exact ⟨rfl, _, g, rfl, HZ3.out⟩
    · have HZ2 := Lib.hid (HZ.out 3#8 (by decide))
      have ea : bits .and .u8 (Bits32.b x) 3 = Bits32.b (x &&& 3#8) := and_byte x 3#8
      clear HZ hov h0 hne hlen hQl
      generalize Bits32.b (x &&& 3#8) = zv at ea HZ2
      generalize Bits32.b x = xv at cb ea
      go_enter Tryz.func38, Tryz.ntmps38
      go_wp2_with fail
      refine hdg.out.mono ?_
      rintro e w1 ⟨rfl, rfl⟩
      clear hdg
      go_wp2_with fail
      refine wp_region_quiet_tail (C := fun w' => ∃ nn, w' = w.drewN nn) 16 (by kernel_rfl) (by kernel_rfl) ⟨1, rfl⟩ ?_
      simp only [List.take_succ_cons, List.take_zero, List.drop_succ_cons, List.drop_zero]
      repeat (go_big_quiet_step (fail))
      refine wpQuiet_nil ?_
      rintro _ ⟨nq, rfl⟩
      have HZ3 := Lib.hid (HZ2.out nq)
      have hv2 : (w.drewN nq).cell? ⟨g, Q, none⟩ = some (.int .u8 xv) := cb
      have fr2 : (w.drewN nq).frozen? ⟨g, Q, none⟩ = false := fb
      clear cb fb HZ2 d1 c0 wf HY
      generalize hww : w.drewN nq = w6 at HZ3 hv2 fr2 ⊢
      clear hww
      go_wp2_with fail
      go_ret
      exact ⟨rfl, _, g, rfl, HZ3.out⟩
    · have HZ2 := Lib.hid (HZ.out 7#8 (by decide))
      have ea : bits .and .u8 (Bits32.b x) 7 = Bits32.b (x &&& 7#8) := and_byte x 7#8
      clear HZ hov h0 hne hlen hQl
      generalize Bits32.b (x &&& 7#8) = zv at ea HZ2
      generalize Bits32.b x = xv at cb ea
      go_enter Tryz.func38, Tryz.ntmps38
      go_wp2_with fail
      refine hdg.out.mono ?_
      rintro e w1 ⟨rfl, rfl⟩
      clear hdg
      go_wp2_with fail
      refine wp_region_quiet_tail (C := fun w' => ∃ nn, w' = w.drewN nn) 16 (by kernel_rfl) (by kernel_rfl) ⟨1, rfl⟩ ?_
      simp only [List.take_succ_cons, List.take_zero, List.drop_succ_cons, List.drop_zero]
      repeat (go_big_quiet_step (fail))
      refine wpQuiet_nil ?_
      rintro _ ⟨nq, rfl⟩
      have HZ3 := Lib.hid (HZ2.out nq)
      have hv2 : (w.drewN nq).cell? ⟨g, Q, none⟩ = some (.int .u8 xv) := cb
      have fr2 : (w.drewN nq).frozen? ⟨g, Q, none⟩ = false := fb
      clear cb fb HZ2 d1 c0 wf HY
      generalize hww : w.drewN nq = w6 at HZ3 hv2 fr2 ⊢
      clear hww
      go_wp2_with fail
      go_ret
      exact ⟨rfl, _, g, rfl, HZ3.out⟩
    · have HZ2 := Lib.hid (HZ.out 15#8 (by decide))
      have ea : bits .and .u8 (Bits32.b x) 15 = Bits32.b (x &&& 15#8) := and_byte x 15#8
      clear HZ hov h0 hne hlen hQl
      generalize Bits32.b (x &&& 15#8) = zv at ea HZ2
      generalize Bits32.b x = xv at cb ea
      go_enter Tryz.func38, Tryz.ntmps38
      go_wp2_with fail
      refine hdg.out.mono ?_
      rintro e w1 ⟨rfl, rfl⟩
      clear hdg
      go_wp2_with fail
      refine wp_region_quiet_tail (C := fun w' => ∃ nn, w' = w.drewN nn) 16 (by kernel_rfl) (by kernel_rfl) ⟨1, rfl⟩ ?_
      simp only [List.take_succ_cons, List.take_zero, List.drop_succ_cons, List.drop_zero]
      repeat (go_big_quiet_step (fail))
      refine wpQuiet_nil ?_
      rintro _ ⟨nq, rfl⟩
      have HZ3 := Lib.hid (HZ2.out nq)
      have hv2 : (w.drewN nq).cell? ⟨g, Q, none⟩ = some (.int .u8 xv) := cb
      have fr2 : (w.drewN nq).frozen? ⟨g, Q, none⟩ = false := fb
      clear cb fb HZ2 d1 c0 wf HY
      generalize hww : w.drewN nq = w6 at HZ3 hv2 fr2 ⊢
      clear hww
      go_wp2_with fail
      go_ret
      exact ⟨rfl, _, g, rfl, HZ3.out⟩
    · have HZ2 := Lib.hid (HZ.out 31#8 (by decide))
      have ea : bits .and .u8 (Bits32.b x) 31 = Bits32.b (x &&& 31#8) := and_byte x 31#8
      clear HZ hov h0 hne hlen hQl
      generalize Bits32.b (x &&& 31#8) = zv at ea HZ2
      generalize Bits32.b x = xv at cb ea
      go_enter Tryz.func38, Tryz.ntmps38
      go_wp2_with fail
      refine hdg.out.mono ?_
      rintro e w1 ⟨rfl, rfl⟩
      clear hdg
      go_wp2_with fail
      refine wp_region_quiet_tail (C := fun w' => ∃ nn, w' = w.drewN nn) 16 (by kernel_rfl) (by kernel_rfl) ⟨1, rfl⟩ ?_
      simp only [List.take_succ_cons, List.take_zero, List.drop_succ_cons, List.drop_zero]
      repeat (go_big_quiet_step (fail))
      refine wpQuiet_nil ?_
      rintro _ ⟨nq, rfl⟩
      have HZ3 := Lib.hid (HZ2.out nq)
      have hv2 : (w.drewN nq).cell? ⟨g, Q, none⟩ = some (.int .u8 xv) := cb
      have fr2 : (w.drewN nq).frozen? ⟨g, Q, none⟩ = false := fb
      clear cb fb HZ2 d1 c0 wf HY
      generalize hww : w.drewN nq = w6 at HZ3 hv2 fr2 ⊢
      clear hww
      go_wp2_with fail
      go_ret
      exact ⟨rfl, _, g, rfl, HZ3.out⟩
    · have HZ2 := Lib.hid (HZ.out 63#8 (by decide))
      have ea : bits .and .u8 (Bits32.b x) 63 = Bits32.b (x &&& 63#8) := and_byte x 63#8
      clear HZ hov h0 hne hlen hQl
      generalize Bits32.b (x &&& 63#8) = zv at ea HZ2
      generalize Bits32.b x = xv at cb ea
      go_enter Tryz.func38, Tryz.ntmps38
      go_wp2_with fail
      refine hdg.out.mono ?_
      rintro e w1 ⟨rfl, rfl⟩
      clear hdg
      go_wp2_with fail
      refine wp_region_quiet_tail (C := fun w' => ∃ nn, w' = w.drewN nn) 16 (by kernel_rfl) (by kernel_rfl) ⟨1, rfl⟩ ?_
      simp only [List.take_succ_cons, List.take_zero, List.drop_succ_cons, List.drop_zero]
      repeat (go_big_quiet_step (fail))
      refine wpQuiet_nil ?_
      rintro _ ⟨nq, rfl⟩
      have HZ3 := Lib.hid (HZ2.out nq)
      have hv2 : (w.drewN nq).cell? ⟨g, Q, none⟩ = some (.int .u8 xv) := cb
      have fr2 : (w.drewN nq).frozen? ⟨g, Q, none⟩ = false := fb
      clear cb fb HZ2 d1 c0 wf HY
      generalize hww : w.drewN nq = w6 at HZ3 hv2 fr2 ⊢
      clear hww
      go_wp2_with fail
      go_ret
      exact ⟨rfl, _, g, rfl, HZ3.out⟩
    · have HZ2 := Lib.hid (HZ.out 127#8 (by decide))
      have ea : bits .and .u8 (Bits32.b x) 127 = Bits32.b (x &&& 127#8) := and_byte x 127#8
      clear HZ hov h0 hne hlen hQl
      generalize Bits32.b (x &&& 127#8) = zv at ea HZ2
      generalize Bits32.b x = xv at cb ea
      go_enter Tryz.func38, Tryz.ntmps38
      go_wp2_with fail
      refine hdg.out.mono ?_
      rintro e w1 ⟨rfl, rfl⟩
      clear hdg
      go_wp2_with fail
      refine wp_region_quiet_tail (C := fun w' => ∃ nn, w' = w.drewN nn) 16 (by kernel_rfl) (by kernel_rfl) ⟨1, rfl⟩ ?_
      simp only [List.take_succ_cons, List.take_zero, List.drop_succ_cons, List.drop_zero]
      repeat (go_big_quiet_step (fail))
      refine wpQuiet_nil ?_
      rintro _ ⟨nq, rfl⟩
      have HZ3 := Lib.hid (HZ2.out nq)
      have hv2 : (w.drewN nq).cell? ⟨g, Q, none⟩ = some (.int .u8 xv) := cb
      have fr2 : (w.drewN nq).frozen? ⟨g, Q, none⟩ = false := fb
      clear cb fb HZ2 d1 c0 wf HY
      generalize hww : w.drewN nq = w6 at HZ3 hv2 fr2 ⊢
      clear hww
      go_wp2_with fail
      go_ret
      exact ⟨rfl, _, g, rfl, HZ3.out⟩
end
end Go.Proofs.YthmfneepnkgmgaaGreatDoor.Dec
/- Mending. By the verifier of shale. -/
namespace Go.Proofs.YthmfneepnkgmgaaGreatDoor.Dec
open Go Go.RowKit Bin Pl Cos Enc Syn Loc Sea
set_option linter.unusedVariables false
theorem fresh_tn {B : Nat} {w w' : World} {a : Option Addr} {n c wb : Nat} {X : List (BitVec 8)} {d p s l q : Value} (h : Fresh B w a n c X) (hn : 0 < n) (hW : wordAt w wb d p s l q) (hd : ∀ k z, d ≠ .int k z) (t : Tn [wb] w w' [wb]) : Fresh B w' a n c X :=
  h.same fun g e hl => t.same g hl (by simpa using fresh_ne h hn hW hd g e)
/-- the list of the steps, in block b. -/
def stepsAt (w : World) (b db : Nat) : Prop := w.heap[b]? = some (.cells #[.func (.func 34) #[.pointer (some ⟨db, 0, none⟩)] #[], .func (.func 35) #[.pointer (some ⟨db, 0, none⟩)] #[], .func (.func 36) #[.pointer (some ⟨db, 0, none⟩)] #[], .func (.func 37) #[.pointer (some ⟨db, 0, none⟩)] #[], .func (.func 38) #[.pointer (some ⟨db, 0, none⟩)] #[]] 65 (0, 0))
theorem stepsAt.cells {w : World} {b db : Nat} (h : stepsAt w b db) :
    w.cell? ⟨b, 0, none⟩ = some (.func (.func 34) #[.pointer (some ⟨db, 0, none⟩)] #[]) ∧ w.cell? ⟨b, 1, none⟩ = some (.func (.func 35) #[.pointer (some ⟨db, 0, none⟩)] #[]) ∧ w.cell? ⟨b, 2, none⟩ = some (.func (.func 36) #[.pointer (some ⟨db, 0, none⟩)] #[]) ∧ w.cell? ⟨b, 3, none⟩ = some (.func (.func 37) #[.pointer (some ⟨db, 0, none⟩)] #[]) ∧ w.cell? ⟨b, 4, none⟩ = some (.func (.func 38) #[.pointer (some ⟨db, 0, none⟩)] #[]) := by
  have e : w.heap[b]? = _ := h
  refine ⟨?_, ?_, ?_, ?_, ?_⟩ <;> (unfold World.cell?; simp only; rw [e]; rfl)
/-- where a word stands on its way. -/
structure St (w W : World) (wb db n P : Nat) (d1 : Option Addr) (k1 : Nat) (X : List (BitVec 8)) (d2 : Option Addr) (k2 : Nat) (Y : List (BitVec 8)) (sv lv qv : Value) : Prop where
  word : wordAt W wb (.slice d1 n k1) (.slice d2 P k2) sv lv qv
  fX : Fresh w.heap.size W d1 n k1 X
  fY : Fresh w.heap.size W d2 P k2 Y
  bel : Below w.heap.size w W
  steps : stepsAt W (wb + 1) db
theorem St.next {w W W' : World} {wb db n P : Nat} {d1 : Option Addr} {k1 : Nat} {X : List (BitVec 8)} {d2 : Option Addr} {k2 : Nat} {Y : List (BitVec 8)} {sv lv qv sv' lv' qv' : Value} (h : St w W wb db n P d1 k1 X d2 k2 Y sv lv qv) (hw : wordAt W' wb (.slice d1 n k1) (.slice d2 P k2) sv' lv' qv') (t : Tn [wb] W W' [wb]) (hn : 0 < n) (hP : 0 < P) (hwb : w.heap.size ≤ wb) : St w W' wb db n P d1 k1 X d2 k2 Y sv' lv' qv' :=
  ⟨hw, fresh_tn h.fX hn h.word (by simp) t, fresh_tn h.fY hP h.word (by simp) t, tn_below h.bel t hwb, (t.same _ (lt_of_block h.steps) (by simp)).trans h.steps⟩
section
variable {m : Nat} [M : Pl.Mid m]
/-- what mending answers. -/
def DecPost (m t n : Nat) [M : Pl.Mid m] (ym : Addr) (vX vY : Nat) (r : Option (List Nat)) (w : World) (e : Ending) (w' : World) : Prop :=
  Below w.heap.size w w' ∧ match r with
  | none => e = .returned (.tuple #[.slice none 0 0, .slice none 0 0, .slice none 0 0, errOf ym])
  | some l => ∃ a1 c1 X1 a2 c2 Y1 a3 c3, e = .returned (.tuple #[.slice a1 n c1, .slice a2 (pb (deg m t)) c2, .slice a3 l.length c3, .nilIface]) ∧ NewP w w' a1 n c1 X1 ∧ NewP w w' a2 (pb (deg m t)) c2 Y1 ∧ RowZ w' a3 l.length c3 (intsN l) ∧ val X1 = vX ^^^ xs l >>> deg m t ∧ val Y1 = (vY ^^^ xs l % 2 ^ deg m t) % 2 ^ deg m t
set_option maxRecDepth 100000 in
set_option maxHeartbeats 4000000 in
theorem decode_any {t n : Nat} {w : World} {db s : Nat} {ym yz : Addr} (K : Base m t n w db s ym yz) {a a' : Option Addr} {ca ca' : Nat} {X Y : List (BitVec 8)} (hX : Pol w a n ca X) (hY : Pol w a' (pb (deg m t)) ca' Y) :
    Calls Tryz.prog 16 #[.pointer (some ⟨db, 0, none⟩), .slice a n ca, .slice a' (pb (deg m t)) ca'] w (DecPost m t n ym (val X) (val Y) (dec m t (8 * n + deg m t) (wd m t (val X) (val Y))) w) := by
  have hD1 := deg_pos M.lo K.t1
  have hD5 := deg_560 (m := m) K.t40
  have hn1 := K.n1
  have hn2 := K.n2048
  have hPd : pb (deg m t) = (deg m t + 7) / 8 := rfl
  have hP1 : 0 < pb (deg m t) := by omega
  have hP2 : pb (deg m t) ≤ 100 := by omega
  have HK := Lib.hid K
  have HX := Lib.hid hX
  have HY := Lib.hid hY
  clear K hX hY hPd
  go_enter Tryz.func16, Tryz.ntmps16
  go_wp2_with fail
  refine (clone_any _ _ _ _ _ HX.out (by omega)).mono ?_
  rintro e w1 ⟨d1, k1, rfl, N1, b1⟩
  have HF1 := Lib.hid (fresh_new N1 (by omega) (Nat.le_refl _))
  have HB1 := Lib.hid b1
  clear N1 b1
  go_wp2_with fail
  refine (clone_any _ _ _ _ _ (HY.out.below HB1.out) (by omega)).mono ?_
  rintro e w2 ⟨d2, k2, rfl, N2, b2⟩
  have HF2 := Lib.hid (fresh_new N2 hP1 HB1.out.size)
  have HF1O : Hid ((∃ g1, d1 = some ⟨g1, 0, none⟩ ∧ w.heap.size ≤ g1 ∧ g1 < w1.heap.size) ∧ (∃ g2, d2 = some ⟨g2, 0, none⟩ ∧ w1.heap.size ≤ g2 ∧ Buf8 w2 g2 Y)) := by
    obtain ⟨g1, h1, h2, h3⟩ := HF1.out.own
    exact ⟨⟨g1, h1, h2, h3.lt⟩, newP_block N2 hP1⟩
  have HF1' := Lib.hid (HF1.out.below b2)
  have HB2 := Lib.hid (HB1.out.trans (b2.mono HB1.out.size))
  clear N2 b2 HF1 HB1
  go_wp2_with fail
  obtain ⟨w3, hw3⟩ : ∃ w3, w3 = ((w2.alloc (.cells #[.slice d1 n k1, .slice d2 (pb (deg m t)) k2, .slice none 0 0, .slice none 0 0, .slice none 0 0] 64 (0, 0))).alloc (.cells #[.func (.func 34) #[.pointer (some ⟨db, 0, none⟩)] #[], .func (.func 35) #[.pointer (some ⟨db, 0, none⟩)] #[], .func (.func 36) #[.pointer (some ⟨db, 0, none⟩)] #[], .func (.func 37) #[.pointer (some ⟨db, 0, none⟩)] #[], .func (.func 38) #[.pointer (some ⟨db, 0, none⟩)] #[]] 65 (0, 0))) := ⟨_, rfl⟩
  obtain ⟨wb, hwbE⟩ : ∃ wb, wb = w2.heap.size := ⟨_, rfl⟩
  have hb3 : Below w2.heap.size w2 w3 := by rw [hw3]; exact ((Below.refl _ _).alloc (Nat.le_refl _) _).alloc (by simp) _
  have hW3 : wordAt w3 wb (.slice d1 n k1) (.slice d2 (pb (deg m t)) k2) (.slice none 0 0) (.slice none 0 0) (.slice none 0 0) := by
    rw [hw3, hwbE]; exact (Below.heap_alloc _ _ _ (by simp)).trans (heap_alloc_new w2 _)
  have hS3 : stepsAt w3 (wb + 1) db := by
    rw [hw3, hwbE]
    have h := heap_alloc_new (w2.alloc (.cells #[.slice d1 n k1, .slice d2 (pb (deg m t)) k2, .slice none 0 0, .slice none 0 0, .slice none 0 0] 64 (0, 0))) (.cells #[.func (.func 34) #[.pointer (some ⟨db, 0, none⟩)] #[], .func (.func 35) #[.pointer (some ⟨db, 0, none⟩)] #[], .func (.func 36) #[.pointer (some ⟨db, 0, none⟩)] #[], .func (.func 37) #[.pointer (some ⟨db, 0, none⟩)] #[], .func (.func 38) #[.pointer (some ⟨db, 0, none⟩)] #[]] 65 (0, 0))
    rw [World.size_alloc] at h
    exact h
  have hX3 := HF1'.out.below hb3
  have hY3 := HF2.out.below hb3
  have hB3 := HB2.out.trans (hb3.mono HB2.out.size)
  have hwb : w.heap.size ≤ wb := by rw [hwbE]; exact HB2.out.size
  rw [← hw3, ← hwbE]
  have HWB := Lib.hid hwb
  clear hw3 hwbE hb3 HF1' HF2 HB2 hwb
  have HP1 := Lib.hid hP1
  have HN1 := Lib.hid hn1
  have HAP : Hid (Ap d1 d2) := by
    intro x y hx hy
    obtain ⟨g1, e1, _, hb1⟩ := HF1O.out.1
    obtain ⟨g2, e2, hg2, _⟩ := HF1O.out.2
    rw [e1] at hx
    rw [e2] at hy
    cases hx
    cases hy
    show g1 ≠ g2
    omega
  have HQ3 := Lib.hid (show St w w3 wb db n (pb (deg m t)) d1 k1 X d2 k2 Y (.slice none 0 0) (.slice none 0 0) (.slice none 0 0) from ⟨hW3, hX3, hY3, hB3, hS3⟩)
  have HLook := Lib.hid (look_any HK.out hB3 HWB.out hW3 hX3.pol hY3.pol)
  have HP1 := Lib.hid hP1
  have HN1 := Lib.hid hn1
  have HAP : Hid (Ap d1 d2) := by
    intro x y hx hy
    obtain ⟨g1, e1, _, hb1⟩ := HF1O.out.1
    obtain ⟨g2, e2, hg2, _⟩ := HF1O.out.2
    rw [e1] at hx
    rw [e2] at hy
    cases hx
    cases hy
    show g1 ≠ g2
    omega
  have HQ3 := Lib.hid (show St w w3 wb db n (pb (deg m t)) d1 k1 X d2 k2 Y (.slice none 0 0) (.slice none 0 0) (.slice none 0 0) from ⟨hW3, hX3, hY3, hB3, hS3⟩)
  have HLook := Lib.hid (look_any HK.out hB3 HWB.out hW3 hX3.pol hY3.pol)
  have HP1 := Lib.hid hP1
  have HN1 := Lib.hid hn1
  have HAP : Hid (Ap d1 d2) := by
    intro x y hx hy
    obtain ⟨g1, e1, _, hb1⟩ := HF1O.out.1
    obtain ⟨g2, e2, hg2, _⟩ := HF1O.out.2
    rw [e1] at hx
    rw [e2] at hy
    cases hx
    cases hy
    show g1 ≠ g2
    omega
  have HQ3 := Lib.hid (show St w w3 wb db n (pb (deg m t)) d1 k1 X d2 k2 Y (.slice none 0 0) (.slice none 0 0) (.slice none 0 0) from ⟨hW3, hX3, hY3, hB3, hS3⟩)
  have HLook := Lib.hid (look_any HK.out hB3 HWB.out hW3 hX3.pol hY3.pol)
  obtain ⟨s0, s1, s2, s3, s4⟩ := hS3.cells
  clear hS3 hW3 hX3 hY3 hB3
  refine wp_loop_rounds 6 ?_
  rw [rounds_succ]
  go_wp2_with fail
  refine HLook.out.mono ?_
  rintro e w4 ⟨rfl, g, hW4, hB4, hg, hT4⟩
  have HQ4 := Lib.hid (HQ3.out.next hW4 hT4 HN1.out HP1.out HWB.out)
  have HB4 := Lib.hid hB4
  clear HLook hW4 hB4 hg hT4 s0 s1 s2 s3 s4
  obtain ⟨s0, s1, s2, s3, s4⟩ := HQ4.out.steps.cells
  go_wp2_with fail
  rw [rounds_succ]
  by_cases h0 : ∀ i, i < 2 * t → Sv m (wd m t (val X) (val Y)) i = 0
  · have HLo := Lib.hid (locate_zero HK.out HQ4.out.bel HQ4.out.word HB4.out h0)
    have hdec : dec m t (8 * n + deg m t) (wd m t (val X) (val Y)) = some [] := by unfold dec; rw [if_pos h0]
    have HD := Lib.hid hdec
    have HSe := Lib.hid (search_none (db := db) HQ4.out.word)
    clear h0 hdec
    go_wp2_with fail
    refine HLo.out.mono ?_
    rintro e w5 ⟨rfl, rfl⟩
    clear HLo
    go_wp2_with fail
    rw [rounds_succ]
    go_wp2_with fail
    refine HSe.out.mono ?_
    rintro e w5 ⟨rfl, rfl⟩
    clear HSe
    go_wp2_with fail
    clear s0 s1 s2 s3 s4
    obtain ⟨s0, s1, s2, s3, s4⟩ := HQ4.out.steps.cells
    have HTu := Lib.hid (turnS_any (l := ([] : List Nat)) (a2 := (none : Option Addr)) (c2 := 0) HK.out HQ4.out.bel HWB.out HQ4.out.bel.size HQ4.out.word (by simp) HQ4.out.fX HQ4.out.fY ⟨rfl, Nat.le_refl _, by decide, fun i hi => absurd hi (by simp)⟩ (fun p hp => by cases hp) HAP.out)
    rw [rounds_succ]
    go_wp2_with fail
    refine HTu.out.mono ?_
    rintro e w7 ⟨rfl, e1, j1, X1, e2, j2, Y1, hW7, hX7, hY7, hR7, v1, v2, T7, ap7, ap8⟩
    have b7 := tn_below HQ4.out.bel T7 HWB.out
    have hS7 : stepsAt w7 (wb + 1) db := (T7.same _ (lt_of_block HQ4.out.steps) (by simp)).trans HQ4.out.steps
    have HTi := Lib.hid (tidy_any HK.out b7 hW7 hY7)
    have H7 := Lib.hid (And.intro hW7 (And.intro hX7 (And.intro hY7 (And.intro hR7 (And.intro v1 (And.intro v2 (And.intro ap7 (And.intro ap8 b7))))))))
    clear HTu s0 s1 s2 s3 s4
    obtain ⟨s0, s1, s2, s3, s4⟩ := hS7.cells
    clear hW7 hX7 hY7 hR7 v1 v2 T7 ap7 ap8 b7 hS7
    go_wp2_with fail
    rw [rounds_succ]
    go_wp2_with fail
    refine HTi.out.mono ?_
    rintro e w8 ⟨rfl, Y2, g2, hg2, hY8, v3, T8⟩
    obtain ⟨hW7, hX7, hY7, hR7, v1, v2, ap7, ap8, b7⟩ := H7.out
    have hgw : wb ≠ g2 := fun e => fresh_ne hY7 HP1.out hW7 (by simp) g2 hg2 e.symm
    have hW8 : wordAt w8 wb (.slice e1 n j1) (.slice e2 (pb (deg m t)) j2) (.slice (some ⟨g, 0, none⟩) (2 * t) (2 * t)) (.slice none 0 0) (.slice (none : Option Addr) (([] : List Nat)).length 0) := (T8.same wb (lt_of_block hW7) (by simpa using hgw)).trans hW7
    have hX8 : Fresh w.heap.size w8 e1 n j1 X1 := hX7.same fun gx ex hl => T8.same gx hl (by simpa using ap7 _ _ ex hg2)
    have hR8 : RowZ w8 (none : Option Addr) (([] : List Nat)).length 0 (intsN (([] : List Nat))) := by
      refine ⟨hR7.hlen, hR7.hcap, hR7.hmost, fun i hi => ?_⟩
      obtain ⟨bb, off, ea, hc, hl⟩ := hR7.row i hi
      have hne : bb ≠ g2 := by
        exact absurd hi (by simp)
      refine ⟨bb, off, ea, ?_, Nat.lt_of_lt_of_le hl T8.size⟩
      unfold World.cell? at hc ⊢
      simp only at hc ⊢
      rw [T8.same bb hl (by simpa using hne)]
      exact hc
    have hb8 : Below w.heap.size w w8 := b7.trans { os := T8.os, tape := T8.tape, output := T8.output, size := T8.size, block := fun k hk => T8.same k (by have := b7.size; omega) (by
      obtain ⟨g', e', hg', _⟩ := hY7.own
      rw [hg2] at e'
      cases e'
      simp
      omega) }
    have HE : Hid (∀ W, Drawn w8 W → DecPost m t n ym (val X) (val Y) (dec m t (8 * n + deg m t) (wd m t (val X) (val Y))) w (.returned (.tuple #[.slice e1 n j1, .slice e2 (pb (deg m t)) j2, .slice (none : Option Addr) (([] : List Nat)).length 0, .nilIface])) W) := fun W dW => by
      have dB := dW.below w8.heap.size
      rw [HD.out]
      exact ⟨hb8.trans (dB.mono hb8.size), e1, j1, X1, e2, j2, Y2, (none : Option Addr), 0, rfl, (hX8.below dB).newP, (hY8.below dB).newP, hR8.below dB, v1, by rw [v3, v2]⟩
    obtain ⟨q0, q1, _, _, q4, _⟩ := hW8.cells
    clear HTi hW7 hX7 hY7 hR7 v1 v2 ap7 ap8 b7 hgw hW8 hX8 hR8 hb8 hY8 v3 T8 s0 s1 s2 s3 s4 hg2 H7
    go_wp2_with fail
    rw [rounds_succ]
    go_wp2_with fail
    go_quiet (fail)
    have HE2 := Lib.hid (HE.out _ (Drawn.mk w8 nq))
    clear HE q0 q1 q4
    go_wp2_with fail
    exact bodyPost_ret (v := .tuple #[.slice e1 n j1, .slice e2 (pb (deg m t)) j2, .slice (none : Option Addr) (([] : List Nat)).length 0, .nilIface]) (by simp [results, Tryz.results16, go_sem]) rfl HE2.out
  · have HLo := Lib.hid (locate_more HK.out HQ4.out.bel HQ4.out.word (by simp) HB4.out h0 _ rfl)
    have H0 := Lib.hid h0
    clear h0
    go_wp2_with fail
    refine HLo.out.mono ?_
    rintro e w5 (⟨hgd, rfl, a1, c1, hW5, N5, T5⟩ | ⟨hgd, rfl, T5⟩)
    · have hgd := of_decide_eq_true hgd
      obtain ⟨L, hL⟩ : ∃ L, L = (bm (Sv m (wd m t (val X) (val Y))) (2 * t)).L := ⟨_, rfl⟩
      rw [hgd.2, ← hL] at hW5 N5
      have HQ5 := Lib.hid (HQ4.out.next hW5 T5 HN1.out HP1.out HWB.out)
      have HSe := Lib.hid (search_more HK.out HQ5.out.bel HQ5.out.word (by simp) HWB.out N5 _ rfl)
      have HGd := Lib.hid (And.intro hgd hL)
      clear HLo hgd hL hW5 N5 T5 s0 s1 s2 s3 s4
      obtain ⟨s0, s1, s2, s3, s4⟩ := HQ5.out.steps.cells
      go_wp2_with fail
      rw [rounds_succ]
      go_wp2_with fail
      refine HSe.out.mono ?_
      rintro e w6 (⟨hgd2, rfl, a2, c2, hW6, R6, T6⟩ | ⟨hgd2, rfl, T6⟩)
      · have hgd2 := of_decide_eq_true hgd2
        have hdec : dec m t (8 * n + deg m t) (wd m t (val X) (val Y)) = some (hits (zAt (bm (Sv m (wd m t (val X) (val Y))) (2 * t)).c 100) (8 * n + deg m t)) := by
          unfold dec
          rw [if_neg H0.out, if_pos ⟨HGd.out.1.1, HGd.out.1.2, by rw [hgd2, HGd.out.2]⟩]
        have HQ6 := Lib.hid (HQ5.out.next hW6 T6 HN1.out HP1.out HWB.out)
        obtain ⟨H, hH⟩ : ∃ H, H = hits (zAt (bm (Sv m (wd m t (val X) (val Y))) (2 * t)).c 100) (8 * n + deg m t) := ⟨_, rfl⟩
        have hHl : ∀ p ∈ H, p < 8 * n + deg m t := fun p hp => by rw [hH] at hp; exact (hits_mem.1 hp).1
        rw [← hH] at hdec HQ6 R6
        have HD := Lib.hid hdec
        have HR6 := Lib.hid (And.intro R6 hHl)
        clear hdec hH hHl HSe hgd2 hW6 R6 T6 s0 s1 s2 s3 s4
        go_wp2_with fail
        obtain ⟨s0, s1, s2, s3, s4⟩ := HQ6.out.steps.cells
        have HTu := Lib.hid (turnS_any (l := H) (a2 := a2) (c2 := c2) HK.out HQ6.out.bel HWB.out HQ6.out.bel.size HQ6.out.word (by simp) HQ6.out.fX HQ6.out.fY HR6.out.1 HR6.out.2 HAP.out)
        rw [rounds_succ]
        go_wp2_with fail
        refine HTu.out.mono ?_
        rintro e w7 ⟨rfl, e1, j1, X1, e2, j2, Y1, hW7, hX7, hY7, hR7, v1, v2, T7, ap7, ap8⟩
        have b7 := tn_below HQ6.out.bel T7 HWB.out
        have hS7 : stepsAt w7 (wb + 1) db := (T7.same _ (lt_of_block HQ6.out.steps) (by simp)).trans HQ6.out.steps
        have HTi := Lib.hid (tidy_any HK.out b7 hW7 hY7)
        have H7 := Lib.hid (And.intro hW7 (And.intro hX7 (And.intro hY7 (And.intro hR7 (And.intro v1 (And.intro v2 (And.intro ap7 (And.intro ap8 b7))))))))
        clear HTu s0 s1 s2 s3 s4
        obtain ⟨s0, s1, s2, s3, s4⟩ := hS7.cells
        clear hW7 hX7 hY7 hR7 v1 v2 T7 ap7 ap8 b7 hS7
        go_wp2_with fail
        rw [rounds_succ]
        go_wp2_with fail
        refine HTi.out.mono ?_
        rintro e w8 ⟨rfl, Y2, g2, hg2, hY8, v3, T8⟩
        obtain ⟨hW7, hX7, hY7, hR7, v1, v2, ap7, ap8, b7⟩ := H7.out
        have hgw : wb ≠ g2 := fun e => fresh_ne hY7 HP1.out hW7 (by simp) g2 hg2 e.symm
        have hW8 : wordAt w8 wb (.slice e1 n j1) (.slice e2 (pb (deg m t)) j2) (.slice (some ⟨g, 0, none⟩) (2 * t) (2 * t)) (.slice a1 (L + 1) c1) (.slice a2 (H).length c2) := (T8.same wb (lt_of_block hW7) (by simpa using hgw)).trans hW7
        have hX8 : Fresh w.heap.size w8 e1 n j1 X1 := hX7.same fun gx ex hl => T8.same gx hl (by simpa using ap7 _ _ ex hg2)
        have hR8 : RowZ w8 a2 (H).length c2 (intsN (H)) := by
          refine ⟨hR7.hlen, hR7.hcap, hR7.hmost, fun i hi => ?_⟩
          obtain ⟨bb, off, ea, hc, hl⟩ := hR7.row i hi
          have hne : bb ≠ g2 := by
            exact ap8.elim (fun h => by rw [h] at hi; exact absurd hi (by simp)) (fun h => h _ _ ea hg2)
          refine ⟨bb, off, ea, ?_, Nat.lt_of_lt_of_le hl T8.size⟩
          unfold World.cell? at hc ⊢
          simp only at hc ⊢
          rw [T8.same bb hl (by simpa using hne)]
          exact hc
        have hb8 : Below w.heap.size w w8 := b7.trans { os := T8.os, tape := T8.tape, output := T8.output, size := T8.size, block := fun k hk => T8.same k (by have := b7.size; omega) (by
          obtain ⟨g', e', hg', _⟩ := hY7.own
          rw [hg2] at e'
          cases e'
          simp
          omega) }
        have HE : Hid (∀ W, Drawn w8 W → DecPost m t n ym (val X) (val Y) (dec m t (8 * n + deg m t) (wd m t (val X) (val Y))) w (.returned (.tuple #[.slice e1 n j1, .slice e2 (pb (deg m t)) j2, .slice a2 (H).length c2, .nilIface])) W) := fun W dW => by
          have dB := dW.below w8.heap.size
          rw [HD.out]
          exact ⟨hb8.trans (dB.mono hb8.size), e1, j1, X1, e2, j2, Y2, a2, c2, rfl, (hX8.below dB).newP, (hY8.below dB).newP, hR8.below dB, v1, by rw [v3, v2]⟩
        obtain ⟨q0, q1, _, _, q4, _⟩ := hW8.cells
        clear HTi hW7 hX7 hY7 hR7 v1 v2 ap7 ap8 b7 hgw hW8 hX8 hR8 hb8 hY8 v3 T8 s0 s1 s2 s3 s4 hg2 H7
        go_wp2_with fail
        rw [rounds_succ]
        go_wp2_with fail
        go_quiet (fail)
        have HE2 := Lib.hid (HE.out _ (Drawn.mk w8 nq))
        clear HE q0 q1 q4
        go_wp2_with fail
        exact bodyPost_ret (v := .tuple #[.slice e1 n j1, .slice e2 (pb (deg m t)) j2, .slice a2 (H).length c2, .nilIface]) (by simp [results, Tryz.results16, go_sem]) rfl HE2.out
      · have hgd2 := of_decide_eq_false hgd2
        have hb6 := tn_below HQ5.out.bel T6 HWB.out
        have HE : Hid (DecPost m t n ym (val X) (val Y) (dec m t (8 * n + deg m t) (wd m t (val X) (val Y))) w (.returned (.tuple #[.slice none 0 0, .slice none 0 0, .slice none 0 0, errOf ym])) w6) := by
          show DecPost _ _ _ _ _ _ _ _ _ _
          have hdec : dec m t (8 * n + deg m t) (wd m t (val X) (val Y)) = none := by
            unfold dec
            rw [if_neg H0.out, if_neg (fun h => hgd2 (by rw [h.2.2, HGd.out.2]))]
          rw [hdec]
          exact ⟨hb6, rfl⟩
        clear HSe hgd2 T6 hb6 s0 s1 s2 s3 s4
        go_wp2_with fail
        exact bodyPost_ret (v := .tuple #[.slice none 0 0, .slice none 0 0, .slice none 0 0, errOf ym]) (by simp [results, Tryz.results16, go_sem]) rfl HE.out
    · have hgd := of_decide_eq_false hgd
      have hb5 := tn_below HQ4.out.bel T5 HWB.out
      have HE : Hid (DecPost m t n ym (val X) (val Y) (dec m t (8 * n + deg m t) (wd m t (val X) (val Y))) w (.returned (.tuple #[.slice none 0 0, .slice none 0 0, .slice none 0 0, errOf ym])) w5) := by
        show DecPost _ _ _ _ _ _ _ _ _ _
        have hdec : dec m t (8 * n + deg m t) (wd m t (val X) (val Y)) = none := by
          unfold dec
          rw [if_neg H0.out, if_neg (fun h => hgd ⟨h.1, h.2.1⟩)]
        rw [hdec]
        exact ⟨hb5, rfl⟩
      clear HLo hgd T5 hb5 s0 s1 s2 s3 s4
      go_wp2_with fail
      exact bodyPost_ret (v := .tuple #[.slice none 0 0, .slice none 0 0, .slice none 0 0, errOf ym]) (by simp [results, Tryz.results16, go_sem]) rfl HE.out
end
end Go.Proofs.YthmfneepnkgmgaaGreatDoor.Dec
/- made: the decoder that a statement of chapter 10 makes of any numbers; fit. By the verifier of shale. -/
namespace Go.Proofs.YthmfneepnkgmgaaGreatDoor.Enc
open Go Go.RowKit Bin Cos Dec
set_option linter.unusedVariables false
set_option maxRecDepth 100000 in
theorem newD_any (s : Nat) (w : World) : Calls Tryz.prog 29 #[.pointer (some ⟨s, 0, none⟩)] w fun e w' => ∃ db, e = .returned (.pointer (some ⟨db, 0, none⟩)) ∧ decAt w' db s ∧ Below w.heap.size w w' ∧ w.heap.size ≤ db := by
  have h1 : Hid (decAt (w.alloc (.cells #[.pointer (some ⟨s, 0, none⟩)] 80 (0, 0))) w.heap.size s ∧ Below w.heap.size w (w.alloc (.cells #[.pointer (some ⟨s, 0, none⟩)] 80 (0, 0)))) := ⟨heap_alloc_new w _, (Below.refl _ _).alloc (Nat.le_refl _) _⟩
  go_enter Tryz.func29, Tryz.ntmps29
  go_wp2_with fail
  go_ret
  exact ⟨_, rfl, h1.out.1, h1.out.2, Nat.le_refl _⟩
theorem codeD_any {s db : Nat} {w : World} (h : decAt w db s) : Calls Tryz.prog 23 #[.pointer (some ⟨db, 0, none⟩)] w fun e w' => e = .returned (.pointer (some ⟨s, 0, none⟩)) ∧ w = w' := by
  have c0 := h.cell
  clear h
  go_enter Tryz.func23, Tryz.ntmps23
  go_wp2_with fail
  go_ret
  exact ⟨rfl, rfl⟩
/-- what made answers. -/
def BothD (w : World) (e : Ending) (w' : World) : Prop :=
  ∃ (m t n : Nat) (M : Pl.Mid m) (s db : Nat) (ga : Option Addr) (gn gc : Nat), 5 ≤ m ∧ m ≤ 8 ∧ t ≤ 5 ∧ n ≤ 12 ∧ May m t n ∧ e = .returned (.tuple #[.pointer (some ⟨db, 0, none⟩), cdV m t n ga gn gc (deg m t), .bool true]) ∧
    decAt w' db s ∧ CodeAt m t n w' s ∧ BarV w' ga gn gc (gen m t) ∧ Below w.heap.size w w'
/-- the numbers that a statement makes of any. -/
def mkMD (z : Int) : Nat := (z % 4).toNat + 5
def mkTD (z : Int) : Nat := (z % 5).toNat + 1
def mkND (z : Int) : Nat := (z % 12).toNat + 1
instance (z : Int) : Pl.Mid (mkMD z) := ⟨by unfold mkMD; omega, by unfold mkMD; omega⟩
instance midD : Pl.Mid 7 := ⟨by decide, by decide⟩
theorem mayD : May 7 3 5 := ⟨by decide, by decide, by decide, by decide, by decide +kernel, by decide +kernel⟩
theorem mkMD_go (z : Int) : z.tmod 4 % 4 + 5 = (mkMD z : Int) := by
  unfold mkMD
  have : z.tmod 4 % 4 = z % 4 := by rw [Int.tmod_eq_emod]; split <;> omega
  omega
theorem mkTD_go (z : Int) : z.tmod 5 % 5 + 1 = (mkTD z : Int) := by
  unfold mkTD
  have : z.tmod 5 % 5 = z % 5 := by rw [Int.tmod_eq_emod]; split <;> omega
  omega
theorem mkND_go (z : Int) : z.tmod 12 % 12 + 1 = (mkND z : Int) := by
  unfold mkND
  have : z.tmod 12 % 12 = z % 12 := by rw [Int.tmod_eq_emod]; split <;> omega
  omega
set_option maxRecDepth 100000 in
set_option maxHeartbeats 2000000 in
theorem madeD_any (z1 z2 z3 : Int) (w : World) (y : Addr) (E : ErrAt w 3 y) :
    Calls Tryz.prog 11 #[.int .i64 z1, .int .i64 z2, .int .i64 z3] w (BothD w) := by
  obtain ⟨a1, a2⟩ := (show -4 < z1.tmod 4 ∧ z1.tmod 4 < 4 from tmod_bounds z1 4 (by decide))
  obtain ⟨a3, a4⟩ := (show -5 < z2.tmod 5 ∧ z2.tmod 5 < 5 from tmod_bounds z2 5 (by decide))
  obtain ⟨a5, a6⟩ := (show -12 < z3.tmod 12 ∧ z3.tmod 12 < 12 from tmod_bounds z3 12 (by decide))
  have HE0 := Lib.hid E
  have HQ1 := Lib.hid (mkMD_go z1)
  have HQ2 := Lib.hid (mkTD_go z2)
  have HQ3 := Lib.hid (mkND_go z3)
  have l1 : 5 ≤ mkMD z1 ∧ mkMD z1 ≤ 8 := by unfold mkMD; omega
  have l2 : 1 ≤ mkTD z2 ∧ mkTD z2 ≤ 5 := by unfold mkTD; omega
  have l3 : 1 ≤ mkND z3 ∧ mkND z3 ≤ 12 := by unfold mkND; omega
  have HL := Lib.hid (And.intro l1 (And.intro l2 l3))
  have HM := Lib.hid (may_or (mkMD z1) (mkTD z2) (mkND z3) (by omega) (by omega) (by omega) (by omega))
  clear l1 l2 l3
  go_enter Tryz.func11, Tryz.ntmps11
  go_wp2_with fail
  rw [HQ1.out, HQ2.out, HQ3.out]
  have b0 : Below w.heap.size w (w.alloc cd0) := (Below.refl _ _).alloc (Nat.le_refl _) _
  have hz : (w.alloc cd0).heap.size = w.heap.size + 1 := by simp
  have hblk : (w.alloc cd0).heap[w.heap.size]? = some cd0 := heap_alloc_new w _
  rw [show Obj.cells #[Value.int IntKind.i64 0, Value.int IntKind.i64 0, Value.int IntKind.i64 0, Value.slice none 0 0, Value.int IntKind.i64 0] 26 (0, 0) = cd0 from rfl]
  generalize w.alloc cd0 = w0 at b0 hz hblk ⊢
  obtain ⟨bx, hbx⟩ : ∃ bx, bx = w.heap.size := ⟨_, rfl⟩
  rw [← hbx] at b0 hz hblk ⊢
  have HBX := Lib.hid hbx
  clear hbx a1 a2 a3 a4 a5 a6 HQ1 HQ2 HQ3
  obtain ⟨M, hM⟩ : ∃ M, M = mkMD z1 := ⟨_, rfl⟩
  have HMid : Hid (Pl.Mid M) := by show Pl.Mid M; rw [hM]; exact inferInstance
  rw [← hM] at HL HM ⊢
  generalize mkTD z2 = T at HL HM ⊢
  generalize mkND z3 = N at HL HM ⊢
  clear hM
  have HI := Lib.hid (And.intro b0 (And.intro hblk (E.below (by rw [← HBX.out]; exact b0))))
  clear b0 hblk E
  rcases HM.out with H | H
  · haveI := HMid.out
    refine (rnew_any (m := M) H w0).mono ?_
    rintro e w1 ⟨ga, gn, gc, rfl, hG, b1⟩
    go_wp2_with fail
    obtain ⟨b0, hblk, E⟩ := HI.out
    have e9 : w.heap.size = bx := HBX.out.symm
    have bA : Below w1.heap.size w1 (w1.alloc (cdO (.int .i64 (M : Int)) (.int .i64 (T : Int)) (.int .i64 (N : Int)) (.slice ga gn gc) (.int .i64 (deg M T : Int)))) := (Below.refl _ _).alloc (Nat.le_refl _) _
    have hq : (w1.alloc (cdO (.int .i64 (M : Int)) (.int .i64 (T : Int)) (.int .i64 (N : Int)) (.slice ga gn gc) (.int .i64 (deg M T : Int)))).heap[w1.heap.size]? = some (cdO (.int .i64 (M : Int)) (.int .i64 (T : Int)) (.int .i64 (N : Int)) (.slice ga gn gc) (.int .i64 (deg M T : Int))) := heap_alloc_new w1 _
    have hq2 : w1.heap.size < (w1.alloc (cdO (.int .i64 (M : Int)) (.int .i64 (T : Int)) (.int .i64 (N : Int)) (.slice ga gn gc) (.int .i64 (deg M T : Int)))).heap.size := by simp
    rw [show Obj.cells #[Value.int IntKind.i64 (M : Int), Value.int IntKind.i64 (T : Int), Value.int IntKind.i64 (N : Int), Value.slice ga gn gc, Value.int IntKind.i64 (deg M T : Int)] 26 (0, 0) = cdO (.int .i64 (M : Int)) (.int .i64 (T : Int)) (.int .i64 (N : Int)) (.slice ga gn gc) (.int .i64 (deg M T : Int)) from rfl]
    generalize w1.alloc (cdO (.int .i64 (M : Int)) (.int .i64 (T : Int)) (.int .i64 (N : Int)) (.slice ga gn gc) (.int .i64 (deg M T : Int))) = w2 at bA hq hq2 ⊢
    have hbs1 := b1.size
    have E2 := (E.below b1).below bA
    have hG2 := (newV_bar hG).below bA
    have hb2 := (bA.block bx (by omega)).trans ((b1.block bx (by omega)).trans hblk)
    have B2 : Below bx w w2 := (b0.trans (b1.mono (by omega))).trans (bA.mono (by omega))
    clear b0 hblk E b1 bA hG HI
    obtain ⟨bq, hbq⟩ : ∃ bq, bq = w1.heap.size := ⟨_, rfl⟩
    rw [← hbq] at hq hq2 hbs1 ⊢
    have hbxq : bx < bq := by omega
    clear hbq hbs1 hz
    refine (new_any (m := M) H w2 y E2).mono ?_
    rintro e w3 ⟨s, rfl, hC, b3, hs⟩
    have hq3 := (b3.block bq hq2).trans hq
    have hb3 := (b3.block bx (by omega)).trans hb2
    have hG3 := hG2.below b3
    have B3 := B2.trans (b3.mono (by omega))
    have HP := Lib.hid (And.intro hC (And.intro hG3 (And.intro B3 (And.intro hq3 hb3))))
    obtain ⟨m0, m1, m2, m3, m4, mf⟩ := cd_cells hq3
    clear hC hG3 B3 hq3 hb3 mf
    go_wp2_with fail
    refine (newD_any s w3).mono ?_
    rintro e w5 ⟨db, rfl, hdA, b9, hdl⟩
    have hC := HP.out.1.below b9
    have hG3 := HP.out.2.1.below b9
    have hbl := lt_of_block HP.out.2.2.2.2
    have B3 := HP.out.2.2.1.trans (b9.mono (by omega))
    have hq3 := (b9.block bq (lt_of_block HP.out.2.2.2.1)).trans HP.out.2.2.2.1
    have hb3 := (b9.block bx hbl).trans HP.out.2.2.2.2
    have HDA := Lib.hid (And.intro hdA (show db ≠ bx by omega))
    clear m0 m1 m2 m3 m4 HP b9 hdA hbl hdl
    obtain ⟨c0, c1, c2, c3, c4, cf⟩ := cd_cells hq3
    obtain ⟨k0, k1, k2, k3, k4, kf⟩ := cd_cells hb3
    have HE := Lib.hid (And.intro hC (And.intro hG3 (And.intro B3 hs)))
    have HB3 := Lib.hid hb3
    clear hC hG3 B3 b3 hq hb2 hG2 B2 hq3 hb3 E2 cf
    go_wp2_with fail
    go_region
    go_wp2_with fail
    obtain ⟨hC, hG3, B3, hs3⟩ := HE.out
    have hb3 := HB3.out
    have o5 := onlyCd w5 bx (.int .i64 (M : Int)) (.int .i64 (T : Int)) (.int .i64 (N : Int)) (.slice ga gn gc) (.int .i64 (deg M T : Int))
    obtain ⟨X, hX, hX2⟩ := hG3
    obtain ⟨⟨l1, l2⟩, ⟨l3, l4⟩, l5, l6⟩ := HL.out
    exact bodyPost_ret (v := .tuple #[.pointer (some ⟨db, 0, none⟩), cdV M T N ga gn gc (deg M T), .bool true]) (by simp [results, Tryz.results11, go_sem, k0, k1, k2, k3, k4]) rfl ⟨M, T, N, HMid.out, s, db, ga, gn, gc, l1, l2, l4, l6, H, rfl, (o5.drew.block db HDA.out.2).trans HDA.out.1, hC.cd o5.drew hb3, ⟨X, pol_cd hX o5.drew hb3, hX2⟩, by rw [e9]; exact (B3.trans (o5.below (Nat.le_refl _))).drew⟩
  · haveI := HMid.out
    refine (rnew_no (m := M) H w0).mono ?_
    rintro e wq ⟨rfl, bq⟩
    go_wp2_with fail
    obtain ⟨b0, hblk, E⟩ := HI.out
    have hqs := bq.size
    have bA0 : Below wq.heap.size wq (wq.alloc cd0) := (Below.refl _ _).alloc (Nat.le_refl _) _
    have hqn : (wq.alloc cd0).heap[wq.heap.size]? = some cd0 := heap_alloc_new wq _
    have hqz : (wq.alloc cd0).heap.size = wq.heap.size + 1 := by simp
    rw [show Obj.cells #[Value.int IntKind.i64 0, Value.int IntKind.i64 0, Value.int IntKind.i64 0, Value.slice none 0 0, Value.int IntKind.i64 0] 26 (0, 0) = cd0 from rfl]
    generalize wq.alloc cd0 = wr at bA0 hqn hqz ⊢
    have E0 := (E.below bq).below bA0
    have hblk0 := (bA0.block bx (by omega)).trans ((bq.block bx (by omega)).trans hblk)
    have b00 : Below bx w wr := (b0.trans (bq.mono (by omega))).trans (bA0.mono (by omega))
    obtain ⟨bz', hbz⟩ : ∃ bz', bz' = wq.heap.size := ⟨_, rfl⟩
    rw [← hbz] at hqn hqz ⊢
    have hbxz : bx < bz' := by omega
    clear HI b0 hblk E bq bA0 hbz hqs hz
    have HI := Lib.hid (And.intro b00 (And.intro hblk0 (And.intro E0 hqn)))
    clear b00 hblk0 E0 hqn
    refine (rnew_any (m := 7) mayD wr).mono ?_
    rintro e w2 ⟨ga, gn, gc, rfl, hG, b1⟩
    obtain ⟨b0, hblk, E, hqn⟩ := HI.out
    have hq := (b1.block bz' (by omega)).trans hqn
    obtain ⟨u0, u1, u2, u3, u4, uf⟩ := cd_cells hq
    have hs2 := b1.size
    clear hqn
    have HI2 := Lib.hid (And.intro b0 (And.intro hblk (And.intro E (And.intro hG (And.intro b1 hq)))))
    clear b0 hblk E hG b1 hq HI
    go_wp2_with fail
    obtain ⟨b0, hblk, E, hG, b1, hq⟩ := HI2.out
    have e9 : w.heap.size = bx := HBX.out.symm
    have o2 := onlyCd w2 bz' (.int .i64 7) (.int .i64 3) (.int .i64 5) (.slice ga gn gc) (.int .i64 (deg 7 3 : Int))
    have hq2 := setCd hq (.int .i64 7) (.int .i64 3) (.int .i64 5) (.slice ga gn gc) (.int .i64 (deg 7 3 : Int))
    clear u0 u1 u2 u3 u4 uf HI2
    generalize ((((w2.setCell ⟨bz', 0, none⟩ (.int .i64 7)).setCell ⟨bz', 1, none⟩ (.int .i64 3)).setCell ⟨bz', 2, none⟩ (.int .i64 5)).setCell ⟨bz', 3, none⟩ (.slice ga gn gc)).setCell ⟨bz', 4, none⟩ (.int .i64 (deg 7 3 : Int)) = w3 at o2 hq2 ⊢
    have bo := o2.below (B := bz') (Nat.le_refl _)
    have b03 : Below bx w w3 := (b0.trans (b1.mono (by omega))).trans (bo.mono (by omega))
    have E3 := HE0.out.below (by rw [e9]; exact b03)
    have hG3 : BarV w3 ga gn gc (gen 7 3) := newV_bar (newV_only hG o2 (by omega))
    have hb3 := (bo.block bx (by omega)).trans ((b1.block bx (by omega)).trans hblk)
    have hq3 : bz' < w3.heap.size := lt_of_block hq2
    clear b0 hblk E hG b1 hq o2 bo
    refine (new_any (m := 7) mayD w3 y E3).mono ?_
    rintro e w4 ⟨s, rfl, hC, b4, hs⟩
    have hq4 := (b4.block bz' hq3).trans hq2
    have hb4 := (b4.block bx (by omega)).trans hb3
    have hG4 := hG3.below b4
    have B4 := b03.trans (b4.mono (by omega))
    have HP := Lib.hid (And.intro hC (And.intro hG4 (And.intro B4 (And.intro hq4 hb4))))
    obtain ⟨m0, m1, m2, m3, m4, mf⟩ := cd_cells hq4
    clear hC hG4 B4 hq4 hb4 mf
    go_wp2_with fail
    refine (newD_any s w4).mono ?_
    rintro e w5 ⟨db, rfl, hdA, b9, hdl⟩
    have hC := HP.out.1.below b9
    have hG4 := HP.out.2.1.below b9
    have hbl := lt_of_block HP.out.2.2.2.2
    have B4 := HP.out.2.2.1.trans (b9.mono (by omega))
    have hq4 := (b9.block bz' (lt_of_block HP.out.2.2.2.1)).trans HP.out.2.2.2.1
    have hb4 := (b9.block bx hbl).trans HP.out.2.2.2.2
    have HDA := Lib.hid (And.intro hdA (show db ≠ bx by omega))
    clear m0 m1 m2 m3 m4 HP b9 hdA hbl hdl
    obtain ⟨c0, c1, c2, c3, c4, cf⟩ := cd_cells hq4
    obtain ⟨k0, k1, k2, k3, k4, kf⟩ := cd_cells hb4
    have HE := Lib.hid (And.intro hC (And.intro hG4 (And.intro B4 hs)))
    have HB3 := Lib.hid hb4
    clear hC hG4 B4 b4 hb3 hG3 b03 hq4 hb4 E3 cf hq2 hq3 hs2 hqz
    go_wp2_with fail
    go_region
    go_wp2_with fail
    obtain ⟨hC, hG3, B3, hs3⟩ := HE.out
    have hb3 := HB3.out
    have o5 := onlyCd w5 bx (.int .i64 7) (.int .i64 3) (.int .i64 5) (.slice ga gn gc) (.int .i64 (deg 7 3 : Int))
    obtain ⟨X, hX, hX2⟩ := hG3
    exact bodyPost_ret (v := .tuple #[.pointer (some ⟨db, 0, none⟩), cdV 7 3 5 ga gn gc (deg 7 3), .bool true]) (by simp [results, Tryz.results11, go_sem, k0, k1, k2, k3, k4]) rfl ⟨7, 3, 5, midD, s, db, ga, gn, gc, by decide, by decide, by decide, by decide, mayD, rfl, (o5.drew.block db HDA.out.2).trans HDA.out.1, hC.cd o5.drew hb3, ⟨X, pol_cd hX o5.drew hb3, hX2⟩, by rw [e9]; exact (B3.trans (o5.below (Nat.le_refl _))).drew⟩
set_option maxRecDepth 100000 in
set_option maxHeartbeats 1000000 in
theorem fitD_any (a : Option Addr) (nb cap : Nat) (b : List (BitVec 8)) (n : Nat) (hn : n ≤ 100000) (w : World) (hP : Pol w a nb cap b) :
    Calls Tryz.prog 12 #[.slice a nb cap, .int .i64 (n : Int)] w fun e w' => e = .returned (.slice (some ⟨w.heap.size, 0, none⟩) n n) ∧ Blk8 w' w.heap.size (fitL b n) ∧ Below w.heap.size w w' := by
  have hmk := made8 w n (by omega)
  have HB0 : Hid (Below w.heap.size w (w.alloc (obj8 (List.replicate n 0)))) := (Below.refl _ _).alloc (Nat.le_refl _) _
  have HCB : Hid ((w.alloc (obj8 (List.replicate n 0))).heap[w.heap.size]? = some (.cells (List.replicate n (Value.int .u8 0)).toArray 5 (0, 0))) := by
    show _ = _
    rw [heap_alloc_new]; unfold obj8; simp [Bits32.b]
  have HT : Hid (Pol w a (min nb n) cap (b.take n)) := by
    have h := hP.take (min nb n) (Nat.min_le_left _ _)
    have e : b.take (min nb n) = b.take n := by
      have := hP.hlen
      by_cases h1 : nb ≤ n
      · rw [Nat.min_eq_left h1, List.take_of_length_le (by omega), List.take_of_length_le (by omega)]
      · rw [Nat.min_eq_right (by omega)]
    rw [e] at h; exact h
  clear hP
  go_enter Tryz.func12, Tryz.ntmps12
  have hc1 : (cells8 (b.take n)).length = Nat.min nb n := by rw [cells8_length, ← HT.out.hlen]
  have hc2 : 0 + (cells8 (b.take n)).length ≤ (List.replicate n (Value.int .u8 0)).length := by rw [cells8_length, List.length_replicate, ← HT.out.hlen]; omega
  have hc3 : 0 < (cells8 (b.take n)).length → (some ⟨w.heap.size, 0, none⟩ : Option Addr) = some ⟨w.heap.size, 0, none⟩ ∧ ∃ ad, a = some ad ∧ ∀ j v, (cells8 (b.take n))[j]? = some v → (w.alloc (obj8 (List.replicate n 0))).cell? (ad.add j) = some v := fun h0 => ⟨rfl, arg_src HT.out _ HB0.out h0⟩
  have HC := Lib.hid (And.intro hc1 (And.intro hc2 hc3))
  clear hc1 hc2 hc3
  go_wp2_with ((with_reducible show wpList _ _ _ _ _ _); refine wpList_copy_splice (o := ⟨some 10, _, _, _, _, _⟩) rfl (.tmp 8) (.tmp 9) 22 22 rfl 5 Tryz.underlying22 size8 (some ⟨w.heap.size, 0, none⟩) a n n nb cap rfl rfl w.heap.size 0 (List.replicate n (.int .u8 0)) 5 HCB.out (cells8 (b.take n)) HC.out.1 HC.out.2.2 HC.out.2.1 (cells8_one _) w.heap.size w HB0.out (Nat.le_refl _) ?_; intro w2 hw2 hb2)
  have hX0 : Blk8 w2 w.heap.size (fitL b n) := by
    have := hw2.out
    rw [splice_fit] at this
    exact this
  have HX := Lib.hid hX0
  clear hw2 hmk hX0
  go_wp2_with fail
  go_ret
  exact ⟨rfl, HX.out, hb2⟩
end Go.Proofs.YthmfneepnkgmgaaGreatDoor.Enc
/- A word near a right one is mended to it: for the walks of chapter 10. By the verifier of shale. -/
namespace Go.Proofs.YthmfneepnkgmgaaGreatDoor.Dec
open Go Go.RowKit Bin Pl Cos Enc Syn Loc Sea
set_option linter.unusedVariables false
theorem rowz_n {w : World} {a : Option Addr} {n c : Nat} {l : List Nat} (h : Pl.RowZ w a n c (intsN l)) : RowN w a n l := by
  have hl : n = l.length := by rw [h.hlen]; unfold intsN; rw [List.length_map]
  refine ⟨hl, fun i hi => ?_⟩
  obtain ⟨bb, off, e, hc, hb⟩ := h.row i hi
  refine ⟨bb, off, e, ?_, hb⟩
  rw [hc]
  congr 2
  unfold intsN
  rw [List.getD_eq_getElem?_getD, List.getD_eq_getElem?_getD, List.getElem?_map]
  cases l[i]? <;> rfl
section
variable {m : Nat} [M : Pl.Mid m]
/-- the parity of a word. -/
abbrev par (m t X : Nat) [M : Pl.Mid m] : Nat := prt (gen m t) (deg m t) X
theorem par_lt (t X : Nat) : par m t X < 2 ^ deg m t := prt_lt (gen_deg (m := m) t) X
theorem Sv_right (t X i : Nat) (hi : i < 2 * t) : Sv m (wrd (deg m t) X (par m t X)) i = 0 :=
  dvd_root (wrd_dvd (gen_deg (m := m) t) X) (gen_root (m := m) (t := t) (by omega) (by omega))
theorem dec_near {t N X e : Nat} (hN : N ≤ Fld.size m) (ht : t ≤ 40) (he : e < 2 ^ N) (hp : pop e N ≤ t) : dec m t N (wrd (deg m t) X (par m t X) ^^^ e) = some (plc e N) :=
  dec_find hN ht he hp fun i hi => by rw [Sv_xor, Sv_right t X i hi, Pl.zero_add]
theorem shr_wrd {D X Y : Nat} (h : Y < 2 ^ D) : wrd D X Y >>> D = X := by
  apply Nat.eq_of_testBit_eq
  intro i
  rw [Nat.testBit_shiftRight, wrd_bit h, if_neg (by omega), Nat.add_sub_cancel_left]
theorem mod_wrd {D X Y : Nat} (h : Y < 2 ^ D) : wrd D X Y % 2 ^ D = Y := by
  apply Nat.eq_of_testBit_eq
  intro i
  rw [Nat.testBit_mod_two_pow, wrd_bit h]
  by_cases hi : i < D
  · rw [if_pos hi]; simp [hi]
  · rw [if_neg hi, Nat.testBit_lt_two_pow (Nat.lt_of_lt_of_le h (Nat.pow_le_pow_right (by decide) (by omega)))]; simp [hi]
/-- what mending answers of a word that is e away from a right one. -/
def NearPost (m t n : Nat) [M : Pl.Mid m] (V e : Nat) (w : World) (en : Ending) (w' : World) : Prop :=
  Below w.heap.size w w' ∧ ∃ a1 c1 X1 a2 c2 Y1 a3 c3, en = .returned (.tuple #[.slice a1 n c1, .slice a2 (pb (deg m t)) c2, .slice a3 (pop e (8 * n + deg m t)) c3, .nilIface]) ∧ NewP w w' a1 n c1 X1 ∧ NewP w w' a2 (pb (deg m t)) c2 Y1 ∧ RowN w' a3 (pop e (8 * n + deg m t)) (plc e (8 * n + deg m t)) ∧ val X1 = V ∧ val Y1 = par m t V
theorem near_any {t n : Nat} {w : World} {db s : Nat} {ym yz : Addr} (K : Base m t n w db s ym yz) {a a' : Option Addr} {ca ca' : Nat} {X Y : List (BitVec 8)} (hX : Pol w a n ca X) (hY : Pol w a' (pb (deg m t)) ca' Y) {V e : Nat} (he : e < 2 ^ (8 * n + deg m t)) (hp : pop e (8 * n + deg m t) ≤ t) (hw : wd m t (val X) (val Y) = wrd (deg m t) V (par m t V) ^^^ e) :
    Calls Tryz.prog 16 #[.pointer (some ⟨db, 0, none⟩), .slice a n ca, .slice a' (pb (deg m t)) ca'] w (NearPost m t n V e w) := by
  refine (decode_any K hX hY).mono ?_
  rintro en w' ⟨b, h⟩
  rw [hw, dec_near K.room K.t40 he hp] at h
  obtain ⟨a1, c1, X1, a2, c2, Y1, a3, c3, rfl, N1, N2, R, h1, h2⟩ := h
  have hm : val Y % 2 ^ deg m t < 2 ^ deg m t := Nat.mod_lt _ (Nat.two_pow_pos _)
  have hx : xs (plc e (8 * n + deg m t)) = e := by rw [xs_plc, Nat.mod_eq_of_lt he]
  have q1 : val X = V ^^^ e >>> deg m t := by
    have := congrArg (· >>> deg m t) hw
    unfold wd at this
    try simp only at this
    rw [shr_wrd hm, Nat.shiftRight_xor_distrib, shr_wrd (par_lt t V)] at this
    exact this
  have q2 : val Y % 2 ^ deg m t = par m t V ^^^ e % 2 ^ deg m t := by
    have := congrArg (· % 2 ^ deg m t) hw
    unfold wd at this
    try simp only at this
    rw [mod_wrd hm, Nat.xor_mod_two_pow, mod_wrd (par_lt t V)] at this
    exact this
  refine ⟨b, a1, c1, X1, a2, c2, Y1, a3, c3, rfl, N1, N2, rowz_n R, ?_, ?_⟩
  · rw [h1, hx, q1, Nat.xor_assoc, Nat.xor_self, Nat.xor_zero]
  · rw [h2, hx, Nat.xor_mod_two_pow, q2, Nat.mod_mod, Nat.xor_assoc, Nat.xor_self, Nat.xor_zero]
/-- a right word is near itself. -/
theorem wd_right {t X Y : Nat} (h : Y % 2 ^ deg m t = par m t X) : wd m t X Y = wrd (deg m t) X (par m t X) ^^^ 0 := by
  unfold wd
  rw [h, Nat.xor_zero]
end
end Go.Proofs.YthmfneepnkgmgaaGreatDoor.Dec
/- The examples of chapter 10, as the statements ask them first of all. By the verifier of shale. -/
namespace Go.Proofs.YthmfneepnkgmgaaGreatDoor.Dec
open Go Go.RowKit Bin Pl Cos Enc Syn Loc Sea
set_option linter.unusedVariables false
instance midA : Pl.Mid 5 := ⟨by decide, by decide⟩
theorem mayA : May 5 2 2 := ⟨by decide, by decide, by decide, by decide, by decide +kernel, by decide +kernel⟩
theorem dA : deg 5 2 = 10 := by decide +kernel
theorem litB (w W : World) (Y : List (BitVec 8)) (hW : W = w.alloc (obj8 Y)) : Blk8 W w.heap.size Y ∧ Below w.heap.size w W := by
  subst hW
  exact ⟨Blk8.new w Y, (Below.refl _ _).alloc (Nat.le_refl _) _⟩
theorem sameB {w : World} {X Y : List (BitVec 8)} {v u : Value} (h1 : IsBytes w v X) (h2 : IsBytes w u Y) :
    Calls Tryz.prog 17 #[v, u] w fun e w' => e = .returned (.bool (decide (X = Y))) ∧ w = w' := by
  refine (same_any X Y _ _ w (Str8.of h1) (Str8.of h2)).mono ?_
  rintro e w' ⟨rfl, rfl⟩
  exact ⟨rfl, rfl⟩
theorem newP_bytes {w w' : World} {a : Option Addr} {n c : Nat} {X : List (BitVec 8)} (h : NewP w w' a n c X) : IsBytes w' (.slice a n c) X := pol_bytes h.pol
/-- the parity of 7, 9. -/
def pA : Nat := par 5 2 (val [7#8, 9#8])
theorem pA_lt : pA < 2 ^ deg 5 2 := par_lt 2 _
theorem pA_val : val (byN pA (pb (deg 5 2))) = pA := val_byN (pb_room pA_lt)
theorem wdA : wd 5 2 (val [7#8, 9#8]) pA = wrd (deg 5 2) (val [7#8, 9#8]) (par 5 2 (val [7#8, 9#8])) ^^^ 0 := wd_right (Nat.mod_eq_of_lt pA_lt)
theorem wdB : wd 5 2 (val [6#8, 9#8]) pA = wrd (deg 5 2) (val [7#8, 9#8]) (par 5 2 (val [7#8, 9#8])) ^^^ 1024 := by
  have h : (1024 : Nat) = wrd (deg 5 2) 1 0 := by decide +kernel
  unfold wd
  rw [Nat.mod_eq_of_lt pA_lt, h, ← wrd_xor, Nat.xor_zero, show val [7#8, 9#8] ^^^ 1 = val [6#8, 9#8] by decide]
  rfl
theorem popA : pop 0 (8 * 2 + deg 5 2) = 0 := pop_zero _
theorem popB : pop 1024 (8 * 2 + deg 5 2) = 1 := by decide +kernel
theorem plcB : plc 1024 (8 * 2 + deg 5 2) = [10] := by decide +kernel
theorem infoC : (Tryz.prog.info? 89).isSome = true := by kernel_rfl
theorem sameC (s : Nat) (w : World) : (binOp .eql 47 (.pointer (some ⟨s, 0, none⟩)) (.pointer (some ⟨s, 0, none⟩))).run Tryz.prog w = .ok (.bool true) w := by
  obtain ⟨j, hj⟩ := Option.isSome_iff_exists.1 infoC
  exact run_eql_ptr_same w _ (show Tryz.prog.underlying 47 = some (.pointer 89) by kernel_rfl) hj
set_option maxRecDepth 100000 in
set_option maxHeartbeats 4000000 in
theorem firstD_any (w : World) {y ym yz : Addr} (E : ErrAt w 3 y) (EM : ErrAt w 1 ym) (EZ : ErrAt w 5 yz) :
    Calls Tryz.prog 10 #[] w fun e w' => e = .returned (.bool true) ∧ Below w.heap.size w w' := by
  have B : Below w.heap.size w w := Below.refl _ _
  have k1 : 8 * 2 + deg 5 2 ≤ Fld.size 5 := by rw [dA]; decide
  have HA := Lib.hid k1
  clear k1
  go_enter Tryz.func10, Tryz.ntmps10
  go_wp2_with fail
  refine (new_any (m := 5) mayA w y E).mono ?_
  rintro e w1 ⟨s, rfl, C, b, _⟩
  clear E
  replace EM := EM.below b
  replace EZ := EZ.below b
  replace B := B.trans (b.mono B.size)
  clear b
  go_wp2_with fail
  refine (newD_any s w1).mono ?_
  rintro e w2 ⟨db, rfl, D, b, _⟩
  replace C := C.below b
  replace EM := EM.below b
  replace EZ := EZ.below b
  replace B := B.trans (b.mono B.size)
  clear b
  go_wp2_with fail
  generalize hw : w2.alloc (.cells #[.int .u8 7, .int .u8 9] 5 (0, 0)) = w3
  obtain ⟨Px, b⟩ := litB w2 w3 [7#8, 9#8] hw.symm
  clear hw
  replace C := C.below b
  replace D := (b.block _ (lt_of_block D)).trans D
  replace EM := EM.below b
  replace EZ := EZ.below b
  replace B := B.trans (b.mono B.size)
  clear b
  refine (serial_any (m := 5) (by decide) (by decide) w3 s C _ 2 [7#8, 9#8] (blk_pol Px rfl (by decide)) (by decide)).mono ?_
  rintro e w4 ⟨g, rfl, Q, b, _⟩
  have Pw : Blk8 w4 g (byN pA (pb (deg 5 2))) := Q
  clear Q
  clear Px
  replace C := C.below b
  replace D := (b.block _ (lt_of_block D)).trans D
  replace EM := EM.below b
  replace EZ := EZ.below b
  replace B := B.trans (b.mono B.size)
  clear b
  go_wp2_with fail
  generalize hw : w4.alloc (.cells #[.int .u8 7, .int .u8 9] 5 (0, 0)) = w5
  obtain ⟨Px, b⟩ := litB w4 w5 [7#8, 9#8] hw.symm
  clear hw
  replace C := C.below b
  replace D := (b.block _ (lt_of_block D)).trans D
  replace EM := EM.below b
  replace EZ := EZ.below b
  replace B := B.trans (b.mono B.size)
  replace Pw := keepZ Pw b
  clear b
  refine (near_any (m := 5) (t := 2) (n := 2) (ca := 2) ⟨D, C, EM, EZ, by decide, by decide, by decide, by decide, HA.out⟩ (blk_pol Px rfl (by decide)) (blk_pol Pw (byN_length _ _).symm (by rw [dA]; decide)) (V := val [7#8, 9#8]) (e := 0) (by rw [dA]; decide) (by rw [popA]; decide) (by rw [pA_val]; exact wdA)).mono ?_
  rintro en w6 ⟨b, a11, c11, X1, a12, c12, Y1, a13, c13, rfl, N11, N12, R1, v11, v12⟩
  clear Px
  replace C := C.below b
  replace D := (b.block _ (lt_of_block D)).trans D
  replace EM := EM.below b
  replace EZ := EZ.below b
  replace B := B.trans (b.mono B.size)
  replace Pw := keepZ Pw b
  clear b
  obtain rfl : X1 = [7#8, 9#8] := len_inj N11.hlen.symm v11
  clear v11 v12
  clear N12
  clear R1
  rw [popA]
  go_wp2_with fail
  generalize hw : w6.alloc (.cells #[.int .u8 6, .int .u8 9] 5 (0, 0)) = w7
  obtain ⟨Px, b⟩ := litB w6 w7 [6#8, 9#8] hw.symm
  clear hw
  replace C := C.below b
  replace D := (b.block _ (lt_of_block D)).trans D
  replace EM := EM.below b
  replace EZ := EZ.below b
  replace B := B.trans (b.mono B.size)
  replace Pw := keepZ Pw b
  replace N11 := N11.since b
  clear b
  refine (near_any (m := 5) (t := 2) (n := 2) (ca := 2) ⟨D, C, EM, EZ, by decide, by decide, by decide, by decide, HA.out⟩ (blk_pol Px rfl (by decide)) (blk_pol Pw (byN_length _ _).symm (by rw [dA]; decide)) (V := val [7#8, 9#8]) (e := 1024) (by rw [dA]; decide) (by rw [popB]; decide) (by rw [pA_val]; exact wdB)).mono ?_
  rintro en w8 ⟨b, a21, c21, X2, a22, c22, Y2, a23, c23, rfl, N21, N22, R2, v21, v22⟩
  clear Px
  replace C := C.below b
  replace D := (b.block _ (lt_of_block D)).trans D
  replace EM := EM.below b
  replace EZ := EZ.below b
  replace B := B.trans (b.mono B.size)
  replace Pw := keepZ Pw b
  replace N11 := N11.since b
  clear b
  obtain rfl : X2 = [7#8, 9#8] := len_inj N21.hlen.symm v21
  obtain rfl : Y2 = byN pA (pb (deg 5 2)) := len_inj (by rw [byN_length]; exact N22.hlen.symm) (by rw [pA_val]; exact v22)
  clear v21 v22
  rw [popB, plcB] at R2
  rw [popB]
  go_wp2_with fail
  generalize hw : w8.alloc (.cells #[.int .u8 7, .int .u8 9] 5 (0, 0)) = w9
  obtain ⟨Px, b⟩ := litB w8 w9 [7#8, 9#8] hw.symm
  clear hw
  replace C := C.below b
  replace D := (b.block _ (lt_of_block D)).trans D
  replace EM := EM.below b
  replace EZ := EZ.below b
  replace B := B.trans (b.mono B.size)
  replace Pw := keepZ Pw b
  replace N11 := N11.since b
  replace N21 := N21.since b
  replace N22 := N22.since b
  replace R2 := R2.below b
  clear b
  refine (sameB (newP_bytes N11) (blk_arg Px rfl)).mono ?_
  rintro e w' ⟨rfl, rfl⟩
  rw [decide_eq_true rfl]
  clear Px
  clear N11
  go_wp2_with fail
  generalize hw : w9.alloc (.cells #[.int .u8 7, .int .u8 9] 5 (0, 0)) = w10
  obtain ⟨Px, b⟩ := litB w9 w10 [7#8, 9#8] hw.symm
  clear hw
  replace C := C.below b
  replace D := (b.block _ (lt_of_block D)).trans D
  replace EM := EM.below b
  replace EZ := EZ.below b
  replace B := B.trans (b.mono B.size)
  replace Pw := keepZ Pw b
  replace N21 := N21.since b
  replace N22 := N22.since b
  replace R2 := R2.below b
  clear b
  refine (sameB (newP_bytes N21) (blk_arg Px rfl)).mono ?_
  rintro e w' ⟨rfl, rfl⟩
  rw [decide_eq_true rfl]
  clear Px
  clear N21
  go_wp2_with fail
  refine (sameB (newP_bytes N22) (blk_arg Pw (byN_length _ _).symm)).mono ?_
  rintro e w' ⟨rfl, rfl⟩
  rw [decide_eq_true rfl]
  clear N22
  clear Pw
  go_wp2_with fail
  generalize hw : w10.alloc (.cells #[.int .i64 10] 3 (0, 0)) = w11
  obtain ⟨H9, b⟩ := litI w10 w11 (Bin.ints [10]) hw.symm
  clear hw
  replace C := C.below b
  replace D := (b.block _ (lt_of_block D)).trans D
  replace EM := EM.below b
  replace EZ := EZ.below b
  replace B := B.trans (b.mono B.size)
  replace R2 := R2.below b
  clear b
  refine (sameInts_any _ 1 c23 [10] _ 1 1 [10] w11 R2 (blkN H9 rfl) (by decide)).mono ?_
  rintro e w12 ⟨rfl, d⟩
  rw [decide_eq_true rfl]
  have b := d.below w11.heap.size
  clear H9 d
  clear R2
  replace C := C.below b
  replace D := (b.block _ (lt_of_block D)).trans D
  replace EM := EM.below b
  replace EZ := EZ.below b
  replace B := B.trans (b.mono B.size)
  clear b
  go_wp2_with fail
  refine (codeD_any D).mono ?_
  rintro e w' ⟨rfl, rfl⟩
  have q1 : (binOp .eql 47 (.pointer (some ⟨s, 0, none⟩)) (.pointer (some ⟨s, 0, none⟩))).run Tryz.prog w12 = .ok (.bool true) w12 := sameC s w12
  go_wp2_with fail
  go_ret
  exact ⟨rfl, B⟩
end Go.Proofs.YthmfneepnkgmgaaGreatDoor.Dec
/- Words that are turned in few places: for the walks of chapter 10. By the verifier of shale. -/
namespace Go.Proofs.YthmfneepnkgmgaaGreatDoor.Dec
open Go Go.RowKit Bin Pl Cos Enc Syn Loc Sea
set_option linter.unusedVariables false
theorem plc_two (p : Nat) : ∀ n, p + 1 < n → plc (2 ^ p ^^^ 2 ^ (p + 1)) n = [p, p + 1]
  | 0, h => by omega
  | n + 1, h => by
    rw [plc_succ]
    by_cases e : p + 1 = n
    · subst e
      have h1 : plc (2 ^ p ^^^ 2 ^ (p + 1)) (p + 1) = [p] := by
        rw [plc_succ]
        have h0 : plc (2 ^ p ^^^ 2 ^ (p + 1)) p = [] := by
          unfold plc
          refine List.filter_eq_nil_iff.2 fun i hi => ?_
          have := List.mem_range.1 hi
          rw [Nat.testBit_xor, Nat.testBit_two_pow, Nat.testBit_two_pow, decide_eq_false (by omega), decide_eq_false (by omega)]
          decide
        rw [h0, Nat.testBit_xor, Nat.testBit_two_pow, Nat.testBit_two_pow, decide_eq_true rfl, decide_eq_false (by omega)]
        rfl
      rw [h1, Nat.testBit_xor, Nat.testBit_two_pow, Nat.testBit_two_pow, decide_eq_true rfl, decide_eq_false (by omega)]
      rfl
    · rw [plc_two p n (by omega), Nat.testBit_xor, Nat.testBit_two_pow, Nat.testBit_two_pow, decide_eq_false (by omega), decide_eq_false (by omega)]
      rfl
theorem pow_lt2 {p N : Nat} (h : p < N) : 2 ^ p < 2 ^ N := Nat.pow_lt_pow_right (by decide) h
theorem pop_turn_lo {e k : Nat} : ∀ n, n ≤ k → pop (e ^^^ 2 ^ k) n = pop e n
  | 0, _ => rfl
  | n + 1, h => by
    rw [pop_succ, pop_succ, pop_turn_lo n (by omega), Nat.testBit_xor, Nat.testBit_two_pow, decide_eq_false (by omega), Bool.xor_false]
theorem pop_turn {e k : Nat} (hb : e.testBit k = false) : ∀ n, k < n → pop (e ^^^ 2 ^ k) n = pop e n + 1
  | 0, h => by omega
  | n + 1, h => by
    rw [pop_succ, pop_succ, Nat.testBit_xor, Nat.testBit_two_pow]
    by_cases hk : k = n
    · subst hk
      rw [pop_turn_lo k (Nat.le_refl _), hb, decide_eq_true rfl]
      rfl
    · rw [pop_turn hb n (by omega), decide_eq_false hk, Bool.xor_false]
      omega
theorem plc_rise (e : Nat) (N : Nat) : (plc e N).Pairwise (· < ·) := List.Pairwise.filter _ List.pairwise_lt_range
/-- the places of a word: below N, turned, rising. -/
theorem plc_facts (e N : Nat) : ∀ j, j < pop e N → (plc e N).getD j 0 < N ∧ e.testBit ((plc e N).getD j 0) = true ∧ ∀ i, i + 1 = j → (plc e N).getD i 0 < (plc e N).getD j 0 := by
  intro j hj
  have hj2 : j < (plc e N).length := hj
  have g : ∀ i (h : i < (plc e N).length), (plc e N).getD i 0 = (plc e N)[i] := fun i h => by rw [List.getD_eq_getElem?_getD, List.getElem?_eq_getElem h]; rfl
  rw [g j hj2]
  have hm := mem_plc.1 (List.getElem_mem hj2)
  refine ⟨hm.1, hm.2, fun i hi => ?_⟩
  rw [g i (by omega)]
  exact List.pairwise_iff_getElem.1 (plc_rise e N) i j (by omega) hj2 (by omega)
section
variable {m : Nat} [M : Pl.Mid m]
/-- a word turned at k. -/
theorem wd_turn {t X Y V e k : Nat} {X1 Y1 : Nat} (hY : Y < 2 ^ deg m t) (h : wrd (deg m t) X Y = wrd (deg m t) V (par m t V) ^^^ e) (h1 : X1 = X ^^^ ed (deg m t) k) (h2 : Y1 = Y ^^^ ep (deg m t) k) : Y1 < 2 ^ deg m t ∧ wrd (deg m t) X1 Y1 = wrd (deg m t) V (par m t V) ^^^ (e ^^^ 2 ^ k) := by
  refine ⟨by rw [h2]; exact Nat.xor_lt_two_pow hY (ep_lt _ k), ?_⟩
  rw [h1, h2, wrd_xor, e_word, h, Nat.xor_assoc]
theorem wd_of {t X Y : Nat} (hY : Y < 2 ^ deg m t) : wd m t X Y = wrd (deg m t) X Y := by
  unfold wd
  rw [Nat.mod_eq_of_lt hY]
end
end Go.Proofs.YthmfneepnkgmgaaGreatDoor.Dec
/- The walk over package syndrome's Add. By the verifier of shale. -/
namespace Go.Proofs.YthmfneepnkgmgaaGreatDoor.Syn
open Go Go.RowKit Bin Cos Enc Bits16
set_option linter.unusedVariables false
theorem size64 : (Tryz.prog.info? 3).map (·.size) = some 1 := by kernel_rfl
theorem cells64_one (l : List Int) : ∀ u ∈ cells64 l, u.oneCell' = true := by
  intro u hu
  unfold cells64 at hu
  rw [List.mem_map] at hu
  obtain ⟨x, _, rfl⟩ := hu
  rfl
def zl (n : Nat) (z : Nat → Int) : List Int := (List.range n).map z
theorem zl_length (n : Nat) (z : Nat → Int) : (zl n z).length = n := by unfold zl; rw [List.length_map, List.length_range]
theorem splice_zl (n : Nat) (z : Nat → Int) : splice (cells64 (List.replicate n 0)) 0 (cells64 (zl n z)) = cells64 (zl n z) := by
  unfold splice
  rw [List.take_zero, List.nil_append, Nat.zero_add, cells64_length, zl_length, List.drop_eq_nil_of_le (by rw [cells64_length, List.length_replicate]; exact Nat.le_refl _), List.append_nil]
theorem src_zl {w : World} {a : Option Addr} {n : Nat} {z : Nat → Int} (h : RowZ w a n z) (h0 : 0 < n) : ∃ ad, a = some ad ∧ ∀ j v, (cells64 (zl n z))[j]? = some v → w.cell? (ad.add j) = some v := by
  obtain ⟨bb, off, rfl, _, _⟩ := h 0 h0
  refine ⟨_, rfl, fun j v hv => ?_⟩
  have hj : j < n := by
    have := (List.getElem?_eq_some_iff.1 hv).1
    rwa [cells64_length, zl_length] at this
  obtain ⟨bb', off', e, c, _⟩ := h j hj
  simp only [Option.some.injEq, Addr.mk.injEq] at e
  obtain ⟨rfl, rfl, _⟩ := e
  rw [add_row, c]
  unfold cells64 zl at hv
  rw [List.getElem?_map, List.getElem?_map, List.getElem?_range hj] at hv
  simpa using hv
/-- the sums place by place, of which the first k are there. -/
def adL (n : Nat) (z y : Nat → Int) (k : Nat) : List Int := (List.range n).map fun i => if i < k then bits .xor .i64 (z i) (y i) else z i
theorem adL_length (n : Nat) (z y : Nat → Int) (k : Nat) : (adL n z y k).length = n := by unfold adL; rw [List.length_map, List.length_range]
theorem adL_zero (n : Nat) (z y : Nat → Int) : zl n z = adL n z y 0 := by
  unfold adL zl
  exact List.map_congr_left fun i _ => (if_neg (by omega)).symm
theorem adL_nth {n k i : Nat} {z y : Nat → Int} (hi : i < n) : nth64 (adL n z y k) i = if i < k then bits .xor .i64 (z i) (y i) else z i := by
  unfold nth64 adL
  rw [List.getD_eq_getElem?_getD, List.getElem?_map, List.getElem?_range hi]; rfl
theorem adL_set (n k : Nat) (z y : Nat → Int) : (adL n z y k).set k (bits .xor .i64 (z k) (y k)) = adL n z y (k + 1) := by
  unfold adL
  apply List.ext_getElem
  · simp
  · intro i h1 h2
    rw [List.getElem_set]
    by_cases e : k = i
    · subst e; simp
    · rw [if_neg e]
      simp only [List.getElem_map, List.getElem_range]
      by_cases h3 : i < k
      · rw [if_pos h3, if_pos (by omega)]
      · rw [if_neg h3, if_neg (by omega)]
/-- the sums, in new memory. -/
def AddAt (n : Nat) (z y : Nat → Int) (k : Nat) (w : World) (e : Ending) (w' : World) : Prop :=
  ∃ g, e = .returned (.slice (some ⟨g, 0, none⟩) n n) ∧ Blk64 w' g (adL n z y k) ∧ Below w.heap.size w w' ∧ w.heap.size ≤ g
end Go.Proofs.YthmfneepnkgmgaaGreatDoor.Syn
/- Small words for the walks of stage 7's statements. By the verifier of shale. -/
namespace Go.Proofs.YthmfneepnkgmgaaGreatDoor.Syn
open Go Go.RowKit Bin Cos Enc Bits16
set_option linter.unusedVariables false
theorem hxor64 (a c : BitVec 16) : bits .xor .i64 (h a) (h c) = h (a ^^^ c) := by
  show IntKind.i64.wrap ((BitVec.ofInt 64 (h a) ^^^ BitVec.ofInt 64 (h c)).toNat : Int) = _
  have ha := a.isLt
  have hc := c.isLt
  have hx : a.toNat ^^^ c.toNat < 2 ^ 16 := Nat.xor_lt_two_pow ha hc
  have e1 : (BitVec.ofInt 64 (h a)).toNat = a.toNat := by unfold h; rw [BitVec.toNat_ofInt]; omega
  have e2 : (BitVec.ofInt 64 (h c)).toNat = c.toNat := by unfold h; rw [BitVec.toNat_ofInt]; omega
  rw [BitVec.toNat_xor, e1, e2]
  have e3 : h (a ^^^ c) = ((a.toNat ^^^ c.toNat : Nat) : Int) := by unfold h; rw [BitVec.toNat_xor]
  rw [e3]
  exact IntWalk.i64_in _ (by omega)
/-- the xor of the first k. -/
def xrL (X Y : List (BitVec 8)) (n k : Nat) : List (BitVec 8) := (List.range n).map fun j => if j < k then nth8 X j ^^^ nth8 Y j else 0
theorem xrL_length (X Y : List (BitVec 8)) (n k : Nat) : (xrL X Y n k).length = n := by simp [xrL]
theorem xrL_zero (X Y : List (BitVec 8)) (n : Nat) : xrL X Y n 0 = List.replicate n 0 := by
  apply List.ext_getElem
  · simp [xrL]
  · intro i h1 h2; simp [xrL]
theorem xrL_set (X Y : List (BitVec 8)) (n k : Nat) (h : k < n) : (xrL X Y n k).set k (nth8 X k ^^^ nth8 Y k) = xrL X Y n (k + 1) := by
  apply List.ext_getElem
  · simp [xrL]
  · intro i h1 h2
    rw [List.getElem_set]
    simp only [xrL, List.getElem_map, List.getElem_range]
    by_cases e : k = i
    · subst e; rw [if_pos rfl, if_pos (by omega)]
    · rw [if_neg e]
      by_cases e2 : i < k
      · rw [if_pos e2, if_pos (by omega)]
      · rw [if_neg e2, if_neg (by omega)]
theorem xrL_val (X Y : List (BitVec 8)) (n : Nat) (h1 : X.length = n) (h2 : Y.length = n) : val (xrL X Y n n) = val X ^^^ val Y := by
  rw [← val_addL]
  congr 1
  unfold xrL addL
  rw [h1, h2, Nat.max_self]
  apply List.map_congr_left
  intro i hi
  rw [if_pos (List.mem_range.1 hi)]
section
variable {m : Nat} [M : Pl.Mid m]
theorem syn_at {v n i : Nat} (hi : i < n) : (((syn m v n).getD i 0 : Nat) : Int) = h (sv m v (i + 1)) := by
  unfold syn
  rw [List.getD_eq_getElem?_getD, List.getElem?_map, List.getElem?_range hi]; rfl
theorem adds_syn (a b n : Nat) : adL n (fun i => (((syn m a n).getD i 0 : Nat) : Int)) (fun i => (((syn m b n).getD i 0 : Nat) : Int)) n = Bin.ints (syn m (a ^^^ b) n) := by
  rw [← synP_all]
  unfold adL synP
  refine List.map_congr_left fun i hi => ?_
  rw [List.mem_range] at hi
  rw [if_pos hi, if_pos hi]
  simp only [syn_at hi]
  rw [hxor64, sv_xor]
theorem same_of {v u n g g' : Nat} {w : World} (h1 : Blk64 w g (Bin.ints (syn m v n))) (h2 : Blk64 w g' (Bin.ints (syn m u n))) (hn : n ≤ 100000) :
    Calls Tryz.prog 18 #[.slice (some ⟨g, 0, none⟩) n n, .slice (some ⟨g', 0, none⟩) n n] w fun e w' => e = .returned (.bool (decide (syn m v n = syn m u n))) ∧ Drawn w w' :=
  sameInts_any _ n n _ _ n n _ w (blkN h1 (syn_length v n).symm) (blkN h2 (syn_length u n).symm) hn
/-- the same values: the same sums of powers. -/
theorem syn_inj {v u n : Nat} (h : syn m v n = syn m u n) (j : Nat) (h1 : 1 ≤ j) (h2 : j ≤ n) : sv m v j = sv m u j := by
  have e := congrArg (fun l => ((l.getD (j - 1) 0 : Nat) : Int)) h
  simp only [syn_at (show j - 1 < n by omega), show j - 1 + 1 = j by omega] at e
  exact h_inj _ _ e
theorem ev_xor {t X Y U V : Nat} : ev m t (X ^^^ Y) (U ^^^ V) = ev m t X U ^^^ ev m t Y V := by
  unfold ev
  rw [prt_xor (gen_deg (m := m) t), Nat.xor_assoc, Nat.xor_assoc]
  congr 1
  rw [← Nat.xor_assoc, ← Nat.xor_assoc]
  congr 1
  exact Nat.xor_comm _ _
theorem ev_mod {t X Y U V : Nat} : ev m t (X ^^^ Y) (U ^^^ V) % 2 ^ deg m t = (ev m t X U % 2 ^ deg m t) ^^^ (ev m t Y V % 2 ^ deg m t) := by
  rw [ev_xor, Nat.xor_mod_two_pow]
end
end Go.Proofs.YthmfneepnkgmgaaGreatDoor.Syn
/- places: the unlike places that a statement of chapter 7 makes of any numbers. By the verifier of shale. -/
namespace Go.Proofs.YthmfneepnkgmgaaGreatDoor.Syn
open Go Go.RowKit Bin Cos Enc Bits16
set_option linter.unusedVariables false
theorem isrow_z {w : World} {a : Option Addr} {len cap : Nat} {zs : List Int} (h : IsRow .i64 w a len cap zs) : RowZ w a len (fun i => zs.getD i 0) ∧ len ≤ maxLen := by
  rcases h with ⟨rfl, rfl, rfl, rfl⟩ | ⟨x, rfl, hl, hm, hz, hc, hw⟩
  · exact ⟨fun i hi => by omega, Nat.zero_le _⟩
  · refine ⟨fun i hi => ?_, by omega⟩
    obtain ⟨bb, off, spot⟩ := x
    have c0 := hc i (by omega)
    obtain rfl : spot = none := by simpa [Addr.add] using World.cell?_spot (hc 0 (by omega))
    rw [add_row] at c0
    exact ⟨bb, off, rfl, c0, World.block_lt_of_cell? w _ c0⟩
theorem rowZ_below {w w' : World} {a : Option Addr} {n : Nat} {z : Nat → Int} (h : RowZ w a n z) (b : Below w.heap.size w w') : RowZ w' a n z := fun i hi => by
  obtain ⟨bb, off, e, c, hb⟩ := h i hi
  exact ⟨bb, off, e, (b.cell (p := ⟨bb, off + i, none⟩) hb).trans c, Nat.lt_of_lt_of_le hb b.size⟩
theorem pop_add (v k : Nat) (hk : v.testBit k = false) : ∀ n, pop (v ^^^ 2 ^ k) n = pop v n + if k < n then 1 else 0
  | 0 => rfl
  | n + 1 => by
    rw [pop_succ, pop_succ, pop_add v k hk n, Nat.testBit_xor, Nat.testBit_two_pow]
    by_cases h : k = n
    · subst h; simp [hk]
    · by_cases h2 : k < n
      · simp [h, h2, show k < n + 1 by omega]; omega
      · simp [h, h2, show ¬ k < n + 1 by omega]
theorem set_bit (v k q : Nat) (hk : v.testBit k = false) : (v.testBit q || decide (q = k)) = (v ^^^ 2 ^ k).testBit q := by
  rw [Nat.testBit_xor, Nat.testBit_two_pow]
  by_cases h : q = k
  · subst h; simp [hk]
  · have : decide (k = q) = false := decide_eq_false fun e => h e.symm
    rw [this, decide_eq_false h, Bool.or_false, Bool.xor_false]
theorem plc_len (v : Nat) : ∀ n, (plc v n).length ≤ n := fun n => pop_le v n
/-- the places of a word that has few, rising. -/
def PlAt (N t : Nat) (w : World) (e : Ending) (w' : World) : Prop :=
  ∃ v a c, e = .returned (.slice a (pop v N) c) ∧ RowN w' a (pop v N) (plc v N) ∧ v < 2 ^ N ∧ pop v N ≤ t ∧ Below w.heap.size w w'
end Go.Proofs.YthmfneepnkgmgaaGreatDoor.Syn
/- Words with some places turned: for the walk over SyndromeTells. By the verifier of shale. -/
namespace Go.Proofs.YthmfneepnkgmgaaGreatDoor.Syn
open Go Go.RowKit Bin Cos Enc Bits16
set_option linter.unusedVariables false
theorem bf_put {w : World} {g N : Nat} {p : Nat → Bool} (h : BF w g N p) (k : Nat) (b : Bool) : BF (w.setCell ⟨g, k, none⟩ (.bool b)) g N (fun i => if i = k then b else p i) := by
  unfold BF
  rw [heap_setCell_same w g k _ _ _ h]
  congr 2
  apply Array.ext
  · simp
  · intro i h1 h2
    simp at h1 h2
    by_cases e : i = k
    · subst e; simp
    · simp [e, Ne.symm e]
theorem flip_bit (v k q : Nat) : (if q = k then !v.testBit k else v.testBit q) = (v ^^^ 2 ^ k).testBit q := by
  rw [Nat.testBit_xor, Nat.testBit_two_pow]
  by_cases h : q = k
  · subst h; simp
  · have : decide (k = q) = false := decide_eq_false fun e => h e.symm
    rw [this, if_neg h, Bool.xor_false]
theorem xs_snoc (l : List Nat) (k : Nat) : xs (l ++ [k]) = xs l ^^^ 2 ^ k := by unfold xs; rw [List.foldl_append]; rfl
/-- a block apart from gb, and from the slice v's own. -/
def Apart7 (gb : Nat) (v : Value) (a : Option Addr) : Prop := ∀ q, a = some q → q.block ≠ gb ∧ v.ownBlock ≠ some q.block
theorem pol_keep {w w' : World} {a : Option Addr} {n c : Nat} {X : List (BitVec 8)} (h : Pol w a n c X) (hk : ∀ q, a = some q → q.block < w.heap.size → w'.heap[q.block]? = w.heap[q.block]?) (hs : w.heap.size ≤ w'.heap.size) : Pol w' a n c X :=
  ⟨h.hlen, h.hcap, h.hmost, h.hnil, by
    rcases h.hrow with h0 | ⟨bb, off, e, hr, hb⟩
    · exact Or.inl h0
    · exact Or.inr ⟨bb, off, e, fun i hi => (World.cell?_of_block (w := w) (a := ⟨bb, off + i, none⟩) (show _ from hk ⟨bb, off, none⟩ e hb)).trans (hr i hi), Nat.lt_of_lt_of_le hb hs⟩⟩
theorem newP_aside {w w' : World} {a : Option Addr} {n c gb : Nat} {X : List (BitVec 8)} {v : Value} (h : NewP w w' a n c X) (hg : gb < w.heap.size) (hv : ∀ g, v.ownBlock = some g → g < w.heap.size) : Apart7 gb v a := by
  intro q hq
  rcases h.own with ⟨h0, _⟩ | ⟨g, h1, h2, _⟩
  · rw [h0] at hq; cases hq
  · rw [h1] at hq
    simp only [Option.some.injEq] at hq
    subst hq
    refine ⟨by show g ≠ gb; omega, fun e => ?_⟩
    have : g < w.heap.size := hv _ e
    omega
section
variable {m : Nat} [M : Pl.Mid m]
theorem syn_ext {a b n : Nat} (h : ∀ j, 1 ≤ j → j ≤ n → sv m a j = sv m b j) : syn m a n = syn m b n := by
  unfold syn
  refine List.map_congr_left fun i hi => ?_
  rw [List.mem_range] at hi
  rw [h (i + 1) (by omega) (by omega)]
/-- a right word with e turned has e's values. -/
theorem syn_turned {t X X' Y' e : Nat} (hY : Y' < 2 ^ deg m t) (hw : wrd (deg m t) X' Y' = wrd (deg m t) X (prt (gen m t) (deg m t) X) ^^^ e) :
    syn m (ev m t X' Y' % 2 ^ deg m t) (2 * t) = syn m e (2 * t) := by
  have hg := gen_deg (m := m) t
  refine syn_ext fun j h1 h2 => ?_
  have hlt : ev m t X' Y' < 2 ^ deg m t := Nat.xor_lt_two_pow (prt_lt hg X') hY
  rw [Nat.mod_eq_of_lt hlt]
  have h := sv_word (m := m) (t := t) (X := X') hY h1 h2
  show sv m (prt (gen m t) (deg m t) X' ^^^ Y') j = _
  rw [← h, hw, sv_xor, sv_dvd (m := m) (wrd_dvd hg X) h1 h2]
  exact BitVec.zero_xor
/-- few places: clean where none is turned. -/
theorem clean_few {t v N : Nat} (hv : v < 2 ^ N) (hN : N ≤ sz m) (hp : pop v N ≤ 2 * t) : decide (∀ j, j < 2 * t → sv m v (j + 1) = 0) = decide (pop v N = 0) := by
  apply decide_eq_decide.2
  constructor
  · intro h
    rcases sv_few (m := m) (t := t) hv hN (fun j h1 h2 => by have := h (j - 1) (by omega); rwa [show j - 1 + 1 = j by omega] at this) with h0 | h0
    · rw [h0, pop_zero]
    · omega
  · intro h j hj
    rw [pop_pos hv h]; rfl
end
end Go.Proofs.YthmfneepnkgmgaaGreatDoor.Syn
/- A word whose syndromes are 0 is right: the generator's degree is the count of its zeros. By the verifier of shale. -/
namespace Go.Proofs.YthmfneepnkgmgaaGreatDoor.Dec
open Go Go.RowKit Bin Pl Cos Enc Syn Loc Sea
set_option linter.unusedVariables false
theorem leads_form (m : Nat) : ∀ t f, f ∈ leads m 1 2 t → ∃ k, k < t ∧ f = (1 + 2 * k) % sz m
  | 0, f, h => by simp [leads] at h
  | t + 1, f, h => by
    simp only [leads] at h
    split at h
    · obtain ⟨k, h1, h2⟩ := leads_form m t f h
      exact ⟨k, by omega, h2⟩
    · rcases List.mem_append.1 h with h | h
      · obtain ⟨k, h1, h2⟩ := leads_form m t f h
        exact ⟨k, by omega, h2⟩
      · simp at h
        exact ⟨t, by omega, h⟩
theorem flat_len (m : Nat) : ∀ l, (l.flatMap (cos m)).length = dgs m l
  | [] => rfl
  | f :: t => by rw [List.flatMap_cons, List.length_append, flat_len m t]; rfl
theorem leads_apart {m : Nat} (hm : 3 ≤ m) : ∀ t, ((leads m 1 2 t).flatMap (cos m)).Nodup
  | 0 => List.nodup_nil
  | t + 1 => by
    have hp := sz_lo hm
    simp only [leads]
    split
    · exact leads_apart hm t
    · rename_i h
      have hx : (1 + 2 * t) % sz m < sz m := Nat.mod_lt _ (by omega)
      generalize (1 + 2 * t) % sz m = x at h hx
      rw [List.flatMap_append]
      have e1 : [x].flatMap (cos m) = cos m x := by simp
      rw [e1, List.nodup_append]
      refine ⟨leads_apart hm t, cos_nodup m x, fun a ha b hb e => ?_⟩
      subst e
      obtain ⟨f, hf, hc⟩ := List.mem_flatMap.1 ha
      have hfl := leads_lt hm 1 2 t f hf
      have c1 := cos_same hm hfl hc
      have c2 := cos_same hm hx hb
      apply h
      unfold cov
      refine List.any_eq_true.2 ⟨f, hf, ?_⟩
      rw [List.contains_iff_mem, ← c1, c2]
      exact cos_first hm hx
section
variable {m : Nat} [M : Pl.Mid m]
theorem vv_orb {v f : Nat} (h : vv (m := m) v (Cos.xe m f) = 0) : ∀ j, vv (m := m) v (Cos.xe m (f * 2 ^ j)) = 0
  | 0 => by rw [Nat.pow_zero, Nat.mul_one]; exact h
  | j + 1 => by
    have e : f * 2 ^ (j + 1) = 2 * (f * 2 ^ j) := by rw [Nat.pow_succ, ← Nat.mul_assoc, Nat.mul_comm]
    rw [e, Syn.vv_sq, vv_orb h j, Pl.zero_mul]
theorem vv_root {t v : Nat} (h : ∀ i, i < 2 * t → Sv m v i = 0) {k : Nat} (hk : k ∈ (leads m 1 2 t).flatMap (cos m)) : vv (m := m) v (Cos.xe m k) = 0 := by
  obtain ⟨f, hf, hc⟩ := List.mem_flatMap.1 hk
  obtain ⟨q, hq, rfl⟩ := leads_form m t f hf
  obtain ⟨_, j, _, rfl⟩ := (mem_cos k).1 hc
  unfold orb
  rw [Enc.xe_mod]
  refine vv_orb ?_ j
  rw [Enc.xe_mod]
  have := h (2 * q) (by omega)
  unfold Sv at this
  rw [show 2 * q + 1 = 1 + 2 * q by omega] at this
  exact this
theorem few_zero {t d : Nat} (hd : d < 2 ^ deg m t) (h : ∀ i, i < 2 * t → Sv m d i = 0) : d = 0 := by
  refine Classical.byContradiction fun h0 => ?_
  have hb : d.testBit d.log2 = true := Nat.testBit_log2 h0
  have h1 : d.log2 < deg m t := by
    refine Classical.byContradiction fun hc => ?_
    rw [Nat.testBit_lt_two_pow (Nat.lt_of_lt_of_le hd (Nat.pow_le_pow_right (by decide) (by omega)))] at hb
    cases hb
  have h2 : d < 2 ^ (d.log2 + 1) := Nat.lt_log2_self
  have hg : Dg (bs m d) d.log2 := ⟨by show (if d.testBit d.log2 then (1 : El m) else 0) ≠ 0; rw [hb]; exact Fl.one_ne, bs_bd h2⟩
  have hn : (((leads m 1 2 t).flatMap (cos m)).map (Cos.xe m)).Nodup := by
    have lt : ∀ a, a ∈ (leads m 1 2 t).flatMap (cos m) → a < sz m := fun a ha => by
      obtain ⟨f, _, hc⟩ := List.mem_flatMap.1 ha
      exact ((mem_cos a).1 hc).1
    exact List.pairwise_map.2 (List.Pairwise.imp_of_mem (fun {a b} ha hb hne e => hne (Enc.xe_inj (lt a ha) (lt b hb) e)) (leads_apart M.lo t))
  have := roots_le d.log2 (bs m d) _ hg hn fun a ha => by
    obtain ⟨k, hk, rfl⟩ := List.mem_map.1 ha
    rw [vv_eq h2]
    exact vv_root h hk
  rw [List.length_map, flat_len] at this
  exact absurd h1 (Nat.not_lt.2 this)
/-- a word whose syndromes are 0 is right. -/
theorem right_of {t X Y : Nat} (hY : Y < 2 ^ deg m t) (h : ∀ i, i < 2 * t → Sv m (wrd (deg m t) X Y) i = 0) : Y = par m t X := by
  have e : Y ^^^ par m t X = 0 := few_zero (Nat.xor_lt_two_pow hY (par_lt t X)) fun i hi => by
    have h1 : Y ^^^ par m t X = wrd (deg m t) X Y ^^^ wrd (deg m t) X (par m t X) := by
      rw [← wrd_xor, Nat.xor_self]
      unfold wrd
      rw [Nat.zero_shiftLeft, Nat.zero_xor]
    rw [h1, Sv_xor, h i hi, Sv_right t X i hi, Fl.add_zero]
  have := congrArg (· ^^^ par m t X) e
  try simp only at this
  rwa [Nat.xor_assoc, Nat.xor_self, Nat.xor_zero, Nat.zero_xor] at this
/-- what is mended: a word e away from it, e few. -/
theorem dec_right {t N X Y : Nat} (hN : N ≤ Fld.size m) (ht : t ≤ 40) (hY : Y < 2 ^ deg m t) {l : List Nat} (h : dec m t N (wrd (deg m t) X Y) = some l) :
    ∃ e V, e < 2 ^ N ∧ l = plc e N ∧ pop e N ≤ t ∧ wrd (deg m t) X Y = wrd (deg m t) V (par m t V) ^^^ e := by
  obtain ⟨e, he, hl, hp, hs⟩ := dec_some hN ht h
  have hm : Y ^^^ e % 2 ^ deg m t < 2 ^ deg m t := Nat.xor_lt_two_pow hY (Nat.mod_lt _ (Nat.two_pow_pos _))
  have hw : wrd (deg m t) X Y ^^^ e = wrd (deg m t) (X ^^^ e >>> deg m t) (Y ^^^ e % 2 ^ deg m t) := by
    rw [wrd_xor]
    congr 1
    apply Nat.eq_of_testBit_eq
    intro i
    rw [wrd_bit (Nat.mod_lt _ (Nat.two_pow_pos _))]
    split
    · rename_i hi; rw [Nat.testBit_mod_two_pow]; simp [hi]
    · rename_i hi; rw [Nat.testBit_shiftRight]; congr 1; omega
  have hr := right_of (X := X ^^^ e >>> deg m t) hm fun i hi => by rw [← hw, Sv_xor, hs i hi, Fl.add_self]
  refine ⟨e, X ^^^ e >>> deg m t, he, hl, hp, ?_⟩
  rw [← hr, ← hw, Nat.xor_assoc, Nat.xor_self, Nat.xor_zero]
end
end Go.Proofs.YthmfneepnkgmgaaGreatDoor.Dec
