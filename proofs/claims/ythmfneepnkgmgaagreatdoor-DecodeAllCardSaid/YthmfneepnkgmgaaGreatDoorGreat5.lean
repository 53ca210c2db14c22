/- Texts of the verifier of shale, laid into one: EncNew, EncPar, EncOps, EncFlip, RefLeast, RefBit, RefBits, RefAdd, RefShift, RefMul, RefDiv, RefGcd, RefXp, RefMin, RefMin2, MinFirst, RefGen, RefEnc, RefSer, EncFit, EncMade, EncMade2, SynMath, DecMath, SynSum, SynOps, SynOf, SynMade, SynFit, SynFits, EncFirst, EncLaw, EncTurn, SynFirst, DecSteps, DecSteps2, DecSteps3, EncFlip2. -/
import Derived.Test.YthmfneepnkgmgaaGreatDoorGreat1
import Derived.Test.YthmfneepnkgmgaaGreatDoorGreat2
import Derived.Test.YthmfneepnkgmgaaGreatDoorGreat3
import Derived.Test.YthmfneepnkgmgaaGreatDoorGreat4
import Derived.BigQuiet
import Derived.Laws.OwnMore
import Derived.RangeFuncBox
import Derived.StillTailTactics
import Derived.Laws.CopyOwn
import Derived.Lib.QuietBelow
import Derived.Deep.RegionWith
import Derived.Deep.Cut
import Derived.Deep.RegionLaw
/- The walk over package encode's New: a code. By the verifier of shale. -/
namespace Go.Proofs.YthmfneepnkgmgaaGreatDoor.Enc
open Go Go.RowKit Bin Cos
set_option linter.unusedVariables false
/-- a code's block. -/
def codeO (f t n D : Nat) (gv lv tv : Value) : Obj := .cells #[.pointer (some ⟨f, 0, none⟩), .int .i64 (t : Int), .int .i64 (n : Int), .int .i64 (D : Int), gv, lv, tv] 89 (0, 0)
theorem code_cells {w : World} {s f t n D : Nat} {gv lv tv : Value} (h : w.heap[s]? = some (codeO f t n D gv lv tv)) :
    w.cell? ⟨s, 0, none⟩ = some (.pointer (some ⟨f, 0, none⟩)) ∧ w.cell? ⟨s, 1, none⟩ = some (.int .i64 (t : Int)) ∧ w.cell? ⟨s, 2, none⟩ = some (.int .i64 (n : Int)) ∧ w.cell? ⟨s, 3, none⟩ = some (.int .i64 (D : Int)) ∧ w.cell? ⟨s, 4, none⟩ = some gv ∧ w.cell? ⟨s, 5, none⟩ = some lv ∧ w.cell? ⟨s, 6, none⟩ = some tv ∧ ∀ i, w.frozen? ⟨s, i, none⟩ = false := by
  refine ⟨?_, ?_, ?_, ?_, ?_, ?_, ?_, ?_⟩
  all_goals first | (unfold World.cell?; simp only; rw [h]; rfl) | (intro i; unfold World.frozen?; simp only; rw [h]; unfold codeO; simp)
theorem code_set5 {w : World} {s f t n D : Nat} {gv lv tv : Value} (h : w.heap[s]? = some (codeO f t n D gv lv tv)) (v : Value) : (w.setCell ⟨s, 5, none⟩ v).heap[s]? = some (codeO f t n D gv v tv) := by
  have hlt := lt_of_block h
  have h' : w.heap[s] = codeO f t n D gv lv tv := by simpa [Array.getElem?_eq_getElem hlt] using h
  show (w.heap.modify s _)[s]? = _
  rw [Array.getElem?_eq_getElem (by simpa using hlt), Array.getElem_modify_self, h']
  rfl
theorem code_set6 {w : World} {s f t n D : Nat} {gv lv tv : Value} (h : w.heap[s]? = some (codeO f t n D gv lv tv)) (v : Value) : (w.setCell ⟨s, 6, none⟩ v).heap[s]? = some (codeO f t n D gv lv v) := by
  have hlt := lt_of_block h
  have h' : w.heap[s] = codeO f t n D gv lv tv := by simpa [Array.getElem?_eq_getElem hlt] using h
  show (w.heap.modify s _)[s]? = _
  rw [Array.getElem?_eq_getElem (by simpa using hlt), Array.getElem_modify_self, h']
  rfl
/-- a bare polynomial of this value. -/
def BarV (w : World) (a : Option Addr) (n c : Nat) (v : Nat) : Prop := ∃ X, Pol w a n c X ∧ Bare X ∧ val X = v ∧ n ≤ 81
theorem BarV.below {w w' : World} {a : Option Addr} {n c v : Nat} (h : BarV w a n c v) (b : Below w.heap.size w w') : BarV w' a n c v := by
  obtain ⟨X, h1, h2, h3⟩ := h
  exact ⟨X, h1.below b, h2, h3⟩
theorem BarV.pol {w : World} {a : Option Addr} {n c v : Nat} (h : BarV w a n c v) : PolV w 81 a n c v := by
  obtain ⟨X, h1, h2, h3, h4⟩ := h
  exact ⟨X, h1, h3, h4⟩
section
variable {m : Nat} [M : Pl.Mid m]
/-- block s is the code over the field of m that mends t bits of n bytes. -/
def CodeAt (m t n : Nat) [M : Pl.Mid m] (w : World) (s : Nat) : Prop :=
  ∃ f be ce bl ga gn gc lb tb, w.heap[s]? = some (codeO f t n (deg m t) (.slice ga gn gc) (.slice (some ⟨lb, 0, none⟩) (nw (deg m t)) (nw (deg m t))) (.slice (some ⟨tb, 0, none⟩) 256 256)) ∧
    Fld.FldAt m w f be ce bl ∧ BarV w ga gn gc (gen m t) ∧ Reg w lb (nw (deg m t)) (low (gen m t) (deg m t)) ∧ TabAt w tb (deg m t) (gen m t)
theorem CodeAt.lt {t n : Nat} {w : World} {s : Nat} (h : CodeAt m t n w s) : s < w.heap.size := by
  obtain ⟨f, be, ce, bl, ga, gn, gc, lb, tb, h1, _⟩ := h
  exact lt_of_block h1
theorem CodeAt.below {t n : Nat} {w w' : World} {s : Nat} (h : CodeAt m t n w s) (b : Below w.heap.size w w') : CodeAt m t n w' s := by
  obtain ⟨f, be, ce, bl, ga, gn, gc, lb, tb, h1, h2, h3, h4, h5⟩ := h
  exact ⟨f, be, ce, bl, ga, gn, gc, lb, tb, (b.block s (lt_of_block h1)).trans h1, h2.below M.lo b, h3.below b, h4.below b h4.lt, h5.below b (Nat.le_refl _)⟩
theorem CodeAt.drawn {t n : Nat} {w w' : World} {s : Nat} (h : CodeAt m t n w s) (d : Drawn w w') : CodeAt m t n w' s := h.below (d.below _)
theorem newV_bar {w0 w : World} {a : Option Addr} {n c v : Nat} (h : NewV w0 w 81 a n c v) : BarV w a n c v := by
  obtain ⟨X, h1, h2, h3, h4⟩ := h
  exact ⟨X, h1.pol, h2, h3, h4⟩
/-- a code that may be. -/
structure May (m t n : Nat) : Prop where
  t1 : 1 ≤ t
  t2 : t ≤ 40
  n1 : 1 ≤ n
  n2 : n ≤ 2048
  least : deg m t < sz m
  room : 8 * n + deg m t ≤ sz m
def MadeAt (m t n : Nat) [M : Pl.Mid m] (w : World) (e : Ending) (w' : World) : Prop := ∃ s, e = .returned (.tuple #[.pointer (some ⟨s, 0, none⟩), .nilIface]) ∧ CodeAt m t n w' s ∧ Below w.heap.size w w' ∧ w.heap.size ≤ s
set_option maxRecDepth 100000 in
set_option maxHeartbeats 1000000 in
theorem new_any {t n : Nat} (H : May m t n) (w : World) (y : Addr) (E : ErrAt w 3 y) :
    Calls Tryz.prog 28 #[.int .i64 (m : Int), .int .i64 (t : Int), .int .i64 (n : Int)] w (MadeAt m t n w) := by
  have ho := Fld.shl_one m M.hi
  have hn7 := sz_lo M.lo
  have hn2 := sz_hi M.hi
  have hw : IntKind.i64.wrap ((Fld.els m : Int) - 1) = (sz m : Int) := by
    have : (Fld.els m : Int) - 1 = (sz m : Int) := by unfold Fld.els sz; have := Nat.two_pow_pos m; omega
    rw [this]; exact IntWalk.i64_in _ (by omega)
  have hm1 := M.lo
  have hm14 := M.hi
  have m0 : (0 : Int) ≤ (m : Int) := by omega
  have m64 : (m : Int) ≤ 14 := by omega
  have n1 : ¬ (n : Int) < 1 := by have := H.n1; omega
  have n2 : ¬ (2048 : Int) < (n : Int) := by have := H.n2; omega
  have n3 : n ≤ 2048 := H.n2
  have hD1 := deg_pos M.lo H.t1
  have hD2 := deg_560 (m := m) H.t2
  obtain ⟨D, hD⟩ : ∃ D, D = deg m t := ⟨_, rfl⟩
  have HDE := Lib.hid hD
  rw [← hD] at hD1 hD2
  have hroom : ¬ (sz m : Int) < 8 * (n : Int) + (D : Int) := by have := H.room; omega
  obtain ⟨N, hN⟩ : ∃ N, N = sz m := ⟨_, rfl⟩
  have HNE := Lib.hid hN
  rw [← hN] at hw hn7 hn2 hroom
  have HH := Lib.hid H
  clear hD hN H
  go_enter Tryz.func28, Tryz.ntmps28
  go_wp2_with fail
  refine (least_any m t M.lo M.hi HH.out.t1 HH.out.t2 w y E).mono ?_
  rintro e w1 (⟨hd, rfl, B⟩ | ⟨hd, rfl, B⟩)
  rotate_left
  · exact absurd hd (by have := HH.out.least; unfold deg at this; omega)
  rw [show dgs m (leads m 1 2 t) = D from HDE.out.symm]
  replace E := E.below B
  clear hd
  have HE := Lib.hid E
  clear E
  go_wp2_with fail
  refine (Fld.new_any m M.lo M.hi w1).mono ?_
  rintro e w2 ⟨f, be, ce, bl, rfl, F, b⟩
  replace B := B.trans (b.mono B.size)
  replace HE := Lib.hid (HE.out.below b)
  clear b
  go_wp2_with fail
  refine (generator_any (m := m) t HH.out.t1 HH.out.t2 w2 F y HE.out).mono ?_
  rintro e w3 (⟨hd, ga, gn, gc, rfl, hG, b⟩ | ⟨hd, rfl, b⟩)
  rotate_left
  · exact absurd hd (by have := HH.out.least; unfold deg at this; omega)
  replace F := F.below M.lo b
  replace B := B.trans (b.mono B.size)
  have hGB : BarV w3 ga gn gc (gen m t) := newV_bar hG
  clear hd hG b HE
  go_wp2_with fail
  have hS : (w3.alloc (codeO f t n D (.slice ga gn gc) (.slice none 0 0) (.slice none 0 0))).heap[w3.heap.size]? = some (codeO f t n D (.slice ga gn gc) (.slice none 0 0) (.slice none 0 0)) := heap_alloc_new w3 _
  have bA : Below w3.heap.size w3 (w3.alloc (codeO f t n D (.slice ga gn gc) (.slice none 0 0) (.slice none 0 0))) := (Below.refl _ _).alloc (Nat.le_refl _) _
  have hs4 : (w3.alloc (codeO f t n D (.slice ga gn gc) (.slice none 0 0) (.slice none 0 0))).heap.size = w3.heap.size + 1 := by simp
  have ho : Obj.cells #[Value.pointer (some ⟨f, 0, none⟩), Value.int IntKind.i64 (t : Int), Value.int IntKind.i64 (n : Int), Value.int IntKind.i64 (D : Int), Value.slice ga gn gc, Value.slice none 0 0, Value.slice none 0 0] 89 (0, 0) = codeO f t n D (.slice ga gn gc) (.slice none 0 0) (.slice none 0 0) := rfl
  rw [ho]
  have hP4 := (hGB.below bA).pol
  have H3 := Lib.hid (And.intro F (And.intro hGB B))
  clear ho F hGB B
  generalize w3.alloc (codeO f t n D (.slice ga gn gc) (.slice none 0 0) (.slice none 0 0)) = w4 at hS hs4 hP4 bA ⊢
  obtain ⟨s, hse⟩ : ∃ s, s = w3.heap.size := ⟨_, rfl⟩
  rw [← hse] at hS hs4 bA ⊢
  have HSE := Lib.hid hse
  have HI := Lib.hid (And.intro hS bA)
  clear hS hse bA
  go_wp2_with fail
  refine (lowBits_any D (by omega) w4 hP4).mono ?_
  rintro e w5 ⟨rfl, hR, b⟩
  obtain ⟨hS, bA⟩ := HI.out
  have hS5 := (b.block s (by omega)).trans hS
  have B5 := bA.trans (b.mono (by omega))
  obtain ⟨c0, c1, c2, c3, c4, c5, c6, cf⟩ := code_cells hS5
  have f5 := cf 5
  obtain ⟨lb, hlb⟩ : ∃ lb, lb = w4.heap.size := ⟨_, rfl⟩
  rw [← hlb] at hR ⊢
  have HLB : Hid (lb ≠ s) := by show lb ≠ s; omega
  clear hlb hs4
  have hS6 := code_set5 hS5 (.slice (some ⟨lb, 0, none⟩) (nw D) (nw D))
  have o6 := Only.setCell w5 ⟨s, 5, none⟩ (.slice (some ⟨lb, 0, none⟩) (nw D) (nw D))
  have HI2 := Lib.hid (And.intro hS6 (And.intro o6 (And.intro hR B5)))
  clear HI hS hS5 B5 c0 c1 c2 c3 c4 c6 cf hS6 o6 hR b bA hP4
  go_wp2_with fail
  obtain ⟨hS6, o6, hR, B5⟩ := HI2.out
  clear HI2 c5 f5
  generalize w5.setCell ⟨s, 5, none⟩ (.slice (some ⟨lb, 0, none⟩) (nw D) (nw D)) = w6 at hS6 o6 ⊢
  have hg := gen_deg (m := m) t
  rw [← HDE.out] at hg
  obtain ⟨c0, c1, c2, c3, c4, c5, c6, cf⟩ := code_cells hS6
  have hslt := lt_of_block hS6
  have hR6 : Reg w6 lb (nw D) (low (gen m t) D) := hR.only o6 HLB.out
  have hB6 : BitAt w6 s lb D (gen m t) := ⟨c3, c5, hR6⟩
  have B6 := B5.trans (o6.below (Nat.le_refl s))
  have HT := Lib.hid (makeTable_any hg (by omega) (by omega) s lb w6 hB6)
  have HF6 := Lib.hid (And.intro B6 (And.intro hR6 hS6))
  clear c0 c1 c2 c3 c4 c5 c6 cf hB6 hR B5 o6 hS6 B6 hR6
  go_wp2_with fail
  refine HT.out.mono ?_
  rintro e w7 ⟨rfl, hT, b⟩
  obtain ⟨B6, hR6, hS6⟩ := HF6.out
  have hS7 := (b.block s hslt).trans hS6
  have hR7 := hR6.below b hR6.lt
  have B7 := B6.trans (b.mono (Nat.le_of_lt hslt))
  obtain ⟨c0, c1, c2, c3, c4, c5, c6, cf⟩ := code_cells hS7
  have f6 := cf 6
  obtain ⟨tb, htb⟩ : ∃ tb, tb = w6.heap.size := ⟨_, rfl⟩
  rw [← htb] at hT ⊢
  have hS8 := code_set6 hS7 (.slice (some ⟨tb, 0, none⟩) 256 256)
  have HE : Hid (MadeAt m t n w (.returned (.tuple #[.pointer (some ⟨s, 0, none⟩), .nilIface])) (w7.setCell ⟨s, 6, none⟩ (.slice (some ⟨tb, 0, none⟩) 256 256))) := by
    have o8 := Only.setCell w7 ⟨s, 6, none⟩ (.slice (some ⟨tb, 0, none⟩) 256 256)
    have B8 := B7.trans (o8.below (Nat.le_refl s))
    obtain ⟨F3, G3, B3⟩ := H3.out
    have HSE' := HSE.out
    have B8' : Below w3.heap.size w3 (w7.setCell ⟨s, 6, none⟩ (.slice (some ⟨tb, 0, none⟩) 256 256)) := by rw [← HSE']; exact B8
    have e := HDE.out
    have hw3 := B3.size
    refine ⟨s, rfl, ⟨f, be, ce, bl, ga, gn, gc, lb, tb, ?_, F3.below M.lo B8', G3.below B8', ?_, ?_⟩, B3.trans (B8'.mono B3.size), by omega⟩
    · rw [← e]; exact hS8
    · rw [← e]; exact hR7.only o8 HLB.out
    · rw [← e]
      intro x hx
      obtain ⟨rb, h1, h2⟩ := hT x hx
      have hne : rb ≠ s := by
        intro h
        have h3 : w7.heap[rb]? = some (objU (wl (nw D) (prt (gen m t) D x))) := h2
        rw [h, hS7] at h3
        simp [objU, codeO] at h3
      exact ⟨rb, (o8.cell (p := ⟨tb, x, none⟩) (by show tb ≠ s; omega)).trans h1, h2.only o8 hne⟩
  clear HF6 HT hT b hS7 c0 c1 c2 c3 c4 c5 cf hS8 htb hR7 B7 B6 hR6 hS6
  go_wp2_with fail
  go_ret2
  exact HE.out
end
end Go.Proofs.YthmfneepnkgmgaaGreatDoor.Enc
/- The walks over package encode's parity, Serial, Fast. By the verifier of shale. -/
namespace Go.Proofs.YthmfneepnkgmgaaGreatDoor.Enc
open Go Go.RowKit Bin Cos
set_option linter.unusedVariables false
/-- the parity's bytes. -/
def pb (D : Nat) : Nat := (D + 7) / 8
/-- a function that goes on with a byte of data: whatever the register, in any world behind w0. -/
def Taker (fn : Nat) (w0 : World) (s D G : Nat) : Prop := ∀ (A : Nat) (x : BitVec 8) (g cg : Nat) (w : World), Below w0.heap.size w0 w → w0.heap.size ≤ g → Reg w g (nw D) (prt G D A) →
  Calls Tryz.prog fn #[.pointer (some ⟨s, 0, none⟩), .slice (some ⟨g, 0, none⟩) (nw D) cg, .int .u8 (Bits32.b x)] w fun e w' => e = .returned (.tuple #[]) ∧ Reg w' g (nw D) (prt G D (A <<< 8 ^^^ x.toNat)) ∧ Only g w w'
section
variable {m : Nat} [M : Pl.Mid m]
theorem taker_bits {t n : Nat} (ht : 1 ≤ t) (ht2 : t ≤ 40) {w0 : World} {s : Nat} (h : CodeAt m t n w0 s) : Taker 57 w0 s (deg m t) (gen m t) := by
  intro A x g cg w b hg hR
  have hs := h.lt
  obtain ⟨f, be, ce, bl, ga, gn, gc, lb, tb, h1, h2, h3, h4, h5⟩ := h
  have hl := h4.lt
  obtain ⟨c0, c1, c2, c3, c4, c5, c6, cf⟩ := code_cells ((b.block s hs).trans h1)
  have := deg_560 (m := m) ht2
  exact takeBits_any (gen_deg t) (deg_pos M.lo ht) (by omega) A x s lb g cg w ⟨c3, c5, h4.below b hl⟩ hR (by omega) (by omega)
theorem taker_byte {t n : Nat} (ht : 1 ≤ t) (ht2 : t ≤ 40) {w0 : World} {s : Nat} (h : CodeAt m t n w0 s) : Taker 49 w0 s (deg m t) (gen m t) := by
  intro A x g cg w b hg hR
  have hs := h.lt
  obtain ⟨f, be, ce, bl, ga, gn, gc, lb, tb, h1, h2, h3, h4, h5⟩ := h
  obtain ⟨c0, c1, c2, c3, c4, c5, c6, cf⟩ := code_cells ((b.block s hs).trans h1)
  have := deg_560 (m := m) ht2
  have hT := (h5.in).below b
  have hT2 : TabIn w tb (deg m t) (gen m t) g := ⟨Nat.lt_of_lt_of_le hT.1 hg, fun x hx => by
    obtain ⟨rb, a1, a2, a3⟩ := hT.2 x hx
    exact ⟨rb, by omega, a2, a3⟩⟩
  exact takeByte_any (gen_deg t) (deg_pos M.lo ht) (by omega) A x s tb g cg w c3 c6 hT2 hR (by omega)
theorem val_drop (l : List (BitVec 8)) (j : Nat) (hj : j < l.length) : val (l.drop j) = val (l.drop (j + 1)) <<< 8 ^^^ (nth8 l j).toNat := by
  have e : l.drop j = nth8 l j :: l.drop (j + 1) := by
    rw [List.drop_eq_getElem_cons hj]
    congr 1
    unfold nth8
    rw [List.getD_eq_getElem?_getD, List.getElem?_eq_getElem hj]; rfl
  rw [e]
  show (nth8 l j).toNat + 256 * val _ = _
  have hb := (nth8 l j).isLt
  generalize val (l.drop (j + 1)) = V
  generalize (nth8 l j).toNat = c at hb
  apply Nat.eq_of_testBit_eq
  intro i
  rw [show c + 256 * V = 2 ^ 8 * V + c by omega, Nat.testBit_two_pow_mul_add _ hb, Nat.testBit_xor, Nat.testBit_shiftLeft]
  by_cases h : i < 8
  · rw [if_pos h]; simp [show ¬ i ≥ 8 by omega]
  · rw [if_neg h, Nat.testBit_lt_two_pow (Nat.lt_of_lt_of_le hb (Nat.pow_le_pow_right (n := 2) (by decide) (show 8 ≤ i by omega)))]
    simp [show i ≥ 8 by omega]
/-- the parity that a call answers, in new memory. -/
def ParAt (m t : Nat) [M : Pl.Mid m] (l : List (BitVec 8)) (w : World) (e : Ending) (w' : World) : Prop :=
  ∃ g, e = .returned (.tuple #[.slice (some ⟨g, 0, none⟩) (pb (deg m t)) (pb (deg m t)), .nilIface]) ∧ Blk8 w' g (byN (prt (gen m t) (deg m t) (val l)) (pb (deg m t))) ∧ Below w.heap.size w w' ∧ w.heap.size ≤ g
set_option maxRecDepth 100000 in
set_option maxHeartbeats 400000 in
theorem parityB_any {t n : Nat} (w : World) (s : Nat) (h : CodeAt m t n w s) (ht2 : t ≤ 40) : Calls Tryz.prog 50 #[.pointer (some ⟨s, 0, none⟩)] w fun e w' => e = .returned (.int .i64 (pb (deg m t) : Int)) ∧ w = w' := by
  obtain ⟨f, be, ce, bl, ga, gn, gc, lb, tb, h1, h2, h3, h4, h5⟩ := h
  obtain ⟨c0, c1, c2, c3, c4, c5, c6, cf⟩ := code_cells h1
  have hd := deg_560 (m := m) ht2
  obtain ⟨D, hD⟩ : ∃ D, D = deg m t := ⟨_, rfl⟩
  obtain ⟨P, hP⟩ : ∃ P, P = pb D := ⟨_, rfl⟩
  rw [← hD] at c3 hd ⊢
  rw [← hP]
  have hP2 : P = (D + 7) / 8 := hP
  have q0 : ((D : Int) + 7).tdiv 8 = (P : Int) := by rw [Int.tdiv_eq_ediv_of_nonneg (by omega)]; omega
  have q00 : ((D : Int) + 7) / 8 = (P : Int) := by omega
  clear hD hP hP2 h1 h2 h3 h4 h5 c0 c1 c2 c4 c5 c6 cf
  go_enter Tryz.func50, Tryz.ntmps50
  go_wp2_with fail
  go_ret
  exact ⟨rfl, rfl⟩
set_option maxRecDepth 100000 in
set_option maxHeartbeats 1000000 in
theorem parity_any {t n : Nat} (fn : Nat) (hfn : fn = 57 ∨ fn = 49) (ht : 1 ≤ t) (ht2 : t ≤ 40) (w : World) (s : Nat) (h : CodeAt m t n w s) (a : Option Addr) (cap : Nat) (l : List (BitVec 8)) (hl : Pol w a n cap l) (hn : n ≤ 2048) :
    Calls Tryz.prog 48 #[.pointer (some ⟨s, 0, none⟩), .slice a n cap, .func (.func fn) #[.pointer (some ⟨s, 0, none⟩)] #[]] w (ParAt m t l w) := by
  have HT : Hid (Taker fn w s (deg m t) (gen m t)) := by
    rcases hfn with rfl | rfl
    · exact taker_bits ht ht2 h
    · exact taker_byte ht ht2 h
  have HC := Lib.hid h
  have hsl := h.lt
  obtain ⟨f, be, ce, bl, ga, gn, gc, lb, tb, h1, _⟩ := h
  obtain ⟨c0, c1, c2, c3, c4, c5, c6, cf⟩ := code_cells h1
  have hd := deg_560 (m := m) ht2
  have hg := gen_deg (m := m) t
  obtain ⟨D, hD⟩ : ∃ D, D = deg m t := ⟨_, rfl⟩
  rw [← hD] at c3 hd hg HT
  have HD := Lib.hid hD
  have HP := Lib.hid hl
  clear hD h1 c0 c1 c4 c5 c6 cf hl
  rcases hfn with rfl | rfl
  all_goals
    go_enter Tryz.func48, Tryz.ntmps48
    go_wp2_with fail
    refine (newReg_any D (by omega) w).mono ?_
    rintro e w1 ⟨rfl, hR, b1, _⟩
    have hR0 : Hid (Reg w1 w.heap.size (nw D) (prt (gen m t) D (val (l.drop n)))) := by
      show Reg _ _ _ _
      rw [List.drop_eq_nil_of_le (by rw [HP.out.hlen]; exact Nat.le_refl _)]
      show Reg _ _ _ (prt _ _ 0)
      rw [prt_zero hg]; exact hR
    clear c2 c3 hR
    go_wp2_with fail
    go_loopg [9] n (fun gh s9 wx => ∃ (j : Nat), gh = j ∧ j ≤ n ∧ s9 = .int .i64 ((j : Int) - 1) ∧ Hid (Reg wx w.heap.size (nw D) (prt (gen m t) D (val (l.drop j)))) ∧ Below w.heap.size w wx)
    case atStart => exact ⟨n, rfl, Nat.le_refl _, rfl, hR0, b1⟩
    case round =>
      clear hR0 b1
      obtain ⟨j, hgh, hj, rfl, HR, hB⟩ := hrel
      have HGh := Lib.hid hgh
      clear hgh
      by_cases hlt : 0 < j
      · obtain ⟨i, rfl⟩ : ∃ i, j = i + 1 := ⟨j - 1, by omega⟩
        have ei : ((i + 1 : Nat) : Int) - 1 = (i : Int) := by omega
        have ei2 : ((i : Int) + 1) - 1 = (i : Int) := by omega
        have x0 : (0 : Int) ≤ (i : Int) := by omega
        have x1 : (i : Int) < (n : Int) := by omega
        obtain ⟨bb, off, rfl, d1⟩ : ∃ bb off, a = some ⟨bb, off, none⟩ ∧ wr.cell? ⟨bb, off + i, none⟩ = some (.int .u8 (Bits32.b (nth8 l i))) := by
          rcases (HP.out.below hB).hrow with h | ⟨bb, off, e, hr, _⟩
          · omega
          · exact ⟨bb, off, e, hr i (by rw [← HP.out.hlen]; omega)⟩
        have HCl := Lib.hid (HT.out (val (l.drop (i + 1))) (nth8 l i) w.heap.size (nw D) wr hB (Nat.le_refl _) HR.out)
        have HV := Lib.hid (val_drop l i (by rw [← HP.out.hlen]; omega))
        have HI : Hid (i + 1 ≤ n) := hj
        generalize Bits32.b (nth8 l i) = xv at d1 HCl
        clear HR
        go_wp2_with fail
        refine HCl.out.mono ?_
        rintro e w2 ⟨rfl, hR2, hO2⟩
        rw [← HV.out] at hR2
        have HR2 := Lib.hid hR2
        have HB2 := Lib.hid (hB.trans (hO2.below (Nat.le_refl _)))
        clear hR2 hO2 HCl d1
        go_wp2_with fail
        go_roundg i
        case measure => have := HGh.out; omega
        case rel => exact ⟨i, rfl, by have := HI.out; omega, by go_num, HR2, HB2.out⟩
      · obtain rfl : j = 0 := by omega
        have hRf := HR.out
        rw [List.drop_zero] at hRf
        have HC2 := Lib.hid (HC.out.below hB)
        clear HR
        go_wp2_with fail
        refine (parityB_any wr s HC2.out ht2).mono ?_
        rintro e w' ⟨rfl, rfl⟩
        rw [← HD.out]
        have hbn : pb D ≤ 8 * nw D := by unfold pb nw; omega
        clear HC2
        go_wp2_with fail
        refine (bytes_any w.heap.size D _ (nw D) (pb D) wr (by omega) hRf hbn).mono ?_
        rintro e w3 ⟨rfl, hB8, b3⟩
        have HB8 := Lib.hid hB8
        have HB3 := Lib.hid (hB.trans (b3.mono hB.size))
        have hsz := hB.size
        clear hB8 b3 hRf
        go_wp2_with fail
        go_ret2
        obtain rfl := HD.out
        exact ⟨wr.heap.size, rfl, HB8.out, HB3.out, hsz⟩
end
end Go.Proofs.YthmfneepnkgmgaaGreatDoor.Enc
/- The walks over package encode's Serial, Fast, Right, Flip, and what a code tells of itself. By the verifier of shale. -/
namespace Go.Proofs.YthmfneepnkgmgaaGreatDoor.Enc
open Go Go.RowKit Bin Cos
set_option linter.unusedVariables false
section
variable {m : Nat} [M : Pl.Mid m]
set_option maxRecDepth 100000 in
set_option maxHeartbeats 400000 in
theorem parity_bad {t n : Nat} (w : World) (s : Nat) (h : CodeAt m t n w s) (a : Option Addr) (n' cap : Nat) (fv : Value) (hn : n' ≠ n) (y : Addr) (E : ErrAt w 0 y) :
    Calls Tryz.prog 48 #[.pointer (some ⟨s, 0, none⟩), .slice a n' cap, fv] w fun e w' => e = .returned (.tuple #[.slice none 0 0, errOf y]) ∧ Drawn w w' := by
  obtain ⟨f, be, ce, bl, ga, gn, gc, lb, tb, h1, _⟩ := h
  obtain ⟨c0, c1, c2, c3, c4, c5, c6, cf⟩ := code_cells h1
  have t1 : ((n' : Int) == (n : Int)) = false := by rw [beq_eq_false_iff_ne]; omega
  have e1 := E.1
  unfold Sent at e1
  clear h1 c0 c1 c3 c4 c5 c6 cf hn
  go_enter Tryz.func48, Tryz.ntmps48
  go_wp2_with fail
  go_quiet (fail)
  have hd2 := Drawn.mk w nq
  generalize w.drewN nq = w5 at hd2 ⊢
  clear e1
  go_wp2_with fail
  go_ret2
  exact ⟨rfl, hd2⟩
set_option maxHeartbeats 400000 in
theorem serial_any {t n : Nat} (ht : 1 ≤ t) (ht2 : t ≤ 40) (w : World) (s : Nat) (h : CodeAt m t n w s) (a : Option Addr) (cap : Nat) (l : List (BitVec 8)) (hl : Pol w a n cap l) (hn : n ≤ 2048) :
    Calls Tryz.prog 31 #[.pointer (some ⟨s, 0, none⟩), .slice a n cap] w (ParAt m t l w) := by
  have HP := Lib.hid (parity_any _ (Or.inl rfl) ht ht2 w s h a cap l hl hn)
  clear h hl
  go_enter Tryz.func31, Tryz.ntmps31
  go_wp2_with fail
  refine HP.out.mono ?_
  rintro e w1 ⟨g, rfl, hB, b⟩
  have HB := Lib.hid hB
  clear hB
  go_wp2_with fail
  go_ret2
  exact ⟨g, rfl, HB.out, b⟩
set_option maxHeartbeats 400000 in
theorem fast_any {t n : Nat} (ht : 1 ≤ t) (ht2 : t ≤ 40) (w : World) (s : Nat) (h : CodeAt m t n w s) (a : Option Addr) (cap : Nat) (l : List (BitVec 8)) (hl : Pol w a n cap l) (hn : n ≤ 2048) :
    Calls Tryz.prog 24 #[.pointer (some ⟨s, 0, none⟩), .slice a n cap] w (ParAt m t l w) := by
  have HP := Lib.hid (parity_any _ (Or.inr rfl) ht ht2 w s h a cap l hl hn)
  clear h hl
  go_enter Tryz.func24, Tryz.ntmps24
  go_wp2_with fail
  refine HP.out.mono ?_
  rintro e w1 ⟨g, rfl, hB, b⟩
  have HB := Lib.hid hB
  clear hB
  go_wp2_with fail
  go_ret2
  exact ⟨g, rfl, HB.out, b⟩
set_option maxHeartbeats 400000 in
theorem serial_bad {t n : Nat} (w : World) (s : Nat) (h : CodeAt m t n w s) (a : Option Addr) (n' cap : Nat) (hn : n' ≠ n) (y : Addr) (E : ErrAt w 0 y) :
    Calls Tryz.prog 31 #[.pointer (some ⟨s, 0, none⟩), .slice a n' cap] w fun e w' => e = .returned (.tuple #[.slice none 0 0, errOf y]) ∧ Drawn w w' := by
  have HP : Hid (∀ fv, Calls Tryz.prog 48 #[.pointer (some ⟨s, 0, none⟩), .slice a n' cap, fv] w fun e w' => e = .returned (.tuple #[.slice none 0 0, errOf y]) ∧ Drawn w w') := fun fv => parity_bad w s h a n' cap fv hn y E
  clear h hn E
  go_enter Tryz.func31, Tryz.ntmps31
  go_wp2_with fail
  refine (HP.out _).mono ?_
  rintro e w1 ⟨rfl, b⟩
  go_wp2_with fail
  go_ret2
  exact ⟨rfl, b⟩
set_option maxHeartbeats 400000 in
theorem fast_bad {t n : Nat} (w : World) (s : Nat) (h : CodeAt m t n w s) (a : Option Addr) (n' cap : Nat) (hn : n' ≠ n) (y : Addr) (E : ErrAt w 0 y) :
    Calls Tryz.prog 24 #[.pointer (some ⟨s, 0, none⟩), .slice a n' cap] w fun e w' => e = .returned (.tuple #[.slice none 0 0, errOf y]) ∧ Drawn w w' := by
  have HP : Hid (∀ fv, Calls Tryz.prog 48 #[.pointer (some ⟨s, 0, none⟩), .slice a n' cap, fv] w fun e w' => e = .returned (.tuple #[.slice none 0 0, errOf y]) ∧ Drawn w w') := fun fv => parity_bad w s h a n' cap fv hn y E
  clear h hn E
  go_enter Tryz.func24, Tryz.ntmps24
  go_wp2_with fail
  refine (HP.out _).mono ?_
  rintro e w1 ⟨rfl, b⟩
  go_wp2_with fail
  go_ret2
  exact ⟨rfl, b⟩
theorem blk_arg {w : World} {g n : Nat} {l : List (BitVec 8)} (h : Blk8 w g l) (hn : n = l.length) : IsBytes w (.slice (some ⟨g, 0, none⟩) n n) l := IsBytes.mk hn h.row h.lt
theorem pol_bytes {w : World} {a : Option Addr} {n cap : Nat} {l : List (BitVec 8)} (h : Pol w a n cap l) : IsBytes w (.slice a n cap) l := by
  rcases h.hrow with h0 | ⟨bb, off, e, hr, hb⟩
  · have := h.hlen
    subst h0
    exact Or.inl ⟨List.eq_nil_of_length_eq_zero this.symm, _, _, rfl⟩
  · subst e; exact IsBytes.mk h.hlen hr hb
theorem blk_pol {w : World} {g n : Nat} {l : List (BitVec 8)} (h : Blk8 w g l) (hn : n = l.length) (hm : n ≤ 100000) : Pol w (some ⟨g, 0, none⟩) n n l :=
  ⟨hn, Nat.le_refl _, by unfold maxLen; omega, (by intro h; cases h), Or.inr ⟨g, 0, rfl, h.row, h.lt⟩⟩
set_option maxHeartbeats 400000 in
theorem right_any {t n : Nat} (ht : 1 ≤ t) (ht2 : t ≤ 40) (w : World) (s : Nat) (h : CodeAt m t n w s) (a : Option Addr) (cap : Nat) (l : List (BitVec 8)) (hl : Pol w a n cap l) (hn : n ≤ 2048) (a' : Option Addr) (n' cap' : Nat) (q : List (BitVec 8)) (hq : Pol w a' n' cap' q) :
    Calls Tryz.prog 27 #[.pointer (some ⟨s, 0, none⟩), .slice a n cap, .slice a' n' cap'] w fun e w' => e = .returned (.bool (decide (byN (prt (gen m t) (deg m t) (val l)) (pb (deg m t)) = q))) ∧ Below w.heap.size w w' := by
  have HP := Lib.hid (fast_any ht ht2 w s h a cap l hl hn)
  have HQ := Lib.hid hq
  clear h hl hq
  go_enter Tryz.func27, Tryz.ntmps27
  go_wp2_with fail
  refine HP.out.mono ?_
  rintro e w1 ⟨g, rfl, hB, b, _⟩
  have HE := Lib.hid (equal_any _ q _ (.slice a' n' cap') w1 (Str8.of (blk_arg hB (by rw [byN_length]))) (Str8.of (pol_bytes (HQ.out.below b))))
  clear hB
  go_wp2_with fail
  refine HE.out.mono ?_
  rintro e w2 ⟨rfl, rfl⟩
  go_wp2_with fail
  go_ret
  exact ⟨rfl, b⟩
set_option maxHeartbeats 400000 in
theorem right_bad {t n : Nat} (w : World) (s : Nat) (h : CodeAt m t n w s) (a : Option Addr) (nl cap : Nat) (hn : nl ≠ n) (pv : Value) (y : Addr) (E : ErrAt w 0 y) :
    Calls Tryz.prog 27 #[.pointer (some ⟨s, 0, none⟩), .slice a nl cap, pv] w fun e w' => e = .returned (.bool false) ∧ Below w.heap.size w w' := by
  have HP := Lib.hid (fast_bad w s h a nl cap hn y E)
  clear h hn E
  go_enter Tryz.func27, Tryz.ntmps27
  go_wp2_with fail
  refine HP.out.mono ?_
  rintro e w1 ⟨rfl, b⟩
  go_wp2_with fail
  go_ret
  exact ⟨rfl, b.below _⟩
set_option maxHeartbeats 400000 in
theorem bits_code {t n : Nat} (w : World) (s : Nat) (h : CodeAt m t n w s) (hn : n ≤ 2048) (ht2 : t ≤ 40) : Calls Tryz.prog 30 #[.pointer (some ⟨s, 0, none⟩)] w fun e w' => e = .returned (.int .i64 ((8 * n + deg m t : Nat) : Int)) ∧ Drawn w w' := by
  obtain ⟨f, be, ce, bl, ga, gn, gc, lb, tb, h1, _⟩ := h
  obtain ⟨c0, c1, c2, c3, c4, c5, c6, cf⟩ := code_cells h1
  have hd := deg_560 (m := m) ht2
  have e1 : 8 * (n : Int) + (deg m t : Int) = ((8 * n + deg m t : Nat) : Int) := by omega
  rw [← e1]
  generalize deg m t = D at c3 hd ⊢
  clear h1 c0 c1 c4 c5 c6 cf e1
  go_enter Tryz.func30, Tryz.ntmps30
  go_wp2_with fail
  go_quiet (fail)
  have hd2 := Drawn.mk w nq
  generalize w.drewN nq = w5 at hd2 ⊢
  go_wp2_with fail
  go_ret
  exact ⟨rfl, hd2⟩
set_option maxHeartbeats 400000 in
theorem degree_code {t n : Nat} (w : World) (s : Nat) (h : CodeAt m t n w s) : Calls Tryz.prog 66 #[.pointer (some ⟨s, 0, none⟩)] w fun e w' => e = .returned (.int .i64 (deg m t : Int)) ∧ w = w' := by
  obtain ⟨f, be, ce, bl, ga, gn, gc, lb, tb, h1, _⟩ := h
  obtain ⟨c0, c1, c2, c3, c4, c5, c6, cf⟩ := code_cells h1
  clear h1 c0 c1 c2 c4 c5 c6 cf
  go_enter Tryz.func66, Tryz.ntmps66
  go_wp2_with fail
  go_ret
  exact ⟨rfl, rfl⟩
set_option maxHeartbeats 400000 in
theorem t_code {t n : Nat} (w : World) (s : Nat) (h : CodeAt m t n w s) : Calls Tryz.prog 64 #[.pointer (some ⟨s, 0, none⟩)] w fun e w' => e = .returned (.int .i64 (t : Int)) ∧ w = w' := by
  obtain ⟨f, be, ce, bl, ga, gn, gc, lb, tb, h1, _⟩ := h
  obtain ⟨c0, c1, c2, c3, c4, c5, c6, cf⟩ := code_cells h1
  clear h1 c0 c2 c3 c4 c5 c6 cf
  go_enter Tryz.func64, Tryz.ntmps64
  go_wp2_with fail
  go_ret
  exact ⟨rfl, rfl⟩
set_option maxHeartbeats 400000 in
theorem field_code {t n : Nat} (w : World) (s : Nat) (h : CodeAt m t n w s) : Calls Tryz.prog 63 #[.pointer (some ⟨s, 0, none⟩)] w fun e w' => (∃ f be ce bl, e = .returned (.pointer (some ⟨f, 0, none⟩)) ∧ Fld.FldAt m w f be ce bl) ∧ w = w' := by
  obtain ⟨f, be, ce, bl, ga, gn, gc, lb, tb, h1, h2, _⟩ := h
  obtain ⟨c0, c1, c2, c3, c4, c5, c6, cf⟩ := code_cells h1
  have HF := Lib.hid h2
  clear h1 c1 c2 c3 c4 c5 c6 cf h2
  go_enter Tryz.func63, Tryz.ntmps63
  go_wp2_with fail
  go_ret
  exact ⟨⟨f, be, ce, bl, rfl, HF.out⟩, rfl⟩
end
end Go.Proofs.YthmfneepnkgmgaaGreatDoor.Enc
/- The walk over package encode's Flip. By the verifier of shale. -/
namespace Go.Proofs.YthmfneepnkgmgaaGreatDoor.Enc
open Go Go.RowKit Bin Cos
set_option linter.unusedVariables false
section
variable {m : Nat} [M : Pl.Mid m]
/-- what Flip answers: both with a bit turned, in new memory. -/
def FlipAt (D n P k vl vq : Nat) (w : World) (e : Ending) (w' : World) : Prop :=
  ∃ a1 c1 X a2 c2 Y, e = .returned (.tuple #[.slice a1 n c1, .slice a2 P c2, .nilIface]) ∧ NewP w w' a1 n c1 X ∧ NewP w w' a2 P c2 Y ∧
    val X = vl ^^^ (if k < D then 0 else 2 ^ (k - D)) ∧ val Y = vq ^^^ (if k < D then 2 ^ k else 0) ∧ Below w.heap.size w w'
theorem newP_block {w w' : World} {a : Option Addr} {n c : Nat} {X : List (BitVec 8)} (h : NewP w w' a n c X) (hn : 0 < n) : ∃ g, a = some ⟨g, 0, none⟩ ∧ w.heap.size ≤ g ∧ Buf8 w' g X := by
  rcases h.own with ⟨_, h0, _⟩ | h
  · omega
  · exact h
theorem buf_only {w w' : World} {g s : Nat} {X : List (BitVec 8)} (h : Buf8 w g X) (o : Only s w w') (hne : g ≠ s) : Buf8 w' g X := by
  obtain ⟨cur, t, h1, h2⟩ := h
  exact ⟨cur, t, (o.block g hne).trans h1, h2⟩
section
attribute [local go_sem] Bits32.bxor Bits32.bxor_bit
set_option maxRecDepth 100000 in
set_option maxHeartbeats 2000000 in
theorem flip_any {t n : Nat} (ht : 1 ≤ t) (ht2 : t ≤ 40) (w : World) (s : Nat) (h : CodeAt m t n w s) (a : Option Addr) (cap : Nat) (l : List (BitVec 8)) (hl : Pol w a n cap l) (hn : n ≤ 2048) (a' : Option Addr) (cap' : Nat) (q : List (BitVec 8)) (hq : Pol w a' (pb (deg m t)) cap' q) (k : Nat) (hk : k < 8 * n + deg m t) :
    Calls Tryz.prog 26 #[.pointer (some ⟨s, 0, none⟩), .slice a n cap, .slice a' (pb (deg m t)) cap', .int .i64 (k : Int)] w (FlipAt (deg m t) n (pb (deg m t)) k (val l) (val q) w) := by
  have hd := deg_560 (m := m) ht2
  have hd1 := deg_pos M.lo ht
  have HPB := Lib.hid (parityB_any w s h ht2)
  have HBT := Lib.hid (bits_code w s h hn ht2)
  have hsl := h.lt
  obtain ⟨f, be, ce, bl, ga, gn, gc, lb, tb, h1, _⟩ := h
  obtain ⟨c0, c1, c2, c3, c4, c5, c6, cf⟩ := code_cells h1
  have HC := Lib.hid h1
  obtain ⟨D, hD⟩ : ∃ D, D = deg m t := ⟨_, rfl⟩
  obtain ⟨P, hP⟩ : ∃ P, P = pb D := ⟨_, rfl⟩
  have hP2 : P = (D + 7) / 8 := hP
  rw [← hD] at hd hd1 HPB HBT c3 HC hq hk ⊢
  rw [← hP] at HPB hq ⊢
  have HPP := Lib.hid hP2
  have tk : ¬ (k : Int) < 0 := by omega
  have tb' : ¬ ((8 * n + D : Nat) : Int) ≤ (k : Int) := by omega
  obtain ⟨B, hB⟩ : ∃ B, B = 8 * n + D := ⟨_, rfl⟩
  rw [← hB] at tb' HBT hk
  have HBB := Lib.hid hB
  have HL := Lib.hid hl
  have HQ := Lib.hid hq
  have q1 : (D : Int) ≤ 560 := by omega
  have k1 : k ≤ 20000 := by omega
  clear h1 c0 c1 c4 c5 c6 cf hD hP hP2 hB hl hq
  go_enter Tryz.func26, Tryz.ntmps26
  go_wp2_with fail
  refine HPB.out.mono ?_
  rintro e w' ⟨rfl, rfl⟩
  go_wp2_with fail
  refine HBT.out.mono ?_
  rintro e w1 ⟨rfl, hd1'⟩
  have b1 := hd1'.below w.heap.size
  replace HC := Lib.hid ((b1.block s hsl).trans HC.out)
  replace HL := Lib.hid (HL.out.below b1)
  replace HQ := Lib.hid (HQ.out.below b1)
  have hs1 := b1.size
  clear hd1' HPB HBT c2 c3
  go_wp2_with fail
  refine (clone_any a n cap l w1 HL.out (by omega)).mono ?_
  rintro e w2 ⟨ax, cx, rfl, hN1, b2⟩
  go_wp2_with fail
  refine (clone_any a' P cap' q w2 (HQ.out.below b2) (by have := HPP.out; omega)).mono ?_
  rintro e w3 ⟨ay, cy, rfl, hN2, b3⟩
  have b23 := b2.trans (b3.mono b2.size)
  obtain ⟨c0, c1, c2, c3, c4, c5, c6, cf⟩ := code_cells ((b23.block s (by omega)).trans HC.out)
  clear c0 c1 c2 c4 c5 c6 cf
  have hs2 := b2.size
  have hB3 := b1.trans (b23.mono hs1)
  by_cases hkD : k < D
  · have tD : (k : Int) < (D : Int) := by omega
    obtain ⟨g, rfl, hgl, hBf⟩ := newP_block hN2 (by have := HPP.out; omega)
    have hlq := hN2.hlen
    have hi : k / 8 < P := by have := HPP.out; omega
    have x1 : (k : Int) / 8 < (P : Int) := by omega
    have x0 : (0 : Int) ≤ (k : Int) := by omega
    have d1 := hBf.cell (k / 8) (by omega)
    have d2 := hBf.free (k / 8)
    have hset := hBf.set (k / 8) (by omega) (nth8 q (k / 8) ^^^ BitVec.twoPow 8 (k % 8))
    have hv := val_turn q k (by omega)
    have o4 := Only.setCell w3 ⟨g, k / 8, none⟩ (.int .u8 (Bits32.b (nth8 q (k / 8) ^^^ BitVec.twoPow 8 (k % 8))))
    have HE : Hid (FlipAt D n P k (val l) (val q) w (.returned (.tuple #[.slice ax n cx, .slice (some ⟨g, 0, none⟩) P cy, .nilIface])) (w3.setCell ⟨g, k / 8, none⟩ (.int .u8 (Bits32.b (nth8 q (k / 8) ^^^ BitVec.twoPow 8 (k % 8))))).drew) := by
      refine ⟨ax, cx, l, _, cy, q.set (k / 8) (nth8 q (k / 8) ^^^ BitVec.twoPow 8 (k % 8)), rfl, ⟨hN1.hlen, hN1.hcap, hN1.hmost, ?_⟩, ⟨by rw [List.length_set]; exact hN2.hlen, hN2.hcap, hN2.hmost, Or.inr ⟨g, rfl, by omega, buf_drew hset⟩⟩, by rw [if_pos hkD, Nat.xor_zero], by rw [if_pos hkD]; exact hv, (hB3.trans (o4.below (by show _ ≤ g; omega))).drew⟩
      rcases hN1.own with h | ⟨gx, e, hgx, hx⟩
      · exact Or.inl h
      · refine Or.inr ⟨gx, e, by omega, buf_drew (buf_only (hx.below b3 hx.lt) o4 (by show gx ≠ g; have := hx.lt; omega))⟩
    clear hN1 hN2 hBf hset hv o4 b2 b3 b23 hB3 HL HQ HC hlq
    go_wp2_with fail
    go_region
    go_wp2_with fail
    go_ret3
    exact HE.out
  · have tD : ¬ (k : Int) < (D : Int) := by omega
    obtain ⟨j, hj⟩ : ∃ j, j = k - D := ⟨_, rfl⟩
    have ej : (k : Int) - (D : Int) = (j : Int) := by omega
    obtain ⟨g, rfl, hgl, hBf0⟩ := newP_block hN1 (by have := HBB.out; omega)
    have hBf := hBf0.below b3 hBf0.lt
    have hlq := hN1.hlen
    have hi : j / 8 < n := by have := HBB.out; omega
    have x1 : (j : Int) / 8 < (n : Int) := by omega
    have x0 : (0 : Int) ≤ (j : Int) := by omega
    have xj : (j : Int) ≤ 100000 := by omega
    have d1 := hBf.cell (j / 8) (by omega)
    have d2 := hBf.free (j / 8)
    have hset := hBf.set (j / 8) (by omega) (nth8 l (j / 8) ^^^ BitVec.twoPow 8 (j % 8))
    have hv := val_turn l j (by omega)
    have o4 := Only.setCell w3 ⟨g, j / 8, none⟩ (.int .u8 (Bits32.b (nth8 l (j / 8) ^^^ BitVec.twoPow 8 (j % 8))))
    have hglt := hBf0.lt
    have HE : Hid (FlipAt D n P k (val l) (val q) w (.returned (.tuple #[.slice (some ⟨g, 0, none⟩) n cx, .slice ay P cy, .nilIface])) (w3.setCell ⟨g, j / 8, none⟩ (.int .u8 (Bits32.b (nth8 l (j / 8) ^^^ BitVec.twoPow 8 (j % 8))))).drew) := by
      refine ⟨_, cx, l.set (j / 8) (nth8 l (j / 8) ^^^ BitVec.twoPow 8 (j % 8)), ay, cy, q, rfl, ⟨by rw [List.length_set]; exact hN1.hlen, hN1.hcap, hN1.hmost, Or.inr ⟨g, rfl, by omega, buf_drew hset⟩⟩, ⟨hN2.hlen, hN2.hcap, hN2.hmost, ?_⟩, by rw [if_neg hkD, ← hj]; exact hv, by rw [if_neg hkD, Nat.xor_zero], (hB3.trans (o4.below (by show _ ≤ g; omega))).drew⟩
      rcases hN2.own with h | ⟨gx, e, hgx, hx⟩
      · exact Or.inl h
      · refine Or.inr ⟨gx, e, by omega, buf_drew (buf_only hx o4 (by show gx ≠ g; omega))⟩
    clear hN1 hN2 hBf hBf0 hset hv o4 b2 b3 b23 hB3 HL HQ HC hlq hj
    go_wp2_with fail
    go_region
    go_wp2_with fail
    go_ret3
    exact HE.out
end
set_option maxRecDepth 100000 in
set_option maxHeartbeats 1000000 in
theorem flip_num {t n : Nat} (ht2 : t ≤ 40) (w : World) (s : Nat) (h : CodeAt m t n w s) (a : Option Addr) (cap : Nat) (hn : n ≤ 2048) (a' : Option Addr) (cap' : Nat) (z : Int) (hz : z < 0 ∨ ((8 * n + deg m t : Nat) : Int) ≤ z) (y : Addr) (E : ErrAt w 2 y) :
    Calls Tryz.prog 26 #[.pointer (some ⟨s, 0, none⟩), .slice a n cap, .slice a' (pb (deg m t)) cap', .int .i64 z] w fun e w' => e = .returned (.tuple #[.slice none 0 0, .slice none 0 0, errOf y]) ∧ Drawn w w' := by
  have HPB := Lib.hid (parityB_any w s h ht2)
  have HBT := Lib.hid (bits_code w s h hn ht2)
  obtain ⟨f, be, ce, bl, ga, gn, gc, lb, tb, h1, _⟩ := h
  obtain ⟨c0, c1, c2, c3, c4, c5, c6, cf⟩ := code_cells h1
  have HE := Lib.hid E
  have hz2 : decide (z < 0) = true ∨ (decide (z < 0) = false ∧ decide (((8 * n + deg m t : Nat) : Int) ≤ z) = true) := by
    by_cases h : z < 0
    · exact Or.inl (decide_eq_true h)
    · exact Or.inr ⟨decide_eq_false h, decide_eq_true (by omega)⟩
  generalize ((8 * n + deg m t : Nat) : Int) = B at hz2 HBT
  generalize pb (deg m t) = P at HPB ⊢
  clear h1 c0 c1 c3 c4 c5 c6 cf E hz
  rcases hz2 with t1 | ⟨t1, t2⟩
  · have e1 := HE.out.1
    unfold Sent at e1
    go_enter Tryz.func26, Tryz.ntmps26
    go_wp2_with fail
    refine HPB.out.mono ?_
    rintro e w' ⟨rfl, rfl⟩
    go_wp2_with fail
    go_quiet (fail)
    have hd2 := Drawn.mk w nq
    generalize w.drewN nq = w5 at hd2 ⊢
    clear e1
    go_wp2_with fail
    go_ret3
    exact ⟨rfl, hd2⟩
  · go_enter Tryz.func26, Tryz.ntmps26
    go_wp2_with fail
    refine HPB.out.mono ?_
    rintro e w' ⟨rfl, rfl⟩
    go_wp2_with fail
    refine HBT.out.mono ?_
    rintro e w1 ⟨rfl, hd1⟩
    have e1 := (HE.out.below (hd1.below _)).1
    unfold Sent at e1
    clear HBT HPB HE
    go_wp2_with fail
    go_quiet (fail)
    have hd2 := hd1.trans (Drawn.mk w1 nq)
    generalize w1.drewN nq = w5 at hd2 ⊢
    clear e1 hd1
    go_wp2_with fail
    go_ret3
    exact ⟨rfl, hd2⟩
set_option maxRecDepth 100000 in
set_option maxHeartbeats 1000000 in
theorem flip_long {t n : Nat} (ht2 : t ≤ 40) (w : World) (s : Nat) (h : CodeAt m t n w s) (a : Option Addr) (cap : Nat) (a' : Option Addr) (n' cap' : Nat) (hn' : n' ≠ pb (deg m t)) (z : Int) (y : Addr) (E : ErrAt w 0 y) :
    Calls Tryz.prog 26 #[.pointer (some ⟨s, 0, none⟩), .slice a n cap, .slice a' n' cap', .int .i64 z] w fun e w' => e = .returned (.tuple #[.slice none 0 0, .slice none 0 0, errOf y]) ∧ Drawn w w' := by
  have HPB := Lib.hid (parityB_any w s h ht2)
  obtain ⟨f, be, ce, bl, ga, gn, gc, lb, tb, h1, _⟩ := h
  obtain ⟨c0, c1, c2, c3, c4, c5, c6, cf⟩ := code_cells h1
  have e1 := E.1
  unfold Sent at e1
  generalize pb (deg m t) = P at HPB hn' ⊢
  have t1 : ((n' : Int) == (P : Int)) = false := by rw [beq_eq_false_iff_ne]; omega
  clear h1 c0 c1 c3 c4 c5 c6 cf E hn'
  go_enter Tryz.func26, Tryz.ntmps26
  go_wp2_with fail
  refine HPB.out.mono ?_
  rintro e w' ⟨rfl, rfl⟩
  go_wp2_with fail
  go_quiet (fail)
  have hd2 := Drawn.mk w nq
  generalize w.drewN nq = w5 at hd2 ⊢
  clear e1
  go_wp2_with fail
  go_ret3
  exact ⟨rfl, hd2⟩
end
end Go.Proofs.YthmfneepnkgmgaaGreatDoor.Enc
/- The reference's Least. By the verifier of shale. -/
namespace Go.Proofs.YthmfneepnkgmgaaGreatDoor.Cos
open Go Go.RowKit
set_option linter.unusedVariables false
/-- the places at which an unlike coset is met. -/
def leadsI (m : Nat) : Nat → List Nat
  | 0 => []
  | k + 1 => if cov m (leads m 1 2 k) ((1 + 2 * k) % sz m) then leadsI m k else leadsI m k ++ [1 + 2 * k]
theorem leadsI_map (m : Nat) : ∀ k, (leadsI m k).map (· % sz m) = leads m 1 2 k
  | 0 => rfl
  | k + 1 => by
    rw [leadsI, leads]
    split
    · exact leadsI_map m k
    · rw [List.map_append, leadsI_map m k]; rfl
theorem leadsI_len (m k : Nat) : (leadsI m k).length = (leads m 1 2 k).length := by rw [← leadsI_map, List.length_map]
theorem contains_of_mem {l k : List Nat} (h : ∀ x, x ∈ l ↔ x ∈ k) (y : Nat) : l.contains y = k.contains y := by
  rw [Bool.eq_iff_iff]; simp [h y]
theorem cov_orbit {m f : Nat} (hm : 3 ≤ m) (hf : f < sz m) (fs : List Nat) (hfs : ∀ x ∈ fs, x < sz m) (hc : cov m fs f = false) (j : Nat) : cov m fs (orb (sz m) f j) = false := by
  rw [Bool.eq_false_iff]
  intro h
  unfold cov at h
  rw [List.any_eq_true] at h
  obtain ⟨l, hl, hj⟩ := h
  have hj' : orb (sz m) f j ∈ cos m l := by simpa using hj
  obtain ⟨d, hd⟩ := per_exists hm hf
  have hoj : orb (sz m) f j ∈ cos m f := by
    rw [← (lst_perm hm hf hd).mem_iff, mem_lst hd]; exact ⟨j, rfl⟩
  have e1 := cos_same hm (hfs l hl) hj'
  have e2 := cos_same hm hf hoj
  have : f ∈ cos m l := by rw [← e1, e2]; exact cos_first hm hf
  have hcf : cov m fs f = true := by
    unfold cov
    rw [List.any_eq_true]
    exact ⟨l, hl, by simpa using this⟩
  rw [hcf] at hc
  exact absurd hc (by decide)
def RLeastAt (m t : Nat) (w : World) (e : Ending) (w' : World) : Prop :=
  (dgs m (leads m 1 2 t) < sz m ∧ ∃ a n c, e = .returned (.tuple #[.int .i64 ((dgs m (leads m 1 2 t) : Nat) : Int), .slice a n c, .int .i64 0]) ∧ Pl.RowZ w' a n c (ints (leadsI m t)) ∧ Below w.heap.size w w') ∨
  (sz m ≤ dgs m (leads m 1 2 t) ∧ e = .returned (.tuple #[.int .i64 0, .slice none 0 0, .int .i64 105]) ∧ Below w.heap.size w w')
set_option maxRecDepth 100000 in
set_option maxHeartbeats 2000000 in
theorem rleast_any (m t : Nat) (hm : 3 ≤ m) (hm2 : m ≤ 14) (ht1 : 1 ≤ t) (ht2 : t ≤ 40) (w : World) :
    Calls Tryz.prog 58 #[.int .i64 (m : Int), .int .i64 (t : Int)] w (RLeastAt m t w) := by
  have h1 : ¬ (m : Int) < 3 := by omega
  have h2 : ¬ (14 : Int) < (m : Int) := by omega
  have h3 : ¬ (t : Int) < 1 := by omega
  have h4 : ¬ (40 : Int) < (t : Int) := by omega
  have hm14 : (m : Int) ≤ 14 := by omega
  have ho := Fld.shl_one m hm2
  have hn7 := sz_lo hm
  have hn2 := sz_hi hm2
  have hw : IntKind.i64.wrap ((Fld.els m : Int) - 1) = (sz m : Int) := by
    have : (Fld.els m : Int) - 1 = (sz m : Int) := by unfold Fld.els sz; have := Nat.two_pow_pos m; omega
    rw [this]; exact IntWalk.i64_in _ (by omega)
  obtain ⟨i0, hi, hz0, hz1, hz2⟩ := info64
  obtain ⟨N, hN⟩ : ∃ N, N = sz m := ⟨_, rfl⟩
  rw [← hN] at hw hn7 hn2
  have HN := Lib.hid hN
  clear hN
  have HD : Hid (∀ k, k ≤ t → dgs m (leads m 1 2 k) ≤ 560) := by
    show ∀ _, _
    intro k hk
    have a1 := dgs_le hm (leads m 1 2 k) (leads_lt hm 1 2 k)
    have a2 := leads_le m 1 2 k
    have a3 : m * (leads m 1 2 k).length ≤ 14 * 40 := Nat.mul_le_mul hm2 (by omega)
    omega
  have hmk := madeB w N (by omega)
  go_enter Tryz.func58, Tryz.ntmps58
  go_wp2_with fail
  have hb1 : Below w.heap.size w (w.alloc (objB (List.replicate N false))) := (Below.refl _ _).alloc (Nat.le_refl _) _
  have hf1 : BF (w.alloc (objB (List.replicate N false))) w.heap.size N (cov m (leads m 1 2 0)) := (BF.new w N).of fun i hi => by simp [leads, cov]
  clear hmk hw
  try rw [ho]
  generalize w.alloc (objB (List.replicate N false)) = w1 at hb1 hf1 ⊢
  go_loopg [9, 10, 11] t (fun gh s9 s10 s11 wx => ∃ (k n2 : Nat), gh = t - k ∧ k ≤ t ∧ n2 ≤ k ∧ s11 = .int .i64 (1 + 2 * (k : Int)) ∧ s9 = .int .i64 ((dgs m (leads m 1 2 k) : Nat) : Int) ∧ Own64 wx (w.heap.size + 1) s10 n2 (ints (leadsI m k)) ∧ BF wx w.heap.size N (cov m (leads m 1 2 k)) ∧ Below w.heap.size w wx)
  case atStart => exact ⟨0, 0, rfl, Nat.zero_le _, Nat.le_refl _, rfl, rfl, Own64.nil _ _, hf1, hb1⟩
  case round =>
    clear hf1 hb1
    obtain ⟨k, n2, hg, hk, hnk, rfl, rfl, hO, hF, hB⟩ := hrel
    have HG := Lib.hid hg
    clear hg
    obtain ⟨av, cv, rfl⟩ := own_slice hO
    have hbs := hB.size
    have hFl := hF.lt
    have hD0 := HD.out k hk
    by_cases hlt : k < t
    · have t1 : decide (1 + 2 * (k : Int) < 2 * (t : Int)) = true := decide_eq_true (by omega)
      obtain ⟨f, hfe⟩ : ∃ f, f = (1 + 2 * k) % N := ⟨_, rfl⟩
      have e1 : (1 + 2 * (k : Int)).tmod (N : Int) = (f : Int) := by
        rw [Int.tmod_eq_emod_of_nonneg (by omega), hfe, show 1 + 2 * (k : Int) = ((1 + 2 * k : Nat) : Int) by omega, Int.natCast_emod]
      have hfN : f < N := by rw [hfe]; exact Nat.mod_lt _ (by omega)
      have d1 := hF.cell hfN
      have hL : leads m 1 2 (k + 1) = if cov m (leads m 1 2 k) f then leads m 1 2 k else leads m 1 2 k ++ [f] := by rw [leads, ← HN.out, ← hfe]
      have hLI : leadsI m (k + 1) = if cov m (leads m 1 2 k) f then leadsI m k else leadsI m k ++ [1 + 2 * k] := by rw [leadsI, ← HN.out, ← hfe]
      have x0 : (0 : Int) ≤ (f : Int) := by omega
      have x1 : (f : Int) < (N : Int) := by omega
      have HO := Lib.hid hO
      have HF := Lib.hid hF
      have HB := Lib.hid hB
      clear hfe
      by_cases hcv : cov m (leads m 1 2 k) f = true
      · rw [hcv] at d1 hL hLI
        have HL : Hid (leads m 1 2 (k + 1) = leads m 1 2 k) := by show _ = _; rw [hL, if_pos rfl]
        have HLI : Hid (leadsI m (k + 1) = leadsI m k) := by show _ = _; rw [hLI, if_pos rfl]
        clear hcv hL hLI hO hF hB
        go_wp2_with fail
        go_roundg (t - (k + 1))
        case measure => have := HG.out; omega
        case rel => exact ⟨k + 1, n2, rfl, by omega, by omega, by go_num, by rw [HL.out], by rw [HLI.out]; exact HO.out, by rw [HL.out]; exact HF.out, HB.out⟩
      · have hcv' : cov m (leads m 1 2 k) f = false := Bool.eq_false_iff.2 hcv
        rw [hcv'] at d1 hL hLI
        have HL : Hid (leads m 1 2 (k + 1) = leads m 1 2 k ++ [f]) := by show _ = _; rw [hL, if_neg (by decide)]
        have HLI : Hid (ints (leadsI m (k + 1)) = ints (leadsI m k) ++ [1 + 2 * (k : Int)]) := by show _ = _; rw [hLI, if_neg (by decide), ints_snoc]; rfl
        have hfs : f < sz m := by rw [← HN.out]; exact hfN
        obtain ⟨d, hd⟩ := per_exists hm hfs
        have HCO : Hid (∀ j, cov m (leads m 1 2 k) (orb N f j) = false) := fun j => by rw [HN.out]; exact cov_orbit hm hfs _ (leads_lt hm 1 2 k) hcv' j
        have HLN : Hid (∀ j, j < d → (lst N f j).contains (orb N f j) = false) := fun j hj => by rw [HN.out]; exact lst_new (sz_odd hm) hfs hd hj
        have HLO : Hid ((lst N f d).contains (orb N f d) = true) := by show _ = _; rw [HN.out]; exact lst_old hfs hd
        have HCC : Hid (∀ y, (lst N f d).contains y = (cos m f).contains y) := fun y => by rw [HN.out]; exact contains_of_mem (fun x => (lst_perm hm hfs hd).mem_iff) y
        have hdl : d = (cos m f).length := (cos_length hm hfs hd).symm
        have HDG : Hid (dgs m (leads m 1 2 (k + 1)) = dgs m (leads m 1 2 k) + d) := by show _ = _; rw [HL.out, dgs_snoc, hdl]
        have hD1 := HD.out (k + 1) (by omega)
        rw [HDG.out] at hD1
        obtain ⟨D, hDe⟩ : ∃ D, D = dgs m (leads m 1 2 k) := ⟨_, rfl⟩
        rw [← hDe] at hD1 hD0 ⊢
        have HDe := Lib.hid hDe
        have e0 : orb N f 0 = f := orb_zero hfN
        clear hcv hL hLI hd hdl hDe hcv' hO hF hB hfs
        have ho5 := HO.out
        go_wp2_with (at_builtin; refine wpList_append_own _ rfl _ _ 33 rfl (w.heap.size + 1) 3 i0 (.int .i64 0) 1 8 Tryz.underlying33 hi hz0 hz1 hz2 rfl (by decide) _ n2 _ rfl (World.ownsRow.alloc ho5 _) ⟨wr.heap.size, 0, none⟩ 1 1 [.int .i64 (1 + 2 * (k : Int))] rfl rfl (cell_one_new _ _ _) (ints_oneCell .i64 [_]) (by unfold maxLen; omega) (by omega) (by simp; omega) ?_; intro v7 w7 hown7 hgrow _)
        have ho7 : Own64 w7 (w.heap.size + 1) v7 (n2 + 1) (ints (leadsI m (k + 1))) := by
          unfold Own64
          rw [HLI.out, ← cells64_append]
          exact hown7
        have b7 : Below w.heap.size w w7 := (HB.out.alloc hbs _).grown hgrow (by simp; omega) (fun g hg => by have := (ho5.block g hg).1; omega)
        have hf7 : BF w7 w.heap.size N (fun y => cov m (leads m 1 2 k) y || (lst N f 0).contains y) := by
          have h1 := hgrow.block w.heap.size (by simp; omega) (fun e => by have := (ho5.block _ e.symm).1; omega)
          refine BF.of (p := cov m (leads m 1 2 k)) (h1.trans ((((Below.refl wr.heap.size wr).alloc (Nat.le_refl _) _).block _ hFl).trans HF.out)) fun i hi => by simp [lst]
        have HO7 := Lib.hid ho7
        clear hown7 hgrow ho5 ho7 HO HF HB d1
        obtain ⟨W7, rfl⟩ : ∃ W7, W7 = w7 := ⟨_, rfl⟩
        go_wp2_with fail
        go_loopg [9, 12] d (fun gh s9 s12 wx => ∃ (j : Nat), gh = d - j ∧ j ≤ d ∧ s12 = .int .i64 ((orb N f j : Nat) : Int) ∧ s9 = .int .i64 ((D + j : Nat) : Int) ∧ BF wx w.heap.size N (fun y => cov m (leads m 1 2 k) y || (lst N f j).contains y) ∧ Hid (Own64 wx (w.heap.size + 1) v7 (n2 + 1) (ints (leadsI m (k + 1)))) ∧ Below w.heap.size w wx)
        case atStart => exact ⟨0, rfl, Nat.zero_le _, by rw [e0], by rw [Nat.add_zero], hf7, HO7, b7⟩
        case round =>
          clear hf7 HO7 b7 e0
          obtain ⟨j, hg, hj, rfl, rfl, hF, HO, hB⟩ := hrel
          have HG2 := Lib.hid hg
          clear hg
          have hxN : orb N f j < N := orb_lt (by omega) _ _
          have d1 := hF.cell hxN
          obtain ⟨hB2, hC⟩ := dbl_go hn7 hn2 hxN
          rw [← orb_succ] at hC
          by_cases hlt2 : j < d
          · have ev : (cov m (leads m 1 2 k) (orb N f j) || (lst N f j).contains (orb N f j)) = false := by rw [HCO.out j, HLN.out j hlt2]; rfl
            rw [ev] at d1
            have d2 := hF.free (orb N f j)
            have HF2 : Hid (BF (wr.setCell ⟨w.heap.size, orb N f j, none⟩ (.bool true)) w.heap.size N (fun y => cov m (leads m 1 2 k) y || (lst N f (j + 1)).contains y)) := (hF.set _).of fun y hy => by rw [lst_succ, contains_snoc, Bool.or_assoc]
            have HO2 : Hid (Own64 (wr.setCell ⟨w.heap.size, orb N f j, none⟩ (.bool true)) (w.heap.size + 1) v7 (n2 + 1) (ints (leadsI m (k + 1)))) := HO.out.set ⟨w.heap.size, orb N f j, none⟩ (.bool true) (by show w.heap.size < w.heap.size + 1; omega)
            have HB2 : Hid (Below w.heap.size w (wr.setCell ⟨w.heap.size, orb N f j, none⟩ (.bool true))) := hB.setCell (p := ⟨w.heap.size, orb N f j, none⟩) (Nat.le_refl _) _
            have hDj : D + j + 1 ≤ 560 := by omega
            generalize orb N f j = x at hxN d1 d2 hB2 hC HF2 HO2 HB2 ⊢
            have x0' : (0 : Int) ≤ (x : Int) := by omega
            have x1' : (x : Int) < (N : Int) := by omega
            clear hF hB HO ev
            go_wp2_with fail
            go_roundg (d - (j + 1))
            case measure => have := HG2.out; omega
            case rel => exact ⟨j + 1, rfl, by omega, rfl, by go_num, HF2.out, HO2, HB2.out⟩
          · obtain rfl : j = d := by omega
            have ev : (cov m (leads m 1 2 k) (orb N f j) || (lst N f j).contains (orb N f j)) = true := by rw [HLO.out, Bool.or_true]
            rw [ev] at d1
            have HFE : Hid (BF wr w.heap.size N (cov m (leads m 1 2 (k + 1)))) := hF.of fun y hy => by rw [HL.out, cov_snoc, HCC.out]
            have HBE := Lib.hid hB
            have HGE : Hid (((D + j : Nat) : Int) = ((dgs m (leads m 1 2 (k + 1)) : Nat) : Int)) := by show _ = _; rw [HDG.out, HDe.out]
            generalize orb N f j = x at hxN d1 hB2 hC ⊢
            have x0' : (0 : Int) ≤ (x : Int) := by omega
            have x1' : (x : Int) < (N : Int) := by omega
            rw [HGE.out]
            clear hF hB ev hlt2 hC hB2
            go_wp2_with fail
            go_roundg (t - (k + 1))
            case measure => have := HG.out; omega
            case rel => exact ⟨k + 1, n2 + 1, rfl, by omega, by omega, by go_num, rfl, HO.out, HFE.out, HBE.out⟩
    · obtain rfl : k = t := by omega
      have t1 : decide (1 + 2 * (k : Int) < 2 * (k : Int)) = false := decide_eq_false (by omega)
      have RO := (Pl.own_rowz hO).1
      obtain ⟨D, hDe⟩ : ∃ D, D = dgs m (leads m 1 2 k) := ⟨_, rfl⟩
      rw [← hDe] at hD0 ⊢
      have HDe := Lib.hid hDe
      have HRO := Lib.hid RO
      clear hDe hO hF RO
      by_cases hd : N ≤ D
      · have t2 : decide ((N : Int) ≤ (D : Int)) = true := decide_eq_true (by omega)
        go_wp2_with fail
        go_ret3
        exact Or.inr ⟨by rw [← HDe.out, ← HN.out]; exact hd, rfl, hB⟩
      · have t2 : decide ((N : Int) ≤ (D : Int)) = false := decide_eq_false (by omega)
        have hd' : ¬ (N : Int) ≤ (D : Int) := by omega
        go_wp2_with fail
        go_ret3
        exact Or.inl ⟨by rw [← HDe.out, ← HN.out]; omega, av, n2, cv, by rw [← HDe.out]; rfl, HRO.out, hB⟩
end Go.Proofs.YthmfneepnkgmgaaGreatDoor.Cos
/- shaleref2's words on bits: bit, Bit, Degree, bits. By the verifier of shale. -/
namespace Go.Proofs.YthmfneepnkgmgaaGreatDoor.Bin
open Go Go.RowKit
set_option linter.unusedVariables false
def bz (b : Bool) : Int := if b then 1 else 0
theorem bz_bounds (b : Bool) : 0 ≤ bz b ∧ bz b ≤ 1 := by cases b <;> decide
theorem bz_xor (a b : Bool) : bits .xor .i64 (bz a) (bz b) = bz (a ^^ b) := by cases a <;> cases b <;> rfl
/-- the lowest n bits of V, a list of noughts and ones. -/
def bitL (V n : Nat) : List Int := (List.range n).map fun i => bz (V.testBit i)
theorem bitL_length (V n : Nat) : (bitL V n).length = n := by simp [bitL]
theorem nth_bitL (V n i : Nat) (h : i < n) : nth64 (bitL V n) i = bz (V.testBit i) := by
  unfold nth64 bitL
  simp [h]
theorem bitL_zero (n : Nat) : List.replicate n 0 = bitL 0 n := by
  apply List.ext_getElem
  · simp [bitL]
  · intro i h1 h2
    simp [bitL, bz]
theorem bitL_set (V n i : Nat) (b : Bool) : (bitL V n).set i (bz (V.testBit i ^^ b)) = bitL (V ^^^ (if b then 2 ^ i else 0)) n := by
  apply List.ext_getElem
  · simp [bitL]
  · intro j h1 h2
    rw [List.getElem_set]
    simp only [bitL, List.getElem_map, List.getElem_range]
    by_cases e : i = j
    · subst e
      rw [if_pos rfl, Nat.testBit_xor]
      cases b <;> simp
    · rw [if_neg e, Nat.testBit_xor]
      cases b
      · simp
      · simp [Nat.testBit_two_pow_of_ne e]
theorem bitL_one (V n i : Nat) (h : V.testBit i = false) : (bitL V n).set i 1 = bitL (V ^^^ 2 ^ i) n := by
  have := bitL_set V n i true
  rw [h] at this
  exact this
theorem bitZ_bz (l : List (BitVec 8)) (i : Nat) : bitZ l (i : Int) = bz ((val l).testBit i) := by
  unfold bitZ bz
  rw [if_neg (by omega)]; rfl
set_option maxRecDepth 100000 in
set_option maxHeartbeats 1000000 in
theorem rbit_any (a : Option Addr) (n cap : Nat) (l : List (BitVec 8)) (i : Int) (w : World) (h : Pol w a n cap l) (hi : i ≤ 9223372036854775807) :
    Calls Tryz.prog 78 #[.slice a n cap, .int .i64 i] w fun e w' => e = .returned (.int .i64 (bitZ l i)) ∧ w = w' := by
  have hm : n ≤ maxLen := Nat.le_trans h.hcap h.hmost
  unfold maxLen at hm
  by_cases h0 : i < 0
  · have hv : bitZ l i = 0 := by unfold bitZ; rw [if_pos h0]
    rw [hv]
    have t := decide_eq_true h0
    clear hv h h0
    go_enter Tryz.func78, Tryz.ntmps78
    go_wp2_with fail
    go_ret
    exact ⟨rfl, rfl⟩
  · obtain ⟨k, rfl⟩ : ∃ k : Nat, i = (k : Int) := ⟨i.toNat, by omega⟩
    have t := decide_eq_false h0
    have hv : bitZ l (k : Int) = if (nth8 l (k / 8)).getLsbD (k % 8) then 1 else 0 := by
      unfold bitZ
      rw [if_neg h0, val_bit]; rfl
    by_cases h1 : k / 8 < n
    · obtain ⟨bb, off, rfl, hr, hb⟩ : ∃ bb off, a = some ⟨bb, off, none⟩ ∧ Row8 w bb off l ∧ bb < w.heap.size := by
        rcases h.hrow with h | h
        · omega
        · exact h
      have c1 := hr (k / 8) (by have := h.hlen; omega)
      have x1 : (k : Int) / 8 < (n : Int) := by omega
      have x0 : (0 : Int) ≤ (k : Int) := by omega
      have hb1 : bits .and .i64 (Bits32.b (nth8 l (k / 8)) / 2 ^ (k % 8)) 1 = bitZ l (k : Int) := by
        have h1 := bit_one8 (nth8 l (k / 8)) (k % 8) (by omega)
        rw [← hv] at h1
        rw [b_shr] at h1 ⊢
        have h2 := and_one (Bits32.b (nth8 l (k / 8) >>> (k % 8)))
        have h3 : bits .and .u8 (Bits32.b (nth8 l (k / 8) >>> (k % 8))) 1 = Bits32.b (nth8 l (k / 8) >>> (k % 8)) % 2 := by
          show IntKind.u8.wrap ((BitVec.ofInt 8 (Bits32.b (nth8 l (k / 8) >>> (k % 8))) &&& BitVec.ofInt 8 1).toNat : Int) = _
          rw [Bits32.ofInt8, BitVec.toNat_and, show (BitVec.ofInt 8 1).toNat = 2 ^ 1 - 1 by decide, Nat.and_two_pow_sub_one_eq_mod]
          unfold Bits32.b
          show (((nth8 l (k / 8) >>> (k % 8)).toNat % 2 ^ 1 : Nat) : Int) % 256 = _
          omega
        rw [h2, ← h3, h1]
      have e0 := b_shr (nth8 l (k / 8)) (k % 8)
      have z0 := Bits32.b_lo (nth8 l (k / 8) >>> (k % 8))
      have z1 := Bits32.b_hi (nth8 l (k / 8) >>> (k % 8))
      rw [e0] at hb1
      clear hv h hr hb h0 h1
      go_enter Tryz.func78, Tryz.ntmps78
      go_wp2_with fail
      go_ret
      exact ⟨rfl, rfl⟩
    · have hz : bitZ l (k : Int) = 0 := by
        rw [hv, nth8_far l (k / 8) (by have := h.hlen; omega)]; simp
      rw [hz]
      have x1 : ¬ ((k : Int) / 8 < (n : Int)) := by omega
      have x0 : (0 : Int) ≤ (k : Int) := by omega
      clear hv hz h h0
      go_enter Tryz.func78, Tryz.ntmps78
      go_wp2_with fail
      go_ret
      exact ⟨rfl, rfl⟩
/-- no bit from k on. -/
theorem degZ_bit {v k : Nat} (h : v < 2 ^ (k + 1)) (hb : v.testBit k = true) : degZ v = (k : Int) := by
  have h1 := Nat.ge_two_pow_of_testBit hb
  have h2 := Nat.two_pow_pos k
  rw [degZ_ne (by omega), (show Deg v k from ⟨h1, h⟩).log2]
set_option maxRecDepth 100000 in
set_option maxHeartbeats 1000000 in
theorem rdeg_any (a : Option Addr) (n cap : Nat) (l : List (BitVec 8)) (w : World) (h : Pol w a n cap l) (hn : n ≤ 100000) :
    Calls Tryz.prog 114 #[.slice a n cap] w fun e w' => e = .returned (.int .i64 (degZ (val l))) ∧ w = w' := by
  have HP := Lib.hid h
  have HV : Hid (val l < 2 ^ (8 * n)) := by rw [h.hlen]; exact val_lt l
  obtain ⟨N, hN⟩ : ∃ N, N = 8 * n := ⟨_, rfl⟩
  have eN : (8 : Int) * (n : Int) - 1 = (N : Int) - 1 := by omega
  rw [← hN] at HV
  have bN : N ≤ 800000 := by omega
  clear h hN
  go_enter Tryz.func114, Tryz.ntmps114
  go_wp2_with fail
  go_loopg [3] N (fun gh s3 wx => ∃ k : Nat, gh = k ∧ k ≤ N ∧ s3 = .int .i64 ((k : Int) - 1) ∧ Hid (val l < 2 ^ k) ∧ w = wx)
  case atStart => exact ⟨N, rfl, Nat.le_refl _, rfl, HV.out, rfl⟩
  case round =>
    clear eN
    obtain ⟨k, hg, hk, rfl, HK, rfl⟩ := hrel
    have HG := Lib.hid hg
    clear hg
    rcases k with _ | k
    · have HF : Hid (degZ (val l) = -1) := by
        show _ = _
        have := HK.out
        rw [show val l = 0 by simpa using this]; rfl
      clear HK
      go_wp2_with fail
      go_ret
      exact ⟨ret_i64 HF.out.symm, rfl⟩
    · have x0 : (0 : Int) ≤ (k : Int) := by omega
      have hbz := bitZ_bz l k
      rcases Bool.eq_false_or_eq_true ((val l).testBit k) with hb | hb
      · have HF := Lib.hid (degZ_bit HK.out hb)
        rw [hb] at hbz
        have hbz : bitZ l (k : Int) = 1 := hbz
        clear HK hb
        go_wp2_with fail
        refine (rbit_any a n cap l (k : Int) w HP.out (by omega)).mono ?_
        rintro e w1 ⟨rfl, rfl⟩
        rw [hbz]
        clear hbz
        go_wp2_with fail
        go_ret
        exact ⟨ret_i64 HF.out.symm, rfl⟩
      · have HF := Lib.hid (lt_of_bit HK.out hb)
        rw [hb] at hbz
        have hbz : bitZ l (k : Int) = 0 := hbz
        clear HK hb
        go_wp2_with fail
        refine (rbit_any a n cap l (k : Int) w HP.out (by omega)).mono ?_
        rintro e w1 ⟨rfl, rfl⟩
        rw [hbz]
        clear hbz
        go_wp2_with fail
        go_roundg k
        case measure => have := HG.out; omega
        case rel => exact ⟨k, rfl, by omega, rfl, HF.out, rfl⟩
/-- a slice of this call's own, with what is behind its end not looked at: one byte set. -/
theorem Own8.stored {w : World} {base g cap n : Nat} {l : List (BitVec 8)} (h : Own8 w base (.slice (some ⟨g, 0, none⟩) n cap) n l) (j : Nat) (c : BitVec 8) :
    Own8 (w.setCell ⟨g, j, none⟩ (.int .u8 (Bits32.b c))) base (.slice (some ⟨g, 0, none⟩) n cap) n (l.set j c) ∧ w.grownBy (w.setCell ⟨g, j, none⟩ (.int .u8 (Bits32.b c))) (some g) := by
  have := World.ownsRow.stored h j (.int .u8 (Bits32.b c))
  refine ⟨?_, this.2⟩
  unfold Own8
  have e : cells8 (l.set j c) = (cells8 l).set j (.int .u8 (Bits32.b c)) := by unfold cells8; rw [List.map_set]
  rw [e]
  exact this.1
theorem val_zero_end (l : List (BitVec 8)) : val (l ++ [0]) = val l := by
  apply val_ext
  intro i
  unfold nth8
  rw [List.getD_eq_getElem?_getD, List.getD_eq_getElem?_getD, List.getElem?_append]
  by_cases h : i < l.length
  · rw [if_pos h]
  · rw [if_neg h, List.getElem?_eq_none (l := l) (by omega)]
    rcases Nat.eq_zero_or_pos (i - l.length) with e | e
    · rw [e]; rfl
    · rw [List.getElem?_eq_none (by rw [List.length_singleton]; omega)]
theorem bare_set (l : List (BitVec 8)) (j b : Nat) (hl : l.length = j + 1) (hb : b < 8) (h0 : (nth8 l j).getLsbD b = false) : Bare (l.set j (nth8 l j ^^^ BitVec.twoPow 8 b)) := by
  intro _ h
  rw [List.length_set, hl, Nat.add_sub_cancel, nth8_set _ _ _ _ (by omega), if_pos rfl] at h
  have : (nth8 l j ^^^ BitVec.twoPow 8 b).getLsbD b = (0 : BitVec 8).getLsbD b := by rw [h]
  rw [BitVec.getLsbD_xor, h0, BitVec.getLsbD_twoPow] at this
  simp [hb] at this
theorem or_two (c : BitVec 8) (b : Nat) (h0 : c.getLsbD b = false) : c ||| BitVec.twoPow 8 b = c ^^^ BitVec.twoPow 8 b := by
  apply BitVec.eq_of_getLsbD_eq
  intro i hi
  rw [BitVec.getLsbD_or, BitVec.getLsbD_xor]
  by_cases e : i = b
  · subst e; rw [h0]; simp
  · simp [BitVec.getLsbD_twoPow, Ne.symm e]
theorem bor_bit (c : BitVec 8) (b : Nat) (hb : b < 8) (h0 : c.getLsbD b = false) : bits .or .u8 (Bits32.b c) (2 ^ b % 256) = Bits32.b (c ^^^ BitVec.twoPow 8 b) := by
  have := Bits32.bit8 b
  rw [Nat.mod_eq_of_lt hb] at this
  rw [this, bor8, or_two c b h0]
end Go.Proofs.YthmfneepnkgmgaaGreatDoor.Bin
/- shaleref2.bits: a polynomial of a list of noughts and ones. By the verifier of shale. -/
namespace Go.Proofs.YthmfneepnkgmgaaGreatDoor.Bin
open Go Go.RowKit
set_option linter.unusedVariables false
theorem Own8.slice {w : World} {base m : Nat} {v : Value} {l : List (BitVec 8)} (h : Own8 w base v (m + 1) l) : ∃ g cap, v = .slice (some ⟨g, 0, none⟩) (m + 1) cap := ownsRow_succ h
theorem Own8.cellA {w : World} {base g n cap : Nat} {l : List (BitVec 8)} (h : Own8 w base (.slice (some ⟨g, 0, none⟩) n cap) n l) (j : Nat) (hj : j < n) : w.cell? ⟨g, j, none⟩ = some (.int .u8 (Bits32.b (nth8 l j))) := by
  have hl := h.len
  have := World.ownsRow.cellAt h j (by omega)
  rw [this]
  unfold cells8 nth8
  simp [show j < l.length by omega]
theorem Own8.freeA {w : World} {base g n cap : Nat} {l : List (BitVec 8)} (h : Own8 w base (.slice (some ⟨g, 0, none⟩) n cap) n l) (j : Nat) : w.frozen? ⟨g, j, none⟩ = false := World.ownsRow.frozenAt h j
theorem own_len {X : List (BitVec 8)} {i V : Nat} (hb : Bare X) (hv : val X = V % 2 ^ i) : X.length ≤ (i + 7) / 8 :=
  bare_len hb (by rw [hv]; exact Nat.lt_of_lt_of_le (Nat.mod_lt _ (Nat.two_pow_pos i)) (Nat.pow_le_pow_right (by decide) (by omega)))
set_option maxRecDepth 100000 in
set_option maxHeartbeats 4000000 in
theorem bits_own (g n cap V : Nat) (w : World) (h : Blk64 w g (bitL V n)) (hn : n ≤ 100000) :
    Calls Tryz.prog 115 #[.slice (some ⟨g, 0, none⟩) n cap] w fun e w' => ∃ v m X, e = .returned v ∧ Own8 w' w.heap.size v m X ∧ Bare X ∧ val X = V % 2 ^ n ∧ Below w.heap.size w w' := by
  obtain ⟨i0, hi, hz0, hz1, hz2⟩ := info8
  have HK := Lib.hid h
  have hgl := h.lt
  have HO0 : Hid (Own8 w w.heap.size (.slice none 0 0) 0 []) := Own8.nil w w.heap.size
  clear h
  go_enter Tryz.func115, Tryz.ntmps115
  go_wp2_with fail
  go_loopg [3, 4] n (fun gh s3 s4 wx => ∃ (i m : Nat) (X : List (BitVec 8)), gh = n - i ∧ i ≤ n ∧ s4 = .int .i64 (i : Int) ∧ Own8 wx w.heap.size s3 m X ∧ Hid (Bare X ∧ val X = V % 2 ^ i) ∧ Below w.heap.size w wx)
  case atStart => exact ⟨0, 0, [], rfl, by omega, rfl, HO0.out, ⟨bare_nil, by rw [Nat.pow_zero, Nat.mod_one]; rfl⟩, Below.refl _ _⟩
  case round =>
    clear HO0
    obtain ⟨i, m, X, hg, hin, rfl, hown, HX, hB⟩ := hrel
    have HG := Lib.hid hg
    clear hg
    have hbs := hB.size
    by_cases hlt : i < n
    · have x1 : (i : Int) < (n : Int) := by omega
      have x0 : (0 : Int) ≤ (i : Int) := by omega
      have c1 := (hB.cell (p := ⟨g, i, none⟩) hgl).trans (HK.out.cell (i := i) (by rw [bitL_length]; exact hlt))
      rw [nth_bitL V n i hlt] at c1
      have hmod := mod_succ V i
      rcases Bool.eq_false_or_eq_true (V.testBit i) with hb | hb
      · rw [hb] at c1 hmod
        have c1 : wr.cell? ⟨g, i, none⟩ = some (.int .i64 1) := c1
        have HM : Hid (V % 2 ^ (i + 1) = V % 2 ^ i ^^^ 2 ^ i) := hmod
        have hm0 : m ≤ i / 8 + 1 := by have := own_len HX.out.1 HX.out.2; have := hown.len; omega
        have HV : Hid (val X = V % 2 ^ i) := HX.out.2
        clear hmod hb HX
        go_wp2_with fail
        go_loopg [3] (i / 8 + 1 - m) (fun gh s3 wx => ∃ (m' : Nat) (X' : List (BitVec 8)), gh = i / 8 + 1 - m' ∧ m' ≤ i / 8 + 1 ∧ Own8 wx w.heap.size s3 m' X' ∧ Hid (val X' = V % 2 ^ i) ∧ Below w.heap.size w wx)
        case atStart => exact ⟨m, X, rfl, hm0, hown, HV.out, hB⟩
        case round =>
          clear hown HV hB c1 hm0 hbs
          obtain ⟨m', X', hg', hm', hown, HV, hB⟩ := hrel
          have HG' := Lib.hid hg'
          clear hg'
          have hbs := hB.size
          by_cases hle : m' ≤ i / 8
          · have t : decide ((m' : Int) ≤ (i : Int) / 8) = true := decide_eq_true (by omega)
            obtain ⟨a', cap', hs', hN'⟩ := own_newP (w := w) hown
            subst hs'
            have HV2 : Hid (val (X' ++ [0]) = V % 2 ^ i) := by show _ = _; rw [val_zero_end]; exact HV.out
            clear HV hN'
            go_wp2_with (at_builtin; refine wpList_append_own _ rfl _ _ 22 rfl w.heap.size 5 i0 (.int .u8 0) 1 1 Tryz.underlying22 hi hz0 hz1 hz2 rfl (by decide) _ m' _ rfl (World.ownsRow.alloc hown _) ⟨_, 0, none⟩ 1 1 [.int .u8 (Bits32.b 0)] rfl rfl (cell_one_new _ _ _) (ints_oneCell .u8 [_]) (by unfold maxLen; omega) (by omega) (by simp; omega) ?_; intro v8 w8 hown8 hgrow _)
            have ho8 : Own8 w8 w.heap.size v8 (m' + 1) (X' ++ [0]) := by
              unfold Own8
              have e : cells8 (X' ++ [0]) = cells8 X' ++ [.int .u8 (Bits32.b 0)] := by simp [cells8]
              rw [e]
              exact hown8
            have b8 : Below w.heap.size w w8 := (hB.alloc hbs _).grown hgrow (by simp; omega) (fun g hg => (hown.block g hg).1)
            clear hown8 hgrow hown hB hbs t
            go_wp2_with fail
            go_roundg (i / 8 + 1 - (m' + 1))
            case measure => have := HG'.out; omega
            case rel => exact ⟨m' + 1, X' ++ [0], rfl, by omega, ho8, HV2.out, b8⟩
          · have t : decide ((m' : Int) ≤ (i : Int) / 8) = false := decide_eq_false (by omega)
            obtain ⟨j, hj⟩ : ∃ j, m' = j + 1 := ⟨i / 8, by omega⟩
            have hji : j = i / 8 := by omega
            subst hj
            obtain ⟨g8, cap8, rfl⟩ := Own8.slice hown
            have hl := hown.len
            have d1 := Own8.cellA hown (i / 8) (by omega)
            have d2 := Own8.freeA hown (i / 8)
            have hlow : (val X').testBit i = false := by rw [HV.out]; exact Nat.testBit_lt_two_pow (Nat.mod_lt _ (Nat.two_pow_pos i))
            rw [val_bit] at hlow
            have e1 := bor_bit (nth8 X' (i / 8)) (i % 8) (by omega) hlow
            have hst := Own8.stored hown (i / 8) (nth8 X' (i / 8) ^^^ BitVec.twoPow 8 (i % 8))
            have HS := Lib.hid hst.1
            have HGR : Hid (Below w.heap.size w (wr.setCell ⟨g8, i / 8, none⟩ (.int .u8 (Bits32.b (nth8 X' (i / 8) ^^^ BitVec.twoPow 8 (i % 8)))))) := hB.setCell (p := ⟨g8, i / 8, none⟩) (hown.block g8 rfl).1 _
            have HF : Hid (Bare (X'.set (i / 8) (nth8 X' (i / 8) ^^^ BitVec.twoPow 8 (i % 8))) ∧ val (X'.set (i / 8) (nth8 X' (i / 8) ^^^ BitVec.twoPow 8 (i % 8))) = V % 2 ^ (i + 1)) := by
              refine ⟨bare_set X' (i / 8) (i % 8) (by omega) (by omega) hlow, ?_⟩
              rw [val_turn X' i (by omega), HM.out, HV.out]
            have x2 : (i : Int) / 8 < (j : Int) + 1 := by omega
            have HH := Lib.hid hown
            clear hst hlow hl HV hB hbs hji hm' hle t HG' hown
            go_wp2_with fail
            go_roundg (n - (i + 1))
            case measure => have := HG.out; omega
            case rel => exact ⟨i + 1, j + 1, _, rfl, by omega, by go_num, HS.out, HF.out, HGR.out⟩
      · rw [hb] at c1 hmod
        have c1 : wr.cell? ⟨g, i, none⟩ = some (.int .i64 0) := c1
        have HF : Hid (Bare X ∧ val X = V % 2 ^ (i + 1)) := ⟨HX.out.1, by rw [HX.out.2, hmod]; simp⟩
        clear hmod hb HX
        go_wp2_with fail
        go_roundg (n - (i + 1))
        case measure => have := HG.out; omega
        case rel => exact ⟨i + 1, m, X, rfl, by omega, by go_num, hown, HF.out, hB⟩
    · obtain rfl : i = n := by omega
      go_wp2_with fail
      go_ret
      exact ⟨_, m, X, rfl, hown, HX.out.1, HX.out.2, hB⟩
end Go.Proofs.YthmfneepnkgmgaaGreatDoor.Bin
/- shaleref2.BinAdd, BinShift. By the verifier of shale. -/
namespace Go.Proofs.YthmfneepnkgmgaaGreatDoor.Bin
open Go Go.RowKit
set_option linter.unusedVariables false
theorem bits_any (g n cap V : Nat) (w : World) (h : Blk64 w g (bitL V n)) (hn : n ≤ 100000) :
    Calls Tryz.prog 115 #[.slice (some ⟨g, 0, none⟩) n cap] w (GivesP (V % 2 ^ n) w) := by
  refine (bits_own g n cap V w h hn).mono ?_
  rintro e w1 ⟨v, m, X, rfl, ho, hb, hv, b⟩
  obtain ⟨a, c, rfl, hN⟩ := own_newP ho
  exact ⟨a, m, c, X, rfl, hN, hb, hv, b⟩
theorem bitL_step (T N i : Nat) : (bitL (T % 2 ^ i) N).set i (bz (T.testBit i)) = bitL (T % 2 ^ (i + 1)) N := by
  have h := bitL_set (T % 2 ^ i) N i (T.testBit i)
  rw [show (T % 2 ^ i).testBit i = false from Nat.testBit_lt_two_pow (Nat.mod_lt _ (Nat.two_pow_pos i)), Bool.false_xor] at h
  rw [h, mod_succ]
theorem Blk64.since {w w' : World} {g : Nat} {l : List Int} (h : Blk64 w g l) (b : Below w.heap.size w w') : Blk64 w' g l := (b.block _ h.lt).trans h
theorem Blk64.lay {w : World} {g : Nat} {l m : List Int} {i : Nat} {z : Int} (h : Blk64 w g l) (e : l.set i z = m) : Blk64 (w.setCell ⟨g, i, none⟩ (.int .i64 z)) g m := e ▸ h.set i z
end Go.Proofs.YthmfneepnkgmgaaGreatDoor.Bin
/- shaleref2.BinShift. By the verifier of shale. -/
namespace Go.Proofs.YthmfneepnkgmgaaGreatDoor.Bin
open Go Go.RowKit
set_option linter.unusedVariables false
/-- shifted up, or down. -/
def shiftZ (u : Nat) (z : Int) : Nat := if 0 ≤ z then u <<< z.toNat else u >>> (-z).toNat
theorem shiftZ_bit (X : List (BitVec 8)) (i : Nat) (z : Int) : bitZ X ((i : Int) - z) = bz ((shiftZ (val X) z).testBit i) := by
  unfold shiftZ
  by_cases hz : 0 ≤ z
  · obtain ⟨k, rfl⟩ : ∃ k : Nat, z = (k : Int) := ⟨z.toNat, by omega⟩
    rw [if_pos hz, Nat.testBit_shiftLeft]
    by_cases hk : k ≤ i
    · rw [show (i : Int) - (k : Int) = ((i - k : Nat) : Int) by omega, bitZ_bz, show ((k : Int)).toNat = k by omega, decide_eq_true hk, Bool.true_and]
    · unfold bitZ
      rw [if_pos (by omega), show ((k : Int)).toNat = k by omega, decide_eq_false (by omega), Bool.false_and]; rfl
  · obtain ⟨k, rfl⟩ : ∃ k : Nat, z = -(k : Int) := ⟨(-z).toNat, by omega⟩
    rw [if_neg hz, Nat.testBit_shiftRight, show (-(-(k : Int))).toNat = k by omega, show (i : Int) - -(k : Int) = ((k + i : Nat) : Int) by omega, bitZ_bz]
theorem shiftZ_zero (z : Int) : shiftZ 0 z = 0 := by
  unfold shiftZ
  split
  · exact shl_zero _
  · rw [Nat.shiftRight_eq_div_pow, Nat.zero_div]
theorem shiftZ_lt {u d N : Nat} {z : Int} (h : u < 2 ^ (d + 1)) (hN : (d : Int) + z + 1 = (N : Int)) : shiftZ u z < 2 ^ N := by
  unfold shiftZ
  split
  · obtain ⟨k, rfl⟩ : ∃ k : Nat, z = (k : Int) := ⟨z.toNat, by omega⟩
    rw [Nat.shiftLeft_eq, show ((k : Int)).toNat = k by omega, show N = d + 1 + k by omega, Nat.pow_add]
    exact Nat.mul_lt_mul_of_pos_right h (Nat.two_pow_pos k)
  · obtain ⟨k, rfl⟩ : ∃ k : Nat, z = -(k : Int) := ⟨(-z).toNat, by omega⟩
    rw [Nat.shiftRight_eq_div_pow, show (-(-(k : Int))).toNat = k by omega]
    refine (Nat.div_lt_iff_lt_mul (Nat.two_pow_pos _)).2 ?_
    rw [← Nat.pow_add, show N + k = d + 1 by omega]; exact h
theorem shiftZ_none {u d : Nat} {z : Int} (h : u < 2 ^ (d + 1)) (hN : (d : Int) + z < 0) : shiftZ u z = 0 := by
  have h0 : ¬ 0 ≤ z := by omega
  unfold shiftZ
  rw [if_neg h0, Nat.shiftRight_eq_div_pow]
  exact Nat.div_eq_of_lt (Nat.lt_of_lt_of_le h (Nat.pow_le_pow_right (by decide) (by omega)))
theorem newV_nil (w : World) (K : Nat) : NewV w w K none 0 0 0 := ⟨[], ⟨rfl, Nat.le_refl _, by decide, Or.inl ⟨rfl, rfl, rfl⟩⟩, bare_nil, rfl, Nat.zero_le _⟩
end Go.Proofs.YthmfneepnkgmgaaGreatDoor.Bin
/- shaleref2.BinMul. By the verifier of shale. -/
namespace Go.Proofs.YthmfneepnkgmgaaGreatDoor.Bin
open Go Go.RowKit
set_option linter.unusedVariables false
theorem degZ_cast {v : Nat} (h : v ≠ 0) : ∃ d : Nat, degZ v = (d : Int) ∧ Deg v d := ⟨v.log2, degZ_ne h, deg_of h⟩
/-- a bit of the second one added, i places up. -/
theorem mul_step (V v N i k : Nat) : (bitL (V ^^^ (v % 2 ^ k) <<< i) N).set (i + k) (bz ((V ^^^ (v % 2 ^ k) <<< i).testBit (i + k) ^^ v.testBit k)) = bitL (V ^^^ (v % 2 ^ (k + 1)) <<< i) N := by
  rw [bitL_set, mod_succ v k, shl_xor, Nat.xor_assoc]
  congr 3
  cases v.testBit k
  · simp
  · simp [Nat.shiftLeft_eq, ← Nat.pow_add, Nat.add_comm]
set_option maxRecDepth 100000 in
set_option maxHeartbeats 4000000 in
theorem rmulV {w : World} {k k' : Nat} {a a' : Option Addr} {n c n' c' u v : Nat} (K : Nat) (h1 : PolV w k a n c u) (h2 : PolV w k' a' n' c' v) (hk : k ≤ 200) (hk' : k' ≤ 200) (hK : k + k' ≤ K) :
    Calls Tryz.prog 92 #[.slice a n c, .slice a' n' c'] w fun e w' => ∃ a n c, e = .returned (.slice a n c) ∧ NewV w w' K a n c (pm u v) ∧ Below w.heap.size w w' := by
  have HK := Lib.hid (Nat.lt_of_lt_of_le (room_pm h1.lt h2.lt) (room_mono hK))
  obtain ⟨X, p1, rfl, n1⟩ := h1
  obtain ⟨Y, p2, rfl, n2⟩ := h2
  have HP1 := Lib.hid p1
  have HP2 := Lib.hid p2
  have hl1 := p1.hlen
  have hl2 := p2.hlen
  clear p1 p2
  by_cases z1 : val X = 0
  · have hd : degZ (val X) = -1 := by rw [z1]; rfl
    have HF : Hid (NewV w w K none 0 0 (pm (val X) (val Y))) := by
      show NewV _ _ _ _ _ _ _
      rw [z1, zero_pm]; exact newV_nil w K
    clear z1 hl1 hl2
    go_enter Tryz.func92, Tryz.ntmps92
    go_wp2_with fail
    refine (rdeg_any a n c X w HP1.out (by omega)).mono ?_
    rintro e w1 ⟨rfl, rfl⟩
    rw [hd]
    clear hd
    go_wp2_with fail
    refine (rdeg_any a' n' c' Y w HP2.out (by omega)).mono ?_
    rintro e w1 ⟨rfl, rfl⟩
    go_wp2_with fail
    go_ret
    exact ⟨none, 0, 0, rfl, HF.out, Below.refl _ _⟩
  · obtain ⟨d, hd, HD'⟩ := degZ_cast z1
    have HD := Lib.hid HD'
    have t1 : decide ((d : Int) < 0) = false := decide_eq_false (by omega)
    have bd : d ≤ 1600 := by have := deg_len z1; rw [HD'.log2] at this; omega
    clear HD'
    by_cases z2 : val Y = 0
    · have hd2 : degZ (val Y) = -1 := by rw [z2]; rfl
      have HF : Hid (NewV w w K none 0 0 (pm (val X) (val Y))) := by
        show NewV _ _ _ _ _ _ _
        rw [z2, pm_zero]; exact newV_nil w K
      clear z1 z2 hl1 hl2
      go_enter Tryz.func92, Tryz.ntmps92
      go_wp2_with fail
      refine (rdeg_any a n c X w HP1.out (by omega)).mono ?_
      rintro e w1 ⟨rfl, rfl⟩
      rw [hd]
      clear hd
      go_wp2_with fail
      refine (rdeg_any a' n' c' Y w HP2.out (by omega)).mono ?_
      rintro e w1 ⟨rfl, rfl⟩
      rw [hd2]
      clear hd2
      go_wp2_with fail
      go_ret
      exact ⟨none, 0, 0, rfl, HF.out, Below.refl _ _⟩
    · obtain ⟨d2, hd2, HD2'⟩ := degZ_cast z2
      have HD2 := Lib.hid HD2'
      have t2 : decide ((d2 : Int) < 0) = false := decide_eq_false (by omega)
      have bd2 : d2 ≤ 1600 := by have := deg_len z2; rw [HD2'.log2] at this; omega
      have HT : Hid (pm (val X) (val Y) < 2 ^ (d + d2 + 1)) := (deg_pm HD.out _ _ HD2').2
      obtain ⟨N, hN⟩ : ∃ N, N = d + d2 + 1 := ⟨_, rfl⟩
      have eN : (d : Int) + (d2 : Int) + 1 = (N : Int) := by omega
      rw [← hN] at HT
      have HN := Lib.hid hN
      have bN : N ≤ 4000 := by omega
      have hmk := made64 w N (by omega)
      rw [bitL_zero] at hmk
      have HB0 : Hid (Below w.heap.size w (w.alloc (obj64 (bitL 0 N)))) := (Below.refl _ _).alloc (Nat.le_refl _) _
      have HK0 : Hid (Blk64 (w.alloc (obj64 (bitL 0 N))) w.heap.size (bitL 0 N)) := Blk64.new w _
      clear z1 z2 hl1 hl2 HD2' hN
      go_enter Tryz.func92, Tryz.ntmps92
      go_wp2_with fail
      refine (rdeg_any a n c X w HP1.out (by omega)).mono ?_
      rintro e w1 ⟨rfl, rfl⟩
      rw [hd]
      clear hd
      go_wp2_with fail
      refine (rdeg_any a' n' c' Y w HP2.out (by omega)).mono ?_
      rintro e w1 ⟨rfl, rfl⟩
      rw [hd2]
      clear hd2
      go_wp2_with fail
      go_loopg [8, 9] (d + 1) (fun gh s8 s9 wx => ∃ (i : Nat), gh = d + 1 - i ∧ i ≤ d + 1 ∧ s8 = .int .i64 (i : Int) ∧ Blk64 wx w.heap.size (bitL (pm (val Y) (val X % 2 ^ i)) N) ∧ Below w.heap.size w wx)
      case atStart => exact ⟨0, rfl, by omega, rfl, by rw [Nat.pow_zero, Nat.mod_one, pm_zero]; exact HK0.out, HB0.out⟩
      case round =>
        clear hmk eN t1 t2
        obtain ⟨i, hg, hin, rfl, hk, hB⟩ := hrel
        have HG := Lib.hid hg
        clear hg
        by_cases hlt : i < d + 1
        · have x1 : decide ((i : Int) ≤ (d : Int)) = true := decide_eq_true (by omega)
          have x0 : (0 : Int) ≤ (i : Int) := by omega
          have HPX := Lib.hid (HP1.out.below hB)
          have HBX := Lib.hid (bitZ_bz X i)
          have HM := Lib.hid (mod_succ (val X) i)
          go_wp2_with fail
          refine (rbit_any a n c X (i : Int) wr HPX.out (by omega)).mono ?_
          rintro e w1 ⟨rfl, rfl⟩
          rw [HBX.out]
          rcases Bool.eq_false_or_eq_true ((val X).testBit i) with hb | hb
          · have HE : Hid (pm (val Y) (val X % 2 ^ (i + 1)) = pm (val Y) (val X % 2 ^ i) ^^^ (val Y % 2 ^ (d2 + 1)) <<< i) := by
              show _ = _
              rw [HM.out, hb, if_pos rfl, pm_xor_right, pm_pow, Nat.mod_eq_of_lt HD2.out.2]
            rw [hb]
            rw [show bz true = 1 from rfl]
            clear hb HM
            go_wp2_with fail
            obtain ⟨V, hV⟩ : ∃ V, V = pm (val Y) (val X % 2 ^ i) := ⟨_, rfl⟩
            rw [← hV] at hk HE
            have HVV := Lib.hid hV
            clear hV
            go_loopg [9] (d2 + 1) (fun gh s9 wx => ∃ (k : Nat), gh = d2 + 1 - k ∧ k ≤ d2 + 1 ∧ s9 = .int .i64 (k : Int) ∧ Blk64 wx w.heap.size (bitL (V ^^^ (val Y % 2 ^ k) <<< i) N) ∧ Below w.heap.size w wx)
            case atStart => exact ⟨0, rfl, by omega, rfl, by rw [Nat.pow_zero, Nat.mod_one, shl_zero, Nat.xor_zero]; exact hk, hB⟩
            case round =>
              clear hk hB HPX
              obtain ⟨k, hg, hkn, rfl, hk, hB⟩ := hrel
              have HG2 := Lib.hid hg
              clear hg
              by_cases hlt2 : k < d2 + 1
              · have y1 : decide ((k : Int) ≤ (d2 : Int)) = true := decide_eq_true (by omega)
                have y0 : (0 : Int) ≤ (k : Int) := by omega
                have hikN : i + k < N := by have := HN.out; omega
                have hk : Blk64 wr.drew w.heap.size (bitL (V ^^^ (val Y % 2 ^ k) <<< i) N) := hk
                have hB : Below w.heap.size w wr.drew := Below.drew hB
                go_wp2_with fail
                refine wp_region_still_tail 15 (by kernel_rfl) (by kernel_rfl) ?_
                simp only [List.take_succ_cons, List.take_zero, List.drop_succ_cons, List.drop_zero]
                change wpStill _ _ wr.drew (fun a' => wpList _ _ _ _ a' wr.drew) _ _
                generalize wr.drew = w2 at hk hB ⊢
                have c1 := hk.cell (i := i + k) (by rw [bitL_length]; exact hikN)
                rw [nth_bitL _ _ _ hikN] at c1
                have c2 := hk.free (i + k)
                have ex := bz_xor ((V ^^^ (val Y % 2 ^ k) <<< i).testBit (i + k)) ((val Y).testBit k)
                have HS := Lib.hid (Blk64.lay hk (mul_step V (val Y) N i k))
                have HSB : Hid (Below w.heap.size w (w2.setCell ⟨w.heap.size, i + k, none⟩ (.int .i64 (bz ((V ^^^ (val Y % 2 ^ k) <<< i).testBit (i + k) ^^ (val Y).testBit k))))) := hB.setCell (p := ⟨w.heap.size, i + k, none⟩) (Nat.le_refl _) _
                have HPY := Lib.hid (HP2.out.below hB)
                have HBY := Lib.hid (bitZ_bz Y k)
                have i4 : (i : Int) + (k : Int) < (N : Int) := by omega
                have i5 : (0 : Int) ≤ (i : Int) + (k : Int) := by omega
                have i2 : ((i : Int) + (k : Int)).toNat = i + k := by omega
                have i1 : IntKind.i64.wrap ((i : Int) + (k : Int)) = (i : Int) + (k : Int) := IntWalk.i64_in _ (by omega)
                generalize bz ((V ^^^ (val Y % 2 ^ k) <<< i).testBit (i + k) ^^ (val Y).testBit k) = b3 at ex HS HSB
                generalize bz ((V ^^^ (val Y % 2 ^ k) <<< i).testBit (i + k)) = b1 at c1 ex
                clear hk hB hlt hlt2
                repeat still_step
                still_call ((rbit_any a' n' c' Y (k : Int) w2 HPY.out (by omega)).mono fun _ _ h => ⟨h.1, h.2.symm⟩)
                rw [HBY.out]
                generalize bz ((val Y).testBit k) = b2 at ex ⊢
                repeat still_step
                refine wpStill_nil ?_
                go_wp2_with fail
                go_roundg (d2 + 1 - (k + 1))
                case measure => have := HG2.out; omega
                case rel => exact ⟨k + 1, rfl, by omega, by go_num, HS.out, HSB.out⟩
              · obtain rfl : k = d2 + 1 := by omega
                have y1 : decide (((d2 + 1 : Nat) : Int) ≤ (d2 : Int)) = false := decide_eq_false (by omega)
                rw [← HE.out] at hk
                go_wp2_with fail
                go_roundg (d + 1 - (i + 1))
                case measure => have := HG.out; omega
                case rel => exact ⟨i + 1, rfl, by omega, by go_num, hk, hB⟩
          · have HE : Hid (pm (val Y) (val X % 2 ^ (i + 1)) = pm (val Y) (val X % 2 ^ i)) := by
              show _ = _
              rw [HM.out, hb]; simp
            rw [hb]
            rw [show bz false = 0 from rfl]
            clear hb HM HPX
            go_wp2_with fail
            go_roundg (d + 1 - (i + 1))
            case measure => have := HG.out; omega
            case rel => exact ⟨i + 1, rfl, by omega, by go_num, by rw [HE.out]; exact hk, hB⟩
        · obtain rfl : i = d + 1 := by omega
          have x1 : decide (((d + 1 : Nat) : Int) ≤ (d : Int)) = false := decide_eq_false (by omega)
          have HE : Hid (pm (val Y) (val X % 2 ^ (d + 1)) = pm (val X) (val Y)) := by
            show _ = _
            rw [Nat.mod_eq_of_lt HD.out.2, pm_comm]
          rw [HE.out] at hk
          go_wp2_with fail
          refine (bits_any w.heap.size N N _ wr hk (by omega)).mono ?_
          rintro e w2 ⟨a3, n3, c3, Z, rfl, hZ, bZ, vZ, b2⟩
          have hF := newV (hZ.from hB.size) bZ (vZ.trans (by rw [Nat.mod_eq_of_lt HT.out])) K HK.out
          have hB2 := hB.trans (b2.mono hB.size)
          clear hZ bZ vZ b2 hB hk
          go_wp2_with fail
          go_ret
          exact ⟨a3, n3, c3, rfl, hF, hB2⟩
end Go.Proofs.YthmfneepnkgmgaaGreatDoor.Bin
/- shaleref2.BinDivMod. By the verifier of shale. -/
namespace Go.Proofs.YthmfneepnkgmgaaGreatDoor.Bin
open Go Go.RowKit
set_option linter.unusedVariables false
/-- where the division stands: what is left is below x^j. -/
structure Divs (u v e j Q L : Nat) : Prop where
  sum : u = pm Q v ^^^ L
  low : L < 2 ^ j
  free : ∀ t, t + e < j → Q.testBit t = false
theorem Divs.skip {u v e i Q L : Nat} (h : Divs u v e (i + 1) Q L) (hb : L.testBit i = false) : Divs u v e i Q L :=
  ⟨h.sum, lt_of_bit h.low hb, fun t ht => h.free t (by omega)⟩
theorem Divs.next {u v e s Q L : Nat} (h : Divs u v e (e + s + 1) Q L) (hv : Deg v e) (hb : L.testBit (e + s) = true) : Divs u v e (e + s) (Q ^^^ 2 ^ s) (L ^^^ (v % 2 ^ (e + 1)) <<< s) := by
  rw [Nat.mod_eq_of_lt hv.2]
  refine ⟨?_, clear_top h.low hb (shl_deg hv s), fun t ht => ?_⟩
  · rw [pm_xor_left, pow_pm, xx, ← h.sum]
    rw [Nat.xor_self, Nat.xor_zero]
  · rw [Nat.testBit_xor, h.free t (by omega), Nat.testBit_two_pow_of_ne (by omega)]; rfl
theorem divs_end {u v e j Q L : Nat} (h : Divs u v e j Q L) (hv : Deg v e) (hj : j ≤ e) : IsDiv u v Q L :=
  isDiv_of_lt hv h.sum (Nat.lt_of_lt_of_le h.low (Nat.pow_le_pow_right (by decide) hj))
theorem top_lt (v : Nat) : v < 2 ^ topE v := by
  unfold topE
  split
  · rename_i h; rw [h]; decide
  · exact Nat.lt_log2_self
theorem q_lt {u v q r N : Nat} (h0 : v ≠ 0) (h : IsDiv u v q r) (hu : u < 2 ^ N) : q < 2 ^ N := by
  by_cases hq : q = 0
  · rw [hq]; exact Nat.two_pow_pos _
  · have hd := deg_pm (deg_of hq) _ v (deg_of h0)
    have hp0 : pm q v ≠ 0 := pm_ne hq h0
    have hle : (pm q v).log2 ≤ u.log2 ∧ u ≠ 0 := by
      rcases h.2 with h1 | ⟨i, j, d1, d2, hij⟩
      · have := h.1
        rw [h1, Nat.xor_zero] at this
        rw [this]; exact ⟨Nat.le_refl _, hp0⟩
      · have hdv := deg_pm (deg_of hq) _ v d2
        have hr : r < 2 ^ (q.log2 + j) := lt_of_deg d1 (by omega)
        have := top_xor (q.log2 + j) r (pm q v) hr hdv.1 hdv.2
        rw [Nat.xor_comm, ← h.1] at this
        have hdu : Deg u (q.log2 + j) := this
        rw [hdu.log2, hdv.log2]
        exact ⟨Nat.le_refl _, by have := hdu.pos; omega⟩
    have h2 := (Nat.log2_lt hle.2).2 hu
    exact lt_of_deg (deg_of hq) (by rw [hd.log2] at hle; omega)
end Go.Proofs.YthmfneepnkgmgaaGreatDoor.Bin
/- shaleref2.BinGcd, Irreducible. By the verifier of shale. -/
namespace Go.Proofs.YthmfneepnkgmgaaGreatDoor.Bin
open Go Go.RowKit
set_option linter.unusedVariables false
theorem rdegV {w : World} {k : Nat} {a : Option Addr} {n c u : Nat} (h1 : PolV w k a n c u) (hk : k ≤ 1000) :
    Calls Tryz.prog 114 #[.slice a n c] w fun e w' => e = .returned (.int .i64 (degZ u)) ∧ w = w' := by
  obtain ⟨X, p1, rfl, n1⟩ := h1
  exact rdeg_any a n c X w p1 (by omega)
theorem NewV.fit {w0 w : World} {K k : Nat} {a : Option Addr} {n c v : Nat} (h : NewV w0 w K a n c v) (hv : v < room k) : NewV w0 w k a n c v := by
  obtain ⟨X, h1, h2, h3, h4⟩ := h
  exact newV h1 h2 h3 k hv
theorem NewV.since {w0 w w' : World} {K : Nat} {a : Option Addr} {n c v : Nat} (h : NewV w0 w K a n c v) (b : Below w.heap.size w w') : NewV w0 w' K a n c v := by
  obtain ⟨X, h1, h2, h3, h4⟩ := h
  exact ⟨X, h1.since b, h2, h3, h4⟩
theorem NewV.from {w0 w1 w : World} {K : Nat} {a : Option Addr} {n c v : Nat} (h : NewV w1 w K a n c v) (b : w0.heap.size ≤ w1.heap.size) : NewV w0 w K a n c v := by
  obtain ⟨X, h1, h2, h3, h4⟩ := h
  exact ⟨X, h1.from b, h2, h3, h4⟩
theorem pgcd_comm (a b : Nat) : pgcd a b = pgcd b a := pgcd_of (pgcd_is a b).comm
theorem degZ_one {g : Nat} (h : g ≠ 0) : degZ g = 0 ↔ g = 1 := by
  rw [degZ_ne h]
  constructor
  · intro h1
    have := (deg_of h).2
    rw [show g.log2 = 0 by omega] at this
    omega
  · intro h1; rw [h1]; rfl
theorem two_polV (w : World) : PolV (w.alloc (obj8 [2])) 1 (some ⟨w.heap.size, 0, none⟩) 1 1 2 ∧ Below w.heap.size w (w.alloc (obj8 [2])) :=
  ⟨⟨[2], ⟨rfl, Nat.le_refl _, by decide, (fun h => by cases h), Or.inr ⟨_, 0, rfl, (Blk8.new w [2]).row, by simp⟩⟩, rfl, Nat.le_refl _⟩, (Below.refl _ _).alloc (Nat.le_refl _) _⟩
end Go.Proofs.YthmfneepnkgmgaaGreatDoor.Bin
/- shaleref2.Of, Exponents. By the verifier of shale. -/
namespace Go.Proofs.YthmfneepnkgmgaaGreatDoor.Bin
open Go Go.RowKit
set_option linter.unusedVariables false
/-- the greatest one. -/
def mostL : List Nat → Nat
  | [] => 0
  | e :: l => max e (mostL l)
theorem mostL_snoc (l : List Nat) (e : Nat) : mostL (l ++ [e]) = max (mostL l) e := by
  induction l with
  | nil => simp [mostL]
  | cons a l ih => simp only [List.cons_append, mostL, ih]; omega
theorem mostL_le {l : List Nat} {M : Nat} (h : ∀ e ∈ l, e ≤ M) : mostL l ≤ M := by
  induction l with
  | nil => exact Nat.zero_le _
  | cons a l ih =>
    have h1 := h a (List.mem_cons_self ..)
    have h2 := ih fun e he => h e (List.mem_cons_of_mem _ he)
    simp only [mostL]; omega
theorem le_mostL {l : List Nat} {i : Nat} (h : i < l.length) : l.getD i 0 ≤ mostL l := by
  induction l generalizing i with
  | nil => simp at h
  | cons a l ih =>
    cases i with
    | zero => simp only [mostL, List.getD_cons_zero]; omega
    | succ i =>
      have := ih (i := i) (by simpa using h)
      simp only [mostL, List.getD_cons_succ]; omega
theorem xp_most (l : List Nat) : ∀ M, mostL l ≤ M → xp l < 2 ^ (M + 1) := by
  induction l with
  | nil => intro M _; exact Nat.two_pow_pos _
  | cons a l ih =>
    intro M h
    simp only [mostL] at h
    exact Nat.xor_lt_two_pow (Nat.pow_lt_pow_right (by decide) (by omega)) (ih M (by omega))
theorem room_pow {v d : Nat} (k : Nat) (h : v < 2 ^ d) (hk : d ≤ 8 * k) : v < room k := Nat.lt_of_lt_of_le h (Nat.pow_le_pow_right (by decide) hk)
theorem bz_flip (b : Bool) : bits .xor .i64 (bz b) 1 = bz (b ^^ true) := by cases b <;> rfl
set_option maxRecDepth 100000 in
set_option maxHeartbeats 2000000 in
theorem rofV (a : Option Addr) (n cap : Nat) (es : List Nat) (w : World) (h : RowN w a n es) (hn : n ≤ 100000) (hes : ∀ e ∈ es, e ≤ 2048) :
    Calls Tryz.prog 118 #[.slice a n cap] w fun e w' => ∃ a n c, e = .returned (.slice a n c) ∧ NewV w w' 300 a n c (xp es) ∧ Below w.heap.size w w' := by
  have HR := Lib.hid h
  have hlen := h.hlen
  have HLN := Lib.hid hlen
  obtain ⟨M, hM⟩ : ∃ M, M = mostL es := ⟨_, rfl⟩
  have hM2 : M ≤ 2048 := by rw [hM]; exact mostL_le hes
  have HM := Lib.hid hM
  have HX : Hid (xp es < 2 ^ (M + 1)) := by rw [hM]; exact xp_most es _ (Nat.le_refl _)
  have hmk := made64 w (M + 1) (by omega)
  rw [bitL_zero] at hmk
  have eM : ((M + 1 : Nat) : Int) = (M : Int) + 1 := by omega
  rw [eM] at hmk
  have HB0 : Hid (Below w.heap.size w (w.alloc (obj64 (bitL 0 (M + 1))))) := (Below.refl _ _).alloc (Nat.le_refl _) _
  have HK0 : Hid (Blk64 (w.alloc (obj64 (bitL 0 (M + 1)))) w.heap.size (bitL 0 (M + 1))) := Blk64.new w _
  clear h hlen hM hes eM
  go_enter Tryz.func118, Tryz.ntmps118
  go_wp2_with fail
  go_loopg [3, 4] n (fun gh s3 s4 wx => ∃ (i m : Nat), gh = n - i ∧ i ≤ n ∧ s4 = .int .i64 (i : Int) ∧ s3 = .int .i64 (m : Int) ∧ m ≤ M ∧ Hid (m = mostL (es.take i)) ∧ w = wx)
  case atStart => exact ⟨0, 0, rfl, by omega, rfl, rfl, by omega, rfl, rfl⟩
  case round =>
    obtain ⟨i, m, hg, hin, rfl, rfl, hmM, HS, rfl⟩ := hrel
    have HG := Lib.hid hg
    clear hg
    by_cases hlt : i < n
    · have x1 : (i : Int) < (n : Int) := by omega
      have x0 : (0 : Int) ≤ (i : Int) := by omega
      obtain ⟨bb, off, rfl, c1, hb⟩ := HR.out.row i hlt
      have hie : i < es.length := by have := HLN.out; omega
      have HS2 : Hid (max m (es.getD i 0) = mostL (es.take (i + 1))) := by
        show _ = _
        rw [take_getD es i hie, mostL_snoc, HS.out]
      have hq2 : es.getD i 0 ≤ M := by rw [HM.out]; exact le_mostL hie
      generalize es.getD i 0 = q at c1 HS2 hq2
      obtain ⟨m2, hm2⟩ : ∃ m2, m2 = max m q := ⟨_, rfl⟩
      have e2 : max (m : Int) (q : Int) = (m2 : Int) := by omega
      rw [← hm2] at HS2
      have hm2M : m2 ≤ M := by omega
      clear hb hie HS hm2 hmk
      go_wp2_with fail
      go_roundg (n - (i + 1))
      case measure => have := HG.out; omega
      case rel => exact ⟨i + 1, m2, rfl, by omega, by go_num, rfl, hm2M, HS2.out, rfl⟩
    · obtain rfl : i = n := by omega
      obtain rfl : m = M := by rw [HS.out, HM.out, List.take_of_length_le (by have := HLN.out; omega)]
      clear HS
      go_wp2_with fail
      clear hmk
      go_loopg [6] i (fun gh s6 wx => ∃ (k : Nat), gh = i - k ∧ k ≤ i ∧ s6 = .int .i64 (k : Int) ∧ Blk64 wx w.heap.size (bitL (xp (es.take k)) (m + 1)) ∧ Below w.heap.size w wx)
      case atStart => exact ⟨0, rfl, by omega, rfl, HK0.out, HB0.out⟩
      case round =>
        clear HK0 HB0
        obtain ⟨k, hg, hki, rfl, hk, hB⟩ := hrel
        have HG2 := Lib.hid hg
        clear hg
        by_cases hlt2 : k < i
        · have x1 : (k : Int) < (i : Int) := by omega
          have x0 : (0 : Int) ≤ (k : Int) := by omega
          have hk : Blk64 wr.drew w.heap.size (bitL (xp (es.take k)) (m + 1)) := hk
          have hB : Below w.heap.size w wr.drew := Below.drew hB
          go_wp2_with fail
          refine wp_region_still_tail 14 (by kernel_rfl) (by kernel_rfl) ?_
          simp only [List.take_succ_cons, List.take_zero, List.drop_succ_cons, List.drop_zero]
          change wpStill _ _ wr.drew (fun a' => wpList _ _ _ _ a' wr.drew) _ _
          generalize wr.drew = w2 at hk hB ⊢
          obtain ⟨bb, off, rfl, c1, hb⟩ := (HR.out.below hB).row k hlt2
          have hie : k < es.length := by have := HLN.out; omega
          have hq2 : es.getD k 0 ≤ m := by rw [HM.out]; exact le_mostL hie
          have HT : Hid (xp (es.take (k + 1)) = xp (es.take k) ^^^ 2 ^ es.getD k 0) := by
            show _ = _
            rw [take_getD es k hie, xp_append]; simp [xp]
          generalize es.getD k 0 = q at c1 hq2 HT
          have v1 := hk.cell (i := q) (by rw [bitL_length]; omega)
          rw [nth_bitL _ _ _ (by omega)] at v1
          have v2 := hk.free q
          have ex := bz_flip ((xp (es.take k)).testBit q)
          have HS := Lib.hid (Blk64.lay hk (bitL_set (xp (es.take k)) (m + 1) q true))
          have HSB : Hid (Below w.heap.size w (w2.setCell ⟨w.heap.size, q, none⟩ (.int .i64 (bz ((xp (es.take k)).testBit q ^^ true))))) := hB.setCell (p := ⟨w.heap.size, q, none⟩) (Nat.le_refl _) _
          have i1 : (q : Int) < (m : Int) + 1 := by omega
          generalize bz ((xp (es.take k)).testBit q ^^ true) = b3 at ex HS HSB
          generalize bz ((xp (es.take k)).testBit q) = b1 at v1 ex
          have HS2 : Hid (Blk64 (w2.setCell ⟨w.heap.size, q, none⟩ (.int .i64 b3)) w.heap.size (bitL (xp (es.take (k + 1))) (m + 1))) := by
            have := HS.out
            rw [if_pos rfl, ← HT.out] at this
            exact this
          clear hk hB hb hie HS
          repeat still_step
          refine wpStill_nil ?_
          go_wp2_with fail
          go_roundg (i - (k + 1))
          case measure => have := HG2.out; omega
          case rel => exact ⟨k + 1, rfl, by omega, by go_num, HS2.out, HSB.out⟩
        · obtain rfl : k = i := by omega
          rw [List.take_of_length_le (by have := HLN.out; omega)] at hk
          go_wp2_with fail
          refine (bits_any w.heap.size (m + 1) (m + 1) _ wr hk (by omega)).mono ?_
          rintro e w3 ⟨a3, n3, c3, Z, rfl, hZ, bZ, vZ, b2⟩
          have hv : val Z = xp es := vZ.trans (Nat.mod_eq_of_lt HX.out)
          have hroom : xp es < room 300 := room_pow 300 HX.out (by omega)
          have hF := newV (hZ.from hB.size) bZ hv 300 hroom
          have hB2 := hB.trans (b2.mono hB.size)
          clear hZ bZ vZ b2 hB hk hv hroom
          go_wp2_with fail
          go_ret
          exact ⟨a3, n3, c3, rfl, hF, hB2⟩
end Go.Proofs.YthmfneepnkgmgaaGreatDoor.Bin
/- The reference's FromRoots and Minimal. By the verifier of shale. -/
namespace Go.Proofs.YthmfneepnkgmgaaGreatDoor.Cos
open Go Go.RowKit Pl
set_option linter.unusedVariables false
section
variable {m : Nat} [M : Mid m]
theorem sr_lin2 (z : Int) : sr m [z, 1] = lin (elm m z) := by
  funext i
  show elm m (([z, 1] : List Int).getD i 0) = if i = 0 then elm m z else if i = 1 then 1 else 0
  rcases i with _ | _ | i
  · rfl
  · rw [if_neg (by omega), if_pos rfl]; exact elm_zn (1 : El m)
  · rw [if_neg (by omega), if_neg (by omega)]; exact elm_zero
set_option maxRecDepth 100000 in
set_option maxHeartbeats 1000000 in
theorem rfrom_any (a : Option Addr) (n cap : Nat) (l : List Int) (w : World) (h : RowZ w a n cap l) (hn : n ≤ 20) :
    Calls Tryz.prog 117 #[.int .i64 (m : Int), .slice a n cap] w
      fun e w' => ∃ a' n' c', e = .returned (.slice a' n' c') ∧ NV m w' (n + 1) a' n' c' (pls l n) ∧ Below w.heap.size w w' := by
  go_enter Tryz.func117, Tryz.ntmps117
  go_wp2_with fail
  generalize hw : w.alloc (.cells #[.int .i64 1] 3 (0, 0)) = w2
  obtain ⟨hr, B⟩ := lit_row w w2 [1] 1 rfl (by decide) hw.symm
  clear hw
  replace h := h.below B
  have e0 : nums (pls (m := m) l 0) 1 = [1] := by
    show [zn (pls (m := m) l 0 0)] = [1]
    have e : pls (m := m) l 0 0 = 1 := by show (if (0 : Nat) = 0 then (1 : El m) else 0) = 1; rw [if_pos rfl]
    rw [e]; rfl
  have P : NV m w2 1 (some ⟨w.heap.size, 0, none⟩) 1 1 (pls l 0) := ⟨by rw [e0]; exact hr, pls_bd _ 0, top_dg' (pls_bd _ 0) (pls_dg _ 0), Nat.le_refl _⟩
  clear hr e0
  generalize (some ⟨w.heap.size, 0, none⟩ : Option Addr) = ap at P ⊢
  have HS : Hid (RowZ w2 a n cap l ∧ Below w.heap.size w w2) := ⟨h, B⟩
  have HP := Lib.hid P
  clear h B P
  go_loopg [5, 6] n (fun gh s5 s6 wx => ∃ (k : Nat) (ax : Option Addr) (nx cx : Nat), gh = n - k ∧ k ≤ n ∧ s6 = .int .i64 (k : Int) ∧ s5 = .slice ax nx cx ∧ Hid (NV m wx (k + 1) ax nx cx (pls l k)) ∧ Hid (RowZ wx a n cap l ∧ Below w.heap.size w wx))
  case atStart => exact ⟨0, ap, 1, 1, rfl, Nat.zero_le _, rfl, rfl, HP, HS⟩
  case round =>
    clear HP HS
    obtain ⟨k, ax, nx, cx, hg, hk, rfl, rfl, HP, HS⟩ := hrel
    have HG := Lib.hid hg
    clear hg
    by_cases hlt : k < n
    · have x1 : (k : Int) < (n : Int) := by omega
      have x0 : (0 : Int) ≤ (k : Int) := by omega
      obtain ⟨bb, off, rfl, d1, _⟩ := HS.out.1.row k hlt
      obtain ⟨z, hz⟩ : ∃ z, z = l.getD k 0 := ⟨_, rfl⟩
      rw [← hz] at d1
      have HZ := Lib.hid hz
      clear hz
      go_wp2_with fail
      generalize hw : wr.alloc (.cells #[.int .i64 z, .int .i64 1] 3 (0, 0)) = w4
      obtain ⟨hr, b⟩ := lit_row wr w4 [z, 1] 2 rfl (by decide) hw.symm
      clear hw d1
      have hnx := HP.out.le
      refine (rtimes_any (m := m) ax nx cx _ _ 2 2 [z, 1] w4 (HP.out.row.below b) hr (by omega) (by omega)).mono ?_
      rintro e w5 ⟨a5, n5, c5, rfl, h5, b5⟩
      rw [sr_nums HP.out.bd, sr_lin2] at h5
      have e : pls l (k + 1) = cv (pls l k) (lin (elm m z)) := by show cv _ (lin (elm m (l.getD k 0))) = _; rw [← HZ.out]
      have HP5 : Hid (NV m w5 (k + 1 + 1) a5 n5 c5 (pls l (k + 1))) := by
        rw [e]
        exact routV h5 (e ▸ pls_bd l (k + 1))
      have b45 := b.trans (b5.mono b.size)
      have HS5 : Hid (RowZ w5 (some ⟨bb, off, none⟩) n cap l ∧ Below w.heap.size w w5) := ⟨HS.out.1.below b45, HS.out.2.trans (b45.mono HS.out.2.size)⟩
      clear h5 b b5 b45 hr HS HP e
      go_wp2_with fail
      go_roundg (n - (k + 1))
      case measure => have := HG.out; omega
      case rel => exact ⟨k + 1, a5, n5, c5, rfl, by omega, by go_num, rfl, HP5, HS5⟩
    · obtain rfl : k = n := by omega
      go_wp2_with fail
      go_ret
      exact ⟨ax, nx, cx, rfl, HP.out, HS.out.2⟩
theorem xp_nb (p : Nat → Bool) : ∀ n, Bin.xp ((List.range n).filter p) = nb p n
  | 0 => rfl
  | n + 1 => by
    rw [range_filter_snoc, Bin.xp_append, xp_nb p n]
    simp only [nb]
    by_cases h : p n = true
    · rw [if_pos h, if_pos h]
      have h1 := nb_lt p n
      show nb p n ^^^ (2 ^ n ^^^ 0) = nb p n + 2 ^ n
      rw [Nat.xor_zero]
      apply Nat.eq_of_testBit_eq
      intro i
      rw [Nat.testBit_xor, Nat.testBit_two_pow]
      have h2 : (nb p n + 2 ^ n).testBit i = (nb p (n + 1)).testBit i := by simp only [nb]; rw [if_pos h]
      rw [h2, nb_bit, nb_bit]
      by_cases e : n = i
      · subst e; simp [h]
      · by_cases h3 : i < n
        · simp [h3, e, show i < n + 1 by omega]
        · simp [h3, e, show ¬ i < n + 1 by omega]
    · rw [if_neg h, if_neg h]
      show nb p n ^^^ 0 = nb p n + 0
      rw [Nat.xor_zero, Nat.add_zero]
end
end Go.Proofs.YthmfneepnkgmgaaGreatDoor.Cos
/- The reference's Minimal. By the verifier of shale. -/
namespace Go.Proofs.YthmfneepnkgmgaaGreatDoor.Cos
open Go Go.RowKit Bits16
set_option linter.unusedVariables false
section
variable {m : Nat} [M : Pl.Mid m]
theorem exl_snoc (l : List Nat) (j : Nat) : exl m (l ++ [j]) = exl m l ++ [Pl.zn (xe m j)] := by unfold exl; rw [List.map_append]; rfl
set_option maxRecDepth 100000 in
set_option maxHeartbeats 1000000 in
theorem rminimal_any (i : Int) (w : World) :
    Calls Tryz.prog 93 #[.int .i64 (m : Int), .int .i64 i] w
      fun e w' => ∃ a n c, e = .returned (.slice a n c) ∧ Bin.NewV w w' 300 a n c (mpv m (rs m i)) ∧ Below w.heap.size w w' := by
  obtain ⟨i0, hi, hz0, hz1, hz2⟩ := info64
  have hf := rs_lt M.lo i
  obtain ⟨f, hfe⟩ : ∃ f, f = rs m i := ⟨_, rfl⟩
  rw [← hfe] at hf ⊢
  have HFE := Lib.hid hfe
  have HF := Lib.hid hf
  have hlen := cos_len_le M.lo hf
  have hm14 := M.hi
  clear hfe hf
  go_enter Tryz.func93, Tryz.ntmps93
  go_wp2_with fail
  refine (rcoset_any m M.lo M.hi i w).mono ?_
  rintro e w1 ⟨a1, n1, c1, rfl, hO, B⟩
  rw [← HFE.out] at hO
  have hl := hO.len
  rw [ints_length] at hl
  obtain rfl : n1 = (cos m f).length := hl.symm
  have Rc := (Pl.own_rowz hO).1
  clear hO hl
  obtain ⟨L, hL⟩ : ∃ L, L = (cos m f).length := ⟨_, rfl⟩
  rw [← hL] at Rc hlen ⊢
  have HL := Lib.hid hL
  clear hL
  go_wp2_with fail
  go_loopg [6, 7] L (fun gh s6 s7 wx => ∃ (k : Nat), gh = L - k ∧ k ≤ L ∧ s7 = .int .i64 (k : Int) ∧ Own64 wx w1.heap.size s6 k (exl m ((cos m f).take k)) ∧ Below w1.heap.size w1 wx)
  case atStart => exact ⟨0, rfl, Nat.zero_le _, rfl, Own64.nil _ _, Below.refl _ _⟩
  case round =>
    obtain ⟨k, hg, hk, rfl, hO, hB⟩ := hrel
    have HG := Lib.hid hg
    clear hg
    obtain ⟨av, cv, rfl⟩ := own_slice hO
    have hbs := hB.size
    by_cases hlt : k < L
    · have x1 : (k : Int) < (L : Int) := by omega
      have x0 : (0 : Int) ≤ (k : Int) := by omega
      have hkc : k < (cos m f).length := by rw [← HL.out]; exact hlt
      obtain ⟨bb, off, rfl, d1, _⟩ := (Rc.below hB).row k hlt
      obtain ⟨j, hj⟩ : ∃ j, j = (cos m f).getD k 0 := ⟨_, rfl⟩
      have ej : (ints (cos m f)).getD k 0 = (j : Int) := by
        rw [hj]
        unfold ints
        rw [List.getD_eq_getElem?_getD, List.getElem?_map, List.getD_eq_getElem?_getD, List.getElem?_eq_getElem hkc]; rfl
      rw [ej] at d1
      have HFx : Hid (exl m ((cos m f).take (k + 1)) = exl m ((cos m f).take k) ++ [Pl.zn (xe m j)]) := by
        show _ = _
        rw [take_snocN _ k hkc, exl_snoc, ← hj]
      have HO := Lib.hid hO
      have HB := Lib.hid hB
      clear hj ej hkc hO hB
      go_wp2_with fail
      refine (Fld.rexp_any m M.lo M.hi (j : Int) wr).mono ?_
      rintro e w5 ⟨rfl, b5⟩
      rw [show Bits16.h (Fld.pwZ m (j : Int)) = Pl.zn (xe m j) from rfl]
      have ho5 : Own64 w5 w1.heap.size (.slice av k cv) k (exl m ((cos m f).take k)) := HO.out.keep fun g hg => b5.block g (HO.out.block g hg).2
      have hB5 := HB.out.trans (b5.mono hbs)
      have hbs5 := hB5.size
      generalize Pl.zn (xe m j) = z at HFx ⊢
      clear b5 d1
      go_wp2_with (at_builtin; refine wpList_append_own _ rfl _ _ 33 rfl w1.heap.size 3 i0 (.int .i64 0) 1 8 Tryz.underlying33 hi hz0 hz1 hz2 rfl (by decide) _ k _ rfl (World.ownsRow.alloc ho5 _) ⟨w5.heap.size, 0, none⟩ 1 1 [.int .i64 z] rfl rfl (cell_one_new _ _ _) (ints_oneCell .i64 [_]) (by unfold maxLen; omega) (by omega) (by simp; omega) ?_; intro v7 w7 hown7 hgrow _)
      have ho7 : Own64 w7 w1.heap.size v7 (k + 1) (exl m ((cos m f).take (k + 1))) := by
        unfold Own64
        rw [HFx.out, ← cells64_append]
        exact hown7
      have b7 : Below w1.heap.size w1 w7 := (hB5.alloc hbs5 _).grown hgrow (by simp; omega) (fun g hg => (ho5.block g hg).1)
      clear hown7 hgrow ho5 hB5 HO HB
      go_wp2_with fail
      go_roundg (L - (k + 1))
      case measure => have := HG.out; omega
      case rel => exact ⟨k + 1, rfl, by omega, by go_num, ho7, b7⟩
    · obtain rfl : k = L := by omega
      rw [List.take_of_length_le (by rw [← HL.out]; exact Nat.le_refl _)] at hO
      have Rr := (Pl.own_rowz hO).1
      have B2 := B.trans (hB.mono B.size)
      clear hO hB B Rc hlt
      go_wp2_with fail
      refine (rfrom_any (m := m) av k cv _ wr Rr (by omega)).mono ?_
      rintro e w5 ⟨ap, np, cp, rfl, P, b5⟩
      have hPS : Pl.pls (exl m (cos m f)) k = mpS m f := by rw [HL.out]; rfl
      rw [hPS] at P
      have hnp : np = k + 1 := by
        rw [← P.top, HL.out, Pl.top_same P.bd (mpS_dg f).2]
        exact Pl.top_dg (mpS_dg f)
      subst hnp
      have RP := P.row
      replace B2 := B2.trans (b5.mono B2.size)
      clear P b5 Rr hPS
      obtain ⟨W5, rfl⟩ : ∃ W5, W5 = w5 := ⟨_, rfl⟩
      go_wp2_with fail
      go_loopg [9, 10] (k + 1) (fun gh s9 s10 wx => ∃ (j n2 : Nat), gh = k + 1 - j ∧ j ≤ k + 1 ∧ n2 ≤ j ∧ s10 = .int .i64 (j : Int) ∧ Own64 wx W5.heap.size s9 n2 (ints ((List.range j).filter (mpb m f))) ∧ Below W5.heap.size W5 wx)
      case atStart => exact ⟨0, 0, rfl, Nat.zero_le _, Nat.le_refl _, rfl, Own64.nil _ _, Below.refl _ _⟩
      case round =>
        obtain ⟨j, n2, hg, hj, hnj, rfl, hO, hB⟩ := hrel
        have HG2 := Lib.hid hg
        clear hg
        obtain ⟨av2, cv2, rfl⟩ := own_slice hO
        have hbs2 := hB.size
        by_cases hlt2 : j < k + 1
        · have y1 : (j : Int) < (k : Int) + 1 := by omega
          have y2 : (j : Int) < ((k + 1 : Nat) : Int) := by omega
          have y0 : (0 : Int) ≤ (j : Int) := by omega
          obtain ⟨bb, off, rfl, d1, _⟩ := (RP.below hB).row j hlt2
          rw [Pl.nums_at _ _ _ hlt2, mp_num HF.out] at d1
          have HR := Lib.hid (range_filter_snoc (mpb m f) j)
          by_cases hc : mpb m f j = true
          · rw [if_pos hc] at d1
            have HF2 : Hid (ints ((List.range (j + 1)).filter (mpb m f)) = ints ((List.range j).filter (mpb m f)) ++ [(j : Int)]) := by
              show _ = _
              rw [HR.out, if_pos hc, ints_snoc]
            clear HR hc
            go_wp2_with (at_builtin; refine wpList_append_own _ rfl _ _ 33 rfl W5.heap.size 3 i0 (.int .i64 0) 1 8 Tryz.underlying33 hi hz0 hz1 hz2 rfl (by decide) _ n2 _ rfl (World.ownsRow.alloc hO _) ⟨wr.heap.size, 0, none⟩ 1 1 [.int .i64 (j : Int)] rfl rfl (cell_one_new _ _ _) (ints_oneCell .i64 [_]) (by unfold maxLen; omega) (by omega) (by simp; omega) ?_; intro v7 w7 hown7 hgrow _)
            have ho7 : Own64 w7 W5.heap.size v7 (n2 + 1) (ints ((List.range (j + 1)).filter (mpb m f))) := by
              unfold Own64
              rw [HF2.out, ← cells64_append]
              exact hown7
            have b7 : Below W5.heap.size W5 w7 := (hB.alloc hbs2 _).grown hgrow (by simp; omega) (fun g hg => (hO.block g hg).1)
            clear hown7 hgrow hO hB
            go_wp2_with fail
            go_roundg (k + 1 - (j + 1))
            case measure => have := HG2.out; omega
            case rel => exact ⟨j + 1, n2 + 1, rfl, by omega, by omega, by go_num, ho7, b7⟩
          · rw [if_neg hc] at d1
            have HO2 : Hid (Own64 wr W5.heap.size (.slice av2 n2 cv2) n2 (ints ((List.range (j + 1)).filter (mpb m f)))) := by
              show Own64 _ _ _ _ _
              rw [HR.out, if_neg hc, List.append_nil]; exact hO
            clear HR hc hO
            go_wp2_with fail
            go_roundg (k + 1 - (j + 1))
            case measure => have := HG2.out; omega
            case rel => exact ⟨j + 1, n2, rfl, by omega, by omega, by go_num, HO2.out, hB⟩
        · obtain rfl : j = k + 1 := by omega
          obtain ⟨a9, c9, e9, hN⟩ := Bin.own_row (es := (List.range (k + 1)).filter (mpb m f)) hO
          simp only [Value.slice.injEq] at e9
          obtain ⟨rfl, _, rfl⟩ := e9
          have B3 := B2.trans (hB.mono B2.size)
          have HXP : Hid (Bin.xp ((List.range (k + 1)).filter (mpb m f)) = mpv m f) := by show _ = _; rw [xp_nb, HL.out]; rfl
          clear hO hB B2 RP hlt2
          go_wp2_with fail
          refine (Bin.rofV _ n2 _ _ wr hN (by omega) (fun e he => by have := List.mem_range.1 (List.mem_filter.1 he).1; omega)).mono ?_
          rintro e w8 ⟨a8, n8, c8, rfl, h8, b8⟩
          rw [HXP.out] at h8
          have HB8 := Lib.hid (B3.trans (b8.mono B3.size))
          have H8 : Hid (Bin.NewV w w8 300 a8 n8 c8 (mpv m f)) := by
            obtain ⟨X, h1, h2, h3, h4⟩ := h8
            exact ⟨X, h1.from B3.size, h2, h3, h4⟩
          clear h8 b8 B3 hN
          go_wp2_with fail
          go_ret
          exact ⟨a8, n8, c8, rfl, H8.out, HB8.out⟩
end
end Go.Proofs.YthmfneepnkgmgaaGreatDoor.Cos
/- The examples of chapter 5, as the statements ask them first of all; the field that a statement makes; Cosets. By the verifier of shale. -/
namespace Go.Proofs.YthmfneepnkgmgaaGreatDoor.Cos
open Go Go.RowKit Bin
set_option linter.unusedVariables false
theorem sameNV {w0 w1 w : World} {K K' : Nat} {a a' : Option Addr} {n c n' c' v v' : Nat} (h1 : NewV w0 w K a n c v) (h2 : NewV w1 w K' a' n' c' v') (e : v = v') :
    Calls Tryz.prog 17 #[.slice a n c, .slice a' n' c'] w fun e w' => e = .returned (.bool true) ∧ w = w' := by
  obtain ⟨X, p1, b1, e1, _⟩ := h1
  obtain ⟨Y, p2, b2, e2, _⟩ := h2
  have hXY : X = Y := bare_inj b1 b2 (by rw [e1, e2, e])
  refine (same_any X Y _ _ w (Str8.of p1.pol.arg.1) (Str8.of p2.pol.arg.1)).mono ?_
  rintro e w' ⟨rfl, rfl⟩
  exact ⟨by rw [decide_eq_true hXY], rfl⟩
theorem litB (w W : World) (Y : List (BitVec 8)) (k v : Nat) (hW : W = w.alloc (obj8 Y)) (hk : k = Y.length) (hm : k ≤ 1000) (hb : Bare Y) (hv : val Y = v) : NewV w W k (some ⟨w.heap.size, 0, none⟩) k k v ∧ Below w.heap.size w W := by
  subst hW
  exact ⟨⟨Y, ⟨hk, Nat.le_refl _, by unfold maxLen; omega, Or.inr ⟨_, rfl, Nat.le_refl _, buf_of_blk (Blk8.new w Y)⟩⟩, hb, hv, Nat.le_refl _⟩, (Below.refl _ _).alloc (Nat.le_refl _) _⟩
instance : Pl.Mid 4 := ⟨by decide, by decide⟩
theorem f1 : cos 4 (rs 4 5) = [5, 10] := by decide +kernel
theorem f2 : gpr 4 (leads 4 1 2 2) = 0x1d1 := by decide +kernel
theorem f3 : mpv 4 (rs 4 3) = 0x1f := by decide +kernel
theorem f4 : dgs 4 (leads 4 1 2 2) < sz 4 := by decide +kernel
theorem f5 : sz 4 ≤ dgs 4 (leads 4 1 2 8) := by decide +kernel
theorem bare1 : Bare [31#8] := fun _ => by decide
theorem bare2 : Bare [209#8, 1#8] := fun _ => by decide
/-- the m that a statement makes of any number. -/
def mk7 (z : Int) : Nat := (z % 7).toNat + 3
instance (z : Int) : Pl.Mid (mk7 z) := ⟨by unfold mk7; omega, by unfold mk7; omega⟩
theorem mk7_hi (z : Int) : mk7 z ≤ 9 := by unfold mk7; omega
theorem mk7_go (z : Int) : z.tmod 7 % 7 + 3 = (mk7 z : Int) := by
  unfold mk7
  have : z.tmod 7 % 7 = z % 7 := by rw [Int.tmod_eq_emod]; split <;> omega
  omega
def MadeAt (m : Nat) (w : World) (e : Ending) (w' : World) : Prop := ∃ s be ce bl, e = .returned (.tuple #[.pointer (some ⟨s, 0, none⟩), .int .i64 (m : Int)]) ∧ Fld.FldAt m w' s be ce bl ∧ Below w.heap.size w w'
def AllAt (m : Nat) (w : World) (e : Ending) (w' : World) : Prop := ∃ v n vs, e = .returned (.tuple #[v, .nilIface]) ∧ CRow w' w.heap.size m v n (leads m 0 1 (sz m)) vs ∧ Below w.heap.size w w'
end Go.Proofs.YthmfneepnkgmgaaGreatDoor.Cos
/- The reference's Generator. By the verifier of shale. -/
namespace Go.Proofs.YthmfneepnkgmgaaGreatDoor.Cos
open Go Go.RowKit Bin
set_option linter.unusedVariables false
set_option maxRecDepth 100000 in
set_option maxHeartbeats 400000 in
theorem rleast_m (a t : Int) (ha : a < 3 ∨ 14 < a) (w : World) :
    Calls Tryz.prog 58 #[.int .i64 a, .int .i64 t] w fun e w' => e = .returned (.tuple #[.int .i64 0, .slice none 0 0, .int .i64 101]) ∧ w = w' := by
  have t : decide (a < 3) = true ∨ (decide (a < 3) = false ∧ decide (14 < a) = true) := by
    by_cases h : a < 3
    · exact Or.inl (decide_eq_true h)
    · exact Or.inr ⟨decide_eq_false h, decide_eq_true (by omega)⟩
  clear ha
  rcases t with t1 | ⟨t1, t2⟩
  all_goals
    go_enter Tryz.func58, Tryz.ntmps58
    go_wp2_with fail
    go_ret3
    exact ⟨rfl, rfl⟩
set_option maxRecDepth 100000 in
set_option maxHeartbeats 400000 in
theorem rleast_t (a t : Int) (ha : 3 ≤ a ∧ a ≤ 14) (ht : t < 1 ∨ 40 < t) (w : World) :
    Calls Tryz.prog 58 #[.int .i64 a, .int .i64 t] w fun e w' => e = .returned (.tuple #[.int .i64 0, .slice none 0 0, .int .i64 102]) ∧ w = w' := by
  have b1 : decide (a < 3) = false := decide_eq_false (by omega)
  have b2 : decide (14 < a) = false := decide_eq_false (by omega)
  have t : decide (t < 1) = true ∨ (decide (t < 1) = false ∧ decide (40 < t) = true) := by
    by_cases h : t < 1
    · exact Or.inl (decide_eq_true h)
    · exact Or.inr ⟨decide_eq_false h, decide_eq_true (by omega)⟩
  clear ha ht
  rcases t with t1 | ⟨t1, t2⟩
  all_goals
    go_enter Tryz.func58, Tryz.ntmps58
    go_wp2_with fail
    go_ret3
    exact ⟨rfl, rfl⟩
section
variable {m : Nat} [M : Pl.Mid m]
theorem mpv_room {f : Nat} (hf : f < sz m) : mpv m f < room 2 := by
  have h1 := mpv_lt (m := m) f
  have h2 := cos_len_le M.lo hf
  have h3 := M.hi
  exact Nat.lt_of_lt_of_le h1 (Nat.pow_le_pow_right (by decide) (by omega))
def RGenAt (m : Nat) [M : Pl.Mid m] (t : Nat) (w : World) (e : Ending) (w' : World) : Prop :=
  (dgs m (leads m 1 2 t) < sz m ∧ ∃ a n c, e = .returned (.tuple #[.slice a n c, .int .i64 0]) ∧ NewV w w' 81 a n c (gpr m (leads m 1 2 t)) ∧ Below w.heap.size w w') ∨
  (sz m ≤ dgs m (leads m 1 2 t) ∧ e = .returned (.tuple #[.slice none 0 0, .int .i64 105]) ∧ Below w.heap.size w w')
set_option maxRecDepth 100000 in
set_option maxHeartbeats 1000000 in
theorem rgenerator_any (t : Nat) (ht1 : 1 ≤ t) (ht2 : t ≤ 40) (w : World) :
    Calls Tryz.prog 59 #[.int .i64 (m : Int), .int .i64 (t : Int)] w (RGenAt m t w) := by
  go_enter Tryz.func59, Tryz.ntmps59
  go_wp2_with fail
  refine (rleast_any m t M.lo M.hi ht1 ht2 w).mono ?_
  rintro e w1 (⟨hd, a1, n1, c1, rfl, R, B⟩ | ⟨hd, rfl, B⟩)
  rotate_left
  · have HD := Lib.hid hd
    clear hd
    go_wp2_with fail
    go_ret2
    exact Or.inr ⟨HD.out, rfl, B⟩
  · have hl : n1 = (leadsI m t).length := by have := R.hlen; rwa [ints_length] at this
    have hnm : n1 ≤ 40 := by rw [hl, leadsI_len]; have := leads_le m 1 2 t; omega
    have HL := Lib.hid hl
    have HD := Lib.hid hd
    clear hd hl
    go_wp2_with fail
    generalize hw : w1.alloc (.cells #[.int .u8 1] 5 (0, 0)) = w2
    obtain ⟨h1, b⟩ := litB w1 w2 [1#8] 1 1 hw.symm rfl (by decide) (fun _ => by decide) (by decide)
    clear hw
    have HG : Hid (NewV w w2 1 (some ⟨w1.heap.size, 0, none⟩) 1 1 (gpr m (((leadsI m t).map (· % sz m)).take 0))) := newV_from h1 B.size
    have HS : Hid (Pl.RowZ w2 a1 n1 c1 (ints (leadsI m t)) ∧ Below w.heap.size w w2) := ⟨R.below b, B.trans (b.mono B.size)⟩
    generalize (some ⟨w1.heap.size, 0, none⟩ : Option Addr) = ag at HG ⊢
    clear h1 b R B
    go_loopg [9, 10] n1 (fun gh s9 s10 wx => ∃ (k : Nat) (ax : Option Addr) (nx cx : Nat), gh = n1 - k ∧ k ≤ n1 ∧ s10 = .int .i64 (k : Int) ∧ s9 = .slice ax nx cx ∧ Hid (NewV w wx (1 + 2 * k) ax nx cx (gpr m (((leadsI m t).map (· % sz m)).take k))) ∧ Hid (Pl.RowZ wx a1 n1 c1 (ints (leadsI m t)) ∧ Below w.heap.size w wx))
    case atStart => exact ⟨0, ag, 1, 1, rfl, Nat.zero_le _, rfl, rfl, HG, HS⟩
    case round =>
      clear HG HS
      obtain ⟨k, ax, nx, cx, hg, hk, rfl, rfl, HP, HS⟩ := hrel
      have HGh := Lib.hid hg
      clear hg
      by_cases hlt : k < n1
      · have x1 : (k : Int) < (n1 : Int) := by omega
        have x0 : (0 : Int) ≤ (k : Int) := by omega
        have hkl : k < (leadsI m t).length := by rw [← HL.out]; exact hlt
        obtain ⟨bb, off, rfl, d1, _⟩ := HS.out.1.row k hlt
        obtain ⟨u, hu⟩ : ∃ u, u = (leadsI m t).getD k 0 := ⟨_, rfl⟩
        have eu : (ints (leadsI m t)).getD k 0 = (u : Int) := by
          rw [hu]
          unfold Cos.ints
          rw [List.getD_eq_getElem?_getD, List.getElem?_map, List.getD_eq_getElem?_getD, List.getElem?_eq_getElem hkl]; rfl
        rw [eu] at d1
        have hrs : rs m (u : Int) = u % sz m := by unfold rs; rw [← Int.natCast_emod]; exact Int.toNat_natCast _
        have hum : ((leadsI m t).map (· % sz m)).getD k 0 = u % sz m := by
          rw [hu, List.getD_eq_getElem?_getD, List.getElem?_map, List.getD_eq_getElem?_getD, List.getElem?_eq_getElem hkl]; rfl
        have HT : Hid (gpr m (((leadsI m t).map (· % sz m)).take (k + 1)) = pm (gpr m (((leadsI m t).map (· % sz m)).take k)) (mpv m (u % sz m))) := by
          show _ = _
          rw [take_snocN _ k (by rw [List.length_map]; exact hkl), gpr_snoc, hum]
        have hus : u % sz m < sz m := Nat.mod_lt _ (by have := sz_lo M.lo; omega)
        have HX := Lib.hid hrs
        have HRm := Lib.hid (mpv_room (m := m) hus)
        clear hu eu hrs hum hus hkl
        go_wp2_with fail
        refine (rminimal_any (m := m) (u : Int) wr).mono ?_
        rintro e w5 ⟨a5, n5, c5, rfl, h5, b5⟩
        rw [HX.out] at h5
        have P2 := (NewV.fit h5 HRm.out).pol
        have P1 := (newV_since HP.out b5).pol
        have HS5 : Hid (Pl.RowZ w5 (some ⟨bb, off, none⟩) n1 c1 (ints (leadsI m t)) ∧ Below w.heap.size w w5) := ⟨HS.out.1.below b5, HS.out.2.trans (b5.mono HS.out.2.size)⟩
        clear HP HS h5 b5 d1
        go_wp2_with fail
        refine (rmulV (1 + 2 * (k + 1)) P1 P2 (by omega) (by decide) (by omega)).mono ?_
        rintro e w6 ⟨a6, n6, c6, rfl, h6, b6⟩
        have HP6 : Hid (NewV w w6 (1 + 2 * (k + 1)) a6 n6 c6 (gpr m (((leadsI m t).map (· % sz m)).take (k + 1)))) := by
          show NewV _ _ _ _ _ _ _
          rw [HT.out]
          exact newV_from h6 HS5.out.2.size
        have HS6 : Hid (Pl.RowZ w6 (some ⟨bb, off, none⟩) n1 c1 (ints (leadsI m t)) ∧ Below w.heap.size w w6) := ⟨HS5.out.1.below b6, HS5.out.2.trans (b6.mono HS5.out.2.size)⟩
        clear HS5 h6 b6 P1 P2
        go_wp2_with fail
        go_roundg (n1 - (k + 1))
        case measure => have := HGh.out; omega
        case rel => exact ⟨k + 1, a6, n6, c6, rfl, by omega, by go_num, rfl, HP6, HS6⟩
      · obtain rfl : k = n1 := by omega
        have HF : Hid (NewV w wr 81 ax nx cx (gpr m (leads m 1 2 t))) := by
          have h := newV_more HP.out (by omega : 1 + 2 * k ≤ 81)
          rwa [List.take_of_length_le (by rw [List.length_map, HL.out]; exact Nat.le_refl _), leadsI_map] at h
        go_wp2_with fail
        go_ret2
        exact Or.inl ⟨HD.out, ax, nx, cx, rfl, HF.out, HS.out.2⟩
end
end Go.Proofs.YthmfneepnkgmgaaGreatDoor.Cos
/- The walks over the reference's codes: New, Parity, Bits. By the verifier of shale. -/
namespace Go.Proofs.YthmfneepnkgmgaaGreatDoor.Enc
open Go Go.RowKit Bin Cos
set_option linter.unusedVariables false
/-- the reference's code as plain data. -/
abbrev cdV (m t n : Nat) (ga : Option Addr) (gn gc D : Nat) : Value := .agg #[.int .i64 (m : Int), .int .i64 (t : Int), .int .i64 (n : Int), .slice ga gn gc, .int .i64 (D : Int)]
abbrev cdZ : Value := .agg #[.int .i64 0, .int .i64 0, .int .i64 0, .slice none 0 0, .int .i64 0]
def cdO (a b c d e : Value) : Obj := .cells #[a, b, c, d, e] 26 (0, 0)
theorem cd_cells {w : World} {s : Nat} {a b c d e : Value} (h : w.heap[s]? = some (cdO a b c d e)) :
    w.cell? ⟨s, 0, none⟩ = some a ∧ w.cell? ⟨s, 1, none⟩ = some b ∧ w.cell? ⟨s, 2, none⟩ = some c ∧ w.cell? ⟨s, 3, none⟩ = some d ∧ w.cell? ⟨s, 4, none⟩ = some e ∧ ∀ i, w.frozen? ⟨s, i, none⟩ = false := by
  refine ⟨?_, ?_, ?_, ?_, ?_, ?_⟩
  all_goals first | (unfold World.cell?; simp only; rw [h]; rfl) | (intro i; unfold World.frozen?; simp only; rw [h]; unfold cdO; simp)
theorem newV_only {w0 w w' : World} {K : Nat} {a : Option Addr} {n c v s : Nat} (h : NewV w0 w K a n c v) (o : Only s w w') (hs : s < w0.heap.size) : NewV w0 w' K a n c v := by
  obtain ⟨X, h1, h2, h3, h4⟩ := h
  refine ⟨X, ⟨h1.hlen, h1.hcap, h1.hmost, ?_⟩, h2, h3, h4⟩
  rcases h1.own with h | ⟨g, e, hg, hx⟩
  · exact Or.inl h
  · exact Or.inr ⟨g, e, hg, buf_only hx o (by omega)⟩
section
variable {m : Nat} [M : Pl.Mid m]
def RMadeAt (m t n : Nat) [M : Pl.Mid m] (w : World) (e : Ending) (w' : World) : Prop := ∃ ga gn gc, e = .returned (.tuple #[cdV m t n ga gn gc (deg m t), .int .i64 0]) ∧ NewV w w' 81 ga gn gc (gen m t) ∧ Below w.heap.size w w'
set_option maxRecDepth 100000 in
set_option maxHeartbeats 1000000 in
theorem rnew_any {t n : Nat} (H : May m t n) (w : World) :
    Calls Tryz.prog 32 #[.int .i64 (m : Int), .int .i64 (t : Int), .int .i64 (n : Int)] w (RMadeAt m t n w) := by
  have ho := Fld.shl_one m M.hi
  have hn7 := sz_lo M.lo
  have hn2 := sz_hi M.hi
  have hw : IntKind.i64.wrap ((Fld.els m : Int) - 1) = (sz m : Int) := by
    have : (Fld.els m : Int) - 1 = (sz m : Int) := by unfold Fld.els sz; have := Nat.two_pow_pos m; omega
    rw [this]; exact IntWalk.i64_in _ (by omega)
  have hm1 := M.lo
  have hm14 := M.hi
  have m0 : (0 : Int) ≤ (m : Int) := by omega
  have m64 : (m : Int) ≤ 14 := by omega
  have n1 : ¬ (n : Int) < 1 := by have := H.n1; omega
  have n2 : ¬ (2048 : Int) < (n : Int) := by have := H.n2; omega
  have n3 : n ≤ 2048 := H.n2
  have hD2 := deg_560 (m := m) H.t2
  obtain ⟨D, hD⟩ : ∃ D, D = deg m t := ⟨_, rfl⟩
  have HDE := Lib.hid hD
  rw [← hD] at hD2
  have hroom : ¬ (sz m : Int) < 8 * (n : Int) + (D : Int) := by have := H.room; omega
  obtain ⟨N, hN⟩ : ∃ N, N = sz m := ⟨_, rfl⟩
  have HNE := Lib.hid hN
  rw [← hN] at hw hn7 hn2 hroom
  have HH := Lib.hid H
  have b0 : Below w.heap.size w (w.alloc (cdO (.int .i64 0) (.int .i64 0) (.int .i64 0) (.slice none 0 0) (.int .i64 0))) := (Below.refl _ _).alloc (Nat.le_refl _) _
  have hz : w.heap.size < (w.alloc (cdO (.int .i64 0) (.int .i64 0) (.int .i64 0) (.slice none 0 0) (.int .i64 0))).heap.size := by simp
  have hblk : (w.alloc (cdO (.int .i64 0) (.int .i64 0) (.int .i64 0) (.slice none 0 0) (.int .i64 0))).heap[w.heap.size]? = some (cdO (.int .i64 0) (.int .i64 0) (.int .i64 0) (.slice none 0 0) (.int .i64 0)) := heap_alloc_new w _
  have HI := Lib.hid (And.intro b0 (And.intro hz hblk))
  clear hD hN H b0 hz hblk
  go_enter Tryz.func32, Tryz.ntmps32
  go_wp2_with fail
  obtain ⟨b0, hz, hblk⟩ := HI.out
  clear HI
  rw [show Obj.cells #[Value.int IntKind.i64 0, Value.int IntKind.i64 0, Value.int IntKind.i64 0, Value.slice none 0 0, Value.int IntKind.i64 0] 26 (0, 0) = cdO (.int .i64 0) (.int .i64 0) (.int .i64 0) (.slice none 0 0) (.int .i64 0) from rfl]
  generalize w.alloc (cdO (.int .i64 0) (.int .i64 0) (.int .i64 0) (.slice none 0 0) (.int .i64 0)) = w0 at b0 hz hblk ⊢
  refine (rleast_any m t M.lo M.hi HH.out.t1 HH.out.t2 w0).mono ?_
  rintro e w1 (⟨hd, a1, n1', c1, rfl, R, B⟩ | ⟨hd, rfl, B⟩)
  rotate_left
  · exact absurd hd (by have := HH.out.least; unfold deg at this; omega)
  rw [show dgs m (leads m 1 2 t) = D from HDE.out.symm]
  have B1 := b0.trans (B.mono b0.size)
  have hb1 := (B.block _ hz).trans hblk
  have hz1 := Nat.lt_of_lt_of_le hz B.size
  clear hd R B b0 hblk hz
  go_wp2_with fail
  refine (rgenerator_any (m := m) t HH.out.t1 HH.out.t2 w1).mono ?_
  rintro e w2 (⟨hd, ga, gn, gc, rfl, hG, b⟩ | ⟨hd, rfl, b⟩)
  rotate_left
  · exact absurd hd (by have := HH.out.least; unfold deg at this; omega)
  have hb2 := (b.block _ hz1).trans hb1
  obtain ⟨c0, c1, c2, c3, c4, cf⟩ := cd_cells hb2
  have HG := Lib.hid (And.intro hG (B1.trans (b.mono B1.size)))
  have hz2 := Nat.lt_of_lt_of_le hz1 b.size
  have hs1 := Nat.le_of_lt hz1
  clear hd hG b B1 hb1 hb2
  go_wp2_with fail
  obtain ⟨hG, B2⟩ := HG.out
  have e5 := HDE.out
  have o5 := ((((Only.setCell w2 ⟨w.heap.size, 0, none⟩ (.int .i64 (m : Int))).trans (Only.setCell _ ⟨w.heap.size, 1, none⟩ (.int .i64 (t : Int)))).trans (Only.setCell _ ⟨w.heap.size, 2, none⟩ (.int .i64 (n : Int)))).trans (Only.setCell _ ⟨w.heap.size, 3, none⟩ (.slice ga gn gc))).trans (Only.setCell _ ⟨w.heap.size, 4, none⟩ (.int .i64 (D : Int)))
  exact bodyPost_ret (v := .tuple #[cdV m t n ga gn gc D, .int .i64 0]) (by simp [results, Tryz.results32, go_sem, c0, c1, c2, c3, c4]) rfl ⟨ga, gn, gc, by rw [← e5], newV_from (newV_only hG o5 hz1) hs1, B2.trans (o5.below (Nat.le_refl _))⟩
end
end Go.Proofs.YthmfneepnkgmgaaGreatDoor.Enc
/- The walk over the reference's Serial. By the verifier of shale. -/
namespace Go.Proofs.YthmfneepnkgmgaaGreatDoor.Enc
open Go Go.RowKit Bin Cos
set_option linter.unusedVariables false
set_option maxRecDepth 100000 in
theorem rBit {w : World} {k : Nat} {a : Option Addr} {n c u : Nat} (h : PolV w k a n c u) (d : Nat) (hd : d ≤ 1000000) :
    Calls Tryz.prog 47 #[.slice a n c, .int .i64 (d : Int)] w fun e w' => e = .returned (.int .i64 (bz (u.testBit d))) ∧ w = w' := by
  obtain ⟨X, p1, rfl, n1⟩ := h
  have HP := Lib.hid p1
  have HB := Lib.hid (bitZ_bz X d)
  clear p1
  go_enter Tryz.func47, Tryz.ntmps47
  go_wp2_with fail
  refine (rbit_any a n c X (d : Int) w HP.out (by omega)).mono ?_
  rintro e w1 ⟨rfl, rfl⟩
  rw [HB.out]
  go_wp2_with fail
  go_ret
  exact ⟨rfl, rfl⟩
theorem bz_mul (a b : Bool) : bz a * bz b = bz (a && b) := by cases a <;> cases b <;> rfl
/-- what the reference's step makes of bit j. -/
def stp (R G : Nat) (tp : Bool) (j : Nat) : Bool := (decide (0 < j) && R.testBit (j - 1)) ^^ (tp && G.testBit j)
theorem ser_bit {G D R b : Nat} (hD : 1 ≤ D) (hl : R < 2 ^ D) (hb : b < 2) (j : Nat) (hj : j < D) :
    (((R <<< 1) % 2 ^ D) ^^^ (if (R >>> (D - 1)) ^^^ b = 0 then 0 else low G D)).testBit j = stp R G (R.testBit (D - 1) ^^ decide (b = 1)) j := by
  have h1 : R >>> (D - 1) = if R.testBit (D - 1) then 1 else 0 := by
    have hlt : R >>> (D - 1) < 2 := by
      rw [Nat.shiftRight_eq_div_pow]
      apply Nat.div_lt_of_lt_mul
      rw [← Nat.pow_succ, show (D - 1).succ = D by omega]; exact hl
    have ht : (R >>> (D - 1)).testBit 0 = R.testBit (D - 1) := by rw [Nat.testBit_shiftRight]; rfl
    rw [← ht, Nat.testBit_zero]
    generalize R >>> (D - 1) = q at hlt
    rcases (by omega : q = 0 ∨ q = 1) with e | e <;> rw [e] <;> rfl
  have hs : ((R <<< 1) % 2 ^ D).testBit j = (decide (0 < j) && R.testBit (j - 1)) := by
    rw [Nat.testBit_mod_two_pow, Nat.testBit_shiftLeft]
    simp [hj]
    rfl
  rw [Nat.testBit_xor, hs, h1]
  unfold stp
  congr 1
  have hlow : (low G D).testBit j = G.testBit j := by unfold low; rw [Nat.testBit_mod_two_pow]; simp [hj]
  cases R.testBit (D - 1) <;> rcases (by omega : b = 0 ∨ b = 1) with rfl | rfl <;> simp [hlow]
/-- bits as ints. -/
def bf (n : Nat) (f : Nat → Bool) : List Int := (List.range n).map fun i => bz (f i)
theorem bf_length (n : Nat) (f : Nat → Bool) : (bf n f).length = n := by simp [bf]
theorem bf_at (n : Nat) (f : Nat → Bool) (i : Nat) (h : i < n) : nth64 (bf n f) i = bz (f i) := by
  unfold nth64 bf
  rw [List.getD_eq_getElem?_getD, List.getElem?_map, List.getElem?_range h]; rfl
theorem bf_set (n : Nat) (f : Nat → Bool) (i : Nat) (v : Bool) : (bf n f).set i (bz v) = bf n (fun j => if j = i then v else f j) := by
  apply List.ext_getElem
  · simp [bf]
  · intro j h1 h2
    rw [List.getElem_set]
    simp only [bf, List.getElem_map, List.getElem_range]
    by_cases h : i = j
    · subst h; simp
    · rw [if_neg h, if_neg (Ne.symm h)]
theorem bf_ext {n : Nat} {f g : Nat → Bool} (h : ∀ j, j < n → f j = g j) : bf n f = bf n g := by
  apply List.ext_getElem
  · simp [bf]
  · intro j h1 h2
    simp only [bf, List.getElem_map, List.getElem_range]
    rw [h j (by simpa [bf] using h1)]
theorem bf_zero (n : Nat) : List.replicate n 0 = bf n fun _ => false := by
  apply List.ext_getElem
  · simp [bf]
  · intro i h1 h2; simp [bf, bz]
theorem nb_self {R D : Nat} (h : R < 2 ^ D) : nb (fun i => R.testBit i) D = R := by
  apply Nat.eq_of_testBit_eq
  intro i
  rw [nb_bit]
  by_cases hi : i < D
  · simp [hi]
  · rw [Nat.testBit_lt_two_pow (Nat.lt_of_lt_of_le h (Nat.pow_le_pow_right (by decide) (by omega)))]; simp [hi]
theorem shr_step (V i : Nat) : V >>> i = (V >>> (i + 1)) <<< 1 ^^^ (V >>> i) % 2 := by
  have h := split_at (V >>> i) 1
  rw [show V >>> (i + 1) = (V >>> i) >>> 1 from Nat.shiftRight_add V i 1, Nat.xor_comm]
  exact h
set_option maxRecDepth 100000 in
set_option maxHeartbeats 400000 in
theorem rparity_any (m t n : Nat) (ga : Option Addr) (gn gc D : Nat) (hD : D ≤ 1000) (w : World) :
    Calls Tryz.prog 14 #[cdV m t n ga gn gc D] w fun e w' => e = .returned (.int .i64 (pb D : Int)) ∧ Below w.heap.size w w' := by
  have b0 : Below w.heap.size w (w.alloc (cdO (.int .i64 (m : Int)) (.int .i64 (t : Int)) (.int .i64 (n : Int)) (.slice ga gn gc) (.int .i64 (D : Int)))) := (Below.refl _ _).alloc (Nat.le_refl _) _
  obtain ⟨P, hP⟩ : ∃ P, P = pb D := ⟨_, rfl⟩
  have hP2 : P = (D + 7) / 8 := hP
  rw [← hP]
  have q0 : ((D : Int) + 7).tdiv 8 = (P : Int) := by rw [Int.tdiv_eq_ediv_of_nonneg (by omega)]; omega
  have q00 : ((D : Int) + 7) / 8 = (P : Int) := by omega
  clear hP hP2
  go_enter Tryz.func14, Tryz.ntmps14
  go_wp2_with fail
  go_ret
  exact ⟨rfl, b0⟩
set_option maxRecDepth 100000 in
set_option maxHeartbeats 400000 in
theorem rbits_any (m t n : Nat) (ga : Option Addr) (gn gc D : Nat) (hD : D ≤ 1000) (hn : n ≤ 2048) (w : World) :
    Calls Tryz.prog 25 #[cdV m t n ga gn gc D] w fun e w' => e = .returned (.int .i64 ((8 * n + D : Nat) : Int)) ∧ Below w.heap.size w w' := by
  have b0 : Below w.heap.size w (w.alloc (cdO (.int .i64 (m : Int)) (.int .i64 (t : Int)) (.int .i64 (n : Int)) (.slice ga gn gc) (.int .i64 (D : Int)))) := (Below.refl _ _).alloc (Nat.le_refl _) _
  have e1 : 8 * (n : Int) + (D : Int) = ((8 * n + D : Nat) : Int) := by omega
  rw [← e1]
  clear e1
  go_enter Tryz.func25, Tryz.ntmps25
  go_wp2_with fail
  go_ret
  exact ⟨rfl, b0⟩
/-- what the reference's inner loop has made of the bits: those above i are moved. -/
def sti (R G : Nat) (tp : Bool) (i j : Nat) : Bool := if i < j then stp R G tp j else R.testBit j
end Go.Proofs.YthmfneepnkgmgaaGreatDoor.Enc
/- The walks over what the statements of chapter 6 make: fit, Distance, the reference's Flip. By the verifier of shale. -/
namespace Go.Proofs.YthmfneepnkgmgaaGreatDoor.Enc
open Go Go.RowKit Bin Cos
set_option linter.unusedVariables false
/-- data of a length, made of any. -/
def fitL (b : List (BitVec 8)) (n : Nat) : List (BitVec 8) := b.take n ++ List.replicate (n - b.length) 0
theorem fitL_length (b : List (BitVec 8)) (n : Nat) : (fitL b n).length = n := by
  unfold fitL
  rw [List.length_append, List.length_take, List.length_replicate]; omega
theorem splice_fit (b : List (BitVec 8)) (n : Nat) : splice (List.replicate n (Value.int .u8 0)) 0 (cells8 (b.take n)) = cells8 (fitL b n) := by
  unfold splice fitL
  rw [List.take_zero, List.nil_append, Nat.zero_add, cells8_length, List.length_take, List.drop_replicate]
  unfold cells8
  rw [List.map_append, List.map_replicate]
  congr 2
  omega
theorem len_inj {l k : List (BitVec 8)} (h : l.length = k.length) (hv : val l = val k) : l = k := nth8_ext h fun i _ => nth8_of_val hv i
theorem byN_inj {V U n : Nat} (h1 : V < 2 ^ (8 * n)) (h2 : U < 2 ^ (8 * n)) (h : byN V n = byN U n) : V = U := by rw [← val_byN h1, ← val_byN h2, h]
theorem byN_val (l : List (BitVec 8)) : byN (val l) l.length = l := len_inj (byN_length _ _) (by rw [val_byN (val_lt l)])
set_option maxRecDepth 100000 in
set_option maxHeartbeats 1000000 in
theorem distance_any (a a' : Option Addr) (n c c' : Nat) (X Y : List (BitVec 8)) (hn : n ≤ 10000) (w : World) (hX : Pol w a n c X) (hY : Pol w a' n c' Y) :
    Calls Tryz.prog 22 #[.slice a n c, .slice a' n c'] w fun e w' => e = .returned (.int .i64 (pop (val X ^^^ val Y) (8 * n) : Int)) ∧ w = w' := by
  have PX : PolV w n a n c (val X) := ⟨X, hX, rfl, Nat.le_refl _⟩
  have PY : PolV w n a' n c' (val Y) := ⟨Y, hY, rfl, Nat.le_refl _⟩
  obtain ⟨U, hU⟩ : ∃ U, U = val X := ⟨_, rfl⟩
  obtain ⟨V, hV⟩ : ∃ V, V = val Y := ⟨_, rfl⟩
  rw [← hU] at PX ⊢
  rw [← hV] at PY ⊢
  have HX := Lib.hid PX
  have HY := Lib.hid PY
  have p0 : pop (U ^^^ V) 0 = 0 := rfl
  have HP0 := Lib.hid p0
  clear hU hV hX hY PX PY p0
  go_enter Tryz.func22, Tryz.ntmps22
  go_wp2_with fail
  go_loopg [5, 6] (8 * n) (fun gh s5 s6 wx => ∃ (k : Nat), gh = 8 * n - k ∧ k ≤ 8 * n ∧ s6 = .int .i64 (k : Int) ∧ s5 = .int .i64 (pop (U ^^^ V) k : Int) ∧ w = wx)
  case atStart => exact ⟨0, rfl, Nat.zero_le _, rfl, by rw [HP0.out]; rfl, rfl⟩
  case round =>
    clear HP0
    obtain ⟨k, hg, hk, rfl, rfl, rfl⟩ := hrel
    have HG := Lib.hid hg
    clear hg
    have hpk : pop (U ^^^ V) k ≤ k := by
      unfold pop plc
      have := List.length_filter_le (fun i => (U ^^^ V).testBit i) (List.range k)
      rw [List.length_range] at this
      exact this
    by_cases hlt : k < 8 * n
    · have x1 : (k : Int) < 8 * (n : Int) := by omega
      have HB1 := Lib.hid (rBit HX.out k (by omega))
      have HB2 := Lib.hid (rBit HY.out k (by omega))
      have HPS := Lib.hid (pop_succ (U ^^^ V) k)
      rw [Nat.testBit_xor] at HPS
      have HI : Hid (k + 1 ≤ 8 * n) := hlt
      have t1 : (bz (U.testBit k) == bz (V.testBit k)) = !(U.testBit k ^^ V.testBit k) := by cases U.testBit k <;> cases V.testBit k <;> rfl
      obtain ⟨p, hp⟩ : ∃ p, p = pop (U ^^^ V) k := ⟨_, rfl⟩
      rw [← hp] at hpk HPS ⊢
      clear hp
      cases hx : (U.testBit k ^^ V.testBit k)
      · rw [hx] at HPS t1
        generalize bz (U.testBit k) = b1 at HB1 t1
        generalize bz (V.testBit k) = b2 at HB2 t1
        replace t1 : (b1 == b2) = true := t1
        clear hx
        go_wp2_with fail
        refine HB1.out.mono ?_
        rintro e w' ⟨rfl, rfl⟩
        go_wp2_with fail
        refine HB2.out.mono ?_
        rintro e w' ⟨rfl, rfl⟩
        go_wp2_with fail
        go_roundg (8 * n - (k + 1))
        case measure => have := HG.out; have := HI.out; omega
        case rel => exact ⟨k + 1, rfl, HI.out, by go_num, by rw [HPS.out]; rfl, rfl⟩
      · rw [hx] at HPS t1
        generalize bz (U.testBit k) = b1 at HB1 t1
        generalize bz (V.testBit k) = b2 at HB2 t1
        replace t1 : (b1 == b2) = false := t1
        clear hx
        go_wp2_with fail
        refine HB1.out.mono ?_
        rintro e w' ⟨rfl, rfl⟩
        go_wp2_with fail
        refine HB2.out.mono ?_
        rintro e w' ⟨rfl, rfl⟩
        go_wp2_with fail
        go_roundg (8 * n - (k + 1))
        case measure => have := HG.out; have := HI.out; omega
        case rel => exact ⟨k + 1, rfl, HI.out, by go_num, by rw [HPS.out]; rfl, rfl⟩
    · obtain rfl : k = 8 * n := by omega
      obtain ⟨p, hp⟩ : ∃ p, p = pop (U ^^^ V) (8 * n) := ⟨_, rfl⟩
      rw [← hp] at hpk ⊢
      have HPp := Lib.hid hp
      clear hp
      go_wp2_with fail
      go_ret
      rw [← HPp.out]
      exact ⟨rfl, rfl⟩
end Go.Proofs.YthmfneepnkgmgaaGreatDoor.Enc
/- The codes that the statements of chapter 6 make: what New refuses; made. By the verifier of shale. -/
namespace Go.Proofs.YthmfneepnkgmgaaGreatDoor.Enc
open Go Go.RowKit Bin Cos
set_option linter.unusedVariables false
section
variable {m : Nat} [M : Pl.Mid m]
/-- data of a length that may be, but there is no such code. -/
structure MayNot (m t n : Nat) : Prop where
  t1 : 1 ≤ t
  t2 : t ≤ 40
  n1 : 1 ≤ n
  n2 : n ≤ 2048
  no : sz m ≤ deg m t ∨ sz m < 8 * n + deg m t
theorem may_or (m t n : Nat) (t1 : 1 ≤ t) (t2 : t ≤ 40) (n1 : 1 ≤ n) (n2 : n ≤ 2048) : May m t n ∨ MayNot m t n := by
  by_cases h1 : sz m ≤ deg m t
  · exact Or.inr ⟨t1, t2, n1, n2, Or.inl h1⟩
  · by_cases h2 : sz m < 8 * n + deg m t
    · exact Or.inr ⟨t1, t2, n1, n2, Or.inr h2⟩
    · exact Or.inl ⟨t1, t2, n1, n2, by omega, by omega⟩
set_option maxRecDepth 100000 in
set_option maxHeartbeats 1000000 in
theorem new_no {t n : Nat} (H : MayNot m t n) (w : World) (y : Addr) (E : ErrAt w 3 y) :
    Calls Tryz.prog 28 #[.int .i64 (m : Int), .int .i64 (t : Int), .int .i64 (n : Int)] w fun e w' => e = .returned (.tuple #[.pointer none, errOf y]) ∧ Below w.heap.size w w' := by
  have ho := Fld.shl_one m M.hi
  have hn7 := sz_lo M.lo
  have hn2 := sz_hi M.hi
  have hw : IntKind.i64.wrap ((Fld.els m : Int) - 1) = (sz m : Int) := by
    have : (Fld.els m : Int) - 1 = (sz m : Int) := by unfold Fld.els sz; have := Nat.two_pow_pos m; omega
    rw [this]; exact IntWalk.i64_in _ (by omega)
  have hm1 := M.lo
  have hm14 := M.hi
  have m0 : (0 : Int) ≤ (m : Int) := by omega
  have m64 : (m : Int) ≤ 14 := by omega
  have n1 : ¬ (n : Int) < 1 := by have := H.n1; omega
  have n2 : ¬ (2048 : Int) < (n : Int) := by have := H.n2; omega
  have n3 : n ≤ 2048 := H.n2
  have hD2 := deg_560 (m := m) H.t2
  obtain ⟨D, hD⟩ : ∃ D, D = deg m t := ⟨_, rfl⟩
  have HDE := Lib.hid hD
  rw [← hD] at hD2
  obtain ⟨N, hN⟩ : ∃ N, N = sz m := ⟨_, rfl⟩
  have HNE := Lib.hid hN
  rw [← hN] at hw hn7 hn2
  have HH := Lib.hid H
  clear hD hN H
  go_enter Tryz.func28, Tryz.ntmps28
  go_wp2_with fail
  refine (least_any m t M.lo M.hi HH.out.t1 HH.out.t2 w y E).mono ?_
  rintro e w1 (⟨hd, rfl, B⟩ | ⟨hd, rfl, B⟩)
  · rw [show dgs m (leads m 1 2 t) = D from HDE.out.symm]
    have hroom : (N : Int) < 8 * (n : Int) + (D : Int) := by
      have h1 := HDE.out
      have h2 := HNE.out
      have h3 : deg m t < sz m := hd
      rcases HH.out.no with h | h <;> omega
    have e1 := (E.below B).1
    unfold Sent at e1
    clear hd E
    go_wp2_with fail
    go_quiet (fail)
    have hd2 := B.trans ((Drawn.mk w1 nq).below w.heap.size)
    generalize w1.drewN nq = w5 at hd2 ⊢
    clear e1
    go_wp2_with fail
    go_ret2
    exact ⟨rfl, hd2⟩
  · clear hd E
    go_wp2_with fail
    go_ret2
    exact ⟨rfl, B⟩
set_option maxRecDepth 100000 in
set_option maxHeartbeats 1000000 in
theorem rnew_no {t n : Nat} (H : MayNot m t n) (w : World) :
    Calls Tryz.prog 32 #[.int .i64 (m : Int), .int .i64 (t : Int), .int .i64 (n : Int)] w fun e w' => e = .returned (.tuple #[cdZ, .int .i64 105]) ∧ Below w.heap.size w w' := by
  have ho := Fld.shl_one m M.hi
  have hn7 := sz_lo M.lo
  have hn2 := sz_hi M.hi
  have hw : IntKind.i64.wrap ((Fld.els m : Int) - 1) = (sz m : Int) := by
    have : (Fld.els m : Int) - 1 = (sz m : Int) := by unfold Fld.els sz; have := Nat.two_pow_pos m; omega
    rw [this]; exact IntWalk.i64_in _ (by omega)
  have hm1 := M.lo
  have hm14 := M.hi
  have m0 : (0 : Int) ≤ (m : Int) := by omega
  have m64 : (m : Int) ≤ 14 := by omega
  have n1 : ¬ (n : Int) < 1 := by have := H.n1; omega
  have n2 : ¬ (2048 : Int) < (n : Int) := by have := H.n2; omega
  have n3 : n ≤ 2048 := H.n2
  have hD2 := deg_560 (m := m) H.t2
  obtain ⟨D, hD⟩ : ∃ D, D = deg m t := ⟨_, rfl⟩
  have HDE := Lib.hid hD
  rw [← hD] at hD2
  obtain ⟨N, hN⟩ : ∃ N, N = sz m := ⟨_, rfl⟩
  have HNE := Lib.hid hN
  rw [← hN] at hw hn7 hn2
  have HH := Lib.hid H
  have b0 : Below w.heap.size w (w.alloc (cdO (.int .i64 0) (.int .i64 0) (.int .i64 0) (.slice none 0 0) (.int .i64 0))) := (Below.refl _ _).alloc (Nat.le_refl _) _
  have hz : w.heap.size < (w.alloc (cdO (.int .i64 0) (.int .i64 0) (.int .i64 0) (.slice none 0 0) (.int .i64 0))).heap.size := by simp
  have hblk : (w.alloc (cdO (.int .i64 0) (.int .i64 0) (.int .i64 0) (.slice none 0 0) (.int .i64 0))).heap[w.heap.size]? = some (cdO (.int .i64 0) (.int .i64 0) (.int .i64 0) (.slice none 0 0) (.int .i64 0)) := heap_alloc_new w _
  have HI := Lib.hid (And.intro b0 (And.intro hz hblk))
  clear hD hN H b0 hz hblk
  go_enter Tryz.func32, Tryz.ntmps32
  go_wp2_with fail
  obtain ⟨b0, hz, hblk⟩ := HI.out
  clear HI
  rw [show Obj.cells #[Value.int IntKind.i64 0, Value.int IntKind.i64 0, Value.int IntKind.i64 0, Value.slice none 0 0, Value.int IntKind.i64 0] 26 (0, 0) = cdO (.int .i64 0) (.int .i64 0) (.int .i64 0) (.slice none 0 0) (.int .i64 0) from rfl]
  generalize w.alloc (cdO (.int .i64 0) (.int .i64 0) (.int .i64 0) (.slice none 0 0) (.int .i64 0)) = w0 at b0 hz hblk ⊢
  refine (rleast_any m t M.lo M.hi HH.out.t1 HH.out.t2 w0).mono ?_
  rintro e w1 (⟨hd, a1, n1', c1, rfl, R, B⟩ | ⟨hd, rfl, B⟩)
  · have hroom : (N : Int) < 8 * (n : Int) + (D : Int) := by
      have h1 := HDE.out
      have h2 := HNE.out
      have h3 : deg m t < sz m := hd
      rcases HH.out.no with h | h <;> omega
    rw [show dgs m (leads m 1 2 t) = D from HDE.out.symm]
    have B1 := b0.trans (B.mono b0.size)
    have hb1 := (B.block _ hz).trans hblk
    obtain ⟨c0, c1', c2, c3, c4, cf⟩ := cd_cells hb1
    clear hd R B b0 hblk hz hb1
    go_wp2_with fail
    exact bodyPost_ret (v := .tuple #[cdZ, .int .i64 105]) (by simp [results, Tryz.results32, go_sem, c0, c1', c2, c3, c4]) rfl ⟨rfl, ((((B1.setCell (p := ⟨w.heap.size, 0, none⟩) (Nat.le_refl _) _).setCell (p := ⟨w.heap.size, 1, none⟩) (Nat.le_refl _) _).setCell (p := ⟨w.heap.size, 2, none⟩) (Nat.le_refl _) _).setCell (p := ⟨w.heap.size, 3, none⟩) (Nat.le_refl _) _).setCell (p := ⟨w.heap.size, 4, none⟩) (Nat.le_refl _) _⟩
  · have B1 := b0.trans (B.mono b0.size)
    have hb1 := (B.block _ hz).trans hblk
    obtain ⟨c0, c1', c2, c3, c4, cf⟩ := cd_cells hb1
    clear hd B b0 hblk hz hb1
    go_wp2_with fail
    exact bodyPost_ret (v := .tuple #[cdZ, .int .i64 105]) (by simp [results, Tryz.results32, go_sem, c0, c1', c2, c3, c4]) rfl ⟨rfl, ((((B1.setCell (p := ⟨w.heap.size, 0, none⟩) (Nat.le_refl _) _).setCell (p := ⟨w.heap.size, 1, none⟩) (Nat.le_refl _) _).setCell (p := ⟨w.heap.size, 2, none⟩) (Nat.le_refl _) _).setCell (p := ⟨w.heap.size, 3, none⟩) (Nat.le_refl _) _).setCell (p := ⟨w.heap.size, 4, none⟩) (Nat.le_refl _) _⟩
end
end Go.Proofs.YthmfneepnkgmgaaGreatDoor.Enc
/- made: the code that a statement of chapter 6 makes of any numbers. By the verifier of shale. -/
namespace Go.Proofs.YthmfneepnkgmgaaGreatDoor.Enc
open Go Go.RowKit Bin Cos
set_option linter.unusedVariables false
/-- the numbers that a statement makes of any. -/
def mkM (z : Int) : Nat := (z % 5).toNat + 6
def mkT (z : Int) : Nat := (z % 6).toNat + 1
def mkN (z : Int) : Nat := (z % 24).toNat + 1
instance (z : Int) : Pl.Mid (mkM z) := ⟨by unfold mkM; omega, by unfold mkM; omega⟩
instance mid8 : Pl.Mid 8 := ⟨by decide, by decide⟩
theorem mkM_go (z : Int) : z.tmod 5 % 5 + 6 = (mkM z : Int) := by
  unfold mkM
  have : z.tmod 5 % 5 = z % 5 := by rw [Int.tmod_eq_emod]; split <;> omega
  omega
theorem mkT_go (z : Int) : z.tmod 6 % 6 + 1 = (mkT z : Int) := by
  unfold mkT
  have : z.tmod 6 % 6 = z % 6 := by rw [Int.tmod_eq_emod]; split <;> omega
  omega
theorem mkN_go (z : Int) : z.tmod 24 % 24 + 1 = (mkN z : Int) := by
  unfold mkN
  have : z.tmod 24 % 24 = z % 24 := by rw [Int.tmod_eq_emod]; split <;> omega
  omega
theorem tmod_bounds (z : Int) (k : Nat) (h : 0 < k) : -(k : Int) < z.tmod k ∧ z.tmod k < k := by
  have a1 := Int.tmod_lt_of_pos z (b := (k : Int)) (by omega)
  have a2 := Int.tmod_lt_of_pos (-z) (b := (k : Int)) (by omega)
  rw [Int.neg_tmod] at a2
  omega
theorem may8 : May 8 2 9 := ⟨by decide, by decide, by decide, by decide, by decide +kernel, by decide +kernel⟩
/-- both codes, and what they are. -/
def BothAt (w : World) (e : Ending) (w' : World) : Prop :=
  ∃ (m t n : Nat) (M : Pl.Mid m) (s : Nat) (ga : Option Addr) (gn gc : Nat), 6 ≤ m ∧ m ≤ 10 ∧ t ≤ 6 ∧ n ≤ 24 ∧ May m t n ∧ e = .returned (.tuple #[.pointer (some ⟨s, 0, none⟩), cdV m t n ga gn gc (deg m t), .bool true]) ∧
    CodeAt m t n w' s ∧ BarV w' ga gn gc (gen m t) ∧ Below w.heap.size w w'
theorem setCd {w : World} {s : Nat} {a b c d e : Value} (h : w.heap[s]? = some (cdO a b c d e)) (a' b' c' d' e' : Value) : (((((w.setCell ⟨s, 0, none⟩ a').setCell ⟨s, 1, none⟩ b').setCell ⟨s, 2, none⟩ c').setCell ⟨s, 3, none⟩ d').setCell ⟨s, 4, none⟩ e').heap[s]? = some (cdO a' b' c' d' e') := by
  have hlt := lt_of_block h
  have step : ∀ (w : World) (i : Nat) (v : Value) (cs : Array Value), w.heap[s]? = some (.cells cs 26 (0, 0)) → (w.setCell ⟨s, i, none⟩ v).heap[s]? = some (.cells (cs.setIfInBounds i v) 26 (0, 0)) := by
    intro w i v cs h
    have hlt := lt_of_block h
    have h' : w.heap[s] = .cells cs 26 (0, 0) := by simpa [Array.getElem?_eq_getElem hlt] using h
    show (w.heap.modify s _)[s]? = _
    rw [Array.getElem?_eq_getElem (by simpa using hlt), Array.getElem_modify_self, h']
    rfl
  have h1 := step _ 4 e' _ (step _ 3 d' _ (step _ 2 c' _ (step _ 1 b' _ (step _ 0 a' _ h))))
  exact h1
theorem onlyCd (w : World) (s : Nat) (a' b' c' d' e' : Value) : Only s w (((((w.setCell ⟨s, 0, none⟩ a').setCell ⟨s, 1, none⟩ b').setCell ⟨s, 2, none⟩ c').setCell ⟨s, 3, none⟩ d').setCell ⟨s, 4, none⟩ e') :=
  ((((Only.setCell w ⟨s, 0, none⟩ a').trans (Only.setCell _ ⟨s, 1, none⟩ b')).trans (Only.setCell _ ⟨s, 2, none⟩ c')).trans (Only.setCell _ ⟨s, 3, none⟩ d')).trans (Only.setCell _ ⟨s, 4, none⟩ e')
abbrev cd0 : Obj := cdO (.int .i64 0) (.int .i64 0) (.int .i64 0) (.slice none 0 0) (.int .i64 0)
theorem cd0_val {w : World} {s i : Nat} {v : Value} (hb : w.heap[s]? = some cd0) (h : w.cell? ⟨s, i, none⟩ = some v) : v = .int .i64 0 ∨ v = .slice none 0 0 := by
  unfold World.cell? at h
  simp only at h
  rw [hb] at h
  unfold cd0 cdO at h
  rcases (by omega : i = 0 ∨ i = 1 ∨ i = 2 ∨ i = 3 ∨ i = 4 ∨ 5 ≤ i) with rfl | rfl | rfl | rfl | rfl | h5
  · simp at h; exact Or.inl h.symm
  · simp at h; exact Or.inl h.symm
  · simp at h; exact Or.inl h.symm
  · simp at h; exact Or.inr h.symm
  · simp at h; exact Or.inl h.symm
  · obtain ⟨k, rfl⟩ : ∃ k, i = k + 5 := ⟨i - 5, by omega⟩
    simp at h
section
variable {m : Nat} [M : Pl.Mid m]
theorem FldAt_cd {w w' : World} {f be ce bl s : Nat} (h : Fld.FldAt m w f be ce bl) (o : Only s w w') (hb : w.heap[s]? = some cd0) : Fld.FldAt m w' f be ce bl := by
  have hsz : 1 < Fld.size m := by have := sz_lo M.lo; show 1 < sz m; omega
  have n1 : f ≠ s := by
    intro e
    have := h.1
    rw [e, hb] at this
    simp [cd0, cdO] at this
  have n2 : be ≠ s := by
    intro e
    have h1 := h.2.2.1 0 (by omega)
    rw [e] at h1
    rcases cd0_val hb h1 with h2 | h2
    · simp only [Value.int.injEq, true_and] at h2
      exact (Fld.pw_ne m M.lo M.hi 0).1 (Bits16.h_inj _ _ (h2.trans (by decide)))
    · cases h2
  have n3 : bl ≠ s := by
    intro e
    have h1 := h.2.2.2 (Fld.pw m 1) (Fld.pw_ne m M.lo M.hi 1).2
    rw [e, Fld.lg_pw m M.lo M.hi 1 hsz] at h1
    rcases cd0_val hb h1 with h2 | h2 <;> simp at h2
  exact ⟨(o.block f n1).trans h.1, h.2.1, fun i hi => (o.cell (p := ⟨be, i, none⟩) n2).trans (h.2.2.1 i hi), fun x hx => (o.cell (p := ⟨bl, _, none⟩) n3).trans (h.2.2.2 x hx)⟩
theorem pol_cd {w w' : World} {a : Option Addr} {n c s : Nat} {X : List (BitVec 8)} (h : Pol w a n c X) (o : Only s w w') (hb : w.heap[s]? = some cd0) : Pol w' a n c X := by
  refine ⟨h.hlen, h.hcap, h.hmost, h.hnil, ?_⟩
  by_cases h0 : n = 0
  · exact Or.inl h0
  · rcases h.hrow with h1 | ⟨bb, off, e, hr, hlt⟩
    · exact absurd h1 h0
    · have hne : bb ≠ s := by
        intro e2
        have h1 := hr 0 (by have := h.hlen; omega)
        rw [e2] at h1
        rcases cd0_val hb h1 with h2 | h2 <;> simp at h2
      exact Or.inr ⟨bb, off, e, hr.only o hne, by rw [o.size]; exact hlt⟩
theorem CodeAt.cd {t n : Nat} {w w' : World} {s b : Nat} (h : CodeAt m t n w s) (o : Only b w w') (hb : w.heap[b]? = some cd0) : CodeAt m t n w' s := by
  obtain ⟨f, be, ce, bl, ga, gn, gc, lb, tb, h1, h2, ⟨X, hX, h3⟩, h4, h5⟩ := h
  have n1 : s ≠ b := by
    intro e
    rw [e, hb] at h1
    simp [cd0, cdO, codeO] at h1
  have nU : ∀ g n R, Reg w g n R → g ≠ b := by
    intro g n R hR e
    have h : w.heap[g]? = some (objU (wl n R)) := hR
    rw [e, hb] at h
    simp [cd0, cdO, objU] at h
  refine ⟨f, be, ce, bl, ga, gn, gc, lb, tb, (o.block s n1).trans h1, FldAt_cd h2 o hb, ⟨X, pol_cd hX o hb, h3⟩, h4.only o (nU _ _ _ h4), fun x hx => ?_⟩
  obtain ⟨rb, c1, c2⟩ := h5 x hx
  have n2 : tb ≠ b := by
    intro e
    rw [e] at c1
    rcases cd0_val hb c1 with h2 | h2 <;> simp at h2
  exact ⟨rb, (o.cell (p := ⟨tb, x, none⟩) n2).trans c1, c2.only o (nU _ _ _ c2)⟩
end
end Go.Proofs.YthmfneepnkgmgaaGreatDoor.Enc
/- What is amiss, as numbers: the values of a word at the powers of a. By the verifier of shale. -/
namespace Go.Proofs.YthmfneepnkgmgaaGreatDoor.Syn
open Go Bin Pl Cos Enc
set_option linter.unusedVariables false
section
variable {m : Nat} [M : Mid m]
/-- the value of the word v at a^j. -/
def sv (m : Nat) [M : Mid m] (v j : Nat) : BitVec 16 := (vv (m := m) v (xe m j)).val
theorem sv_xor (a b j : Nat) : sv m (a ^^^ b) j = sv m a j ^^^ sv m b j := by unfold sv; rw [vv_xor]; rfl
theorem sv_zero (j : Nat) : sv m 0 j = 0 := rfl
theorem plc_pow (p : Nat) : ∀ n, plc (2 ^ p) n = if p < n then [p] else []
  | 0 => rfl
  | n + 1 => by
    rw [plc_succ, plc_pow p n, Nat.testBit_two_pow]
    by_cases h : p = n
    · subst h; simp
    · by_cases h2 : p < n
      · simp [h, h2, show p < n + 1 by omega]
      · simp [h, h2, show ¬ p < n + 1 by omega]
theorem sv_pow (p j : Nat) : sv m (2 ^ p) j = Fld.pwZ m ((p * j : Nat) : Int) := by
  unfold sv
  rw [vv_plc (n := p + 1) (Nat.pow_lt_pow_right (by decide) (by omega)), plc_pow, if_pos (by omega)]
  show (xe m (j * p) + 0).val = _
  rw [Fl.add_zero, Nat.mul_comm]; rfl
theorem sumE_sq (f : Nat → El m) : ∀ l : List Nat, sumE (l.map f) * sumE (l.map f) = sumE (l.map fun p => f p * f p)
  | [] => Pl.mul_zero 0
  | a :: t => by
    show (f a + sumE (t.map f)) * (f a + sumE (t.map f)) = f a * f a + sumE (t.map fun p => f p * f p)
    rw [sq_add, sumE_sq f t]
theorem vv_sq (v j : Nat) : vv (m := m) v (xe m (2 * j)) = vv v (xe m j) * vv v (xe m j) := by
  have h : v < 2 ^ v := Nat.lt_two_pow_self
  rw [vv_plc h, vv_plc h, sumE_sq]
  congr 1
  refine List.map_congr_left fun p _ => ?_
  rw [xe_mul]
  congr 1
  rw [Nat.mul_assoc, Nat.two_mul]
theorem sv_sq (v j : Nat) : sv m v (2 * j) = Fld.fmul m (sv m v j) (sv m v j) := by
  unfold sv; rw [vv_sq]; rfl
theorem sv_dvd {t v j : Nat} (h : Dvd (gen m t) v) (h1 : 1 ≤ j) (h2 : j ≤ 2 * t) : sv m v j = 0 := by
  unfold sv; rw [dvd_root h (gen_root h1 h2)]; rfl
/-- few places, whose values are all 0, are none. -/
theorem sv_few {t v n : Nat} (hv : v < 2 ^ n) (hn : n ≤ sz m) (h : ∀ j, 1 ≤ j → j ≤ 2 * t → sv m v j = 0) : v = 0 ∨ 2 * t < pop v n := by
  by_cases h0 : v = 0
  · exact Or.inl h0
  · refine Or.inr (places_many (m := m) (plc v n) (plc_nodup v n) (fun p hp => by have := (mem_plc.1 hp).1; omega) (fun j h1 h2 => ?_) ?_)
    · rw [← vv_plc hv]
      exact El.ext (h j h1 h2)
    · intro he
      exact h0 (pop_pos hv (by unfold pop; rw [he]; rfl))
/-- the word of these places, each turned as often as it stands there. -/
def xs (l : List Nat) : Nat := l.foldl (fun v p => v ^^^ 2 ^ p) 0
theorem xs_take (l : List Nat) (k : Nat) (h : k < l.length) : xs (l.take (k + 1)) = xs (l.take k) ^^^ 2 ^ l[k] := by
  unfold xs
  rw [List.take_succ_eq_append_getElem h, List.foldl_append]; rfl
theorem xs_lt {n : Nat} : ∀ (l : List Nat), (∀ p ∈ l, p < n) → xs l < 2 ^ n := by
  have H : ∀ (l : List Nat) (v : Nat), v < 2 ^ n → (∀ p ∈ l, p < n) → l.foldl (fun v p => v ^^^ 2 ^ p) v < 2 ^ n := by
    intro l
    induction l with
    | nil => intro v h _; exact h
    | cons a t ih =>
      intro v h hl
      exact ih _ (Nat.xor_lt_two_pow h (Nat.pow_lt_pow_right (by decide) (hl a (List.mem_cons_self ..)))) fun p hp => hl p (List.mem_cons_of_mem _ hp)
  intro l hl
  exact H l 0 (Nat.two_pow_pos n) hl
theorem xs_plc_take (v : Nat) : ∀ n, v < 2 ^ n → xs (plc v n) = v := by
  intro n hv
  have H : ∀ k, xs (plc v k) = v % 2 ^ k := by
    intro k
    induction k with
    | zero => rw [Nat.pow_zero, Nat.mod_one]; rfl
    | succ k ih =>
      rw [plc_succ]
      unfold xs at ih ⊢
      rw [List.foldl_append, ih]
      apply Nat.eq_of_testBit_eq
      intro i
      rw [Nat.testBit_mod_two_pow]
      cases hb : v.testBit k
      · show (v % 2 ^ k).testBit i = _
        rw [Nat.testBit_mod_two_pow]
        by_cases hi : i = k
        · subst hi; rw [hb]; simp
        · congr 1; simp; omega
      · show (v % 2 ^ k ^^^ 2 ^ k).testBit i = _
        rw [Nat.testBit_xor, Nat.testBit_mod_two_pow, Nat.testBit_two_pow]
        by_cases hi : i = k
        · subst hi; rw [hb]; simp
        · have e1 : decide (k = i) = false := decide_eq_false (fun h => hi h.symm)
          rw [e1, Bool.xor_false]
          congr 1; simp; omega
  rw [H, Nat.mod_eq_of_lt hv]
/-- the value of the places as a sum from the first on. -/
theorem sv_xs_take (l : List Nat) (k j : Nat) (h : k < l.length) : sv m (xs (l.take (k + 1))) j = sv m (xs (l.take k)) j ^^^ Fld.pwZ m ((l[k] * j : Nat) : Int) := by
  rw [xs_take l k h, sv_xor, sv_pow]
/-- the values that are asked for: 2t of them. -/
def syn (m : Nat) [M : Mid m] (v n : Nat) : List Nat := (List.range n).map fun i => (sv m v (i + 1)).toNat
theorem syn_length (v n : Nat) : (syn m v n).length = n := by unfold syn; rw [List.length_map, List.length_range]
/-- the values of a word with the parity handed in are those of what the parity differs by. -/
theorem sv_word {t X Y j : Nat} (hY : Y < 2 ^ deg m t) (h1 : 1 ≤ j) (h2 : j ≤ 2 * t) : sv m (wrd (deg m t) X Y) j = sv m (prt (gen m t) (deg m t) X ^^^ Y) j := by
  have hg := gen_deg (m := m) t
  have h := sv_dvd (m := m) (wrd_dvd hg X) h1 h2
  have e : wrd (deg m t) X Y = wrd (deg m t) X (prt (gen m t) (deg m t) X) ^^^ (prt (gen m t) (deg m t) X ^^^ Y) := by
    unfold wrd
    rw [Nat.xor_assoc]
    congr 1
    rw [← Nat.xor_assoc, Nat.xor_self, Nat.zero_xor]
  rw [e, sv_xor, h]
  exact BitVec.zero_xor
end
end Go.Proofs.YthmfneepnkgmgaaGreatDoor.Syn
/- Which places are mended: the mathematics of chapter 10. By the verifier of shale. -/
namespace Go.Proofs.YthmfneepnkgmgaaGreatDoor.Dec
open Go Bin Pl Cos Enc Syn Loc Sea
set_option linter.unusedVariables false
section
variable {m : Nat} [M : Mid m]
/-- the values of a word, as a series. -/
def Sv (m : Nat) [M : Mid m] (v : Nat) : Ser (El m) := fun i => vv v (xe m (i + 1))
theorem Sv_sq (v i : Nat) : Sv m v (2 * i + 1) = Sv m v i * Sv m v i := vv_sq v (i + 1)
theorem Sv_xor (a b i : Nat) : Sv m (a ^^^ b) i = Sv m a i + Sv m b i := vv_xor a b _
theorem pows_sum (l : List (El m)) (i : Nat) : pows l i = sumE (l.map fun a => pwK a (i + 1)) := by
  have H : ∀ (l : List (El m)) (v : El m), l.foldl (fun v a => v + pwK a (i + 1)) v = v + sumE (l.map fun a => pwK a (i + 1)) := by
    intro l
    induction l with
    | nil => intro v; exact (Fl.add_zero v).symm
    | cons a l ih =>
      intro v
      show l.foldl _ (v + pwK a (i + 1)) = v + (pwK a (i + 1) + sumE _)
      rw [ih, Fl.add_assoc]
  show l.foldl _ 0 = _
  rw [H, zero_add]
theorem Sv_pows {v n : Nat} (h : v < 2 ^ n) : Sv m v = pows ((plc v n).map (xe m)) := funext fun i => by
  rw [pows_sum, List.map_map]
  show vv v (xe m (i + 1)) = _
  rw [vv_plc h]
  congr 1
  refine List.map_congr_left fun p _ => ?_
  show xe m ((i + 1) * p) = pwK (exK m (p : Int)) (i + 1)
  rw [exK_pow]
  show exK m (((i + 1) * p : Nat) : Int) = _
  congr 1
  rw [Int.natCast_mul, Int.mul_comm]
theorem xe_ne (p : Nat) : xe m p ≠ 0 := exK_ne (p : Int)
theorem plc_ne (e N : Nat) : ∀ a ∈ (plc e N).map (xe m), a ≠ 0 := fun a ha => by
  obtain ⟨p, _, rfl⟩ := List.mem_map.1 ha
  exact xe_ne p
theorem plc_dist {e N : Nat} (hN : N ≤ Fld.size m) : ((plc e N).map (xe m)).Nodup := by
  have h1 := plc_nodup e N
  have h2 : ∀ p ∈ plc e N, p < Fld.size m := fun p hp => by have := (mem_plc.1 hp).1; omega
  generalize plc e N = l at h1 h2
  induction l with
  | nil => exact List.nodup_nil
  | cons x l ih =>
    rw [List.nodup_cons] at h1
    show (xe m x :: l.map (xe m)).Nodup
    rw [List.nodup_cons]
    refine ⟨fun hx => h1.1 ?_, ih h1.2 fun p hp => h2 p (List.mem_cons_of_mem _ hp)⟩
    obtain ⟨p, hp, e⟩ := List.mem_map.1 hx
    have := exK_nat (h2 p (List.mem_cons_of_mem _ hp)) (h2 x (List.mem_cons_self ..)) e
    rwa [← this]
/-- few bits amiss are found. -/
theorem bm_find {v e N t : Nat} (he : e < 2 ^ N) (hN : N ≤ Fld.size m) (hp : pop e N ≤ t) (hs : ∀ i, i < 2 * t → Sv m v i = Sv m e i) : (bm (Sv m v) (2 * t)).L = pop e N ∧ (bm (Sv m v) (2 * t)).c = lam ((plc e N).map (xe m)) := by
  rw [bm_ext hs, Sv_pows he]
  have := bm_places (plc_ne e N) (plc_dist (m := m) (e := e) hN) (N := 2 * t) (by rw [List.length_map]; show 2 * pop e N ≤ _; omega)
  rwa [List.length_map] at this
theorem lam_plc (e N : Nat) : lam ((plc e N).map (xe m)) = lamZ m (intsN (plc e N)) := by
  unfold lamZ intsN
  rw [List.map_map]; rfl
theorem lam_hits {e N K : Nat} (hN : N ≤ Fld.size m) (hK : pop e N + 1 ≤ K) : hits (zAt (lam ((plc e N).map (xe m))) K) N = plc e N := by
  rw [lam_plc]
  refine hits_same fun i hi => ?_
  rw [lam_at (fun p hp => by have := (mem_plc.1 hp).1; omega) hK (by omega)]
  rw [Bool.eq_iff_iff, decide_eq_true_iff, mem_plc]
  exact ⟨fun h => h.2, fun h => ⟨hi, h⟩⟩
theorem num_of (f : Nat → Bool) : ∀ n, ∃ e, e < 2 ^ n ∧ ∀ i, i < n → e.testBit i = f i
  | 0 => ⟨0, by simp, fun i hi => by omega⟩
  | n + 1 => by
    obtain ⟨e, h1, h2⟩ := num_of f n
    have hlt : e < 2 ^ (n + 1) := Nat.lt_of_lt_of_le h1 (Nat.pow_le_pow_right (by decide) (by omega))
    cases hf : f n
    · refine ⟨e, hlt, fun i hi => ?_⟩
      rcases Nat.lt_or_ge i n with h | h
      · exact h2 i h
      · obtain rfl : i = n := by omega
        rw [hf]; exact Nat.testBit_lt_two_pow h1
    · refine ⟨e ^^^ 2 ^ n, Nat.xor_lt_two_pow hlt (Nat.pow_lt_pow_right (by decide) (by omega)), fun i hi => ?_⟩
      rw [Nat.testBit_xor, Nat.testBit_two_pow]
      rcases Nat.lt_or_ge i n with h | h
      · rw [h2 i h, decide_eq_false (by omega), Bool.xor_false]
      · obtain rfl : i = n := by omega
        rw [hf, Nat.testBit_lt_two_pow h1]; simp
theorem cv_same {c A B : Ser (El m)} {n : Nat} (h0 : c 0 = 1) (h : ∀ i, i ≤ n → cv c A i = cv c B i) : ∀ i, i ≤ n → A i = B i := by
  have H : ∀ k i, i ≤ k → i ≤ n → padd A B i = 0 := by
    intro k
    induction k with
    | zero =>
      intro i hk hi
      obtain rfl : i = 0 := by omega
      have e := cv_first c (padd A B) 0 fun j h1 h2 => by omega
      rw [cv_padd, h0, one_mul] at e
      rw [← e]
      show cv c A 0 + cv c B 0 = 0
      rw [h 0 hi, Fl.add_self]
    | succ k ih =>
      intro i hk hi
      have e := cv_first c (padd A B) i fun j h1 h2 => .inr (ih (i - j) (by omega) (by omega))
      rw [cv_padd, h0, one_mul] at e
      rw [← e]
      show cv c A i + cv c B i = 0
      rw [h i hi, Fl.add_self]
  intro i hi
  exact add_cancel (H i i (Nat.le_refl _) hi)
theorem ev_zero (n : Nat) (p : Ser (El m)) : ev (n + 1) p 0 = p 0 := by
  show p 0 + 0 * ev n (tl p) 0 = p 0
  rw [zero_mul, Fl.add_zero]
/-- what has so many roots as its degree says is the polynomial of these. -/
theorem roots_lam {c : Ser (El m)} {d e N : Nat} (hN : N ≤ Fld.size m) (h0 : c 0 = 1) (hd : Dg c d) (hp : pop e N = d) (hr : ∀ p ∈ plc e N, ev (d + 1) c (pt m p) = 0) : c = lam ((plc e N).map (xe m)) := by
  have hl := lam_dg _ (plc_ne (m := m) e N)
  rw [List.length_map, show (plc e N).length = d from hp] at hl
  have hb : Bd (padd c (lam ((plc e N).map (xe m)))) (d + 1) := hd.2.add hl.1.2
  rcases dg_or hb with h | ⟨k, hk, hdk⟩
  · funext i
    exact add_cancel (congrFun h i)
  · exfalso
    have hroots := roots_le k _ (0 :: (plc e N).map (pt m)) hdk (by
      rw [List.nodup_cons]
      refine ⟨fun hm => ?_, ?_⟩
      · obtain ⟨p, _, hp0⟩ := List.mem_map.1 hm
        exact pt_ne p hp0
      · have h1 := plc_nodup e N
        have h2 : ∀ p ∈ plc e N, p < Fld.size m := fun p hp => by have := (mem_plc.1 hp).1; omega
        generalize plc e N = l at h1 h2
        induction l with
        | nil => exact List.nodup_nil
        | cons x l ih =>
          rw [List.nodup_cons] at h1
          show (pt m x :: l.map (pt m)).Nodup
          rw [List.nodup_cons]
          refine ⟨fun hx => h1.1 ?_, ih h1.2 fun p hp => h2 p (List.mem_cons_of_mem _ hp)⟩
          obtain ⟨p, hp, e⟩ := List.mem_map.1 hx
          have := exK_inj (h2 p (List.mem_cons_of_mem _ hp)) (h2 x (List.mem_cons_self ..)) e
          rwa [← this]) fun a ha => by
      rw [← ev_more a (k + 1) (d + 1) _ hdk.2 (by omega), ev_add]
      rcases List.mem_cons.1 ha with rfl | ha
      · rw [ev_zero, ev_zero, h0, hl.2, Fl.add_self]
      · obtain ⟨p, hpm, rfl⟩ := List.mem_map.1 ha
        rw [hr p hpm]
        have hz : p ∈ hits (zAt (lam ((plc e N).map (xe m))) (d + 1)) N := by
          rw [lam_hits hN (by omega)]; exact hpm
        rw [(zAt_iff _ _ _).1 (hits_mem.1 hz).2, Fl.add_zero]
    rw [List.length_cons, List.length_map, show (plc e N).length = d from hp] at hroots
    omega
/-- what is found is amiss. -/
theorem bm_sound {v N t d : Nat} (hN : N ≤ Fld.size m) (hd : Dg (bm (Sv m v) (2 * t)).c d) (hl : (hits (zAt (bm (Sv m v) (2 * t)).c (d + 1)) N).length = d) : ∃ e, e < 2 ^ N ∧ plc e N = hits (zAt (bm (Sv m v) (2 * t)).c (d + 1)) N ∧ ∀ i, i < 2 * t → Sv m v i = Sv m e i := by
  obtain ⟨c, hc⟩ : ∃ c, c = (bm (Sv m v) (2 * t)).c := ⟨_, rfl⟩
  have h0 : c 0 = 1 := by rw [hc]; exact (bm_inv _ _).one
  have hnw : Nw (Sv m v) c (2 * t) := by rw [hc]; exact (sq_inv (Sv_sq v) t).1.nw
  rw [← hc] at hd hl ⊢
  obtain ⟨e, he, hb⟩ := num_of (zAt c (d + 1)) N
  have hpl : plc e N = hits (zAt c (d + 1)) N := hits_same (f := fun i => e.testBit i) fun i hi => hb i hi
  have hpop : pop e N = d := by unfold pop; rw [hpl]; exact hl
  have hcl := roots_lam (m := m) (e := e) hN h0 hd hpop fun p hp => by
    rw [hpl] at hp
    exact (zAt_iff _ _ _).1 (hits_mem.1 hp).2
  refine ⟨e, he, hpl, ?_⟩
  have h2 : Nw (Sv m e) c (2 * t) := fun i hi => by
    have h := (sq_inv (Sv_sq (m := m) e) (t + d)).1.nw i (by omega)
    have hp := (bm_find (m := m) (v := e) (t := t + d) he hN (by omega) fun _ _ => rfl).2
    rw [hp, ← hcl] at h
    exact h
  have hs := cv_same h0 (fun i hi => (hnw i hi).trans (h2 i hi).symm)
  intro i hi
  exact hs (i + 1) (by omega)
/-- what is made of a word: the places, if they are few. -/
noncomputable def dec (m : Nat) [M : Mid m] (t N v : Nat) : Option (List Nat) :=
  open Classical in
  if ∀ i, i < 2 * t → Sv m v i = 0 then some []
  else if (bm (Sv m v) (2 * t)).L ≤ t ∧ top (bm (Sv m v) (2 * t)).c 100 = (bm (Sv m v) (2 * t)).L + 1 ∧ (hits (zAt (bm (Sv m v) (2 * t)).c 100) N).length = (bm (Sv m v) (2 * t)).L then some (hits (zAt (bm (Sv m v) (2 * t)).c 100) N)
  else none
theorem plc_zero (N : Nat) : plc 0 N = [] := by
  unfold plc
  exact List.filter_eq_nil_iff.2 fun i _ => by simp
theorem Sv_zero (i : Nat) : Sv m 0 i = 0 := vv_zero _
theorem dec_some {t N v : Nat} (hN : N ≤ Fld.size m) (ht : t ≤ 40) {l : List Nat} (h : dec m t N v = some l) : ∃ e, e < 2 ^ N ∧ l = plc e N ∧ pop e N ≤ t ∧ ∀ i, i < 2 * t → Sv m v i = Sv m e i := by
  unfold dec at h
  by_cases h1 : ∀ i, i < 2 * t → Sv m v i = 0
  · rw [if_pos h1] at h
    cases h
    exact ⟨0, Nat.two_pow_pos N, (plc_zero N).symm, by unfold pop; rw [plc_zero]; exact Nat.zero_le _, fun i hi => by rw [h1 i hi, Sv_zero]⟩
  · rw [if_neg h1] at h
    by_cases h2 : (bm (Sv m v) (2 * t)).L ≤ t ∧ top (bm (Sv m v) (2 * t)).c 100 = (bm (Sv m v) (2 * t)).L + 1 ∧ (hits (zAt (bm (Sv m v) (2 * t)).c 100) N).length = (bm (Sv m v) (2 * t)).L
    · rw [if_pos h2] at h
      cases h
      obtain ⟨a, b, c⟩ := h2
      have hbd : Bd (bm (Sv m v) (2 * t)).c 100 := (bm_inv (Sv m v) (2 * t)).bd.mono (by omega)
      have hd : Dg (bm (Sv m v) (2 * t)).c (bm (Sv m v) (2 * t)).L := dg_top hbd b.symm
      have hz : zAt (bm (Sv m v) (2 * t)).c 100 = zAt (bm (Sv m v) (2 * t)).c ((bm (Sv m v) (2 * t)).L + 1) := zAt_more hd.2 (by omega)
      rw [hz] at c ⊢
      obtain ⟨e, h1, h2, h3⟩ := bm_sound hN hd c
      exact ⟨e, h1, h2.symm, by unfold pop; rw [h2, c]; exact a, h3⟩
    · rw [if_neg h2] at h
      cases h
theorem dec_find {t N v e : Nat} (hN : N ≤ Fld.size m) (ht : t ≤ 40) (he : e < 2 ^ N) (hp : pop e N ≤ t) (hs : ∀ i, i < 2 * t → Sv m v i = Sv m e i) : dec m t N v = some (plc e N) := by
  obtain ⟨hL, hc⟩ := bm_find (m := m) he hN hp hs
  have hl := lam_dg _ (plc_ne (m := m) e N)
  rw [List.length_map, show (plc e N).length = pop e N from rfl] at hl
  unfold dec
  by_cases h1 : ∀ i, i < 2 * t → Sv m v i = 0
  · rw [if_pos h1]
    have h0 := bm_find (m := m) (v := v) (e := 0) (t := t) (Nat.two_pow_pos N) hN (by unfold pop; rw [plc_zero]; exact Nat.zero_le _) (fun i hi => by rw [h1 i hi, Sv_zero])
    have : pop e N = 0 := by rw [← hL, h0.1]; unfold pop; rw [plc_zero]; rfl
    rw [List.eq_nil_of_length_eq_zero (show (plc e N).length = 0 from this)]
  · rw [if_neg h1, hL, hc, lam_hits hN (by omega), if_pos ⟨hp, top_dg' (hl.1.2.mono (by omega)) hl.1, rfl⟩]
end
end Go.Proofs.YthmfneepnkgmgaaGreatDoor.Dec
/- The walks over package syndrome's sum and values. By the verifier of shale. -/
namespace Go.Proofs.YthmfneepnkgmgaaGreatDoor.Syn
open Go Go.RowKit Bin Cos Enc Bits16
set_option linter.unusedVariables false
theorem getD_nat (l : List Nat) (k : Nat) (h : k < l.length) : l.getD k 0 = l[k] := by
  rw [List.getD_eq_getElem?_getD, List.getElem?_eq_getElem h]; rfl
section
variable {m : Nat} [M : Pl.Mid m]
theorem sv_lt (v j : Nat) : (sv m v j).toNat < 2 ^ m := (vv (m := m) v (Cos.xe m j)).2
set_option maxRecDepth 100000 in
set_option maxHeartbeats 1000000 in
theorem sum_any {s be ce bl : Nat} (w : World) (F : Fld.FldAt m w s be ce bl) (a : Option Addr) (n c : Nat) (l : List Nat) (hR : RowN w a n l) (hn : n ≤ 100000) (hb : ∀ p ∈ l, p ≤ 100000) (j : Nat) (hj : j ≤ 100) :
    Calls Tryz.prog 119 #[.pointer (some ⟨s, 0, none⟩), .slice a n c, .int .i64 (j : Int), .func (.func 120) #[.pointer (some ⟨s, 0, none⟩)] #[]] w fun e w' => e = .returned (.int .i64 (h (sv m (xs l) j))) ∧ w = w' := by
  have HF := Lib.hid F
  have HR := Lib.hid hR
  have HB := Lib.hid hb
  have h0 : h (sv m (xs (l.take 0)) j) = 0 := rfl
  clear F hR hb
  go_enter Tryz.func119, Tryz.ntmps119
  go_wp2_with fail
  go_loopg [9, 14] n (fun gh s9 s14 wx => ∃ (k : Nat), gh = n - k ∧ k ≤ n ∧ s14 = .int .i64 (k : Int) ∧ s9 = .int .i64 (h (sv m (xs (l.take k)) j)) ∧ w = wx)
  case atStart => exact ⟨0, rfl, Nat.zero_le _, rfl, by rw [h0], rfl⟩
  case round =>
    clear h0
    obtain ⟨k, hg, hk, rfl, rfl, rfl⟩ := hrel
    have HG := Lib.hid hg
    clear hg
    by_cases hlt : k < n
    · have x1 : (k : Int) < (n : Int) := by omega
      have x0 : (0 : Int) ≤ (k : Int) := by omega
      obtain ⟨bb, off, rfl, d1, _⟩ := HR.out.row k hlt
      have hkl : k < l.length := by rw [← HR.out.hlen]; exact hlt
      have hp : l.getD k 0 ≤ 100000 := by rw [getD_nat l k hkl]; exact HB.out _ (List.getElem_mem hkl)
      have HS := Lib.hid (sv_xs_take (m := m) l k j hkl)
      rw [← getD_nat l k hkl, Int.natCast_mul] at HS
      have hm : IntKind.i64.wrap (((l.getD k 0 : Nat) : Int) * (j : Int)) = ((l.getD k 0 : Nat) : Int) * (j : Int) := by
        have : l.getD k 0 * j ≤ 100000 * 100 := Nat.mul_le_mul hp hj
        rw [← Int.natCast_mul]
        exact IntWalk.i64_in _ (by omega)
      have HI : Hid (k + 1 ≤ n) := hlt
      have HL := Lib.hid (sv_lt (m := m) (xs (l.take k)) j)
      generalize l.getD k 0 = p at d1 hp HS hm
      generalize sv m (xs (l.take k)) j = A at HS HL ⊢
      clear hlt hkl
      go_wp2_with fail
      refine (Fld.fexp_any M.lo M.hi _ w HF.out).mono ?_
      rintro e w' ⟨rfl, rfl⟩
      go_wp2_with fail
      refine (Fld.add_any M.lo M.hi _ _ w HF.out).mono ?_
      rintro e w' ⟨rfl, rfl⟩
      rw [Fld.el_of m M.hi _ HL.out, Fld.el_of m M.hi _ (Fld.pwZ_lt m M.lo M.hi _), ← HS.out]
      go_wp2_with fail
      go_roundg (n - (k + 1))
      case measure => have := HG.out; have := HI.out; omega
      case rel => exact ⟨k + 1, rfl, HI.out, by go_num, rfl, rfl⟩
    · obtain rfl : k = n := by omega
      have HE : Hid (l.take k = l) := List.take_of_length_le (by rw [← HR.out.hlen]; exact Nat.le_refl _)
      rw [HE.out]
      go_wp2_with fail
      go_ret
      exact ⟨rfl, rfl⟩
/-- the values asked for, of which the first k are there. -/
def synP (m : Nat) [M : Pl.Mid m] (v k n : Nat) : List Int := (List.range n).map fun i => if i < k then h (sv m v (i + 1)) else 0
theorem synP_length (v k n : Nat) : (synP m v k n).length = n := by unfold synP; rw [List.length_map, List.length_range]
theorem synP_zero (v n : Nat) : List.replicate n 0 = synP m v 0 n := by
  unfold synP
  apply List.ext_getElem
  · simp
  · intro i h1 h2; simp
theorem synP_set (v k n : Nat) : (synP m v k n).set k (h (sv m v (k + 1))) = synP m v (k + 1) n := by
  unfold synP
  apply List.ext_getElem
  · simp
  · intro i h1 h2
    rw [List.getElem_set]
    by_cases e : k = i
    · subst e; simp
    · rw [if_neg e]
      simp only [List.getElem_map, List.getElem_range]
      by_cases h3 : i < k
      · rw [if_pos h3, if_pos (by omega)]
      · rw [if_neg h3, if_neg (by omega)]
theorem synP_nth {v k n i : Nat} (hi : i < k) (hk : k ≤ n) : nth64 (synP m v k n) i = h (sv m v (i + 1)) := by
  unfold nth64 synP
  rw [List.getD_eq_getElem?_getD, List.getElem?_map, List.getElem?_range (by omega)]
  simp [hi]
theorem synP_all (v n : Nat) : synP m v n n = Bin.ints (syn m v n) := by
  unfold synP syn Bin.ints
  rw [List.map_map]
  refine List.map_congr_left fun i hi => ?_
  rw [List.mem_range] at hi
  rw [if_pos hi]; rfl
/-- the values that a call answers, in new memory. -/
def ValAt (m t v : Nat) [M : Pl.Mid m] (w : World) (e : Ending) (w' : World) : Prop :=
  ∃ g, e = .returned (.slice (some ⟨g, 0, none⟩) (2 * t) (2 * t)) ∧ Blk64 w' g (Bin.ints (syn m v (2 * t))) ∧ Below w.heap.size w w' ∧ w.heap.size ≤ g
set_option maxRecDepth 100000 in
set_option maxHeartbeats 1000000 in
theorem values_any {t n : Nat} (w : World) (s : Nat) (hC : CodeAt m t n w s) (ht2 : t ≤ 40) (a : Option Addr) (nl c : Nat) (l : List Nat) (hR : RowN w a nl l) (hn : nl ≤ 100000) (hb : ∀ p ∈ l, p ≤ 100000) :
    Calls Tryz.prog 94 #[.pointer (some ⟨s, 0, none⟩), .slice a nl c] w (ValAt m t (xs l) w) := by
  have HC := Lib.hid hC
  have HR := Lib.hid hR
  have HB := Lib.hid hb
  have hfc := field_code w s hC
  have htc := t_code w s hC
  obtain ⟨N, hN⟩ : ∃ N, N = 2 * t := ⟨_, rfl⟩
  have q0 : 2 * (t : Int) = (N : Int) := by omega
  have hN2 : N ≤ 80 := by omega
  have HN := Lib.hid hN
  have hmk := made64 w N (by omega)
  obtain ⟨V, hV⟩ : ∃ V, V = xs l := ⟨_, rfl⟩
  rw [← hV]
  have HV := Lib.hid hV
  have b0 : Below w.heap.size w (w.alloc (obj64 (List.replicate N 0))) := (Below.refl _ _).alloc (Nat.le_refl _) _
  have k0 := Blk64.new w (List.replicate N 0)
  rw [synP_zero (m := m) V N] at hmk b0 k0
  have HC1 := Lib.hid (hC.below b0)
  have B0 := Lib.hid b0
  have K0 := Lib.hid k0
  clear hC hR hb hN hV b0 k0
  go_enter Tryz.func94, Tryz.ntmps94
  go_wp2_with fail
  refine hfc.mono ?_
  rintro e w' ⟨⟨f, be, ce, bl, rfl, F⟩, rfl⟩
  have HF := Lib.hid F
  clear F hfc
  go_wp2_with fail
  refine htc.mono ?_
  rintro e w' ⟨rfl, rfl⟩
  clear htc
  go_wp2_with fail
  generalize w.alloc (obj64 (synP m V 0 N)) = w1 at B0 K0 HC1 ⊢
  go_loopg [17] N (fun gh s17 wx => ∃ (k : Nat), gh = N - k ∧ k ≤ N ∧ s17 = .int .i64 (k : Int) ∧ Blk64 wx w.heap.size (synP m V k N) ∧ Below w.heap.size w wx)
  case atStart => exact ⟨0, rfl, Nat.zero_le _, rfl, K0.out, B0.out⟩
  case round =>
    clear K0 B0 HC1
    obtain ⟨k, hg, hk, rfl, hK, hB⟩ := hrel
    have HG := Lib.hid hg
    clear hg
    have HBl := Lib.hid hB
    have cf := fun i => hK.free i
    by_cases hlt : k < N
    · have x1 : (k : Int) < (N : Int) := by omega
      have x0 : (0 : Int) ≤ (k : Int) := by omega
      have HI : Hid (k + 1 ≤ N) := hlt
      have HK := Lib.hid hK
      have HF2 := Lib.hid (HF.out.below M.lo hB)
      have HR2 := Lib.hid (HR.out.below hB)
      have ck := hK.cell (i := k) (by rw [synP_length]; exact hlt)
      generalize nth64 (synP m V k N) k = z0 at ck
      by_cases hev : k % 2 = 0
      · have t1 : ((k : Int) % 2 == 0) = true := by rw [beq_iff_eq]; omega
        have HS := Lib.hid (sum_any wr HF2.out a nl c l HR2.out hn HB.out (k + 1) (by omega))
        rw [← HV.out] at HS
        have q2 : ((k + 1 : Nat) : Int) = (k : Int) + 1 := by omega
        rw [q2] at HS
        clear hev q2 hB hK
        go_wp2_with fail
        refine HS.out.mono ?_
        rintro e w' ⟨rfl, rfl⟩
        go_wp2_with fail
        go_roundg (N - (k + 1))
        case measure => have := HG.out; have := HI.out; omega
        case rel =>
          have hs := Blk64.set HK.out k (h (sv m V (k + 1)))
          rw [synP_set] at hs
          exact ⟨k + 1, rfl, HI.out, by go_num, hs, HBl.out.trans ((Only.setCell _ _ _).below (Nat.le_refl _))⟩
      · have t1 : ((k : Int) % 2 == 0) = false := by rw [beq_eq_false_iff_ne]; omega
        obtain ⟨i, hi⟩ : ∃ i, k = 2 * i + 1 := ⟨k / 2, by omega⟩
        have q3 : (k : Int) / 2 = (i : Int) := by omega
        have q4 : (k : Int).tdiv 2 = (i : Int) := by rw [Int.tdiv_eq_ediv_of_nonneg (by omega)]; exact q3
        have y0 : (0 : Int) ≤ (i : Int) := by omega
        have y1 : (i : Int) < (N : Int) := by omega
        have d1 := hK.cell (i := i) (by rw [synP_length]; omega)
        rw [synP_nth (by omega) (by omega)] at d1
        have HQ : Hid (sv m V (k + 1) = Fld.fmul m (sv m V (i + 1)) (sv m V (i + 1))) := by
          show _ = _
          rw [← sv_sq, hi]; congr 1
        have HL := Lib.hid (sv_lt (m := m) V (i + 1))
        generalize sv m V (i + 1) = A at d1 HQ HL
        have HM := Lib.hid (Fld.mul_any M.lo M.hi (h A) (h A) wr HF2.out)
        rw [Fld.el_of m M.hi _ HL.out, ← HQ.out] at HM
        clear hev hB hK hi
        go_wp2_with fail
        refine HM.out.mono ?_
        rintro e w4 ⟨rfl, hd⟩
        have HK4 : Hid (Blk64 w4 w.heap.size (synP m V k N)) := Bin.Blk64.since HK.out (hd.below _)
        have HB4 := Lib.hid (HBl.out.trans (hd.below _))
        have cf4 := fun i => HK4.out.free i
        have ck4 := HK4.out.cell (i := k) (by rw [synP_length]; exact HI.out)
        generalize nth64 (synP m V k N) k = z4 at ck4
        clear hd cf ck d1
        go_wp2_with fail
        go_roundg (N - (k + 1))
        case measure => have := HG.out; have := HI.out; omega
        case rel =>
          have hs := Blk64.set HK4.out k (h (sv m V (k + 1)))
          rw [synP_set] at hs
          exact ⟨k + 1, rfl, HI.out, by go_num, hs, HB4.out.trans ((Only.setCell _ _ _).below (Nat.le_refl _))⟩
    · obtain rfl : k = N := by omega
      have HX : Hid (Blk64 wr w.heap.size (Bin.ints (syn m V k))) := by rw [← synP_all]; exact hK
      clear hK hB
      go_wp2_with fail
      go_ret
      obtain rfl := HN.out
      exact ⟨w.heap.size, rfl, HX.out, HBl.out, Nat.le_refl _⟩
end
end Go.Proofs.YthmfneepnkgmgaaGreatDoor.Syn
/- The walks over package syndrome's Bits, Clean, Fits. By the verifier of shale. -/
namespace Go.Proofs.YthmfneepnkgmgaaGreatDoor.Syn
open Go Go.RowKit Bin Cos Enc Bits16
set_option linter.unusedVariables false
/-- the values that a call answers with no error, in new memory. -/
def ValE (m t v : Nat) [M : Pl.Mid m] (w : World) (e : Ending) (w' : World) : Prop :=
  ∃ g, e = .returned (.tuple #[.slice (some ⟨g, 0, none⟩) (2 * t) (2 * t), .nilIface]) ∧ Blk64 w' g (Bin.ints (syn m v (2 * t))) ∧ Below w.heap.size w w' ∧ w.heap.size ≤ g
section
variable {m : Nat} [M : Pl.Mid m]
end
set_option maxRecDepth 100000 in
set_option maxHeartbeats 1000000 in
theorem clean_any (a : Option Addr) (n c : Nat) (z : Nat → Int) (w : World) (hR : RowZ w a n z) (hn : n ≤ 100000) :
    Calls Tryz.prog 61 #[.slice a n c] w fun e w' => e = .returned (.bool (decide (∀ i, i < n → z i = 0))) ∧ w = w' := by
  have HR := Lib.hid hR
  obtain ⟨b, hb⟩ : ∃ b, b = decide (∀ i, i < n → z i = 0) := ⟨_, rfl⟩
  rw [← hb]
  have HBb := Lib.hid hb
  clear hR hb
  go_enter Tryz.func61, Tryz.ntmps61
  go_wp2_with fail
  go_loopg [7] n (fun gh s7 wx => ∃ (k : Nat), gh = n - k ∧ k ≤ n ∧ s7 = .int .i64 (k : Int) ∧ Hid (∀ i, i < k → z i = 0) ∧ w = wx)
  case atStart => exact ⟨0, rfl, Nat.zero_le _, rfl, (fun i hi => by omega), rfl⟩
  case round =>
    obtain ⟨k, hg, hk, rfl, HA, rfl⟩ := hrel
    have HG := Lib.hid hg
    clear hg
    by_cases hlt : k < n
    · have x1 : (k : Int) < (n : Int) := by omega
      have x0 : (0 : Int) ≤ (k : Int) := by omega
      obtain ⟨bb, off, rfl, d1, _⟩ := HR.out k hlt
      have HI : Hid (k + 1 ≤ n) := hlt
      by_cases h0 : z k = 0
      · have HA2 : Hid (∀ i, i < k + 1 → z i = 0) := fun i hi => by
          by_cases e : i = k
          · rw [e]; exact h0
          · exact HA.out i (by omega)
        have t1 : (z k == 0) = true := by rw [beq_iff_eq]; exact h0
        generalize z k = q at d1 t1
        clear h0 hlt HA
        go_wp2_with fail
        go_roundg (n - (k + 1))
        case measure => have := HG.out; have := HI.out; omega
        case rel => exact ⟨k + 1, rfl, HI.out, by go_num, HA2, rfl⟩
      · have HF : Hid (b = false) := by
          show _ = _
          rw [HBb.out]
          exact decide_eq_false fun h => h0 (h k hlt)
        have t1 : (z k == 0) = false := by rw [beq_eq_false_iff_ne]; exact h0
        generalize z k = q at d1 t1
        clear h0 hlt HA
        go_wp2_with fail
        go_ret
        exact ⟨ret_bool HF.out.symm, rfl⟩
    · obtain rfl : k = n := by omega
      have HF : Hid (b = true) := by
        show _ = _
        rw [HBb.out]
        exact decide_eq_true HA.out
      clear HA
      go_wp2_with fail
      go_ret
      exact ⟨ret_bool HF.out.symm, rfl⟩
end Go.Proofs.YthmfneepnkgmgaaGreatDoor.Syn
/- The walk over package syndrome's Of. By the verifier of shale. -/
namespace Go.Proofs.YthmfneepnkgmgaaGreatDoor.Syn
open Go Go.RowKit Bin Cos Enc Bits16
set_option linter.unusedVariables false
theorem xs_plc (v : Nat) : ∀ k, xs (plc v k) = v % 2 ^ k
  | 0 => by rw [Nat.pow_zero, Nat.mod_one]; rfl
  | k + 1 => by
    have ih := xs_plc v k
    rw [plc_succ]
    unfold xs at ih ⊢
    rw [List.foldl_append, ih]
    apply Nat.eq_of_testBit_eq
    intro i
    rw [Nat.testBit_mod_two_pow]
    cases hb : v.testBit k
    · show (v % 2 ^ k).testBit i = _
      rw [Nat.testBit_mod_two_pow]
      by_cases hi : i = k
      · subst hi; rw [hb]; simp
      · congr 1; simp; omega
    · show (v % 2 ^ k ^^^ 2 ^ k).testBit i = _
      rw [Nat.testBit_xor, Nat.testBit_mod_two_pow, Nat.testBit_two_pow]
      by_cases hi : i = k
      · subst hi; rw [hb]; simp
      · have e1 : decide (k = i) = false := decide_eq_false (fun h => hi h.symm)
        rw [e1, Bool.xor_false]
        congr 1; simp; omega
/-- an own slice of places is a row. -/
theorem own_rowN {w : World} {base n : Nat} {a : Option Addr} {c : Nat} {l : List Nat} (h : Own64 w base (.slice a n c) n (Bin.ints l)) : RowN w a n l := by
  have hl : l.length = n := by have := h.len; unfold Bin.ints at this; rwa [List.length_map] at this
  refine ⟨hl.symm, fun i hi => ?_⟩
  rcases h.2 with ⟨h0, h1⟩ | ⟨g, cap, cur, hv, hb, hh, r⟩
  · simp only [Value.slice.injEq] at h0; omega
  · have hc := World.ownsRow.cellAt (show w.ownsRow base 3 1 (.slice (some ⟨g, 0, none⟩) n cap) n (cells64 (Bin.ints l)) from hv ▸ h) i (by omega)
    simp only [Value.slice.injEq] at hv
    obtain ⟨rfl, _, _⟩ := hv
    refine ⟨g, 0, rfl, ?_, lt_of_block hh⟩
    rw [Nat.zero_add]
    refine hc.trans ?_
    simp [cells64, Bin.ints, List.getD_eq_getElem?_getD, hl, hi]
theorem own_slice {w : World} {base n : Nat} {v : Value} {l : List Int} (h : Own64 w base v n l) : ∃ av cv, v = .slice av n cv := by
  rcases h.2 with ⟨h0, h1⟩ | ⟨g, cap, cur, hv, _⟩
  · exact ⟨none, 0, by rw [h0, h1]⟩
  · exact ⟨_, _, hv⟩
section
variable {m : Nat} [M : Pl.Mid m]
/-- what the parity differs by. -/
def ev (m t X Y : Nat) [M : Pl.Mid m] : Nat := prt (gen m t) (deg m t) X ^^^ Y
set_option maxRecDepth 100000 in
set_option maxHeartbeats 1000000 in
theorem of_any {t n : Nat} (ht : 1 ≤ t) (ht2 : t ≤ 40) (w : World) (s : Nat) (h : CodeAt m t n w s) (a : Option Addr) (cap : Nat) (X : List (BitVec 8)) (hl : Pol w a n cap X) (hn : n ≤ 2048) (a' : Option Addr) (cap' : Nat) (Y : List (BitVec 8)) (hY : Pol w a' (pb (deg m t)) cap' Y) :
    Calls Tryz.prog 60 #[.pointer (some ⟨s, 0, none⟩), .slice a n cap, .slice a' (pb (deg m t)) cap'] w (ValE m t (ev m t (val X) (val Y) % 2 ^ deg m t) w) := by
  obtain ⟨i0, hi, hz0, hz1, hz2⟩ := info64
  have HC := Lib.hid h
  have HPB := Lib.hid (parityB_any w s h ht2)
  have HFa := Lib.hid (fast_any ht ht2 w s h a cap X hl hn)
  have HY := Lib.hid hY
  have hd := deg_560 (m := m) ht2
  have HX := xs_plc (ev m t (val X) (val Y)) (deg m t)
  have HBd : Hid (∀ p ∈ plc (ev m t (val X) (val Y)) (deg m t), p ≤ 100000) := fun p hp => by have := (mem_plc.1 hp).1; omega
  have hE : ev m t (val X) (val Y) = prt (gen m t) (deg m t) (val X) ^^^ val Y := rfl
  have hRl := prt_lt (gen_deg (m := m) t) (val X)
  unfold ParAt at HFa
  rw [← HX]
  generalize ev m t (val X) (val Y) = E at hE HX HBd ⊢
  generalize prt (gen m t) (deg m t) (val X) = R at hE hRl HFa
  have hPd : pb (deg m t) = (deg m t + 7) / 8 := rfl
  obtain ⟨P, hP⟩ : ∃ P, P = pb (deg m t) := ⟨_, rfl⟩
  obtain ⟨D, hD⟩ : ∃ D, D = deg m t := ⟨_, rfl⟩
  have hdc := Lib.hid (fun (w : World) (h : CodeAt m t n w s) => degree_code w s h)
  rw [← hP] at hPd HPB HFa HY ⊢
  rw [← hD] at hd hPd hRl hdc HBd ⊢
  have HE := Lib.hid hE
  have HRl := Lib.hid hRl
  have HP := Lib.hid hPd
  have y9 : P ≤ 100000 := by omega
  clear h hl hY HX hE hRl hP hD hPd
  go_enter Tryz.func60, Tryz.ntmps60
  go_wp2_with fail
  refine HPB.out.mono ?_
  rintro e w' ⟨rfl, rfl⟩
  clear HPB
  go_wp2_with fail
  refine HFa.out.mono ?_
  rintro e w1 ⟨g, rfl, hB8, b1, hg1⟩
  have HB8 := Lib.hid hB8
  have HB1 := Lib.hid b1
  have HC1 := Lib.hid (HC.out.below b1)
  have HY1 := Lib.hid (HY.out.below b1)
  clear HFa hB8 b1
  go_wp2_with fail
  refine (hdc.out w1 HC1.out).mono ?_
  rintro e w' ⟨rfl, rfl⟩
  have HO0 := Lib.hid (show Own64 w1 w1.heap.size (.slice none 0 0) 0 (Bin.ints (plc E 0)) from Own64.nil w1 w1.heap.size)
  go_wp2_with fail
  go_loopg [10, 29] D (fun gh s10 s29 wx => ∃ (k j : Nat), gh = D - k ∧ k ≤ D ∧ s29 = .int .i64 (k : Int) ∧ Own64 wx w1.heap.size s10 j (Bin.ints (plc E k)) ∧ j ≤ k ∧ Below w1.heap.size w1 wx)
  case atStart => exact ⟨0, 0, rfl, Nat.zero_le _, rfl, HO0.out, Nat.le_refl _, Below.refl _ _⟩
  case round =>
    clear HO0
    obtain ⟨k, j, hg, hk, rfl, hown, hj, hB⟩ := hrel
    have HG := Lib.hid hg
    have hbs := hB.size
    clear hg
    by_cases hlt : k < D
    · have x1 : (k : Int) < (D : Int) := by omega
      have x0 : (0 : Int) ≤ (k : Int) := by omega
      have HI : Hid (k + 1 ≤ D) := hlt
      obtain ⟨Q, hQ⟩ : ∃ Q, Q = k / 8 := ⟨_, rfl⟩
      obtain ⟨r, hr⟩ : ∃ r, r = k % 8 := ⟨_, rfl⟩
      have q1 : (k : Int) / 8 = (Q : Int) := by omega
      have q2 : (k : Int).tdiv 8 = (Q : Int) := by rw [Int.tdiv_eq_ediv_of_nonneg (by omega)]; exact q1
      have q3 : (k : Int) % 8 = (r : Int) := by omega
      have q4 : (k : Int).tmod 8 = (r : Int) := by rw [Int.tmod_eq_emod_of_nonneg (by omega)]; exact q3
      have hQP : Q < P := by have := HP.out; omega
      have y0 : (0 : Int) ≤ (Q : Int) := by omega
      have y1 : (Q : Int) < (P : Int) := by omega
      have r0 : (0 : Int) ≤ (r : Int) := by omega
      have r1 : (r : Int) < 8 := by omega
      have HB8w : Hid (Blk8 wr g (byN R P)) := (hB.block g HB8.out.lt).trans HB8.out
      have d1 := HB8w.out.cell (i := Q) (by rw [byN_length]; exact hQP)
      obtain ⟨bb, off, rfl, d2⟩ : ∃ bb off, a' = some ⟨bb, off, none⟩ ∧ wr.cell? ⟨bb, off + Q, none⟩ = some (.int .u8 (Bits32.b (nth8 Y Q))) := by
        rcases (HY1.out.below hB).hrow with h | ⟨bb, off, e, hr, _⟩
        · omega
        · exact ⟨bb, off, e, hr Q (by rw [← HY1.out.hlen]; exact hQP)⟩
      have hx := Bits32.bxor (nth8 (byN R P) Q) (nth8 Y Q)
      have hbit : E.testBit k = (nth8 (byN R P) Q ^^^ nth8 Y Q).getLsbD r := by
        rw [HE.out, Nat.testBit_xor, BitVec.getLsbD_xor, byN_bit R P Q r hQP (by omega), val_bit Y k, ← hQ, ← hr, show 8 * Q + r = k by omega]
      have hone := bit_one8 (nth8 (byN R P) Q ^^^ nth8 Y Q) r (by omega)
      rw [← hbit] at hone
      have HPS := Lib.hid (plc_succ E k)
      generalize nth8 (byN R P) Q ^^^ nth8 Y Q = Z at hx hone
      generalize Bits32.b (nth8 (byN R P) Q) = v1 at d1 hx
      generalize Bits32.b (nth8 Y Q) = v2 at d2 hx
      clear hQ hr hlt hbit hQP
      rcases Bool.eq_false_or_eq_true (E.testBit k) with hb1 | hb1
      · rw [hb1] at hone HPS
        replace hone : bits .and .u8 (Bits32.b Z / 2 ^ r) 1 = 1 := hone
        have HF : Hid (plc E (k + 1) = plc E k ++ [k]) := HPS.out
        clear hb1 HPS
        go_wp2_with fail
        go_quiet (fail)
        have hd2 := Drawn.mk wr nq
        generalize wr.drewN nq = w5 at hd2 ⊢
        replace hB := hB.trans ((hd2.below wr.heap.size).mono hbs)
        have hown5 := hown.keep (w' := w5) fun g hg => (hd2.below wr.heap.size).block g (hown.block g hg).2
        have hbs5 := hB.size
        clear hown hd2 d1 d2 hx hone hbs
        go_wp2_with (at_builtin; refine wpList_append_own _ rfl _ _ 33 rfl w1.heap.size 3 i0 (.int .i64 0) 1 8 Tryz.underlying33 hi hz0 hz1 hz2 rfl (by decide) _ j _ rfl (World.ownsRow.alloc hown5 _) ⟨w5.heap.size, 0, none⟩ 1 1 [.int .i64 (k : Int)] rfl rfl (cell_one_new _ _ _) (ints_oneCell .i64 [_]) (by unfold maxLen; omega) (by omega) (by simp; omega) ?_; intro v7 w7 hown7 hgrow _)
        have ho7 : Own64 w7 w1.heap.size v7 (j + 1) (Bin.ints (plc E (k + 1))) := by
          unfold Own64
          rw [HF.out]
          have e : Bin.ints (plc E k ++ [k]) = Bin.ints (plc E k) ++ [(k : Int)] := by simp [Bin.ints]
          rw [e, ← cells64_append]
          exact hown7
        have b7 : Below w1.heap.size w1 w7 := (hB.alloc hbs5 _).grown hgrow (by simp; omega) (fun g hg => (hown5.block g hg).1)
        clear hown7 hgrow hown5 hB
        go_wp2_with fail
        go_roundg (D - (k + 1))
        case measure => have := HG.out; have := HI.out; omega
        case rel => exact ⟨k + 1, j + 1, rfl, HI.out, by go_num, ho7, by omega, b7⟩
      · rw [hb1] at hone HPS
        replace hone : bits .and .u8 (Bits32.b Z / 2 ^ r) 1 = 0 := hone
        have HF : Hid (plc E (k + 1) = plc E k) := by
          show _ = _
          rw [HPS.out]
          exact List.append_nil _
        clear hb1 HPS
        go_wp2_with fail
        go_quiet (fail)
        have hd2 := Drawn.mk wr nq
        generalize wr.drewN nq = w5 at hd2 ⊢
        replace hB := hB.trans ((hd2.below wr.heap.size).mono hbs)
        have hown5 := hown.keep (w' := w5) fun g hg => (hd2.below wr.heap.size).block g (hown.block g hg).2
        rw [← HF.out] at hown5
        clear hown hd2 d1 d2 hx hone hbs
        go_wp2_with fail
        go_roundg (D - (k + 1))
        case measure => have := HG.out; have := HI.out; omega
        case rel => exact ⟨k + 1, j, rfl, HI.out, by go_num, hown5, by omega, hB⟩
    · obtain rfl : k = D := by omega
      obtain ⟨av, cv, rfl⟩ := own_slice hown
      have HRw := Lib.hid (own_rowN hown)
      have HV := Lib.hid (values_any wr s (HC1.out.below hB) ht2 av j cv _ HRw.out (by omega) HBd.out)
      have HB2 := Lib.hid (HB1.out.trans (hB.mono HB1.out.size))
      have HS2 := Lib.hid (Nat.le_trans HB1.out.size hbs)
      clear hown hB
      go_wp2_with fail
      refine HV.out.mono ?_
      rintro e w4 ⟨g', rfl, h1, h2, h3⟩
      have H1 := Lib.hid h1
      have H2 := Lib.hid (HB2.out.trans (h2.mono HB2.out.size))
      have H3 := Lib.hid (Nat.le_trans HS2.out h3)
      clear h1 h2 h3 HV
      go_wp2_with fail
      go_ret2
      exact ⟨g', rfl, H1.out, H2.out, H3.out⟩
end
end Go.Proofs.YthmfneepnkgmgaaGreatDoor.Syn
/- made: the code that a statement of chapter 7 makes of any numbers. By the verifier of shale. -/
namespace Go.Proofs.YthmfneepnkgmgaaGreatDoor.Enc
open Go Go.RowKit Bin Cos
set_option linter.unusedVariables false
/-- the numbers that a statement makes of any. -/
def mkM7 (z : Int) : Nat := (z % 4).toNat + 6
def mkT7 (z : Int) : Nat := (z % 5).toNat + 1
def mkN7 (z : Int) : Nat := (z % 12).toNat + 1
instance (z : Int) : Pl.Mid (mkM7 z) := ⟨by unfold mkM7; omega, by unfold mkM7; omega⟩
instance mid7 : Pl.Mid 7 := ⟨by decide, by decide⟩
theorem may7 : May 7 2 5 := ⟨by decide, by decide, by decide, by decide, by decide +kernel, by decide +kernel⟩
theorem mkM7_go (z : Int) : z.tmod 4 % 4 + 6 = (mkM7 z : Int) := by
  unfold mkM7
  have : z.tmod 4 % 4 = z % 4 := by rw [Int.tmod_eq_emod]; split <;> omega
  omega
theorem mkT7_go (z : Int) : z.tmod 5 % 5 + 1 = (mkT7 z : Int) := by
  unfold mkT7
  have : z.tmod 5 % 5 = z % 5 := by rw [Int.tmod_eq_emod]; split <;> omega
  omega
theorem mkN7_go (z : Int) : z.tmod 12 % 12 + 1 = (mkN7 z : Int) := by
  unfold mkN7
  have : z.tmod 12 % 12 = z % 12 := by rw [Int.tmod_eq_emod]; split <;> omega
  omega
end Go.Proofs.YthmfneepnkgmgaaGreatDoor.Enc
/- fit: data of a code's length, as the statements of chapter 7 make it. By the verifier of shale. -/
namespace Go.Proofs.YthmfneepnkgmgaaGreatDoor.Enc
open Go Go.RowKit Bin Cos
set_option linter.unusedVariables false
end Go.Proofs.YthmfneepnkgmgaaGreatDoor.Enc
/- The walks over package syndrome's Fits and Add. By the verifier of shale. -/
namespace Go.Proofs.YthmfneepnkgmgaaGreatDoor.Syn
open Go Go.RowKit Bin Cos Enc Bits16
set_option linter.unusedVariables false
section
variable {m : Nat} [M : Pl.Mid m]
end
end Go.Proofs.YthmfneepnkgmgaaGreatDoor.Syn
/- The examples of chapter 6, as the statements ask them first of all. By the verifier of shale. -/
namespace Go.Proofs.YthmfneepnkgmgaaGreatDoor.Enc
open Go Go.RowKit Bin Cos
set_option linter.unusedVariables false
instance mid5 : Pl.Mid 5 := ⟨by decide, by decide⟩
instance mid4 : Pl.Mid 4 := ⟨by decide, by decide⟩
theorem may5 : May 5 2 2 := ⟨by decide, by decide, by decide, by decide, by decide +kernel, by decide +kernel⟩
theorem no4 : MayNot 4 2 1 := ⟨by decide, by decide, by decide, by decide, by decide +kernel⟩
theorem d5 : deg 5 2 = 10 := by decide +kernel
theorem lit8 (w W : World) (Y : List (BitVec 8)) (hW : W = w.alloc (obj8 Y)) : Blk8 W w.heap.size Y ∧ Below w.heap.size w W := by
  subst hW
  exact ⟨Blk8.new w Y, (Below.refl _ _).alloc (Nat.le_refl _) _⟩
theorem g5a : byN (prt (gen 5 2) (deg 5 2) (val [0#8, 0#8])) (pb (deg 5 2)) = [0#8, 0#8] := by decide +kernel
theorem g5b : byN (prt (gen 5 2) (deg 5 2) (val [1#8, 0#8])) (pb (deg 5 2)) = [105#8, 3#8] := by decide +kernel
theorem same_blk {w : World} {X Y : List (BitVec 8)} {v u : Value} (h1 : IsBytes w v X) (h2 : IsBytes w u Y) :
    Calls Tryz.prog 17 #[v, u] w fun e w' => e = .returned (.bool (decide (X = Y))) ∧ w = w' := by
  refine (same_any X Y _ _ w (Str8.of h1) (Str8.of h2)).mono ?_
  rintro e w' ⟨rfl, rfl⟩
  exact ⟨rfl, rfl⟩
end Go.Proofs.YthmfneepnkgmgaaGreatDoor.Enc
/- Small words for the walks of stage 6's statements. By the verifier of shale. -/
namespace Go.Proofs.YthmfneepnkgmgaaGreatDoor.Enc
open Go Go.RowKit Bin Cos
set_option linter.unusedVariables false
theorem keepB {w w' : World} {g : Nat} {o : Obj} (h : w.heap[g]? = some o) (b : Below w.heap.size w w') : w'.heap[g]? = some o := (b.block g (lt_of_block h)).trans h
theorem keepZ {w w' : World} {g : Nat} {l : List (BitVec 8)} (h : Blk8 w g l) (b : Below w.heap.size w w') : Blk8 w' g l := (b.block g h.lt).trans h
theorem newCd (w W : World) (a b c d e : Value) (h : w.alloc (.cells #[a, b, c, d, e] 26 (0, 0)) = W) : W.heap[w.heap.size]? = some (cdO a b c d e) ∧ Below w.heap.size w W := by
  subst h
  exact ⟨heap_alloc_new w _, (Below.refl _ _).alloc (Nat.le_refl _) _⟩
theorem pb_room {D R : Nat} (h : R < 2 ^ D) : R < 2 ^ (8 * pb D) := Nat.lt_of_lt_of_le h (Nat.pow_le_pow_right (by decide) (by unfold pb; omega))
theorem parV {w : World} {g D R : Nat} (k : Nat) (h : Blk8 w g (byN R (pb D))) (hR : R < 2 ^ D) (hk : pb D ≤ k) (hk2 : k ≤ 100000) : PolV w k (some ⟨g, 0, none⟩) (pb D) (pb D) R :=
  ⟨_, blk_pol h (byN_length _ _).symm (by omega), val_byN (pb_room hR), hk⟩
theorem blkV {w : World} {g n : Nat} {X : List (BitVec 8)} (k : Nat) (h : Blk8 w g X) (hn : n = X.length) (hk : n ≤ k) (hk2 : k ≤ 100000) : PolV w k (some ⟨g, 0, none⟩) n n (val X) := ⟨X, blk_pol h hn (by omega), rfl, hk⟩
theorem deg_degZ {g D : Nat} (h : Deg g D) : degZ g = (D : Int) := by
  rw [degZ_ne (by have := h.pos; omega), h.log2]
end Go.Proofs.YthmfneepnkgmgaaGreatDoor.Enc
/- A turned coefficient, in data and parity. By the verifier of shale. -/
namespace Go.Proofs.YthmfneepnkgmgaaGreatDoor.Enc
open Go Go.RowKit Bin Cos
set_option linter.unusedVariables false
/-- what turning coefficient k turns in the data, and in the parity. -/
def ed (D k : Nat) : Nat := if k < D then 0 else 2 ^ (k - D)
def ep (D k : Nat) : Nat := if k < D then 2 ^ k else 0
theorem ep_lt (D k : Nat) : ep D k < 2 ^ D := by
  unfold ep
  split
  · exact Nat.pow_lt_pow_right (by decide) (by assumption)
  · exact Nat.two_pow_pos D
theorem e_word (D k : Nat) : wrd D (ed D k) (ep D k) = 2 ^ k := by
  unfold wrd ed ep
  by_cases h : k < D
  · rw [if_pos h, if_pos h, Nat.zero_shiftLeft, Nat.zero_xor]
  · rw [if_neg h, if_neg h, Nat.xor_zero, Nat.shiftLeft_eq, ← Nat.pow_add, show k - D + D = k by omega]
theorem wrd_xor (D a b c d : Nat) : wrd D (a ^^^ b) (c ^^^ d) = wrd D a c ^^^ wrd D b d := by
  unfold wrd
  rw [shl_xor, xx]
theorem xor_lc {a b c : Nat} (h : a ^^^ b = a ^^^ c) : b = c := by
  have := congrArg (fun z => a ^^^ z) h
  simp only [← Nat.xor_assoc, Nat.xor_self, Nat.zero_xor] at this
  exact this
theorem e_inj {D k j : Nat} (h1 : ed D k = ed D j) (h2 : ep D k = ep D j) : k = j := by
  have h : 2 ^ k = 2 ^ j := by rw [← e_word D k, ← e_word D j, h1, h2]
  exact (Nat.pow_right_inj (by decide)).1 h
theorem pop_e {D k n : Nat} (hk : k < 8 * n + D) : pop (ed D k) (8 * n) + pop (ep D k) (8 * pb D) = 1 := by
  unfold ed ep
  by_cases h : k < D
  · rw [if_pos h, if_pos h, pop_zero, pop_one, if_pos (by unfold pb; omega)]
  · rw [if_neg h, if_neg h, pop_zero, pop_one, if_pos (by omega)]
section
variable {m : Nat} [M : Pl.Mid m]
/-- one turned coefficient makes a right word wrong. -/
theorem turn_wrong {t n k X X' : Nat} {Y' : List (BitVec 8)} (ht : 1 ≤ t) (hn : n + deg m t ≤ sz m) (hk : k < n + deg m t) (hX : X' = X ^^^ ed (deg m t) k)
    (hY : val Y' = prt (gen m t) (deg m t) X ^^^ ep (deg m t) k) : byN (prt (gen m t) (deg m t) X') (pb (deg m t)) ≠ Y' := by
  intro h
  have hg := gen_deg (m := m) t
  have hv : val Y' = prt (gen m t) (deg m t) X' := by rw [← h, val_byN (pb_room (prt_lt hg _))]
  have hw : wrd (deg m t) X' (val Y') = wrd (deg m t) X (prt (gen m t) (deg m t) X) ^^^ 2 ^ k := by rw [hX, hY, wrd_xor, e_word]
  refine turned (m := m) (t := t) (X := X) (e := 2 ^ k) (n := n) (Nat.pow_lt_pow_right (by decide) hk) (by have := Nat.two_pow_pos k; omega) hn ?_ ?_
  · rw [pop_one, if_pos hk]; omega
  · rw [← hw, hv]; exact wrd_dvd hg X'
end
theorem FlipAt.ed {D n P k vl vq : Nat} {w w' : World} {e : Ending} (h : FlipAt D n P k vl vq w e w') :
    ∃ a1 c1 X a2 c2 Y, e = .returned (.tuple #[.slice a1 n c1, .slice a2 P c2, .nilIface]) ∧ NewP w w' a1 n c1 X ∧ NewP w w' a2 P c2 Y ∧ val X = vl ^^^ ed D k ∧ val Y = vq ^^^ ep D k ∧ Below w.heap.size w w' := h
theorem NewP.keep {w0 w w' : World} {a : Option Addr} {n c : Nat} {X : List (BitVec 8)} (h : NewP w0 w a n c X) (b : Below w.heap.size w w') : NewP w0 w' a n c X := by
  refine ⟨h.hlen, h.hcap, h.hmost, ?_⟩
  rcases h.own with h | ⟨g, e, hg, hx⟩
  · exact Or.inl h
  · exact Or.inr ⟨g, e, hg, hx.below b hx.lt⟩
theorem pop_le (v n : Nat) : pop v n ≤ n := by
  unfold pop plc
  have := List.length_filter_le (fun i => v.testBit i) (List.range n)
  rwa [List.length_range] at this
/-- a number brought into 0 .. N - 1 as the statements do, N no literal. -/
theorem norm_var (z : Int) (N : Nat) (h0 : 0 < N) (hN : N ≤ 1000000) : -(N : Int) < z.tmod (N : Int) ∧ z.tmod (N : Int) < (N : Int) ∧ ∃ k : Nat, k < N ∧ (z.tmod (N : Int) + (N : Int)).tmod (N : Int) = (k : Int) := by
  have h1 : z.tmod (N : Int) < (N : Int) := Int.tmod_lt_of_pos z (by omega)
  have h2 : -(N : Int) < z.tmod (N : Int) := by
    have := Int.tmod_lt_of_pos (-z) (b := (N : Int)) (by omega)
    rw [Int.neg_tmod] at this
    omega
  have h3 := Int.tmod_lt_of_pos (z.tmod (N : Int) + (N : Int)) (b := (N : Int)) (by omega)
  have h4 := Int.tmod_nonneg (N : Int) (a := z.tmod (N : Int) + (N : Int)) (by omega)
  exact ⟨h2, h1, ((z.tmod (N : Int) + (N : Int)).tmod (N : Int)).toNat, by omega, by omega⟩
end Go.Proofs.YthmfneepnkgmgaaGreatDoor.Enc
/- The examples of chapter 7, as the statements ask them first of all; small words. By the verifier of shale. -/
namespace Go.Proofs.YthmfneepnkgmgaaGreatDoor.Syn
open Go Go.RowKit Bin Cos Enc Bits16
set_option linter.unusedVariables false
theorem keepI {w w' : World} {g : Nat} {l : List Int} (h : Blk64 w g l) (b : Below w.heap.size w w') : Blk64 w' g l := (b.block g h.lt).trans h
theorem nth_ints (l : List Nat) (i : Nat) : nth64 (Bin.ints l) i = ((l.getD i 0 : Nat) : Int) := by
  unfold nth64 Bin.ints
  rw [List.getD_eq_getElem?_getD, List.getD_eq_getElem?_getD, List.getElem?_map]
  cases l[i]? <;> rfl
theorem ints_len (l : List Nat) : (Bin.ints l).length = l.length := by unfold Bin.ints; rw [List.length_map]
theorem blkN {w : World} {g n : Nat} {l : List Nat} (h : Blk64 w g (Bin.ints l)) (hn : n = l.length) : RowN w (some ⟨g, 0, none⟩) n l := by
  refine ⟨hn, fun i hi => ⟨g, 0, rfl, ?_, h.lt⟩⟩
  rw [Nat.zero_add, h.cell (by rw [ints_len]; omega), nth_ints]
theorem blkZ {w : World} {g n : Nat} {l : List Nat} (h : Blk64 w g (Bin.ints l)) (hn : n = l.length) : RowZ w (some ⟨g, 0, none⟩) n (fun i => ((l.getD i 0 : Nat) : Int)) := fun i hi => (blkN h hn).row i hi
theorem blkI {w : World} {g n : Nat} {l : List Int} (h : Blk64 w g l) (hn : n = l.length) : RowZ w (some ⟨g, 0, none⟩) n (nth64 l) := fun i hi => ⟨g, 0, rfl, by rw [Nat.zero_add]; exact h.cell (by omega), h.lt⟩
theorem litI (w W : World) (Y : List Int) (hW : W = w.alloc (obj64 Y)) : Blk64 W w.heap.size Y ∧ Below w.heap.size w W := by
  subst hW
  exact ⟨Blk64.new w Y, (Below.refl _ _).alloc (Nat.le_refl _) _⟩
theorem rowN_nil (w : World) : RowN w none 0 [] := ⟨rfl, fun i hi => by omega⟩
theorem syn5a : syn 5 (xs []) 4 = [0, 0, 0, 0] := by decide +kernel
theorem syn5b : syn 5 (xs [0]) 4 = [1, 1, 1, 1] := by decide +kernel
theorem syn5c : syn 5 (xs [1]) 4 = [2, 4, 8, 16] := by decide +kernel
theorem clean_of {m v n g : Nat} [M : Pl.Mid m] {w : World} (h : Blk64 w g (Bin.ints (syn m v n))) (hn : n ≤ 100000) :
    Calls Tryz.prog 61 #[.slice (some ⟨g, 0, none⟩) n n] w fun e w' => e = .returned (.bool (decide (∀ j, j < n → sv m v (j + 1) = 0))) ∧ w = w' := by
  refine (clean_any _ n n _ w (blkZ h (syn_length v n).symm) hn).mono ?_
  rintro e w' ⟨rfl, rfl⟩
  refine ⟨ret_bool ?_, rfl⟩
  apply decide_eq_decide.2
  have e : ∀ j, j < n → (((syn m v n).getD j 0 : Nat) : Int) = Bits16.h (sv m v (j + 1)) := fun j hj => by
    unfold syn
    rw [List.getD_eq_getElem?_getD, List.getElem?_map, List.getElem?_range hj]; rfl
  constructor
  · intro hh j hj
    have := hh j hj
    rw [e j hj] at this
    exact h_inj _ 0 this
  · intro hh j hj
    rw [e j hj, hh j hj]; rfl
end Go.Proofs.YthmfneepnkgmgaaGreatDoor.Syn
/- The first steps of mending: a word's values, the polynomial of its places. By the verifier of shale. -/
namespace Go.Proofs.YthmfneepnkgmgaaGreatDoor.Dec
open Go Go.RowKit Bin Pl Cos Enc Syn Loc Sea
set_option linter.unusedVariables false
/-- a word on its way in block b. -/
def wordAt (w : World) (b : Nat) (d p s l q : Value) : Prop := w.heap[b]? = some (.cells #[d, p, s, l, q] 64 (0, 0))
theorem wordAt.cells {w : World} {b : Nat} {d p s l q : Value} (h : wordAt w b d p s l q) :
    w.cell? ⟨b, 0, none⟩ = some d ∧ w.cell? ⟨b, 1, none⟩ = some p ∧ w.cell? ⟨b, 2, none⟩ = some s ∧ w.cell? ⟨b, 3, none⟩ = some l ∧ w.cell? ⟨b, 4, none⟩ = some q ∧ ∀ i, w.frozen? ⟨b, i, none⟩ = false := by
  have e : w.heap[b]? = _ := h
  refine ⟨?_, ?_, ?_, ?_, ?_, fun i => ?_⟩
  · unfold World.cell?; simp only; rw [e]; rfl
  · unfold World.cell?; simp only; rw [e]; rfl
  · unfold World.cell?; simp only; rw [e]; rfl
  · unfold World.cell?; simp only; rw [e]; rfl
  · unfold World.cell?; simp only; rw [e]; rfl
  · unfold World.frozen?; simp only; rw [e]; rfl
/-- a decoder of the code at s. -/
def decAt (w : World) (db s : Nat) : Prop := w.heap[db]? = some (.cells #[.pointer (some ⟨s, 0, none⟩)] 80 (0, 0))
theorem decAt.cell {w : World} {db s : Nat} (h : decAt w db s) : w.cell? ⟨db, 0, none⟩ = some (.pointer (some ⟨s, 0, none⟩)) := cell_of_one h
section
variable {m : Nat} [M : Pl.Mid m]
/-- what mending stands on. -/
structure Base (m t n : Nat) [M : Pl.Mid m] (w : World) (db s : Nat) (ym yz : Addr) : Prop where
  dec : decAt w db s
  code : CodeAt m t n w s
  many : ErrAt w 1 ym
  zero : ErrAt w 5 yz
  t1 : 1 ≤ t
  t40 : t ≤ 40
  n1 : 1 ≤ n
  n2048 : n ≤ 2048
  room : 8 * n + deg m t ≤ Fld.size m
theorem Base.below {t n : Nat} {w w' : World} {db s : Nat} {ym yz : Addr} (h : Base m t n w db s ym yz) (b : Below w.heap.size w w') : Base m t n w' db s ym yz :=
  ⟨(b.block _ (lt_of_block h.dec)).trans h.dec, h.code.below b, h.many.below b, h.zero.below b, h.t1, h.t40, h.n1, h.n2048, h.room⟩
/-- a word's number. -/
def wd (m t X Y : Nat) [M : Pl.Mid m] : Nat := wrd (deg m t) X (Y % 2 ^ deg m t)
theorem syn_wd (t X Y : Nat) : syn m (Syn.ev m t X Y % 2 ^ deg m t) (2 * t) = syn m (wd m t X Y) (2 * t) := by
  unfold syn
  refine List.map_congr_left fun i hi => ?_
  have hi := List.mem_range.1 hi
  have hY : Y % 2 ^ deg m t < 2 ^ deg m t := Nat.mod_lt _ (Nat.two_pow_pos _)
  have hR := prt_lt (gen_deg (m := m) t) X
  unfold wd
  rw [sv_word hY (by omega) (by omega)]
  congr 2
  unfold Syn.ev
  rw [Nat.xor_mod_two_pow, Nat.mod_eq_of_lt hR]
theorem Tn.keep64 {bl : List Nat} {X Y : World} {g : Nat} {l : List Int} (t : Tn bl X Y bl) (h : Blk64 X g l) (hg : g ∉ bl) : Blk64 Y g l := (t.same g h.lt hg).trans h
set_option maxRecDepth 100000 in
set_option maxHeartbeats 1000000 in
theorem look_any {t n : Nat} {w0 w : World} {db s wb : Nat} {ym yz : Addr} (K : Base m t n w0 db s ym yz) (b : Below w0.heap.size w0 w) (hwb : w0.heap.size ≤ wb) {a a' : Option Addr} {ca ca' : Nat} {X Y : List (BitVec 8)} {v3 v4 v5 : Value} (hW : wordAt w wb (.slice a n ca) (.slice a' (pb (deg m t)) ca') v3 v4 v5) (hX : Pol w a n ca X) (hY : Pol w a' (pb (deg m t)) ca' Y) :
    Calls Tryz.prog 34 #[.pointer (some ⟨db, 0, none⟩), .pointer (some ⟨wb, 0, none⟩)] w fun e w' => e = .returned .nilIface ∧ ∃ g, wordAt w' wb (.slice a n ca) (.slice a' (pb (deg m t)) ca') (.slice (some ⟨g, 0, none⟩) (2 * t) (2 * t)) v4 v5 ∧ Blk64 w' g (Bin.ints (syn m (wd m t (val X) (val Y)) (2 * t))) ∧ g ≠ wb ∧ Tn [wb] w w' [wb] := by
  have K1 := K.below b
  have c0 := K1.dec.cell
  obtain ⟨d0, d1, _⟩ := hW.cells
  have HO : Hid (∀ W, Below w.heap.size w W → Calls Tryz.prog 60 #[.pointer (some ⟨s, 0, none⟩), .slice a n ca, .slice a' (pb (deg m t)) ca'] W fun e w' => ∃ g, e = .returned (.tuple #[.slice (some ⟨g, 0, none⟩) (2 * t) (2 * t), .nilIface]) ∧ (w'.cell? ⟨db, 0, none⟩ = some (.pointer (some ⟨s, 0, none⟩)) ∧ w'.cell? ⟨wb, 0, none⟩ = some (.slice a n ca) ∧ w'.cell? ⟨wb, 1, none⟩ = some (.slice a' (pb (deg m t)) ca') ∧ Below w.heap.size w w') ∧ Blk64 w' g (Bin.ints (syn m (wd m t (val X) (val Y)) (2 * t))) ∧ w.heap.size ≤ g ∧ Below W.heap.size W w') := fun W d => by
    refine (of_any K.t1 K.t40 W s (K1.code.below d) a ca X (hX.below d) K.n2048 a' ca' Y (hY.below d)).mono ?_
    rintro e w' ⟨g, rfl, q1, q2, q3⟩
    rw [syn_wd] at q1
    have hb := d.trans (q2.mono d.size)
    exact ⟨g, rfl, ⟨(hb.cell (p := ⟨db, 0, none⟩) (lt_of_block K1.dec)).trans c0, (hb.cell (p := ⟨wb, 0, none⟩) (lt_of_block hW)).trans d0, (hb.cell (p := ⟨wb, 1, none⟩) (lt_of_block hW)).trans d1, hb⟩, q1, Nat.le_trans d.size q3, q2⟩
  have HW := Lib.hid hW
  have hlt := lt_of_block hW
  have HL := Lib.hid hlt
  clear K K1 b hX hY hW hlt hwb
  generalize hP : pb (deg m t) = P at *
  go_enter Tryz.func34, Tryz.ntmps34
  go_wp2_with fail
  have hS0 : w.drew.cell? ⟨db, 0, none⟩ = some (.pointer (some ⟨s, 0, none⟩)) ∧ w.drew.cell? ⟨wb, 0, none⟩ = some (.slice a n ca) ∧ w.drew.cell? ⟨wb, 1, none⟩ = some (.slice a' P ca') ∧ Below w.heap.size w w.drew := ⟨c0, d0, d1, (Drawn.mk w 1).below _⟩
  go_region_held3 (fun w' => w'.cell? ⟨db, 0, none⟩ = some (.pointer (some ⟨s, 0, none⟩)) ∧ w'.cell? ⟨wb, 0, none⟩ = some (.slice a n ca) ∧ w'.cell? ⟨wb, 1, none⟩ = some (.slice a' P ca') ∧ Below w.heap.size w w')
    (first | assumption | exact ⟨by assumption, by assumption, by assumption, by assumption⟩)
    (first
      | (go_at_call 60; refine Calls.mono (HO.out _ (And.right (And.right (And.right (by assumption))))) ?_; rintro e w1 ⟨g, rfl, q1, q2, q3, q4⟩))
  have hW1 : wordAt w1 wb (.slice a n ca) (.slice a' P ca') v3 v4 v5 := (q1.2.2.2.block _ HL.out).trans HW.out
  have hT1 : Tn [wb] w (w1.setCell ⟨wb, 2, none⟩ (.slice (some ⟨g, 0, none⟩) (2 * t) (2 * t))) [wb] := (Tn.below q1.2.2.2).trans (Tn.setCell w1 _ _ (by simp))
  have hgw : g ≠ wb := by have := HL.out; omega
  have HE : Hid (wordAt (w1.setCell ⟨wb, 2, none⟩ (.slice (some ⟨g, 0, none⟩) (2 * t) (2 * t))) wb (.slice a n ca) (.slice a' P ca') (.slice (some ⟨g, 0, none⟩) (2 * t) (2 * t)) v4 v5 ∧ Blk64 (w1.setCell ⟨wb, 2, none⟩ (.slice (some ⟨g, 0, none⟩) (2 * t) (2 * t))) g (Bin.ints (syn m (wd m t (val X) (val Y)) (2 * t))) ∧ g ≠ wb ∧ Tn [wb] w (w1.setCell ⟨wb, 2, none⟩ (.slice (some ⟨g, 0, none⟩) (2 * t) (2 * t))) [wb]) :=
    ⟨heap_setCell_same _ _ 2 _ _ _ hW1, (Below.heap_setCell _ _ _ _ hgw).trans q2, hgw, hT1⟩
  obtain ⟨_, _, k2, _, _, kf⟩ := hW1.cells
  have kf2 := kf 2
  clear hW1 hT1 hgw q1 q2 q3 q4 kf hS0 c0 d0 d1
  go_wp2_with fail
  go_ret
  exact ⟨rfl, g, HE.out⟩
/-- what is laid in a word leaves rows of numbers alone. -/
theorem row_apart {w : World} {wb : Nat} {d p s l q : Value} (h : wordAt w wb d p s l q) (hv : ∀ x ∈ [d, p, s, l, q], ∀ z, x ≠ .int .i64 z) {b off i : Nat} {z : Int} (hc : w.cell? ⟨b, off + i, none⟩ = some (.int .i64 z)) : b ≠ wb := by
  rintro rfl
  unfold World.cell? at hc
  simp only at hc
  rw [show w.heap[b]? = _ from h] at hc
  simp only at hc
  have hm : (Value.int .i64 z) ∈ [d, p, s, l, q] := by
    generalize off + i = k at hc
    simp only [List.getElem?_toArray] at hc
    exact List.mem_of_getElem? hc
  exact hv _ hm z rfl
theorem nv_store {w : World} {wb i : Nat} {d p s l q u : Value} {K : Nat} {a : Option Addr} {n c : Nat} {P : Ser (El m)} (h : wordAt w wb d p s l q) (hv : ∀ x ∈ [d, p, s, l, q], ∀ z, x ≠ .int .i64 z) (N : NV m w K a n c P) : NV m (w.setCell ⟨wb, i, none⟩ u) K a n c P := by
  refine ⟨⟨N.row.hlen, N.row.hcap, N.row.hmost, fun k hk => ?_⟩, N.bd, N.top, N.le⟩
  obtain ⟨b, off, e, hc, hb⟩ := N.row.row k hk
  refine ⟨b, off, e, ?_, by simpa [World.setCell] using hb⟩
  have hne := row_apart h hv hc
  unfold World.cell? at hc ⊢
  simp only at hc ⊢
  rw [Below.heap_setCell _ _ _ _ hne]
  exact hc
theorem Sv_val (v i : Nat) : (Sv m v i).val = sv m v (i + 1) := rfl
theorem Sv_nil (v i : Nat) : sv m v (i + 1) = 0 ↔ Sv m v i = 0 := ⟨fun h => El.ext h, fun h => by rw [← Sv_val, h]; rfl⟩
theorem syn_sr {v N i : Nat} (hi : i < N) : Sv m v i = sr m (Bin.ints (syn m v N)) i := by
  show _ = elm m ((Bin.ints (syn m v N)).getD i 0)
  have e : (Bin.ints (syn m v N)).getD i 0 = ((sv m v (i + 1)).toNat : Int) := by
    unfold Bin.ints syn
    rw [List.getD_eq_getElem?_getD]
    simp [hi]
  rw [e]
  exact (elm_zn (Sv m v i)).symm
end
end Go.Proofs.YthmfneepnkgmgaaGreatDoor.Dec
/- The step of mending that makes the polynomial of the places. By the verifier of shale. -/
namespace Go.Proofs.YthmfneepnkgmgaaGreatDoor.Dec
open Go Go.RowKit Bin Pl Cos Enc Syn Loc Sea
set_option linter.unusedVariables false
section
variable {m : Nat} [M : Pl.Mid m]
set_option maxRecDepth 100000 in
set_option maxHeartbeats 1000000 in
theorem locate_zero {t n : Nat} {w0 w : World} {db s wb : Nat} {ym yz : Addr} (K : Base m t n w0 db s ym yz) (b : Below w0.heap.size w0 w) {d p l q : Value} {g v : Nat} (hW : wordAt w wb d p (.slice (some ⟨g, 0, none⟩) (2 * t) (2 * t)) l q) (hB : Blk64 w g (Bin.ints (syn m v (2 * t)))) (h0 : ∀ i, i < 2 * t → Sv m v i = 0) :
    Calls Tryz.prog 35 #[.pointer (some ⟨db, 0, none⟩), .pointer (some ⟨wb, 0, none⟩)] w fun e w' => e = .returned .nilIface ∧ w = w' := by
  have ht := K.t40
  have hc := clean_of hB (by omega)
  rw [show decide (∀ j, j < 2 * t → sv m v (j + 1) = 0) = true from decide_eq_true fun j hj => (Sv_nil v j).2 (h0 j hj)] at hc
  obtain ⟨_, _, d2, _⟩ := hW.cells
  clear hW hB K b h0
  go_enter Tryz.func35, Tryz.ntmps35
  go_wp2_with fail
  refine hc.mono ?_
  rintro e w1 ⟨rfl, rfl⟩
  clear hc
  go_wp2_with fail
  go_ret
  exact ⟨rfl, rfl⟩
/-- what Locate answers of a word's values. -/
theorem locate_of {t v g f be ce bl : Nat} {w : World} (F : Fld.FldAt m w f be ce bl) (hB : Blk64 w g (Bin.ints (syn m v (2 * t)))) (ht : t ≤ 40) :
    Calls Tryz.prog 62 #[.pointer (some ⟨f, 0, none⟩), .slice (some ⟨g, 0, none⟩) (2 * t) (2 * t)] w fun e w' => ∃ a c, e = .returned (.tuple #[.slice a (Pl.top (bm (Sv m v) (2 * t)).c 100) c, .int .i64 ((bm (Sv m v) (2 * t)).L : Int)]) ∧ NV m w' 100 a (Pl.top (bm (Sv m v) (2 * t)).c 100) c (bm (Sv m v) (2 * t)).c ∧ Below w.heap.size w w' := by
  have hlen : (Bin.ints (syn m v (2 * t))).length = 2 * t := by unfold Bin.ints; rw [List.length_map, syn_length]
  have r := Blk64.rowz hB (by rw [hlen]; omega)
  rw [hlen] at r
  refine (locate_any _ _ _ _ w F r (Sv m v) (2 * t) (by omega) fun i hi => syn_sr hi).mono ?_
  rintro e w' ⟨a, n, c, rfl, N, b⟩
  have hn : n = Pl.top (bm (Sv m v) (2 * t)).c 100 := by
    have hbd : Bd (bm (Sv m v) (2 * t)).c 100 := N.bd.mono N.le
    rw [← top_same N.bd hbd, N.top]
  subst hn
  exact ⟨a, c, rfl, N, b⟩
set_option maxRecDepth 100000 in
set_option maxHeartbeats 2000000 in
theorem locate_more {t n : Nat} {w0 w : World} {db s wb : Nat} {ym yz : Addr} (K : Base m t n w0 db s ym yz) (b : Below w0.heap.size w0 w) {d p l q : Value} {g v : Nat} (hW : wordAt w wb d p (.slice (some ⟨g, 0, none⟩) (2 * t) (2 * t)) l q) (hv : ∀ x ∈ [d, p, .slice (some ⟨g, 0, none⟩) (2 * t) (2 * t), l, q], ∀ z, x ≠ .int .i64 z) (hB : Blk64 w g (Bin.ints (syn m v (2 * t)))) (h0 : ¬ ∀ i, i < 2 * t → Sv m v i = 0) (good : Bool) (hg : good = decide ((bm (Sv m v) (2 * t)).L ≤ t ∧ Pl.top (bm (Sv m v) (2 * t)).c 100 = (bm (Sv m v) (2 * t)).L + 1)) :
    Calls Tryz.prog 35 #[.pointer (some ⟨db, 0, none⟩), .pointer (some ⟨wb, 0, none⟩)] w fun e w' =>
      (good = true ∧ e = .returned .nilIface ∧ ∃ a c, wordAt w' wb d p (.slice (some ⟨g, 0, none⟩) (2 * t) (2 * t)) (.slice a (Pl.top (bm (Sv m v) (2 * t)).c 100) c) q ∧ NV m w' 100 a (Pl.top (bm (Sv m v) (2 * t)).c 100) c (bm (Sv m v) (2 * t)).c ∧ Tn [wb] w w' [wb]) ∨
      (good = false ∧ e = .returned (errOf ym) ∧ Tn [wb] w w' [wb]) := by
  have ht := K.t40
  have hc := clean_of hB (by omega)
  rw [show decide (∀ j, j < 2 * t → sv m v (j + 1) = 0) = false from decide_eq_false fun h => h0 fun j hj => (Sv_nil v j).1 (h j hj)] at hc
  obtain ⟨_, _, d2, _⟩ := hW.cells
  have K1 := K.below b
  have c0 := K1.dec.cell
  obtain ⟨c, hcc⟩ : ∃ c, c = (bm (Sv m v) (2 * t)).c := ⟨_, rfl⟩
  obtain ⟨L, hLL⟩ : ∃ L, L = (bm (Sv m v) (2 * t)).L := ⟨_, rfl⟩
  have HF : Hid (∀ W, Below w.heap.size w W → Calls Tryz.prog 63 #[.pointer (some ⟨s, 0, none⟩)] W fun e w' => (∃ f be ce bl, e = .returned (.pointer (some ⟨f, 0, none⟩)) ∧ Fld.FldAt m W f be ce bl) ∧ W = w') := fun W bb => field_code W s (K1.code.below bb)
  have HS : Hid (∀ W, Below w.heap.size w W → W.cell? ⟨db, 0, none⟩ = some (.pointer (some ⟨s, 0, none⟩)) ∧ W.cell? ⟨wb, 2, none⟩ = some (.slice (some ⟨g, 0, none⟩) (2 * t) (2 * t)) ∧ Below w.heap.size w W) := fun W bb =>
    ⟨(bb.cell (p := ⟨db, 0, none⟩) (lt_of_block K1.dec)).trans c0, (bb.cell (p := ⟨wb, 2, none⟩) (lt_of_block hW)).trans d2, bb⟩
  have HL : Hid (∀ W f be ce bl, Below w.heap.size w W → Fld.FldAt m W f be ce bl → Calls Tryz.prog 62 #[.pointer (some ⟨f, 0, none⟩), .slice (some ⟨g, 0, none⟩) (2 * t) (2 * t)] W fun e w' => ∃ a' c', e = .returned (.tuple #[.slice a' (Pl.top c 100) c', .int .i64 (L : Int)]) ∧ NV m w' 100 a' (Pl.top c 100) c' c ∧ (w'.cell? ⟨db, 0, none⟩ = some (.pointer (some ⟨s, 0, none⟩)) ∧ w'.cell? ⟨wb, 2, none⟩ = some (.slice (some ⟨g, 0, none⟩) (2 * t) (2 * t)) ∧ Below w.heap.size w w')) := fun W f be ce bl bb F => by
    refine (locate_of F ((bb.block g hB.lt).trans hB) ht).mono ?_
    rintro e w' ⟨a', c', rfl, N, b'⟩
    rw [← hcc] at N ⊢
    rw [← hLL]
    exact ⟨a', c', rfl, N, HS.out _ (bb.trans (b'.mono bb.size))⟩
  rw [← hcc, ← hLL] at hg
  rw [← hcc]
  have htop : Pl.top c 100 ≤ 100 := top_le c 100
  have hLb : L ≤ 2 * t := by rw [hLL]; exact (bm_inv _ _).le
  obtain ⟨T, hT⟩ : ∃ T, T = Pl.top c 100 := ⟨_, rfl⟩
  rw [← hT] at hg htop HL ⊢
  have HW := Lib.hid (And.intro hW hv)
  have HK := Lib.hid K1
  have HT := Lib.hid (fun W (bb : Below w.heap.size w W) => t_code W s (K1.code.below bb))
  have hS0 := HS.out _ ((Drawn.mk w 1).below w.heap.size)
  replace hS0 : w.drew.cell? ⟨db, 0, none⟩ = some (.pointer (some ⟨s, 0, none⟩)) ∧ w.drew.cell? ⟨wb, 2, none⟩ = some (.slice (some ⟨g, 0, none⟩) (2 * t) (2 * t)) ∧ Below w.heap.size w w.drew := hS0
  have HB := Lib.hid hB
  clear hB hW hv K K1 b h0 hcc hLL hT
  go_enter Tryz.func35, Tryz.ntmps35
  go_wp2_with fail
  refine hc.mono ?_
  rintro e w1 ⟨rfl, rfl⟩
  clear hc
  go_wp2_with fail
  clear c0 d2
  go_region_held3 (fun w' => w'.cell? ⟨db, 0, none⟩ = some (.pointer (some ⟨s, 0, none⟩)) ∧ w'.cell? ⟨wb, 2, none⟩ = some (.slice (some ⟨g, 0, none⟩) (2 * t) (2 * t)) ∧ Below w.heap.size w w')
    (first | assumption | exact ⟨by assumption, by assumption, by assumption⟩)
    (first
      | (go_at_call 63; refine Calls.mono (HF.out _ (And.right (And.right (by assumption)))) ?_; rintro e w13 ⟨⟨fb, be, ce, bl, rfl, ff⟩, rfl⟩)
      | (go_at_call 62; refine Calls.mono (HL.out _ _ _ _ _ (And.right (And.right (by assumption))) (by assumption)) ?_; rintro e w1 ⟨a', c', rfl, q1, q2⟩))
  obtain ⟨e0, e2, b1⟩ := q2
  have hW1 : wordAt w1 wb d p (.slice (some ⟨g, 0, none⟩) (2 * t) (2 * t)) l q := (b1.block _ (lt_of_block HW.out.1)).trans HW.out.1
  have HQ := Lib.hid (And.intro q1 (And.intro hW1 b1))
  have hT1 := HT.out w1 b1
  have em := (HK.out.many.below b1).1
  unfold Sent at em
  obtain ⟨_, _, _, k3, _, kf⟩ := hW1.cells
  have kf3 := kf 3
  clear q1 hW1 b1 ff hS0 HF HL kf e2
  by_cases hgd : L ≤ t ∧ T = L + 1
  · obtain ⟨h1, rfl⟩ := hgd
    have hg1 : good = true := by rw [hg]; exact decide_eq_true ⟨h1, rfl⟩
    have y1 : decide ((t : Int) < (L : Int)) = false := decide_eq_false (by omega)
    have y2 : decide (t < L) = false := decide_eq_false (by omega)
    have HG := Lib.hid hg1
    have HE : Hid (wordAt (w1.setCell ⟨wb, 3, none⟩ (.slice a' (L + 1) c')) wb d p (.slice (some ⟨g, 0, none⟩) (2 * t) (2 * t)) (.slice a' (L + 1) c') q ∧ NV m (w1.setCell ⟨wb, 3, none⟩ (.slice a' (L + 1) c')) 100 a' (L + 1) c' c ∧ Tn [wb] w (w1.setCell ⟨wb, 3, none⟩ (.slice a' (L + 1) c')) [wb]) :=
      ⟨heap_setCell_same _ _ 3 _ _ _ HQ.out.2.1, nv_store HQ.out.2.1 HW.out.2 HQ.out.1, (Tn.below HQ.out.2.2).trans (Tn.setCell w1 _ _ (by simp))⟩
    clear hg hg1 h1
    go_wp2_with fail
    refine hT1.mono ?_
    rintro e w2 ⟨rfl, rfl⟩
    clear hT1
    go_wp2_with fail
    go_ret
    exact .inl ⟨HG.out, rfl, a', c', HE.out⟩
  · have hg1 : good = false := by rw [hg]; exact decide_eq_false hgd
    have y : (decide ((t : Int) < (L : Int)) = true ∧ decide (t < L) = true) ∨ ((decide ((t : Int) < (L : Int)) = false ∧ decide (t < L) = false) ∧ ((T : Int) - 1 == (L : Int)) = false ∧ ¬ ((T : Int) - 1 = (L : Int))) := by
      by_cases h : t < L
      · exact .inl ⟨decide_eq_true (by omega), decide_eq_true h⟩
      · have : ¬ ((T : Int) - 1 = (L : Int)) := by omega
        exact .inr ⟨⟨decide_eq_false (by omega), decide_eq_false h⟩, by simpa using this, this⟩
    have HG := Lib.hid hg1
    have HE := Lib.hid (Tn.below (bl := [wb]) HQ.out.2.2)
    clear hg hg1 hgd
    rcases y with ⟨y1, y2⟩ | ⟨⟨y1, y2⟩, y3, y4⟩
    all_goals
      go_wp2_with fail
      refine hT1.mono ?_
      rintro e w2 ⟨rfl, rfl⟩
      clear hT1
      go_wp2_with fail
      go_ret
      exact .inr ⟨HG.out, rfl, HE.out⟩
end
end Go.Proofs.YthmfneepnkgmgaaGreatDoor.Dec
/- The step of mending that finds the places. By the verifier of shale. -/
namespace Go.Proofs.YthmfneepnkgmgaaGreatDoor.Dec
open Go Go.RowKit Bin Pl Cos Enc Syn Loc Sea
set_option linter.unusedVariables false
section
variable {m : Nat} [M : Pl.Mid m]
set_option maxRecDepth 100000 in
set_option maxHeartbeats 1000000 in
theorem search_none {w : World} {db wb : Nat} {d p sv q : Value} (hW : wordAt w wb d p sv (.slice none 0 0) q) :
    Calls Tryz.prog 36 #[.pointer (some ⟨db, 0, none⟩), .pointer (some ⟨wb, 0, none⟩)] w fun e w' => e = .returned .nilIface ∧ w = w' := by
  obtain ⟨_, _, _, d3, _⟩ := hW.cells
  clear hW
  go_enter Tryz.func36, Tryz.ntmps36
  go_wp2_with fail
  go_ret
  exact ⟨rfl, rfl⟩
theorem rowz_store {w : World} {wb i : Nat} {d p s l q u : Value} {a : Option Addr} {n c : Nat} {z : List Int} (h : wordAt w wb d p s l q) (hv : ∀ x ∈ [d, p, s, l, q], ∀ z, x ≠ .int .i64 z) (N : RowZ w a n c z) : RowZ (w.setCell ⟨wb, i, none⟩ u) a n c z := by
  refine ⟨N.hlen, N.hcap, N.hmost, fun k hk => ?_⟩
  obtain ⟨b, off, e, hc, hb⟩ := N.row k hk
  refine ⟨b, off, e, ?_, by simpa [World.setCell] using hb⟩
  have hne := row_apart h hv hc
  unfold World.cell? at hc ⊢
  simp only at hc ⊢
  rw [Below.heap_setCell _ _ _ _ hne]
  exact hc
set_option maxRecDepth 100000 in
set_option maxHeartbeats 2000000 in
theorem search_more {t n : Nat} {w0 w : World} {db s wb : Nat} {ym yz : Addr} (K : Base m t n w0 db s ym yz) (b : Below w0.heap.size w0 w) {d p sv q : Value} {a1 : Option Addr} {L c1 : Nat} {c : Ser (El m)} (hW : wordAt w wb d p sv (.slice a1 (L + 1) c1) q) (hv : ∀ x ∈ [d, p, sv, .slice a1 (L + 1) c1, q], ∀ z, x ≠ .int .i64 z) (hwb : w0.heap.size ≤ wb) (N : NV m w 100 a1 (L + 1) c1 c) (good : Bool) (hg : good = decide ((hits (zAt c 100) (8 * n + deg m t)).length = L)) :
    Calls Tryz.prog 36 #[.pointer (some ⟨db, 0, none⟩), .pointer (some ⟨wb, 0, none⟩)] w fun e w' =>
      (good = true ∧ e = .returned .nilIface ∧ ∃ a2 c2, wordAt w' wb d p sv (.slice a1 (L + 1) c1) (.slice a2 (hits (zAt c 100) (8 * n + deg m t)).length c2) ∧ RowZ w' a2 (hits (zAt c 100) (8 * n + deg m t)).length c2 (intsN (hits (zAt c 100) (8 * n + deg m t))) ∧ Tn [wb] w w' [wb]) ∨
      (good = false ∧ e = .returned (errOf ym) ∧ Tn [wb] w w' [wb]) := by
  have K1 := K.below b
  have HNE : Hid (1 ≠ wb) := by show _ ≠ _; have := K.many.2.1; omega
  have c0 := K1.dec.cell
  obtain ⟨_, _, _, d3, d4, _⟩ := hW.cells
  have hL100 : L + 1 ≤ 100 := N.le
  have hroom := K.room
  have hn2 := K.n2048
  have ht2 := K.t40
  obtain ⟨B, hB⟩ : ∃ B, B = 8 * n + deg m t := ⟨_, rfl⟩
  have HF : Hid (∀ W, Below w.heap.size w W → Calls Tryz.prog 63 #[.pointer (some ⟨s, 0, none⟩)] W fun e w' => (∃ f be ce bl, e = .returned (.pointer (some ⟨f, 0, none⟩)) ∧ Fld.FldAt m W f be ce bl) ∧ W = w') := fun W bb => field_code W s (K1.code.below bb)
  have HBt : Hid (∀ W, Below w.heap.size w W → Calls Tryz.prog 30 #[.pointer (some ⟨s, 0, none⟩)] W fun e w' => e = .returned (.int .i64 (B : Int)) ∧ Below w.heap.size w w' ∧ Below W.heap.size W w') := fun W bb => by
    rw [hB]
    refine (bits_code W s (K1.code.below bb) hn2 ht2).mono ?_
    rintro e w' ⟨rfl, dd⟩
    exact ⟨rfl, bb.trans ((dd.below W.heap.size).mono bb.size), dd.below _⟩
  have HS : Hid (∀ W, Below w.heap.size w W → W.cell? ⟨db, 0, none⟩ = some (.pointer (some ⟨s, 0, none⟩)) ∧ W.cell? ⟨wb, 3, none⟩ = some (.slice a1 (L + 1) c1) ∧ W.cell? ⟨wb, 4, none⟩ = some q ∧ W.frozen? ⟨wb, 4, none⟩ = false) := fun W bb =>
    ⟨(bb.cell (p := ⟨db, 0, none⟩) (lt_of_block K1.dec)).trans c0, (bb.cell (p := ⟨wb, 3, none⟩) (lt_of_block hW)).trans d3, (bb.cell (p := ⟨wb, 4, none⟩) (lt_of_block hW)).trans d4, (wordAt.cells ((bb.block _ (lt_of_block hW)).trans hW)).2.2.2.2.2 4⟩
  rw [← hB] at hg ⊢
  obtain ⟨H, hH⟩ : ∃ H, H = hits (zAt c 100) B := ⟨_, rfl⟩
  have hlim : lim m (B : Int) = B := by unfold lim; omega
  have HQ : Hid (∀ W f be ce bl, Below w.heap.size w W → Fld.FldAt m W f be ce bl → Calls Tryz.prog 65 #[.pointer (some ⟨f, 0, none⟩), .slice a1 (L + 1) c1, .int .i64 (B : Int)] W fun e w' => ∃ a' c', e = .returned (.slice a' H.length c') ∧ RowZ w' a' H.length c' (intsN H) ∧ Below w.heap.size w w') := fun W f be ce bl bb F => by
    have h := searchZ (B : Int) W F (N.below bb).pol (by decide) (K1.zero.below bb)
    rw [hlim, ← hH] at h
    refine h.mono ?_
    rintro e w' ⟨a', c', rfl, r, b'⟩
    exact ⟨a', c', rfl, r, bb.trans (b'.mono bb.size)⟩
  rw [← hH] at hg ⊢
  have hHl : H.length ≤ 16383 := by
    rw [hH]
    have := hits_len (zAt c 100) B
    have := Fld.size_hi m M.hi
    omega
  obtain ⟨hl, hhl⟩ : ∃ hl, hl = H.length := ⟨_, rfl⟩
  rw [← hhl] at hg hHl HQ ⊢
  have HW := Lib.hid (And.intro hW hv)
  have HK := Lib.hid K1
  have b0 : Below w.heap.size w w.drew := (Drawn.mk w 1).below _
  have z0 := HS.out _ b0
  obtain ⟨z1, z2, _⟩ := z0
  clear hW hv K K1 b N hH hhl hroom hB hlim
  go_enter Tryz.func36, Tryz.ntmps36
  go_wp2_with fail
  clear c0 d3 d4
  go_region_law (first
    | (go_simp; go_at_call 63; refine Calls.mono (HF.out _ (by assumption)) ?_; rintro e w13 ⟨⟨fb, be, ce, bl, rfl, ff⟩, rfl⟩)
    | (go_simp; go_at_call 30; refine Calls.mono (HBt.out _ (by assumption)) ?_; rintro e w14 ⟨rfl, b14, b14'⟩; obtain ⟨y1, y2, _⟩ := HS.out _ b14)
    | (go_simp; go_at_call 65; refine Calls.mono (HQ.out _ _ _ _ _ (by assumption) (by first | assumption | exact ff.below M.lo (by assumption))) ?_; rintro e w1 ⟨a', c', rfl, q1, b15⟩; obtain ⟨_, _, y3, y4⟩ := HS.out _ b15))
  all_goals
    have hW1 : wordAt w1 wb d p sv (.slice a1 (L + 1) c1) q := (b15.block _ (lt_of_block HW.out.1)).trans HW.out.1
    have HE : Hid (wordAt (w1.setCell ⟨wb, 4, none⟩ (.slice a' hl c')) wb d p sv (.slice a1 (L + 1) c1) (.slice a' hl c') ∧ RowZ (w1.setCell ⟨wb, 4, none⟩ (.slice a' hl c')) a' hl c' (intsN H) ∧ Tn [wb] w (w1.setCell ⟨wb, 4, none⟩ (.slice a' hl c')) [wb]) :=
      ⟨heap_setCell_same _ _ 4 _ _ _ hW1, rowz_store hW1 HW.out.2 q1, (Tn.below b15).trans (Tn.setCell w1 _ _ (by simp))⟩
    have em : (w1.setCell ⟨wb, 4, none⟩ (.slice a' hl c')).cell? ⟨1, 0, none⟩ = some (errOf ym) := by
      have h1 := (HK.out.many.below b15).1
      unfold Sent at h1
      unfold World.cell? at h1 ⊢
      simp only at h1 ⊢
      rw [Below.heap_setCell _ _ _ _ HNE.out]
      exact h1
    clear b15 y3 y4 q1 hW1
    generalize w1.setCell ⟨wb, 4, none⟩ (.slice a' hl c') = W2 at HE em ⊢
    obtain ⟨_, _, _, k3, k4, _⟩ := HE.out.1.cells
    go_wp2_with fail
    go_quiet (fail)
    have HE2 : Hid (wordAt (W2.drewN nq) wb d p sv (.slice a1 (L + 1) c1) (.slice a' hl c') ∧ RowZ (W2.drewN nq) a' hl c' (intsN H) ∧ Tn [wb] w (W2.drewN nq) [wb]) :=
      ⟨HE.out.1, HE.out.2.1.below ((Drawn.mk W2 nq).below _), HE.out.2.2.trans (Tn.below ((Drawn.mk W2 nq).below _))⟩
    replace em : (W2.drewN nq).cell? ⟨1, 0, none⟩ = some (errOf ym) := em
    clear k3 k4 HE
    generalize W2.drewN nq = W3 at HE2 em ⊢
    by_cases hgd : hl = L
    · have hg1 : good = true := by rw [hg]; exact decide_eq_true hgd
      have HG := Lib.hid hg1
      clear hg hg1
      subst hgd
      go_wp2_with fail
      go_ret
      exact .inl ⟨HG.out, rfl, a', c', HE2.out⟩
    · have hg1 : good = false := by rw [hg]; exact decide_eq_false hgd
      have y5 : ((hl : Int) == (L : Int)) = false := by simp; omega
      have y6 : (hl == L) = false := by simp [hgd]
      have y7 : ¬ ((hl : Int) = (L : Int)) := by omega
      have HG := Lib.hid (And.intro hg1 HE2.out.2.2)
      clear hg hg1 hgd
      go_wp2_with fail
      go_ret
      exact .inr ⟨HG.out.1, rfl, HG.out.2⟩
end
end Go.Proofs.YthmfneepnkgmgaaGreatDoor.Dec
/- Flip's answers lie apart. By the verifier of shale. -/
namespace Go.Proofs.YthmfneepnkgmgaaGreatDoor.Enc
open Go Go.RowKit Bin Cos
set_option linter.unusedVariables false
/-- a turned word, data and parity apart. -/
def FlipAp (D n P k vl vq : Nat) (w : World) (e : Ending) (w' : World) : Prop :=
  FlipAt D n P k vl vq w e w' ∧ ∀ a1 c1 a2 c2, e = .returned (.tuple #[.slice a1 n c1, .slice a2 P c2, .nilIface]) → ∀ x y, a1 = some x → a2 = some y → x.block ≠ y.block
theorem flip_ap {D n P k vl vq : Nat} {w w' : World} {a1 a2 : Option Addr} {c1 c2 : Nat} (h : FlipAt D n P k vl vq w (.returned (.tuple #[.slice a1 n c1, .slice a2 P c2, .nilIface])) w') (h2 : ∀ x y, a1 = some x → a2 = some y → x.block ≠ y.block) : FlipAp D n P k vl vq w (.returned (.tuple #[.slice a1 n c1, .slice a2 P c2, .nilIface])) w' := by
  refine ⟨h, fun b1 k1 b2 k2 e x y hx hy => ?_⟩
  simp only [Ending.returned.injEq, Value.tuple.injEq, Array.mk.injEq, List.cons.injEq, Value.slice.injEq] at e
  obtain ⟨⟨rfl, _⟩, ⟨rfl, _⟩, _⟩ := e
  exact h2 x y hx hy
section
variable {m : Nat} [M : Pl.Mid m]
attribute [local go_sem] Bits32.bxor Bits32.bxor_bit
set_option maxRecDepth 100000 in
set_option maxHeartbeats 2000000 in
theorem flip_apart {t n : Nat} (ht : 1 ≤ t) (ht2 : t ≤ 40) (w : World) (s : Nat) (h : CodeAt m t n w s) (a : Option Addr) (cap : Nat) (l : List (BitVec 8)) (hl : Pol w a n cap l) (hn : n ≤ 2048) (a' : Option Addr) (cap' : Nat) (q : List (BitVec 8)) (hq : Pol w a' (pb (deg m t)) cap' q) (k : Nat) (hk : k < 8 * n + deg m t) :
    Calls Tryz.prog 26 #[.pointer (some ⟨s, 0, none⟩), .slice a n cap, .slice a' (pb (deg m t)) cap', .int .i64 (k : Int)] w (FlipAp (deg m t) n (pb (deg m t)) k (val l) (val q) w) := by
  have hd := deg_560 (m := m) ht2
  have hd1 := deg_pos M.lo ht
  have HPB := Lib.hid (parityB_any w s h ht2)
  have HBT := Lib.hid (bits_code w s h hn ht2)
  have hsl := h.lt
  obtain ⟨f, be, ce, bl, ga, gn, gc, lb, tb, h1, _⟩ := h
  obtain ⟨c0, c1, c2, c3, c4, c5, c6, cf⟩ := code_cells h1
  have HC := Lib.hid h1
  obtain ⟨D, hD⟩ : ∃ D, D = deg m t := ⟨_, rfl⟩
  obtain ⟨P, hP⟩ : ∃ P, P = pb D := ⟨_, rfl⟩
  have hP2 : P = (D + 7) / 8 := hP
  rw [← hD] at hd hd1 HPB HBT c3 HC hq hk ⊢
  rw [← hP] at HPB hq ⊢
  have HPP := Lib.hid hP2
  have tk : ¬ (k : Int) < 0 := by omega
  have tb' : ¬ ((8 * n + D : Nat) : Int) ≤ (k : Int) := by omega
  obtain ⟨B, hB⟩ : ∃ B, B = 8 * n + D := ⟨_, rfl⟩
  rw [← hB] at tb' HBT hk
  have HBB := Lib.hid hB
  have HL := Lib.hid hl
  have HQ := Lib.hid hq
  have q1 : (D : Int) ≤ 560 := by omega
  have k1 : k ≤ 20000 := by omega
  clear h1 c0 c1 c4 c5 c6 cf hD hP hP2 hB hl hq
  go_enter Tryz.func26, Tryz.ntmps26
  go_wp2_with fail
  refine HPB.out.mono ?_
  rintro e w' ⟨rfl, rfl⟩
  go_wp2_with fail
  refine HBT.out.mono ?_
  rintro e w1 ⟨rfl, hd1'⟩
  have b1 := hd1'.below w.heap.size
  replace HC := Lib.hid ((b1.block s hsl).trans HC.out)
  replace HL := Lib.hid (HL.out.below b1)
  replace HQ := Lib.hid (HQ.out.below b1)
  have hs1 := b1.size
  clear hd1' HPB HBT c2 c3
  go_wp2_with fail
  refine (clone_any a n cap l w1 HL.out (by omega)).mono ?_
  rintro e w2 ⟨ax, cx, rfl, hN1, b2⟩
  go_wp2_with fail
  refine (clone_any a' P cap' q w2 (HQ.out.below b2) (by have := HPP.out; omega)).mono ?_
  rintro e w3 ⟨ay, cy, rfl, hN2, b3⟩
  have b23 := b2.trans (b3.mono b2.size)
  obtain ⟨c0, c1, c2, c3, c4, c5, c6, cf⟩ := code_cells ((b23.block s (by omega)).trans HC.out)
  clear c0 c1 c2 c4 c5 c6 cf
  have hs2 := b2.size
  have hB3 := b1.trans (b23.mono hs1)
  by_cases hkD : k < D
  · have tD : (k : Int) < (D : Int) := by omega
    obtain ⟨g, rfl, hgl, hBf⟩ := newP_block hN2 (by have := HPP.out; omega)
    have hlq := hN2.hlen
    have hi : k / 8 < P := by have := HPP.out; omega
    have x1 : (k : Int) / 8 < (P : Int) := by omega
    have x0 : (0 : Int) ≤ (k : Int) := by omega
    have d1 := hBf.cell (k / 8) (by omega)
    have d2 := hBf.free (k / 8)
    have hset := hBf.set (k / 8) (by omega) (nth8 q (k / 8) ^^^ BitVec.twoPow 8 (k % 8))
    have hv := val_turn q k (by omega)
    have o4 := Only.setCell w3 ⟨g, k / 8, none⟩ (.int .u8 (Bits32.b (nth8 q (k / 8) ^^^ BitVec.twoPow 8 (k % 8))))
    have HE : Hid (FlipAt D n P k (val l) (val q) w (.returned (.tuple #[.slice ax n cx, .slice (some ⟨g, 0, none⟩) P cy, .nilIface])) (w3.setCell ⟨g, k / 8, none⟩ (.int .u8 (Bits32.b (nth8 q (k / 8) ^^^ BitVec.twoPow 8 (k % 8))))).drew) := by
      refine ⟨ax, cx, l, _, cy, q.set (k / 8) (nth8 q (k / 8) ^^^ BitVec.twoPow 8 (k % 8)), rfl, ⟨hN1.hlen, hN1.hcap, hN1.hmost, ?_⟩, ⟨by rw [List.length_set]; exact hN2.hlen, hN2.hcap, hN2.hmost, Or.inr ⟨g, rfl, by omega, buf_drew hset⟩⟩, by rw [if_pos hkD, Nat.xor_zero], by rw [if_pos hkD]; exact hv, (hB3.trans (o4.below (by show _ ≤ g; omega))).drew⟩
      rcases hN1.own with h | ⟨gx, e, hgx, hx⟩
      · exact Or.inl h
      · refine Or.inr ⟨gx, e, by omega, buf_drew (buf_only (hx.below b3 hx.lt) o4 (by show gx ≠ g; have := hx.lt; omega))⟩
    have HAP : Hid (∀ x y, ax = some x → (some ⟨g, 0, none⟩ : Option Addr) = some y → x.block ≠ y.block) := by
      intro x y hx hy
      cases hy
      rcases hN1.own with ⟨h, _⟩ | ⟨gx, e, _, hb⟩
      · rw [h] at hx; cases hx
      · rw [e] at hx
        cases hx
        have := hb.lt
        show gx ≠ g
        omega
    clear hN1 hN2 hBf hset hv o4 b2 b3 b23 hB3 HL HQ HC hlq
    go_wp2_with fail
    go_region
    go_wp2_with fail
    go_ret3
    exact flip_ap HE.out HAP.out
  · have tD : ¬ (k : Int) < (D : Int) := by omega
    obtain ⟨j, hj⟩ : ∃ j, j = k - D := ⟨_, rfl⟩
    have ej : (k : Int) - (D : Int) = (j : Int) := by omega
    obtain ⟨g, rfl, hgl, hBf0⟩ := newP_block hN1 (by have := HBB.out; omega)
    have hBf := hBf0.below b3 hBf0.lt
    have hlq := hN1.hlen
    have hi : j / 8 < n := by have := HBB.out; omega
    have x1 : (j : Int) / 8 < (n : Int) := by omega
    have x0 : (0 : Int) ≤ (j : Int) := by omega
    have xj : (j : Int) ≤ 100000 := by omega
    have d1 := hBf.cell (j / 8) (by omega)
    have d2 := hBf.free (j / 8)
    have hset := hBf.set (j / 8) (by omega) (nth8 l (j / 8) ^^^ BitVec.twoPow 8 (j % 8))
    have hv := val_turn l j (by omega)
    have o4 := Only.setCell w3 ⟨g, j / 8, none⟩ (.int .u8 (Bits32.b (nth8 l (j / 8) ^^^ BitVec.twoPow 8 (j % 8))))
    have hglt := hBf0.lt
    have HE : Hid (FlipAt D n P k (val l) (val q) w (.returned (.tuple #[.slice (some ⟨g, 0, none⟩) n cx, .slice ay P cy, .nilIface])) (w3.setCell ⟨g, j / 8, none⟩ (.int .u8 (Bits32.b (nth8 l (j / 8) ^^^ BitVec.twoPow 8 (j % 8))))).drew) := by
      refine ⟨_, cx, l.set (j / 8) (nth8 l (j / 8) ^^^ BitVec.twoPow 8 (j % 8)), ay, cy, q, rfl, ⟨by rw [List.length_set]; exact hN1.hlen, hN1.hcap, hN1.hmost, Or.inr ⟨g, rfl, by omega, buf_drew hset⟩⟩, ⟨hN2.hlen, hN2.hcap, hN2.hmost, ?_⟩, by rw [if_neg hkD, ← hj]; exact hv, by rw [if_neg hkD, Nat.xor_zero], (hB3.trans (o4.below (by show _ ≤ g; omega))).drew⟩
      rcases hN2.own with h | ⟨gx, e, hgx, hx⟩
      · exact Or.inl h
      · refine Or.inr ⟨gx, e, by omega, buf_drew (buf_only hx o4 (by show gx ≠ g; omega))⟩
    have HAP : Hid (∀ x y, (some ⟨g, 0, none⟩ : Option Addr) = some x → ay = some y → x.block ≠ y.block) := by
      intro x y hx hy
      cases hx
      rcases hN2.own with ⟨h, _⟩ | ⟨gx, e, hgx, _⟩
      · rw [h] at hy; cases hy
      · rw [e] at hy
        cases hy
        show g ≠ gx
        omega
    clear hN1 hN2 hBf hBf0 hset hv o4 b2 b3 b23 hB3 HL HQ HC hlq hj
    go_wp2_with fail
    go_region
    go_wp2_with fail
    go_ret3
    exact flip_ap HE.out HAP.out
end
end Go.Proofs.YthmfneepnkgmgaaGreatDoor.Enc
