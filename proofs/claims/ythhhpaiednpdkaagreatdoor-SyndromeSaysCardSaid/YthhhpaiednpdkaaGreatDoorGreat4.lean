/- Texts of the verifier of shale, laid into one: EncMade, EncMade2, SynMade, SynFit, SynMath, SynSum, SynOps, SynOf, SynFits, EncFirst, EncLaw, EncTurn, SynFirst, SynAdd, SynLaw, SynRef, SynRef2, SynRef3, SynRef4, SynBad, SynPlaces, SynTurn, EncRFlip, SynSay, Args. -/
import Derived.Test.YthhhpaiednpdkaaGreatDoorGreat1
import Derived.Test.YthhhpaiednpdkaaGreatDoorGreat2
import Derived.Test.YthhhpaiednpdkaaGreatDoorGreat3
import Derived.Laws.CopyOwn
import Derived.Lib.QuietBelow
import Derived.Deep.Cut
import Derived.Maps.RangeWalk
import Derived.Deep.Fields
import Derived.ChangeArms
import Derived.WideShapes
import Derived.ProofKit
import Derived.ChangeOld
/- The codes that the statements of chapter 6 make: what New refuses; made. By the verifier of shale. -/
namespace Go.Proofs.YthhhpaiednpdkaaGreatDoor.Enc
open Go Go.RowKit Bin Cos
set_option linter.unusedVariables false
section
variable {m : Nat} [M : Pl.Mid m]
/-- data of a length that may be, but there is no such code. -/
structure MayNot (m t n : Nat) : Prop where
  t1 : 1 ≤ t
  t2 : t ≤ 40
  n1 : 1 ≤ n
  n2 : n ≤ 2048
  no : sz m ≤ deg m t ∨ sz m < 8 * n + deg m t
theorem may_or (m t n : Nat) (t1 : 1 ≤ t) (t2 : t ≤ 40) (n1 : 1 ≤ n) (n2 : n ≤ 2048) : May m t n ∨ MayNot m t n := by
  by_cases h1 : sz m ≤ deg m t
  · exact Or.inr ⟨t1, t2, n1, n2, Or.inl h1⟩
  · by_cases h2 : sz m < 8 * n + deg m t
    · exact Or.inr ⟨t1, t2, n1, n2, Or.inr h2⟩
    · exact Or.inl ⟨t1, t2, n1, n2, by omega, by omega⟩
set_option maxRecDepth 100000 in
set_option maxHeartbeats 1000000 in
theorem new_no {t n : Nat} (H : MayNot m t n) (w : World) (y : Addr) (E : ErrAt w 2 y) :
    Calls Tryz.prog 20 #[.int .i64 (m : Int), .int .i64 (t : Int), .int .i64 (n : Int)] w fun e w' => e = .returned (.tuple #[.pointer none, errOf y]) ∧ Below w.heap.size w w' := by
  have ho := Fld.shl_one m M.hi
  have hn7 := sz_lo M.lo
  have hn2 := sz_hi M.hi
  have hw : IntKind.i64.wrap ((Fld.els m : Int) - 1) = (sz m : Int) := by
    have : (Fld.els m : Int) - 1 = (sz m : Int) := by unfold Fld.els sz; have := Nat.two_pow_pos m; omega
    rw [this]; exact IntWalk.i64_in _ (by omega)
  have hm1 := M.lo
  have hm14 := M.hi
  have m0 : (0 : Int) ≤ (m : Int) := by omega
  have m64 : (m : Int) ≤ 14 := by omega
  have n1 : ¬ (n : Int) < 1 := by have := H.n1; omega
  have n2 : ¬ (2048 : Int) < (n : Int) := by have := H.n2; omega
  have n3 : n ≤ 2048 := H.n2
  have hD2 := deg_560 (m := m) H.t2
  obtain ⟨D, hD⟩ : ∃ D, D = deg m t := ⟨_, rfl⟩
  have HDE := Lib.hid hD
  rw [← hD] at hD2
  obtain ⟨N, hN⟩ : ∃ N, N = sz m := ⟨_, rfl⟩
  have HNE := Lib.hid hN
  rw [← hN] at hw hn7 hn2
  have HH := Lib.hid H
  clear hD hN H
  go_enter Tryz.func20, Tryz.ntmps20
  go_wp2_with fail
  refine (least_any m t M.lo M.hi HH.out.t1 HH.out.t2 w y E).mono ?_
  rintro e w1 (⟨hd, rfl, B⟩ | ⟨hd, rfl, B⟩)
  · rw [show dgs m (leads m 1 2 t) = D from HDE.out.symm]
    have hroom : (N : Int) < 8 * (n : Int) + (D : Int) := by
      have h1 := HDE.out
      have h2 := HNE.out
      have h3 : deg m t < sz m := hd
      rcases HH.out.no with h | h <;> omega
    have e1 := (E.below B).1
    unfold Sent at e1
    clear hd E
    go_wp2_with fail
    go_quiet (fail)
    have hd2 := B.trans ((Drawn.mk w1 nq).below w.heap.size)
    generalize w1.drewN nq = w5 at hd2 ⊢
    clear e1
    go_wp2_with fail
    go_ret2
    exact ⟨rfl, hd2⟩
  · clear hd E
    go_wp2_with fail
    go_ret2
    exact ⟨rfl, B⟩
set_option maxRecDepth 100000 in
set_option maxHeartbeats 1000000 in
theorem rnew_no {t n : Nat} (H : MayNot m t n) (w : World) :
    Calls Tryz.prog 21 #[.int .i64 (m : Int), .int .i64 (t : Int), .int .i64 (n : Int)] w fun e w' => e = .returned (.tuple #[cdZ, .int .i64 105]) ∧ Below w.heap.size w w' := by
  have ho := Fld.shl_one m M.hi
  have hn7 := sz_lo M.lo
  have hn2 := sz_hi M.hi
  have hw : IntKind.i64.wrap ((Fld.els m : Int) - 1) = (sz m : Int) := by
    have : (Fld.els m : Int) - 1 = (sz m : Int) := by unfold Fld.els sz; have := Nat.two_pow_pos m; omega
    rw [this]; exact IntWalk.i64_in _ (by omega)
  have hm1 := M.lo
  have hm14 := M.hi
  have m0 : (0 : Int) ≤ (m : Int) := by omega
  have m64 : (m : Int) ≤ 14 := by omega
  have n1 : ¬ (n : Int) < 1 := by have := H.n1; omega
  have n2 : ¬ (2048 : Int) < (n : Int) := by have := H.n2; omega
  have n3 : n ≤ 2048 := H.n2
  have hD2 := deg_560 (m := m) H.t2
  obtain ⟨D, hD⟩ : ∃ D, D = deg m t := ⟨_, rfl⟩
  have HDE := Lib.hid hD
  rw [← hD] at hD2
  obtain ⟨N, hN⟩ : ∃ N, N = sz m := ⟨_, rfl⟩
  have HNE := Lib.hid hN
  rw [← hN] at hw hn7 hn2
  have HH := Lib.hid H
  have b0 : Below w.heap.size w (w.alloc (cdO (.int .i64 0) (.int .i64 0) (.int .i64 0) (.slice none 0 0) (.int .i64 0))) := (Below.refl _ _).alloc (Nat.le_refl _) _
  have hz : w.heap.size < (w.alloc (cdO (.int .i64 0) (.int .i64 0) (.int .i64 0) (.slice none 0 0) (.int .i64 0))).heap.size := by simp
  have hblk : (w.alloc (cdO (.int .i64 0) (.int .i64 0) (.int .i64 0) (.slice none 0 0) (.int .i64 0))).heap[w.heap.size]? = some (cdO (.int .i64 0) (.int .i64 0) (.int .i64 0) (.slice none 0 0) (.int .i64 0)) := heap_alloc_new w _
  have HI := Lib.hid (And.intro b0 (And.intro hz hblk))
  clear hD hN H b0 hz hblk
  go_enter Tryz.func21, Tryz.ntmps21
  go_wp2_with fail
  obtain ⟨b0, hz, hblk⟩ := HI.out
  clear HI
  rw [show Obj.cells #[Value.int IntKind.i64 0, Value.int IntKind.i64 0, Value.int IntKind.i64 0, Value.slice none 0 0, Value.int IntKind.i64 0] 27 (0, 0) = cdO (.int .i64 0) (.int .i64 0) (.int .i64 0) (.slice none 0 0) (.int .i64 0) from rfl]
  generalize w.alloc (cdO (.int .i64 0) (.int .i64 0) (.int .i64 0) (.slice none 0 0) (.int .i64 0)) = w0 at b0 hz hblk ⊢
  refine (rleast_any m t M.lo M.hi HH.out.t1 HH.out.t2 w0).mono ?_
  rintro e w1 (⟨hd, a1, n1', c1, rfl, R, B⟩ | ⟨hd, rfl, B⟩)
  · have hroom : (N : Int) < 8 * (n : Int) + (D : Int) := by
      have h1 := HDE.out
      have h2 := HNE.out
      have h3 : deg m t < sz m := hd
      rcases HH.out.no with h | h <;> omega
    rw [show dgs m (leads m 1 2 t) = D from HDE.out.symm]
    have B1 := b0.trans (B.mono b0.size)
    have hb1 := (B.block _ hz).trans hblk
    obtain ⟨c0, c1', c2, c3, c4, cf⟩ := cd_cells hb1
    clear hd R B b0 hblk hz hb1
    go_wp2_with fail
    exact bodyPost_ret (v := .tuple #[cdZ, .int .i64 105]) (by simp [results, Tryz.results21, go_sem, c0, c1', c2, c3, c4]) rfl ⟨rfl, ((((B1.setCell (p := ⟨w.heap.size, 0, none⟩) (Nat.le_refl _) _).setCell (p := ⟨w.heap.size, 1, none⟩) (Nat.le_refl _) _).setCell (p := ⟨w.heap.size, 2, none⟩) (Nat.le_refl _) _).setCell (p := ⟨w.heap.size, 3, none⟩) (Nat.le_refl _) _).setCell (p := ⟨w.heap.size, 4, none⟩) (Nat.le_refl _) _⟩
  · have B1 := b0.trans (B.mono b0.size)
    have hb1 := (B.block _ hz).trans hblk
    obtain ⟨c0, c1', c2, c3, c4, cf⟩ := cd_cells hb1
    clear hd B b0 hblk hz hb1
    go_wp2_with fail
    exact bodyPost_ret (v := .tuple #[cdZ, .int .i64 105]) (by simp [results, Tryz.results21, go_sem, c0, c1', c2, c3, c4]) rfl ⟨rfl, ((((B1.setCell (p := ⟨w.heap.size, 0, none⟩) (Nat.le_refl _) _).setCell (p := ⟨w.heap.size, 1, none⟩) (Nat.le_refl _) _).setCell (p := ⟨w.heap.size, 2, none⟩) (Nat.le_refl _) _).setCell (p := ⟨w.heap.size, 3, none⟩) (Nat.le_refl _) _).setCell (p := ⟨w.heap.size, 4, none⟩) (Nat.le_refl _) _⟩
end
end Go.Proofs.YthhhpaiednpdkaaGreatDoor.Enc
/- made: the code that a statement of chapter 6 makes of any numbers. By the verifier of shale. -/
namespace Go.Proofs.YthhhpaiednpdkaaGreatDoor.Enc
open Go Go.RowKit Bin Cos
set_option linter.unusedVariables false
/-- the numbers that a statement makes of any. -/
def mkM (z : Int) : Nat := (z % 5).toNat + 6
def mkT (z : Int) : Nat := (z % 6).toNat + 1
def mkN (z : Int) : Nat := (z % 24).toNat + 1
instance (z : Int) : Pl.Mid (mkM z) := ⟨by unfold mkM; omega, by unfold mkM; omega⟩
instance mid8 : Pl.Mid 8 := ⟨by decide, by decide⟩
theorem mkM_go (z : Int) : z.tmod 5 % 5 + 6 = (mkM z : Int) := by
  unfold mkM
  have : z.tmod 5 % 5 = z % 5 := by rw [Int.tmod_eq_emod]; split <;> omega
  omega
theorem mkT_go (z : Int) : z.tmod 6 % 6 + 1 = (mkT z : Int) := by
  unfold mkT
  have : z.tmod 6 % 6 = z % 6 := by rw [Int.tmod_eq_emod]; split <;> omega
  omega
theorem mkN_go (z : Int) : z.tmod 24 % 24 + 1 = (mkN z : Int) := by
  unfold mkN
  have : z.tmod 24 % 24 = z % 24 := by rw [Int.tmod_eq_emod]; split <;> omega
  omega
theorem tmod_bounds (z : Int) (k : Nat) (h : 0 < k) : -(k : Int) < z.tmod k ∧ z.tmod k < k := by
  have a1 := Int.tmod_lt_of_pos z (b := (k : Int)) (by omega)
  have a2 := Int.tmod_lt_of_pos (-z) (b := (k : Int)) (by omega)
  rw [Int.neg_tmod] at a2
  omega
theorem may8 : May 8 2 9 := ⟨by decide, by decide, by decide, by decide, by decide +kernel, by decide +kernel⟩
/-- both codes, and what they are. -/
def BothAt (w : World) (e : Ending) (w' : World) : Prop :=
  ∃ (m t n : Nat) (M : Pl.Mid m) (s : Nat) (ga : Option Addr) (gn gc : Nat), 6 ≤ m ∧ m ≤ 10 ∧ t ≤ 6 ∧ n ≤ 24 ∧ May m t n ∧ e = .returned (.tuple #[.pointer (some ⟨s, 0, none⟩), cdV m t n ga gn gc (deg m t), .bool true]) ∧
    CodeAt m t n w' s ∧ BarV w' ga gn gc (gen m t) ∧ Below w.heap.size w w'
theorem setCd {w : World} {s : Nat} {a b c d e : Value} (h : w.heap[s]? = some (cdO a b c d e)) (a' b' c' d' e' : Value) : (((((w.setCell ⟨s, 0, none⟩ a').setCell ⟨s, 1, none⟩ b').setCell ⟨s, 2, none⟩ c').setCell ⟨s, 3, none⟩ d').setCell ⟨s, 4, none⟩ e').heap[s]? = some (cdO a' b' c' d' e') := by
  have hlt := lt_of_block h
  have step : ∀ (w : World) (i : Nat) (v : Value) (cs : Array Value), w.heap[s]? = some (.cells cs 27 (0, 0)) → (w.setCell ⟨s, i, none⟩ v).heap[s]? = some (.cells (cs.setIfInBounds i v) 27 (0, 0)) := by
    intro w i v cs h
    have hlt := lt_of_block h
    have h' : w.heap[s] = .cells cs 27 (0, 0) := by simpa [Array.getElem?_eq_getElem hlt] using h
    show (w.heap.modify s _)[s]? = _
    rw [Array.getElem?_eq_getElem (by simpa using hlt), Array.getElem_modify_self, h']
    rfl
  have h1 := step _ 4 e' _ (step _ 3 d' _ (step _ 2 c' _ (step _ 1 b' _ (step _ 0 a' _ h))))
  exact h1
theorem onlyCd (w : World) (s : Nat) (a' b' c' d' e' : Value) : Only s w (((((w.setCell ⟨s, 0, none⟩ a').setCell ⟨s, 1, none⟩ b').setCell ⟨s, 2, none⟩ c').setCell ⟨s, 3, none⟩ d').setCell ⟨s, 4, none⟩ e') :=
  ((((Only.setCell w ⟨s, 0, none⟩ a').trans (Only.setCell _ ⟨s, 1, none⟩ b')).trans (Only.setCell _ ⟨s, 2, none⟩ c')).trans (Only.setCell _ ⟨s, 3, none⟩ d')).trans (Only.setCell _ ⟨s, 4, none⟩ e')
abbrev cd0 : Obj := cdO (.int .i64 0) (.int .i64 0) (.int .i64 0) (.slice none 0 0) (.int .i64 0)
theorem cd0_val {w : World} {s i : Nat} {v : Value} (hb : w.heap[s]? = some cd0) (h : w.cell? ⟨s, i, none⟩ = some v) : v = .int .i64 0 ∨ v = .slice none 0 0 := by
  unfold World.cell? at h
  simp only at h
  rw [hb] at h
  unfold cd0 cdO at h
  rcases (by omega : i = 0 ∨ i = 1 ∨ i = 2 ∨ i = 3 ∨ i = 4 ∨ 5 ≤ i) with rfl | rfl | rfl | rfl | rfl | h5
  · simp at h; exact Or.inl h.symm
  · simp at h; exact Or.inl h.symm
  · simp at h; exact Or.inl h.symm
  · simp at h; exact Or.inr h.symm
  · simp at h; exact Or.inl h.symm
  · obtain ⟨k, rfl⟩ : ∃ k, i = k + 5 := ⟨i - 5, by omega⟩
    simp at h
section
variable {m : Nat} [M : Pl.Mid m]
theorem FldAt_cd {w w' : World} {f be ce bl s : Nat} (h : Fld.FldAt m w f be ce bl) (o : Only s w w') (hb : w.heap[s]? = some cd0) : Fld.FldAt m w' f be ce bl := by
  have hsz : 1 < Fld.size m := by have := sz_lo M.lo; show 1 < sz m; omega
  have n1 : f ≠ s := by
    intro e
    have := h.1
    rw [e, hb] at this
    simp [cd0, cdO] at this
  have n2 : be ≠ s := by
    intro e
    have h1 := h.2.2.1 0 (by omega)
    rw [e] at h1
    rcases cd0_val hb h1 with h2 | h2
    · simp only [Value.int.injEq, true_and] at h2
      exact (Fld.pw_ne m M.lo M.hi 0).1 (Bits16.h_inj _ _ (h2.trans (by decide)))
    · cases h2
  have n3 : bl ≠ s := by
    intro e
    have h1 := h.2.2.2 (Fld.pw m 1) (Fld.pw_ne m M.lo M.hi 1).2
    rw [e, Fld.lg_pw m M.lo M.hi 1 hsz] at h1
    rcases cd0_val hb h1 with h2 | h2 <;> simp at h2
  exact ⟨(o.block f n1).trans h.1, h.2.1, fun i hi => (o.cell (p := ⟨be, i, none⟩) n2).trans (h.2.2.1 i hi), fun x hx => (o.cell (p := ⟨bl, _, none⟩) n3).trans (h.2.2.2 x hx)⟩
theorem pol_cd {w w' : World} {a : Option Addr} {n c s : Nat} {X : List (BitVec 8)} (h : Pol w a n c X) (o : Only s w w') (hb : w.heap[s]? = some cd0) : Pol w' a n c X := by
  refine ⟨h.hlen, h.hcap, h.hmost, h.hnil, ?_⟩
  by_cases h0 : n = 0
  · exact Or.inl h0
  · rcases h.hrow with h1 | ⟨bb, off, e, hr, hlt⟩
    · exact absurd h1 h0
    · have hne : bb ≠ s := by
        intro e2
        have h1 := hr 0 (by have := h.hlen; omega)
        rw [e2] at h1
        rcases cd0_val hb h1 with h2 | h2 <;> simp at h2
      exact Or.inr ⟨bb, off, e, hr.only o hne, by rw [o.size]; exact hlt⟩
theorem CodeAt.cd {t n : Nat} {w w' : World} {s b : Nat} (h : CodeAt m t n w s) (o : Only b w w') (hb : w.heap[b]? = some cd0) : CodeAt m t n w' s := by
  obtain ⟨f, be, ce, bl, ga, gn, gc, lb, tb, h1, h2, ⟨X, hX, h3⟩, h4, h5⟩ := h
  have n1 : s ≠ b := by
    intro e
    rw [e, hb] at h1
    simp [cd0, cdO, codeO] at h1
  have nU : ∀ g n R, Reg w g n R → g ≠ b := by
    intro g n R hR e
    have h : w.heap[g]? = some (objU (wl n R)) := hR
    rw [e, hb] at h
    simp [cd0, cdO, objU] at h
  refine ⟨f, be, ce, bl, ga, gn, gc, lb, tb, (o.block s n1).trans h1, FldAt_cd h2 o hb, ⟨X, pol_cd hX o hb, h3⟩, h4.only o (nU _ _ _ h4), fun x hx => ?_⟩
  obtain ⟨rb, c1, c2⟩ := h5 x hx
  have n2 : tb ≠ b := by
    intro e
    rw [e] at c1
    rcases cd0_val hb c1 with h2 | h2 <;> simp at h2
  exact ⟨rb, (o.cell (p := ⟨tb, x, none⟩) n2).trans c1, c2.only o (nU _ _ _ c2)⟩
end
end Go.Proofs.YthhhpaiednpdkaaGreatDoor.Enc
/- made: the code that a statement of chapter 7 makes of any numbers. By the verifier of shale. -/
namespace Go.Proofs.YthhhpaiednpdkaaGreatDoor.Enc
open Go Go.RowKit Bin Cos
set_option linter.unusedVariables false
/-- the numbers that a statement makes of any. -/
def mkM7 (z : Int) : Nat := (z % 4).toNat + 6
def mkT7 (z : Int) : Nat := (z % 5).toNat + 1
def mkN7 (z : Int) : Nat := (z % 12).toNat + 1
instance (z : Int) : Pl.Mid (mkM7 z) := ⟨by unfold mkM7; omega, by unfold mkM7; omega⟩
instance mid7 : Pl.Mid 7 := ⟨by decide, by decide⟩
theorem may7 : May 7 2 5 := ⟨by decide, by decide, by decide, by decide, by decide +kernel, by decide +kernel⟩
theorem mkM7_go (z : Int) : z.tmod 4 % 4 + 6 = (mkM7 z : Int) := by
  unfold mkM7
  have : z.tmod 4 % 4 = z % 4 := by rw [Int.tmod_eq_emod]; split <;> omega
  omega
theorem mkT7_go (z : Int) : z.tmod 5 % 5 + 1 = (mkT7 z : Int) := by
  unfold mkT7
  have : z.tmod 5 % 5 = z % 5 := by rw [Int.tmod_eq_emod]; split <;> omega
  omega
theorem mkN7_go (z : Int) : z.tmod 12 % 12 + 1 = (mkN7 z : Int) := by
  unfold mkN7
  have : z.tmod 12 % 12 = z % 12 := by rw [Int.tmod_eq_emod]; split <;> omega
  omega
set_option maxRecDepth 100000 in
set_option maxHeartbeats 2000000 in
theorem made7_any (z1 z2 z3 : Int) (w : World) (y : Addr) (E : ErrAt w 2 y) :
    Calls Tryz.prog 5 #[.int .i64 z1, .int .i64 z2, .int .i64 z3] w (BothAt w) := by
  obtain ⟨a1, a2⟩ := (show -4 < z1.tmod 4 ∧ z1.tmod 4 < 4 from tmod_bounds z1 4 (by decide))
  obtain ⟨a3, a4⟩ := (show -5 < z2.tmod 5 ∧ z2.tmod 5 < 5 from tmod_bounds z2 5 (by decide))
  obtain ⟨a5, a6⟩ := (show -12 < z3.tmod 12 ∧ z3.tmod 12 < 12 from tmod_bounds z3 12 (by decide))
  have HE0 := Lib.hid E
  have HQ1 := Lib.hid (mkM7_go z1)
  have HQ2 := Lib.hid (mkT7_go z2)
  have HQ3 := Lib.hid (mkN7_go z3)
  have l1 : 6 ≤ mkM7 z1 ∧ mkM7 z1 ≤ 10 := by unfold mkM7; omega
  have l2 : 1 ≤ mkT7 z2 ∧ mkT7 z2 ≤ 6 := by unfold mkT7; omega
  have l3 : 1 ≤ mkN7 z3 ∧ mkN7 z3 ≤ 24 := by unfold mkN7; omega
  have HL := Lib.hid (And.intro l1 (And.intro l2 l3))
  have HM := Lib.hid (may_or (mkM7 z1) (mkT7 z2) (mkN7 z3) (by omega) (by omega) (by omega) (by omega))
  clear l1 l2 l3
  go_enter Tryz.func5, Tryz.ntmps5
  go_wp2_with fail
  rw [HQ1.out, HQ2.out, HQ3.out]
  have b0 : Below w.heap.size w (w.alloc cd0) := (Below.refl _ _).alloc (Nat.le_refl _) _
  have hz : (w.alloc cd0).heap.size = w.heap.size + 1 := by simp
  have hblk : (w.alloc cd0).heap[w.heap.size]? = some cd0 := heap_alloc_new w _
  rw [show Obj.cells #[Value.int IntKind.i64 0, Value.int IntKind.i64 0, Value.int IntKind.i64 0, Value.slice none 0 0, Value.int IntKind.i64 0] 27 (0, 0) = cd0 from rfl]
  generalize w.alloc cd0 = w0 at b0 hz hblk ⊢
  obtain ⟨bx, hbx⟩ : ∃ bx, bx = w.heap.size := ⟨_, rfl⟩
  rw [← hbx] at b0 hz hblk ⊢
  have HBX := Lib.hid hbx
  clear hbx a1 a2 a3 a4 a5 a6 HQ1 HQ2 HQ3
  obtain ⟨M, hM⟩ : ∃ M, M = mkM7 z1 := ⟨_, rfl⟩
  have HMid : Hid (Pl.Mid M) := by show Pl.Mid M; rw [hM]; exact inferInstance
  rw [← hM] at HL HM ⊢
  generalize mkT7 z2 = T at HL HM ⊢
  generalize mkN7 z3 = N at HL HM ⊢
  clear hM
  have HI := Lib.hid (And.intro b0 (And.intro hblk (E.below (by rw [← HBX.out]; exact b0))))
  clear b0 hblk E
  rcases HM.out with H | H
  · haveI := HMid.out
    refine (rnew_any (m := M) H w0).mono ?_
    rintro e w1 ⟨ga, gn, gc, rfl, hG, b1⟩
    go_wp2_with fail
    obtain ⟨b0, hblk, E⟩ := HI.out
    have e9 : w.heap.size = bx := HBX.out.symm
    have bA : Below w1.heap.size w1 (w1.alloc (cdO (.int .i64 (M : Int)) (.int .i64 (T : Int)) (.int .i64 (N : Int)) (.slice ga gn gc) (.int .i64 (deg M T : Int)))) := (Below.refl _ _).alloc (Nat.le_refl _) _
    have hq : (w1.alloc (cdO (.int .i64 (M : Int)) (.int .i64 (T : Int)) (.int .i64 (N : Int)) (.slice ga gn gc) (.int .i64 (deg M T : Int)))).heap[w1.heap.size]? = some (cdO (.int .i64 (M : Int)) (.int .i64 (T : Int)) (.int .i64 (N : Int)) (.slice ga gn gc) (.int .i64 (deg M T : Int))) := heap_alloc_new w1 _
    have hq2 : w1.heap.size < (w1.alloc (cdO (.int .i64 (M : Int)) (.int .i64 (T : Int)) (.int .i64 (N : Int)) (.slice ga gn gc) (.int .i64 (deg M T : Int)))).heap.size := by simp
    rw [show Obj.cells #[Value.int IntKind.i64 (M : Int), Value.int IntKind.i64 (T : Int), Value.int IntKind.i64 (N : Int), Value.slice ga gn gc, Value.int IntKind.i64 (deg M T : Int)] 27 (0, 0) = cdO (.int .i64 (M : Int)) (.int .i64 (T : Int)) (.int .i64 (N : Int)) (.slice ga gn gc) (.int .i64 (deg M T : Int)) from rfl]
    generalize w1.alloc (cdO (.int .i64 (M : Int)) (.int .i64 (T : Int)) (.int .i64 (N : Int)) (.slice ga gn gc) (.int .i64 (deg M T : Int))) = w2 at bA hq hq2 ⊢
    have hbs1 := b1.size
    have E2 := (E.below b1).below bA
    have hG2 := (newV_bar hG).below bA
    have hb2 := (bA.block bx (by omega)).trans ((b1.block bx (by omega)).trans hblk)
    have B2 : Below bx w w2 := (b0.trans (b1.mono (by omega))).trans (bA.mono (by omega))
    clear b0 hblk E b1 bA hG HI
    obtain ⟨bq, hbq⟩ : ∃ bq, bq = w1.heap.size := ⟨_, rfl⟩
    rw [← hbq] at hq hq2 hbs1 ⊢
    have hbxq : bx < bq := by omega
    clear hbq hbs1 hz
    refine (new_any (m := M) H w2 y E2).mono ?_
    rintro e w3 ⟨s, rfl, hC, b3, hs⟩
    have hq3 := (b3.block bq hq2).trans hq
    have hb3 := (b3.block bx (by omega)).trans hb2
    have hG3 := hG2.below b3
    have B3 := B2.trans (b3.mono (by omega))
    obtain ⟨c0, c1, c2, c3, c4, cf⟩ := cd_cells hq3
    obtain ⟨k0, k1, k2, k3, k4, kf⟩ := cd_cells hb3
    have HE := Lib.hid (And.intro hC (And.intro hG3 (And.intro B3 hs)))
    have HB3 := Lib.hid hb3
    clear hC hG3 B3 b3 hq hb2 hG2 B2 hq3 hb3 E2 cf
    go_wp2_with fail
    go_region
    go_wp2_with fail
    obtain ⟨hC, hG3, B3, hs3⟩ := HE.out
    have hb3 := HB3.out
    have o5 := onlyCd w3 bx (.int .i64 (M : Int)) (.int .i64 (T : Int)) (.int .i64 (N : Int)) (.slice ga gn gc) (.int .i64 (deg M T : Int))
    obtain ⟨X, hX, hX2⟩ := hG3
    obtain ⟨⟨l1, l2⟩, ⟨l3, l4⟩, l5, l6⟩ := HL.out
    exact bodyPost_ret (v := .tuple #[.pointer (some ⟨s, 0, none⟩), cdV M T N ga gn gc (deg M T), .bool true]) (by simp [results, Tryz.results5, go_sem, k0, k1, k2, k3, k4]) rfl ⟨M, T, N, HMid.out, s, ga, gn, gc, l1, l2, l4, l6, H, rfl, hC.cd o5.drew hb3, ⟨X, pol_cd hX o5.drew hb3, hX2⟩, by rw [e9]; exact (B3.trans (o5.below (Nat.le_refl _))).drew⟩
  · haveI := HMid.out
    refine (rnew_no (m := M) H w0).mono ?_
    rintro e wq ⟨rfl, bq⟩
    go_wp2_with fail
    obtain ⟨b0, hblk, E⟩ := HI.out
    have hqs := bq.size
    have bA0 : Below wq.heap.size wq (wq.alloc cd0) := (Below.refl _ _).alloc (Nat.le_refl _) _
    have hqn : (wq.alloc cd0).heap[wq.heap.size]? = some cd0 := heap_alloc_new wq _
    have hqz : (wq.alloc cd0).heap.size = wq.heap.size + 1 := by simp
    rw [show Obj.cells #[Value.int IntKind.i64 0, Value.int IntKind.i64 0, Value.int IntKind.i64 0, Value.slice none 0 0, Value.int IntKind.i64 0] 27 (0, 0) = cd0 from rfl]
    generalize wq.alloc cd0 = wr at bA0 hqn hqz ⊢
    have E0 := (E.below bq).below bA0
    have hblk0 := (bA0.block bx (by omega)).trans ((bq.block bx (by omega)).trans hblk)
    have b00 : Below bx w wr := (b0.trans (bq.mono (by omega))).trans (bA0.mono (by omega))
    obtain ⟨bz', hbz⟩ : ∃ bz', bz' = wq.heap.size := ⟨_, rfl⟩
    rw [← hbz] at hqn hqz ⊢
    have hbxz : bx < bz' := by omega
    clear HI b0 hblk E bq bA0 hbz hqs hz
    have HI := Lib.hid (And.intro b00 (And.intro hblk0 (And.intro E0 hqn)))
    clear b00 hblk0 E0 hqn
    refine (rnew_any (m := 7) may7 wr).mono ?_
    rintro e w2 ⟨ga, gn, gc, rfl, hG, b1⟩
    obtain ⟨b0, hblk, E, hqn⟩ := HI.out
    have hq := (b1.block bz' (by omega)).trans hqn
    obtain ⟨u0, u1, u2, u3, u4, uf⟩ := cd_cells hq
    have hs2 := b1.size
    clear hqn
    have HI2 := Lib.hid (And.intro b0 (And.intro hblk (And.intro E (And.intro hG (And.intro b1 hq)))))
    clear b0 hblk E hG b1 hq HI
    go_wp2_with fail
    obtain ⟨b0, hblk, E, hG, b1, hq⟩ := HI2.out
    have e9 : w.heap.size = bx := HBX.out.symm
    have o2 := onlyCd w2 bz' (.int .i64 7) (.int .i64 2) (.int .i64 5) (.slice ga gn gc) (.int .i64 (deg 7 2 : Int))
    have hq2 := setCd hq (.int .i64 7) (.int .i64 2) (.int .i64 5) (.slice ga gn gc) (.int .i64 (deg 7 2 : Int))
    clear u0 u1 u2 u3 u4 uf HI2
    generalize ((((w2.setCell ⟨bz', 0, none⟩ (.int .i64 7)).setCell ⟨bz', 1, none⟩ (.int .i64 2)).setCell ⟨bz', 2, none⟩ (.int .i64 5)).setCell ⟨bz', 3, none⟩ (.slice ga gn gc)).setCell ⟨bz', 4, none⟩ (.int .i64 (deg 7 2 : Int)) = w3 at o2 hq2 ⊢
    have bo := o2.below (B := bz') (Nat.le_refl _)
    have b03 : Below bx w w3 := (b0.trans (b1.mono (by omega))).trans (bo.mono (by omega))
    have E3 := HE0.out.below (by rw [e9]; exact b03)
    have hG3 : BarV w3 ga gn gc (gen 7 2) := newV_bar (newV_only hG o2 (by omega))
    have hb3 := (bo.block bx (by omega)).trans ((b1.block bx (by omega)).trans hblk)
    have hq3 : bz' < w3.heap.size := lt_of_block hq2
    clear b0 hblk E hG b1 hq o2 bo
    refine (new_any (m := 7) may7 w3 y E3).mono ?_
    rintro e w4 ⟨s, rfl, hC, b4, hs⟩
    have hq4 := (b4.block bz' hq3).trans hq2
    have hb4 := (b4.block bx (by omega)).trans hb3
    have hG4 := hG3.below b4
    have B4 := b03.trans (b4.mono (by omega))
    obtain ⟨c0, c1, c2, c3, c4, cf⟩ := cd_cells hq4
    obtain ⟨k0, k1, k2, k3, k4, kf⟩ := cd_cells hb4
    have HE := Lib.hid (And.intro hC (And.intro hG4 (And.intro B4 hs)))
    have HB3 := Lib.hid hb4
    clear hC hG4 B4 b4 hb3 hG3 b03 hq4 hb4 E3 cf hq2 hq3 hs2 hqz
    go_wp2_with fail
    go_region
    go_wp2_with fail
    obtain ⟨hC, hG3, B3, hs3⟩ := HE.out
    have hb3 := HB3.out
    have o5 := onlyCd w4 bx (.int .i64 7) (.int .i64 2) (.int .i64 5) (.slice ga gn gc) (.int .i64 (deg 7 2 : Int))
    obtain ⟨X, hX, hX2⟩ := hG3
    exact bodyPost_ret (v := .tuple #[.pointer (some ⟨s, 0, none⟩), cdV 7 2 5 ga gn gc (deg 7 2), .bool true]) (by simp [results, Tryz.results5, go_sem, k0, k1, k2, k3, k4]) rfl ⟨7, 2, 5, mid7, s, ga, gn, gc, by decide, by decide, by decide, by decide, may7, rfl, hC.cd o5.drew hb3, ⟨X, pol_cd hX o5.drew hb3, hX2⟩, by rw [e9]; exact (B3.trans (o5.below (Nat.le_refl _))).drew⟩
end Go.Proofs.YthhhpaiednpdkaaGreatDoor.Enc
/- fit: data of a code's length, as the statements of chapter 7 make it. By the verifier of shale. -/
namespace Go.Proofs.YthhhpaiednpdkaaGreatDoor.Enc
open Go Go.RowKit Bin Cos
set_option linter.unusedVariables false
set_option maxRecDepth 100000 in
set_option maxHeartbeats 1000000 in
theorem fit7_any (a : Option Addr) (nb cap : Nat) (b : List (BitVec 8)) (n : Nat) (hn : n ≤ 100000) (w : World) (hP : Pol w a nb cap b) :
    Calls Tryz.prog 8 #[.slice a nb cap, .int .i64 (n : Int)] w fun e w' => e = .returned (.slice (some ⟨w.heap.size, 0, none⟩) n n) ∧ Blk8 w' w.heap.size (fitL b n) ∧ Below w.heap.size w w' := by
  have hmk := made8 w n (by omega)
  have HB0 : Hid (Below w.heap.size w (w.alloc (obj8 (List.replicate n 0)))) := (Below.refl _ _).alloc (Nat.le_refl _) _
  have HCB : Hid ((w.alloc (obj8 (List.replicate n 0))).heap[w.heap.size]? = some (.cells (List.replicate n (Value.int .u8 0)).toArray 5 (0, 0))) := by
    show _ = _
    rw [heap_alloc_new]; unfold obj8; simp [Bits32.b]
  have HT : Hid (Pol w a (min nb n) cap (b.take n)) := by
    have h := hP.take (min nb n) (Nat.min_le_left _ _)
    have e : b.take (min nb n) = b.take n := by
      have := hP.hlen
      by_cases h1 : nb ≤ n
      · rw [Nat.min_eq_left h1, List.take_of_length_le (by omega), List.take_of_length_le (by omega)]
      · rw [Nat.min_eq_right (by omega)]
    rw [e] at h; exact h
  clear hP
  go_enter Tryz.func8, Tryz.ntmps8
  have hc1 : (cells8 (b.take n)).length = Nat.min nb n := by rw [cells8_length, ← HT.out.hlen]
  have hc2 : 0 + (cells8 (b.take n)).length ≤ (List.replicate n (Value.int .u8 0)).length := by rw [cells8_length, List.length_replicate, ← HT.out.hlen]; omega
  have hc3 : 0 < (cells8 (b.take n)).length → (some ⟨w.heap.size, 0, none⟩ : Option Addr) = some ⟨w.heap.size, 0, none⟩ ∧ ∃ ad, a = some ad ∧ ∀ j v, (cells8 (b.take n))[j]? = some v → (w.alloc (obj8 (List.replicate n 0))).cell? (ad.add j) = some v := fun h0 => ⟨rfl, arg_src HT.out _ HB0.out h0⟩
  have HC := Lib.hid (And.intro hc1 (And.intro hc2 hc3))
  clear hc1 hc2 hc3
  go_wp2_with ((with_reducible show wpList _ _ _ _ _ _); refine wpList_copy_splice (o := ⟨some 10, _, _, _, _, _⟩) rfl (.tmp 8) (.tmp 9) 22 22 rfl 5 Tryz.underlying22 size8 (some ⟨w.heap.size, 0, none⟩) a n n nb cap rfl rfl w.heap.size 0 (List.replicate n (.int .u8 0)) 5 HCB.out (cells8 (b.take n)) HC.out.1 HC.out.2.2 HC.out.2.1 (cells8_one _) w.heap.size w HB0.out (Nat.le_refl _) ?_; intro w2 hw2 hb2)
  have hX0 : Blk8 w2 w.heap.size (fitL b n) := by
    have := hw2.out
    rw [splice_fit] at this
    exact this
  have HX := Lib.hid hX0
  clear hw2 hmk hX0
  go_wp2_with fail
  go_ret
  exact ⟨rfl, HX.out, hb2⟩
end Go.Proofs.YthhhpaiednpdkaaGreatDoor.Enc
/- What is amiss, as numbers: the values of a word at the powers of a. By the verifier of shale. -/
namespace Go.Proofs.YthhhpaiednpdkaaGreatDoor.Syn
open Go Bin Pl Cos Enc
set_option linter.unusedVariables false
section
variable {m : Nat} [M : Mid m]
/-- the value of the word v at a^j. -/
def sv (m : Nat) [M : Mid m] (v j : Nat) : BitVec 16 := (vv (m := m) v (xe m j)).val
theorem sv_xor (a b j : Nat) : sv m (a ^^^ b) j = sv m a j ^^^ sv m b j := by unfold sv; rw [vv_xor]; rfl
theorem sv_zero (j : Nat) : sv m 0 j = 0 := rfl
theorem plc_pow (p : Nat) : ∀ n, plc (2 ^ p) n = if p < n then [p] else []
  | 0 => rfl
  | n + 1 => by
    rw [plc_succ, plc_pow p n, Nat.testBit_two_pow]
    by_cases h : p = n
    · subst h; simp
    · by_cases h2 : p < n
      · simp [h, h2, show p < n + 1 by omega]
      · simp [h, h2, show ¬ p < n + 1 by omega]
theorem sv_pow (p j : Nat) : sv m (2 ^ p) j = Fld.pwZ m ((p * j : Nat) : Int) := by
  unfold sv
  rw [vv_plc (n := p + 1) (Nat.pow_lt_pow_right (by decide) (by omega)), plc_pow, if_pos (by omega)]
  show (xe m (j * p) + 0).val = _
  rw [Fl.add_zero, Nat.mul_comm]; rfl
theorem sumE_sq (f : Nat → El m) : ∀ l : List Nat, sumE (l.map f) * sumE (l.map f) = sumE (l.map fun p => f p * f p)
  | [] => Pl.mul_zero 0
  | a :: t => by
    show (f a + sumE (t.map f)) * (f a + sumE (t.map f)) = f a * f a + sumE (t.map fun p => f p * f p)
    rw [sq_add, sumE_sq f t]
theorem vv_sq (v j : Nat) : vv (m := m) v (xe m (2 * j)) = vv v (xe m j) * vv v (xe m j) := by
  have h : v < 2 ^ v := Nat.lt_two_pow_self
  rw [vv_plc h, vv_plc h, sumE_sq]
  congr 1
  refine List.map_congr_left fun p _ => ?_
  rw [xe_mul]
  congr 1
  rw [Nat.mul_assoc, Nat.two_mul]
theorem sv_sq (v j : Nat) : sv m v (2 * j) = Fld.fmul m (sv m v j) (sv m v j) := by
  unfold sv; rw [vv_sq]; rfl
theorem sv_dvd {t v j : Nat} (h : Dvd (gen m t) v) (h1 : 1 ≤ j) (h2 : j ≤ 2 * t) : sv m v j = 0 := by
  unfold sv; rw [dvd_root h (gen_root h1 h2)]; rfl
/-- few places, whose values are all 0, are none. -/
theorem sv_few {t v n : Nat} (hv : v < 2 ^ n) (hn : n ≤ sz m) (h : ∀ j, 1 ≤ j → j ≤ 2 * t → sv m v j = 0) : v = 0 ∨ 2 * t < pop v n := by
  by_cases h0 : v = 0
  · exact Or.inl h0
  · refine Or.inr (places_many (m := m) (plc v n) (plc_nodup v n) (fun p hp => by have := (mem_plc.1 hp).1; omega) (fun j h1 h2 => ?_) ?_)
    · rw [← vv_plc hv]
      exact El.ext (h j h1 h2)
    · intro he
      exact h0 (pop_pos hv (by unfold pop; rw [he]; rfl))
/-- the word of these places, each turned as often as it stands there. -/
def xs (l : List Nat) : Nat := l.foldl (fun v p => v ^^^ 2 ^ p) 0
theorem xs_take (l : List Nat) (k : Nat) (h : k < l.length) : xs (l.take (k + 1)) = xs (l.take k) ^^^ 2 ^ l[k] := by
  unfold xs
  rw [List.take_succ_eq_append_getElem h, List.foldl_append]; rfl
theorem xs_lt {n : Nat} : ∀ (l : List Nat), (∀ p ∈ l, p < n) → xs l < 2 ^ n := by
  have H : ∀ (l : List Nat) (v : Nat), v < 2 ^ n → (∀ p ∈ l, p < n) → l.foldl (fun v p => v ^^^ 2 ^ p) v < 2 ^ n := by
    intro l
    induction l with
    | nil => intro v h _; exact h
    | cons a t ih =>
      intro v h hl
      exact ih _ (Nat.xor_lt_two_pow h (Nat.pow_lt_pow_right (by decide) (hl a (List.mem_cons_self ..)))) fun p hp => hl p (List.mem_cons_of_mem _ hp)
  intro l hl
  exact H l 0 (Nat.two_pow_pos n) hl
theorem xs_plc_take (v : Nat) : ∀ n, v < 2 ^ n → xs (plc v n) = v := by
  intro n hv
  have H : ∀ k, xs (plc v k) = v % 2 ^ k := by
    intro k
    induction k with
    | zero => rw [Nat.pow_zero, Nat.mod_one]; rfl
    | succ k ih =>
      rw [plc_succ]
      unfold xs at ih ⊢
      rw [List.foldl_append, ih]
      apply Nat.eq_of_testBit_eq
      intro i
      rw [Nat.testBit_mod_two_pow]
      cases hb : v.testBit k
      · show (v % 2 ^ k).testBit i = _
        rw [Nat.testBit_mod_two_pow]
        by_cases hi : i = k
        · subst hi; rw [hb]; simp
        · congr 1; simp; omega
      · show (v % 2 ^ k ^^^ 2 ^ k).testBit i = _
        rw [Nat.testBit_xor, Nat.testBit_mod_two_pow, Nat.testBit_two_pow]
        by_cases hi : i = k
        · subst hi; rw [hb]; simp
        · have e1 : decide (k = i) = false := decide_eq_false (fun h => hi h.symm)
          rw [e1, Bool.xor_false]
          congr 1; simp; omega
  rw [H, Nat.mod_eq_of_lt hv]
/-- the value of the places as a sum from the first on. -/
theorem sv_xs_take (l : List Nat) (k j : Nat) (h : k < l.length) : sv m (xs (l.take (k + 1))) j = sv m (xs (l.take k)) j ^^^ Fld.pwZ m ((l[k] * j : Nat) : Int) := by
  rw [xs_take l k h, sv_xor, sv_pow]
/-- the values that are asked for: 2t of them. -/
def syn (m : Nat) [M : Mid m] (v n : Nat) : List Nat := (List.range n).map fun i => (sv m v (i + 1)).toNat
theorem syn_length (v n : Nat) : (syn m v n).length = n := by unfold syn; rw [List.length_map, List.length_range]
/-- the values of a word with the parity handed in are those of what the parity differs by. -/
theorem sv_word {t X Y j : Nat} (hY : Y < 2 ^ deg m t) (h1 : 1 ≤ j) (h2 : j ≤ 2 * t) : sv m (wrd (deg m t) X Y) j = sv m (prt (gen m t) (deg m t) X ^^^ Y) j := by
  have hg := gen_deg (m := m) t
  have h := sv_dvd (m := m) (wrd_dvd hg X) h1 h2
  have e : wrd (deg m t) X Y = wrd (deg m t) X (prt (gen m t) (deg m t) X) ^^^ (prt (gen m t) (deg m t) X ^^^ Y) := by
    unfold wrd
    rw [Nat.xor_assoc]
    congr 1
    rw [← Nat.xor_assoc, Nat.xor_self, Nat.zero_xor]
  rw [e, sv_xor, h]
  exact BitVec.zero_xor
end
end Go.Proofs.YthhhpaiednpdkaaGreatDoor.Syn
/- The walks over package syndrome's sum and values. By the verifier of shale. -/
namespace Go.Proofs.YthhhpaiednpdkaaGreatDoor.Syn
open Go Go.RowKit Bin Cos Enc Bits16
set_option linter.unusedVariables false
theorem getD_nat (l : List Nat) (k : Nat) (h : k < l.length) : l.getD k 0 = l[k] := by
  rw [List.getD_eq_getElem?_getD, List.getElem?_eq_getElem h]; rfl
section
variable {m : Nat} [M : Pl.Mid m]
theorem sv_lt (v j : Nat) : (sv m v j).toNat < 2 ^ m := (vv (m := m) v (Cos.xe m j)).2
set_option maxRecDepth 100000 in
set_option maxHeartbeats 1000000 in
theorem sum_any {s be ce bl : Nat} (w : World) (F : Fld.FldAt m w s be ce bl) (a : Option Addr) (n c : Nat) (l : List Nat) (hR : RowN w a n l) (hn : n ≤ 100000) (hb : ∀ p ∈ l, p ≤ 100000) (j : Nat) (hj : j ≤ 100) :
    Calls Tryz.prog 43 #[.pointer (some ⟨s, 0, none⟩), .slice a n c, .int .i64 (j : Int), .func (.func 30) #[.pointer (some ⟨s, 0, none⟩)] #[]] w fun e w' => e = .returned (.int .i64 (h (sv m (xs l) j))) ∧ w = w' := by
  have HF := Lib.hid F
  have HR := Lib.hid hR
  have HB := Lib.hid hb
  have h0 : h (sv m (xs (l.take 0)) j) = 0 := rfl
  clear F hR hb
  go_enter Tryz.func43, Tryz.ntmps43
  go_wp2_with fail
  go_loopg [9, 14] n (fun gh s9 s14 wx => ∃ (k : Nat), gh = n - k ∧ k ≤ n ∧ s14 = .int .i64 (k : Int) ∧ s9 = .int .i64 (h (sv m (xs (l.take k)) j)) ∧ w = wx)
  case atStart => exact ⟨0, rfl, Nat.zero_le _, rfl, by rw [h0], rfl⟩
  case round =>
    clear h0
    obtain ⟨k, hg, hk, rfl, rfl, rfl⟩ := hrel
    have HG := Lib.hid hg
    clear hg
    by_cases hlt : k < n
    · have x1 : (k : Int) < (n : Int) := by omega
      have x0 : (0 : Int) ≤ (k : Int) := by omega
      obtain ⟨bb, off, rfl, d1, _⟩ := HR.out.row k hlt
      have hkl : k < l.length := by rw [← HR.out.hlen]; exact hlt
      have hp : l.getD k 0 ≤ 100000 := by rw [getD_nat l k hkl]; exact HB.out _ (List.getElem_mem hkl)
      have HS := Lib.hid (sv_xs_take (m := m) l k j hkl)
      rw [← getD_nat l k hkl, Int.natCast_mul] at HS
      have hm : IntKind.i64.wrap (((l.getD k 0 : Nat) : Int) * (j : Int)) = ((l.getD k 0 : Nat) : Int) * (j : Int) := by
        have : l.getD k 0 * j ≤ 100000 * 100 := Nat.mul_le_mul hp hj
        rw [← Int.natCast_mul]
        exact IntWalk.i64_in _ (by omega)
      have HI : Hid (k + 1 ≤ n) := hlt
      have HL := Lib.hid (sv_lt (m := m) (xs (l.take k)) j)
      generalize l.getD k 0 = p at d1 hp HS hm
      generalize sv m (xs (l.take k)) j = A at HS HL ⊢
      clear hlt hkl
      go_wp2_with fail
      refine (Fld.fexp_any M.lo M.hi _ w HF.out).mono ?_
      rintro e w' ⟨rfl, rfl⟩
      go_wp2_with fail
      refine (Fld.add_any M.lo M.hi _ _ w HF.out).mono ?_
      rintro e w' ⟨rfl, rfl⟩
      rw [Fld.el_of m M.hi _ HL.out, Fld.el_of m M.hi _ (Fld.pwZ_lt m M.lo M.hi _), ← HS.out]
      go_wp2_with fail
      go_roundg (n - (k + 1))
      case measure => have := HG.out; have := HI.out; omega
      case rel => exact ⟨k + 1, rfl, HI.out, by go_num, rfl, rfl⟩
    · obtain rfl : k = n := by omega
      have HE : Hid (l.take k = l) := List.take_of_length_le (by rw [← HR.out.hlen]; exact Nat.le_refl _)
      rw [HE.out]
      go_wp2_with fail
      go_ret
      exact ⟨rfl, rfl⟩
/-- the values asked for, of which the first k are there. -/
def synP (m : Nat) [M : Pl.Mid m] (v k n : Nat) : List Int := (List.range n).map fun i => if i < k then h (sv m v (i + 1)) else 0
theorem synP_length (v k n : Nat) : (synP m v k n).length = n := by unfold synP; rw [List.length_map, List.length_range]
theorem synP_zero (v n : Nat) : List.replicate n 0 = synP m v 0 n := by
  unfold synP
  apply List.ext_getElem
  · simp
  · intro i h1 h2; simp
theorem synP_set (v k n : Nat) : (synP m v k n).set k (h (sv m v (k + 1))) = synP m v (k + 1) n := by
  unfold synP
  apply List.ext_getElem
  · simp
  · intro i h1 h2
    rw [List.getElem_set]
    by_cases e : k = i
    · subst e; simp
    · rw [if_neg e]
      simp only [List.getElem_map, List.getElem_range]
      by_cases h3 : i < k
      · rw [if_pos h3, if_pos (by omega)]
      · rw [if_neg h3, if_neg (by omega)]
theorem synP_nth {v k n i : Nat} (hi : i < k) (hk : k ≤ n) : nth64 (synP m v k n) i = h (sv m v (i + 1)) := by
  unfold nth64 synP
  rw [List.getD_eq_getElem?_getD, List.getElem?_map, List.getElem?_range (by omega)]
  simp [hi]
theorem synP_all (v n : Nat) : synP m v n n = Bin.ints (syn m v n) := by
  unfold synP syn Bin.ints
  rw [List.map_map]
  refine List.map_congr_left fun i hi => ?_
  rw [List.mem_range] at hi
  rw [if_pos hi]; rfl
/-- the values that a call answers, in new memory. -/
def ValAt (m t v : Nat) [M : Pl.Mid m] (w : World) (e : Ending) (w' : World) : Prop :=
  ∃ g, e = .returned (.slice (some ⟨g, 0, none⟩) (2 * t) (2 * t)) ∧ Blk64 w' g (Bin.ints (syn m v (2 * t))) ∧ Below w.heap.size w w' ∧ w.heap.size ≤ g
set_option maxRecDepth 100000 in
set_option maxHeartbeats 1000000 in
theorem values_any {t n : Nat} (w : World) (s : Nat) (hC : CodeAt m t n w s) (ht2 : t ≤ 40) (a : Option Addr) (nl c : Nat) (l : List Nat) (hR : RowN w a nl l) (hn : nl ≤ 100000) (hb : ∀ p ∈ l, p ≤ 100000) :
    Calls Tryz.prog 25 #[.pointer (some ⟨s, 0, none⟩), .slice a nl c] w (ValAt m t (xs l) w) := by
  have HC := Lib.hid hC
  have HR := Lib.hid hR
  have HB := Lib.hid hb
  have hfc := field_code w s hC
  have htc := t_code w s hC
  obtain ⟨N, hN⟩ : ∃ N, N = 2 * t := ⟨_, rfl⟩
  have q0 : 2 * (t : Int) = (N : Int) := by omega
  have hN2 : N ≤ 80 := by omega
  have HN := Lib.hid hN
  have hmk := made64 w N (by omega)
  obtain ⟨V, hV⟩ : ∃ V, V = xs l := ⟨_, rfl⟩
  rw [← hV]
  have HV := Lib.hid hV
  have b0 : Below w.heap.size w (w.alloc (obj64 (List.replicate N 0))) := (Below.refl _ _).alloc (Nat.le_refl _) _
  have k0 := Blk64.new w (List.replicate N 0)
  rw [synP_zero (m := m) V N] at hmk b0 k0
  have HC1 := Lib.hid (hC.below b0)
  have B0 := Lib.hid b0
  have K0 := Lib.hid k0
  clear hC hR hb hN hV b0 k0
  go_enter Tryz.func25, Tryz.ntmps25
  go_wp2_with fail
  refine hfc.mono ?_
  rintro e w' ⟨⟨f, be, ce, bl, rfl, F⟩, rfl⟩
  have HF := Lib.hid F
  clear F hfc
  go_wp2_with fail
  refine htc.mono ?_
  rintro e w' ⟨rfl, rfl⟩
  clear htc
  go_wp2_with fail
  generalize w.alloc (obj64 (synP m V 0 N)) = w1 at B0 K0 HC1 ⊢
  go_loopg [17] N (fun gh s17 wx => ∃ (k : Nat), gh = N - k ∧ k ≤ N ∧ s17 = .int .i64 (k : Int) ∧ Blk64 wx w.heap.size (synP m V k N) ∧ Below w.heap.size w wx)
  case atStart => exact ⟨0, rfl, Nat.zero_le _, rfl, K0.out, B0.out⟩
  case round =>
    clear K0 B0 HC1
    obtain ⟨k, hg, hk, rfl, hK, hB⟩ := hrel
    have HG := Lib.hid hg
    clear hg
    have HBl := Lib.hid hB
    have cf := fun i => hK.free i
    by_cases hlt : k < N
    · have x1 : (k : Int) < (N : Int) := by omega
      have x0 : (0 : Int) ≤ (k : Int) := by omega
      have HI : Hid (k + 1 ≤ N) := hlt
      have HK := Lib.hid hK
      have HF2 := Lib.hid (HF.out.below M.lo hB)
      have HR2 := Lib.hid (HR.out.below hB)
      have ck := hK.cell (i := k) (by rw [synP_length]; exact hlt)
      generalize nth64 (synP m V k N) k = z0 at ck
      by_cases hev : k % 2 = 0
      · have t1 : ((k : Int) % 2 == 0) = true := by rw [beq_iff_eq]; omega
        have HS := Lib.hid (sum_any wr HF2.out a nl c l HR2.out hn HB.out (k + 1) (by omega))
        rw [← HV.out] at HS
        have q2 : ((k + 1 : Nat) : Int) = (k : Int) + 1 := by omega
        rw [q2] at HS
        clear hev q2 hB hK
        go_wp2_with fail
        refine HS.out.mono ?_
        rintro e w' ⟨rfl, rfl⟩
        go_wp2_with fail
        go_roundg (N - (k + 1))
        case measure => have := HG.out; have := HI.out; omega
        case rel =>
          have hs := Blk64.set HK.out k (h (sv m V (k + 1)))
          rw [synP_set] at hs
          exact ⟨k + 1, rfl, HI.out, by go_num, hs, HBl.out.trans ((Only.setCell _ _ _).below (Nat.le_refl _))⟩
      · have t1 : ((k : Int) % 2 == 0) = false := by rw [beq_eq_false_iff_ne]; omega
        obtain ⟨i, hi⟩ : ∃ i, k = 2 * i + 1 := ⟨k / 2, by omega⟩
        have q3 : (k : Int) / 2 = (i : Int) := by omega
        have q4 : (k : Int).tdiv 2 = (i : Int) := by rw [Int.tdiv_eq_ediv_of_nonneg (by omega)]; exact q3
        have y0 : (0 : Int) ≤ (i : Int) := by omega
        have y1 : (i : Int) < (N : Int) := by omega
        have d1 := hK.cell (i := i) (by rw [synP_length]; omega)
        rw [synP_nth (by omega) (by omega)] at d1
        have HQ : Hid (sv m V (k + 1) = Fld.fmul m (sv m V (i + 1)) (sv m V (i + 1))) := by
          show _ = _
          rw [← sv_sq, hi]; congr 1
        have HL := Lib.hid (sv_lt (m := m) V (i + 1))
        generalize sv m V (i + 1) = A at d1 HQ HL
        have HM := Lib.hid (Fld.mul_any M.lo M.hi (h A) (h A) wr HF2.out)
        rw [Fld.el_of m M.hi _ HL.out, ← HQ.out] at HM
        clear hev hB hK hi
        go_wp2_with fail
        refine HM.out.mono ?_
        rintro e w4 ⟨rfl, hd⟩
        have HK4 : Hid (Blk64 w4 w.heap.size (synP m V k N)) := Bin.Blk64.since HK.out (hd.below _)
        have HB4 := Lib.hid (HBl.out.trans (hd.below _))
        have cf4 := fun i => HK4.out.free i
        have ck4 := HK4.out.cell (i := k) (by rw [synP_length]; exact HI.out)
        generalize nth64 (synP m V k N) k = z4 at ck4
        clear hd cf ck d1
        go_wp2_with fail
        go_roundg (N - (k + 1))
        case measure => have := HG.out; have := HI.out; omega
        case rel =>
          have hs := Blk64.set HK4.out k (h (sv m V (k + 1)))
          rw [synP_set] at hs
          exact ⟨k + 1, rfl, HI.out, by go_num, hs, HB4.out.trans ((Only.setCell _ _ _).below (Nat.le_refl _))⟩
    · obtain rfl : k = N := by omega
      have HX : Hid (Blk64 wr w.heap.size (Bin.ints (syn m V k))) := by rw [← synP_all]; exact hK
      clear hK hB
      go_wp2_with fail
      go_ret
      obtain rfl := HN.out
      exact ⟨w.heap.size, rfl, HX.out, HBl.out, Nat.le_refl _⟩
end
end Go.Proofs.YthhhpaiednpdkaaGreatDoor.Syn
/- The walks over package syndrome's Bits, Clean, Fits. By the verifier of shale. -/
namespace Go.Proofs.YthhhpaiednpdkaaGreatDoor.Syn
open Go Go.RowKit Bin Cos Enc Bits16
set_option linter.unusedVariables false
/-- the values that a call answers with no error, in new memory. -/
def ValE (m t v : Nat) [M : Pl.Mid m] (w : World) (e : Ending) (w' : World) : Prop :=
  ∃ g, e = .returned (.tuple #[.slice (some ⟨g, 0, none⟩) (2 * t) (2 * t), .nilIface]) ∧ Blk64 w' g (Bin.ints (syn m v (2 * t))) ∧ Below w.heap.size w w' ∧ w.heap.size ≤ g
section
variable {m : Nat} [M : Pl.Mid m]
set_option maxRecDepth 100000 in
set_option maxHeartbeats 1000000 in
theorem bits_any {t n : Nat} (w : World) (s : Nat) (hC : CodeAt m t n w s) (hn2 : n ≤ 2048) (ht2 : t ≤ 40) (a : Option Addr) (nl c : Nat) (l : List Nat) (hR : RowN w a nl l) (hn : nl ≤ 100000) (hb : ∀ p ∈ l, p < 8 * n + deg m t) :
    Calls Tryz.prog 11 #[.pointer (some ⟨s, 0, none⟩), .slice a nl c] w (ValE m t (xs l) w) := by
  have hd := deg_560 (m := m) ht2
  have HC := Lib.hid hC
  have HR := Lib.hid hR
  have HB := Lib.hid hb
  have HB2 : Hid (∀ p ∈ l, p ≤ 100000) := fun p hp => by have := hb p hp; omega
  clear hC hR hb
  go_enter Tryz.func11, Tryz.ntmps11
  go_wp2_with fail
  go_loopg [10] nl (fun gh s10 wx => ∃ (k : Nat), gh = nl - k ∧ k ≤ nl ∧ s10 = .int .i64 (k : Int) ∧ Drawn w wx)
  case atStart => exact ⟨0, rfl, Nat.zero_le _, rfl, Drawn.refl _⟩
  case round =>
    obtain ⟨k, hg, hk, rfl, hD⟩ := hrel
    have HG := Lib.hid hg
    have HD := Lib.hid hD
    have HC2 := Lib.hid (HC.out.drawn hD)
    clear hg
    by_cases hlt : k < nl
    · have x1 : (k : Int) < (nl : Int) := by omega
      have x0 : (0 : Int) ≤ (k : Int) := by omega
      obtain ⟨bb, off, rfl, d1, _⟩ := (HR.out.drawn hD).row k hlt
      have hkl : k < l.length := by rw [← HR.out.hlen]; exact hlt
      have hp : l.getD k 0 < 8 * n + deg m t := by rw [getD_nat l k hkl]; exact HB.out _ (List.getElem_mem hkl)
      have HBT := Lib.hid (bits_code wr s HC2.out hn2 ht2)
      have HI : Hid (k + 1 ≤ nl) := hlt
      generalize l.getD k 0 = p at d1 hp
      have t1 : decide ((p : Int) < 0) = false := decide_eq_false (by omega)
      have t2 : decide (((8 * n + deg m t : Nat) : Int) ≤ (p : Int)) = false := decide_eq_false (by omega)
      generalize ((8 * n + deg m t : Nat) : Int) = B at t2 HBT
      clear hlt hkl hD hp
      go_wp2_with fail
      refine HBT.out.mono ?_
      rintro e w4 ⟨rfl, hd4⟩
      have HD4 := Lib.hid (HD.out.trans hd4)
      clear hd4
      go_wp2_with fail
      go_roundg (nl - (k + 1))
      case measure => have := HG.out; have := HI.out; omega
      case rel => exact ⟨k + 1, rfl, HI.out, by go_num, HD4.out⟩
    · obtain rfl : k = nl := by omega
      have HV := Lib.hid (values_any wr s HC2.out ht2 a k c l (HR.out.drawn hD) hn HB2.out)
      clear hD
      go_wp2_with fail
      refine HV.out.mono ?_
      rintro e w4 ⟨g, rfl, h1, h2, h3⟩
      have H1 := Lib.hid h1
      have H2 := Lib.hid ((HD.out.below w.heap.size).trans (h2.mono (HD.out.below w.heap.size).size))
      have H3 := Lib.hid (Nat.le_trans (HD.out.below w.heap.size).size h3)
      clear h1 h2 h3
      go_wp2_with fail
      go_ret2
      exact ⟨g, rfl, H1.out, H2.out, H3.out⟩
set_option maxRecDepth 100000 in
set_option maxHeartbeats 1000000 in
theorem bits_bad {t n : Nat} (w : World) (s : Nat) (hC : CodeAt m t n w s) (hn2 : n ≤ 2048) (ht2 : t ≤ 40) (a : Option Addr) (nl c : Nat) (z : Nat → Int) (j : Nat) (hR : RowZ w a nl z) (hn : nl ≤ 100000) (hj : j < nl)
    (hgood : ∀ i, i < j → 0 ≤ z i ∧ z i < ((8 * n + deg m t : Nat) : Int)) (hbad : z j < 0 ∨ ((8 * n + deg m t : Nat) : Int) ≤ z j) (y : Addr) (E : ErrAt w 1 y) :
    Calls Tryz.prog 11 #[.pointer (some ⟨s, 0, none⟩), .slice a nl c] w fun e w' => e = .returned (.tuple #[.slice none 0 0, errOf y]) ∧ Drawn w w' := by
  have HC := Lib.hid hC
  have HR := Lib.hid hR
  have HGd := Lib.hid hgood
  have HE := Lib.hid E
  have hb2 : (decide (z j < 0) = true) ∨ (decide (z j < 0) = false ∧ decide (((8 * n + deg m t : Nat) : Int) ≤ z j) = true) := by
    by_cases h : z j < 0
    · exact Or.inl (decide_eq_true h)
    · exact Or.inr ⟨decide_eq_false h, decide_eq_true (by omega)⟩
  have HB := Lib.hid hb2
  clear hC hR hgood E hbad hb2
  go_enter Tryz.func11, Tryz.ntmps11
  go_wp2_with fail
  go_loopg [10] nl (fun gh s10 wx => ∃ (k : Nat), gh = nl - k ∧ k ≤ j ∧ s10 = .int .i64 (k : Int) ∧ Drawn w wx)
  case atStart => exact ⟨0, rfl, Nat.zero_le _, rfl, Drawn.refl _⟩
  case round =>
    obtain ⟨k, hg, hk, rfl, hD⟩ := hrel
    have HG := Lib.hid hg
    have HD := Lib.hid hD
    have HC2 := Lib.hid (HC.out.drawn hD)
    have HBT := Lib.hid (bits_code wr s HC2.out hn2 ht2)
    clear hg
    have x1 : (k : Int) < (nl : Int) := by omega
    have x0 : (0 : Int) ≤ (k : Int) := by omega
    obtain ⟨bb, off, rfl, c1, hb⟩ := HR.out k (by omega)
    replace c1 := (hD.below w.heap.size).cell (p := ⟨bb, off + k, none⟩) hb |>.trans c1
    have HE2 := Lib.hid (HE.out.below (hD.below _))
    by_cases hlt : k < j
    · obtain ⟨g1, g2⟩ := HGd.out k hlt
      have t1 : decide (z k < 0) = false := decide_eq_false (by omega)
      have t2 : decide (((8 * n + deg m t : Nat) : Int) ≤ z k) = false := decide_eq_false (by omega)
      generalize ((8 * n + deg m t : Nat) : Int) = B at t2 HBT
      clear hb g1 g2 hD HB
      go_wp2_with fail
      refine HBT.out.mono ?_
      rintro e w4 ⟨rfl, hd4⟩
      have HD4 := Lib.hid (HD.out.trans hd4)
      clear hd4
      go_wp2_with fail
      go_roundg (nl - (k + 1))
      case measure => have := HG.out; omega
      case rel => exact ⟨k + 1, rfl, by omega, by go_num, HD4.out⟩
    · obtain rfl : k = j := by omega
      clear hb hD
      have hb3 := HB.out
      generalize ((8 * n + deg m t : Nat) : Int) = B at hb3 HBT
      rcases hb3 with t1 | ⟨t1, t2⟩
      · have e1 := HE2.out.1
        unfold Sent at e1
        go_wp2_with fail
        go_quiet (fail)
        have hd2 := HD.out.trans (Drawn.mk wr nq)
        go_wp2_with fail
        go_ret2
        exact ⟨rfl, hd2⟩
      · go_wp2_with fail
        refine HBT.out.mono ?_
        rintro e w4 ⟨rfl, hd4⟩
        have HD4 := Lib.hid (HD.out.trans hd4)
        have e1 := (HE2.out.below (hd4.below _)).1
        unfold Sent at e1
        clear hd4
        go_wp2_with fail
        go_quiet (fail)
        have hd2 := HD4.out.trans (Drawn.mk w4 nq)
        go_wp2_with fail
        go_ret2
        exact ⟨rfl, hd2⟩
end
set_option maxRecDepth 100000 in
set_option maxHeartbeats 1000000 in
theorem clean_any (a : Option Addr) (n c : Nat) (z : Nat → Int) (w : World) (hR : RowZ w a n z) (hn : n ≤ 100000) :
    Calls Tryz.prog 15 #[.slice a n c] w fun e w' => e = .returned (.bool (decide (∀ i, i < n → z i = 0))) ∧ w = w' := by
  have HR := Lib.hid hR
  obtain ⟨b, hb⟩ : ∃ b, b = decide (∀ i, i < n → z i = 0) := ⟨_, rfl⟩
  rw [← hb]
  have HBb := Lib.hid hb
  clear hR hb
  go_enter Tryz.func15, Tryz.ntmps15
  go_wp2_with fail
  go_loopg [7] n (fun gh s7 wx => ∃ (k : Nat), gh = n - k ∧ k ≤ n ∧ s7 = .int .i64 (k : Int) ∧ Hid (∀ i, i < k → z i = 0) ∧ w = wx)
  case atStart => exact ⟨0, rfl, Nat.zero_le _, rfl, (fun i hi => by omega), rfl⟩
  case round =>
    obtain ⟨k, hg, hk, rfl, HA, rfl⟩ := hrel
    have HG := Lib.hid hg
    clear hg
    by_cases hlt : k < n
    · have x1 : (k : Int) < (n : Int) := by omega
      have x0 : (0 : Int) ≤ (k : Int) := by omega
      obtain ⟨bb, off, rfl, d1, _⟩ := HR.out k hlt
      have HI : Hid (k + 1 ≤ n) := hlt
      by_cases h0 : z k = 0
      · have HA2 : Hid (∀ i, i < k + 1 → z i = 0) := fun i hi => by
          by_cases e : i = k
          · rw [e]; exact h0
          · exact HA.out i (by omega)
        have t1 : (z k == 0) = true := by rw [beq_iff_eq]; exact h0
        generalize z k = q at d1 t1
        clear h0 hlt HA
        go_wp2_with fail
        go_roundg (n - (k + 1))
        case measure => have := HG.out; have := HI.out; omega
        case rel => exact ⟨k + 1, rfl, HI.out, by go_num, HA2, rfl⟩
      · have HF : Hid (b = false) := by
          show _ = _
          rw [HBb.out]
          exact decide_eq_false fun h => h0 (h k hlt)
        have t1 : (z k == 0) = false := by rw [beq_eq_false_iff_ne]; exact h0
        generalize z k = q at d1 t1
        clear h0 hlt HA
        go_wp2_with fail
        go_ret
        exact ⟨ret_bool HF.out.symm, rfl⟩
    · obtain rfl : k = n := by omega
      have HF : Hid (b = true) := by
        show _ = _
        rw [HBb.out]
        exact decide_eq_true HA.out
      clear HA
      go_wp2_with fail
      go_ret
      exact ⟨ret_bool HF.out.symm, rfl⟩
end Go.Proofs.YthhhpaiednpdkaaGreatDoor.Syn
/- The walk over package syndrome's Of. By the verifier of shale. -/
namespace Go.Proofs.YthhhpaiednpdkaaGreatDoor.Syn
open Go Go.RowKit Bin Cos Enc Bits16
set_option linter.unusedVariables false
theorem xs_plc (v : Nat) : ∀ k, xs (plc v k) = v % 2 ^ k
  | 0 => by rw [Nat.pow_zero, Nat.mod_one]; rfl
  | k + 1 => by
    have ih := xs_plc v k
    rw [plc_succ]
    unfold xs at ih ⊢
    rw [List.foldl_append, ih]
    apply Nat.eq_of_testBit_eq
    intro i
    rw [Nat.testBit_mod_two_pow]
    cases hb : v.testBit k
    · show (v % 2 ^ k).testBit i = _
      rw [Nat.testBit_mod_two_pow]
      by_cases hi : i = k
      · subst hi; rw [hb]; simp
      · congr 1; simp; omega
    · show (v % 2 ^ k ^^^ 2 ^ k).testBit i = _
      rw [Nat.testBit_xor, Nat.testBit_mod_two_pow, Nat.testBit_two_pow]
      by_cases hi : i = k
      · subst hi; rw [hb]; simp
      · have e1 : decide (k = i) = false := decide_eq_false (fun h => hi h.symm)
        rw [e1, Bool.xor_false]
        congr 1; simp; omega
/-- an own slice of places is a row. -/
theorem own_rowN {w : World} {base n : Nat} {a : Option Addr} {c : Nat} {l : List Nat} (h : Own64 w base (.slice a n c) n (Bin.ints l)) : RowN w a n l := by
  have hl : l.length = n := by have := h.len; unfold Bin.ints at this; rwa [List.length_map] at this
  refine ⟨hl.symm, fun i hi => ?_⟩
  rcases h.2 with ⟨h0, h1⟩ | ⟨g, cap, cur, hv, hb, hh, r⟩
  · simp only [Value.slice.injEq] at h0; omega
  · have hc := World.ownsRow.cellAt (show w.ownsRow base 3 1 (.slice (some ⟨g, 0, none⟩) n cap) n (cells64 (Bin.ints l)) from hv ▸ h) i (by omega)
    simp only [Value.slice.injEq] at hv
    obtain ⟨rfl, _, _⟩ := hv
    refine ⟨g, 0, rfl, ?_, lt_of_block hh⟩
    rw [Nat.zero_add]
    refine hc.trans ?_
    simp [cells64, Bin.ints, List.getD_eq_getElem?_getD, hl, hi]
theorem own_slice {w : World} {base n : Nat} {v : Value} {l : List Int} (h : Own64 w base v n l) : ∃ av cv, v = .slice av n cv := by
  rcases h.2 with ⟨h0, h1⟩ | ⟨g, cap, cur, hv, _⟩
  · exact ⟨none, 0, by rw [h0, h1]⟩
  · exact ⟨_, _, hv⟩
section
variable {m : Nat} [M : Pl.Mid m]
/-- what the parity differs by. -/
def ev (m t X Y : Nat) [M : Pl.Mid m] : Nat := prt (gen m t) (deg m t) X ^^^ Y
set_option maxRecDepth 100000 in
set_option maxHeartbeats 1000000 in
theorem of_any {t n : Nat} (ht : 1 ≤ t) (ht2 : t ≤ 40) (w : World) (s : Nat) (h : CodeAt m t n w s) (a : Option Addr) (cap : Nat) (X : List (BitVec 8)) (hl : Pol w a n cap X) (hn : n ≤ 2048) (a' : Option Addr) (cap' : Nat) (Y : List (BitVec 8)) (hY : Pol w a' (pb (deg m t)) cap' Y) :
    Calls Tryz.prog 7 #[.pointer (some ⟨s, 0, none⟩), .slice a n cap, .slice a' (pb (deg m t)) cap'] w (ValE m t (ev m t (val X) (val Y) % 2 ^ deg m t) w) := by
  obtain ⟨i0, hi, hz0, hz1, hz2⟩ := info64
  have HC := Lib.hid h
  have HPB := Lib.hid (parityB_any w s h ht2)
  have HFa := Lib.hid (fast_any ht ht2 w s h a cap X hl hn)
  have HY := Lib.hid hY
  have hd := deg_560 (m := m) ht2
  have HX := xs_plc (ev m t (val X) (val Y)) (deg m t)
  have HBd : Hid (∀ p ∈ plc (ev m t (val X) (val Y)) (deg m t), p ≤ 100000) := fun p hp => by have := (mem_plc.1 hp).1; omega
  have hE : ev m t (val X) (val Y) = prt (gen m t) (deg m t) (val X) ^^^ val Y := rfl
  have hRl := prt_lt (gen_deg (m := m) t) (val X)
  unfold ParAt at HFa
  rw [← HX]
  generalize ev m t (val X) (val Y) = E at hE HX HBd ⊢
  generalize prt (gen m t) (deg m t) (val X) = R at hE hRl HFa
  have hPd : pb (deg m t) = (deg m t + 7) / 8 := rfl
  obtain ⟨P, hP⟩ : ∃ P, P = pb (deg m t) := ⟨_, rfl⟩
  obtain ⟨D, hD⟩ : ∃ D, D = deg m t := ⟨_, rfl⟩
  have hdc := Lib.hid (fun (w : World) (h : CodeAt m t n w s) => degree_code w s h)
  rw [← hP] at hPd HPB HFa HY ⊢
  rw [← hD] at hd hPd hRl hdc HBd ⊢
  have HE := Lib.hid hE
  have HRl := Lib.hid hRl
  have HP := Lib.hid hPd
  have y9 : P ≤ 100000 := by omega
  clear h hl hY HX hE hRl hP hD hPd
  go_enter Tryz.func7, Tryz.ntmps7
  go_wp2_with fail
  refine HPB.out.mono ?_
  rintro e w' ⟨rfl, rfl⟩
  clear HPB
  go_wp2_with fail
  refine HFa.out.mono ?_
  rintro e w1 ⟨g, rfl, hB8, b1, hg1⟩
  have HB8 := Lib.hid hB8
  have HB1 := Lib.hid b1
  have HC1 := Lib.hid (HC.out.below b1)
  have HY1 := Lib.hid (HY.out.below b1)
  clear HFa hB8 b1
  go_wp2_with fail
  refine (hdc.out w1 HC1.out).mono ?_
  rintro e w' ⟨rfl, rfl⟩
  have HO0 := Lib.hid (show Own64 w1 w1.heap.size (.slice none 0 0) 0 (Bin.ints (plc E 0)) from Own64.nil w1 w1.heap.size)
  go_wp2_with fail
  go_loopg [10, 29] D (fun gh s10 s29 wx => ∃ (k j : Nat), gh = D - k ∧ k ≤ D ∧ s29 = .int .i64 (k : Int) ∧ Own64 wx w1.heap.size s10 j (Bin.ints (plc E k)) ∧ j ≤ k ∧ Below w1.heap.size w1 wx)
  case atStart => exact ⟨0, 0, rfl, Nat.zero_le _, rfl, HO0.out, Nat.le_refl _, Below.refl _ _⟩
  case round =>
    clear HO0
    obtain ⟨k, j, hg, hk, rfl, hown, hj, hB⟩ := hrel
    have HG := Lib.hid hg
    have hbs := hB.size
    clear hg
    by_cases hlt : k < D
    · have x1 : (k : Int) < (D : Int) := by omega
      have x0 : (0 : Int) ≤ (k : Int) := by omega
      have HI : Hid (k + 1 ≤ D) := hlt
      obtain ⟨Q, hQ⟩ : ∃ Q, Q = k / 8 := ⟨_, rfl⟩
      obtain ⟨r, hr⟩ : ∃ r, r = k % 8 := ⟨_, rfl⟩
      have q1 : (k : Int) / 8 = (Q : Int) := by omega
      have q2 : (k : Int).tdiv 8 = (Q : Int) := by rw [Int.tdiv_eq_ediv_of_nonneg (by omega)]; exact q1
      have q3 : (k : Int) % 8 = (r : Int) := by omega
      have q4 : (k : Int).tmod 8 = (r : Int) := by rw [Int.tmod_eq_emod_of_nonneg (by omega)]; exact q3
      have hQP : Q < P := by have := HP.out; omega
      have y0 : (0 : Int) ≤ (Q : Int) := by omega
      have y1 : (Q : Int) < (P : Int) := by omega
      have r0 : (0 : Int) ≤ (r : Int) := by omega
      have r1 : (r : Int) < 8 := by omega
      have HB8w : Hid (Blk8 wr g (byN R P)) := (hB.block g HB8.out.lt).trans HB8.out
      have d1 := HB8w.out.cell (i := Q) (by rw [byN_length]; exact hQP)
      obtain ⟨bb, off, rfl, d2⟩ : ∃ bb off, a' = some ⟨bb, off, none⟩ ∧ wr.cell? ⟨bb, off + Q, none⟩ = some (.int .u8 (Bits32.b (nth8 Y Q))) := by
        rcases (HY1.out.below hB).hrow with h | ⟨bb, off, e, hr, _⟩
        · omega
        · exact ⟨bb, off, e, hr Q (by rw [← HY1.out.hlen]; exact hQP)⟩
      have hx := Bits32.bxor (nth8 (byN R P) Q) (nth8 Y Q)
      have hbit : E.testBit k = (nth8 (byN R P) Q ^^^ nth8 Y Q).getLsbD r := by
        rw [HE.out, Nat.testBit_xor, BitVec.getLsbD_xor, byN_bit R P Q r hQP (by omega), val_bit Y k, ← hQ, ← hr, show 8 * Q + r = k by omega]
      have hone := bit_one8 (nth8 (byN R P) Q ^^^ nth8 Y Q) r (by omega)
      rw [← hbit] at hone
      have HPS := Lib.hid (plc_succ E k)
      generalize nth8 (byN R P) Q ^^^ nth8 Y Q = Z at hx hone
      generalize Bits32.b (nth8 (byN R P) Q) = v1 at d1 hx
      generalize Bits32.b (nth8 Y Q) = v2 at d2 hx
      clear hQ hr hlt hbit hQP
      rcases Bool.eq_false_or_eq_true (E.testBit k) with hb1 | hb1
      · rw [hb1] at hone HPS
        replace hone : bits .and .u8 (Bits32.b Z / 2 ^ r) 1 = 1 := hone
        have HF : Hid (plc E (k + 1) = plc E k ++ [k]) := HPS.out
        clear hb1 HPS
        go_wp2_with fail
        go_quiet (fail)
        have hd2 := Drawn.mk wr nq
        generalize wr.drewN nq = w5 at hd2 ⊢
        replace hB := hB.trans ((hd2.below wr.heap.size).mono hbs)
        have hown5 := hown.keep (w' := w5) fun g hg => (hd2.below wr.heap.size).block g (hown.block g hg).2
        have hbs5 := hB.size
        clear hown hd2 d1 d2 hx hone hbs
        go_wp2_with (at_builtin; refine wpList_append_own _ rfl _ _ 23 rfl w1.heap.size 3 i0 (.int .i64 0) 1 8 Tryz.underlying23 hi hz0 hz1 hz2 rfl (by decide) _ j _ rfl (World.ownsRow.alloc hown5 _) ⟨w5.heap.size, 0, none⟩ 1 1 [.int .i64 (k : Int)] rfl rfl (cell_one_new _ _ _) (ints_oneCell .i64 [_]) (by unfold maxLen; omega) (by omega) (by simp; omega) ?_; intro v7 w7 hown7 hgrow _)
        have ho7 : Own64 w7 w1.heap.size v7 (j + 1) (Bin.ints (plc E (k + 1))) := by
          unfold Own64
          rw [HF.out]
          have e : Bin.ints (plc E k ++ [k]) = Bin.ints (plc E k) ++ [(k : Int)] := by simp [Bin.ints]
          rw [e, ← cells64_append]
          exact hown7
        have b7 : Below w1.heap.size w1 w7 := (hB.alloc hbs5 _).grown hgrow (by simp; omega) (fun g hg => (hown5.block g hg).1)
        clear hown7 hgrow hown5 hB
        go_wp2_with fail
        go_roundg (D - (k + 1))
        case measure => have := HG.out; have := HI.out; omega
        case rel => exact ⟨k + 1, j + 1, rfl, HI.out, by go_num, ho7, by omega, b7⟩
      · rw [hb1] at hone HPS
        replace hone : bits .and .u8 (Bits32.b Z / 2 ^ r) 1 = 0 := hone
        have HF : Hid (plc E (k + 1) = plc E k) := by
          show _ = _
          rw [HPS.out]
          exact List.append_nil _
        clear hb1 HPS
        go_wp2_with fail
        go_quiet (fail)
        have hd2 := Drawn.mk wr nq
        generalize wr.drewN nq = w5 at hd2 ⊢
        replace hB := hB.trans ((hd2.below wr.heap.size).mono hbs)
        have hown5 := hown.keep (w' := w5) fun g hg => (hd2.below wr.heap.size).block g (hown.block g hg).2
        rw [← HF.out] at hown5
        clear hown hd2 d1 d2 hx hone hbs
        go_wp2_with fail
        go_roundg (D - (k + 1))
        case measure => have := HG.out; have := HI.out; omega
        case rel => exact ⟨k + 1, j, rfl, HI.out, by go_num, hown5, by omega, hB⟩
    · obtain rfl : k = D := by omega
      obtain ⟨av, cv, rfl⟩ := own_slice hown
      have HRw := Lib.hid (own_rowN hown)
      have HV := Lib.hid (values_any wr s (HC1.out.below hB) ht2 av j cv _ HRw.out (by omega) HBd.out)
      have HB2 := Lib.hid (HB1.out.trans (hB.mono HB1.out.size))
      have HS2 := Lib.hid (Nat.le_trans HB1.out.size hbs)
      clear hown hB
      go_wp2_with fail
      refine HV.out.mono ?_
      rintro e w4 ⟨g', rfl, h1, h2, h3⟩
      have H1 := Lib.hid h1
      have H2 := Lib.hid (HB2.out.trans (h2.mono HB2.out.size))
      have H3 := Lib.hid (Nat.le_trans HS2.out h3)
      clear h1 h2 h3 HV
      go_wp2_with fail
      go_ret2
      exact ⟨g', rfl, H1.out, H2.out, H3.out⟩
end
end Go.Proofs.YthhhpaiednpdkaaGreatDoor.Syn
/- The walks over package syndrome's Fits and Add. By the verifier of shale. -/
namespace Go.Proofs.YthhhpaiednpdkaaGreatDoor.Syn
open Go Go.RowKit Bin Cos Enc Bits16
set_option linter.unusedVariables false
section
variable {m : Nat} [M : Pl.Mid m]
set_option maxRecDepth 100000 in
set_option maxHeartbeats 1000000 in
theorem fits_any {s be ce bl : Nat} (a : Option Addr) (n c : Nat) (z : Nat → Int) (w : World) (F : Fld.FldAt m w s be ce bl) (hR : RowZ w a n z) (hn : n ≤ 100000) :
    Calls Tryz.prog 17 #[.pointer (some ⟨s, 0, none⟩), .slice a n c] w fun e w' => e = .returned (.bool (decide (∀ i, i < n → 2 * i + 1 < n → Fld.fmul m (Fld.el m (z i)) (Fld.el m (z i)) = Fld.el m (z (2 * i + 1))))) ∧ Drawn w w' := by
  have HR := Lib.hid hR
  have HF := Lib.hid F
  obtain ⟨b, hb⟩ : ∃ b, b = decide (∀ i, i < n → 2 * i + 1 < n → Fld.fmul m (Fld.el m (z i)) (Fld.el m (z i)) = Fld.el m (z (2 * i + 1))) := ⟨_, rfl⟩
  rw [← hb]
  have HBb := Lib.hid hb
  clear hR hb F
  go_enter Tryz.func17, Tryz.ntmps17
  go_wp2_with fail
  go_loopg [5] n (fun gh s5 wx => ∃ (k : Nat), gh = n - k ∧ 2 * k ≤ n + 1 ∧ s5 = .int .i64 (2 * (k : Int) + 2) ∧ Hid (∀ i, i < k → Fld.fmul m (Fld.el m (z i)) (Fld.el m (z i)) = Fld.el m (z (2 * i + 1))) ∧ Drawn w wx)
  case atStart => exact ⟨0, rfl, Nat.zero_le _, rfl, (fun i hi => by omega), Drawn.refl _⟩
  case round =>
    obtain ⟨k, hg, hk, rfl, HA, hD⟩ := hrel
    have HG := Lib.hid hg
    have HD := Lib.hid hD
    obtain ⟨I, hI⟩ : ∃ I : Int, I = 2 * (k : Int) + 2 := ⟨_, rfl⟩
    rw [← hI]
    have HIe := Lib.hid hI
    by_cases hlt : 2 * k + 1 < n
    · have t0 : decide (I ≤ (n : Int)) = true := decide_eq_true (by omega)
      have y0 : (0 : Int) ≤ I := by omega
      have y1 : I ≤ 100000 := by omega
      obtain ⟨K1, hK1⟩ : ∃ K1 : Nat, K1 = k + 1 := ⟨_, rfl⟩
      obtain ⟨J, hJ⟩ : ∃ J : Nat, J = 2 * k + 1 := ⟨_, rfl⟩
      have q1 : I / 2 = (K1 : Int) := by omega
      have q1' : I.tdiv 2 = (K1 : Int) := by rw [Int.tdiv_eq_ediv_of_nonneg (by omega)]; exact q1
      have q2 : (K1 : Int) - 1 = (k : Int) := by omega
      have q3 : I - 1 = (J : Int) := by omega
      have x0 : (0 : Int) ≤ (k : Int) := by omega
      have x1 : (k : Int) < (n : Int) := by omega
      have z0 : (0 : Int) ≤ (J : Int) := by omega
      have z1 : (J : Int) < (n : Int) := by omega
      have HFw := Lib.hid (HF.out.drawn M.lo hD)
      obtain ⟨bb, off, rfl, d1, hbb⟩ := HR.out k (by omega)
      obtain ⟨bb', off', e', d2, _⟩ := HR.out J (by omega)
      simp only [Option.some.injEq, Addr.mk.injEq] at e'
      obtain ⟨rfl, rfl, _⟩ := e'
      replace d1 := (hD.below w.heap.size).cell (p := ⟨bb, off + k, none⟩) hbb |>.trans d1
      replace d2 := (hD.below w.heap.size).cell (p := ⟨bb, off + J, none⟩) hbb |>.trans d2
      have HEl := Lib.hid (Fld.fmul_lt m M.lo M.hi (Fld.el m (z k)) (Fld.el m (z k)) (Fld.el_lt m M.hi _))
      obtain ⟨X, hX⟩ : ∃ X, X = Fld.fmul m (Fld.el m (z k)) (Fld.el m (z k)) := ⟨_, rfl⟩
      have HM : Hid (∀ nn, Calls Tryz.prog 31 #[.pointer (some ⟨s, 0, none⟩), .int .i64 (z k), .int .i64 (z k)] (wr.drewN nn) fun e w' => e = .returned (.int .i64 (h X)) ∧ Drawn (wr.drewN nn) w') := fun nn => by
        rw [hX]; exact Fld.mul_any M.lo M.hi _ _ _ (HFw.out.drawn M.lo (Drawn.mk wr nn))
      have HAd : Hid (∀ nn, Calls Tryz.prog 30 #[.pointer (some ⟨s, 0, none⟩), .int .i64 (h X), .int .i64 (z J)] (wr.drewN nn) fun e w' => e = .returned (.int .i64 (h (X ^^^ Fld.el m (z J)))) ∧ wr.drewN nn = w') := fun nn => by
        have := Fld.add_any M.lo M.hi (h X) (z J) _ (HFw.out.drawn M.lo (Drawn.mk wr nn))
        rw [Fld.el_of m M.hi X (by rw [hX]; exact HEl.out)] at this
        exact this
      by_cases h0 : Fld.fmul m (Fld.el m (z k)) (Fld.el m (z k)) = Fld.el m (z (2 * k + 1))
      · have HA2 : Hid (∀ i, i < k + 1 → Fld.fmul m (Fld.el m (z i)) (Fld.el m (z i)) = Fld.el m (z (2 * i + 1))) := fun i hi => by
          by_cases e : i = k
          · rw [e]; exact h0
          · exact HA.out i (by omega)
        have t1 : (h (X ^^^ Fld.el m (z J)) == 0) = true := by rw [hX, h0, hJ, BitVec.xor_self]; rfl
        have HI : Hid (2 * (k + 1) ≤ n + 1) := by show _ ≤ _; omega
        have HGI : Hid (n - (k + 1) < n - k) := by show _ < _; omega
        have HI2 : Hid (I + 2 = 2 * ((k + 1 : Nat) : Int) + 2) := by show _ = _; omega
        generalize h (X ^^^ Fld.el m (z J)) = R at HAd t1
        generalize h X = XX at HM HAd
        generalize z k = zk at d1 HM
        generalize z J = zj at d2 HAd
        clear h0 hlt HA hX HEl hK1 hJ hI hg hk hD x0 x1
        go_wp2_with fail
        go_quiet ((first | (go_at_call 31; exact quiet_drawn (HM.out _)) | (go_at_call 30; exact quiet_same (HAd.out _))))
        have hd2 : Drawn w (wr.drewN nq) := HD.out.trans (Drawn.mk _ _)
        generalize wr.drewN nq = w5 at hd2 ⊢
        clear HM HAd d1 d2
        go_wp2_with fail
        go_roundg (n - (k + 1))
        case measure => have := HG.out; have := HGI.out; omega
        case rel => exact ⟨k + 1, rfl, HI.out, by rw [HI2.out], HA2, hd2⟩
      · have t1 : (h (X ^^^ Fld.el m (z J)) == 0) = false := Fld.h_not fun e => h0 (by
          rw [hJ, hX] at e
          have := congrArg (fun y => y ^^^ Fld.el m (z (2 * k + 1))) e
          simp only [BitVec.xor_assoc, BitVec.xor_self, BitVec.xor_zero] at this
          rw [this]; exact BitVec.zero_xor)
        have HFl : Hid (b = false) := by
          show _ = _
          rw [HBb.out]
          exact decide_eq_false fun h => h0 (h k (by omega) hlt)
        generalize h (X ^^^ Fld.el m (z J)) = R at HAd t1
        generalize h X = XX at HM HAd
        generalize z k = zk at d1 HM
        generalize z J = zj at d2 HAd
        clear h0 hlt HA hX HEl hK1 hJ hI hg hk hD x0 x1
        go_wp2_with fail
        go_quiet ((first | (go_at_call 31; exact quiet_drawn (HM.out _)) | (go_at_call 30; exact quiet_same (HAd.out _))))
        have hd2 : Drawn w (wr.drewN nq) := HD.out.trans (Drawn.mk _ _)
        generalize wr.drewN nq = w5 at hd2 ⊢
        clear HM HAd d1 d2
        go_wp2_with fail
        go_ret
        exact ⟨ret_bool HFl.out.symm, hd2⟩
    · have t0 : decide (I ≤ (n : Int)) = false := decide_eq_false (by omega)
      have HFl : Hid (b = true) := by
        show _ = _
        rw [HBb.out]
        exact decide_eq_true fun i _ hi => HA.out i (by omega)
      clear HA hI hg hk hD hlt
      go_wp2_with fail
      go_ret
      exact ⟨ret_bool HFl.out.symm, HD.out⟩
end
end Go.Proofs.YthhhpaiednpdkaaGreatDoor.Syn
/- The examples of chapter 6, as the statements ask them first of all. By the verifier of shale. -/
namespace Go.Proofs.YthhhpaiednpdkaaGreatDoor.Enc
open Go Go.RowKit Bin Cos
set_option linter.unusedVariables false
instance mid5 : Pl.Mid 5 := ⟨by decide, by decide⟩
instance mid4 : Pl.Mid 4 := ⟨by decide, by decide⟩
theorem may5 : May 5 2 2 := ⟨by decide, by decide, by decide, by decide, by decide +kernel, by decide +kernel⟩
theorem no4 : MayNot 4 2 1 := ⟨by decide, by decide, by decide, by decide, by decide +kernel⟩
theorem d5 : deg 5 2 = 10 := by decide +kernel
theorem lit8 (w W : World) (Y : List (BitVec 8)) (hW : W = w.alloc (obj8 Y)) : Blk8 W w.heap.size Y ∧ Below w.heap.size w W := by
  subst hW
  exact ⟨Blk8.new w Y, (Below.refl _ _).alloc (Nat.le_refl _) _⟩
theorem g5a : byN (prt (gen 5 2) (deg 5 2) (val [0#8, 0#8])) (pb (deg 5 2)) = [0#8, 0#8] := by decide +kernel
theorem g5b : byN (prt (gen 5 2) (deg 5 2) (val [1#8, 0#8])) (pb (deg 5 2)) = [105#8, 3#8] := by decide +kernel
end Go.Proofs.YthhhpaiednpdkaaGreatDoor.Enc
/- Small words for the walks of stage 6's statements. By the verifier of shale. -/
namespace Go.Proofs.YthhhpaiednpdkaaGreatDoor.Enc
open Go Go.RowKit Bin Cos
set_option linter.unusedVariables false
theorem keepB {w w' : World} {g : Nat} {o : Obj} (h : w.heap[g]? = some o) (b : Below w.heap.size w w') : w'.heap[g]? = some o := (b.block g (lt_of_block h)).trans h
theorem keepZ {w w' : World} {g : Nat} {l : List (BitVec 8)} (h : Blk8 w g l) (b : Below w.heap.size w w') : Blk8 w' g l := (b.block g h.lt).trans h
theorem newCd (w W : World) (a b c d e : Value) (h : w.alloc (.cells #[a, b, c, d, e] 27 (0, 0)) = W) : W.heap[w.heap.size]? = some (cdO a b c d e) ∧ Below w.heap.size w W := by
  subst h
  exact ⟨heap_alloc_new w _, (Below.refl _ _).alloc (Nat.le_refl _) _⟩
theorem pb_room {D R : Nat} (h : R < 2 ^ D) : R < 2 ^ (8 * pb D) := Nat.lt_of_lt_of_le h (Nat.pow_le_pow_right (by decide) (by unfold pb; omega))
theorem parV {w : World} {g D R : Nat} (k : Nat) (h : Blk8 w g (byN R (pb D))) (hR : R < 2 ^ D) (hk : pb D ≤ k) (hk2 : k ≤ 100000) : PolV w k (some ⟨g, 0, none⟩) (pb D) (pb D) R :=
  ⟨_, blk_pol h (byN_length _ _).symm (by omega), val_byN (pb_room hR), hk⟩
theorem blkV {w : World} {g n : Nat} {X : List (BitVec 8)} (k : Nat) (h : Blk8 w g X) (hn : n = X.length) (hk : n ≤ k) (hk2 : k ≤ 100000) : PolV w k (some ⟨g, 0, none⟩) n n (val X) := ⟨X, blk_pol h hn (by omega), rfl, hk⟩
theorem deg_degZ {g D : Nat} (h : Deg g D) : degZ g = (D : Int) := by
  rw [degZ_ne (by have := h.pos; omega), h.log2]
end Go.Proofs.YthhhpaiednpdkaaGreatDoor.Enc
/- A turned coefficient, in data and parity. By the verifier of shale. -/
namespace Go.Proofs.YthhhpaiednpdkaaGreatDoor.Enc
open Go Go.RowKit Bin Cos
set_option linter.unusedVariables false
/-- what turning coefficient k turns in the data, and in the parity. -/
def ed (D k : Nat) : Nat := if k < D then 0 else 2 ^ (k - D)
def ep (D k : Nat) : Nat := if k < D then 2 ^ k else 0
theorem ep_lt (D k : Nat) : ep D k < 2 ^ D := by
  unfold ep
  split
  · exact Nat.pow_lt_pow_right (by decide) (by assumption)
  · exact Nat.two_pow_pos D
theorem e_word (D k : Nat) : wrd D (ed D k) (ep D k) = 2 ^ k := by
  unfold wrd ed ep
  by_cases h : k < D
  · rw [if_pos h, if_pos h, Nat.zero_shiftLeft, Nat.zero_xor]
  · rw [if_neg h, if_neg h, Nat.xor_zero, Nat.shiftLeft_eq, ← Nat.pow_add, show k - D + D = k by omega]
theorem wrd_xor (D a b c d : Nat) : wrd D (a ^^^ b) (c ^^^ d) = wrd D a c ^^^ wrd D b d := by
  unfold wrd
  rw [shl_xor, xx]
theorem xor_lc {a b c : Nat} (h : a ^^^ b = a ^^^ c) : b = c := by
  have := congrArg (fun z => a ^^^ z) h
  simp only [← Nat.xor_assoc, Nat.xor_self, Nat.zero_xor] at this
  exact this
theorem e_inj {D k j : Nat} (h1 : ed D k = ed D j) (h2 : ep D k = ep D j) : k = j := by
  have h : 2 ^ k = 2 ^ j := by rw [← e_word D k, ← e_word D j, h1, h2]
  exact (Nat.pow_right_inj (by decide)).1 h
theorem pop_e {D k n : Nat} (hk : k < 8 * n + D) : pop (ed D k) (8 * n) + pop (ep D k) (8 * pb D) = 1 := by
  unfold ed ep
  by_cases h : k < D
  · rw [if_pos h, if_pos h, pop_zero, pop_one, if_pos (by unfold pb; omega)]
  · rw [if_neg h, if_neg h, pop_zero, pop_one, if_pos (by omega)]
section
variable {m : Nat} [M : Pl.Mid m]
/-- one turned coefficient makes a right word wrong. -/
theorem turn_wrong {t n k X X' : Nat} {Y' : List (BitVec 8)} (ht : 1 ≤ t) (hn : n + deg m t ≤ sz m) (hk : k < n + deg m t) (hX : X' = X ^^^ ed (deg m t) k)
    (hY : val Y' = prt (gen m t) (deg m t) X ^^^ ep (deg m t) k) : byN (prt (gen m t) (deg m t) X') (pb (deg m t)) ≠ Y' := by
  intro h
  have hg := gen_deg (m := m) t
  have hv : val Y' = prt (gen m t) (deg m t) X' := by rw [← h, val_byN (pb_room (prt_lt hg _))]
  have hw : wrd (deg m t) X' (val Y') = wrd (deg m t) X (prt (gen m t) (deg m t) X) ^^^ 2 ^ k := by rw [hX, hY, wrd_xor, e_word]
  refine turned (m := m) (t := t) (X := X) (e := 2 ^ k) (n := n) (Nat.pow_lt_pow_right (by decide) hk) (by have := Nat.two_pow_pos k; omega) hn ?_ ?_
  · rw [pop_one, if_pos hk]; omega
  · rw [← hw, hv]; exact wrd_dvd hg X'
end
theorem FlipAt.ed {D n P k vl vq : Nat} {w w' : World} {e : Ending} (h : FlipAt D n P k vl vq w e w') :
    ∃ a1 c1 X a2 c2 Y, e = .returned (.tuple #[.slice a1 n c1, .slice a2 P c2, .nilIface]) ∧ NewP w w' a1 n c1 X ∧ NewP w w' a2 P c2 Y ∧ val X = vl ^^^ ed D k ∧ val Y = vq ^^^ ep D k ∧ Below w.heap.size w w' := h
theorem NewP.keep {w0 w w' : World} {a : Option Addr} {n c : Nat} {X : List (BitVec 8)} (h : NewP w0 w a n c X) (b : Below w.heap.size w w') : NewP w0 w' a n c X := by
  refine ⟨h.hlen, h.hcap, h.hmost, ?_⟩
  rcases h.own with h | ⟨g, e, hg, hx⟩
  · exact Or.inl h
  · exact Or.inr ⟨g, e, hg, hx.below b hx.lt⟩
theorem pop_le (v n : Nat) : pop v n ≤ n := by
  unfold pop plc
  have := List.length_filter_le (fun i => v.testBit i) (List.range n)
  rwa [List.length_range] at this
/-- a number brought into 0 .. N - 1 as the statements do, N no literal. -/
theorem norm_var (z : Int) (N : Nat) (h0 : 0 < N) (hN : N ≤ 1000000) : -(N : Int) < z.tmod (N : Int) ∧ z.tmod (N : Int) < (N : Int) ∧ ∃ k : Nat, k < N ∧ (z.tmod (N : Int) + (N : Int)).tmod (N : Int) = (k : Int) := by
  have h1 : z.tmod (N : Int) < (N : Int) := Int.tmod_lt_of_pos z (by omega)
  have h2 : -(N : Int) < z.tmod (N : Int) := by
    have := Int.tmod_lt_of_pos (-z) (b := (N : Int)) (by omega)
    rw [Int.neg_tmod] at this
    omega
  have h3 := Int.tmod_lt_of_pos (z.tmod (N : Int) + (N : Int)) (b := (N : Int)) (by omega)
  have h4 := Int.tmod_nonneg (N : Int) (a := z.tmod (N : Int) + (N : Int)) (by omega)
  exact ⟨h2, h1, ((z.tmod (N : Int) + (N : Int)).tmod (N : Int)).toNat, by omega, by omega⟩
end Go.Proofs.YthhhpaiednpdkaaGreatDoor.Enc
/- The examples of chapter 7, as the statements ask them first of all; small words. By the verifier of shale. -/
namespace Go.Proofs.YthhhpaiednpdkaaGreatDoor.Syn
open Go Go.RowKit Bin Cos Enc Bits16
set_option linter.unusedVariables false
theorem keepI {w w' : World} {g : Nat} {l : List Int} (h : Blk64 w g l) (b : Below w.heap.size w w') : Blk64 w' g l := (b.block g h.lt).trans h
theorem nth_ints (l : List Nat) (i : Nat) : nth64 (Bin.ints l) i = ((l.getD i 0 : Nat) : Int) := by
  unfold nth64 Bin.ints
  rw [List.getD_eq_getElem?_getD, List.getD_eq_getElem?_getD, List.getElem?_map]
  cases l[i]? <;> rfl
theorem ints_len (l : List Nat) : (Bin.ints l).length = l.length := by unfold Bin.ints; rw [List.length_map]
theorem blkN {w : World} {g n : Nat} {l : List Nat} (h : Blk64 w g (Bin.ints l)) (hn : n = l.length) : RowN w (some ⟨g, 0, none⟩) n l := by
  refine ⟨hn, fun i hi => ⟨g, 0, rfl, ?_, h.lt⟩⟩
  rw [Nat.zero_add, h.cell (by rw [ints_len]; omega), nth_ints]
theorem blkZ {w : World} {g n : Nat} {l : List Nat} (h : Blk64 w g (Bin.ints l)) (hn : n = l.length) : RowZ w (some ⟨g, 0, none⟩) n (fun i => ((l.getD i 0 : Nat) : Int)) := fun i hi => (blkN h hn).row i hi
theorem blkI {w : World} {g n : Nat} {l : List Int} (h : Blk64 w g l) (hn : n = l.length) : RowZ w (some ⟨g, 0, none⟩) n (nth64 l) := fun i hi => ⟨g, 0, rfl, by rw [Nat.zero_add]; exact h.cell (by omega), h.lt⟩
theorem litI (w W : World) (Y : List Int) (hW : W = w.alloc (obj64 Y)) : Blk64 W w.heap.size Y ∧ Below w.heap.size w W := by
  subst hW
  exact ⟨Blk64.new w Y, (Below.refl _ _).alloc (Nat.le_refl _) _⟩
theorem rowN_nil (w : World) : RowN w none 0 [] := ⟨rfl, fun i hi => by omega⟩
theorem syn5a : syn 5 (xs []) 4 = [0, 0, 0, 0] := by decide +kernel
theorem syn5b : syn 5 (xs [0]) 4 = [1, 1, 1, 1] := by decide +kernel
theorem syn5c : syn 5 (xs [1]) 4 = [2, 4, 8, 16] := by decide +kernel
theorem clean_of {m v n g : Nat} [M : Pl.Mid m] {w : World} (h : Blk64 w g (Bin.ints (syn m v n))) (hn : n ≤ 100000) :
    Calls Tryz.prog 15 #[.slice (some ⟨g, 0, none⟩) n n] w fun e w' => e = .returned (.bool (decide (∀ j, j < n → sv m v (j + 1) = 0))) ∧ w = w' := by
  refine (clean_any _ n n _ w (blkZ h (syn_length v n).symm) hn).mono ?_
  rintro e w' ⟨rfl, rfl⟩
  refine ⟨ret_bool ?_, rfl⟩
  apply decide_eq_decide.2
  have e : ∀ j, j < n → (((syn m v n).getD j 0 : Nat) : Int) = Bits16.h (sv m v (j + 1)) := fun j hj => by
    unfold syn
    rw [List.getD_eq_getElem?_getD, List.getElem?_map, List.getElem?_range hj]; rfl
  constructor
  · intro hh j hj
    have := hh j hj
    rw [e j hj] at this
    exact h_inj _ 0 this
  · intro hh j hj
    rw [e j hj, hh j hj]; rfl
set_option maxRecDepth 100000 in
set_option maxHeartbeats 2000000 in
theorem first7_any (w : World) (y u : Addr) (E : ErrAt w 2 y) (U : ErrAt w 1 u) :
    Calls Tryz.prog 4 #[] w fun e w' => e = .returned (.bool true) ∧ Below w.heap.size w w' := by
  go_enter Tryz.func4, Tryz.ntmps4
  go_wp2_with fail
  refine (new_any (m := 5) may5 w y E).mono ?_
  rintro e w1 ⟨s, rfl, C, b, _⟩
  replace U := U.below b
  have B := b
  clear b E
  go_wp2_with fail
  refine (bits_any (m := 5) w1 s C (by decide) (by decide) none 0 0 [] (rowN_nil w1) (by decide) (fun p hp => by cases hp)).mono ?_
  rintro e w2 ⟨g2, rfl, P2, b, _⟩
  rw [syn5a] at P2
  replace U := U.below b
  replace C := C.below b
  replace B := B.trans (b.mono B.size)
  clear b
  go_wp2_with fail
  generalize hw : w2.alloc (.cells #[.int .i64 0] 3 (0, 0)) = w3
  obtain ⟨h3, b⟩ := litI w2 w3 (Bin.ints [0]) hw.symm
  clear hw
  replace P2 := keepI P2 b
  replace U := U.below b
  replace C := C.below b
  replace B := B.trans (b.mono B.size)
  clear b
  refine (bits_any (m := 5) w3 s C (by decide) (by decide) _ 1 1 [0] (blkN h3 rfl) (by decide) (fun p hp => by simp at hp; subst hp; decide +kernel)).mono ?_
  rintro e w4 ⟨g4, rfl, P4, b, _⟩
  rw [syn5b] at P4
  replace P2 := keepI P2 b
  replace U := U.below b
  replace C := C.below b
  replace B := B.trans (b.mono B.size)
  clear b h3
  go_wp2_with fail
  generalize hw : w4.alloc (.cells #[.int .i64 1] 3 (0, 0)) = w5
  obtain ⟨h5, b⟩ := litI w4 w5 (Bin.ints [1]) hw.symm
  clear hw
  replace P2 := keepI P2 b
  replace P4 := keepI P4 b
  replace U := U.below b
  replace C := C.below b
  replace B := B.trans (b.mono B.size)
  clear b
  refine (bits_any (m := 5) w5 s C (by decide) (by decide) _ 1 1 [1] (blkN h5 rfl) (by decide) (fun p hp => by simp at hp; subst hp; decide +kernel)).mono ?_
  rintro e w6 ⟨g6, rfl, P6, b, _⟩
  rw [syn5c] at P6
  replace P2 := keepI P2 b
  replace P4 := keepI P4 b
  replace U := U.below b
  replace C := C.below b
  replace B := B.trans (b.mono B.size)
  clear b h5
  go_wp2_with fail
  generalize hw : w6.alloc (.cells #[.int .i64 26] 3 (0, 0)) = w7
  obtain ⟨h7, b⟩ := litI w6 w7 (Bin.ints [26]) hw.symm
  clear hw
  replace P2 := keepI P2 b
  replace P4 := keepI P4 b
  replace P6 := keepI P6 b
  replace U := U.below b
  replace C := C.below b
  replace B := B.trans (b.mono B.size)
  clear b
  refine (bits_bad (m := 5) w7 s C (by decide) (by decide) _ 1 1 _ 0 (blkZ (l := [26]) h7 rfl) (by decide) (by decide) (fun i hi => by omega) (Or.inr (by show ((8 * 2 + deg 5 2 : Nat) : Int) ≤ 26; rw [d5]; decide)) u U).mono ?_
  rintro e w8 ⟨rfl, d⟩
  have b := d.below w7.heap.size
  replace P2 := keepI P2 b
  replace P4 := keepI P4 b
  replace P6 := keepI P6 b
  replace U := U.below b
  replace B := B.trans (b.mono B.size)
  clear b h7 C d
  go_wp2_with fail
  refine (clean_any _ 4 4 _ w8 (blkZ (l := [0, 0, 0, 0]) P2 rfl) (by decide)).mono ?_
  rintro e w' ⟨rfl, rfl⟩
  rw [decide_eq_true (fun i hi => by rcases i with _ | _ | _ | _ | i <;> first | rfl | omega)]
  clear P2
  go_wp2_with fail
  generalize hw : w8.alloc (.cells #[.int .i64 1, .int .i64 1, .int .i64 1, .int .i64 1] 3 (0, 0)) = w9
  obtain ⟨h9, b⟩ := litI w8 w9 (Bin.ints [1, 1, 1, 1]) hw.symm
  clear hw
  replace P4 := keepI P4 b
  replace P6 := keepI P6 b
  replace U := U.below b
  replace B := B.trans (b.mono B.size)
  clear b
  refine (sameInts_any _ 4 4 [1, 1, 1, 1] _ 4 4 [1, 1, 1, 1] w9 (blkN P4 rfl) (blkN h9 rfl) (by decide)).mono ?_
  rintro e w10 ⟨rfl, d⟩
  rw [decide_eq_true rfl]
  have b := d.below w9.heap.size
  replace P6 := keepI P6 b
  replace U := U.below b
  replace B := B.trans (b.mono B.size)
  clear b d P4 h9
  go_wp2_with fail
  generalize hw : w10.alloc (.cells #[.int .i64 2, .int .i64 4, .int .i64 8, .int .i64 16] 3 (0, 0)) = w11
  obtain ⟨h11, b⟩ := litI w10 w11 (Bin.ints [2, 4, 8, 16]) hw.symm
  clear hw
  replace P6 := keepI P6 b
  replace U := U.below b
  replace B := B.trans (b.mono B.size)
  clear b
  refine (sameInts_any _ 4 4 [2, 4, 8, 16] _ 4 4 [2, 4, 8, 16] w11 (blkN P6 rfl) (blkN h11 rfl) (by decide)).mono ?_
  rintro e w12 ⟨rfl, d⟩
  rw [decide_eq_true rfl]
  have b := d.below w11.heap.size
  replace U := U.below b
  replace B := B.trans (b.mono B.size)
  clear b d P6 h11
  have e1 := U.1
  unfold Sent at e1
  have q1 := eql_err u
  go_wp2_with fail
  go_ret
  exact ⟨rfl, B⟩
end Go.Proofs.YthhhpaiednpdkaaGreatDoor.Syn
/- The walk over package syndrome's Add. By the verifier of shale. -/
namespace Go.Proofs.YthhhpaiednpdkaaGreatDoor.Syn
open Go Go.RowKit Bin Cos Enc Bits16
set_option linter.unusedVariables false
theorem size64 : (Tryz.prog.info? 3).map (·.size) = some 1 := by kernel_rfl
theorem cells64_one (l : List Int) : ∀ u ∈ cells64 l, u.oneCell' = true := by
  intro u hu
  unfold cells64 at hu
  rw [List.mem_map] at hu
  obtain ⟨x, _, rfl⟩ := hu
  rfl
def zl (n : Nat) (z : Nat → Int) : List Int := (List.range n).map z
theorem zl_length (n : Nat) (z : Nat → Int) : (zl n z).length = n := by unfold zl; rw [List.length_map, List.length_range]
theorem splice_zl (n : Nat) (z : Nat → Int) : splice (cells64 (List.replicate n 0)) 0 (cells64 (zl n z)) = cells64 (zl n z) := by
  unfold splice
  rw [List.take_zero, List.nil_append, Nat.zero_add, cells64_length, zl_length, List.drop_eq_nil_of_le (by rw [cells64_length, List.length_replicate]; exact Nat.le_refl _), List.append_nil]
theorem src_zl {w : World} {a : Option Addr} {n : Nat} {z : Nat → Int} (h : RowZ w a n z) (h0 : 0 < n) : ∃ ad, a = some ad ∧ ∀ j v, (cells64 (zl n z))[j]? = some v → w.cell? (ad.add j) = some v := by
  obtain ⟨bb, off, rfl, _, _⟩ := h 0 h0
  refine ⟨_, rfl, fun j v hv => ?_⟩
  have hj : j < n := by
    have := (List.getElem?_eq_some_iff.1 hv).1
    rwa [cells64_length, zl_length] at this
  obtain ⟨bb', off', e, c, _⟩ := h j hj
  simp only [Option.some.injEq, Addr.mk.injEq] at e
  obtain ⟨rfl, rfl, _⟩ := e
  rw [add_row, c]
  unfold cells64 zl at hv
  rw [List.getElem?_map, List.getElem?_map, List.getElem?_range hj] at hv
  simpa using hv
/-- the sums place by place, of which the first k are there. -/
def adL (n : Nat) (z y : Nat → Int) (k : Nat) : List Int := (List.range n).map fun i => if i < k then bits .xor .i64 (z i) (y i) else z i
theorem adL_length (n : Nat) (z y : Nat → Int) (k : Nat) : (adL n z y k).length = n := by unfold adL; rw [List.length_map, List.length_range]
theorem adL_zero (n : Nat) (z y : Nat → Int) : zl n z = adL n z y 0 := by
  unfold adL zl
  exact List.map_congr_left fun i _ => (if_neg (by omega)).symm
theorem adL_nth {n k i : Nat} {z y : Nat → Int} (hi : i < n) : nth64 (adL n z y k) i = if i < k then bits .xor .i64 (z i) (y i) else z i := by
  unfold nth64 adL
  rw [List.getD_eq_getElem?_getD, List.getElem?_map, List.getElem?_range hi]; rfl
theorem adL_set (n k : Nat) (z y : Nat → Int) : (adL n z y k).set k (bits .xor .i64 (z k) (y k)) = adL n z y (k + 1) := by
  unfold adL
  apply List.ext_getElem
  · simp
  · intro i h1 h2
    rw [List.getElem_set]
    by_cases e : k = i
    · subst e; simp
    · rw [if_neg e]
      simp only [List.getElem_map, List.getElem_range]
      by_cases h3 : i < k
      · rw [if_pos h3, if_pos (by omega)]
      · rw [if_neg h3, if_neg (by omega)]
/-- the sums, in new memory. -/
def AddAt (n : Nat) (z y : Nat → Int) (k : Nat) (w : World) (e : Ending) (w' : World) : Prop :=
  ∃ g, e = .returned (.slice (some ⟨g, 0, none⟩) n n) ∧ Blk64 w' g (adL n z y k) ∧ Below w.heap.size w w' ∧ w.heap.size ≤ g
set_option maxRecDepth 100000 in
set_option maxHeartbeats 1000000 in
theorem add_long (a1 : Option Addr) (n1 c1 : Nat) (z1 : Nat → Int) (a2 : Option Addr) (n2 c2 : Nat) (z2 : Nat → Int) (w : World) (h1 : RowZ w a1 n1 z1) (h2 : RowZ w a2 n2 z2) (k1 : n1 ≤ 100000) (k2 : n2 ≤ 100000) (hlen : n2 ≤ n1) :
    Calls Tryz.prog 14 #[.slice a1 n1 c1, .slice a2 n2 c2] w (AddAt n1 z1 z2 n2 w) := by
  have HL : Hid (RowZ w a1 n1 z1) := h1
  have HS : Hid (RowZ w a2 n2 z2) := h2
  have hle : n2 ≤ n1 := by omega
  have t0 : decide ((n1 : Int) < (n2 : Int)) = false := decide_eq_false (by omega)
  have hmk := made64 w n1 (by omega)
  have b0 : Below w.heap.size w (w.alloc (obj64 (List.replicate n1 0))) := (Below.refl _ _).alloc (Nat.le_refl _) _
  have B0 := Lib.hid b0
  have HCB : Hid ((w.alloc (obj64 (List.replicate n1 0))).heap[w.heap.size]? = some (.cells (cells64 (List.replicate n1 0)).toArray 3 (0, 0))) := Blk64.new w (List.replicate n1 0)
  have hc1 : (cells64 (zl n1 z1)).length = Nat.min n1 n1 := by rw [cells64_length, zl_length]; exact (Nat.min_self _).symm
  have hc2 : 0 + (cells64 (zl n1 z1)).length ≤ (cells64 (List.replicate n1 0)).length := by rw [cells64_length, zl_length, cells64_length, List.length_replicate]; omega
  have hc3 : 0 < (cells64 (zl n1 z1)).length → (some ⟨w.heap.size, 0, none⟩ : Option Addr) = some ⟨w.heap.size, 0, none⟩ ∧ ∃ ad, a1 = some ad ∧ ∀ j v, (cells64 (zl n1 z1))[j]? = some v → (w.alloc (obj64 (List.replicate n1 0))).cell? (ad.add j) = some v := fun h =>
    ⟨rfl, src_zl (fun i hi => by
      obtain ⟨bb, off, e, c, hb⟩ := HL.out i hi
      exact ⟨bb, off, e, (b0.cell (p := ⟨bb, off + i, none⟩) hb).trans c, Nat.lt_of_lt_of_le hb b0.size⟩) (by rw [cells64_length, zl_length] at h; exact h)⟩
  have HC := Lib.hid (And.intro hc1 (And.intro hc2 hc3))
  have HLE := Lib.hid hlen
  clear hc1 hc2 hc3 h1 h2 b0 hlen
  go_enter Tryz.func14, Tryz.ntmps14
  go_wp2_with ((with_reducible show wpList _ _ _ _ _ _); refine wpList_copy_splice (o := ⟨some 20, _, _, _, _, _⟩) rfl (.tmp 18) (.tmp 19) 23 23 rfl 3 Tryz.underlying23 size64 (some ⟨w.heap.size, 0, none⟩) a1 n1 n1 n1 c1 rfl rfl w.heap.size 0 (cells64 (List.replicate n1 0)) 3 HCB.out (cells64 (zl n1 z1)) HC.out.1 HC.out.2.2 HC.out.2.1 (cells64_one _) w.heap.size w B0.out (Nat.le_refl _) ?_; intro w2 hw2 hb2)
  have hX0 : Blk64 w2 w.heap.size (adL n1 z1 z2 0) := by
    have := hw2.out
    rw [splice_zl, adL_zero _ _ z2] at this
    exact this
  have HX := Lib.hid hX0
  have HB2 := Lib.hid hb2
  clear hw2 hmk hX0 hb2 HCB HC B0 t0
  go_wp2_with fail
  go_loopg [23] n2 (fun gh s23 wx => ∃ (k : Nat), gh = n2 - k ∧ k ≤ n2 ∧ s23 = .int .i64 (k : Int) ∧ Blk64 wx w.heap.size (adL n1 z1 z2 k) ∧ Below w.heap.size w wx)
  case atStart => exact ⟨0, rfl, Nat.zero_le _, rfl, HX.out, HB2.out⟩
  case round =>
    clear HX HB2
    obtain ⟨k, hg, hk, rfl, hK, hB⟩ := hrel
    have HG := Lib.hid hg
    clear hg
    have HBl := Lib.hid hB
    have HK := Lib.hid hK
    by_cases hlt : k < n2
    · have x1 : (k : Int) < (n2 : Int) := by omega
      have x0 : (0 : Int) ≤ (k : Int) := by omega
      have y1 : (k : Int) < (n1 : Int) := by omega
      have HI : Hid (k + 1 ≤ n2) := hlt
      obtain ⟨bb, off, ea, d1, hbb⟩ := HS.out k hlt
      replace d1 := hB.cell (p := ⟨bb, off + k, none⟩) hbb |>.trans d1
      have ck := hK.cell (i := k) (by rw [adL_length]; omega)
      rw [adL_nth (by omega), if_neg (Nat.lt_irrefl k)] at ck
      have cf := fun i => hK.free i
      have hs := Blk64.set hK k (bits .xor .i64 (z1 k) (z2 k))
      rw [adL_set] at hs
      have HSt := Lib.hid hs
      subst ea
      generalize z1 k = q1 at ck HSt
      generalize z2 k = q2 at d1 HSt
      clear hlt hs hbb hK hB
      go_wp2_with fail
      go_roundg (n2 - (k + 1))
      case measure => have := HG.out; have := HI.out; omega
      case rel => exact ⟨k + 1, rfl, HI.out, by go_num, HSt.out, HBl.out.trans ((Only.setCell _ _ _).below (Nat.le_refl _))⟩
    · obtain rfl : k = n2 := by omega
      clear hK hB hlt
      go_wp2_with fail
      go_ret
      exact ⟨w.heap.size, rfl, HK.out, HBl.out, Nat.le_refl _⟩
set_option maxRecDepth 100000 in
set_option maxHeartbeats 1000000 in
theorem add_short (a1 : Option Addr) (n1 c1 : Nat) (z1 : Nat → Int) (a2 : Option Addr) (n2 c2 : Nat) (z2 : Nat → Int) (w : World) (h1 : RowZ w a1 n1 z1) (h2 : RowZ w a2 n2 z2) (k1 : n1 ≤ 100000) (k2 : n2 ≤ 100000) (hlen : n1 < n2) :
    Calls Tryz.prog 14 #[.slice a1 n1 c1, .slice a2 n2 c2] w (AddAt n2 z2 z1 n1 w) := by
  have HL : Hid (RowZ w a2 n2 z2) := h2
  have HS : Hid (RowZ w a1 n1 z1) := h1
  have hle : n1 ≤ n2 := by omega
  have t0 : decide ((n1 : Int) < (n2 : Int)) = true := decide_eq_true (by omega)
  have hmk := made64 w n2 (by omega)
  have b0 : Below w.heap.size w (w.alloc (obj64 (List.replicate n2 0))) := (Below.refl _ _).alloc (Nat.le_refl _) _
  have B0 := Lib.hid b0
  have HCB : Hid ((w.alloc (obj64 (List.replicate n2 0))).heap[w.heap.size]? = some (.cells (cells64 (List.replicate n2 0)).toArray 3 (0, 0))) := Blk64.new w (List.replicate n2 0)
  have hc1 : (cells64 (zl n2 z2)).length = Nat.min n2 n2 := by rw [cells64_length, zl_length]; exact (Nat.min_self _).symm
  have hc2 : 0 + (cells64 (zl n2 z2)).length ≤ (cells64 (List.replicate n2 0)).length := by rw [cells64_length, zl_length, cells64_length, List.length_replicate]; omega
  have hc3 : 0 < (cells64 (zl n2 z2)).length → (some ⟨w.heap.size, 0, none⟩ : Option Addr) = some ⟨w.heap.size, 0, none⟩ ∧ ∃ ad, a2 = some ad ∧ ∀ j v, (cells64 (zl n2 z2))[j]? = some v → (w.alloc (obj64 (List.replicate n2 0))).cell? (ad.add j) = some v := fun h =>
    ⟨rfl, src_zl (fun i hi => by
      obtain ⟨bb, off, e, c, hb⟩ := HL.out i hi
      exact ⟨bb, off, e, (b0.cell (p := ⟨bb, off + i, none⟩) hb).trans c, Nat.lt_of_lt_of_le hb b0.size⟩) (by rw [cells64_length, zl_length] at h; exact h)⟩
  have HC := Lib.hid (And.intro hc1 (And.intro hc2 hc3))
  have HLE := Lib.hid hlen
  clear hc1 hc2 hc3 h1 h2 b0 hlen
  go_enter Tryz.func14, Tryz.ntmps14
  go_wp2_with ((with_reducible show wpList _ _ _ _ _ _); refine wpList_copy_splice (o := ⟨some 20, _, _, _, _, _⟩) rfl (.tmp 18) (.tmp 19) 23 23 rfl 3 Tryz.underlying23 size64 (some ⟨w.heap.size, 0, none⟩) a2 n2 n2 n2 c2 rfl rfl w.heap.size 0 (cells64 (List.replicate n2 0)) 3 HCB.out (cells64 (zl n2 z2)) HC.out.1 HC.out.2.2 HC.out.2.1 (cells64_one _) w.heap.size w B0.out (Nat.le_refl _) ?_; intro w2 hw2 hb2)
  have hX0 : Blk64 w2 w.heap.size (adL n2 z2 z1 0) := by
    have := hw2.out
    rw [splice_zl, adL_zero _ _ z1] at this
    exact this
  have HX := Lib.hid hX0
  have HB2 := Lib.hid hb2
  clear hw2 hmk hX0 hb2 HCB HC B0 t0
  go_wp2_with fail
  go_loopg [23] n1 (fun gh s23 wx => ∃ (k : Nat), gh = n1 - k ∧ k ≤ n1 ∧ s23 = .int .i64 (k : Int) ∧ Blk64 wx w.heap.size (adL n2 z2 z1 k) ∧ Below w.heap.size w wx)
  case atStart => exact ⟨0, rfl, Nat.zero_le _, rfl, HX.out, HB2.out⟩
  case round =>
    clear HX HB2
    obtain ⟨k, hg, hk, rfl, hK, hB⟩ := hrel
    have HG := Lib.hid hg
    clear hg
    have HBl := Lib.hid hB
    have HK := Lib.hid hK
    by_cases hlt : k < n1
    · have x1 : (k : Int) < (n1 : Int) := by omega
      have x0 : (0 : Int) ≤ (k : Int) := by omega
      have y1 : (k : Int) < (n2 : Int) := by omega
      have HI : Hid (k + 1 ≤ n1) := hlt
      obtain ⟨bb, off, ea, d1, hbb⟩ := HS.out k hlt
      replace d1 := hB.cell (p := ⟨bb, off + k, none⟩) hbb |>.trans d1
      have ck := hK.cell (i := k) (by rw [adL_length]; omega)
      rw [adL_nth (by omega), if_neg (Nat.lt_irrefl k)] at ck
      have cf := fun i => hK.free i
      have hs := Blk64.set hK k (bits .xor .i64 (z2 k) (z1 k))
      rw [adL_set] at hs
      have HSt := Lib.hid hs
      subst ea
      generalize z2 k = q1 at ck HSt
      generalize z1 k = q2 at d1 HSt
      clear hlt hs hbb hK hB
      go_wp2_with fail
      go_roundg (n1 - (k + 1))
      case measure => have := HG.out; have := HI.out; omega
      case rel => exact ⟨k + 1, rfl, HI.out, by go_num, HSt.out, HBl.out.trans ((Only.setCell _ _ _).below (Nat.le_refl _))⟩
    · obtain rfl : k = n1 := by omega
      clear hK hB hlt
      go_wp2_with fail
      go_ret
      exact ⟨w.heap.size, rfl, HK.out, HBl.out, Nat.le_refl _⟩
end Go.Proofs.YthhhpaiednpdkaaGreatDoor.Syn
/- Small words for the walks of stage 7's statements. By the verifier of shale. -/
namespace Go.Proofs.YthhhpaiednpdkaaGreatDoor.Syn
open Go Go.RowKit Bin Cos Enc Bits16
set_option linter.unusedVariables false
theorem hxor64 (a c : BitVec 16) : bits .xor .i64 (h a) (h c) = h (a ^^^ c) := by
  show IntKind.i64.wrap ((BitVec.ofInt 64 (h a) ^^^ BitVec.ofInt 64 (h c)).toNat : Int) = _
  have ha := a.isLt
  have hc := c.isLt
  have hx : a.toNat ^^^ c.toNat < 2 ^ 16 := Nat.xor_lt_two_pow ha hc
  have e1 : (BitVec.ofInt 64 (h a)).toNat = a.toNat := by unfold h; rw [BitVec.toNat_ofInt]; omega
  have e2 : (BitVec.ofInt 64 (h c)).toNat = c.toNat := by unfold h; rw [BitVec.toNat_ofInt]; omega
  rw [BitVec.toNat_xor, e1, e2]
  have e3 : h (a ^^^ c) = ((a.toNat ^^^ c.toNat : Nat) : Int) := by unfold h; rw [BitVec.toNat_xor]
  rw [e3]
  exact IntWalk.i64_in _ (by omega)
/-- the xor of the first k. -/
def xrL (X Y : List (BitVec 8)) (n k : Nat) : List (BitVec 8) := (List.range n).map fun j => if j < k then nth8 X j ^^^ nth8 Y j else 0
theorem xrL_length (X Y : List (BitVec 8)) (n k : Nat) : (xrL X Y n k).length = n := by simp [xrL]
theorem xrL_zero (X Y : List (BitVec 8)) (n : Nat) : xrL X Y n 0 = List.replicate n 0 := by
  apply List.ext_getElem
  · simp [xrL]
  · intro i h1 h2; simp [xrL]
theorem xrL_set (X Y : List (BitVec 8)) (n k : Nat) (h : k < n) : (xrL X Y n k).set k (nth8 X k ^^^ nth8 Y k) = xrL X Y n (k + 1) := by
  apply List.ext_getElem
  · simp [xrL]
  · intro i h1 h2
    rw [List.getElem_set]
    simp only [xrL, List.getElem_map, List.getElem_range]
    by_cases e : k = i
    · subst e; rw [if_pos rfl, if_pos (by omega)]
    · rw [if_neg e]
      by_cases e2 : i < k
      · rw [if_pos e2, if_pos (by omega)]
      · rw [if_neg e2, if_neg (by omega)]
theorem xrL_val (X Y : List (BitVec 8)) (n : Nat) (h1 : X.length = n) (h2 : Y.length = n) : val (xrL X Y n n) = val X ^^^ val Y := by
  rw [← val_addL]
  congr 1
  unfold xrL addL
  rw [h1, h2, Nat.max_self]
  apply List.map_congr_left
  intro i hi
  rw [if_pos (List.mem_range.1 hi)]
section
variable {m : Nat} [M : Pl.Mid m]
theorem syn_at {v n i : Nat} (hi : i < n) : (((syn m v n).getD i 0 : Nat) : Int) = h (sv m v (i + 1)) := by
  unfold syn
  rw [List.getD_eq_getElem?_getD, List.getElem?_map, List.getElem?_range hi]; rfl
theorem adds_syn (a b n : Nat) : adL n (fun i => (((syn m a n).getD i 0 : Nat) : Int)) (fun i => (((syn m b n).getD i 0 : Nat) : Int)) n = Bin.ints (syn m (a ^^^ b) n) := by
  rw [← synP_all]
  unfold adL synP
  refine List.map_congr_left fun i hi => ?_
  rw [List.mem_range] at hi
  rw [if_pos hi, if_pos hi]
  simp only [syn_at hi]
  rw [hxor64, sv_xor]
theorem add_of {a b n g g' : Nat} {w : World} (h1 : Blk64 w g (Bin.ints (syn m a n))) (h2 : Blk64 w g' (Bin.ints (syn m b n))) (hn : n ≤ 100000) :
    Calls Tryz.prog 14 #[.slice (some ⟨g, 0, none⟩) n n, .slice (some ⟨g', 0, none⟩) n n] w fun e w' =>
      ∃ q, e = .returned (.slice (some ⟨q, 0, none⟩) n n) ∧ Blk64 w' q (Bin.ints (syn m (a ^^^ b) n)) ∧ Below w.heap.size w w' := by
  refine (add_long _ n n _ _ n n _ w (blkZ h1 (syn_length a n).symm) (blkZ h2 (syn_length b n).symm) hn hn (Nat.le_refl _)).mono ?_
  rintro e w' ⟨q, rfl, hq, b, _⟩
  rw [adds_syn] at hq
  exact ⟨q, rfl, hq, b⟩
theorem fits_of {s be ce bl v n g : Nat} {w : World} (F : Fld.FldAt m w s be ce bl) (h1 : Blk64 w g (Bin.ints (syn m v n))) (hn : n ≤ 100000) :
    Calls Tryz.prog 17 #[.pointer (some ⟨s, 0, none⟩), .slice (some ⟨g, 0, none⟩) n n] w fun e w' => e = .returned (.bool true) ∧ Drawn w w' := by
  refine (fits_any _ n n _ w F (blkZ h1 (syn_length v n).symm) hn).mono ?_
  rintro e w' ⟨rfl, d⟩
  refine ⟨ret_bool (decide_eq_true fun i hi hi2 => ?_), d⟩
  simp only [syn_at hi, syn_at hi2]
  rw [Fld.el_of m M.hi _ (sv_lt _ _), Fld.el_of m M.hi _ (sv_lt _ _), ← sv_sq]
  congr 1
theorem same_of {v u n g g' : Nat} {w : World} (h1 : Blk64 w g (Bin.ints (syn m v n))) (h2 : Blk64 w g' (Bin.ints (syn m u n))) (hn : n ≤ 100000) :
    Calls Tryz.prog 9 #[.slice (some ⟨g, 0, none⟩) n n, .slice (some ⟨g', 0, none⟩) n n] w fun e w' => e = .returned (.bool (decide (syn m v n = syn m u n))) ∧ Drawn w w' :=
  sameInts_any _ n n _ _ n n _ w (blkN h1 (syn_length v n).symm) (blkN h2 (syn_length u n).symm) hn
/-- the same values: the same sums of powers. -/
theorem syn_inj {v u n : Nat} (h : syn m v n = syn m u n) (j : Nat) (h1 : 1 ≤ j) (h2 : j ≤ n) : sv m v j = sv m u j := by
  have e := congrArg (fun l => ((l.getD (j - 1) 0 : Nat) : Int)) h
  simp only [syn_at (show j - 1 < n by omega), show j - 1 + 1 = j by omega] at e
  exact h_inj _ _ e
theorem ev_xor {t X Y U V : Nat} : ev m t (X ^^^ Y) (U ^^^ V) = ev m t X U ^^^ ev m t Y V := by
  unfold ev
  rw [prt_xor (gen_deg (m := m) t), Nat.xor_assoc, Nat.xor_assoc]
  congr 1
  rw [← Nat.xor_assoc, ← Nat.xor_assoc]
  congr 1
  exact Nat.xor_comm _ _
theorem ev_mod {t X Y U V : Nat} : ev m t (X ^^^ Y) (U ^^^ V) % 2 ^ deg m t = (ev m t X U % 2 ^ deg m t) ^^^ (ev m t Y V % 2 ^ deg m t) := by
  rw [ev_xor, Nat.xor_mod_two_pow]
end
end Go.Proofs.YthhhpaiednpdkaaGreatDoor.Syn
/- The reference's Clean, Fits, Of, Coefficient. By the verifier of shale. -/
namespace Go.Proofs.YthhhpaiednpdkaaGreatDoor.Syn
open Go Go.RowKit Bin Cos Enc Bits16
set_option linter.unusedVariables false
section
variable {m : Nat} [M : Pl.Mid m]
/-- Horner's step. -/
theorem sv_shift (v k j : Nat) : sv m (v >>> k) j = Fld.fmul m (sv m (v >>> (k + 1)) j) (Fld.pwZ m (j : Int)) ^^^ (if v.testBit k then 1 else 0) := by
  have e : v >>> k = pm (v >>> (k + 1)) 2 ^^^ (if v.testBit k then 1 else 0) := by
    rw [show pm (v >>> (k + 1)) 2 = (v >>> (k + 1)) <<< 1 from by rw [pm_step, show 2 / 2 = 1 by decide, pm_one, Nat.shiftLeft_eq]; simp; omega]
    apply Nat.eq_of_testBit_eq
    intro i
    rw [Nat.testBit_xor, Nat.testBit_shiftRight, Nat.testBit_shiftLeft, Nat.testBit_shiftRight]
    rcases i with _ | i
    · simp
      cases v.testBit k <;> rfl
    · have : (if v.testBit k then (1 : Nat) else 0).testBit (i + 1) = false := by
        split
        · exact Nat.testBit_lt_two_pow (by have := Nat.one_lt_two_pow (n := i + 1) (by omega); omega)
        · exact Nat.zero_testBit _
      rw [this]
      simp [show k + 1 + i = k + (i + 1) by omega]
  rw [e, sv_xor]
  congr 1
  · unfold sv
    rw [vv_pm]
    have h2 : vv (m := m) 2 (xe m j) = xe m j := by
      have := vv_plc (m := m) (v := 2) (n := 2) (by decide) j
      rw [this]
      show sumE (([1] : List Nat).map fun p => xe m (j * p)) = _
      show xe m (j * 1) + 0 = _
      rw [Pl.Fl.add_zero, Nat.mul_one]
    rw [h2]; rfl
  · split
    · have h := sv_pow (m := m) 0 j
      rw [Nat.zero_mul, Nat.pow_zero] at h
      rw [h]
      exact congrArg Subtype.val (Enc.xe_zero (m := m))
    · rfl
end
end Go.Proofs.YthhhpaiednpdkaaGreatDoor.Syn
/- The reference's Clean, Fits, Coefficient. By the verifier of shale. -/
namespace Go.Proofs.YthhhpaiednpdkaaGreatDoor.Syn
open Go Go.RowKit Bin Cos Enc Bits16
set_option linter.unusedVariables false
set_option maxRecDepth 100000 in
set_option maxHeartbeats 1000000 in
theorem rclean_any (a : Option Addr) (n c : Nat) (z : Nat → Int) (w : World) (hR : RowZ w a n z) (hn : n ≤ 100000) :
    Calls Tryz.prog 16 #[.slice a n c] w fun e w' => e = .returned (.bool (decide (∀ i, i < n → z i = 0))) ∧ w = w' := by
  have HR := Lib.hid hR
  obtain ⟨b, hb⟩ : ∃ b, b = decide (∀ i, i < n → z i = 0) := ⟨_, rfl⟩
  rw [← hb]
  have HBb := Lib.hid hb
  clear hR hb
  go_enter Tryz.func16, Tryz.ntmps16
  go_wp2_with fail
  go_loopg [3] n (fun gh s7 wx => ∃ (k : Nat), gh = n - k ∧ k ≤ n ∧ s7 = .int .i64 (k : Int) ∧ Hid (∀ i, i < k → z i = 0) ∧ w = wx)
  case atStart => exact ⟨0, rfl, Nat.zero_le _, rfl, (fun i hi => by omega), rfl⟩
  case round =>
    obtain ⟨k, hg, hk, rfl, HA, rfl⟩ := hrel
    have HG := Lib.hid hg
    clear hg
    by_cases hlt : k < n
    · have x1 : (k : Int) < (n : Int) := by omega
      have x0 : (0 : Int) ≤ (k : Int) := by omega
      obtain ⟨bb, off, rfl, d1, _⟩ := HR.out k hlt
      have HI : Hid (k + 1 ≤ n) := hlt
      by_cases h0 : z k = 0
      · have HA2 : Hid (∀ i, i < k + 1 → z i = 0) := fun i hi => by
          by_cases e : i = k
          · rw [e]; exact h0
          · exact HA.out i (by omega)
        have t1 : (z k == 0) = true := by rw [beq_iff_eq]; exact h0
        generalize z k = q at d1 t1
        clear h0 hlt HA
        go_wp2_with fail
        go_roundg (n - (k + 1))
        case measure => have := HG.out; have := HI.out; omega
        case rel => exact ⟨k + 1, rfl, HI.out, by go_num, HA2, rfl⟩
      · have HF : Hid (b = false) := by
          show _ = _
          rw [HBb.out]
          exact decide_eq_false fun h => h0 (h k hlt)
        have t1 : (z k == 0) = false := by rw [beq_eq_false_iff_ne]; exact h0
        generalize z k = q at d1 t1
        clear h0 hlt HA
        go_wp2_with fail
        go_ret
        exact ⟨ret_bool HF.out.symm, rfl⟩
    · obtain rfl : k = n := by omega
      have HF : Hid (b = true) := by
        show _ = _
        rw [HBb.out]
        exact decide_eq_true HA.out
      clear HA
      go_wp2_with fail
      go_ret
      exact ⟨ret_bool HF.out.symm, rfl⟩
section
variable {m : Nat} [M : Pl.Mid m]
set_option maxRecDepth 100000 in
set_option maxHeartbeats 1000000 in
theorem rfits_any (a : Option Addr) (n c : Nat) (z : Nat → Int) (w : World) (hR : RowZ w a n z) (hn : n ≤ 100000) :
    Calls Tryz.prog 19 #[.int .i64 (m : Int), .slice a n c] w fun e w' => e = .returned (.bool (decide (∀ i, i < n → 2 * i + 1 < n → Fld.fmul m (Fld.el m (z i)) (Fld.el m (z i)) = Fld.el m (z (2 * i + 1))))) ∧ Below w.heap.size w w' := by
  have HR := Lib.hid hR
  obtain ⟨b, hb⟩ : ∃ b, b = decide (∀ i, i < n → 2 * i + 1 < n → Fld.fmul m (Fld.el m (z i)) (Fld.el m (z i)) = Fld.el m (z (2 * i + 1))) := ⟨_, rfl⟩
  rw [← hb]
  have HBb := Lib.hid hb
  clear hR hb
  go_enter Tryz.func19, Tryz.ntmps19
  go_wp2_with fail
  go_loopg [5] n (fun gh s5 wx => ∃ (k : Nat), gh = n - k ∧ 2 * k ≤ n + 1 ∧ s5 = .int .i64 ((k : Int) + 1) ∧ Hid (∀ i, i < k → Fld.fmul m (Fld.el m (z i)) (Fld.el m (z i)) = Fld.el m (z (2 * i + 1))) ∧ Below w.heap.size w wx)
  case atStart => exact ⟨0, rfl, Nat.zero_le _, rfl, (fun i hi => by omega), Below.refl _ _⟩
  case round =>
    obtain ⟨k, hg, hk, rfl, HA, hB⟩ := hrel
    have HG := Lib.hid hg
    have HB := Lib.hid hB
    obtain ⟨I, hI⟩ : ∃ I : Nat, I = k + 1 := ⟨_, rfl⟩
    have eI : (k : Int) + 1 = (I : Int) := by omega
    rw [eI]
    have HIe := Lib.hid eI
    obtain ⟨I2, hI2⟩ : ∃ I2 : Nat, I2 = 2 * I := ⟨_, rfl⟩
    have q0 : 2 * (I : Int) = (I2 : Int) := by omega
    clear eI
    by_cases hlt : 2 * k + 1 < n
    · have t0 : (I2 : Int) ≤ (n : Int) := by omega
      obtain ⟨J, hJ⟩ : ∃ J : Nat, J = 2 * k + 1 := ⟨_, rfl⟩
      have q2 : (I : Int) - 1 = (k : Int) := by omega
      have q3 : (I2 : Int) - 1 = (J : Int) := by omega
      have x0 : (0 : Int) ≤ (k : Int) := by omega
      have x1 : (k : Int) < (n : Int) := by omega
      have z0 : (0 : Int) ≤ (J : Int) := by omega
      have z1 : (J : Int) < (n : Int) := by omega
      obtain ⟨bb, off, rfl, d1, hbb⟩ := HR.out k (by omega)
      obtain ⟨bb', off', e', d2, _⟩ := HR.out J (by omega)
      simp only [Option.some.injEq, Addr.mk.injEq] at e'
      obtain ⟨rfl, rfl, _⟩ := e'
      replace d1 := cell_regrown (hB.cell (p := ⟨bb, off + k, none⟩) hbb |>.trans d1)
      replace d2 := cell_regrown (hB.cell (p := ⟨bb, off + J, none⟩) hbb |>.trans d2)
      obtain ⟨X, hX⟩ : ∃ X, X = Fld.fmul m (Fld.el m (z k)) (Fld.el m (z k)) := ⟨_, rfl⟩
      obtain ⟨Y, hY⟩ : ∃ Y, Y = Fld.el m (z J) := ⟨_, rfl⟩
      have HM : Hid (∀ q os, Calls Tryz.prog 26 #[.int .i64 (m : Int), .int .i64 (z k), .int .i64 (z k)] (Sort.grow (redrawn wr q) os) fun e w'' => e = .returned (.int .i64 (h X)) ∧ ∃ p : Regrown, w'' = Sort.grow (redrawn wr p.d) p.os) := fun q os => Calls.regrown_of (by rw [hX]; exact Fld.rmul_any m M.lo M.hi _ _ _)
      have HLw : Hid (∀ q os, Calls Tryz.prog 32 #[.int .i64 (m : Int), .int .i64 (z J)] (Sort.grow (redrawn wr q) os) fun e w'' => e = .returned (.int .i64 (h Y)) ∧ ∃ p : Regrown, w'' = Sort.grow (redrawn wr p.d) p.os) := fun q os => Calls.regrown_of (by
        rw [hY]
        refine (Pl.rlow_any (m := m) (z J) _).mono ?_
        rintro e w' ⟨rfl, rfl⟩
        exact ⟨rfl, Below.refl _ _⟩)
      by_cases h0 : Fld.fmul m (Fld.el m (z k)) (Fld.el m (z k)) = Fld.el m (z (2 * k + 1))
      · have HA2 : Hid (∀ i, i < k + 1 → Fld.fmul m (Fld.el m (z i)) (Fld.el m (z i)) = Fld.el m (z (2 * i + 1))) := fun i hi => by
          by_cases e : i = k
          · rw [e]; exact h0
          · exact HA.out i (by omega)
        have t1 : (h Y == h X) = true := by rw [hX, hY, hJ, h0]; exact beq_self_eq_true _
        have HI : Hid (2 * (k + 1) ≤ n + 1) := by show _ ≤ _; omega
        have HGI : Hid (n - (k + 1) < n - k) := by show _ < _; omega
        have HI3 : Hid ((I : Int) + 1 = ((k + 1 : Nat) : Int) + 1) := by show _ = _; omega
        generalize h Y = YY at HLw t1
        generalize h X = XX at HM t1
        generalize z k = zk at d1 HM
        generalize z J = zj at d2 HLw
        clear h0 hlt HA hX hY hJ hI hI2 hg hk hB
        go_wp2_with fail
        refine wp_region_quiet_below (by kernel_rfl) (by kernel_rfl) ?_
        repeat (go_big_quiet_step (first | (go_at_call 32; with_reducible exact HLw.out _ _) | (go_at_call 26; with_reducible exact HM.out _ _)))
        refine wpQuiet_nil ?_
        intro _ hw'
        obtain ⟨⟨dq, osq⟩, hw''⟩ := hw'
        subst hw''
        have b := below_regrown wr dq osq
        have hb2 : Below w.heap.size w (Sort.grow (redrawn wr dq) osq) := HB.out.trans (b.mono HB.out.size)
        generalize Sort.grow (redrawn wr dq) osq = w5 at hb2 ⊢
        clear HM HLw d1 d2 b
        go_wp2_with fail
        go_roundg (n - (k + 1))
        case measure => have := HG.out; have := HGI.out; omega
        case rel => exact ⟨k + 1, rfl, HI.out, by rw [HI3.out], HA2, hb2⟩
      · have t1 : (h Y == h X) = false := by
          rw [beq_eq_false_iff_ne]
          intro e
          exact h0 (by rw [← hX, ← hJ, ← hY]; exact (h_inj _ _ e).symm)
        have HFl : Hid (b = false) := by
          show _ = _
          rw [HBb.out]
          exact decide_eq_false fun h => h0 (h k (by omega) hlt)
        generalize h Y = YY at HLw t1
        generalize h X = XX at HM t1
        generalize z k = zk at d1 HM
        generalize z J = zj at d2 HLw
        clear h0 hlt HA hX hY hJ hI hI2 hg hk hB
        go_wp2_with fail
        refine wp_region_quiet_below (by kernel_rfl) (by kernel_rfl) ?_
        repeat (go_big_quiet_step (first | (go_at_call 32; with_reducible exact HLw.out _ _) | (go_at_call 26; with_reducible exact HM.out _ _)))
        refine wpQuiet_nil ?_
        intro _ hw'
        obtain ⟨⟨dq, osq⟩, hw''⟩ := hw'
        subst hw''
        have b := below_regrown wr dq osq
        have hb2 : Below w.heap.size w (Sort.grow (redrawn wr dq) osq) := HB.out.trans (b.mono HB.out.size)
        generalize Sort.grow (redrawn wr dq) osq = w5 at hb2 ⊢
        clear HM HLw d1 d2 b
        go_wp2_with fail
        go_ret
        exact ⟨ret_bool HFl.out.symm, hb2⟩
    · have t0 : decide ((I2 : Int) ≤ (n : Int)) = false := decide_eq_false (by omega)
      have yb : (I2 : Int) ≤ 300000 := by omega
      have yc : (0 : Int) ≤ (I2 : Int) := by omega
      have HFl : Hid (b = true) := by
        show _ = _
        rw [HBb.out]
        exact decide_eq_true fun i _ hi => HA.out i (by omega)
      clear HA hI hI2 hg hk hB hlt
      generalize (I2 : Int) = I3 at t0 q0 yb yc
      go_wp2_with fail
      go_ret
      exact ⟨ret_bool HFl.out.symm, HB.out⟩
set_option maxRecDepth 100000 in
set_option maxHeartbeats 1000000 in
theorem rcoef_any (m' t n : Nat) (ga : Option Addr) (gn gc D : Nat) (hD : D ≤ 1000) (a : Option Addr) (na ca U : Nat) (a' : Option Addr) (nb cb V k k' : Nat) (hV : V < 2 ^ (8 * k')) (w : World) (hU : PolV w k a na ca U) (hVp : PolV w k' a' nb cb V) (i : Nat) (hi : i ≤ 1000000) :
    Calls Tryz.prog 28 #[cdV m' t n ga gn gc D, .slice a na ca, .slice a' nb cb, .int .i64 (i : Int)] w fun e w' => e = .returned (.int .i64 (bz ((wrd D U (V % 2 ^ D)).testBit i))) ∧ Below w.heap.size w w' := by
  have b0 : Below w.heap.size w (w.alloc (cdO (.int .i64 (m' : Int)) (.int .i64 (t : Int)) (.int .i64 (n : Int)) (.slice ga gn gc) (.int .i64 (D : Int)))) := (Below.refl _ _).alloc (Nat.le_refl _) _
  have HW := Lib.hid (wrd_bit (D := D) (X := U) (Y := V % 2 ^ D) (Nat.mod_lt _ (Nat.two_pow_pos D)) i)
  by_cases hlt : i < D
  · have x1 : (i : Int) < (D : Int) := by omega
    have hbit : (wrd D U (V % 2 ^ D)).testBit i = V.testBit i := by rw [HW.out, if_pos hlt, Nat.testBit_mod_two_pow]; simp [hlt]
    rw [hbit]
    have HBt := Lib.hid (rBit (hVp.below b0) i hi)
    clear HW hbit hU hVp hlt
    go_enter Tryz.func28, Tryz.ntmps28
    go_wp2_with fail
    refine HBt.out.mono ?_
    rintro e w' ⟨rfl, rfl⟩
    go_wp2_with fail
    go_ret
    exact ⟨rfl, b0⟩
  · have x1 : decide ((i : Int) < (D : Int)) = false := decide_eq_false (by omega)
    obtain ⟨q, hq⟩ : ∃ q, q = i - D := ⟨_, rfl⟩
    have q1 : (i : Int) - (D : Int) = (q : Int) := by omega
    have hbit : (wrd D U (V % 2 ^ D)).testBit i = U.testBit q := by rw [HW.out, if_neg hlt, hq]
    rw [hbit]
    have HBt := Lib.hid (rBit (hU.below b0) q (by omega))
    clear HW hbit hU hVp hlt hq
    go_enter Tryz.func28, Tryz.ntmps28
    go_wp2_with fail
    refine HBt.out.mono ?_
    rintro e w' ⟨rfl, rfl⟩
    go_wp2_with fail
    go_ret
    exact ⟨rfl, b0⟩
end
end Go.Proofs.YthhhpaiednpdkaaGreatDoor.Syn
/- The reference's Of: the values of places. By the verifier of shale. -/
namespace Go.Proofs.YthhhpaiednpdkaaGreatDoor.Syn
open Go Go.RowKit Bin Cos Enc Bits16
set_option linter.unusedVariables false
theorem regrown_start (w : World) : ∃ p : Regrown, w.drew = Sort.grow (redrawn w p.d) p.os := regrown_of_below ((Drawn.mk w 1).below _)
section
variable {m : Nat} [M : Pl.Mid m]
theorem synP_here {v k n : Nat} (hk : k < n) : (synP m v k n).set k 0 = synP m v k n := by
  unfold synP
  apply List.ext_getElem
  · simp
  · intro i h1 h2
    rw [List.getElem_set]
    by_cases e : k = i
    · subst e
      rw [if_pos rfl]
      simp
    · rw [if_neg e]
set_option maxRecDepth 100000 in
set_option maxHeartbeats 2000000 in
theorem rof_any (t n : Nat) (ga : Option Addr) (gn gc D : Nat) (ht2 : t ≤ 40) (a : Option Addr) (nl c : Nat) (l : List Nat) (w : World) (hR : RowN w a nl l) (hn : nl ≤ 100000) (hb : ∀ p ∈ l, p ≤ 100000) :
    Calls Tryz.prog 13 #[cdV m t n ga gn gc D, .slice a nl c] w (ValAt m t (xs l) w) := by
  have HR := Lib.hid hR
  have HB := Lib.hid hb
  obtain ⟨N, hN⟩ : ∃ N, N = 2 * t := ⟨_, rfl⟩
  have q0 : 2 * (t : Int) = (N : Int) := by omega
  have hN2 : N ≤ 80 := by omega
  have HN := Lib.hid hN
  obtain ⟨V, hV⟩ : ∃ V, V = xs l := ⟨_, rfl⟩
  rw [← hV]
  have HV := Lib.hid hV
  have hmk := fun w => made64 w N (by omega)
  clear hR hb hN hV
  go_enter Tryz.func13, Tryz.ntmps13
  go_upto_region 1 with (fail)
  generalize hw : w.alloc (.cells #[.int .i64 (m : Int), .int .i64 (t : Int), .int .i64 (n : Int), .slice ga gn gc, .int .i64 (D : Int)] 27 (0, 0)) = w1
  obtain ⟨K, B⟩ := newCd w w1 _ _ _ _ _ hw
  clear hw
  obtain ⟨bq, hbq⟩ : ∃ bq, bq = w.heap.size := ⟨_, rfl⟩
  rw [← hbq] at K ⊢
  clear hbq
  obtain ⟨c0, c1, c2, c3, c4, _⟩ := cd_cells K
  go_upto_region 2 with (fail)
  clear c0 c1 c2 c3 c4 hmk
  obtain ⟨gb, hgb⟩ : ∃ gb, gb = w1.heap.size := ⟨_, rfl⟩
  have HGb := Lib.hid hgb
  have hbg : bq < gb := by rw [hgb]; exact lt_of_block K
  have HS : Hid (w1.heap[bq]? = some (cdO (.int .i64 (m : Int)) (.int .i64 (t : Int)) (.int .i64 (n : Int)) (.slice ga gn gc) (.int .i64 (D : Int))) ∧ RowN w1 a nl l ∧ Below w.heap.size w w1) := ⟨K, HR.out.below B, B⟩
  have k0 := Blk64.new w1 (List.replicate N 0)
  have b0 : Below w1.heap.size w1 (w1.alloc (obj64 (List.replicate N 0))) := (Below.refl _ _).alloc (Nat.le_refl _) _
  rw [synP_zero (m := m) V N] at k0 b0 ⊢
  rw [← hgb] at k0 b0 ⊢
  generalize w1.alloc (obj64 (synP m V 0 N)) = w2 at k0 b0 ⊢
  clear K B hgb HR
  go_wp2_with fail
  go_loopg [6] N (fun gh s6 wx => ∃ (i : Nat), gh = N - i ∧ i ≤ N ∧ s6 = .int .i64 (i : Int) ∧ Blk64 wx gb (synP m V i N) ∧ Below gb w1 wx)
  case atStart => exact ⟨0, rfl, Nat.zero_le _, rfl, k0, b0⟩
  case round =>
    clear k0 b0
    obtain ⟨i, hg, hi, rfl, hK, hO⟩ := hrel
    have HG := Lib.hid hg
    clear hg
    by_cases hlt : i < N
    · have x1 : (i : Int) < (N : Int) := by omega
      have x0 : (0 : Int) ≤ (i : Int) := by omega
      have HI : Hid (i + 1 ≤ N) := hlt
      obtain ⟨W0, rfl⟩ : ∃ W0, W0 = wr := ⟨_, rfl⟩
      have k1 : Blk64 W0 gb ((synP m V i N).set i (h (sv m (xs (l.take 0)) (i + 1)))) := by
        have e : h (sv m (xs (l.take 0)) (i + 1)) = 0 := rfl
        rw [e, synP_here hlt]; exact hK
      have HO := Lib.hid hO
      have HK1 := Lib.hid k1
      clear hK hO k1
      go_wp2_with fail
      go_loopg [7] nl (fun gh s7 wx => ∃ (k : Nat), gh = nl - k ∧ k ≤ nl ∧ s7 = .int .i64 (k : Int) ∧ Blk64 wx gb ((synP m V i N).set i (h (sv m (xs (l.take k)) (i + 1)))) ∧ Below gb w1 wx)
      case atStart => exact ⟨0, rfl, Nat.zero_le _, rfl, HK1.out, HO.out⟩
      case round =>
        clear HK1 HO
        obtain ⟨k, hg, hk, rfl, hK, hO⟩ := hrel
        have HGk := Lib.hid hg
        clear hg
        by_cases hlk : k < nl
        · have y1 : (k : Int) < (nl : Int) := by omega
          have y0 : (0 : Int) ≤ (k : Int) := by omega
          have hsz : gb < wr.heap.size := hK.lt
          have hO2 := hO
          rw [HGb.out] at hO2
          have K := (hO.block bq hbg).trans HS.out.1
          obtain ⟨c0, c1, c2, c3, c4, _⟩ := cd_cells K
          obtain ⟨bb, off, ea, d1, _⟩ := (HS.out.2.1.below hO2).row k hlk
          have hkl : k < l.length := by rw [← HS.out.2.1.hlen]; exact hlk
          have hp : l.getD k 0 ≤ 100000 := by rw [getD_nat l k hkl]; exact HB.out _ (List.getElem_mem hkl)
          have HSx := Lib.hid (sv_xs_take (m := m) l k (i + 1) hkl)
          have q2 : ((i + 1 : Nat) : Int) = (i : Int) + 1 := by omega
          rw [← getD_nat l k hkl, Int.natCast_mul, q2] at HSx
          have hm : IntKind.i64.wrap (((l.getD k 0 : Nat) : Int) * ((i : Int) + 1)) = ((l.getD k 0 : Nat) : Int) * ((i : Int) + 1) := by
            have : l.getD k 0 * (i + 1) ≤ 100000 * 80 := Nat.mul_le_mul hp (by omega)
            rw [← q2, ← Int.natCast_mul]
            exact IntWalk.i64_in _ (by omega)
          have ck := hK.cell (i := i) (by rw [List.length_set, synP_length]; exact hlt)
          have en : nth64 ((synP m V i N).set i (h (sv m (xs (l.take k)) (i + 1)))) i = h (sv m (xs (l.take k)) (i + 1)) := by
            unfold nth64
            rw [List.getD_eq_getElem?_getD, List.getElem?_set_self (by rw [synP_length]; exact hlt)]; rfl
          rw [en] at ck
          have HK2 := Lib.hid hK
          have HO2 := Lib.hid hO
          have HIk : Hid (k + 1 ≤ nl) := hlk
          subst ea
          generalize l.getD k 0 = pp at d1 HSx hm hp
          have hz : ((pp : Int) * ((i : Int) + 1)) = ((pp : Int) * ((i : Int) + 1)) := rfl
          obtain ⟨ex, hex⟩ : ∃ ex : Int, ex = (pp : Int) * ((i : Int) + 1) := ⟨_, rfl⟩
          have HE : Hid (∀ q os, Calls Tryz.prog 27 #[.int .i64 (m : Int), .int .i64 ((pp : Int) * ((i : Int) + 1))] (Sort.grow (redrawn wr q) os) fun e w'' => e = .returned (.int .i64 (h (Fld.pwZ m ((pp : Int) * ((i : Int) + 1))))) ∧ ∃ p : Regrown, w'' = Sort.grow (redrawn wr p.d) p.os) := fun q os => Calls.regrown_of (Fld.rexp_any m M.lo M.hi _ _)
          have hx := hxor64 (sv m (xs (l.take k)) (i + 1)) (Fld.pwZ m ((pp : Int) * ((i : Int) + 1)))
          rw [show sv m (xs (l.take k)) (i + 1) ^^^ Fld.pwZ m ((pp : Int) * ((i : Int) + 1)) = sv m (xs (l.take (k + 1))) (i + 1) from HSx.out.symm] at hx
          have HSet : Hid (((synP m V i N).set i (h (sv m (xs (l.take k)) (i + 1)))).set i (h (sv m (xs (l.take (k + 1))) (i + 1))) = (synP m V i N).set i (h (sv m (xs (l.take (k + 1))) (i + 1)))) := List.set_set _
          obtain ⟨nv, hnv⟩ : ∃ nv, nv = h (sv m (xs (l.take (k + 1))) (i + 1)) := ⟨_, rfl⟩
          rw [← hnv] at hx HSet
          have HNV := Lib.hid hnv
          clear hnv
          generalize h (sv m (xs (l.take k)) (i + 1)) = ov at hx HSet ck HK2
          generalize h (Fld.pwZ m ((pp : Int) * ((i : Int) + 1))) = pv at hx HE
          replace c0 := cell_regrown c0
          replace c1 := cell_regrown c1
          replace c2 := cell_regrown c2
          replace c3 := cell_regrown c3
          replace c4 := cell_regrown c4
          replace d1 := cell_regrown d1
          have ckr := cell_regrown ck
          clear hK hO hO2 K hkl hp HSx q2 en hz hex hlk ck
          go_wp2_with fail
          refine wp_region_quiet_tail (C := fun w' => ∃ p : Regrown, w' = Sort.grow (redrawn wr p.d) p.os) 18 (by kernel_rfl) (by kernel_rfl) (regrown_start wr) ?_
          simp only [List.take_succ_cons, List.take_zero, List.drop_succ_cons, List.drop_zero]
          repeat (go_big_quiet_step (first | (go_at_call 27; with_reducible exact HE.out _ _)))
          refine wpQuiet_nil ?_
          rintro _ ⟨⟨dq, osq⟩, hw'⟩
          subst hw'
          have b := below_regrown wr dq osq
          generalize Sort.grow (redrawn wr dq) osq = w5 at b ⊢
          have hK5 := keepI HK2.out b
          have hO5 := HO2.out.trans (b.mono (Nat.le_of_lt hsz))
          have c5 := hK5.cell (i := i) (by rw [List.length_set, synP_length]; exact hlt)
          generalize nth64 ((synP m V i N).set i ov) i = z5 at c5
          have cf := hK5.free i
          have hs := hK5.set i nv
          rw [HSet.out] at hs
          have HS5 := Lib.hid hs
          have HO5 := Lib.hid (hO5.trans ((Only.setCell w5 ⟨gb, i, none⟩ (.int .i64 nv)).below (Nat.le_refl _)))
          clear c0 c1 c2 c3 c4 d1 ckr HE b hK5 hO5 hs
          go_wp2_with fail
          go_roundg (nl - (k + 1))
          case measure => have := HGk.out; have := HIk.out; omega
          case rel => exact ⟨k + 1, rfl, HIk.out, by go_num, by rw [← HNV.out]; exact HS5.out, HO5.out⟩
        · obtain rfl : k = nl := by omega
          have HKf : Hid (Blk64 wr gb (synP m V (i + 1) N)) := by
            show Blk64 _ _ _
            rw [List.take_of_length_le (by rw [← HS.out.2.1.hlen]; exact Nat.le_refl _), ← HV.out, synP_set] at hK
            exact hK
          have HOf := Lib.hid hO
          clear hK hO
          go_wp2_with fail
          go_roundg (N - (i + 1))
          case measure => have := HG.out; have := HI.out; omega
          case rel => exact ⟨i + 1, rfl, HI.out, by go_num, HKf.out, HOf.out⟩
    · obtain rfl : i = N := by omega
      have HX : Hid (Blk64 wr gb (Bin.ints (syn m V i))) := by rw [← synP_all]; exact hK
      have hz := HGb.out
      have HB2 := Lib.hid (HS.out.2.2.trans ((by rw [hz] at hO; exact hO : Below w1.heap.size w1 wr).mono HS.out.2.2.size))
      have hle := HS.out.2.2.size
      clear hK hO
      go_wp2_with fail
      go_ret
      obtain rfl := HN.out
      exact ⟨gb, rfl, HX.out, HB2.out, by omega⟩
end
end Go.Proofs.YthhhpaiednpdkaaGreatDoor.Syn
/- The reference's Syndromes: the values of a word, by Horner. By the verifier of shale. -/
namespace Go.Proofs.YthhhpaiednpdkaaGreatDoor.Syn
open Go Go.RowKit Bin Cos Enc Bits16
set_option linter.unusedVariables false
section
variable {m : Nat} [M : Pl.Mid m]
theorem bz_h (b : Bool) : bz b = h (if b then 1 else 0) := by cases b <;> rfl
set_option maxRecDepth 100000 in
set_option maxHeartbeats 2000000 in
theorem rsyn_any (t n : Nat) (ga : Option Addr) (gn gc D : Nat) (ht2 : t ≤ 40) (hn2 : n ≤ 2048) (hD1 : 0 < D) (hD : D ≤ 560) (a : Option Addr) (na ca U ku : Nat) (a' : Option Addr) (nb cb Vp kv : Nat) (w : World) (hU : PolV w ku a na ca U) (hUl : U < 2 ^ (8 * n)) (hV : PolV w kv a' nb cb Vp) :
    Calls Tryz.prog 10 #[cdV m t n ga gn gc D, .slice a na ca, .slice a' nb cb] w (ValAt m t (wrd D U (Vp % 2 ^ D)) w) := by
  obtain ⟨N, hN⟩ : ∃ N, N = 2 * t := ⟨_, rfl⟩
  have q0 : 2 * (t : Int) = (N : Int) := by omega
  have hN2 : N ≤ 80 := by omega
  have HN := Lib.hid hN
  obtain ⟨V, hVe⟩ : ∃ V, V = wrd D U (Vp % 2 ^ D) := ⟨_, rfl⟩
  obtain ⟨L, hL⟩ : ∃ L, L = 8 * n + D := ⟨_, rfl⟩
  have hVl : V < 2 ^ L := by rw [hVe, hL]; exact wrd_lt hUl (Nat.mod_lt _ (Nat.two_pow_pos D))
  have hL2 : L ≤ 100000 := by omega
  have hL1 : 0 < L := by omega
  rw [← hVe]
  have HV := Lib.hid hVe
  have HVl := Lib.hid hVl
  have HL := Lib.hid hL
  have HU := Lib.hid hU
  have HVp := Lib.hid hV
  have hmk := fun w => made64 w N (by omega)
  clear hU hV hN hVe hVl hL hUl
  go_enter Tryz.func10, Tryz.ntmps10
  go_upto_region 1 with (fail)
  generalize hw : w.alloc (.cells #[.int .i64 (m : Int), .int .i64 (t : Int), .int .i64 (n : Int), .slice ga gn gc, .int .i64 (D : Int)] 27 (0, 0)) = w1
  obtain ⟨K, B⟩ := newCd w w1 _ _ _ _ _ hw
  clear hw
  obtain ⟨bq, hbq⟩ : ∃ bq, bq = w.heap.size := ⟨_, rfl⟩
  rw [← hbq] at K ⊢
  clear hbq
  obtain ⟨c0, c1, c2, c3, c4, _⟩ := cd_cells K
  go_upto_region 2 with (fail)
  clear c0 c1 c2 c3 c4 hmk
  obtain ⟨gb, hgb⟩ : ∃ gb, gb = w1.heap.size := ⟨_, rfl⟩
  have HGb := Lib.hid hgb
  have hbg : bq < gb := by rw [hgb]; exact lt_of_block K
  have HS : Hid (w1.heap[bq]? = some (cdO (.int .i64 (m : Int)) (.int .i64 (t : Int)) (.int .i64 (n : Int)) (.slice ga gn gc) (.int .i64 (D : Int))) ∧ PolV w1 ku a na ca U ∧ PolV w1 kv a' nb cb Vp ∧ Below w.heap.size w w1) := ⟨K, HU.out.below B, HVp.out.below B, B⟩
  have k0 := Blk64.new w1 (List.replicate N 0)
  have b0 : Below w1.heap.size w1 (w1.alloc (obj64 (List.replicate N 0))) := (Below.refl _ _).alloc (Nat.le_refl _) _
  rw [synP_zero (m := m) V N] at k0 b0 ⊢
  rw [← hgb] at k0 b0 ⊢
  generalize w1.alloc (obj64 (synP m V 0 N)) = w2 at k0 b0 ⊢
  clear K B hgb HU HVp
  go_wp2_with fail
  go_loopg [8] N (fun gh s8 wx => ∃ (i : Nat), gh = N - i ∧ i ≤ N ∧ s8 = .int .i64 (i : Int) ∧ Blk64 wx gb (synP m V i N) ∧ Below gb w1 wx)
  case atStart => exact ⟨0, rfl, Nat.zero_le _, rfl, k0, b0⟩
  case round =>
    clear k0 b0
    obtain ⟨i, hg, hi, rfl, hK, hO⟩ := hrel
    have HG := Lib.hid hg
    clear hg
    by_cases hlt : i < N
    · have x1 : (i : Int) < (N : Int) := by omega
      have x0 : (0 : Int) ≤ (i : Int) := by omega
      have HI : Hid (i + 1 ≤ N) := hlt
      have K := (hO.block bq hbg).trans HS.out.1
      obtain ⟨c0, c1, c2, c3, c4, _⟩ := cd_cells K
      have hsz : gb < wr.heap.size := hK.lt
      have HK := Lib.hid hK
      have HO := Lib.hid hO
      by_cases hev : i % 2 = 1
      · have t1 : ((i : Int) % 2 == 1) = true := by rw [beq_iff_eq]; omega
        obtain ⟨r, hr⟩ : ∃ r, i = 2 * r + 1 := ⟨i / 2, by omega⟩
        have q3 : (i : Int) / 2 = (r : Int) := by omega
        have q4 : (i : Int).tdiv 2 = (r : Int) := by rw [Int.tdiv_eq_ediv_of_nonneg (by omega)]; exact q3
        have y0 : (0 : Int) ≤ (r : Int) := by omega
        have y1 : (r : Int) < (N : Int) := by omega
        have d1 := hK.cell (i := r) (by rw [synP_length]; omega)
        rw [synP_nth (by omega) (by omega)] at d1
        have hQ : sv m V (i + 1) = Fld.fmul m (sv m V (r + 1)) (sv m V (r + 1)) := by rw [← sv_sq, hr]; congr 1
        have hl := sv_lt (m := m) V (r + 1)
        have HM : Hid (∀ q os, Calls Tryz.prog 26 #[.int .i64 (m : Int), .int .i64 (h (sv m V (r + 1))), .int .i64 (h (sv m V (r + 1)))] (Sort.grow (redrawn wr q) os) fun e w'' => e = .returned (.int .i64 (h (sv m V (i + 1)))) ∧ ∃ p : Regrown, w'' = Sort.grow (redrawn wr p.d) p.os) := fun q os => Calls.regrown_of (by rw [hQ]; exact Fld.rmul_at m M.lo M.hi _ _ hl hl _)
        generalize h (sv m V (r + 1)) = hv at d1 HM
        replace c0 := cell_regrown c0
        replace d1 := cell_regrown d1
        clear hQ hl hK hO K hev hr
        go_wp2_with fail
        refine wp_region_quiet_tail (C := fun w' => ∃ p : Regrown, w' = Sort.grow (redrawn wr p.d) p.os) 16 (by kernel_rfl) (by kernel_rfl) (regrown_start wr) ?_
        simp only [List.take_succ_cons, List.take_zero, List.drop_succ_cons, List.drop_zero]
        repeat (go_big_quiet_step (first | (go_at_call 26; with_reducible exact HM.out _ _)))
        refine wpQuiet_nil ?_
        rintro _ ⟨⟨dq, osq⟩, hw'⟩
        subst hw'
        have b := below_regrown wr dq osq
        generalize Sort.grow (redrawn wr dq) osq = w5 at b ⊢
        have hK5 := keepI HK.out b
        have hO5 := HO.out.trans (b.mono (Nat.le_of_lt hsz))
        have c5 := hK5.cell (i := i) (by rw [synP_length]; exact hlt)
        generalize nth64 (synP m V i N) i = z5 at c5
        have cf := hK5.free i
        have hs := hK5.set i (h (sv m V (i + 1)))
        rw [synP_set] at hs
        have HS5 := Lib.hid hs
        have HO5 := Lib.hid (hO5.trans ((Only.setCell w5 ⟨gb, i, none⟩ (.int .i64 (h (sv m V (i + 1))))).below (Nat.le_refl _)))
        clear c0 c1 c2 c3 c4 d1 HM b hK5 hO5 hs
        go_wp2_with fail
        go_roundg (N - (i + 1))
        case measure => have := HG.out; have := HI.out; omega
        case rel => exact ⟨i + 1, rfl, HI.out, by go_num, HS5.out, HO5.out⟩
      · have t1 : ((i : Int) % 2 == 1) = false := by rw [beq_eq_false_iff_ne]; omega
        have q2 : ((i + 1 : Nat) : Int) = (i : Int) + 1 := by omega
        have hE := Fld.rexp_any m M.lo M.hi ((i + 1 : Nat) : Int) wr
        obtain ⟨A, hA⟩ : ∃ A, A = Fld.pwZ m ((i + 1 : Nat) : Int) := ⟨_, rfl⟩
        rw [← hA, q2] at hE
        have HE := Lib.hid hE
        have HA := Lib.hid hA
        have hAl : A.toNat < 2 ^ m := by rw [hA]; exact Fld.pwZ_lt m M.lo M.hi _
        clear hK hO hev hE hA q2
        go_wp2_with fail
        clear c0 c1 c2 c3 c4
        refine HE.out.mono ?_
        rintro e w5 ⟨rfl, b⟩
        have K5 := keepB K b
        have hK5 := keepI HK.out b
        have hO5 := HO.out.trans (b.mono (Nat.le_of_lt hsz))
        have hsz5 : gb < w5.heap.size := hK5.lt
        obtain ⟨c0, c1, c2, c3, c4, _⟩ := cd_cells K5
        clear b HE K
        go_wp2_with fail
        clear c0 c1 c2 c3 c4
        refine (rbits_any m t n ga gn gc D (by omega) hn2 w5).mono ?_
        rintro e w6 ⟨rfl, b⟩
        rw [← HL.out]
        have HK6 := Lib.hid (keepI hK5 b)
        have HO6 := Lib.hid (hO5.trans (b.mono (Nat.le_of_lt hsz5)))
        have e0 : h (sv m (V >>> L) (i + 1)) = 0 := by
          have : V >>> L = 0 := by rw [Nat.shiftRight_eq_div_pow]; exact Nat.div_eq_of_lt HVl.out
          rw [this]; rfl
        clear b K5 hK5 hO5
        go_wp2_with fail
        go_loopg [10, 11] L (fun gh s10 s11 wx => ∃ (kk : Nat), gh = kk ∧ kk ≤ L ∧ s11 = .int .i64 ((kk : Int) - 1) ∧ s10 = .int .i64 (h (sv m (V >>> kk) (i + 1))) ∧ Blk64 wx gb (synP m V i N) ∧ Below gb w1 wx)
        case atStart => exact ⟨L, rfl, Nat.le_refl _, rfl, by rw [e0], HK6.out, HO6.out⟩
        case round =>
          clear HK6 HO6 e0
          obtain ⟨kk, hg, hkk, rfl, rfl, hK, hO⟩ := hrel
          have HGk := Lib.hid hg
          have hszr : gb < wr.heap.size := hK.lt
          have HKr := Lib.hid hK
          have HOr := Lib.hid hO
          clear hg
          rcases kk with _ | k
          · have ck := hK.cell (i := i) (by rw [synP_length]; exact hlt)
            generalize nth64 (synP m V i N) i = z5 at ck
            have cf := hK.free i
            have ez : V >>> 0 = V := Nat.shiftRight_zero
            rw [ez]
            have hs := hK.set i (h (sv m V (i + 1)))
            rw [synP_set] at hs
            have HS5 := Lib.hid hs
            have HO5 := Lib.hid (hO.trans ((Only.setCell wr ⟨gb, i, none⟩ (.int .i64 (h (sv m V (i + 1))))).below (Nat.le_refl _)))
            clear hK hO hs ez
            go_wp2_with fail
            go_roundg (N - (i + 1))
            case measure => have := HG.out; have := HI.out; omega
            case rel => exact ⟨i + 1, rfl, HI.out, by go_num, HS5.out, HO5.out⟩
          · have ek : ((k + 1 : Nat) : Int) - 1 = (k : Int) := by omega
            rw [ek]
            have y0 : (0 : Int) ≤ (k : Int) := by omega
            have hkL : k + 1 ≤ L := hkk
            have hO2 := hO
            rw [HGb.out] at hO2
            have K := (hO.block bq hbg).trans HS.out.1
            obtain ⟨c0, c1, c2, c3, c4, _⟩ := cd_cells K
            have hUw := HS.out.2.1.below hO2
            have hVw := HS.out.2.2.1.below hO2
            have hvk : Vp < 2 ^ (8 * kv) := hVw.lt
            have hsh := sv_shift (m := m) V k (i + 1)
            rw [← HA.out] at hsh
            obtain ⟨X, hX⟩ : ∃ X, X = sv m (V >>> (k + 1)) (i + 1) := ⟨_, rfl⟩
            have hXl : X.toNat < 2 ^ m := by rw [hX]; exact sv_lt _ _
            rw [← hX] at hsh ⊢
            obtain ⟨Y, hY⟩ : ∃ Y, Y = sv m (V >>> k) (i + 1) := ⟨_, rfl⟩
            have HYe := Lib.hid hY
            rw [← hY] at hsh
            have HM : Hid (∀ q os, Calls Tryz.prog 26 #[.int .i64 (m : Int), .int .i64 (h X), .int .i64 (h A)] (Sort.grow (redrawn wr q) os) fun e w'' => e = .returned (.int .i64 (h (Fld.fmul m X A))) ∧ ∃ p : Regrown, w'' = Sort.grow (redrawn wr p.d) p.os) := fun q os => Calls.regrown_of (Fld.rmul_at m M.lo M.hi _ _ hXl hAl _)
            have HCo : Hid (∀ q os, Calls Tryz.prog 28 #[cdV m t n ga gn gc D, .slice a na ca, .slice a' nb cb, .int .i64 (k : Int)] (Sort.grow (redrawn wr q) os) fun e w'' => e = .returned (.int .i64 (bz (V.testBit k))) ∧ ∃ p : Regrown, w'' = Sort.grow (redrawn wr p.d) p.os) := fun q os => Calls.regrown_of (by
              rw [HV.out]
              exact rcoef_any m t n ga gn gc D (by omega) a na ca U a' nb cb Vp ku kv hvk _ (hUw.below (below_regrown wr q os)) (hVw.below (below_regrown wr q os)) k (by omega))
            have hxx := hxor64 (Fld.fmul m X A) (if V.testBit k then 1 else 0)
            rw [← hsh, ← bz_h] at hxx
            generalize h (Fld.fmul m X A) = v1 at hxx HM
            generalize bz (V.testBit k) = v2 at hxx HCo
            replace c0 := cell_regrown c0
            replace c1 := cell_regrown c1
            replace c2 := cell_regrown c2
            replace c3 := cell_regrown c3
            replace c4 := cell_regrown c4
            clear hK hO hO2 K hUw hVw hvk hX hY hsh ek
            go_wp2_with fail
            refine wp_region_quiet_below (by kernel_rfl) (by kernel_rfl) ?_
            repeat (go_big_quiet_step (first | (go_at_call 26; with_reducible exact HM.out _ _) | (go_at_call 28; with_reducible exact HCo.out _ _)))
            refine wpQuiet_nil ?_
            intro _ hw'
            obtain ⟨⟨dq, osq⟩, hw''⟩ := hw'
            subst hw''
            have b := below_regrown wr dq osq
            generalize Sort.grow (redrawn wr dq) osq = w7 at b ⊢
            have HK7 := Lib.hid (keepI HKr.out b)
            have HO7 := Lib.hid (HOr.out.trans (b.mono (Nat.le_of_lt hszr)))
            clear c0 c1 c2 c3 c4 HM HCo b
            go_wp2_with fail
            go_roundg k
            case measure => have := HGk.out; omega
            case rel => exact ⟨k, rfl, by omega, by go_num, by rw [← HYe.out], HK7.out, HO7.out⟩
    · obtain rfl : i = N := by omega
      have HX : Hid (Blk64 wr gb (Bin.ints (syn m V i))) := by rw [← synP_all]; exact hK
      have hz := HGb.out
      have HB2 := Lib.hid (HS.out.2.2.2.trans ((by rw [hz] at hO; exact hO : Below w1.heap.size w1 wr).mono HS.out.2.2.2.size))
      have hle := HS.out.2.2.2.size
      clear hK hO
      go_wp2_with fail
      go_ret
      obtain rfl := HN.out
      exact ⟨gb, rfl, HX.out, HB2.out, by omega⟩
end
end Go.Proofs.YthhhpaiednpdkaaGreatDoor.Syn
/- syndrome.Of where a length is wrong. By the verifier of shale. -/
namespace Go.Proofs.YthhhpaiednpdkaaGreatDoor.Syn
open Go Go.RowKit Bin Cos Enc Bits16
set_option linter.unusedVariables false
section
variable {m : Nat} [M : Pl.Mid m]
set_option maxRecDepth 100000 in
set_option maxHeartbeats 1000000 in
theorem of_bad {t n : Nat} (ht2 : t ≤ 40) (w : World) (s : Nat) (h : CodeAt m t n w s) (a : Option Addr) (na cap : Nat) (a' : Option Addr) (np cap' : Nat) (hbad : na ≠ n ∨ np ≠ pb (deg m t)) (y : Addr) (E : ErrAt w 0 y) :
    Calls Tryz.prog 7 #[.pointer (some ⟨s, 0, none⟩), .slice a na cap, .slice a' np cap'] w fun e w' => e = .returned (.tuple #[.slice none 0 0, errOf y]) ∧ Drawn w w' := by
  have HPB := Lib.hid (parityB_any w s h ht2)
  obtain ⟨P, hP⟩ : ∃ P, P = pb (deg m t) := ⟨_, rfl⟩
  rw [← hP] at HPB hbad
  by_cases hp : np = P
  · have hna : na ≠ n := by
      rcases hbad with h | h
      · exact h
      · exact absurd hp h
    have t1 : ((np : Int) == (P : Int)) = true := by rw [beq_iff_eq]; omega
    have HFb := Lib.hid (fast_bad w s h a na cap hna y E)
    clear hbad hp hP h E hna
    go_enter Tryz.func7, Tryz.ntmps7
    go_wp2_with fail
    refine HPB.out.mono ?_
    rintro e w' ⟨rfl, rfl⟩
    go_wp2_with fail
    refine HFb.out.mono ?_
    rintro e w' ⟨rfl, d⟩
    go_wp2_with fail
    go_ret2
    exact ⟨rfl, d⟩
  · have t1 : ((np : Int) == (P : Int)) = false := by rw [beq_eq_false_iff_ne]; omega
    have e1 := E.1
    unfold Sent at e1
    clear hbad hp hP h E
    go_enter Tryz.func7, Tryz.ntmps7
    go_wp2_with fail
    refine HPB.out.mono ?_
    rintro e w' ⟨rfl, rfl⟩
    go_wp2_with fail
    go_quiet (fail)
    have hd2 := Drawn.mk w nq
    go_wp2_with fail
    go_ret2
    exact ⟨rfl, hd2⟩
end
end Go.Proofs.YthhhpaiednpdkaaGreatDoor.Syn
/- places: the unlike places that a statement of chapter 7 makes of any numbers. By the verifier of shale. -/
namespace Go.Proofs.YthhhpaiednpdkaaGreatDoor.Syn
open Go Go.RowKit Bin Cos Enc Bits16
set_option linter.unusedVariables false
theorem isrow_z {w : World} {a : Option Addr} {len cap : Nat} {zs : List Int} (h : IsRow .i64 w a len cap zs) : RowZ w a len (fun i => zs.getD i 0) ∧ len ≤ maxLen := by
  rcases h with ⟨rfl, rfl, rfl, rfl⟩ | ⟨x, rfl, hl, hm, hz, hc, hw⟩
  · exact ⟨fun i hi => by omega, Nat.zero_le _⟩
  · refine ⟨fun i hi => ?_, by omega⟩
    obtain ⟨bb, off, spot⟩ := x
    have c0 := hc i (by omega)
    obtain rfl : spot = none := by simpa [Addr.add] using World.cell?_spot (hc 0 (by omega))
    rw [add_row] at c0
    exact ⟨bb, off, rfl, c0, World.block_lt_of_cell? w _ c0⟩
theorem rowZ_below {w w' : World} {a : Option Addr} {n : Nat} {z : Nat → Int} (h : RowZ w a n z) (b : Below w.heap.size w w') : RowZ w' a n z := fun i hi => by
  obtain ⟨bb, off, e, c, hb⟩ := h i hi
  exact ⟨bb, off, e, (b.cell (p := ⟨bb, off + i, none⟩) hb).trans c, Nat.lt_of_lt_of_le hb b.size⟩
theorem pop_add (v k : Nat) (hk : v.testBit k = false) : ∀ n, pop (v ^^^ 2 ^ k) n = pop v n + if k < n then 1 else 0
  | 0 => rfl
  | n + 1 => by
    rw [pop_succ, pop_succ, pop_add v k hk n, Nat.testBit_xor, Nat.testBit_two_pow]
    by_cases h : k = n
    · subst h; simp [hk]
    · by_cases h2 : k < n
      · simp [h, h2, show k < n + 1 by omega]; omega
      · simp [h, h2, show ¬ k < n + 1 by omega]
theorem set_bit (v k q : Nat) (hk : v.testBit k = false) : (v.testBit q || decide (q = k)) = (v ^^^ 2 ^ k).testBit q := by
  rw [Nat.testBit_xor, Nat.testBit_two_pow]
  by_cases h : q = k
  · subst h; simp [hk]
  · have : decide (k = q) = false := decide_eq_false fun e => h e.symm
    rw [this, decide_eq_false h, Bool.or_false, Bool.xor_false]
theorem plc_len (v : Nat) : ∀ n, (plc v n).length ≤ n := fun n => pop_le v n
/-- the places of a word that has few, rising. -/
def PlAt (N t : Nat) (w : World) (e : Ending) (w' : World) : Prop :=
  ∃ v a c, e = .returned (.slice a (pop v N) c) ∧ RowN w' a (pop v N) (plc v N) ∧ v < 2 ^ N ∧ pop v N ≤ t ∧ Below w.heap.size w w'
end Go.Proofs.YthhhpaiednpdkaaGreatDoor.Syn
/- Words with some places turned: for the walk over SyndromeTells. By the verifier of shale. -/
namespace Go.Proofs.YthhhpaiednpdkaaGreatDoor.Syn
open Go Go.RowKit Bin Cos Enc Bits16
set_option linter.unusedVariables false
theorem bf_put {w : World} {g N : Nat} {p : Nat → Bool} (h : BF w g N p) (k : Nat) (b : Bool) : BF (w.setCell ⟨g, k, none⟩ (.bool b)) g N (fun i => if i = k then b else p i) := by
  unfold BF
  rw [heap_setCell_same w g k _ _ _ h]
  congr 2
  apply Array.ext
  · simp
  · intro i h1 h2
    simp at h1 h2
    by_cases e : i = k
    · subst e; simp
    · simp [e, Ne.symm e]
theorem flip_bit (v k q : Nat) : (if q = k then !v.testBit k else v.testBit q) = (v ^^^ 2 ^ k).testBit q := by
  rw [Nat.testBit_xor, Nat.testBit_two_pow]
  by_cases h : q = k
  · subst h; simp
  · have : decide (k = q) = false := decide_eq_false fun e => h e.symm
    rw [this, if_neg h, Bool.xor_false]
theorem xs_snoc (l : List Nat) (k : Nat) : xs (l ++ [k]) = xs l ^^^ 2 ^ k := by unfold xs; rw [List.foldl_append]; rfl
/-- a block apart from gb, and from the slice v's own. -/
def Apart7 (gb : Nat) (v : Value) (a : Option Addr) : Prop := ∀ q, a = some q → q.block ≠ gb ∧ v.ownBlock ≠ some q.block
theorem pol_keep {w w' : World} {a : Option Addr} {n c : Nat} {X : List (BitVec 8)} (h : Pol w a n c X) (hk : ∀ q, a = some q → q.block < w.heap.size → w'.heap[q.block]? = w.heap[q.block]?) (hs : w.heap.size ≤ w'.heap.size) : Pol w' a n c X :=
  ⟨h.hlen, h.hcap, h.hmost, h.hnil, by
    rcases h.hrow with h0 | ⟨bb, off, e, hr, hb⟩
    · exact Or.inl h0
    · exact Or.inr ⟨bb, off, e, fun i hi => (World.cell?_of_block (w := w) (a := ⟨bb, off + i, none⟩) (show _ from hk ⟨bb, off, none⟩ e hb)).trans (hr i hi), Nat.lt_of_lt_of_le hb hs⟩⟩
theorem newP_aside {w w' : World} {a : Option Addr} {n c gb : Nat} {X : List (BitVec 8)} {v : Value} (h : NewP w w' a n c X) (hg : gb < w.heap.size) (hv : ∀ g, v.ownBlock = some g → g < w.heap.size) : Apart7 gb v a := by
  intro q hq
  rcases h.own with ⟨h0, _⟩ | ⟨g, h1, h2, _⟩
  · rw [h0] at hq; cases hq
  · rw [h1] at hq
    simp only [Option.some.injEq] at hq
    subst hq
    refine ⟨by show g ≠ gb; omega, fun e => ?_⟩
    have : g < w.heap.size := hv _ e
    omega
section
variable {m : Nat} [M : Pl.Mid m]
theorem syn_ext {a b n : Nat} (h : ∀ j, 1 ≤ j → j ≤ n → sv m a j = sv m b j) : syn m a n = syn m b n := by
  unfold syn
  refine List.map_congr_left fun i hi => ?_
  rw [List.mem_range] at hi
  rw [h (i + 1) (by omega) (by omega)]
/-- a right word with e turned has e's values. -/
theorem syn_turned {t X X' Y' e : Nat} (hY : Y' < 2 ^ deg m t) (hw : wrd (deg m t) X' Y' = wrd (deg m t) X (prt (gen m t) (deg m t) X) ^^^ e) :
    syn m (ev m t X' Y' % 2 ^ deg m t) (2 * t) = syn m e (2 * t) := by
  have hg := gen_deg (m := m) t
  refine syn_ext fun j h1 h2 => ?_
  have hlt : ev m t X' Y' < 2 ^ deg m t := Nat.xor_lt_two_pow (prt_lt hg X') hY
  rw [Nat.mod_eq_of_lt hlt]
  have h := sv_word (m := m) (t := t) (X := X') hY h1 h2
  show sv m (prt (gen m t) (deg m t) X' ^^^ Y') j = _
  rw [← h, hw, sv_xor, sv_dvd (m := m) (wrd_dvd hg X) h1 h2]
  exact BitVec.zero_xor
/-- few places: clean where none is turned. -/
theorem clean_few {t v N : Nat} (hv : v < 2 ^ N) (hN : N ≤ sz m) (hp : pop v N ≤ 2 * t) : decide (∀ j, j < 2 * t → sv m v (j + 1) = 0) = decide (pop v N = 0) := by
  apply decide_eq_decide.2
  constructor
  · intro h
    rcases sv_few (m := m) (t := t) hv hN (fun j h1 h2 => by have := h (j - 1) (by omega); rwa [show j - 1 + 1 = j by omega] at this) with h0 | h0
    · rw [h0, pop_zero]
    · omega
  · intro h j hj
    rw [pop_pos hv h]; rfl
end
end Go.Proofs.YthhhpaiednpdkaaGreatDoor.Syn
/- The walk over the reference's Flip. By the verifier of shale. -/
namespace Go.Proofs.YthhhpaiednpdkaaGreatDoor.Enc
open Go Go.RowKit Bin Cos
set_option linter.unusedVariables false
set_option maxRecDepth 100000 in
theorem neq_err (a : Addr) (w : World) : (binOp .neq 32 (errOf a) (errOf a)).run Tryz.prog w = .ok (.bool false) w := by
  obtain ⟨i, hi, hc⟩ := Option.map_eq_some_iff.1 compErr
  obtain ⟨j, hj, _⟩ := Option.map_eq_some_iff.1 sizeErr
  simp only [binOp]
  simp [Op.equal, Op.maxDepth, run_equalIn_iface_ptr_same w 9998 a Tryz.underlying32 Tryz.underlying144 hi hc hj]
/-- both lists with a bit turned, in place. -/
def RFlipAt (n P D k gd gp base vx vy : Nat) (w : World) (e : Ending) (w' : World) : Prop := e = .returned (.tuple #[]) ∧ ∃ X' Y', X'.length = n ∧ Y'.length = P ∧ val X' = vx ^^^ ed D k ∧ val Y' = vy ^^^ ep D k ∧ Blk8 w' gd X' ∧ Blk8 w' gp Y' ∧ Below base w w'
section
attribute [local go_sem] Bits32.bxor Bits32.bxor_bit
end
end Go.Proofs.YthhhpaiednpdkaaGreatDoor.Enc
/- Small words for the walk of SyndromeSays. By the verifier of shale. -/
namespace Go.Proofs.YthhhpaiednpdkaaGreatDoor.Syn
open Go Go.RowKit Bin Cos Enc Bits16
set_option linter.unusedVariables false
def natL (n : Nat) (z : Nat → Int) : List Nat := (List.range n).map fun i => (z i).toNat
theorem natL_length (n : Nat) (z : Nat → Int) : (natL n z).length = n := by simp [natL]
theorem rowN_of {w : World} {a : Option Addr} {n : Nat} {z : Nat → Int} (h : RowZ w a n z) (h0 : ∀ i, i < n → 0 ≤ z i) : RowN w a n (natL n z) :=
  ⟨(natL_length n z).symm, fun i hi => by
    obtain ⟨bb, off, e, hc, hb⟩ := h i hi
    refine ⟨bb, off, e, ?_, hb⟩
    have : (((natL n z).getD i 0 : Nat) : Int) = z i := by
      unfold natL
      rw [List.getD_eq_getElem?_getD, List.getElem?_map, List.getElem?_range hi]
      have := h0 i hi
      show ((z i).toNat : Int) = z i
      omega
    rw [this]; exact hc⟩
theorem natL_lt {n : Nat} {z : Nat → Int} {N : Nat} (h : ∀ i, i < n → 0 ≤ z i ∧ z i < (N : Int)) : ∀ p ∈ natL n z, p < N := fun p hp => by
  unfold natL at hp
  obtain ⟨i, hi, rfl⟩ := List.mem_map.1 hp
  rw [List.mem_range] at hi
  have := h i hi
  omega
/-- what the law reckons at i. -/
def wv (ns nu : Nat) (z y : Nat → Int) (i : Nat) : Int :=
  if i < nu then bits .xor .i64 (if i < ns then z i else 0) (y i) else (if i < ns then z i else 0)
theorem xor_comm64 (a b : Int) : bits .xor .i64 a b = bits .xor .i64 b a := by
  show IntKind.i64.wrap ((BitVec.ofInt 64 a ^^^ BitVec.ofInt 64 b).toNat : Int) = IntKind.i64.wrap ((BitVec.ofInt 64 b ^^^ BitVec.ofInt 64 a).toNat : Int)
  rw [BitVec.xor_comm]
theorem xor_zero64 (a : Int) (h : -9223372036854775808 ≤ a ∧ a < 9223372036854775808) : bits .xor .i64 0 a = a := by
  show IntKind.i64.wrap ((BitVec.ofInt 64 0 ^^^ BitVec.ofInt 64 a).toNat : Int) = a
  rw [show BitVec.ofInt 64 0 = 0#64 by decide, BitVec.zero_xor, BitVec.toNat_ofInt]
  rw [IntKind.wrap_i64]
  omega
/-- both ways of the longer list. -/
theorem add_both (a1 : Option Addr) (n1 c1 : Nat) (z1 : Nat → Int) (a2 : Option Addr) (n2 c2 : Nat) (z2 : Nat → Int) (w : World) (h1 : RowZ w a1 n1 z1) (h2 : RowZ w a2 n2 z2) (k1 : n1 ≤ 100000) (k2 : n2 ≤ 100000) (f2 : ∀ i, i < n2 → -9223372036854775808 ≤ z2 i ∧ z2 i < 9223372036854775808) :
    Calls Tryz.prog 14 #[.slice a1 n1 c1, .slice a2 n2 c2] w fun e w' => ∃ g L, e = .returned (.slice (some ⟨g, 0, none⟩) (max n1 n2) (max n1 n2)) ∧ Blk64 w' g L ∧ L.length = max n1 n2 ∧ (∀ i, i < max n1 n2 → nth64 L i = wv n1 n2 z1 z2 i) ∧ Below w.heap.size w w' := by
  by_cases hlen : n2 ≤ n1
  · refine (add_long a1 n1 c1 z1 a2 n2 c2 z2 w h1 h2 k1 k2 hlen).mono ?_
    rintro e w' ⟨g, rfl, h, b, _⟩
    rw [show max n1 n2 = n1 by omega]
    refine ⟨g, _, rfl, h, adL_length _ _ _ _, fun i hi => ?_, b⟩
    rw [adL_nth hi]
    unfold wv
    rw [if_pos hi]
  · refine (add_short a1 n1 c1 z1 a2 n2 c2 z2 w h1 h2 k1 k2 (by omega)).mono ?_
    rintro e w' ⟨g, rfl, h, b, _⟩
    rw [show max n1 n2 = n2 by omega]
    refine ⟨g, _, rfl, h, adL_length _ _ _ _, fun i hi => ?_, b⟩
    rw [adL_nth hi]
    unfold wv
    rw [if_pos hi]
    split
    · exact xor_comm64 _ _
    · exact (xor_zero64 _ (f2 i hi)).symm
section
variable {m : Nat} [M : Pl.Mid m]
theorem syn_word {t X U : Nat} : syn m (ev m t X U % 2 ^ deg m t) (2 * t) = syn m (wrd (deg m t) X (U % 2 ^ deg m t)) (2 * t) := by
  refine syn_ext fun j h1 h2 => ?_
  rw [sv_word (Nat.mod_lt _ (Nat.two_pow_pos _)) h1 h2]
  unfold ev
  rw [Nat.xor_mod_two_pow, Nat.mod_eq_of_lt (prt_lt (gen_deg (m := m) t) X)]
set_option maxHeartbeats 400000 in
theorem field_at {w : World} {s f t n D : Nat} {a b c : Value} (h1 : w.heap[s]? = some (codeO f t n D a b c)) : Calls Tryz.prog 18 #[.pointer (some ⟨s, 0, none⟩)] w fun e w' => e = .returned (.pointer (some ⟨f, 0, none⟩)) ∧ Below w.heap.size w w' := by
  obtain ⟨c0, c1, c2, c3, c4, c5, c6, cf⟩ := code_cells h1
  clear h1 c1 c2 c3 c4 c5 c6 cf
  go_enter Tryz.func18, Tryz.ntmps18
  go_wp2_with fail
  go_ret
  exact ⟨rfl, Below.refl _ _⟩
theorem field_fixed {t n : Nat} {w : World} {s : Nat} (h : CodeAt m t n w s) : ∃ f be ce bl, Fld.FldAt m w f be ce bl ∧ ∀ q os, Calls Tryz.prog 18 #[.pointer (some ⟨s, 0, none⟩)] (Sort.grow (redrawn w q) os) fun e w'' => e = .returned (.pointer (some ⟨f, 0, none⟩)) ∧ ∃ p : Regrown, w'' = Sort.grow (redrawn w p.d) p.os := by
  obtain ⟨f, be, ce, bl, ga, gn, gc, lb, tb, h1, h2, _⟩ := h
  refine ⟨f, be, ce, bl, h2, fun q os => Calls.regrown_of ?_⟩
  have h3 := ((below_regrown w q os).block s (lt_of_block h1)).trans h1
  exact field_at h3
end
theorem isrow_fit {w : World} {a : Option Addr} {len cap : Nat} {zs : List Int} (h : IsRow .i64 w a len cap zs) : Hid (∀ i, i < len → -9223372036854775808 ≤ zs.getD i 0 ∧ zs.getD i 0 < 9223372036854775808) := fun i hi => by
  rcases h with ⟨_, rfl, _, _⟩ | ⟨x, _, hl, _, hz, _, hw⟩
  · omega
  · have hlt : i < zs.length := by omega
    have e : zs.getD i 0 = zs[i] := by rw [List.getD_eq_getElem?_getD, List.getElem?_eq_getElem hlt]; rfl
    have := int64_bounds (hw _ (List.getElem_mem hlt))
    rw [e]; omega
/-- the first place that may not be. -/
theorem first_bad (z : Nat → Int) (N : Int) : ∀ n : Nat, (∀ i, i < n → 0 ≤ z i ∧ z i < N) ∨ ∃ j, j < n ∧ (∀ i, i < j → 0 ≤ z i ∧ z i < N) ∧ (z j < 0 ∨ N ≤ z j)
  | 0 => .inl fun i hi => by omega
  | n + 1 => by
    rcases first_bad z N n with h | ⟨j, h1, h2, h3⟩
    · by_cases hn : 0 ≤ z n ∧ z n < N
      · exact .inl fun i hi => by
          by_cases e : i = n
          · subst e; exact hn
          · exact h i (by omega)
      · exact .inr ⟨n, by omega, h, by omega⟩
    · exact .inr ⟨j, by omega, h2, h3⟩
end Go.Proofs.YthhhpaiednpdkaaGreatDoor.Syn
/- Structs of integers that came in by value. By the verifier of shale. -/
namespace Go.Proofs.YthhhpaiednpdkaaGreatDoor
open Go Go.RowKit Go.ChangeShapes Go.WideShapes Go.Deep
/-- a struct of integers alone, handed in by value: its cells are integers that fit. -/
theorem open_ints_struct {H : Type} {enc : TypeId × Value → H} {P : Program} {w : World} {base b0 : Nat} {spare : Nat → Bool} {held : Bool} {r : Reach} {k : IntKind} {t : TypeId} {fs : Array Field} {v : Value} {d : DataW H} {p : List MemPlace}
    (hs : P.underlying t = some (.struct fs)) (hone : oneCellFields P fs = true) (hC : P.cellsOf t = fs.size) (hi : ∀ (j : Nat) (f : Field), fs[j]? = some f → P.underlying f.type = some (.int k))
    (hv : Value.okWide P w r b0 t v) (h : DataW.Trod enc P w base spare held t v d p) :
    ∃ n : Nat → Int, v = .agg ((List.range fs.size).map fun i => .int k (n i)).toArray ∧ ∀ i, i < fs.size → (Lit.int k (n i)).wf = true := by
  obtain ⟨cs, rfl, hsz⟩ := okWide_struct hs hv
  obtain ⟨fuel, hf⟩ := h
  obtain ⟨xs, n, _, _, hl, _, hg⟩ := DataW.trod_struct hs hf
  have each : ∀ j, j < fs.size → ∃ m, cs[j]? = some (.int k m) ∧ (Lit.int k m).wf = true := by
    intro j hj
    have hf0 : fs[j]? = some (fs[j]'hj) := Array.getElem?_eq_getElem hj
    obtain ⟨o, c⟩ := hone_of hone j _ hf0
    have g := hg j _ hf0
    rw [o, c] at g
    have hx : j < xs.length := by omega
    rw [List.getElem?_eq_getElem hx] at g
    obtain ⟨m, e, _, hw⟩ := DataW.trod_int (hi j _ hf0) g
    refine ⟨m, ?_, hw⟩
    have hj2 : j < cs.toList.length := by rw [Array.length_toList]; omega
    have e2 : (cs.toList.drop j).take 1 = [.int k m] := by simpa [Value.cells] using e
    rw [List.drop_eq_getElem_cons hj2] at e2
    simp only [List.take_succ_cons, List.take_zero, List.cons.injEq, and_true] at e2
    rw [Array.getElem?_eq_getElem (by simpa using hj2)]
    congr 1
  refine ⟨fun j => match cs[j]? with | some (.int _ m) => m | _ => 0, ?_, fun i hi => ?_⟩
  · congr 1
    apply Array.ext_getElem?
    intro j
    by_cases hj : j < fs.size
    · obtain ⟨m, e, _⟩ := each j hj
      rw [e]
      simp [hj, e]
    · have h1 : cs.size ≤ j := by omega
      rw [Array.getElem?_eq_none h1, Array.getElem?_eq_none (by simp; omega)]
  · obtain ⟨m, e, hw⟩ := each i hi
    simp only [e]
    exact hw
end Go.Proofs.YthhhpaiednpdkaaGreatDoor
