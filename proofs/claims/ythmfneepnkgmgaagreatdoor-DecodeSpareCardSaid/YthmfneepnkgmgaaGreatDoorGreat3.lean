/- Texts of the verifier of shale, laid into one: LocRun, LocOps, Args. -/
import Derived.Test.YthmfneepnkgmgaaGreatDoorGreat1
import Derived.Test.YthmfneepnkgmgaaGreatDoorGreat2
import Derived.Deep.RegionLaw
import Derived.Deep.Fields
import Derived.ChangeArms
import Derived.WideShapes
import Derived.ProofKit
import Derived.ChangeOld
/- The walk over package locate's run. By the verifier of shale. -/
namespace Go.Proofs.YthmfneepnkgmgaaGreatDoor.Loc
open Go Go.RowKit Pl Fld Bits16
set_option linter.unusedVariables false
section
variable {m : Nat} [M : Mid m]
/-- a way through the values. -/
structure Steps (S : Ser (El m)) (fx : St (El m) → El m → Ser (El m)) (G : Nat → St (El m)) : Prop where
  zero : G 0 = st0
  stay : ∀ k, cv (G k).c S k = 0 → G (k + 1) = { G k with k := (G k).k + 1 }
  same : ∀ k, cv (G k).c S k ≠ 0 → k < 2 * (G k).L → G (k + 1) = { G k with c := fx (G k) (cv (G k).c S k), k := (G k).k + 1 }
  grow : ∀ k, cv (G k).c S k ≠ 0 → ¬ k < 2 * (G k).L → G (k + 1) = ⟨fx (G k) (cv (G k).c S k), (G k).c, k + 1 - (G k).L, 1, cv (G k).c S k⟩
  len : ∀ k, (G k).L ≤ k
  kk : ∀ k, (G k).k ≤ k + 1
  bd : ∀ k, Bd (G k).c ((G k).L + 1)
  cne : ∀ k, (G k).c ≠ pz
  dne : ∀ k, (G k).d ≠ 0
variable {S : Ser (El m)} {fx : St (El m) → El m → Ser (El m)} {G : Nat → St (El m)}
theorem pone_ne : (pone : Ser (El m)) ≠ pz := fun e => Fl.one_ne (K := El m) (congrFun e 0)
theorem Steps.bne (h : Steps S fx G) : ∀ k, (G k).b ≠ pz
  | 0 => by rw [h.zero]; exact pone_ne
  | k + 1 => by
    by_cases h0 : cv (G k).c S k = 0
    · rw [h.stay k h0]; exact h.bne k
    · by_cases h1 : k < 2 * (G k).L
      · rw [h.same k h0 h1]; exact h.bne k
      · rw [h.grow k h0 h1]; exact h.cne k
theorem Steps.fbd (h : Steps S fx G) (k : Nat) (h0 : cv (G k).c S k ≠ 0) : Bd (fx (G k) (cv (G k).c S k)) (k + 2) := by
  have h2 := (h.bd (k + 1)).mono (show (G (k + 1)).L + 1 ≤ k + 2 by have := h.len (k + 1); omega)
  by_cases h1 : k < 2 * (G k).L
  · rw [h.same k h0 h1] at h2; exact h2
  · rw [h.grow k h0 h1] at h2; exact h2
theorem steps_bm (S : Ser (El m)) : Steps S fix (bm S) :=
  ⟨rfl, fun k h => step_zero h, fun k h h2 => step_same h h2, fun k h h2 => step_grow h h2, fun k => (bm_inv S k).le, fun k => (bm_inv S k).room.1, fun k => (bm_inv S k).bd,
    fun k e => Fl.one_ne (K := El m) ((bm_inv S k).one ▸ congrFun e 0), fun k => (bm_inv S k).d0⟩
theorem pa_pos {w : World} {K : Nat} {a : Option Addr} {n c : Nat} {p : Ser (El m)} {x : Nat} (h : PA m w K a n c p x) (h0 : p ≠ pz) : 0 < n :=
  Nat.pos_of_ne_zero fun e => h0 (by have := h.pv.bdn; rw [e] at this; exact this.zero)
section
variable {w w1 : World} {x s be ce bl K : Nat} {t : St (El m)} {a : Option Addr} {n c : Nat} {a' : Option Addr} {n' c' : Nat}
theorem SrAt.step0 (h : SrAt m w x s be ce bl K t a n c a' n' c') (v : Int) (hv : v = ((t.k + 1 : Nat) : Int)) : SrAt m (w.setCell ⟨x, 4, none⟩ (.int .i64 v)) x s be ce bl K { t with k := t.k + 1 } a n c a' n' c' :=
  ⟨h.blk.set4 (t.k + 1) v hv, h.fld.only, h.pc.only, h.pb.only⟩
theorem SrAt.step1 (h : SrAt m w1 x s be ce bl K t a n c a' n' c') {P : Ser (El m)} {a2 : Option Addr} {n2 c2 : Nat} (hp : PA m w1 K a2 n2 c2 P x) : SrAt m (w1.setCell ⟨x, 1, none⟩ (.slice a2 n2 c2)) x s be ce bl K { t with c := P } a2 n2 c2 a' n' c' :=
  ⟨h.blk.set1 _, h.fld.only, hp.only, h.pb.only⟩
theorem SrAt.step2 (h : SrAt m w1 x s be ce bl K t a n c a' n' c') {P : Ser (El m)} {a2 : Option Addr} {n2 c2 : Nat} (hp : PA m w1 K a2 n2 c2 P x) : SrAt m ((w1.setCell ⟨x, 1, none⟩ (.slice a2 n2 c2)).setCell ⟨x, 2, none⟩ (.slice a n c)) x s be ce bl K { t with c := P, b := t.c } a2 n2 c2 a n c :=
  ⟨(h.blk.set1 _).set2 _, h.fld.only.only, hp.only.only, h.pc.only.only⟩
theorem SrAt.step3 (h : SrAt m w x s be ce bl K t a n c a' n' c') (L' : Nat) (v : Int) (hv : v = (L' : Int)) (A : El m) : SrAt m (((w.setCell ⟨x, 3, none⟩ (.int .i64 v)).setCell ⟨x, 5, none⟩ (.int .i64 (zn A))).setCell ⟨x, 4, none⟩ (.int .i64 1)) x s be ce bl K ⟨t.c, t.b, L', 1, A⟩ a n c a' n' c' :=
  ⟨((h.blk.set3 L' v hv).set5 (zn A)).set4 1 1 rfl, h.fld.only.only.only, h.pc.only.only.only, h.pb.only.only.only⟩
end
/-- what a call of mend is to answer. -/
def MendAt (F : FuncId) (fx : St (El m) → El m → Ser (El m)) (x s be ce bl : Nat) : Prop := ∀ (t : St (El m)) (K : Nat) (a a' : Option Addr) (n c n' c' : Nat) (A : El m) (w : World), SrAt m w x s be ce bl 100 t a n c a' n' c' → 0 < n' → t.k ≤ 1000 → t.d ≠ 0 → Bd (fx t A) K →
  Calls Tryz.prog F #[.pointer (some ⟨x, 0, none⟩), .int .i64 (zn A)] w fun e w' => ∃ a n c, e = .returned (.slice a n c) ∧ NP m w w' K a n c (fx t A) ∧ Below w.heap.size w w'
theorem mendAt_div (x s be ce bl : Nat) : MendAt (m := m) 97 fix x s be ce bl := fun t K a a' n c n' c' A w h h0 hk hd hb => mend_any K A w h h0 (by omega) hk hd hb
set_option maxRecDepth 100000 in
set_option maxHeartbeats 2000000 in
theorem run_any (hS : Steps S fx G) {x s be ce bl : Nat} (w0 w : World) (hM : MendAt 97 fx x s be ce bl) (a ac bc : Option Addr) (n c nc cc nb cb : Nat) (l : List Int) (hx : w0.heap.size ≤ x) (B : Below w0.heap.size w0 w) (h : SrAt m w x s be ce bl 1 st0 ac nc cc bc nb cb)
    (r : RowZ w0 a n c l) (N : Nat) (hN : N = min n 80) (hSl : ∀ i, i < N → S i = sr m l i) :
    Calls Tryz.prog 96 #[.pointer (some ⟨x, 0, none⟩), .slice a n c, .func (.func 97) #[.pointer (some ⟨x, 0, none⟩)] #[]] w fun e w' => ∃ a n c, e = .returned (.tuple #[.slice a n c, .int .i64 ((G N).L : Int)]) ∧ NV m w' 100 a n c (G N).c ∧ Below w0.heap.size w0 w' := by
  have h100 : SrAt m w x s be ce bl 100 st0 ac nc cc bc nb cb := ⟨h.blk, h.fld, h.pc.more (Nat.le_trans h.pc.2.1 (by omega)), h.pb.more (Nat.le_trans h.pb.2.1 (by omega))⟩
  have HM := Lib.hid hM
  have HS := Lib.hid hS
  have HR := Lib.hid r
  have H0 := Lib.hid (And.intro h100 B)
  have HX := Lib.hid hx
  have HSl := Lib.hid hSl
  have hcap := r.hcap
  have hmost := r.hmost
  unfold maxLen at hmost
  have hN1 : N ≤ n := by omega
  have hN2 : N ≤ 80 := by omega
  have eN : (if (80 : Int) < (n : Int) then (80 : Int) else (n : Int)) = (N : Int) := by split <;> omega
  have y1 : (0 : Int) ≤ (N : Int) := by omega
  have y2 : (N : Int) ≤ (c : Int) := by omega
  clear hM hS r h h100 B hx hSl hN
  go_enter Tryz.func96, Tryz.ntmps96
  go_wp2_with fail
  clear eN
  go_loopg [17] N (fun gh s17 wx => ∃ (k : Nat) (a1 : Option Addr) (n1 c1 : Nat) (a2 : Option Addr) (n2 c2 : Nat), gh = N - k ∧ k ≤ N ∧ s17 = .int .i64 (k : Int) ∧ SrAt m wx x s be ce bl 100 (G k) a1 n1 c1 a2 n2 c2 ∧ Below w0.heap.size w0 wx)
  case atStart => exact ⟨0, _, _, _, _, _, _, rfl, Nat.zero_le _, rfl, by rw [HS.out.zero]; exact H0.out.1, H0.out.2⟩
  case round =>
    clear H0
    obtain ⟨k, a1, n1, c1, a2, n2, c2, hg, hk, rfl, hA, hB⟩ := hrel
    have HG := Lib.hid hg
    clear hg
    by_cases hlt : k < N
    · have x0 : (k : Int) < (N : Int) := by omega
      obtain ⟨t, ht⟩ : ∃ t, t = G k := ⟨_, rfl⟩
      have hLk : t.L ≤ k := by rw [ht]; exact HS.out.len k
      have hkk : t.k ≤ k + 1 := by rw [ht]; exact HS.out.kk k
      have hbd : Bd t.c (t.L + 1) := by rw [ht]; exact HS.out.bd k
      have hcn : t.c ≠ pz := by rw [ht]; exact HS.out.cne k
      have hbn : t.b ≠ pz := by rw [ht]; exact HS.out.bne k
      have hdn : t.d ≠ 0 := by rw [ht]; exact HS.out.dne k
      rw [← ht] at hA
      obtain ⟨A, hAe⟩ : ∃ A, A = cv t.c S k := ⟨_, rfl⟩
      have HAE : Hid (A = cv (G k).c S k) := by rw [← ht]; exact hAe
      have hfb : A ≠ 0 → Bd (fx t A) (k + 2) := by
        intro h0
        rw [ht, HAE.out]
        exact HS.out.fbd k (by rw [← HAE.out]; exact h0)
      obtain ⟨⟨l1, r1, e1⟩, _, _⟩ := hA.pc
      have HSum : Hid (∀ nn, Calls Tryz.prog 122 #[.slice a1 n1 c1, .slice a N c, .int .i64 (k : Int), .int .i64 (t.L : Int), mulOf s] (wr.drewN nn) fun e w' => e = .returned (.int .i64 (zn A)) ∧ Drawn (wr.drewN nn) w') := fun nn => by
        have b := (Drawn.mk wr nn).below wr.heap.size
        have h1 := lsum_any (m := m) a1 a n1 c1 N c l1 (l.take N) k t.L (wr.drewN nn) ((hA.below b).fld.1) (r1.below b) (((HR.out.below hB).take N hN1).below b) hlt (by omega)
        have e2 : part (sr m l1) (sr m (l.take N)) k (rounds t.L k n1) = A := by
          rw [part_rounds _ _ _ _ _ (by rw [r1.hlen]; exact sr_bd _), part_cv _ _ _ (by rw [e1]; exact hbd) (Nat.le_refl _), e1, hAe]
          refine cv_ext (fun _ _ => rfl) fun i hi => ?_
          rw [HSl.out i (by omega)]
          show elm m ((l.take N).getD i 0) = elm m (l.getD i 0)
          rw [List.getD_eq_getElem?_getD, List.getD_eq_getElem?_getD, List.getElem?_take_of_lt (by omega)]
        rw [e2] at h1
        exact h1
      obtain ⟨cc0, cc1, cc2, cc3, cc4, cc5⟩ := hA.blk.cells
      have HA := Lib.hid (And.intro hA hB)
      have HT := Lib.hid (And.intro ht (And.intro hAe hfb))
      have HNE := Lib.hid (And.intro hbn hdn)
      clear hA hB r1 e1 hbd hcn hbn hdn hAe hfb ht
      have hze := zn_eq0 A
      go_wp2_with fail
      go_quiet ((go_at_call 122; exact quiet_drawn (HSum.out _)))
      have b5 := (Drawn.mk wr nq).below wr.heap.size
      generalize wr.drewN nq = w5 at b5 ⊢
      have h5 := HA.out.1.below b5
      have B5 := HA.out.2.trans (b5.mono HA.out.2.size)
      have HA5 := Lib.hid (And.intro h5 B5)
      clear cc0 cc1 cc2 cc3 cc4 cc5 b5
      obtain ⟨cc0, cc1, cc2, cc3, cc4, cc5⟩ := h5.blk.cells
      have ff := h5.blk.free
      have f1 := ff 1
      have f2 := ff 2
      have f3 := ff 3
      have f4 := ff 4
      have f5 := ff 5
      clear ff h5 B5
      by_cases hz : A = 0
      · replace hze : (zn A == 0) = true := hze.trans (decide_eq_true hz)
        have HN : Hid (SrAt m (w5.setCell ⟨x, 4, none⟩ (.int .i64 ((t.k : Int) + 1))) x s be ce bl 100 (G (k + 1)) a1 n1 c1 a2 n2 c2 ∧ Below w0.heap.size w0 (w5.setCell ⟨x, 4, none⟩ (.int .i64 ((t.k : Int) + 1)))) := by
          refine ⟨?_, HA5.out.2.setCell HX.out _⟩
          rw [HS.out.stay k (by rw [← HAE.out]; exact hz), ← HT.out.1]
          exact HA5.out.1.step0 _ (by omega)
        clear HT HNE HA HA5 HSum
        generalize zn A = zA at hze
        clear hz
        go_wp2_with fail
        go_roundg (N - (k + 1))
        case measure => have := HG.out; omega
        case rel => exact ⟨k + 1, a1, n1, c1, a2, n2, c2, rfl, hlt, by go_num, HN.out.1, HN.out.2⟩
      · replace hze : (zn A == 0) = false := hze.trans (decide_eq_false hz)
        have hz0 : cv (G k).c S k ≠ 0 := by rw [← HAE.out]; exact hz
        have HMc : Hid (Calls Tryz.prog 97 #[.pointer (some ⟨x, 0, none⟩), .int .i64 (zn A)] w5 fun e w' => ∃ a n c, e = .returned (.slice a n c) ∧ NP m w5 w' 100 a n c (fx t A) ∧ Below w5.heap.size w5 w') :=
          HM.out t 100 a1 a2 n1 c1 n2 c2 A w5 HA5.out.1 (pa_pos HA5.out.1.pb HNE.out.1) (by omega) HNE.out.2 ((HT.out.2.2 hz).mono (by omega))
        by_cases h2 : k < 2 * t.L
        · have HSt := Lib.hid (HS.out.same k hz0 (by rw [← HT.out.1]; exact h2))
          have g1 : (k : Int) < 2 * (t.L : Int) := by omega
          clear hz hz0
          go_wp2_with fail
          refine HMc.out.mono ?_
          rintro e w6 ⟨a3, n3, c3, rfl, np, b6⟩
          have B6 := HA5.out.2.trans (b6.mono HA5.out.2.size)
          have h6 := HA5.out.1.below b6
          have hx5 := HA5.out.1.blk.lt
          have s1 := h6.step1 (np.pa hx5)
          have e4 := s1.blk.cells.2.2.2.2.1
          have f4' := s1.blk.free 4
          have e1 := h6.blk.cells.2.1
          have f1' := h6.blk.free 1
          have HN : Hid (SrAt m ((w6.setCell ⟨x, 1, none⟩ (.slice a3 n3 c3)).setCell ⟨x, 4, none⟩ (.int .i64 ((t.k : Int) + 1))) x s be ce bl 100 (G (k + 1)) a3 n3 c3 a2 n2 c2 ∧ Below w0.heap.size w0 ((w6.setCell ⟨x, 1, none⟩ (.slice a3 n3 c3)).setCell ⟨x, 4, none⟩ (.int .i64 ((t.k : Int) + 1)))) := by
            refine ⟨?_, (B6.setCell HX.out _).setCell HX.out _⟩
            rw [HSt.out, ← HAE.out, ← HT.out.1]
            exact s1.step0 _ (by show (t.k : Int) + 1 = ((t.k + 1 : Nat) : Int); omega)
          clear cc0 cc1 cc2 cc3 cc4 cc5 f1 f2 f3 f4 f5 s1 h6 B6 b6 np HT HNE HA HA5 HSum HMc
          go_wp2_with fail
          go_roundg (N - (k + 1))
          case measure => have := HG.out; omega
          case rel => exact ⟨k + 1, a3, n3, c3, a2, n2, c2, rfl, hlt, by go_num, HN.out.1, HN.out.2⟩
        · have HSt := Lib.hid (HS.out.grow k hz0 (by rw [← HT.out.1]; exact h2))
          have g1 : ¬ ((k : Int) < 2 * (t.L : Int)) := by omega
          have HMl : Hid (∀ wx, Drawn w5 wx → Calls Tryz.prog 97 #[.pointer (some ⟨x, 0, none⟩), .int .i64 (zn A)] wx fun e w' => ∃ a n c, e = .returned (.slice a n c) ∧ NP m wx w' 100 a n c (fx t A) ∧ Below w5.heap.size w5 w') := fun wx d => by
            have b := d.below w5.heap.size
            refine (HM.out t 100 a1 a2 n1 c1 n2 c2 A wx (HA5.out.1.below b) (pa_pos HA5.out.1.pb HNE.out.1) (by omega) HNE.out.2 ((HT.out.2.2 hz).mono (by omega))).mono ?_
            rintro e w' ⟨a3, n3, c3, he, np, b6⟩
            exact ⟨a3, n3, c3, he, np, b.trans (b6.mono b.size)⟩
          clear hz hz0 HMc
          have hx5 := HA5.out.1.blk.lt
          go_wp2_with fail
          go_region_law (first | (go_simp; go_at_call 97; refine Calls.mono (HMl.out _ (Drawn.mk w5 1)) ?_; rintro e w6 ⟨a3, n3, c3, rfl, np, b6⟩; have h6 := HA5.out.1.below b6; have s1 := h6.step1 (np.pa hx5); have e1 := h6.blk.cells.2.1; have f1' := h6.blk.free 1; have e2 := s1.blk.cells.2.2.1; have f2' := s1.blk.free 2))
          all_goals
            have s2 := h6.step2 (np.pa hx5)
            have B6 := (((HA5.out.2.trans (b6.mono HA5.out.2.size)).setCell (p := ⟨x, 1, none⟩) HX.out (.slice a3 n3 c3)).setCell (p := ⟨x, 2, none⟩) HX.out (.slice a1 n1 c1))
            clear cc0 cc1 cc2 cc3 cc4 cc5 f1 f2 f3 f4 f5 h6 s1 e1 e2 f1' f2' b6 np HMl HSum
            generalize (w6.setCell ⟨x, 1, none⟩ (.slice a3 n3 c3)).setCell ⟨x, 2, none⟩ (.slice a1 n1 c1) = w7 at s2 B6 ⊢
            have s3 := s2.blk.set3 (k + 1 - t.L) ((k : Int) + 1 - (t.L : Int)) (by omega)
            have s4 := s3.set5 (zn A)
            have d1 := s2.blk.cells.2.2.2.1
            have d2 := s2.blk.free 3
            have d3 := s3.cells.2.2.2.2.2
            have d4 := s3.free 5
            have d5 := s4.cells.2.2.2.2.1
            have d6 := s4.free 4
            have HN : Hid (SrAt m (((w7.setCell ⟨x, 3, none⟩ (.int .i64 ((k : Int) + 1 - (t.L : Int)))).setCell ⟨x, 5, none⟩ (.int .i64 (zn A))).setCell ⟨x, 4, none⟩ (.int .i64 1)) x s be ce bl 100 (G (k + 1)) a3 n3 c3 a1 n1 c1 ∧ Below w0.heap.size w0 (((w7.setCell ⟨x, 3, none⟩ (.int .i64 ((k : Int) + 1 - (t.L : Int)))).setCell ⟨x, 5, none⟩ (.int .i64 (zn A))).setCell ⟨x, 4, none⟩ (.int .i64 1))) := by
              refine ⟨?_, ((B6.setCell HX.out _).setCell HX.out _).setCell HX.out _⟩
              rw [HSt.out, ← HAE.out, ← HT.out.1]
              exact s2.step3 (k + 1 - t.L) _ (by omega) A
            clear s2 s3 s4 B6 HT HNE HA HA5
            generalize zn A = zA at hze HN d3 d4 d5 d6 ⊢
            go_wp2_with fail
            go_roundg (N - (k + 1))
            case measure => have := HG.out; omega
            case rel => exact ⟨k + 1, a3, n3, c3, a1, n1, c1, rfl, hlt, by go_num, HN.out.1, HN.out.2⟩
    · obtain rfl : k = N := by omega
      obtain ⟨cc0, cc1, cc2, cc3, cc4, cc5⟩ := hA.blk.cells
      have hx5 := hA.blk.lt
      have HC : Hid (∀ w', Below wr.heap.size wr w' → w'.cell? ⟨x, 0, none⟩ = some (.pointer (some ⟨s, 0, none⟩)) ∧ w'.cell? ⟨x, 1, none⟩ = some (.slice a1 n1 c1) ∧ w'.cell? ⟨x, 3, none⟩ = some (.int .i64 ((G k).L : Int))) := fun w' b => ⟨(b.cell (p := ⟨x, 0, none⟩) hx5).trans cc0, (b.cell (p := ⟨x, 1, none⟩) hx5).trans cc1, (b.cell (p := ⟨x, 3, none⟩) hx5).trans cc3⟩
      have HA := Lib.hid hA
      have HB := Lib.hid hB
      clear hA hB cc2 cc4 cc5
      have B0 : Below wr.heap.size wr wr.drew := (Drawn.mk wr 1).below _
      go_wp2_with fail
      go_region_held3 (fun w' => w'.cell? ⟨x, 0, none⟩ = some (.pointer (some ⟨s, 0, none⟩)) ∧ w'.cell? ⟨x, 1, none⟩ = some (.slice a1 n1 c1) ∧ w'.cell? ⟨x, 3, none⟩ = some (.int .i64 ((G k).L : Int)))
        (first | go_keep | exact HC.out _ B2 | exact HC.out _ B1)
        ((first
          | (go_at_call 123; refine Calls.mono (pnew_any _ (HA.out.below B0).fld.1) ?_; rintro e w1 ⟨g, rfl, R, b1⟩; have B1 := B0.trans (b1.mono B0.size))
          | (go_at_call 124; refine Calls.mono (trimV R (HA.out.below B1).pc.pv (by omega)) ?_; rintro e w2 ⟨a3, n3, cc3, rfl, nv, b2⟩; have B2 := B1.trans (b2.mono B1.size))))
      go_wp2_with fail
      go_ret2
      exact ⟨_, _, _, rfl, nv, HB.out.trans (B2.mono HB.out.size)⟩
end
end Go.Proofs.YthmfneepnkgmgaaGreatDoor.Loc
/- The contracts of package locate: Locate, Fast, Of, Makes. By the verifier of shale. -/
namespace Go.Proofs.YthmfneepnkgmgaaGreatDoor.Loc
open Go Go.RowKit Pl Fld Bits16
set_option linter.unusedVariables false
section
variable {m : Nat} [M : Mid m]
set_option maxRecDepth 100000 in
set_option maxHeartbeats 1000000 in
theorem locate_any {s be ce bl : Nat} (a : Option Addr) (n c : Nat) (l : List Int) (w : World) (F : FldAt m w s be ce bl) (r : RowZ w a n c l) (S : Ser (El m)) (N : Nat) (hN : N = min n 80) (hS : ∀ i, i < N → S i = sr m l i) :
    Calls Tryz.prog 62 #[.pointer (some ⟨s, 0, none⟩), .slice a n c] w fun e w' => ∃ a n c, e = .returned (.tuple #[.slice a n c, .int .i64 ((bm S N).L : Int)]) ∧ NV m w' 100 a n c (bm S N).c ∧ Below w.heap.size w w' := by
  have HF := Lib.hid F
  have HR := Lib.hid r
  have HS := Lib.hid hS
  have HN := Lib.hid hN
  clear F r hS hN
  go_enter Tryz.func62, Tryz.ntmps62
  go_wp2_with fail
  refine (begin_any w HF.out).mono ?_
  rintro e w1 ⟨x, a1, a2, rfl, hx, h1, b1⟩
  go_wp2_with fail
  refine (run_any (steps_bm S) w w1 (mendAt_div x s be ce bl) a a1 a2 n c 1 1 1 1 l hx b1 h1 HR.out N HN.out HS.out).mono ?_
  rintro e w2 ⟨a3, n3, c3, rfl, nv, b2⟩
  go_wp2_with fail
  go_ret2
  exact ⟨_, _, _, rfl, nv, b2⟩
open Classical in
end
end Go.Proofs.YthmfneepnkgmgaaGreatDoor.Loc
/- Structs of integers that came in by value. By the verifier of shale. -/
namespace Go.Proofs.YthmfneepnkgmgaaGreatDoor
open Go Go.RowKit Go.ChangeShapes Go.WideShapes Go.Deep
/-- a struct of integers alone, handed in by value: its cells are integers that fit. -/
theorem open_ints_struct {H : Type} {enc : TypeId × Value → H} {P : Program} {w : World} {base b0 : Nat} {spare : Nat → Bool} {held : Bool} {r : Reach} {k : IntKind} {t : TypeId} {fs : Array Field} {v : Value} {d : DataW H} {p : List MemPlace}
    (hs : P.underlying t = some (.struct fs)) (hone : oneCellFields P fs = true) (hC : P.cellsOf t = fs.size) (hi : ∀ (j : Nat) (f : Field), fs[j]? = some f → P.underlying f.type = some (.int k))
    (hv : Value.okWide P w r b0 t v) (h : DataW.Trod enc P w base spare held t v d p) :
    ∃ n : Nat → Int, v = .agg ((List.range fs.size).map fun i => .int k (n i)).toArray ∧ ∀ i, i < fs.size → (Lit.int k (n i)).wf = true := by
  obtain ⟨cs, rfl, hsz⟩ := okWide_struct hs hv
  obtain ⟨fuel, hf⟩ := h
  obtain ⟨xs, n, _, _, hl, _, hg⟩ := DataW.trod_struct hs hf
  have each : ∀ j, j < fs.size → ∃ m, cs[j]? = some (.int k m) ∧ (Lit.int k m).wf = true := by
    intro j hj
    have hf0 : fs[j]? = some (fs[j]'hj) := Array.getElem?_eq_getElem hj
    obtain ⟨o, c⟩ := hone_of hone j _ hf0
    have g := hg j _ hf0
    rw [o, c] at g
    have hx : j < xs.length := by omega
    rw [List.getElem?_eq_getElem hx] at g
    obtain ⟨m, e, _, hw⟩ := DataW.trod_int (hi j _ hf0) g
    refine ⟨m, ?_, hw⟩
    have hj2 : j < cs.toList.length := by rw [Array.length_toList]; omega
    have e2 : (cs.toList.drop j).take 1 = [.int k m] := by simpa [Value.cells] using e
    rw [List.drop_eq_getElem_cons hj2] at e2
    simp only [List.take_succ_cons, List.take_zero, List.cons.injEq, and_true] at e2
    rw [Array.getElem?_eq_getElem (by simpa using hj2)]
    congr 1
  refine ⟨fun j => match cs[j]? with | some (.int _ m) => m | _ => 0, ?_, fun i hi => ?_⟩
  · congr 1
    apply Array.ext_getElem?
    intro j
    by_cases hj : j < fs.size
    · obtain ⟨m, e, _⟩ := each j hj
      rw [e]
      simp [hj, e]
    · have h1 : cs.size ≤ j := by omega
      rw [Array.getElem?_eq_none h1, Array.getElem?_eq_none (by simp; omega)]
  · obtain ⟨m, e, hw⟩ := each i hi
    simp only [e]
    exact hw
end Go.Proofs.YthmfneepnkgmgaaGreatDoor
