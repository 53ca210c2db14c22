/- Texts of the verifier of shale, laid into one: RefSea, QuietRound. -/
import Derived.Test.YtbgegnoenceflaaDoorGreat1
import Derived.Test.YtbgegnoenceflaaDoorGreat2
import Derived.Deep.Cut
import Derived.BigQuiet
import Derived.RangeFuncCalls
import Derived.OrdersIn
import Derived.TacticsIn
import Derived.Lib.QuietBelow
/- The document's own search. By the verifier of shale. -/
namespace Go.Proofs.YtbgegnoenceflaaDoor.Sea
open Go Go.RowKit Pl Fld Bits16 Loc
set_option linter.unusedVariables false
section
variable {m : Nat} [M : Mid m]
theorem pt_one : h (pwZ m (-(lg m (el m 2) : Int))) = zn (pt m 1) := by
  have hz := size_lo m M.lo
  rw [el_two m M.lo M.hi, lg_pw m M.lo M.hi 1 (by omega)]; rfl
theorem pt_succ (i : Nat) : pt m i * pt m 1 = pt m (i + 1) := by
  unfold pt
  rw [exK_mul]
  congr 1
  rw [Int.natCast_succ]; omega
theorem pt_zero : zn (pt m 0) = 1 := by
  have : pt m 0 = 1 := by
    unfold pt
    rw [show -((0 : Nat) : Int) = 0 by simp, exK_zero]
  rw [this]; rfl
set_option maxRecDepth 100000 in
set_option maxHeartbeats 2000000 in
theorem rsearch_any {K : Nat} {a : Option Addr} {n c : Nat} {p : Ser (El m)} (nn : Int) (w : World) (P : PV m w K a n c p) (hK : K ≤ 2048) :
    Calls Tryd.prog 9 #[.int .i64 (m : Int), .slice a n c, .int .i64 nn] w fun e w' => ∃ a' c', e = .returned (.slice a' (hits (zAt p K) (lim m nn)).length c') ∧ RowZ w' a' (hits (zAt p K) (lim m nn)).length c' (intsN (hits (zAt p K) (lim m nn))) ∧ Below w.heap.size w w' := by
  obtain ⟨i0, hi, hz0, hz1, hz2⟩ := info64
  have hn : n ≤ K := by obtain ⟨_, _, _, h3⟩ := P; exact h3
  have x3 : n ≤ c := by obtain ⟨_, r, _⟩ := P; exact r.hcap
  have hz := size_hi m M.hi
  have x1 : ¬ 2048 < n := by omega
  have hm14 : (m : Int) ≤ 14 := by have := M.hi; omega
  have hm0 : (0 : Int) ≤ (m : Int) := by omega
  have ho := shl_one m M.hi
  have eo : (els m : Int) - 1 = (size m : Int) := by rw [els_eq]; omega
  obtain ⟨mn, e1⟩ : ∃ mn, (if (size m : Int) < nn then (size m : Int) else nn) = mn := ⟨_, rfl⟩
  have hmn : (mn ≤ 0 ∧ lim m nn = 0) ∨ mn = (lim m nn : Int) := by unfold lim; rw [← e1]; split <;> omega
  have hlm := lim_le m nn
  obtain ⟨N, hN⟩ : ∃ N, N = lim m nn := ⟨_, rfl⟩
  rw [← hN] at hmn hlm ⊢
  have HP := Lib.hid P
  have hiv := rinv_any m M.lo M.hi 2 (by rw [el_two m M.lo M.hi]; exact (pw_ne m M.lo M.hi 1).1) w
  rw [pt_one] at hiv
  clear P hN
  go_enter Tryd.func9, Tryd.ntmps9
  go_wp2_with fail
  refine hiv.mono ?_
  rintro e w1 ⟨rfl, b1⟩
  have H0 : Hid (Own64 w1 w.heap.size (.slice none 0 0) 0 (intsN (hits (zAt p K) 0)) ∧ Below w.heap.size w w1) := ⟨Own64.nil w1 _, b1⟩
  clear hiv b1 x1
  go_wp2_with fail
  go_loopg [7, 8, 10] N (fun gh s7 s8 s10 wx => ∃ i q : Nat, gh = N - i ∧ i ≤ N ∧ s10 = .int .i64 (i : Int) ∧ s8 = .int .i64 (zn (pt m i)) ∧ q ≤ i ∧ Hid (Own64 wx w.heap.size s7 q (intsN (hits (zAt p K) i))) ∧ Below w.heap.size w wx)
  case atStart => exact ⟨0, 0, rfl, Nat.zero_le _, rfl, by rw [pt_zero], Nat.le_refl _, H0.out.1, H0.out.2⟩
  case round =>
    clear H0
    obtain ⟨i, q, hg, hin, rfl, rfl, hqi, HO, hB⟩ := hrel
    have HG := Lib.hid hg
    clear hg
    obtain ⟨va, vc, hv⟩ := own_slice HO.out
    subst hv
    obtain ⟨W5, hW5⟩ : ∃ W5, W5 = wr := ⟨_, rfl⟩
    rw [← hW5] at HO hB ⊢
    clear hW5
    by_cases hlt : i < N
    · have y0 : (i : Int) < mn := by omega
      have y1 : (0 : Int) ≤ (i : Int) := by omega
      have hev := revalV (zn (pt m i)) (HP.out.below hB)
      rw [elm_zn] at hev
      have HI1 : Hid (i + 1 ≤ N) := hlt
      obtain ⟨z, hzv⟩ : ∃ z, z = zn (ev K p (pt m i)) := ⟨_, rfl⟩
      have HZ : Hid (zAt p K i = (z == 0)) := by show _ = _; rw [hzv]; rfl
      rw [← hzv] at hev
      have hq16 : q ≤ 16383 := by omega
      have HB := Lib.hid (And.intro hB hqi)
      have HM : Hid (∀ w, Calls Tryd.prog 23 #[.int .i64 (m : Int), .int .i64 (zn (pt m i)), .int .i64 (zn (pt m 1))] w fun e w' => e = .returned (.int .i64 (zn (pt m (i + 1)))) ∧ Below w.heap.size w w') := fun w => by
        have := rmul_zz (pt m i) (pt m 1) w
        rwa [pt_succ] at this
      generalize hp1 : zn (pt m (i + 1)) = p1 at HM
      have HP1 := Lib.hid hp1
      generalize zn (pt m i) = p0 at HM hev ⊢
      clear hzv hlt hin hB hqi hp1
      by_cases hzz : z = 0
      · have hzb : (z == 0) = true := by simp [hzz]
        have hx : Hid (zAt p K i = true) := by show _ = _; rw [HZ.out]; exact hzb
        go_wp2_with fail
        refine hev.mono ?_
        rintro e w6 ⟨rfl, b6⟩
        have hOw : Own64 w6 w.heap.size (.slice va q vc) q (intsN (hits (zAt p K) i)) := HO.out.keep fun x hx => b6.block x (HO.out.block x hx).2
        have hb6 := HB.out.1.trans (b6.mono HB.out.1.size)
        have hbs := hb6.size
        have HB6 := Lib.hid hb6
        clear hev b6 hb6
        go_wp2_with (at_builtin; refine wpList_append_own _ rfl _ _ 22 rfl w.heap.size 3 i0 (.int .i64 0) 1 8 Tryd.underlying22 hi hz0 hz1 hz2 rfl (by decide) _ q _ rfl (World.ownsRow.alloc hOw _) ⟨w6.heap.size, 0, none⟩ 1 1 [.int .i64 (i : Int)] rfl rfl (cell_one_new _ _ _) (ints_oneCell .i64 [_]) (by unfold maxLen; omega) (by omega) (by simp; omega) ?_; intro v7 w7 hown7 hgrow _)
        have ho7 : Own64 w7 w.heap.size v7 (q + 1) (intsN (hits (zAt p K) (i + 1))) := by
          unfold Own64
          rw [hits_succ, if_pos hx.out, show intsN (hits (zAt p K) i ++ [i]) = intsN (hits (zAt p K) i) ++ [(i : Int)] by simp [intsN], ← cells64_append]
          exact hown7
        have b7 : Below w.heap.size w6 w7 := ((Below.refl w.heap.size w6).alloc hbs _).grown hgrow (by simp; omega) (fun g hg => (hOw.block g hg).1)
        have HN := Lib.hid (And.intro ho7 (HB6.out.trans b7))
        clear hown7 hgrow hOw ho7 b7 hbs HO
        go_wp2_with fail
        refine (HM.out w7).mono ?_
        rintro e w8 ⟨rfl, b8⟩
        have HN8 : Hid (Own64 w8 w.heap.size v7 (q + 1) (intsN (hits (zAt p K) (i + 1))) ∧ Below w.heap.size w w8) := ⟨HN.out.1.keep fun x hx => b8.block x (HN.out.1.block x hx).2, HN.out.2.trans (b8.mono HN.out.2.size)⟩
        clear b8 HN
        go_wp2_with fail
        go_roundg (N - (i + 1))
        case measure => have := HG.out; have := HI1.out; omega
        case rel => exact ⟨i + 1, q + 1, rfl, HI1.out, by go_num, by rw [HP1.out], by have := HB.out.2; omega, HN8.out.1, HN8.out.2⟩
      · have hzb : (z == 0) = false := by simp [hzz]
        have hx : Hid (zAt p K i = false) := by show _ = _; rw [HZ.out]; exact hzb
        go_wp2_with fail
        refine hev.mono ?_
        rintro e w6 ⟨rfl, b6⟩
        have HN : Hid (Own64 w6 w.heap.size (.slice va q vc) q (intsN (hits (zAt p K) (i + 1))) ∧ Below w.heap.size w w6) := by
          refine ⟨?_, HB.out.1.trans (b6.mono HB.out.1.size)⟩
          rw [hits_succ, if_neg (by simp [hx.out]), List.append_nil]
          exact HO.out.keep fun x hx => b6.block x (HO.out.block x hx).2
        clear hev b6 HO
        go_wp2_with fail
        refine (HM.out w6).mono ?_
        rintro e w8 ⟨rfl, b8⟩
        have HN8 : Hid (Own64 w8 w.heap.size (.slice va q vc) q (intsN (hits (zAt p K) (i + 1))) ∧ Below w.heap.size w w8) := ⟨HN.out.1.keep fun x hx => b8.block x (HN.out.1.block x hx).2, HN.out.2.trans (b8.mono HN.out.2.size)⟩
        clear b8 HN
        go_wp2_with fail
        go_roundg (N - (i + 1))
        case measure => have := HG.out; have := HI1.out; omega
        case rel => exact ⟨i + 1, q, rfl, HI1.out, by go_num, by rw [HP1.out], by have := HB.out.2; omega, HN8.out.1, HN8.out.2⟩
    · obtain rfl : i = N := by omega
      have y0 : ¬ (i : Int) < mn := by omega
      have hlen : q = (hits (zAt p K) i).length := by have := HO.out.len; rw [← this]; simp [intsN]
      have HR := (own_rowz HO.out).1
      have HR2 := Lib.hid (And.intro HR (And.intro hB hlen))
      clear HO HR hB hlen hlt hin
      go_wp2_with fail
      go_ret
      obtain ⟨r, b, rfl⟩ := HR2.out
      exact ⟨va, vc, rfl, r, b⟩
end
end Go.Proofs.YtbgegnoenceflaaDoor.Sea
/- A region that draws its order, within a round of a range over a function: what it does leaves the world in a class; one walk in the text's order serves all. By the verifier of shale. -/
namespace Go.Proofs.YtbgegnoenceflaaDoor
open Go Go.RowKit
set_option linter.unusedVariables false
/-- nothing is put off. -/
def noDefer (o : Oper) : Bool := match o.op with
  | .defer _ => false
  | _ => true
theorem noDefer_op {o : Oper} (h : noDefer o = true) : ∀ c, o.op ≠ .defer c := by
  intro c e
  unfold noDefer at h
  rw [e] at h
  cases h
section
variable {l n : Nat} {P : Program} {ops : Array Oper} {md : Region.Mode} {C : World → Prop}
theorem opIn_round {o : Oper} {a : Act} {K : Act → Prop} {K' : Act → World → Prop} {Q' : Exit → Act → World → Prop} {w : World} (hd : noDefer o = true) (hw : C w) (h : ∀ a w', C w' → K a → K' a w') (hh : o.quiet P a C K) : o.wpIn (Fence.wide.inRound l) n P a w K' Q' := by
  obtain ⟨v, h1, h2⟩ := hh
  have h3 := h1 w hw
  refine ⟨fun _ _ => trivial, ?_⟩
  show o.uponIn (Fence.wide.inRound l) n P a K' Q' ((Oper.semAt (some l) a.eval o).run P w)
  rw [Oper.semAt_some l _ _ (noDefer_op hd)]
  unfold Oper.quietAt at h3
  revert h3
  generalize (execOp a.eval o).run P w = r
  intro h3
  match r, h3 with
  | .ok (.value u) w', h3 =>
    obtain ⟨e1, e2⟩ := h3
    show K' (a.put o.dst u) w'
    rw [e1, e2]
    exact h _ _ hw h2
  | .ok .skip w', h3 =>
    obtain ⟨e1, e2⟩ := h3
    show K' (a.put o.dst undef) w'
    rw [e1, ← e2]
    exact h _ _ hw h2
  | .ok (.enter f args) w', h3 =>
    obtain ⟨e1, hc⟩ := h3
    rw [e1]
    refine ⟨fun e => absurd e (by simp [Fence.wide]), (CallsIn.inRound l (callsIn_wide.2 hc)).mono ?_⟩
    rintro e w'' ⟨he, hw''⟩
    subst he
    exact h _ _ hw'' h2
theorem anyIn_round {Q : Act → Prop} {Q' : Exit → Act → World → Prop} (hd : ∀ (i : Nat) (o : Oper), ops[i]? = some o → noDefer o = true) (hQ : ∀ a w, C w → Q a → Q' .normal a w) : ∀ (f : Nat) (s : Array Bool) (a : Act) (w : World), C w →
    wpAnyQ P md ops C Q f s a → wpAnyIn (Fence.wide.inRound l) n P md ops Q' f s a w
  | 0, s, a, w, hw, h => ⟨h.1, hQ _ _ hw h.2⟩
  | f + 1, s, a, w, hw, h => by
    refine ⟨fun h0 => hQ _ _ hw (h.1 h0), fun i hi => ?_⟩
    have hq := h.2 i hi
    unfold qOp at hq
    unfold wpOpIn
    cases ho : ops[i]? with
    | none =>
      rw [ho] at hq
      exact anyIn_round hd hQ f _ _ _ hw hq
    | some o =>
      rw [ho] at hq
      simp only at hq ⊢
      by_cases hwt : Region.wanted o (yielded ops a.tmps) = true
      · rw [if_pos hwt] at hq ⊢
        exact opIn_round (hd i o ho) hw (fun a' w' hw' h' => anyIn_round hd hQ f _ a' w' hw' h') hq
      · rw [if_neg hwt] at hq ⊢
        exact ⟨fun _ _ => trivial, anyIn_round hd hQ f _ _ _ hw hq⟩
/-- **THE STATEMENT.** -/
theorem wpIn_round_quiet {id : Nat} {Q : Exit → Act → World → Prop} {a : Act} {w : World} {os : List Oper} (hm : P.follows .mixedOrders = true) (hB : Region.lexB .any os.toArray = true) (hn : os.all noDefer = true) (hC : C { w with drawn := w.drawn + 1 })
    (h : wpQuiet P os.toArray C (fun a' => ∀ w', C w' → Q .normal a' w') os a) : (Code.region id os.toArray true).wpIn (Fence.wide.inRound l) n P Q a w := by
  simp only [Region.lexB, Bool.and_eq_true] at hB
  have hd : ∀ (i : Nat) (o : Oper), os.toArray[i]? = some o → noDefer o = true := fun i o ho => by
    rw [List.getElem?_toArray] at ho
    exact List.all_eq_true.1 hn o (List.mem_of_getElem? ho)
  refine wpIn_region_any hm (anyIn_round (Q := fun a' => ∀ w', C w' → Q .normal a' w') hd (fun _ w' hw' h => h w' hw') _ _ _ _ hC ?_)
  have := wpAnyQ_lex (P := P) (ops := os.toArray) (C := C) (md := .any) (Q := fun a' => ∀ w', C w' → Q .normal a' w') hB.1 os 0 (Array.replicate os.toArray.size false) a (by simp) (by simpa using hB.2) h
  simpa using this
end
end Go.Proofs.YtbgegnoenceflaaDoor
