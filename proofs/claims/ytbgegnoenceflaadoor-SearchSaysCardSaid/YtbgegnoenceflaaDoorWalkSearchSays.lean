/- The walk over SearchSays. By the verifier of shale. -/
import Derived.Test.YtbgegnoenceflaaDoorGreat1
import Derived.Test.YtbgegnoenceflaaDoorGreat2
import Derived.Test.YtbgegnoenceflaaDoorGreat3
import Derived.Test.YtbgegnoenceflaaDoorLaidSearchSays
import Derived.Deep.Cut
namespace Go.Proofs.YtbgegnoenceflaaDoor.walkSearchSays
open Go Go.RowKit Fld Bits16 Pl Loc Sea
set_option linter.unusedVariables false
attribute [local go_sem] Oper.semAt_some
theorem bx_new (w : World) (v : Value) (t : TypeId) : Box (w.alloc (.cells #[v] t (0, 0))) w.heap.size v t := heap_alloc_new w _
theorem bx_keep {w w' : World} {b : Nat} {v : Value} {t : TypeId} (h : Box w b v t) (k : Below w.heap.size w w') : Box w' b v t := (k.block _ (lt_of_block h)).trans h
theorem eqF (f : Fn) (a b : Array Value) (w : World) : Sem.run Tryd.prog (binOp BinOp.eql 31 (Value.func f a b) Value.nilFunc) w = Result.ok (.bool false) w := by
  rfl
theorem regrown_start (w : World) : ∃ p : Regrown, w.drew = Sort.grow (redrawn w p.d) p.os := regrown_of_below ((Drawn.mk w 1).below _)
/-- the mark of a loop's put-off calls. -/
def mark (D : Nat) : Deferred := { target := .collected D, args := #[] }
theorem marks_post {F : Fence} {n : Nat} {P : Program} {fn : Func} {tmps : Array Value} {R : Ending → World → Prop} : ∀ (ds : List Nat) (W : World), ds.Nodup → (∀ D ∈ ds, W.heap[D]? = some (.deferred (some []))) →
    (∀ W', W'.os = W.os → W'.tape = W.tape → W'.output = W.output → W'.heap.size = W.heap.size → (∀ k, k ∉ ds → W'.heap[k]? = W.heap[k]?) → ∃ v, (results fn tmps).run P W' = .ok v W' ∧ R (.returned v) W') →
    bodyPostM F n P fn R .ret { tmps := tmps, defers := ds.map mark } W
  | [], W, _, _, h => h W rfl rfl rfl rfl fun _ _ => rfl
  | D :: ds, W, hn, hd, h => by
    rw [List.nodup_cons] at hn
    refine ⟨by simp, .inl ⟨D, _, rfl, run_takeDeferred (hd D (List.mem_cons_self ..)), marks_post (F := F) (n := n) (P := P) (fn := fn) (tmps := tmps) (R := R) ds _ hn.2 (fun X hX => ?_) fun W' e1 e2 e3 e4 e5 => ?_⟩⟩
    · exact (World.putObj_heap_other (fun e => hn.1 (by rw [← e]; exact hX))).trans (hd X (List.mem_cons_of_mem _ hX))
    · refine h W' e1 e2 e3 (by rw [e4]; simp) fun k hk => ?_
      rw [List.mem_cons, not_or] at hk
      exact (e5 k hk.2).trans (World.putObj_heap_other (fun e => hk.1 e))
/-- what stands in the three cells of the beginning. -/
structure Beg (W : World) (w : World) (pb sb rb : Nat) (a : Option Addr) (n c : Nat) (st : Int) (r : Bool) : Prop where
  pB : Box W pb (.slice a n c) 22
  sB : Box W sb (.int .i64 st) 3
  rB : Box W rb (.bool r) 4
  wB : Below w.heap.size w W
  lo : w.heap.size ≤ rb
theorem Beg.keep {W W' w : World} {pb sb rb : Nat} {a : Option Addr} {n c : Nat} {st : Int} {r : Bool} (h : Beg W w pb sb rb a n c st r) (k : Below W.heap.size W W') : Beg W' w pb sb rb a n c st r :=
  ⟨bx_keep h.pB k, bx_keep h.sB k, bx_keep h.rB k, h.wB.trans (k.mono h.wB.size), h.lo⟩
theorem beg_new (w : World) (a : Option Addr) (n c : Nat) (st : Int) :
    Beg (((w.alloc (.cells #[.slice a n c] 22 (0, 0))).alloc (.cells #[.int .i64 st] 3 (0, 0))).alloc (.cells #[.bool false] 4 (0, 0))) w w.heap.size (w.heap.size + 1) (w.heap.size + 1 + 1) a n c st false := by
  obtain ⟨w1, h1⟩ : ∃ w1, w1 = w.alloc (.cells #[.slice a n c] 22 (0, 0)) := ⟨_, rfl⟩
  obtain ⟨w2, h2⟩ : ∃ w2, w2 = w1.alloc (.cells #[.int .i64 st] 3 (0, 0)) := ⟨_, rfl⟩
  have s1 : w1.heap.size = w.heap.size + 1 := by rw [h1]; simp
  have s2 : w2.heap.size = w.heap.size + 1 + 1 := by rw [h2]; simp [s1]
  rw [← h1, ← h2]
  have b1 : Below w.heap.size w w1 := by rw [h1]; exact (Below.refl _ _).alloc (Nat.le_refl _) _
  have b2 : Below w1.heap.size w1 w2 := by rw [h2]; exact (Below.refl _ _).alloc (Nat.le_refl _) _
  have b3 : Below w2.heap.size w2 (w2.alloc (.cells #[.bool false] 4 (0, 0))) := (Below.refl _ _).alloc (Nat.le_refl _) _
  have p1 : Box w1 w.heap.size (.slice a n c) 22 := by rw [h1]; exact bx_new w _ _
  have p2 : Box w2 (w.heap.size + 1) (.int .i64 st) 3 := by rw [h2, ← s1]; exact bx_new w1 _ _
  have p3 : Box (w2.alloc (.cells #[.bool false] 4 (0, 0))) (w.heap.size + 1 + 1) (.bool false) 4 := by rw [← s2]; exact bx_new w2 _ _
  exact ⟨bx_keep (bx_keep p1 b2) b3, bx_keep p2 b3, p3, (b1.trans (b2.mono b1.size)).trans (b3.mono (by omega)), by omega⟩
theorem bx_made (w : World) (v : Value) : Box (w.alloc (.cells #[v] 3 (0, 0))) w.heap.size v 3 ∧ Below w.heap.size w (w.alloc (.cells #[v] 3 (0, 0))) ∧ (w.alloc (.cells #[v] 3 (0, 0))).heap.size = w.heap.size + 1 :=
  ⟨bx_new w v 3, (Below.refl _ _).alloc (Nat.le_refl _) _, by simp⟩
set_option maxRecDepth 100000 in
set_option maxHeartbeats 1000000 in
theorem long (x0 : Int) (a1 : Option Addr) (n1 c1 : Nat) (x2 x3 : Int) (w : World) {y : Addr} (E : ErrAt w 2 y) (h : 60 < n1) :
    Calls Tryd.prog 3 #[.int .i64 x0, .slice a1 n1 c1, .int .i64 x2, .int .i64 x3] w fun e w' => e = .returned (.bool true) ∧ Below w.heap.size w w' := by
  have t1 : decide ((60 : Int) < (n1 : Int)) = true := decide_eq_true (by omega)
  clear h
  have BG := beg_new w a1 n1 c1 x3
  go_enter Tryd.func3, Tryd.ntmps3
  go_wp2_with fail
  generalize (((w.alloc (.cells #[.slice a1 n1 c1] 22 (0, 0))).alloc (.cells #[.int .i64 x3] 3 (0, 0))).alloc (.cells #[.bool false] 4 (0, 0))) = wA at BG ⊢
  refine (first_any wA (E.below BG.wB)).mono ?_
  rintro e w1 ⟨rfl, b⟩
  replace BG := BG.keep b
  clear b
  go_wp2_with fail
  refine (made_any x0 w1).mono ?_
  rintro e w2 ⟨s, be, ce, bl, rfl, F, b⟩
  replace BG := BG.keep b
  clear b
  have hmk := bx_made w2 (.int .i64 (mk9 x0 : Int))
  have HK := Lib.hid hmk
  have HBG := Lib.hid BG
  clear hmk BG
  go_upto_region 3 with (fail)
  generalize hw3 : w2.alloc (.cells #[.int .i64 (mk9 x0 : Int)] 3 (0, 0)) = w3 at HK ⊢
  clear hw3
  have BG := HBG.out.keep HK.out.2.1
  have p1 := BG.pB.cell
  have p2 := BG.rB.cell
  have p3 := BG.rB.free
  have HB3 := Lib.hid BG
  have HE := Lib.hid E
  clear BG HBG E
  go_wp2_with fail
  have p4 := (HB3.out.rB.put (.bool true)).cell
  exact bodyPost_ret (v := .bool true) (by simp [results, Tryd.results3, go_sem, p4]) rfl ⟨rfl, HB3.out.wB.setCell HB3.out.lo _⟩
set_option maxRecDepth 100000 in
set_option maxHeartbeats 4000000 in
theorem core (x0 : Int) (a1 : Option Addr) (n1 c1 : Nat) (l : List Int) (x2 x3 : Int) (w : World) {y : Addr} (E : ErrAt w 2 y) (P1 : RowZ w a1 n1 c1 l) (k1 : n1 ≤ 60) :
    Calls Tryd.prog 3 #[.int .i64 x0, .slice a1 n1 c1, .int .i64 x2, .int .i64 x3] w fun e w' => e = .returned (.bool true) ∧ Below w.heap.size w w' := by
  have t1 : decide ((60 : Int) < (n1 : Int)) = false := decide_eq_false (by omega)
  have BG := beg_new w a1 n1 c1 x3
  refine (callsIn_wide (n := 3)).1 ?_
  refine callsIn_of_wp_marks Tryd.func3 rfl trivial ?_ rfl
  simp only [Tryd.ntmps3, List.size_toArray, List.length_cons, List.length_nil, Nat.reduceAdd, Nat.reduceSub, Array.replicate_succ, Array.replicate_zero, List.push_toArray, List.append_toArray, List.nil_append, List.cons_append]
  refine wpIn_wide.2 ?_
  go_wp2_with fail
  generalize (((w.alloc (.cells #[.slice a1 n1 c1] 22 (0, 0))).alloc (.cells #[.int .i64 x3] 3 (0, 0))).alloc (.cells #[.bool false] 4 (0, 0))) = wA at BG ⊢
  replace E := E.below BG.wB
  replace P1 := P1.below BG.wB
  refine (first_any wA E).mono ?_
  rintro e w1 ⟨rfl, b⟩
  replace BG := BG.keep b
  replace E := E.below b
  replace P1 := P1.below b
  clear b
  go_wp2_with fail
  refine (made_any x0 w1).mono ?_
  rintro e w2 ⟨s, be, ce, bl, rfl, F, b⟩
  replace BG := BG.keep b
  replace E := E.below b
  replace P1 := P1.below b
  clear b
  obtain ⟨m, hm⟩ : ∃ m, m = mk9 x0 := ⟨_, rfl⟩
  haveI M : Mid m := by rw [hm]; infer_instance
  have hm14 : (m : Int) ≤ 14 := by have := M.hi; omega
  have hm0 : (0 : Int) ≤ (m : Int) := by omega
  rw [← hm] at F ⊢
  clear hm
  have hmk := bx_made w2 (.int .i64 (m : Int))
  replace F := F.below M.lo hmk.2.1
  replace E := E.below hmk.2.1
  replace P1 := P1.below hmk.2.1
  have HK := Lib.hid (hmk.1)
  have HBG := Lib.hid (BG.keep hmk.2.1)
  have HS := Lib.hid (And.intro F (And.intro E P1))
  clear hmk BG F E P1
  go_upto_region 3 with (fail)
  generalize hw3 : w2.alloc (.cells #[.int .i64 (m : Int)] 3 (0, 0)) = w3 at HK HBG HS ⊢
  clear hw3
  generalize w2.heap.size = kb at HK ⊢
  have q1 := HBG.out.pB.cell
  have q4 := HK.out.cell
  go_wp2_with fail
  clear q1 q4
  obtain ⟨F, E, P1⟩ := HS.out
  have BG := HBG.out
  have KB := HK.out
  have Q := P1.pv (m := m) (sr m l) rfl n1 (Nat.le_refl _)
  clear HBG HK HS P1
  refine (rsearch_any x2 w3 Q (by omega)).mono ?_
  rintro e w4 ⟨a4, c4, rfl, R4, b⟩
  replace F := F.below M.lo b
  replace E := E.below b
  replace BG := BG.keep b
  replace KB := bx_keep KB b
  replace Q := Q.below b
  clear b
  obtain ⟨L, hL⟩ : ∃ L, L = hits (zAt (sr m l) n1) (lim m x2) := ⟨_, rfl⟩
  rw [← hL] at R4 ⊢
  have HL := Lib.hid hL
  have s1 := searchZ x2 w4 F Q (by omega) E
  rw [← hL] at s1
  clear hL
  have q1 := BG.pB.cell
  go_wp2_with fail
  refine s1.mono ?_
  rintro e w5 ⟨a5, c5, rfl, R5, b⟩
  replace F := F.below M.lo b
  replace E := E.below b
  replace BG := BG.keep b
  replace KB := bx_keep KB b
  replace Q := Q.below b
  replace R4 := R4.below b
  clear b s1 q1
  go_wp2_with fail
  refine (sameOk R5 R4 rfl).mono ?_
  rintro e w6 ⟨rfl, d⟩
  have b := d.below w5.heap.size
  replace F := F.below M.lo b
  replace E := E.below b
  replace BG := BG.keep b
  replace KB := bx_keep KB b
  replace Q := Q.below b
  replace R4 := R4.below b
  clear b d R5
  have s1 := plainZ x2 w6 F Q (by omega) E
  rw [← HL.out] at s1
  have q1 := BG.pB.cell
  go_wp2_with fail
  refine s1.mono ?_
  rintro e w7 ⟨a7, c7, rfl, R7, b⟩
  replace F := F.below M.lo b
  replace E := E.below b
  replace BG := BG.keep b
  replace KB := bx_keep KB b
  replace Q := Q.below b
  replace R4 := R4.below b
  clear b s1 q1
  go_wp2_with fail
  refine (sameOk R7 R4 rfl).mono ?_
  rintro e w8 ⟨rfl, d⟩
  have b := d.below w7.heap.size
  replace F := F.below M.lo b
  replace E := E.below b
  replace BG := BG.keep b
  replace KB := bx_keep KB b
  replace Q := Q.below b
  clear b d R4 R7 HL
  have q1 := BG.pB.cell
  go_wp2_with fail
  refine (stepsS_any x2 w8 F Q (by omega)).mono ?_
  rintro e w9 ⟨cb, g, a9, n9, c9, wm, rfl, CH, hcb, N9, bm, b9⟩
  have b := bm.trans (b9.mono bm.size)
  have FM := F.below M.lo bm
  have EM := E.below bm
  replace F := F.below M.lo b
  replace E := E.below b
  replace BG := BG.keep b
  replace KB := bx_keep KB b
  replace Q := Q.below b
  clear b q1
  have q4 := KB.cell
  have ho := shl_one m M.hi
  have eo : (els m : Int) - 1 = (size m : Int) := by rw [els_eq]; omega
  obtain ⟨mn, e1⟩ : ∃ mn, (if (size m : Int) < x2 then (size m : Int) else x2) = mn := ⟨_, rfl⟩
  have e2 : (if (0 : Int) < mn then mn else 0) = (lim m x2 : Int) := by rw [← e1]; exact lim_max m x2
  have hsz := size_hi m M.hi
  obtain ⟨A, hA⟩ : ∃ A, A = lim m x2 := ⟨_, rfl⟩
  have hA2 : A ≤ 16383 := by have := lim_le m x2; omega
  rw [← hA] at e2
  have HC := Lib.hid (And.intro CH (And.intro hcb (And.intro N9 (And.intro hA (And.intro FM (And.intro EM b9))))))
  have hmk1 := bx_made w9 (.int .i64 (A : Int))
  have hmk2 := bx_made (w9.alloc (.cells #[.int .i64 (A : Int)] 3 (0, 0))) (.int .i64 0)
  have HH := Lib.hid (And.intro F (And.intro E (And.intro BG (And.intro KB Q))))
  have HM := Lib.hid (And.intro hmk1 hmk2)
  have hq := eqF (.func 39) #[] #[.pointer (some ⟨cb, 0, none⟩)] w9
  clear F E BG KB Q CH hcb N9 hA hmk1 hmk2 FM EM b9 bm
  go_wp2_with fail
  -- rounds
  obtain ⟨w10, hw10⟩ : ∃ w10, w10 = w9.alloc (.cells #[.int .i64 (A : Int)] 3 (0, 0)) := ⟨_, rfl⟩
  obtain ⟨ab, hab⟩ : ∃ ab, ab = w9.heap.size := ⟨_, rfl⟩
  have HW : Hid (Box w10 ab (.int .i64 (A : Int)) 3 ∧ Below w9.heap.size w9 w10 ∧ w10.heap.size = w9.heap.size + 1) := by
    rw [hw10, hab]; exact HM.out.1
  have HW2 : Hid (Box (w10.alloc (.cells #[.int .i64 0] 3 (0, 0))) w10.heap.size (.int .i64 0) 3 ∧ Below w10.heap.size w10 (w10.alloc (.cells #[.int .i64 0] 3 (0, 0)))) := ⟨(bx_made w10 (.int .i64 0)).1, (bx_made w10 (.int .i64 0)).2.1⟩
  rw [← hw10, ← hab]
  have htb : ab + 1 = w10.heap.size := by rw [HW.out.2.2, hab]
  rw [htb]
  have HF : Hid (FldAt m w10 s be ce bl ∧ Beg w10 w w.heap.size (w.heap.size + 1) (w.heap.size + 1 + 1) a1 n1 c1 x3 false ∧ Box w10 kb (.int .i64 (m : Int)) 3 ∧ PV m w10 n1 a1 n1 c1 (sr m l)) := by
    obtain ⟨F, E, BG, KB, Q⟩ := HH.out
    exact ⟨F.below M.lo HW.out.2.1, BG.keep HW.out.2.1, bx_keep KB HW.out.2.1, Q.below HW.out.2.1⟩
  have HG9 : Hid (chB w10 cb g s a9 n9 c9 (min x2 (size m : Int)) ∧ wm.heap.size ≤ cb ∧ cb < w10.heap.size ∧ NV m wm n1 a9 n9 c9 (sr m l) ∧ A = lim m x2 ∧ FldAt m wm s be ce bl ∧ ErrAt wm 2 y ∧ Below wm.heap.size wm w10) := by
    obtain ⟨CH, hcb, N9, hA, FM, EM, b9⟩ := HC.out
    have h1 := lt_of_block CH
    exact ⟨(HW.out.2.1.block _ h1).trans CH, hcb, by have := HW.out.2.2; omega, N9, hA, FM, EM, b9.trans (HW.out.2.1.mono b9.size)⟩
  clear hw10 hab htb HM HH HC e1 e2 ho eo hq q4
  refine wp_loop_ghost_k (fun k a' w' => ∃ (df : List Deferred) (u15 u16 u17 u18 u74 u75 u76 u77 u78 u79 u80 u81 u82 u83 u84 u85 u86 u87 u88 u89 u90 u91 u92 u93 u94 u95 u96 u97 u98 u99 u100 u101 u102 u103 u104 u105 u106 u107 u108 u109 u110 u111 u112 u113 u114 u115 u116 u117 u118 u119 u120 u121 u122 : Value), (∃ (r tb : Nat) (ds : List Nat), k = 2 - r ∧ r ≤ 2 ∧ u15 = .pointer (some ⟨tb, 0, none⟩) ∧ df = ds.map mark ∧ Hid (Box w' tb (.int .i64 (r : Int)) 3 ∧ w10.heap.size ≤ tb ∧ Below w10.heap.size w10 w' ∧ ds.Nodup ∧ ∀ D ∈ ds, w10.heap.size ≤ D ∧ w'.heap[D]? = some (.deferred (some [])))) ∧ a' = { tmps := #[.int .i64 x0, .slice a1 n1 c1, .int .i64 x2, .int .i64 x3, undef, .pointer (some ⟨w.heap.size, 0, none⟩), undef, .pointer (some ⟨(w.heap.size + 1), 0, none⟩), .pointer (some ⟨(w.heap.size + 1 + 1), 0, none⟩), .bool true, .pointer (some ⟨s, 0, none⟩), .pointer (some ⟨kb, 0, none⟩), .slice a4 L.length c4, .func (.func 39) #[] #[.pointer (some ⟨cb, 0, none⟩)], .pointer (some ⟨ab, 0, none⟩), u15, u16, u17, u18, .bool true, .tuple #[.pointer (some ⟨s, 0, none⟩), .int .i64 (m : Int)], .int .i64 x0, .tuple #[.pointer (some ⟨s, 0, none⟩), .int .i64 (m : Int)], .pointer (some ⟨s, 0, none⟩), .int .i64 (m : Int), .pointer (some ⟨s, 0, none⟩), .bool false, .bool false, .slice a1 n1 c1, .int .i64 (n1 : Int), .bool false, .bool false, .bool false, .bool true, .bool false, .bool false, undef, undef, undef, undef, undef, .int .i64 (m : Int), .slice a1 n1 c1, .int .i64 x2, .slice a4 L.length c4, .pointer (some ⟨s, 0, none⟩), .slice a1 n1 c1, .int .i64 x2, .slice a5 L.length c5, .slice a4 L.length c4, .bool true, .bool false, .bool false, .pointer (some ⟨s, 0, none⟩), .slice a1 n1 c1, .int .i64 x2, .slice a7 L.length c7, .slice a4 L.length c4, .bool true, .bool false, .bool false, .pointer (some ⟨s, 0, none⟩), .slice a1 n1 c1, .int .i64 x2, .func (.func 39) #[] #[.pointer (some ⟨cb, 0, none⟩)], .func (.func 39) #[] #[.pointer (some ⟨cb, 0, none⟩)], .bool false, .int .i64 x2, .int .i64 (m : Int), .int .u64 (m : Int), .int .i64 (wrap64 (2 ^ m)), .int .i64 (size m : Int), .int .i64 mn, .int .i64 (A : Int), u74, u75, u76, u77, u78, u79, u80, u81, u82, u83, u84, u85, u86, u87, u88, u89, u90, u91, u92, u93, u94, u95, u96, u97, u98, u99, u100, u101, u102, u103, u104, u105, u106, u107, u108, u109, u110, u111, u112, u113, u114, u115, u116, u117, u118, u119, u120, u121, u122], defers := df }) 2 ?_ ?_
  · (repeat apply Exists.intro)
    refine ⟨?_, rfl⟩
    exact ⟨0, w10.heap.size, [], rfl, by omega, rfl, rfl, HW2.out.1, Nat.le_refl _, HW2.out.2, List.nodup_nil, fun D hD => by cases hD⟩
  · intro gk _ wr hinv
    obtain ⟨df, hinv⟩ := hinv
    obtain ⟨u15, hinv⟩ := hinv
    obtain ⟨u16, hinv⟩ := hinv
    obtain ⟨u17, hinv⟩ := hinv
    obtain ⟨u18, hinv⟩ := hinv
    obtain ⟨u74, hinv⟩ := hinv
    obtain ⟨u75, hinv⟩ := hinv
    obtain ⟨u76, hinv⟩ := hinv
    obtain ⟨u77, hinv⟩ := hinv
    obtain ⟨u78, hinv⟩ := hinv
    obtain ⟨u79, hinv⟩ := hinv
    obtain ⟨u80, hinv⟩ := hinv
    obtain ⟨u81, hinv⟩ := hinv
    obtain ⟨u82, hinv⟩ := hinv
    obtain ⟨u83, hinv⟩ := hinv
    obtain ⟨u84, hinv⟩ := hinv
    obtain ⟨u85, hinv⟩ := hinv
    obtain ⟨u86, hinv⟩ := hinv
    obtain ⟨u87, hinv⟩ := hinv
    obtain ⟨u88, hinv⟩ := hinv
    obtain ⟨u89, hinv⟩ := hinv
    obtain ⟨u90, hinv⟩ := hinv
    obtain ⟨u91, hinv⟩ := hinv
    obtain ⟨u92, hinv⟩ := hinv
    obtain ⟨u93, hinv⟩ := hinv
    obtain ⟨u94, hinv⟩ := hinv
    obtain ⟨u95, hinv⟩ := hinv
    obtain ⟨u96, hinv⟩ := hinv
    obtain ⟨u97, hinv⟩ := hinv
    obtain ⟨u98, hinv⟩ := hinv
    obtain ⟨u99, hinv⟩ := hinv
    obtain ⟨u100, hinv⟩ := hinv
    obtain ⟨u101, hinv⟩ := hinv
    obtain ⟨u102, hinv⟩ := hinv
    obtain ⟨u103, hinv⟩ := hinv
    obtain ⟨u104, hinv⟩ := hinv
    obtain ⟨u105, hinv⟩ := hinv
    obtain ⟨u106, hinv⟩ := hinv
    obtain ⟨u107, hinv⟩ := hinv
    obtain ⟨u108, hinv⟩ := hinv
    obtain ⟨u109, hinv⟩ := hinv
    obtain ⟨u110, hinv⟩ := hinv
    obtain ⟨u111, hinv⟩ := hinv
    obtain ⟨u112, hinv⟩ := hinv
    obtain ⟨u113, hinv⟩ := hinv
    obtain ⟨u114, hinv⟩ := hinv
    obtain ⟨u115, hinv⟩ := hinv
    obtain ⟨u116, hinv⟩ := hinv
    obtain ⟨u117, hinv⟩ := hinv
    obtain ⟨u118, hinv⟩ := hinv
    obtain ⟨u119, hinv⟩ := hinv
    obtain ⟨u120, hinv⟩ := hinv
    obtain ⟨u121, hinv⟩ := hinv
    obtain ⟨u122, hinv⟩ := hinv
    obtain ⟨hrel, ha⟩ := hinv
    subst ha
    obtain ⟨r, tb, ds, hg, hr2, rfl, rfl, HR⟩ := hrel
    intro _ _ _ _
    have HGK := Lib.hid hg
    clear hg HW2
    have q15 := HR.out.1.cell
    by_cases hlt : r < 2
    · have y0 : (r : Int) < 2 := by omega
      have hmk := bx_made wr (.int .i64 0)
      have HMk := Lib.hid hmk
      have Hr2 : Hid (r + 1 ≤ 2) := hlt
      clear hmk hr2
      go_wp2_with fail
      clear q15 y0
      generalize wr.alloc (.cells #[.int .i64 0] 3 (0, 0)) = W0 at HMk ⊢
      obtain ⟨ib, hib⟩ : ∃ ib, ib = wr.heap.size := ⟨_, rfl⟩
      rw [← hib] at HMk
      rw [← hib]
      have Hib := Lib.hid hib
      clear hib hlt
      refine wpIn_wide.1 (range_sep (n := 3) (gf := 39) (lb := #[.pointer (some ⟨cb, 0, none⟩)]) rfl (enters_of Tryd.func39 (by kernel_rfl) rfl)
        (encs := encP (sr m l) n9) (fun _ => rfl) (V := (fun pre x => pre = List.range x ∧ x < (min x2 (size m : Int)).toNat)) [] (C := Finds wm cb g s a9 n9 c9 (min x2 (size m : Int)))
        (fun pre bl W => bl = [ib] ∧ Box W ib (.int .i64 (pre.length : Int)) 3 ∧ Below ib wr W ∧ W0.heap.size ≤ W.heap.size)
        (fun cde pre bl W => cde = .exit 2 ∧ (bl = [ib] ∧ Box W ib (.int .i64 (pre.length : Int)) 3 ∧ Below ib wr W ∧ W0.heap.size ≤ W.heap.size) ∧ r = 0 ∧ (pre.length : Int) = x3)
        ?_ ?_ ?_ (bl0 := [ib]) ?_ ?_
        (steps_iter 2 W0.heap.size HG9.out.2.2.2.2.2.1 HG9.out.2.2.2.1 (by have := HG9.out.2.2.2.1.le; omega) (by omega) HG9.out.2.2.2.2.2.2.1)
        (fun x => { tmps := #[.int .i64 x0, .slice a1 n1 c1, .int .i64 x2, .int .i64 x3, undef, .pointer (some ⟨w.heap.size, 0, none⟩), undef, .pointer (some ⟨(w.heap.size + 1), 0, none⟩), .pointer (some ⟨(w.heap.size + 1 + 1), 0, none⟩), .bool true, .pointer (some ⟨s, 0, none⟩), .pointer (some ⟨kb, 0, none⟩), .slice a4 L.length c4, .func (.func 39) #[] #[.pointer (some ⟨cb, 0, none⟩)], .pointer (some ⟨ab, 0, none⟩), .pointer (some ⟨tb, 0, none⟩), .pointer (some ⟨ib, 0, none⟩), .int .i64 (x : Int), .int .i64 (zn (ev n9 (sr m l) (pt m x))), .bool true, .tuple #[.pointer (some ⟨s, 0, none⟩), .int .i64 (m : Int)], .int .i64 x0, .tuple #[.pointer (some ⟨s, 0, none⟩), .int .i64 (m : Int)], .pointer (some ⟨s, 0, none⟩), .int .i64 (m : Int), .pointer (some ⟨s, 0, none⟩), .bool false, .bool false, .slice a1 n1 c1, .int .i64 (n1 : Int), .bool false, .bool false, .bool false, .bool true, .bool false, .bool false, undef, undef, undef, undef, undef, .int .i64 (m : Int), .slice a1 n1 c1, .int .i64 x2, .slice a4 L.length c4, .pointer (some ⟨s, 0, none⟩), .slice a1 n1 c1, .int .i64 x2, .slice a5 L.length c5, .slice a4 L.length c4, .bool true, .bool false, .bool false, .pointer (some ⟨s, 0, none⟩), .slice a1 n1 c1, .int .i64 x2, .slice a7 L.length c7, .slice a4 L.length c4, .bool true, .bool false, .bool false, .pointer (some ⟨s, 0, none⟩), .slice a1 n1 c1, .int .i64 x2, .func (.func 39) #[] #[.pointer (some ⟨cb, 0, none⟩)], .func (.func 39) #[] #[.pointer (some ⟨cb, 0, none⟩)], .bool false, .int .i64 x2, .int .i64 (m : Int), .int .u64 (m : Int), .int .i64 (wrap64 (2 ^ m)), .int .i64 (size m : Int), .int .i64 mn, .int .i64 (A : Int), .int .i64 (r : Int), .bool true, u76, u77, .func (.func 39) #[] #[.pointer (some ⟨cb, 0, none⟩)], .int .i64 (x : Int), .int .i64 (zn (ev n9 (sr m l) (pt m x))), u81, u82, u83, u84, u85, u86, u87, u88, u89, u90, u91, u92, u93, u94, u95, u96, u97, u98, u99, u100, u101, u102, u103, u104, u105, u106, u107, u108, u109, u110, u111, u112, u113, u114, u115, u116, u117, u118, u119, u120, u121, u122], defers := [] }) ?_ ?_ ?_ ?_)
      · rintro pre bl X Y ⟨rfl, h1, h2, h3⟩ f
        exact ⟨rfl, (f.same ib (.inr (by simp)) (lt_of_block h1)).trans h1, h2.trans { os := f.os, tape := f.tape, output := f.output, size := f.size, block := fun z hz => f.same z (.inl ⟨by have := lt_of_block HMk.out.1; omega, by simp⟩) (by have := lt_of_block h1; omega) }, Nat.le_trans h3 f.size⟩
      · rintro cde pre bl X Y ⟨h0, ⟨rfl, h1, h2, h3⟩, h4⟩ f
        exact ⟨h0, ⟨rfl, (f.same ib (.inr (by simp)) (lt_of_block h1)).trans h1, h2.trans { os := f.os, tape := f.tape, output := f.output, size := f.size, block := fun z hz => f.same z (.inl ⟨by have := lt_of_block HMk.out.1; omega, by simp⟩) (by have := lt_of_block h1; omega) }, Nat.le_trans h3 f.size⟩, h4⟩
      · rintro pre bl X ⟨rfl, h1, _⟩ k hk
        rw [List.mem_singleton.1 hk]; exact lt_of_block h1
      · exact ⟨rfl, HMk.out.1, by rw [Hib.out] at HMk ⊢; exact HMk.out.2.1, Nat.le_refl _⟩
      · intro W hW
        have hbr : Below w10.heap.size w10 W := HR.out.2.2.1.trans ((HMk.out.2.1.trans (hW.mono (by have := HMk.out.2.2; omega))).mono (by rw [Hib.out]; exact HR.out.2.2.1.size))
        refine ⟨HG9.out.2.2.2.2.2.2.2.trans (hbr.mono HG9.out.2.2.2.2.2.2.2.size), (hbr.block _ HG9.out.2.2.1).trans HG9.out.1, HG9.out.2.1, fun k hk => ?_⟩
        have h1 := HR.out.2.2.1.size
        have h2 := HG9.out.2.2.1
        have h3 := HG9.out.2.1
        have h4 := HMk.out.2.2
        have h5 := Hib.out
        simp only [List.mem_cons, List.not_mem_nil, or_false] at hk
        omega
      · intro lr x W K hK
        gi_wp2
        exact hK
      · rintro lr pre bl x W ⟨rfl, h1, h2, h3⟩ ⟨hpre, hxA⟩
        subst hpre
        rw [List.length_range] at h1
        have hxA' : x < A := by rw [HG9.out.2.2.2.2.1]; exact hxA
        have hrange : (List.range x ++ [x]).length = x + 1 := by simp
        have hsz' := HR.out.2.2.1.size
        have hbW : Below w10.heap.size w10 W := HR.out.2.2.1.trans (h2.mono (by rw [Hib.out]; exact hsz'))
        have htbi : tb < ib := by rw [Hib.out]; exact lt_of_block HR.out.1
        have hT : Box W tb (.int .i64 (r : Int)) 3 := (h2.block tb htbi).trans HR.out.1
        have hA' : Box W ab (.int .i64 (A : Int)) 3 := bx_keep HW.out.1 hbW
        have hK : Box W kb (.int .i64 (m : Int)) 3 := bx_keep HF.out.2.2.1 hbW
        have hBG := HF.out.2.1.keep hbW
        have hQ := HF.out.2.2.2.below hbW
        have hiw : ib < W.heap.size := lt_of_block h1
        have cI := cell_regrown h1.cell
        have cA := cell_regrown hA'.cell
        have cK := cell_regrown hK.cell
        have cP := cell_regrown hBG.pB.cell
        have u1 : decide ((A : Int) ≤ (x : Int)) = false := decide_eq_false (by omega)
        have u1' : decide (A ≤ x) = false := decide_eq_false (by omega)
        have hwr : IntKind.i64.wrap (-(x : Int)) = -(x : Int) := IntWalk.i64_in _ (by omega)
        have hev : ev n9 (sr m l) (pt m x) = ev n1 (sr m l) (pt m x) := (ev_more (pt m x) n9 n1 _ HG9.out.2.2.2.1.bd HG9.out.2.2.2.1.le).symm
        rw [hev]
        have cE : ∀ q os, Calls Tryd.prog 15 #[.int .i64 (m : Int), .int .i64 (-(x : Int))] (Sort.grow (redrawn W q) os) fun e w'' => e = .returned (.int .i64 (zn (pt m x))) ∧ ∃ p : Regrown, w'' = Sort.grow (redrawn W p.d) p.os := fun q os => Calls.regrown_of (rexp_any m M.lo M.hi (-(x : Int)) _)
        have cV : ∀ q os, Calls Tryd.prog 14 #[.int .i64 (m : Int), .slice a1 n1 c1, .int .i64 (zn (pt m x))] (Sort.grow (redrawn W q) os) fun e w'' => e = .returned (.int .i64 (zn (ev n1 (sr m l) (pt m x)))) ∧ ∃ p : Regrown, w'' = Sort.grow (redrawn W p.d) p.os := fun q os => Calls.regrown_of (by
          have h := revalV (zn (pt m x)) (hQ.below (below_regrown W q os))
          rwa [elm_zn] at h)
        have HcE := Lib.hid cE
        have HcV := Lib.hid cV
        have HX := Lib.hid (And.intro h1 (And.intro h2 (And.intro h3 (And.intro hT (And.intro hBG (And.intro hiw htbi))))))
        have HX2 := Lib.hid (And.intro hrange hsz')
        have HX3 := Lib.hid hxA'
        clear cE cV h1 h2 h3 hT hBG hQ hA' hK hbW hxA hev hrange hsz' htbi hiw hxA'
        generalize zn (ev n1 (sr m l) (pt m x)) = zv at HcV ⊢
        generalize zn (pt m x) = zp at HcE HcV
        gi_wp2
        refine wpIn_round_quiet (C := fun w' => ∃ p : Regrown, w' = Sort.grow (redrawn W p.d) p.os) (by kernel_rfl) (by kernel_rfl) (by kernel_rfl) (regrown_start W) ?_
        repeat (go_big_quiet_step (first
          | (go_at_call 15; with_reducible exact HcE.out _ _)
          | (go_at_call 14; with_reducible exact HcV.out _ _)))
        refine wpQuiet_nil ?_
        intro _ hw'
        obtain ⟨⟨dq, osq⟩, hw''⟩ := hw'
        subst hw''
        have b6 := below_regrown W dq osq
        generalize Sort.grow (redrawn W dq) osq = W6 at b6 ⊢
        obtain ⟨h1, h2, h3, hT, hBG, hiw, htbi⟩ := HX.out
        have i6 := bx_keep h1 b6
        have t6 := bx_keep hT b6
        have s6 := (hBG.keep b6).sB
        have hsb : w.heap.size + 1 ≠ ib := by
          have := lt_of_block HF.out.2.1.sB
          have := HX2.out.2
          have := Hib.out
          omega
        have i7 := i6.put (.int .i64 ((x : Int) + 1))
        have t7 := t6.other ⟨ib, 0, none⟩ (.int .i64 ((x : Int) + 1)) (by show tb ≠ ib; omega)
        have s7 := s6.other ⟨ib, 0, none⟩ (.int .i64 ((x : Int) + 1)) hsb
        have HN : Hid (Tn [ib] W (W6.setCell ⟨ib, 0, none⟩ (.int .i64 ((x : Int) + 1))) [ib] ∧ Box (W6.setCell ⟨ib, 0, none⟩ (.int .i64 ((x : Int) + 1))) ib (.int .i64 ((List.range x ++ [x]).length : Int)) 3 ∧ Below ib wr (W6.setCell ⟨ib, 0, none⟩ (.int .i64 ((x : Int) + 1))) ∧ W0.heap.size ≤ (W6.setCell ⟨ib, 0, none⟩ (.int .i64 ((x : Int) + 1))).heap.size) := by
          refine ⟨(Tn.below b6).trans (Tn.setCell W6 _ _ (by simp)), by rw [HX2.out.1, Int.natCast_succ]; exact i7, ((h2.trans (b6.mono (by omega))).setCell (Nat.le_refl _) _), by simp [World.setCell]; exact Nat.le_trans h3 b6.size⟩
        have g1 := i6.cell
        have g2 := i6.free
        have g3 := i7.cell
        have g4 := t7.cell
        have g5 := s7.cell
        have g6 := t6.cell
        have g7 := s6.cell
        have HY := Lib.hid (And.intro HX2.out.1 hsb)
        have hx16 : x ≤ 16383 := by have := HX3.out; omega
        clear h1 h2 h3 hT hBG hiw htbi i6 t6 s6 i7 t7 s7 b6 hsb cI cA cK cP u1 u1' hwr HX
        have hr01 : r = 0 ∨ r = 1 := by have := Hr2.out; omega
        rcases hr01 with rfl | rfl
        · by_cases hs : (x : Int) + 1 = x3
          · have hs2 : ((x : Int) + 1 == x3) = true := by simp [hs]
            have HS := Lib.hid hs
            clear hs
            gi_wp2
            exact ⟨_, HN.out.1, rfl, ⟨rfl, HN.out.2⟩, by rw [HY.out.1, Int.natCast_succ]; exact HS.out⟩
          · have hs2 : ((x : Int) + 1 == x3) = false := by simp [hs]
            clear hs
            gi_wp2
            exact ⟨_, HN.out.1, rfl, HN.out.2⟩
        · gi_wp2
          exact ⟨_, HN.out.1, rfl, HN.out.2⟩
      · intro D xs bl W hD hDl hDb hS hI hdef
        obtain ⟨rfl, h1, h2, h3⟩ := hI
        have hlen : xs.length = A := by rw [hS, List.length_range, HG9.out.2.2.2.2.1]; rfl
        rw [hlen] at h1
        have hbW : Below w10.heap.size w10 W := HR.out.2.2.1.trans (h2.mono (by rw [Hib.out]; exact HR.out.2.2.1.size))
        have htbi : tb < ib := by rw [Hib.out]; exact lt_of_block HR.out.1
        have hT : Box W tb (.int .i64 (r : Int)) 3 := (h2.block tb htbi).trans HR.out.1
        have hA' := bx_keep HW.out.1 hbW
        have hS' := (HF.out.2.1.keep hbW).sB
        have hmk := bx_made W (.int .i64 ((r : Int) + 1))
        have HE : Hid (Box (W.alloc (.cells #[.int .i64 ((r : Int) + 1)] 3 (0, 0))) W.heap.size (.int .i64 ((r + 1 : Nat) : Int)) 3 ∧ w10.heap.size ≤ W.heap.size ∧ Below w10.heap.size w10 (W.alloc (.cells #[.int .i64 ((r : Int) + 1)] 3 (0, 0))) ∧ (D :: ds).Nodup ∧ ∀ X ∈ D :: ds, w10.heap.size ≤ X ∧ (W.alloc (.cells #[.int .i64 ((r : Int) + 1)] 3 (0, 0))).heap[X]? = some (.deferred (some []))) := by
          have h10 := HR.out.2.2.1.size
          have hib := Hib.out
          have hm3 := HMk.out.2.2
          have hlt5 : ∀ X ∈ ds, X < ib := fun X hX => by
            have := (HR.out.2.2.2.2 X hX).2
            rw [hib]
            exact (Array.getElem?_eq_some_iff.1 this).1
          refine ⟨by rw [Int.natCast_succ]; exact hmk.1, hbW.size, hbW.trans (hmk.2.1.mono hbW.size), List.nodup_cons.2 ⟨fun hX => by have := hlt5 D hX; omega, HR.out.2.2.2.1⟩, fun X hX => ?_⟩
          rcases List.mem_cons.1 hX with rfl | hX
          · exact ⟨by omega, (hmk.2.1.block X hDl).trans hdef⟩
          · have h5 := hlt5 X hX
            have h6 := HR.out.2.2.2.2 X hX
            exact ⟨h6.1, (hmk.2.1.block X (by have := h2.size; omega)).trans ((h2.block X h5).trans h6.2)⟩
        have q1 := hT.cell
        have q2 := hA'.cell
        have q3 := hS'.cell
        have q4 := h1.cell
        clear h1 h2 h3 hbW hT hA' hS' hmk htbi hlen hS hdef hDb hDl hD
        have hr1 : r ≤ 1 := by have := Hr2.out; omega
        go_wp2_with fail
        go_roundg (2 - (r + 1))
        case measure => have := HGK.out; have := Hr2.out; omega
        case rel => exact ⟨r + 1, W.heap.size, D :: ds, rfl, Hr2.out, rfl, rfl, HE.out⟩
      · intro D cde pre bl W hD hDl hDb hSp hI hdef
        obtain ⟨rfl, ⟨rfl, h1, h2, h3⟩, rfl, hstop⟩ := hI
        have hlen : pre.length ≤ A := by obtain ⟨k, hk, rfl⟩ := hSp; rw [List.length_range, HG9.out.2.2.2.2.1]; exact hk
        obtain ⟨L5, hL5⟩ : ∃ L5, L5 = pre.length := ⟨_, rfl⟩
        rw [← hL5] at h1 hstop hlen
        have r : Nat := 0
        have hbW : Below w10.heap.size w10 W := HR.out.2.2.1.trans (h2.mono (by rw [Hib.out]; exact HR.out.2.2.1.size))
        have htbi : tb < ib := by rw [Hib.out]; exact lt_of_block HR.out.1
        have hT : Box W tb (.int .i64 ((0 : Nat) : Int)) 3 := (h2.block tb htbi).trans HR.out.1
        have hA' := bx_keep HW.out.1 hbW
        have hS' := (HF.out.2.1.keep hbW).sB
        have hmk := bx_made W (.int .i64 (((0 : Nat) : Int) + 1))
        have HE : Hid (Box (W.alloc (.cells #[.int .i64 (((0 : Nat) : Int) + 1)] 3 (0, 0))) W.heap.size (.int .i64 ((0 + 1 : Nat) : Int)) 3 ∧ w10.heap.size ≤ W.heap.size ∧ Below w10.heap.size w10 (W.alloc (.cells #[.int .i64 (((0 : Nat) : Int) + 1)] 3 (0, 0))) ∧ (D :: ds).Nodup ∧ ∀ X ∈ D :: ds, w10.heap.size ≤ X ∧ (W.alloc (.cells #[.int .i64 (((0 : Nat) : Int) + 1)] 3 (0, 0))).heap[X]? = some (.deferred (some []))) := by
          have h10 := HR.out.2.2.1.size
          have hib := Hib.out
          have hm3 := HMk.out.2.2
          have hlt5 : ∀ X ∈ ds, X < ib := fun X hX => by
            have := (HR.out.2.2.2.2 X hX).2
            rw [hib]
            exact (Array.getElem?_eq_some_iff.1 this).1
          refine ⟨by rw [Int.natCast_succ]; exact hmk.1, hbW.size, hbW.trans (hmk.2.1.mono hbW.size), List.nodup_cons.2 ⟨fun hX => by have := hlt5 D hX; omega, HR.out.2.2.2.1⟩, fun X hX => ?_⟩
          rcases List.mem_cons.1 hX with rfl | hX
          · exact ⟨by omega, (hmk.2.1.block X hDl).trans hdef⟩
          · have h5 := hlt5 X hX
            have h6 := HR.out.2.2.2.2 X hX
            exact ⟨h6.1, (hmk.2.1.block X (by have := h2.size; omega)).trans ((h2.block X h5).trans h6.2)⟩
        have q1 := hT.cell
        have q2 := hA'.cell
        have q3 := hS'.cell
        have q4 := h1.cell
        have hst2 : ((L5 : Int) == x3) = true := by simp [hstop]
        clear h1 h2 h3 hbW hT hA' hS' hmk htbi hSp hdef hDb hDl hD hL5 hstop
        by_cases hLA : L5 = A
        · subst hLA
          gi_wp2
          go_wp2_with fail
          go_roundg (2 - (0 + 1))
          case measure => have := HGK.out; omega
          case rel => exact ⟨0 + 1, W.heap.size, D :: ds, rfl, Hr2.out, rfl, rfl, HE.out⟩
        · have hne : ((L5 : Int) == (A : Int)) = false := by simp; omega
          have hne2 : (L5 == A) = false := by simp [hLA]
          have hne3 : ¬ ((L5 : Int) = (A : Int)) := by omega
          clear hLA
          gi_wp2
          go_wp2_with fail
          go_roundg (2 - (0 + 1))
          case measure => have := HGK.out; omega
          case rel => exact ⟨0 + 1, W.heap.size, D :: ds, rfl, Hr2.out, rfl, rfl, HE.out⟩
    · obtain rfl : r = 2 := by omega
      have hBG := HF.out.2.1.keep HR.out.2.2.1
      have q1 := hBG.rB.free
      have q2 := hBG.rB.cell
      have HB := Lib.hid hBG
      clear hBG
      go_wp2_with fail
      refine marks_post ds _ HR.out.2.2.2.1 (fun D hD => ?_) ?_
      · have h := HR.out.2.2.2.2 D hD
        refine (Below.heap_setCell _ _ _ _ ?_).trans h.2
        have := lt_of_block HF.out.2.1.rB
        show D ≠ w.heap.size + 1 + 1
        omega
      · intro W' e1 e2 e3 e4 e5
        have hlo : ∀ k, k < w10.heap.size → W'.heap[k]? = (wr.setCell ⟨w.heap.size + 1 + 1, 0, none⟩ (.bool true)).heap[k]? := fun k hk => e5 k fun hm => by have := (HR.out.2.2.2.2 k hm).1; omega
        have hrb := lt_of_block HF.out.2.1.rB
        have p4 : Box W' (w.heap.size + 1 + 1) (.bool true) 4 := (hlo _ hrb).trans (HB.out.rB.put (.bool true))
        have p5 := p4.cell
        have hb : Below w.heap.size w (wr.setCell ⟨w.heap.size + 1 + 1, 0, none⟩ (.bool true)) := HB.out.wB.setCell HB.out.lo _
        refine ⟨.bool true, by simp [results, Tryd.results3, go_sem, p5], rfl, hb.trans { os := e1, tape := e2, output := e3, size := by rw [e4]; exact Nat.le_refl _, block := fun k hk => hlo k (by omega) }⟩
theorem walk (x0 : Int) (a1 : Option Addr) (len1 cap1 : Nat) (z1 : List Int) (x2 x3 : Int) (W : World) (w0 : (Lit.int .i64 x0).wf = true) (w1 : IsRow .i64 W a1 len1 cap1 z1) (w2 : (Lit.int .i64 x2).wf = true) (w3 : (Lit.int .i64 x3).wf = true) (h : LaidSearchSays.Holds W) :
    Calls Tryd.prog 3 #[.int .i64 x0, .slice a1 len1 cap1, .int .i64 x2, .int .i64 x3] W fun e w' => e = .returned (.bool true) ∧ Below W.heap.size W w' := by
  obtain ⟨f, ⟨E0, E1⟩, _⟩ := h
  by_cases k1 : len1 ≤ 60
  · exact core x0 a1 len1 cap1 _ x2 x3 W E1 (row_rowz w1) k1
  · exact long x0 a1 len1 cap1 x2 x3 W E1 (by omega)
end Go.Proofs.YtbgegnoenceflaaDoor.walkSearchSays
