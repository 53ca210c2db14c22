/- The walk over SyndromeTells. By the verifier of shale. -/
import Derived.Test.YthhhpaiednpdkaaDoorGreat1
import Derived.Test.YthhhpaiednpdkaaDoorGreat2
import Derived.Test.YthhhpaiednpdkaaDoorGreat3
import Derived.Test.YthhhpaiednpdkaaDoorGreat4
import Derived.Test.YthhhpaiednpdkaaDoorGreat5
import Derived.Test.YthhhpaiednpdkaaDoorLaidSyndromeTells
import Derived.Deep.Cut
namespace Go.Proofs.YthhhpaiednpdkaaDoor.walkSyndromeTells
open Go Go.RowKit Bin Cos Enc Syn
set_option linter.unusedVariables false
set_option maxRecDepth 100000 in
set_option maxHeartbeats 4000000 in
theorem long (z1 z2 z3 : Int) (a : Option Addr) (na ca : Nat) (l : List (BitVec 8)) (at' : Option Addr) (nt ct : Nat) (z : Nat → Int) (h30 : 30 < nt) (w : World) (yc yn : Addr)
    (EC : ErrAt w 2 yc) (UN : ErrAt w 0 yn) :
    Calls Tryd.prog 3 #[.int .i64 z1, .int .i64 z2, .int .i64 z3, .slice a na ca, .slice at' nt ct] w fun e w' => e = .returned (.bool true) ∧ Below w.heap.size w w' := by
  have t30 : decide ((30 : Int) < (nt : Int)) = true := decide_eq_true (by omega)
  go_enter Tryd.func3, Tryd.ntmps3
  go_wp2_with fail
  refine (first7_any w yc yn EC UN).mono ?_
  rintro e w1 ⟨rfl, b⟩
  have B := b
  replace EC := EC.below b
  replace UN := UN.below b
  clear b
  go_wp2_with fail
  refine (made7_any z1 z2 z3 w1 yc EC).mono ?_
  rintro e w2 ⟨m, t, n, M, s, ga, gn, gc, hm6, hm10, ht6, hn24, hmay, rfl, C, G, b⟩
  haveI := M
  replace EC := EC.below b
  replace UN := UN.below b
  replace B := B.trans (b.mono B.size)
  clear b
  clear G
  have ht1 := hmay.t1
  have ht40 := hmay.t2
  have hn1 := hmay.n1
  have hn2 := hmay.n2
  have hroom := hmay.room
  have hDpos := deg_pos M.lo ht1
  have hD60 : deg m t ≤ 60 := by
    have h1 := deg_le M.lo t
    have h2 : m * t ≤ 10 * 6 := Nat.mul_le_mul hm10 ht6
    omega
  obtain ⟨D, hD⟩ : ∃ D, D = deg m t := ⟨_, rfl⟩
  have HD := Lib.hid hD
  rw [← hD] at hDpos hD60 hroom
  rw [← hD]
  obtain ⟨P, hP⟩ : ∃ P, P = pb D := ⟨_, rfl⟩
  have HPB := Lib.hid hP
  have hP8 : P ≤ 8 := by rw [hP]; unfold pb; omega
  clear hD hP
  go_wp2_with fail
  have bz : Below w2.heap.size w2 (w2.alloc (.cells #[.int .i64 (m : Int), .int .i64 (t : Int), .int .i64 (n : Int), .slice ga gn gc, .int .i64 (D : Int)] 27 (0, 0))) := (Below.refl _ _).alloc (Nat.le_refl _) _
  replace B := B.trans (bz.mono B.size)
  go_ret
  exact ⟨rfl, B⟩
set_option maxRecDepth 100000 in
set_option maxHeartbeats 4000000 in
theorem core (z1 z2 z3 : Int) (a : Option Addr) (na ca : Nat) (l : List (BitVec 8)) (at' : Option Addr) (nt ct : Nat) (z : Nat → Int) (h30 : nt ≤ 30) (w : World) (yc yn : Addr)
    (EC : ErrAt w 2 yc) (UN : ErrAt w 0 yn) (Y1 : RowZ w at' nt z) (A1 : Pol w a na ca l) :
    Calls Tryd.prog 3 #[.int .i64 z1, .int .i64 z2, .int .i64 z3, .slice a na ca, .slice at' nt ct] w fun e w' => e = .returned (.bool true) ∧ Below w.heap.size w w' := by
  have t30 : decide ((30 : Int) < (nt : Int)) = false := decide_eq_false (by omega)
  obtain ⟨i0, hi, hz0, hz1, hz2⟩ := info64
  go_enter Tryd.func3, Tryd.ntmps3
  go_wp2_with fail
  refine (first7_any w yc yn EC UN).mono ?_
  rintro e w1 ⟨rfl, b⟩
  have B := b
  replace EC := EC.below b
  replace UN := UN.below b
  replace Y1 := rowZ_below Y1 b
  replace A1 := A1.below b
  clear b
  go_wp2_with fail
  refine (made7_any z1 z2 z3 w1 yc EC).mono ?_
  rintro e w2 ⟨m, t, n, M, s, ga, gn, gc, hm6, hm10, ht6, hn24, hmay, rfl, C, G, b⟩
  haveI := M
  replace Y1 := rowZ_below Y1 b
  replace EC := EC.below b
  replace UN := UN.below b
  replace A1 := A1.below b
  replace B := B.trans (b.mono B.size)
  clear b
  clear G
  have ht1 := hmay.t1
  have ht40 := hmay.t2
  have hn1 := hmay.n1
  have hn2 := hmay.n2
  have hroom := hmay.room
  have hDpos := deg_pos M.lo ht1
  have hD60 : deg m t ≤ 60 := by
    have h1 := deg_le M.lo t
    have h2 : m * t ≤ 10 * 6 := Nat.mul_le_mul hm10 ht6
    omega
  obtain ⟨D, hD⟩ : ∃ D, D = deg m t := ⟨_, rfl⟩
  have HD := Lib.hid hD
  rw [← hD] at hDpos hD60 hroom
  rw [← hD]
  obtain ⟨P, hP⟩ : ∃ P, P = pb D := ⟨_, rfl⟩
  have HPB := Lib.hid hP
  have hP8 : P ≤ 8 := by rw [hP]; unfold pb; omega
  clear hD hP
  go_wp2_with fail
  generalize hw : w2.alloc (.cells #[.int .i64 (m : Int), .int .i64 (t : Int), .int .i64 (n : Int), .slice ga gn gc, .int .i64 (D : Int)] 27 (0, 0)) = w3
  obtain ⟨K, b⟩ := newCd w2 w3 _ _ _ _ _ hw
  clear hw
  replace Y1 := rowZ_below Y1 b
  replace EC := EC.below b
  replace UN := UN.below b
  replace A1 := A1.below b
  replace C := C.below b
  replace B := B.trans (b.mono B.size)
  clear b
  obtain ⟨bq, hbq⟩ : ∃ bq, bq = w2.heap.size := ⟨_, rfl⟩
  rw [← hbq] at K ⊢
  clear hbq
  obtain ⟨N, hN⟩ : ∃ N, N = 8 * n + D := ⟨_, rfl⟩
  have HN := Lib.hid hN
  have hN0 : 8 * n + deg m t = N := by have := HD.out; omega
  have hNz : N ≤ sz m := by omega
  have hN1 : 0 < N := by omega
  have hN2 : N ≤ 1000000 := by omega
  clear hN
  refine (fit7_any a na ca l n (by omega) w3 A1).mono ?_
  rintro e w4 ⟨rfl, Z1, b⟩
  have hfZ1 := fitL_length l n
  generalize fitL l n = X at Z1 hfZ1
  obtain ⟨gZ1, hgZ1⟩ : ∃ gZ1, gZ1 = w3.heap.size := ⟨_, rfl⟩
  rw [← hgZ1] at Z1 ⊢
  clear hgZ1
  clear A1
  replace Y1 := rowZ_below Y1 b
  replace EC := EC.below b
  replace UN := UN.below b
  replace C := C.below b
  replace K := keepB K b
  replace B := B.trans (b.mono B.size)
  clear b
  obtain ⟨c0, c1, c2, c3, c4, _⟩ := cd_cells K
  go_wp2_with fail
  clear c0 c1 c2 c3 c4
  have hXv : val X < 2 ^ (8 * n) := by have := val_lt X; rwa [hfZ1] at this
  refine (fast_any (m := m) ht1 ht40 w4 s C _ n X (blk_pol Z1 hfZ1.symm (by omega)) hn2).mono ?_
  rintro e w5 ⟨g2, rfl, Z2, b, _⟩
  rw [← HD.out, ← HPB.out] at Z2 ⊢
  have hRl : prt (gen m t) D (val X) < 2 ^ D := by have h := prt_lt (gen_deg (m := m) t) (val X); rw [← HD.out] at h; exact h
  have HQl := byN_length (prt (gen m t) D (val X)) P
  have HQv : val (byN (prt (gen m t) D (val X)) P) = prt (gen m t) D (val X) := by rw [HPB.out]; exact val_byN (pb_room hRl)
  obtain ⟨R, hR⟩ : ∃ R, R = prt (gen m t) D (val X) := ⟨_, rfl⟩
  have HR := Lib.hid hR
  obtain ⟨Q, hQ⟩ : ∃ Q, Q = byN R P := ⟨_, rfl⟩
  rw [← hR] at Z2 hRl HQl HQv
  rw [← hQ] at Z2 HQl HQv
  clear hR hQ
  replace Y1 := rowZ_below Y1 b
  replace EC := EC.below b
  replace UN := UN.below b
  replace C := C.below b
  replace K := keepB K b
  replace Z1 := keepZ Z1 b
  replace B := B.trans (b.mono B.size)
  clear b
  obtain ⟨c0, c1, c2, c3, c4, _⟩ := cd_cells K
  go_wp2_with fail
  clear c0 c1 c2 c3 c4
  have HOf : Hid (Calls Tryd.prog 10 #[.pointer (some ⟨s, 0, none⟩), .slice (some ⟨gZ1, 0, none⟩) n n, .slice (some ⟨g2, 0, none⟩) P P] w5 (ValE m t (ev m t (val X) (val Q) % 2 ^ deg m t) w5)) := by
    have h := of_any (m := m) ht1 ht40 w5 s C _ _ X (blk_pol Z1 hfZ1.symm (by omega)) hn2 _ _ Q (by rw [← HD.out, ← HPB.out]; exact blk_pol Z2 HQl.symm (by omega))
    rw [show pb (deg m t) = P by rw [← HD.out, ← HPB.out]] at h
    exact h
  refine (HOf.out).mono ?_
  rintro e w6 ⟨gI3, rfl, I3, b, _⟩
  clear HOf
  have e0 : ev m t (val X) (val Q) % 2 ^ deg m t = 0 := by
    unfold ev
    rw [← HD.out, HQv, HR.out, Nat.xor_self, Nat.zero_mod]
  rw [e0] at I3
  clear e0
  replace Y1 := rowZ_below Y1 b
  replace EC := EC.below b
  replace UN := UN.below b
  replace C := C.below b
  replace K := keepB K b
  replace Z1 := keepZ Z1 b
  replace Z2 := keepZ Z2 b
  replace B := B.trans (b.mono B.size)
  clear b
  obtain ⟨c0, c1, c2, c3, c4, _⟩ := cd_cells K
  go_wp2_with fail
  clear c0 c1 c2 c3 c4
  refine (clean_of (m := m) I3 (by omega)).mono ?_
  rintro e w' ⟨rfl, rfl⟩
  rw [decide_eq_true (fun j hj => sv_zero _)]
  clear I3
  obtain ⟨c0, c1, c2, c3, c4, _⟩ := cd_cells K
  go_wp2_with fail
  clear c0 c1 c2 c3 c4
  have hmk := fun w => madeB w N (by omega)
  refine (rbits_any m t n ga gn gc D (by omega) hn2 w6).mono ?_
  rintro e w7 ⟨rfl, b⟩
  rw [← HN.out]
  replace Y1 := rowZ_below Y1 b
  replace EC := EC.below b
  replace UN := UN.below b
  replace C := C.below b
  replace K := keepB K b
  replace Z1 := keepZ Z1 b
  replace Z2 := keepZ Z2 b
  replace B := B.trans (b.mono B.size)
  clear b
  obtain ⟨c0, c1, c2, c3, c4, _⟩ := cd_cells K
  go_wp2_with fail
  clear c0 c1 c2 c3 c4
  obtain ⟨wa, rfl⟩ : ∃ wa, wa = w7 := ⟨_, rfl⟩
  clear hmk EC UN
  have HS : Hid (CodeAt m t n wa s ∧ wa.heap[bq]? = some (cdO (.int .i64 (m : Int)) (.int .i64 (t : Int)) (.int .i64 (n : Int)) (.slice ga gn gc) (.int .i64 (D : Int))) ∧ RowZ wa at' nt z ∧ Below w.heap.size w wa) := ⟨C, K, Y1, B⟩
  have hl1 := Z1.lt
  have hl2 := Z2.lt
  have b0 : Below wa.heap.size wa (wa.alloc (objB (List.replicate N false))) := (Below.refl _ _).alloc (Nat.le_refl _) _
  have F0 := BF.new wa N
  obtain ⟨gb, hgb⟩ : ∃ gb, gb = wa.heap.size := ⟨_, rfl⟩
  have HGb := Lib.hid hgb
  have hbq : bq < gb := by rw [hgb]; exact lt_of_block K
  have P1 : Pol (wa.alloc (objB (List.replicate N false))) (some ⟨gZ1, 0, none⟩) n n X := blk_pol (keepZ Z1 b0) hfZ1.symm (by omega)
  have P2 : Pol (wa.alloc (objB (List.replicate N false))) (some ⟨g2, 0, none⟩) P P Q := blk_pol (keepZ Z2 b0) HQl.symm (by omega)
  rw [← hgb] at b0 F0 hl1 hl2 ⊢
  have F1 : BF (wa.alloc (objB (List.replicate N false))) gb N (fun q => (xs []).testBit q) := F0.of fun i _ => by show _ = (0 : Nat).testBit i; rw [Nat.zero_testBit]
  generalize wa.alloc (objB (List.replicate N false)) = wv at b0 F1 P1 P2 ⊢
  have HO0 : Own64 wv (gb + 1) (.slice none 0 0) 0 (Bin.ints []) := Own64.nil wv (gb + 1)
  have W0 : wrd D (val X) (val Q) = wrd D (val X) R ^^^ xs [] := by rw [HQv]; exact (Nat.xor_zero _).symm
  have HI0 : Hid (Pol wv (some ⟨gZ1, 0, none⟩) n n X ∧ Pol wv (some ⟨g2, 0, none⟩) P P Q ∧ val Q < 2 ^ D ∧ wrd D (val X) (val Q) = wrd D (val X) R ^^^ xs [] ∧ (∀ p ∈ ([] : List Nat), p < N) ∧ Apart7 gb (.slice none 0 0) (some ⟨gZ1, 0, none⟩) ∧ Apart7 gb (.slice none 0 0) (some ⟨g2, 0, none⟩) ∧ BF wv gb N (fun q => (xs []).testBit q) ∧ Below gb wa wv) :=
    ⟨P1, P2, by rw [HQv]; exact hRl, W0, (fun p hp => by cases hp), (fun q hq => by cases hq; exact ⟨by show gZ1 ≠ gb; omega, by simp [Value.ownBlock]⟩), (fun q hq => by cases hq; exact ⟨by show g2 ≠ gb; omega, by simp [Value.ownBlock]⟩), F1, b0⟩
  clear hgb Z1 Z2 C K Y1 B b0 F0 F1 P1 P2 W0 hl1 hl2
  go_wp2_with fail
  go_loopg [15, 16, 21, 22] nt (fun gh s15 s16 s21 s22 wx => ∃ (i : Nat) (Ls : List Nat) (ad : Option Addr) (cd : Nat) (ap : Option Addr) (cp : Nat) (Xi Yi : List (BitVec 8)), gh = nt - i ∧ i ≤ nt ∧ s22 = .int .i64 (i : Int) ∧ s15 = .slice ad n cd ∧ s16 = .slice ap P cp ∧ Own64 wx (gb + 1) s21 i (Bin.ints Ls) ∧ Hid (Pol wx ad n cd Xi ∧ Pol wx ap P cp Yi ∧ val Yi < 2 ^ D ∧ wrd D (val Xi) (val Yi) = wrd D (val X) R ^^^ xs Ls ∧ (∀ p ∈ Ls, p < N) ∧ Apart7 gb s21 ad ∧ Apart7 gb s21 ap ∧ BF wx gb N (fun q => (xs Ls).testBit q) ∧ Below gb wa wx))
  case atStart => exact ⟨0, [], _, _, _, _, X, Q, rfl, Nat.zero_le _, rfl, rfl, rfl, HO0, HI0⟩
  case round =>
    clear HO0 HI0
    obtain ⟨i, Ls, ad, cd, ap, cp, Xi, Yi, hg, hile, rfl, rfl, rfl, hown, HI⟩ := hrel
    have HGh := Lib.hid hg
    clear hg
    by_cases hlt : i < nt
    · have x1 : (i : Int) < (nt : Int) := by omega
      have x0 : (0 : Int) ≤ (i : Int) := by omega
      obtain ⟨C0, K0, R0, B0⟩ := HS.out
      have hO := HI.out.2.2.2.2.2.2.2.2
      have K := (hO.block bq hbq).trans K0
      have hO2 := hO
      rw [HGb.out] at hO2
      have hsz : gb < wr.heap.size := HI.out.2.2.2.2.2.2.2.1.lt
      obtain ⟨bb, off, ea, d1, hbb⟩ := rowZ_below R0 hO2 i hlt
      obtain ⟨c0, c1, c2, c3, c4, _⟩ := cd_cells K
      have HOwn := Lib.hid hown
      subst ea
      clear K0 R0 B0 hO2 K hO hown C0
      go_upto_region 15 with (fail)
      replace c0 := cell_regrown c0
      replace c1 := cell_regrown c1
      replace c2 := cell_regrown c2
      replace c3 := cell_regrown c3
      replace c4 := cell_regrown c4
      replace d1 := cell_regrown d1
      have HRB : Hid (∀ q os, Calls Tryd.prog 12 #[cdV m t n ga gn gc D] (Sort.grow (redrawn wr q) os) fun e w'' => e = .returned (.int .i64 (N : Int)) ∧ ∃ p : Regrown, w'' = Sort.grow (redrawn wr p.d) p.os) := fun q os => Calls.regrown_of (by rw [HN.out]; exact rbits_any m t n ga gn gc D (by omega) hn2 _)
      obtain ⟨r1, r2, k, hk, r3⟩ := norm_var (z i) N hN1 hN2
      generalize z i = zi at d1 r1 r2 r3
      refine wp_region_quiet_below (by kernel_rfl) (by kernel_rfl) ?_
      repeat (go_big_quiet_step (first | (go_at_call 12; with_reducible exact HRB.out _ _)))
      refine wpQuiet_nil ?_
      intro _ hw'
      obtain ⟨⟨dq, osq⟩, hw''⟩ := hw'
      subst hw''
      have b := below_regrown wr dq osq
      generalize Sort.grow (redrawn wr dq) osq = w6 at b ⊢
      obtain ⟨PX, PY, hYl, hW, hLs, AX, AY, hF, hO⟩ := HI.out
      replace hO := hO.trans (b.mono (Nat.le_of_lt hsz))
      replace PX := PX.below b
      replace PY := PY.below b
      have F6 : BF w6 gb N (fun q => (xs Ls).testBit q) := (b.block gb hsz).trans hF
      have hown := HOwn.out.keep (w' := w6) fun g hg => b.block g (HOwn.out.block g hg).2
      have hs6 : gb < w6.heap.size := F6.lt
      have HI6 := Lib.hid (And.intro PX (And.intro PY (And.intro hYl (And.intro hW (And.intro hLs (And.intro AX (And.intro AY (And.intro F6 hO))))))))
      clear c0 c1 c2 c3 c4 d1 HRB HI hF b r1 r2 r3 HOwn PX PY hYl hW hLs AX AY hO F6
      have y0 : (0 : Int) ≤ (k : Int) := by omega
      have y1 : (k : Int) < (N : Int) := by omega
      have hi30 : i ≤ 30 := by omega
      have hsk : ∀ (x : Nat), gb ≠ x → x ≠ gb := fun x h e => h e.symm
      clear hsk
      go_upto_region 17 with ((at_builtin; refine wpList_append_own _ rfl _ _ 23 rfl (gb + 1) 3 i0 (.int .i64 0) 1 8 Tryd.underlying23 hi hz0 hz1 hz2 rfl (by decide) _ i _ rfl (World.ownsRow.alloc hown _) ⟨w6.heap.size, 0, none⟩ 1 1 [.int .i64 (k : Int)] rfl rfl (cell_one_new _ _ _) (ints_oneCell .i64 [_]) (by unfold maxLen; omega) (by omega) (by simp; omega) ?_; intro v7 w7 hown7 hgrow _))
      obtain ⟨PX, PY, hYl, hW, hLs, AX, AY, F6, hO⟩ := HI6.out
      have ho7 : Own64 w7 (gb + 1) v7 (i + 1) (Bin.ints (Ls ++ [k])) := by
        unfold Own64
        have e : Bin.ints (Ls ++ [k]) = Bin.ints Ls ++ [(k : Int)] := by simp [Bin.ints]
        rw [e, ← cells64_append]
        exact hown7
      have hz6 : ∀ o : Obj, (w6.alloc o).heap.size = w6.heap.size + 1 := fun o => by simp
      have hk6 : ∀ (o : Obj) (g : Nat), g < w6.heap.size → (w6.alloc o).heap[g]? = w6.heap[g]? := fun o g hg => ((Below.refl w6.heap.size w6).alloc (Nat.le_refl _) o).block g hg
      have hs7 : w6.heap.size + 1 ≤ w7.heap.size := by rw [← hz6]; exact hgrow.size
      have hO7 := (hO.alloc (Nat.le_of_lt hs6) _).grown hgrow (by rw [hz6]; omega) (fun g hg => by have := (hown.block g hg).1; omega)
      have F7 : BF w7 gb N (fun q => (xs Ls).testBit q) := (hgrow.block gb (by rw [hz6]; omega) (fun e => by have := (hown.block gb e.symm).1; omega)).trans ((hk6 _ gb hs6).trans F6)
      have PX7 : Pol w7 ad n cd Xi := pol_keep PX (fun q hq hl => (hgrow.block q.block (by rw [hz6]; omega) (AX q hq).2.symm).trans (hk6 _ _ hl)) (by omega)
      have PY7 : Pol w7 ap P cp Yi := pol_keep PY (fun q hq hl => (hgrow.block q.block (by rw [hz6]; omega) (AY q hq).2.symm).trans (hk6 _ _ hl)) (by omega)
      have hs8 : gb < w7.heap.size := by omega
      clear hown7 hgrow hown F6 PX PY hO hs7 hz6 hk6 HI6
      have d5 := F7.cell (i := k) hk
      have d6 := F7.free k
      obtain ⟨ob, hob⟩ : ∃ ob, ob = (xs Ls).testBit k := ⟨_, rfl⟩
      have F8 := bf_put F7 k (!ob)
      replace F8 := F8.of (q := fun q => (xs (Ls ++ [k])).testBit q) fun q _ => by rw [hob, xs_snoc]; exact flip_bit _ _ _
      have o8 := Only.setCell w7 ⟨gb, k, none⟩ (.bool (!ob))
      have PX8 : Pol (w7.setCell ⟨gb, k, none⟩ (.bool (!ob))) ad n cd Xi := pol_keep PX7 (fun q hq _ => o8.block q.block (AX q hq).1) (by rw [o8.size]; exact Nat.le_refl _)
      have PY8 : Pol (w7.setCell ⟨gb, k, none⟩ (.bool (!ob))) ap P cp Yi := pol_keep PY7 (fun q hq _ => o8.block q.block (AY q hq).1) (by rw [o8.size]; exact Nat.le_refl _)
      have ho8 := ho7.keep (w' := w7.setCell ⟨gb, k, none⟩ (.bool (!ob))) fun g hg => o8.block g (by have h := (ho7.block g hg).1; show g ≠ gb; omega)
      have hO8 := hO7.trans (o8.below (Nat.le_refl gb))
      have hz8 : gb < (w7.setCell ⟨gb, k, none⟩ (.bool (!ob))).heap.size := by rw [o8.size]; exact hs8
      rw [← hob] at d5
      clear hob F7 PX7 PY7 ho7 o8 hO7 hs8
      have H8 := Lib.hid (And.intro PX8 (And.intro PY8 (And.intro ho8 (And.intro F8 (And.intro hO8 hz8)))))
      clear PX8 PY8 ho8 F8 hO8 hz8
      have H9 := Lib.hid (And.intro hYl (And.intro hW hLs))
      clear hYl hW hLs AX AY
      go_upto_region 18 with (fail)
      generalize w7.setCell ⟨gb, k, none⟩ (.bool (!ob)) = w8 at H8 ⊢
      obtain ⟨PX8, PY8, ho8, F8, hO8, hz8⟩ := H8.out
      have hO82 := hO8
      rw [HGb.out] at hO82
      have C8 := HS.out.1.below hO82
      have HFl : Hid (Calls Tryd.prog 13 #[.pointer (some ⟨s, 0, none⟩), .slice ad n cd, .slice ap P cp, .int .i64 (k : Int)] w8 (FlipAt D n P k (val Xi) (val Yi) w8)) := by
        have h := flip_any (m := m) ht1 ht40 w8 s C8 ad cd Xi PX8 hn2 ap cp Yi (by rw [← HD.out, ← HPB.out]; exact PY8) k (by rw [hN0]; exact hk)
        rw [← HD.out, ← HPB.out] at h
        exact h
      clear hO82 C8 PX8 PY8 ho8 F8 hO8 hz8 d5 d6
      go_wp2_with fail
      refine HFl.out.mono ?_
      rintro e w9 ⟨a1, c1, X1, a2, c2, Y1, rfl, N1, N2, hX1, hY1, b9⟩
      obtain ⟨PX8, PY8, ho8, F8, hO8, hz8⟩ := H8.out
      obtain ⟨hYl, hW, hLs⟩ := H9.out
      replace hX1 : val X1 = val Xi ^^^ ed D k := hX1
      replace hY1 : val Y1 = val Yi ^^^ ep D k := hY1
      have HN9 : Hid (Pol w9 a1 n c1 X1 ∧ Pol w9 a2 P c2 Y1 ∧ val Y1 < 2 ^ D ∧ wrd D (val X1) (val Y1) = wrd D (val X) R ^^^ xs (Ls ++ [k]) ∧ (∀ p ∈ Ls ++ [k], p < N) ∧ Apart7 gb v7 a1 ∧ Apart7 gb v7 a2 ∧ BF w9 gb N (fun q => (xs (Ls ++ [k])).testBit q) ∧ Below gb wa w9) :=
        ⟨N1.pol, N2.pol, by rw [hY1]; exact Nat.xor_lt_two_pow hYl (ep_lt D k), by rw [hX1, hY1, wrd_xor, e_word, hW, xs_snoc, Nat.xor_assoc],
          (fun p hp => by
            rcases List.mem_append.1 hp with h | h
            · exact hLs p h
            · simp only [List.mem_singleton] at h; omega),
          newP_aside N1 hz8 (fun g hg => (ho8.block g hg).2), newP_aside N2 hz8 (fun g hg => (ho8.block g hg).2), (b9.block gb hz8).trans F8, hO8.trans (b9.mono (Nat.le_of_lt hz8))⟩
      have ho9 := ho8.keep (w' := w9) fun g hg => b9.block g (ho8.block g hg).2
      have HI1 : Hid (i + 1 ≤ nt) := hlt
      clear PX8 PY8 ho8 F8 hO8 hz8 hYl hW hLs hX1 hY1 N1 N2 b9 HFl H8 H9
      go_wp2_with fail
      go_roundg (nt - (i + 1))
      case measure => have := HGh.out; have := HI1.out; omega
      case rel => exact ⟨i + 1, Ls ++ [k], a1, c1, a2, c2, X1, Y1, rfl, HI1.out, by go_num, rfl, rfl, ho9, HN9⟩
    · obtain rfl : i = nt := by omega
      have HOwn := Lib.hid hown
      obtain ⟨W1, rfl⟩ : ∃ W1, W1 = wr := ⟨_, rfl⟩
      clear hown
      go_wp2_with fail
      go_loopg [27, 28] N (fun gh s27 s28 wx => ∃ (q : Nat), gh = N - q ∧ q ≤ N ∧ s28 = .int .i64 (q : Int) ∧ s27 = .int .i64 (pop (xs Ls) q : Int) ∧ W1 = wx)
      case atStart => exact ⟨0, rfl, Nat.zero_le _, rfl, rfl, rfl⟩
      case round =>
        obtain ⟨q, hg, hq, rfl, rfl, rfl⟩ := hrel
        have HG := Lib.hid hg
        clear hg
        by_cases hlq : q < N
        · have x1 : (q : Int) < (N : Int) := by omega
          have x0 : (0 : Int) ≤ (q : Int) := by omega
          have HI2 : Hid (q + 1 ≤ N) := hlq
          have d5 := HI.out.2.2.2.2.2.2.2.1.cell (i := q) hlq
          have HPS := Lib.hid (pop_succ (xs Ls) q)
          have hpq := pop_le (xs Ls) q
          obtain ⟨pc, hpc⟩ : ∃ pc, pc = pop (xs Ls) q := ⟨_, rfl⟩
          rw [← hpc] at HPS hpq ⊢
          clear hpc hlq
          cases hb : (xs Ls).testBit q
          · rw [hb] at d5 HPS
            clear hb
            go_wp2_with fail
            go_roundg (N - (q + 1))
            case measure => have := HG.out; have := HI2.out; omega
            case rel => exact ⟨q + 1, rfl, HI2.out, by go_num, by rw [HPS.out]; rfl, rfl⟩
          · rw [hb] at d5 HPS
            clear hb
            go_wp2_with fail
            go_roundg (N - (q + 1))
            case measure => have := HG.out; have := HI2.out; omega
            case rel => exact ⟨q + 1, rfl, HI2.out, by go_num, by rw [HPS.out]; rfl, rfl⟩
        · obtain rfl : q = N := by omega
          obtain ⟨PX, PY, hYl, hW, hLs, _, _, F6, hO⟩ := HI.out
          obtain ⟨C, K, Y1, B⟩ := HS.out
          rw [HGb.out] at hO
          replace C := C.below hO
          replace K := keepB K hO
          replace B := B.trans (hO.mono B.size)
          obtain ⟨av, cv, rfl⟩ := Syn.own_slice HOwn.out
          have RL := own_rowN HOwn.out
          have hxl : xs Ls < 2 ^ q := xs_lt Ls hLs
          have HSy : Hid (syn m (ev m t (val Xi) (val Yi) % 2 ^ deg m t) (2 * t) = syn m (xs Ls) (2 * t)) := syn_turned (X := val X) (by rw [← HD.out]; exact hYl) (by rw [← HD.out, ← HR.out]; exact hW)
          have HCl : Hid (pop (xs Ls) q ≤ 2 * t → decide (∀ j, j < 2 * t → sv m (xs Ls) (j + 1) = 0) = decide (pop (xs Ls) q = 0)) := fun h => clean_few (m := m) hxl hNz h
          have hpq := pop_le (xs Ls) q
          have hLs2 : ∀ p ∈ Ls, p < 8 * n + deg m t := fun p hp => by rw [hN0]; exact hLs p hp
          have HLs := Lib.hid hLs2
          obtain ⟨pc, hpc⟩ : ∃ pc, pc = pop (xs Ls) q := ⟨_, rfl⟩
          rw [← hpc] at HCl hpq ⊢
          obtain ⟨w20, rfl⟩ : ∃ w20, w20 = W1 := ⟨_, rfl⟩
          clear hpc HI HS hO F6 Y1 hYl hW hLs hLs2 hxl HOwn hlq
          go_wp2_with fail
          have HOf : Hid (Calls Tryd.prog 10 #[.pointer (some ⟨s, 0, none⟩), .slice ad n cd, .slice ap P cp] w20 (ValE m t (ev m t (val Xi) (val Yi) % 2 ^ deg m t) w20)) := by
            have h := of_any (m := m) ht1 ht40 w20 s C ad cd Xi PX hn2 ap cp Yi (by rw [← HD.out, ← HPB.out]; exact PY)
            rw [show pb (deg m t) = P by rw [← HD.out, ← HPB.out]] at h
            exact h
          refine (HOf.out).mono ?_
          rintro e w21 ⟨g4, rfl, I4, b, _⟩
          clear HOf
          rw [HSy.out] at I4
          replace C := C.below b
          replace K := keepB K b
          replace PX := PX.below b
          replace PY := PY.below b
          replace RL := RL.below b
          replace B := B.trans (b.mono B.size)
          clear b
          obtain ⟨c0, c1, c2, c3, c4, _⟩ := cd_cells K
          go_wp2_with fail
          clear c0 c1 c2 c3 c4
          refine (bits_any (m := m) w21 s C hn2 ht40 av i cv Ls RL (by omega) HLs.out).mono ?_
          rintro e w22 ⟨g5, rfl, I5, b, _⟩
          replace C := C.below b
          replace K := keepB K b
          replace PX := PX.below b
          replace PY := PY.below b
          replace RL := RL.below b
          replace I4 := keepI I4 b
          replace B := B.trans (b.mono B.size)
          clear b
          obtain ⟨c0, c1, c2, c3, c4, _⟩ := cd_cells K
          go_wp2_with fail
          clear c0 c1 c2 c3 c4
          refine (same_of (m := m) I4 I5 (by omega)).mono ?_
          rintro e w23 ⟨rfl, d⟩
          rw [decide_eq_true rfl]
          have b := d.below w22.heap.size
          clear d
          replace C := C.below b
          replace K := keepB K b
          replace PX := PX.below b
          replace PY := PY.below b
          replace RL := RL.below b
          replace I4 := keepI I4 b
          replace I5 := keepI I5 b
          replace B := B.trans (b.mono B.size)
          clear b
          obtain ⟨c0, c1, c2, c3, c4, _⟩ := cd_cells K
          go_wp2_with fail
          clear c0 c1 c2 c3 c4
          refine (field_code (m := m) w23 s C).mono ?_
          rintro e w' ⟨⟨f, be, ce, bl, rfl, F⟩, rfl⟩
          obtain ⟨c0, c1, c2, c3, c4, _⟩ := cd_cells K
          go_wp2_with fail
          clear c0 c1 c2 c3 c4
          by_cases hc : 2 * t < pc
          · have tc : decide ((2 * (t : Int)) < (pc : Int)) = true := decide_eq_true (by omega)
            refine (fits_of (m := m) F I4 (by omega)).mono ?_
            rintro e w30 ⟨rfl, d⟩
            have b := d.below w23.heap.size
            replace K := keepB K b
            replace B := B.trans (b.mono B.size)
            clear d F C PX PY RL I4 I5 b
            obtain ⟨c0, c1, c2, c3, c4, _⟩ := cd_cells K
            go_wp2_with fail
            go_ret
            exact ⟨rfl, B⟩
          · have tc : decide ((2 * (t : Int)) < (pc : Int)) = false := decide_eq_false (by omega)
            refine (fits_of (m := m) F I4 (by omega)).mono ?_
            rintro e w30 ⟨rfl, d⟩
            have b := d.below w23.heap.size
            replace K := keepB K b
            replace I4 := keepI I4 b
            replace B := B.trans (b.mono B.size)
            clear d F C PX PY RL I5 b
            obtain ⟨c0, c1, c2, c3, c4, _⟩ := cd_cells K
            have tz : decide (pc = 0) = ((pc : Int) == 0) := by
              by_cases h0 : pc = 0
              · subst h0; rfl
              · rw [decide_eq_false h0]; exact (beq_eq_false_iff_ne.2 (by omega)).symm
            go_wp2_with fail
            refine (clean_of (m := m) I4 (by omega)).mono ?_
            rintro e w' ⟨rfl, rfl⟩
            rw [HCl.out (by omega), tz]
            have tb : ∀ b : Bool, (b == b) = true := fun b => by cases b <;> rfl
            have tbb := tb ((pc : Int) == 0)
            obtain ⟨bb, hbb⟩ : ∃ bb, bb = ((pc : Int) == 0) := ⟨_, rfl⟩
            rw [← hbb] at tbb ⊢
            have hbb2 := hbb.symm
            clear tb tz hbb
            go_wp2_with fail
            go_ret
            exact ⟨rfl, B⟩
theorem walk (a0 a1 a2 : Int) (a3 : Option Addr) (len3 cap3 : Nat) (z3 : List Int) (a4 : Option Addr) (len4 cap4 : Nat) (z4 : List Int) (W : World) (w0 : (Lit.int .i64 a0).wf = true) (w1 : (Lit.int .i64 a1).wf = true) (w2 : (Lit.int .i64 a2).wf = true) (w3 : IsRow .u8 W a3 len3 cap3 z3) (w4 : IsRow .i64 W a4 len4 cap4 z4) (h : LaidSyndromeTells.Holds W) :
    Calls Tryd.prog 3 #[.int .i64 a0, .int .i64 a1, .int .i64 a2, .slice a3 len3 cap3, .slice a4 len4 cap4] W fun e w' => e = .returned (.bool true) ∧ Below W.heap.size W w' := by
  obtain ⟨f, ⟨E0, E1, E2, E3⟩, _⟩ := h
  obtain ⟨l3, h3⟩ := row_pol w3
  obtain ⟨h4, m4⟩ := isrow_z w4
  by_cases h30 : len4 ≤ 30
  · exact core a0 a1 a2 a3 len3 cap3 l3 a4 len4 cap4 _ h30 W _ _ E3 E1 h4 h3
  · exact long a0 a1 a2 a3 len3 cap3 l3 a4 len4 cap4 (fun _ => 0) (by omega) W _ _ E3 E1
end Go.Proofs.YthhhpaiednpdkaaDoor.walkSyndromeTells
