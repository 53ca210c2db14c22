/- The iterator of a pool's Each. By the verifier of shale. -/
import Derived.Test.YtaaegkjbmomjbaaDoorPoFill
import Derived.RangeFuncNested
namespace Go.Proofs.YtaaegkjbmomjbaaDoor.Po
open Go Go.RowKit Hp
set_option linter.unusedVariables false
set_option linter.unusedSimpArgs false
abbrev encP (x : It) : Array Value := #[.int .i64 x.b, .int .i64 x.w]
/-- what is told: the i-th of the list. -/
def VP (R : List It) (pre : List It) (x : It) : Prop := R[pre.length]? = some x ∧ pre = R.take pre.length
def SpP (R : List It) (pre : List It) : Prop := pre = R.take pre.length ∧ pre.length ≤ R.length
/-- the pool holds these, in the order in which they are taken. -/
def FindsP (base pb cb : Nat) (v : Value) (R : List It) (ol : List Nat) (W : World) : Prop := (∃ L, QAt W base pb 56 v L ∧ List.Perm L R) ∧ W.heap[cb]? = some (.cells #[.pointer (some ⟨pb, 0, none⟩)] 24 (0, 0))
def ItP (R : List It) (B0 rb : Nat) (O : List It → List Nat → World → Prop) (i : Nat) (wx : World) : Prop :=
  ∃ ol M v, O (R.take i) ol wx ∧ Heaped wx B0 rb 54 v M ∧ List.Perm M (R.drop i) ∧ (∀ k ∈ qbl rb v, k ∉ ol) ∧ B0 ≤ wx.heap.size
theorem Heaped.hp {w : World} {base qb : Nat} {ty : TypeId} {v : Value} {L : List It} (Q : Heaped w base qb ty v L) (hne : 0 < L.length) : ∃ g c, v = .slice (some ⟨g, 0, none⟩) L.length c ∧ HpAt w base qb ty g L.length c L := by
  obtain ⟨a, c, rfl, _, _, h1, h2⟩ := row_sliceP Q.q.row
  cases a with
  | none => exact absurd rfl (h2 hne)
  | some a =>
    obtain ⟨g, rfl, _⟩ := h1 a rfl
    exact ⟨g, c, rfl, Q.q, rfl⟩
theorem fr_tn {Bs : Nat} {bl bl' ol : List Nat} {X Y : World} (t : Tn bl X Y bl') (h : ∀ k ∈ bl, Bs ≤ k ∧ k ∉ ol) : Fr Bs [] ol X Y := ⟨t.os, t.tape, t.output, t.size, fun k hk hs => t.same k hs fun hm => by
  rcases hk with ⟨h1, _⟩ | h1
  · have := (h k hm).1; omega
  · exact (h k hm).2 h1⟩
theorem head_of {M T : List It} {x : It} {n : Nat} (hh : HeapFrom M M.length 0) (hp : List.Perm M (x :: T)) (hs : ∀ y ∈ T, itLt x y = true) : M[0]! = x := by
  have hne : 0 < M.length := by rw [hp.length_eq]; simp
  have h0 : M[0]! ∈ M := by rw [getElem!_pos M 0 hne]; exact List.getElem_mem _
  have hx : x ∈ M := hp.mem_iff.2 (List.mem_cons_self ..)
  rcases List.mem_cons.1 (hp.mem_iff.1 h0) with e | e
  · exact e
  · have h1 := hs _ e
    obtain ⟨i, hi, rfl⟩ := List.mem_iff_getElem.1 hx
    have h2 := least_of hh i hi
    rw [getElem!_pos M i hi] at h2
    rw [show Lt.lt M[i] (M[0]!) = itLt M[i] (M[0]!) from rfl, h1] at h2
    cases h2
set_option maxRecDepth 100000 in
theorem assertOk (x : It) (W : World) : (Instr.typeAssert (.iface 64 (itV x)) 20 64 true).run Tryd.prog W = .ok (.tuple #[itV x, .bool true]) W := by kernel_rfl
theorem each_any (pb : Nat) (w : World) : Calls Tryd.prog 21 #[.pointer (some ⟨pb, 0, none⟩)] w fun e w' => e = .returned (.func (.func 30) #[] #[.pointer (some ⟨w.heap.size, 0, none⟩)]) ∧ w'.heap[w.heap.size]? = some (.cells #[.pointer (some ⟨pb, 0, none⟩)] 24 (0, 0)) ∧ Below w.heap.size w w' := by
  have h1 : Hid ((w.alloc (.cells #[.pointer (some ⟨pb, 0, none⟩)] 24 (0, 0))).heap[w.heap.size]? = some (.cells #[.pointer (some ⟨pb, 0, none⟩)] 24 (0, 0)) ∧ Below w.heap.size w (w.alloc (.cells #[.pointer (some ⟨pb, 0, none⟩)] 24 (0, 0)))) := ⟨heap_alloc_new w _, (Below.refl _ _).alloc (Nat.le_refl _) _⟩
  go_enter Tryd.func21, Tryd.ntmps21
  go_wp2_with fail
  go_ret
  exact ⟨rfl, h1.out.1, h1.out.2⟩
set_option maxRecDepth 100000 in
set_option maxHeartbeats 4000000 in
theorem each_iter (nf Bs base pb cb : Nat) (v : Value) (R : List It) (hL : R.length ≤ 1000) (hs : R.Pairwise fun x y => itLt x y = true) :
    IterSep nf Tryd.prog 30 #[.pointer (some ⟨cb, 0, none⟩)] encP Bs [] (VP R) (fun xs => xs = R) (SpP R) (FindsP base pb cb v R) := by
  intro l O Ox ol W hO hOx hOl hY hBW h0 hC
  refine callsIn_wide.2 ?_
  obtain ⟨⟨L, QL, hpL⟩, hcb⟩ := hC
  have c0 : W.cell? ⟨cb, 0, none⟩ = some (.pointer (some ⟨pb, 0, none⟩)) := cell_of_one hcb
  have HYY := Lib.hid hY
  have HOO := Lib.hid (And.intro hO (And.intro hOx hOl))
  have HR0 := Lib.hid (And.intro hL (And.intro hs (And.intro QL (And.intro hpL (And.intro h0 hBW)))))
  have kq := QL.cell.1
  have HLE := Lib.hid (show R.length ≤ 1000 from hL)
  obtain ⟨n, hn⟩ : ∃ n, n = R.length := ⟨_, rfl⟩
  have HN := Lib.hid hn
  have hcb2 : cb < W.heap.size := lt_of_block hcb
  clear hO hOx hOl hY h0 QL hpL hn hL hs hBW
  go_enter Tryd.func30, Tryd.ntmps30
  go_upto_region 1 with (fail)
  generalize hw : W.alloc (.cells #[.slice none 0 0] 54 (0, 0)) = w1
  have J1 : w1.heap[W.heap.size]? = some (.cells #[.slice none 0 0] 54 (0, 0)) := by rw [← hw]; exact heap_alloc_new W _
  have b1 : Below W.heap.size W w1 := by rw [← hw]; exact (Below.refl _ _).alloc (Nat.le_refl _) _
  clear hw
  obtain ⟨rb, hrb⟩ : ∃ rb, rb = W.heap.size := ⟨_, rfl⟩
  rw [← hrb] at J1 ⊢
  have Q1 : QAt w1 W.heap.size rb 54 (.slice none 0 0) [] := ⟨by omega, J1, World.ownsRow_nil _ _ _ _, by simp [Value.ownBlock]⟩
  have HFi := Lib.hid (fill_any HR0.out.2.2.1 (by rw [HR0.out.2.2.2.1.length_eq]; exact HR0.out.1) Q1 b1)
  replace c0 := (World.cell?_of_block (a := ⟨cb, 0, none⟩) (b1.block cb hcb2)).trans c0
  replace kq := (World.cell?_of_block (a := ⟨pb, 0, none⟩) (b1.block pb HR0.out.2.2.1.lt)).trans kq
  have HRB := Lib.hid hrb
  clear J1 b1 Q1 hrb hcb hcb2
  go_wp2_with fail
  refine HFi.out.mono ?_
  rintro e w2 ⟨v2, rfl, Q2, b2⟩
  have H2 := Lib.hid (And.intro Q2 b2)
  have HIn := Lib.hid (init_any Q2 (by rw [HR0.out.2.2.2.1.length_eq]; exact HR0.out.1))
  clear Q2 b2 HFi c0 kq
  go_wp2_with fail
  refine HIn.out.mono ?_
  rintro e w3 ⟨m3, rfl, q3, p3, t3⟩
  have HI3 : Hid (ItP R W.heap.size rb O 0 w3) := by
    have hfr : Fr Bs [] ol W w3 := (Fr.below H2.out.2).trans (fr_tn t3 fun k hk => ⟨by have := (H2.out.1.bl_lt k hk).1; have := HR0.out.2.2.2.2.2; omega, fun hm => by have := (H2.out.1.bl_lt k hk).1; have := HOO.out.2.2 _ _ _ HR0.out.2.2.2.2.1 k hm; omega⟩)
    refine ⟨ol, m3, v2, HOO.out.1 _ _ _ _ HR0.out.2.2.2.2.1 hfr, q3, p3.trans HR0.out.2.2.2.1, fun k hk hm => by have := (H2.out.1.bl_lt k hk).1; have := HOO.out.2.2 _ _ _ HR0.out.2.2.2.2.1 k hm; omega, Nat.le_trans H2.out.2.size t3.size⟩
  clear q3 p3 t3 HIn
  go_wp2_with fail
  go_loopg [] n (fun gh wx => ∃ i : Nat, gh = n - i ∧ i ≤ n ∧ Hid (ItP R W.heap.size rb O i wx))
  case atStart => exact ⟨0, rfl, Nat.zero_le _, HI3⟩
  case round =>
    clear HI3
    obtain ⟨i, hg, hin, HX⟩ := hrel
    have HG := Lib.hid (And.intro hg hin)
    clear hg
    obtain ⟨w4, rfl⟩ : ∃ w', w' = wr := ⟨_, rfl⟩
    obtain ⟨ol', M, v', hO4, hq4, hp4, hv4, hB4⟩ := HX.out
    have hta := assertOk
    by_cases hlt : i < n
    · have hi' : i < R.length := by rw [← HN.out]; exact hlt
      obtain ⟨x, hx⟩ : ∃ x, x = R[i]'hi' := ⟨_, rfl⟩
      have hdr : R.drop i = x :: R.drop (i + 1) := by rw [hx]; exact List.drop_eq_getElem_cons hi'
      rw [hdr] at hp4
      have hlM : M.length = n - i := by rw [hp4.length_eq, List.length_cons, List.length_drop, ← HN.out]; omega
      have hne : 0 < M.length := by omega
      have hsx : ∀ y ∈ R.drop (i + 1), itLt x y = true := by
        have h2 : (R.drop i).Pairwise fun x y => itLt x y = true := List.Pairwise.sublist (List.drop_sublist i R) HR0.out.2.1
        rw [hdr] at h2
        exact (List.pairwise_cons.1 h2).1
      have hM0 := head_of (n := 0) hq4.h hp4 hsx
      obtain ⟨g, c, rfl, H⟩ := hq4.hp hne
      obtain ⟨n1, hn1⟩ : ∃ n1, M.length = n1 + 1 := ⟨M.length - 1, by omega⟩
      have hpop := hpop_any H hq4.h hn1 (by have := HLE.out; have := HN.out; omega)
      rw [hM0] at hpop
      have HPop := Lib.hid hpop
      have k0 := H.cell
      have hx2 : R[i]? = some x := by rw [hx]; exact List.getElem?_eq_getElem hi'
      have HD := Lib.hid (And.intro hlt (And.intro hp4 (And.intro hx2 (And.intro hn1 hv4))))
      have HW4 := Lib.hid (And.intro hO4 (And.intro hq4 hB4))
      obtain ⟨N, hNE⟩ : ∃ N, N = M.length := ⟨_, rfl⟩
      rw [← hNE] at k0
      have HNE := Lib.hid hNE
      have y1 : (0 : Int) < (N : Int) := by omega
      have y2 : (N : Int) ≤ 1000 := by have := HLE.out; have := HN.out; omega
      clear hlt hx hx2 hdr hlM hne hsx hM0 H hpop hp4 hq4 hv4 hO4 hB4 hin hn1 hNE HX hi'
      go_wp2_with fail
      refine HPop.out.mono ?_
      rintro e w5 ⟨m5, rfl, q5, p5, t5⟩
      have HQ5 := Lib.hid (And.intro q5 (And.intro p5 t5))
      clear q5 p5 t5 HPop k0
      go_upto_region 5 with (fail)
      generalize hw : w5.alloc (.cells #[.int .i64 x.b, .int .i64 x.w] 64 (0, 0)) = w6
      obtain ⟨J6, b6, _⟩ := newIt w5 w6 x hw
      clear hw
      obtain ⟨zx, hzx⟩ : ∃ zx, zx = w5.heap.size := ⟨_, rfl⟩
      rw [← hzx] at J6 ⊢
      obtain ⟨z0, z1, _⟩ := it_cells J6
      have hO6 : O (R.take i) ol' w6 := by
        refine HOO.out.1 _ _ _ _ HW4.out.1 ((fr_tn HQ5.out.2.2 fun k hk => ⟨?_, ?_⟩).trans (Fr.below b6))
        · have h2 := HW4.out.2.1.q.bl_lt k (by simpa [qbl, Value.ownBlock] using hk)
          have := HR0.out.2.2.2.2.2
          omega
        · exact HD.out.2.2.2.2 k (by simpa [qbl, Value.ownBlock] using hk)
      have hlen : (R.take i).length = i := by rw [List.length_take, ← HN.out]; have := HD.out.1; omega
      have hV : VP R (R.take i) x := by
        refine ⟨?_, by rw [hlen]⟩
        rw [hlen]
        exact HD.out.2.2.1
      have hsn : R.take i ++ [x] = R.take (i + 1) := by
        rw [List.take_add_one, HD.out.2.2.1]
        rfl
      obtain ⟨fn, tmps, assign, body, hy, hR⟩ := HYY.out (R.take i) x ol' w6 hO6 hV
      rw [hsn] at hR
      have HR := Lib.hid hR
      have HB6 := Lib.hid b6
      clear hR b6 J6 hzx hO6 hlen hV hsn hta
      refine (wpIn_wide (n := nf)).1 ?_
      gi_wp2
      refine ⟨fun e => by simp [Fence.wide] at e, (roundIn_wide HR.out).mono ?_⟩
      rintro e W7 ⟨ol2, ht, (⟨rfl, hO7⟩ | ⟨rfl, cx, hO7⟩)⟩
      · have HNx : Hid (ItP R W.heap.size rb O (i + 1) W7) := by
          have h6 := HQ5.out.1.below HB6.out
          have hnot : ∀ k ∈ qbl rb (.slice (some ⟨g, 0, none⟩) n1 c), k ∉ ol' := fun k hk => HD.out.2.2.2.2 k (by simpa [qbl, Value.ownBlock] using hk)
          refine ⟨ol2, m5, _, hO7, h6.same fun k hk => ht.same k (h6.q.bl_lt k hk).2 (hnot k hk), List.Perm.cons_inv (HQ5.out.2.1.trans HD.out.2.1), fun k hk hm => ?_, ?_⟩
          · rcases ht.new k hm with h | h
            · exact hnot k hk h
            · have := (h6.q.bl_lt k hk).2; omega
          · exact Nat.le_trans HW4.out.2.2 (Nat.le_trans HQ5.out.2.2.size (Nat.le_trans HB6.out.size ht.size))
        have HI2 := Lib.hid HD.out.1
        clear ht hO7 HR HQ5 HB6 HW4 HD hy
        gi_wp2
        go_wp2_with fail
        go_roundg (n - (i + 1))
        case measure => have := HG.out; have := HI2.out; omega
        case rel => exact ⟨i + 1, rfl, HI2.out, HNx⟩
      · have HE : Hid (SpP R (R.take (i + 1)) ∧ Ox cx (R.take (i + 1)) ol2 W7) := by
          refine ⟨⟨?_, ?_⟩, hO7⟩
          · have hl : (R.take (i + 1)).length = i + 1 := by rw [List.length_take, ← HN.out]; have := HD.out.1; omega
            rw [hl]
          · rw [List.length_take]; omega
        clear ht hO7 HR HQ5 HB6 HW4 HD hy
        gi_wp2
        go_wp2_with fail
        refine bodyPost_ret (results_none rfl _ _ _) rfl ?_
        exact ⟨⟨_, rfl⟩, .inr ⟨_, cx, ol2, HE.out.1, HE.out.2⟩⟩
    · obtain rfl : n = i := by omega
      have hM : M = [] := by
        have := hp4.length_eq
        rw [List.length_drop, ← HN.out] at this
        exact List.length_eq_zero_iff.1 (by omega)
      obtain ⟨a, c, rfl, _⟩ := row_sliceP hq4.q.row
      have k0 := hq4.q.cell.1
      rw [show M.length = 0 from by rw [hM]; rfl] at k0
      have HE : Hid (O R ol' w4) := by
        have h := hO4
        rw [List.take_of_length_le (by rw [← HN.out]; exact Nat.le_refl _)] at h
        exact h
      clear hlt hin HX HG hO4 hp4 hv4 hq4 hM hB4 hta
      go_wp2_with fail
      go_end0
      exact ⟨⟨_, rfl⟩, .inl ⟨R, ol', rfl, HE.out⟩⟩
end Go.Proofs.YtaaegkjbmomjbaaDoor.Po
