/- The walk over a buffer's Entries. By the verifier of shale. -/
import Derived.Test.YtabpfadbioalgaaDoorWtEntries
import Derived.Maps.OwnIn
import Derived.RangeFuncCalls
import Derived.Shelf.RegionOpen
namespace Go.Proofs.YtabpfadbioalgaaDoor.Wt
open Go Go.RowKit Bin Go.Shelf
set_option linter.unusedVariables false
set_option linter.unusedSimpArgs false
attribute [local go_sem] Oper.semAt_some
theorem row_base {w : World} {base base' : Nat} {v : Value} {L : List Ent} (h : Row w base v L) (hb : base' ≤ base) : Row w base' v L := by
  refine ⟨h.1, ?_⟩
  rcases h.2 with h0 | ⟨g', cap', cur, hv, hbg, r⟩
  · exact Or.inl h0
  · exact Or.inr ⟨g', cap', cur, hv, Nat.le_trans hb hbg, r⟩
theorem own3_slice {w : World} {base n : Nat} {v : Value} {xs : List Value} (h : w.ownsRow base 35 3 v n xs) : ∃ a c, v = .slice a n c := by
  rcases h.2 with ⟨h1, h2⟩ | ⟨g, cap, cur, hv, _, _, h3, h4, _⟩
  · exact ⟨none, 0, by rw [h1, h2]⟩
  · exact ⟨_, cap, hv⟩
set_option maxRecDepth 100000 in
set_option maxHeartbeats 2000000 in
theorem entries_any {w : World} {base bb : Nat} {sz mo sc : Int} {v : Value} {L : List Ent} (B : BufAt w base bb sz mo sc v L) (hL : L.length ≤ 1000) (hn : ∀ e ∈ L, e.n ≤ 100000) :
    Calls Tryd.prog 20 #[.pointer (some ⟨bb, 0, none⟩)] w fun e w' => ∃ (v' : Value) (ys : List Yd), e = .returned v' ∧ PreY L ys ∧ ys.length = L.length ∧ Row w' w.heap.size v' (ys.map Yd.e) ∧ Below w.heap.size w w' ∧ (∀ x ∈ ys, FreD w' x.e ∧ ∀ k ∈ gift x, w.heap.size ≤ k ∧ some k ≠ v'.ownBlock) ∧ ys.Pairwise (fun x y => ∀ k ∈ gift x, k ∉ gift y) := by
  obtain ⟨i0, hi, hz0, hz1, hz2⟩ := infoE
  refine (callsIn_wide (n := 3)).1 ?_
  refine callsIn_of_wp_marks Tryd.func20 rfl trivial ?_ rfl
  simp only [Tryd.ntmps20, List.size_toArray, List.length_cons, List.length_nil, Nat.reduceAdd, Nat.reduceSub, Array.replicate_succ, Array.replicate_zero, List.push_toArray, List.append_toArray, List.nil_append, List.cons_append]
  refine wpIn_wide.2 ?_
  go_wp2_with fail
  generalize hw : w.alloc (.cells #[.slice none 0 0] 30 (0, 0)) = w1
  have hl1 : w1.heap[w.heap.size]? = some (.cells #[.slice none 0 0] 30 (0, 0)) := by rw [← hw]; exact heap_alloc_new w _
  have hb1 : Below w.heap.size w w1 := by rw [← hw]; exact (Below.refl _ _).alloc (Nat.le_refl _) _
  have hs1 : w1.heap.size = w.heap.size + 1 := by rw [← hw]; simp
  clear hw
  obtain ⟨lb, hlb⟩ : ∃ lb, lb = w.heap.size := ⟨_, rfl⟩
  rw [← hlb] at hl1 ⊢
  refine (each_any bb w1).mono ?_
  rintro e w2 ⟨rfl, hcb, hb2⟩
  have hl2 := (hb2.block lb (lt_of_block hl1)).trans hl1
  have hcl := lt_of_block hcb
  have H2 := Lib.hid (And.intro hl2 (And.intro hcb (And.intro (hb1.trans (hb2.mono hb1.size)) (And.intro hlb (And.intro hs1 hcl)))))
  obtain ⟨cb, hcbe⟩ : ∃ cb, cb = w1.heap.size := ⟨_, rfl⟩
  have HCB := Lib.hid hcbe
  rw [← hcbe]
  have HB := Lib.hid B
  clear hl1 hb1 hb2 hl2 hcb hlb hs1 hcl hcbe B
  go_wp2_with fail
  refine wpIn_wide.1 (range_gift (n := 3) (gf := 30) (lb := #[.pointer (some ⟨cb, 0, none⟩)]) rfl (enters_of Tryd.func30 (by kernel_rfl) rfl)
    (encs := encY) (fun _ => rfl) (gift := gift) (V := VY L w2.heap.size) [] (C := FindsY base bb cb sz mo sc v L)
    (EnI w lb w2.heap.size) (fun _ _ _ _ => False) ?_ ?_ ?_ (bl0 := [lb]) ?_ ?_ vy_gift vy_lt vy_same
    (each_iter 2 w2.heap.size base bb cb sz mo sc v L hL hn)
    (fun x W0 => { tmps := #[.pointer (some ⟨bb, 0, none⟩), undef, .slice none 0 0, .pointer (some ⟨lb, 0, none⟩), undef, .pointer (some ⟨W0.heap.size, 0, none⟩), .pointer (some ⟨bb, 0, none⟩), .func (.func 30) #[] #[.pointer (some ⟨cb, 0, none⟩)], .int .i64 (x.i : Int), .agg #[.int .i64 x.e.key, .bool x.e.trim, .slice x.e.a x.e.n x.e.c], undef, undef, undef, undef, undef], defers := [] })
    (fun x W0 => W0.alloc (.cells #[.int .i64 x.e.key, .bool x.e.trim, .slice x.e.a x.e.n x.e.c] 35 (0, 0))) ?_ ?_ ?_ ?_ ?_)
  · rintro pre bl X Y h f
    exact h.fr f
  · rintro cde pre bl X Y h f
    exact h.elim
  · rintro pre bl X h
    exact h.lt
  · obtain ⟨hl2, hcb, hb, hlb, hs1, hcl⟩ := H2.out
    have := lt_of_block hl2
    exact ⟨.slice none 0 0, rfl, hl2, World.ownsRow_nil _ _ _ _, this, by omega, hb, (fun x hx => by cases hx), List.Pairwise.nil⟩
  · intro W hW
    obtain ⟨hl2, hcb, hb, hlb, hs1, hcl⟩ := H2.out
    have hcbe := HCB.out
    have b := hb.trans (hW.mono hb.size)
    refine ⟨HB.out.below b, (hW.block cb (by rw [hcbe]; exact hcl)).trans (by rw [hcbe]; exact hcb), fun e he q hq hm => ?_⟩
    have h1 := ((HB.out.ents e he).2 q hq).2.1
    have h2 := hb.size
    simp only [List.mem_cons, List.not_mem_nil, or_false] at hm
    omega
  · intro x W
    exact (Below.refl _ _).alloc (Nat.le_refl _) _
  · intro l x W K hK
    gi_wp2
    exact hK
  · rintro l pre bl x W0 W hB0 hsz hW hbl hgf hi' hV
    obtain ⟨v1, hblE, hbox, hrow, hlb, hw0, hbel, hf, hp⟩ := hi'
    obtain ⟨hVi, hVy, hVf, hVg, hVb⟩ := hV
    obtain ⟨a1, c1, rfl, hc1, hc2, _⟩ := row_slice hrow
    have hpl : pre.length ≤ 1000 := by
      obtain ⟨d, hd, _⟩ := hVy
      have := (List.getElem?_eq_some_iff.1 hd).1
      omega
    obtain ⟨eb, heb⟩ : ∃ eb, eb = W0.heap.size := ⟨_, rfl⟩
    have hK : W.heap[eb]? = some (.cells #[.int .i64 x.e.key, .bool x.e.trim, .slice x.e.a x.e.n x.e.c] 35 (0, 0)) := by
      rw [hW eb (by rw [heb]; simp) (by omega), heb]
      exact heap_alloc_new W0 _
    show Code.wpIn _ _ _ _ _ ({ tmps := #[.pointer (some ⟨bb, 0, none⟩), undef, .slice none 0 0, .pointer (some ⟨lb, 0, none⟩), undef, .pointer (some ⟨W0.heap.size, 0, none⟩), .pointer (some ⟨bb, 0, none⟩), .func (.func 30) #[] #[.pointer (some ⟨cb, 0, none⟩)], .int .i64 (x.i : Int), .agg #[.int .i64 x.e.key, .bool x.e.trim, .slice x.e.a x.e.n x.e.c], undef, undef, undef, undef, undef], defers := [] } : Act) _
    rw [← heb]
    obtain ⟨c0, c1', c2, _⟩ := ent3 hK
    have g1 : W.cell? ⟨lb, 0, none⟩ = some (.slice a1 (pre.map Yd.e).length c1) := cell_of_one hbox
    have HNW : Hid (∀ j u, x.e.cells[j]? = some u → ((W.alloc (.cells #[.int .i64 x.e.key, .bool x.e.trim, .slice x.e.a x.e.n x.e.c] 35 (0, 0)))).cell? ((⟨W.heap.size, 0, none⟩ : Addr).add j) = some u) := World.news_of_block (cs := #[.int .i64 x.e.key, .bool x.e.trim, .slice x.e.a x.e.n x.e.c]) (fr := (0, 0)) (t := 35) (heap_alloc_new W _)
    have HON : Hid (∀ u ∈ x.e.cells, u.oneCell' = true) := by
      intro u hu
      unfold Ent.cells at hu
      simp only [List.mem_cons, List.not_mem_nil, or_false] at hu
      rcases hu with rfl | rfl | rfl <;> rfl
    obtain ⟨n, hnE⟩ : ∃ n, n = (pre.map Yd.e).length := ⟨_, rfl⟩
    have hn2 : n = pre.length := by rw [hnE, List.length_map]
    have hn3 : n ≤ 1000 := by omega
    have HRo : Hid ((W.alloc (.cells #[.int .i64 x.e.key, .bool x.e.trim, .slice x.e.a x.e.n x.e.c] 35 (0, 0))).ownsRow w2.heap.size 35 3 (.slice a1 n c1) n (ecells (pre.map Yd.e))) := by
      have h := World.ownsRow.alloc hrow (.cells #[.int .i64 x.e.key, .bool x.e.trim, .slice x.e.a x.e.n x.e.c] 35 (0, 0))
      rw [← hnE] at h
      exact h
    have hsz2 : w2.heap.size ≤ W.heap.size := by have := hsz; rw [World.size_alloc] at this; omega
    have HQ : Hid (∀ w5, (W.alloc (.cells #[.int .i64 x.e.key, .bool x.e.trim, .slice x.e.a x.e.n x.e.c] 35 (0, 0))).grownBy w5 (Value.slice a1 n c1).ownBlock → w5.cell? ⟨lb, 0, none⟩ = some (.slice a1 n c1) ∧ w5.frozen? ⟨lb, 0, none⟩ = false) := by
      intro w5 hg
      have hlW := lt_of_block hbox
      have hv : (Value.slice a1 n c1).ownBlock ≠ some lb := fun e => by
        rw [hnE] at e
        have := (hrow.lt lb e).1; omega
      have h5 : w5.heap[lb]? = some (.cells #[.slice a1 n c1] 30 (0, 0)) := by
        rw [hnE]
        exact (hg.block lb (by simp; omega) (Ne.symm hv)).trans ((Below.heap_alloc W _ _ hlW).trans hbox)
      exact ⟨cell_of_one h5, free_of_one h5⟩
    have HAdd : Hid (∀ w5 v', w5.ownsRow w2.heap.size 35 3 v' (n + 1) (ecells (pre.map Yd.e) ++ x.e.cells) → (W.alloc (.cells #[.int .i64 x.e.key, .bool x.e.trim, .slice x.e.a x.e.n x.e.c] 35 (0, 0))).grownBy w5 (Value.slice a1 n c1).ownBlock → (v'.ownBlock = (Value.slice a1 n c1).ownBlock ∨ v'.ownBlock = some (W.alloc (.cells #[.int .i64 x.e.key, .bool x.e.trim, .slice x.e.a x.e.n x.e.c] 35 (0, 0))).heap.size) → ∃ bl', Tn (gift x ++ bl) W (w5.setCell ⟨lb, 0, none⟩ v') bl' ∧ EnI w lb w2.heap.size (pre ++ [x]) bl' (w5.setCell ⟨lb, 0, none⟩ v')) := by
      intro w5 v' h1 h2 h3
      rw [hnE] at h2 h3
      rw [hn2] at h1
      exact en_add (L := L) (ol := bl) hblE hbox hrow hlb hw0 hbel hf hp hVf (fun k hk => ⟨hVb k hk, fun hm => hVg k hk (by simp [hm])⟩) ((Below.refl _ _).alloc (Nat.le_refl _) _) h1 h2 h3
    rw [← hnE] at g1
    clear hn2 hVb hblE hbox hrow hlb hw0 hbel hf hp hVi hVy hVf hVg hc1 hK hsz hW hbl hgf heb hnE
    gi_wp2_with (first
      | (gi_at_builtin; refine wpListIn_append_own_at _ rfl _ _ 30 rfl w2.heap.size 35 i0 (.agg #[.int .i64 0, .bool false, .slice none 0 0]) 3 40 Tryd.underlying30 hi hz0 hz1 hz2 rfl (by decide) (.slice a1 n c1) n (ecells (pre.map Yd.e)) rfl HRo.out ⟨W.heap.size, 0, none⟩ 1 1 x.e.cells rfl rfl HNW.out HON.out (by unfold maxLen; omega) (by omega) (by rw [World.size_alloc]; omega) ?_; intro v' w5 hown hgrow hnil hat; obtain ⟨av, cv, rfl⟩ := own3_slice hown; have q3 := (HQ.out w5 hgrow).1; have q4 := (HQ.out w5 hgrow).2; have HA := Lib.hid (HAdd.out w5 _ hown hgrow hat); clear hown hgrow hnil hat)
      | fail)
    exact HA.out
  · intro D xs bl W hD hDl hDb hS hi' hdef
    obtain ⟨v1, hblE, hbox, hrow, hlb, hw0, hbel, hf, hp⟩ := hi'
    have g1 := cell_of_one hbox
    have hwD : w.heap.size ≤ D := by have := H2.out.2.2.1.size; omega
    have hDlb : D ≠ lb := fun e => by rw [e] at hD; omega
    have HX := Lib.hid (And.intro hblE (And.intro hrow (And.intro hlb (And.intro hbel (And.intro hf (And.intro hp (And.intro hS (And.intro hD (And.intro hDb hwD)))))))))
    clear hblE hbox hrow hlb hw0 hbel hf hp hS hD hDb hwD
    go_wp2
    obtain ⟨hblE, hrow, hlb, hbel, hf, hp, hS, hD, hDb, hwD⟩ := HX.out
    refine ⟨by simp, .inl ⟨_, _, rfl, run_takeDeferred hdef, ?_⟩⟩
    refine ⟨_, results_tmp rfl _ _ _, v1, xs, rfl, hS.1, hS.2, ?_, ?_, ?_, hp⟩
    · have hww := H2.out.2.2.1.size
      exact row_base (row_keep hrow fun k hk => World.putObj_heap_other (fun e => hDb (by rw [← e, hblE]; simp [hk]))) (by omega)
    · exact hbel.trans ⟨rfl, rfl, rfl, by simp, fun z hz => World.putObj_heap_other (by omega)⟩
    · intro x hx
      obtain ⟨k1, k2⟩ := hf x hx
      refine ⟨k1.same fun q hq => World.putObj_heap_other (fun e => hDb (by rw [← e, hblE]; exact List.mem_cons_of_mem _ (List.mem_append_right _ (List.mem_flatMap.2 ⟨x, hx, gift_mem hq⟩)))), fun k hk => ⟨?_, (k2 k hk).2⟩⟩
      have := (k2 k hk).1
      have hww := H2.out.2.2.1.size
      omega
  · intro D cde pre bl W hD hDl hDb hS hix hdef
    exact hix.elim
end Go.Proofs.YtabpfadbioalgaaDoor.Wt
