/- A buffer's entries, told one by one. By the verifier of shale. -/
import Derived.Test.YtabpfadbioalgaaDoorWtGet
import Derived.Test.YtabpfadbioalgaaDoorRangeGift
namespace Go.Proofs.YtabpfadbioalgaaDoor.Wt
open Go Go.RowKit Bin
set_option linter.unusedVariables false
set_option linter.unusedSimpArgs false
set_option maxRecDepth 100000 in
set_option maxHeartbeats 2000000 in
theorem cloneE_any {w : World} {base : Nat} {v : Value} {L : List Ent} (hr : Row w base v L) (hL : L.length ≤ 1000) :
    Calls Tryd.prog 31 #[v] w fun e w' => ∃ v', e = .returned v' ∧ Row w' w.heap.size v' L ∧ Below w.heap.size w w' := by
  obtain ⟨i0, hi, hz0, hz1, hz2⟩ := infoE
  have q22 : ∀ (w : World) (a : Option Addr) (n c n' c' : Nat), (binOp .eql 30 (.slice a n c) (.slice none n' c')).run Tryd.prog w = .ok (.bool a.isNone) w := fun w a n c n' c' => Lib.run_eql_slice_nil w _ _ a n c n' c' Tryd.underlying30
  rcases hr.2 with ⟨h1, h2⟩ | ⟨g, cap, cur, hv, hb, hh, hnc, hcm, hsz, htk⟩
  · subst h1
    have hl : L = [] := List.eq_nil_of_length_eq_zero h2
    subst hl
    have HN : Hid (Row w w.heap.size (.slice none 0 0) []) := World.ownsRow_nil _ _ _ _
    clear hr
    go_enter Tryd.func31, Tryd.ntmps31
    go_wp2_with fail
    go_ret
    exact ⟨_, rfl, HN.out, Below.refl _ _⟩
  · subst hv
    have b0 : Below w.heap.size w (w.alloc (.cells #[] 35)) := (Below.refl _ _).alloc (Nat.le_refl _) _
    have ho : (w.alloc (.cells #[] 35)).ownsRow w.heap.size 35 3 (.slice (some ⟨w.heap.size, 0, none⟩) 0 0) 0 [] := World.ownsRow_made w #[] 0 (Nat.le_refl _) (Nat.zero_le _) rfl
    have hnews : ∀ j u, (ecells L)[j]? = some u → (w.alloc (.cells #[] 35)).cell? ((⟨g, 0, none⟩ : Addr).add j) = some u := by
      intro j u hu
      have hc := hr.cells (g := g) rfl j u hu
      exact Lib.cell?_alloc_some _ hc
    have HN := Lib.hid hnews
    obtain ⟨n, hn⟩ : ∃ n, n = L.length := ⟨_, rfl⟩
    have HL := Lib.hid hn
    rw [← hn] at hnc hL ⊢
    clear hr hh hsz htk hnews hn
    go_enter Tryd.func31, Tryd.ntmps31
    go_wp2_with (at_builtin; refine wpList_append_own _ rfl _ _ 30 rfl w.heap.size 35 i0 (.agg #[.int .i64 0, .bool false, .slice none 0 0]) 3 40 Tryd.underlying30 hi hz0 hz1 hz2 rfl (by decide) (.slice (some ⟨w.heap.size, 0, none⟩) 0 0) 0 _ rfl ho ⟨g, 0, none⟩ n cap (ecells L) rfl (by rw [ecells_length, ← HL.out]) HN.out (ecells_one _) (by unfold maxLen; omega) (by omega) (by simp) ?_; intro v9 w9 hown9 hgrow _)
    have ho9 : Hid (Row w9 w.heap.size v9 L) := by
      show w9.ownsRow _ _ _ _ _ _
      rw [← HL.out]
      have := hown9
      rw [Nat.zero_add, List.nil_append] at this
      exact this
    have b9 : Below w.heap.size w w9 := b0.grown hgrow (by simp) (fun k hk => by simp only [Value.ownBlock, Option.some.injEq] at hk; omega)
    clear hown9 hgrow
    go_wp2_with fail
    go_ret
    exact ⟨_, rfl, ho9.out, b9⟩
/-- what is told: its place and the entry, its data new memory. -/
structure Yd where
  i : Nat
  e : Ent
abbrev encY (x : Yd) : Array Value := #[.int .i64 (x.i : Int), .agg #[.int .i64 x.e.key, .bool x.e.trim, .slice x.e.a x.e.n x.e.c]]
def gift (x : Yd) : List Nat := x.e.a.toList.map fun q => q.block
/-- it says what the i-th entry says. -/
def Yof (L : List Ent) (x : Yd) : Prop := ∃ d, L[x.i]? = some d ∧ x.e.key = d.key ∧ x.e.trim = d.trim ∧ x.e.n = d.n ∧ x.e.l = d.l
/-- its data, new. -/
def FreD (W : World) (e : Ent) : Prop := e.n = e.l.length ∧ e.n ≤ e.c ∧ e.c ≤ maxLen ∧ ((e.a = none ∧ e.n = 0 ∧ e.c = 0) ∨ ∃ g, e.a = some ⟨g, 0, none⟩ ∧ Buf8 W g e.l)
theorem FreD.same {W W' : World} {e : Ent} (h : FreD W e) (o : ∀ q, e.a = some q → W'.heap[q.block]? = W.heap[q.block]?) : FreD W' e := by
  obtain ⟨h1, h2, h3, h4⟩ := h
  refine ⟨h1, h2, h3, ?_⟩
  rcases h4 with h4 | ⟨g, h4, cur, ty, h5, h6⟩
  · exact .inl h4
  · exact .inr ⟨g, h4, cur, ty, (o _ h4).trans h5, h6⟩
theorem FreD.pol {W : World} {e : Ent} (h : FreD W e) : Pol W e.a e.n e.c e.l := by
  obtain ⟨h1, h2, h3, h4⟩ := h
  refine ⟨h1, h2, h3, fun hn => ?_, ?_⟩
  · rcases h4 with h4 | ⟨g, h4, _⟩
    · exact h4.2.2
    · rw [h4] at hn; cases hn
  · rcases h4 with h4 | ⟨g, h4, h5⟩
    · exact .inl h4.2.1
    · exact .inr ⟨g, 0, h4, h5.row, h5.lt⟩
theorem FreD.lt {W : World} {e : Ent} (h : FreD W e) : ∀ q, e.a = some q → q.block < W.heap.size := by
  intro q hq
  rcases h.2.2.2 with h4 | ⟨g, h4, h5⟩
  · rw [h4.1] at hq; cases hq
  · rw [h4] at hq; cases hq; exact h5.lt
theorem freD_of {w w' : World} {e : Ent} (N : NewP w w' e.a e.n e.c e.l) : FreD w' e := by
  refine ⟨N.hlen, N.hcap, N.hmost, ?_⟩
  rcases N.own with h | ⟨g, h1, h2, h3⟩
  · exact .inl h
  · exact .inr ⟨g, h1, h3⟩
/-- what a round is told. -/
def VY (L : List Ent) (Bs : Nat) (pre : List Yd) (x : Yd) (ol : List Nat) (X : World) : Prop := x.i = pre.length ∧ Yof L x ∧ FreD X x.e ∧ (∀ k ∈ gift x, k ∉ ol) ∧ ∀ k ∈ gift x, Bs ≤ k
def PreY (L : List Ent) (xs : List Yd) : Prop := ∀ i x, xs[i]? = some x → x.i = i ∧ Yof L x
theorem PreY.snoc {L : List Ent} {xs : List Yd} {x : Yd} (h : PreY L xs) (h1 : x.i = xs.length) (h2 : Yof L x) : PreY L (xs ++ [x]) := by
  intro i y hy
  rw [List.getElem?_append] at hy
  by_cases hi : i < xs.length
  · rw [if_pos hi] at hy
    exact h i y hy
  · rw [if_neg hi] at hy
    have hi2 : i = xs.length := by
      have := (List.getElem?_eq_some_iff.1 hy).1
      simp at this
      omega
    subst hi2
    simp at hy
    subst hy
    exact ⟨h1, h2⟩
theorem vy_gift {L : List Ent} {Bs : Nat} : ∀ pre x ol X, VY L Bs pre x ol X → ∀ k ∈ gift x, k ∉ ol := fun pre x ol X h => h.2.2.2.1
theorem vy_lt {L : List Ent} {Bs : Nat} : ∀ pre x ol X, VY L Bs pre x ol X → ∀ k ∈ gift x, k < X.heap.size := fun pre x ol X h k hk => by
  unfold gift at hk
  simp only [List.mem_map, Option.mem_toList] at hk
  obtain ⟨q, hq, rfl⟩ := hk
  exact h.2.2.1.lt q hq
theorem vy_same {L : List Ent} {Bs : Nat} : ∀ pre x ol X Y, VY L Bs pre x ol X → Tn ol X Y ol → VY L Bs pre x ol Y := fun pre x ol X Y h t =>
  ⟨h.1, h.2.1, h.2.2.1.same fun q hq => t.same _ (h.2.2.1.lt q hq) (h.2.2.2.1 _ (by unfold gift; rw [hq]; simp)), h.2.2.2⟩
/-- what the iterator finds. -/
def FindsY (base bb cb : Nat) (sz mo sc : Int) (v : Value) (L : List Ent) (ol : List Nat) (W : World) : Prop :=
  BufAt W base bb sz mo sc v L ∧ W.heap[cb]? = some (.cells #[.pointer (some ⟨bb, 0, none⟩)] 24 (0, 0)) ∧ ∀ e ∈ L, ∀ q, e.a = some q → q.block ∉ ol
set_option maxHeartbeats 400000 in
theorem each_any (bb : Nat) (w : World) : Calls Tryd.prog 18 #[.pointer (some ⟨bb, 0, none⟩)] w fun e w' => e = .returned (.func (.func 30) #[] #[.pointer (some ⟨w.heap.size, 0, none⟩)]) ∧ w'.heap[w.heap.size]? = some (.cells #[.pointer (some ⟨bb, 0, none⟩)] 24 (0, 0)) ∧ Below w.heap.size w w' := by
  have h1 : Hid ((w.alloc (.cells #[.pointer (some ⟨bb, 0, none⟩)] 24 (0, 0))).heap[w.heap.size]? = some (.cells #[.pointer (some ⟨bb, 0, none⟩)] 24 (0, 0)) ∧ Below w.heap.size w (w.alloc (.cells #[.pointer (some ⟨bb, 0, none⟩)] 24 (0, 0)))) := ⟨heap_alloc_new w _, (Below.refl _ _).alloc (Nat.le_refl _) _⟩
  go_enter Tryd.func18, Tryd.ntmps18
  go_wp2_with fail
  go_ret
  exact ⟨rfl, h1.out.1, h1.out.2⟩
end Go.Proofs.YtabpfadbioalgaaDoor.Wt
