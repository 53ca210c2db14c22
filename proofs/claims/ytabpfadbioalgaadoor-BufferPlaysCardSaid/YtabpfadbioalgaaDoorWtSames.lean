/- Two lists of entries alike, as the reference tells. By the verifier of shale. -/
import Derived.Test.YtabpfadbioalgaaDoorWtRef
import Derived.Lib.QuietBelow
import Derived.Deep.Cut
namespace Go.Proofs.YtabpfadbioalgaaDoor.Wt
open Go Go.RowKit Bin
set_option linter.unusedVariables false
set_option linter.unusedSimpArgs false
/-- entries that lie one behind the other. -/
def EntsAt (W : World) (a : Option Addr) (L : List Ent) : Prop := ∀ i e, L[i]? = some e → ∃ g, a = some ⟨g, 0, none⟩ ∧ W.cell? ⟨g, i * 3, none⟩ = some (.int .i64 e.key) ∧ W.cell? ⟨g, i * 3 + 1, none⟩ = some (.bool e.trim) ∧ W.cell? ⟨g, i * 3 + 2, none⟩ = some (.slice e.a e.n e.c) ∧ Pol W e.a e.n e.c e.l
theorem EntsAt.below {W W' : World} {a : Option Addr} {L : List Ent} (h : EntsAt W a L) (b : Below W.heap.size W W') : EntsAt W' a L := by
  intro i e he
  obtain ⟨g, h0, h1, h2, h3, h4⟩ := h i e he
  have hg := World.block_lt_of_cell? W _ h1
  exact ⟨g, h0, (cell_heap (b.block g hg)).trans h1, (cell_heap (b.block g hg)).trans h2, (cell_heap (b.block g hg)).trans h3, h4.below b⟩
theorem entsAt_of {W : World} {base : Nat} {a : Option Addr} {n c : Nat} {L : List Ent} (h : Row W base (.slice a n c) L) (he : ∀ e ∈ L, Pol W e.a e.n e.c e.l) : EntsAt W a L := by
  intro i e hi
  obtain ⟨g, h0, _, h1, h2, h3⟩ := row_cells h hi
  exact ⟨g, h0, h1, h2, h3, he e (List.mem_of_getElem? hi)⟩
set_option maxHeartbeats 1000000 in
theorem sameC_any {w : World} {d e : Ent} (h1 : Pol w d.a d.n d.c d.l) (h2 : Pol w e.a e.n e.c e.l) (hk : d.key = e.key) (ht : d.trim = e.trim) (hl : d.l = e.l) :
    Calls Tryd.prog 15 #[.agg #[.int .i64 d.key, .bool d.trim, .slice d.a d.n d.c], .agg #[.int .i64 e.key, .bool e.trim, .slice e.a e.n e.c]] w fun en w' => en = .returned (.bool true) ∧ Below w.heap.size w w' := by
  rw [← hk, ← ht]
  rw [← hl] at h2
  exact sameE_any h1 h2
set_option maxRecDepth 100000 in
set_option maxHeartbeats 2000000 in
theorem sames_any {w : World} {a a' : Option Addr} {c c' n n' : Nat} {L M : List Ent} (hL : n = L.length) (hM : n' = M.length) (h1 : EntsAt w a L) (h2 : EntsAt w a' M) (h : cores L = cores M) (hn : n ≤ c) (hn' : n' ≤ c') (hs : n ≤ 1000) :
    Calls Tryd.prog 19 #[.slice a n c, .slice a' n' c'] w fun e w' => e = .returned (.bool true) ∧ Below w.heap.size w w' := by
  obtain rfl : n = n' := by rw [hL, hM]; exact cores_len h
  have HE := Lib.hid (And.intro h1 (And.intro h2 (And.intro h hL)))
  have hnn : ((n : Int) == (n : Int)) = true := by simp
  have HB0 : Hid (Below w.heap.size w w) := Below.refl _ _
  clear h1 h2 h hL hM
  go_enter Tryd.func19, Tryd.ntmps19
  go_wp2_with fail
  go_loopg [5] n (fun gh s5 wx => ∃ k : Nat, gh = n - k ∧ k ≤ n ∧ s5 = .int .i64 (k : Int) ∧ Hid (Below w.heap.size w wx))
  case atStart => exact ⟨0, rfl, Nat.zero_le _, rfl, HB0⟩
  case round =>
    clear HB0
    obtain ⟨k, hg, hk, rfl, HX⟩ := hrel
    have HI := Lib.hid hg
    clear hg
    by_cases hlt : k < n
    · have x1 : (k : Int) < (n : Int) := by omega
      have x0 : (0 : Int) ≤ (k : Int) := by omega
      obtain ⟨d, hd⟩ : ∃ d, L[k]? = some d := ⟨L[k]'(by rw [← HE.out.2.2.2]; exact hlt), List.getElem?_eq_getElem _⟩
      obtain ⟨e, he, q1, q2, q3⟩ := cores_get HE.out.2.2.1 hd
      obtain ⟨g, rfl, c0, c1, c2, hp⟩ := (HE.out.1.below HX.out) k d hd
      obtain ⟨g', rfl, d0, d1, d2, hp'⟩ := (HE.out.2.1.below HX.out) k e he
      have HS : Hid (∀ q os, Calls Tryd.prog 15 #[.agg #[.int .i64 d.key, .bool d.trim, .slice d.a d.n d.c], .agg #[.int .i64 e.key, .bool e.trim, .slice e.a e.n e.c]] (Sort.grow (redrawn wr q) os) fun x w'' => x = .returned (.bool true) ∧ ∃ p : Regrown, w'' = Sort.grow (redrawn wr p.d) p.os) := fun q os => Calls.regrown_of (sameC_any (hp.below (below_regrown wr q os)) (hp'.below (below_regrown wr q os)) q1 q2 q3)
      have c0 := cell_regrown c0
      have c1 := cell_regrown c1
      have c2 := cell_regrown c2
      have d0 := cell_regrown d0
      have d1 := cell_regrown d1
      have d2 := cell_regrown d2
      clear hp hp' q1 q2 q3 hd he
      go_upto_region 6 with (fail)
      refine wp_region_quiet_below (by kernel_rfl) (by kernel_rfl) ?_
      repeat (go_big_quiet_step (first | (go_at_call 15; with_reducible exact HS.out _ _)))
      refine wpQuiet_nil ?_
      intro _ hw'
      obtain ⟨⟨dq, osq⟩, hw''⟩ := hw'
      subst hw''
      have HN : Hid (Below w.heap.size w (Sort.grow (redrawn wr dq) osq)) := HX.out.trans ((below_regrown wr dq osq).mono HX.out.size)
      generalize Sort.grow (redrawn wr dq) osq = w6 at HN ⊢
      clear c0 c1 c2 d0 d1 d2 HS
      go_wp2_with fail
      go_roundg (n - (k + 1))
      case measure => have := HI.out; omega
      case rel => exact ⟨k + 1, rfl, hlt, by go_num, HN⟩
    · obtain rfl : k = n := by omega
      go_wp2_with fail
      go_ret
      exact ⟨rfl, HX.out⟩
end Go.Proofs.YtabpfadbioalgaaDoor.Wt
