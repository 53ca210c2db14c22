/- Lists of rows that are the same. By the verifier of shale. -/
import Derived.Test.YtbngkmlipmhgdaaDoorMoSet
namespace Go.Proofs.YtbngkmlipmhgdaaDoor.Mo
open Go Go.RowKit Bin
set_option linter.unusedVariables false
set_option linter.unusedSimpArgs false
theorem Dat.str {w : World} {s : Sd} {l : Bs} (h : Dat w s l) : Str8 w (sdV s) l := by
  refine .of ?_
  rcases h.hrow with h0 | ⟨bb, off, e, hr, hb⟩
  · have h1 := h.hlen
    rw [h0] at h1
    have hl : l = [] := List.eq_nil_of_length_eq_zero h1.symm
    subst hl
    exact .inl ⟨rfl, s.addr, s.c, by show Value.slice s.addr s.n s.c = _; rw [h0]⟩
  · show IsBytes w (.slice s.addr s.n s.c) l
    rw [e]
    exact .mk h.hlen hr hb
/-- are so many of both the same? -/
def eqN (M1 M2 : Nat → Bs) (n : Nat) : Prop := ∀ i, i < n → M1 i = M2 i
instance (M1 M2 : Nat → Bs) (n : Nat) : Decidable (eqN M1 M2 n) := by unfold eqN; infer_instance
set_option maxHeartbeats 2000000 in
theorem equalF_any {w : World} {a1 a2 : Option Addr} {n1 n2 c1 c2 : Nat} {M1 M2 : Nat → Bs} (h1 : LstAt w a1 n1 M1) (h2 : LstAt w a2 n2 M2) (hn1 : n1 ≤ 1048576) (hn2 : n2 ≤ maxLen) :
    Calls Tryd.prog 31 #[.slice a1 n1 c1, .slice a2 n2 c2, .func (.func 32) #[] #[]] w fun e w' => e = .returned (.bool (decide (n1 = n2 ∧ eqN M1 M2 n1))) ∧ w = w' := by
  unfold maxLen at hn2
  by_cases hl : n1 = n2
  · subst hl
    have t : ((n1 : Int) == (n1 : Int)) = true := by simp
    have HH := Lib.hid (And.intro h1 h2)
    obtain ⟨M, hM⟩ : ∃ M, M = n1 := ⟨_, rfl⟩
    clear h1 h2 hn2
    go_enter Tryd.func31, Tryd.ntmps31
    go_wp2_with fail
    go_loopg [17] n1 (fun gh s17 wx => ∃ i : Nat, gh = n1 - i ∧ i ≤ n1 ∧ s17 = .int .i64 (i : Int) ∧ w = wx ∧ Hid (eqN M1 M2 i))
    case atStart => exact ⟨0, rfl, Nat.zero_le _, rfl, rfl, fun j hj => absurd hj (Nat.not_lt_zero _)⟩
    case round =>
      obtain ⟨i, hg, hin, rfl, rfl, HJ⟩ := hrel
      have HI := Lib.hid hg
      clear hg
      by_cases hlt : i < n1
      · have x1 : (i : Int) < (n1 : Int) := by omega
        have x0 : (0 : Int) ≤ (i : Int) := by omega
        have x2 : (i : Int) ≤ 1048576 := by omega
        obtain ⟨g1, o1, s1, rfl, _, d1, e1⟩ := HH.out.1 i hlt
        obtain ⟨g2, o2, s2, rfl, _, d2, e2⟩ := HH.out.2 i hlt
        have HE := Lib.hid (equal_any (M1 i) (M2 i) _ _ w e1.str e2.str)
        have HL := Lib.hid hlt
        by_cases he : M1 i = M2 i
        · rw [decide_eq_true he] at HE
          have HN : Hid (eqN M1 M2 (i + 1)) := fun j hj => by
            by_cases hji : j = i
            · rw [hji]; exact he
            · exact HJ.out j (by omega)
          clear he hlt hin e1 e2 HJ
          go_wp2_with fail
          refine HE.out.mono ?_
          rintro e w' ⟨rfl, rfl⟩
          clear HE d1 d2
          go_wp2_with fail
          go_roundg (n1 - (i + 1))
          case measure => have := HI.out; have := HL.out; omega
          case rel => exact ⟨i + 1, rfl, HL.out, by go_num, rfl, HN⟩
        · rw [decide_eq_false he] at HE
          have HN : Hid (decide (n1 = n1 ∧ eqN M1 M2 n1) = false) := decide_eq_false fun h => he (h.2 i hlt)
          clear he hlt hin e1 e2 HJ
          go_wp2_with fail
          refine HE.out.mono ?_
          rintro e w' ⟨rfl, rfl⟩
          clear HE d1 d2
          go_wp2_with fail
          go_ret
          rw [HN.out]
          exact ⟨rfl, rfl⟩
      · obtain rfl : i = n1 := by omega
        have x1 : ¬ (i : Int) < (i : Int) := by omega
        have HN : Hid (decide (eqN M1 M2 i) = true) := decide_eq_true HJ.out
        clear HJ hin hlt
        go_wp2_with fail
        go_ret
        rw [HN.out]
        exact ⟨rfl, rfl⟩
  · have t : ((n1 : Int) == (n2 : Int)) = false := by rw [beq_eq_false_iff_ne]; omega
    have t' : ¬ ((n1 : Int) = (n2 : Int)) := by omega
    have t2 : (n1 == n2) = false := by rw [beq_eq_false_iff_ne]; exact hl
    have HN : Hid (decide (n1 = n2 ∧ eqN M1 M2 n1) = false) := decide_eq_false fun h => hl h.1
    clear hl h1 h2
    go_enter Tryd.func31, Tryd.ntmps31
    go_wp2_with fail
    go_ret
    rw [HN.out]
    exact ⟨rfl, rfl⟩
set_option maxRecDepth 100000 in
set_option maxHeartbeats 2000000 in
theorem wclone_any {w : World} {v : Value} {L : List We} (hr : WRow w v L) (hL : L.length ≤ 1000) :
    Calls Tryd.prog 29 #[v] w fun e w' => ∃ v', e = .returned v' ∧ w'.ownsRow w.heap.size 67 2 v' L.length (wcells L) ∧ Below w.heap.size w w' := by
  obtain ⟨i0, hi, hz0, hz1, hz2⟩ := infoW
  have q22 : ∀ (w : World) (a : Option Addr) (n c n' c' : Nat), (binOp .eql 61 (.slice a n c) (.slice none n' c')).run Tryd.prog w = .ok (.bool a.isNone) w := fun w a n c n' c' => Lib.run_eql_slice_nil w _ _ a n c n' c' Tryd.underlying61
  rcases hr.2 with ⟨h1, h2⟩ | ⟨g, cap, cur, hv, hb, hh, hnc, hcm, hsz, htk⟩
  · subst h1
    have hl : L = [] := List.eq_nil_of_length_eq_zero h2
    subst hl
    have HN : Hid (w.ownsRow w.heap.size 67 2 (.slice none 0 0) 0 (wcells [])) := World.ownsRow_nil _ _ _ _
    clear hr
    go_enter Tryd.func29, Tryd.ntmps29
    go_wp2_with fail
    go_ret
    exact ⟨_, rfl, HN.out, Below.refl _ _⟩
  · subst hv
    have b0 : Below w.heap.size w (w.alloc (.cells #[] 67)) := (Below.refl _ _).alloc (Nat.le_refl _) _
    have ho : (w.alloc (.cells #[] 67)).ownsRow w.heap.size 67 2 (.slice (some ⟨w.heap.size, 0, none⟩) 0 0) 0 [] := World.ownsRow_made w #[] 0 (Nat.le_refl _) (Nat.zero_le _) rfl
    have hnews : ∀ j u, (wcells L)[j]? = some u → (w.alloc (.cells #[] 67)).cell? ((⟨g, 0, none⟩ : Addr).add j) = some u := by
      intro j u hu
      have hc := hr.cells (g := g) rfl j u hu
      exact Lib.cell?_alloc_some _ hc
    have HN := Lib.hid hnews
    obtain ⟨n, hn⟩ : ∃ n, n = L.length := ⟨_, rfl⟩
    have HL := Lib.hid hn
    rw [← hn] at hnc hL ⊢
    clear hr hh hsz htk hnews hn
    go_enter Tryd.func29, Tryd.ntmps29
    go_wp2_with (at_builtin; refine wpList_append_own _ rfl _ _ 61 rfl w.heap.size 67 i0 (.agg #[.int .i64 0, .slice none 0 0]) 2 32 Tryd.underlying61 hi hz0 hz1 hz2 rfl (by decide) (.slice (some ⟨w.heap.size, 0, none⟩) 0 0) 0 _ rfl ho ⟨g, 0, none⟩ n cap (wcells L) rfl (by rw [wcells_length, ← HL.out]) HN.out (wcells_one _) (by unfold maxLen; omega) (by omega) (by simp) ?_; intro v9 w9 hown9 hgrow _)
    have ho9 : Hid (w9.ownsRow w.heap.size 67 2 v9 n (wcells L)) := by
      show w9.ownsRow _ _ _ _ _ _
      have := hown9
      rw [Nat.zero_add, List.nil_append] at this
      exact this
    have b9 : Below w.heap.size w w9 := b0.grown hgrow (by simp) (fun k hk => by simp only [Value.ownBlock, Option.some.injEq] at hk; omega)
    clear hown9 hgrow
    go_wp2_with fail
    go_ret
    exact ⟨_, rfl, ho9.out, b9⟩
end Go.Proofs.YtbngkmlipmhgdaaDoor.Mo
