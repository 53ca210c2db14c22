/- Two lists of slots, compared. By the verifier of shale. -/
import Derived.Test.YtpbckjagiebmjaaDoorTbEq
import Derived.Laws.OwnMore
namespace Go.Proofs.YtpbckjagiebmjaaDoor.Tb
open Go Go.RowKit Go.Maps Go.Sort
set_option linter.unusedVariables false
set_option linter.unusedSimpArgs false
/-- alike, one by one. -/
def eqL (L M : List Sl) : Bool := decide (L.length = M.length ∧ ∀ i, i < L.length → likeK (L[i]!) (M[i]!) = true)
/-- the cells of a row's i-th slot. -/
theorem row_at {w : World} {Bs g cap : Nat} {L : List Sl} (h : w.ownsRow Bs 47 9 (.slice (some ⟨g, 0, none⟩) L.length cap) L.length (scells L)) {i : Nat} (hi : i < L.length) :
    w.cell? ⟨g, i * 9, none⟩ = some (.int .i64 (L[i]!).k) ∧ w.cell? ⟨g, i * 9 + 1, none⟩ = some (.int .i64 (L[i]!).b) ∧ w.cell? ⟨g, i * 9 + 2, none⟩ = some (.int .i64 (L[i]!).p) ∧ w.cell? ⟨g, i * 9 + 3, none⟩ = some (.int .i64 (L[i]!).m0) ∧ w.cell? ⟨g, i * 9 + 4, none⟩ = some (.int .i64 (L[i]!).m1) ∧ w.cell? ⟨g, i * 9 + 5, none⟩ = some (.int .i64 (L[i]!).m2) ∧ w.cell? ⟨g, i * 9 + 6, none⟩ = some (.int .i64 (L[i]!).m3) ∧ w.cell? ⟨g, i * 9 + 7, none⟩ = some (.int .i64 (L[i]!).m4) ∧ w.cell? ⟨g, i * 9 + 8, none⟩ = some (.int .i64 (L[i]!).m5) := by
  have key : ∀ c, c < 9 → w.cell? ⟨g, i * 9 + c, none⟩ = (slC (L[i]!))[c]? := fun c hc => by rw [h.cellAt _ (by omega), scells_get L i c hi hc]
  exact ⟨key 0 (by omega), key 1 (by omega), key 2 (by omega), key 3 (by omega), key 4 (by omega), key 5 (by omega), key 6 (by omega), key 7 (by omega), key 8 (by omega)⟩
theorem row_slice9 {w : World} {Bs n : Nat} {v : Value} {xs : List Value} (h : w.ownsRow Bs 47 9 v n xs) : ∃ a c, v = .slice a n c ∧ (0 < n → ∃ g, a = some ⟨g, 0, none⟩) ∧ n ≤ maxLen := by
  rcases h.2 with ⟨rfl, rfl⟩ | ⟨g, cap, cur, rfl, _, _, h1, h2, _⟩
  · exact ⟨none, 0, rfl, fun h => absurd h (by omega), by simp⟩
  · exact ⟨_, cap, rfl, fun _ => ⟨g, rfl⟩, by omega⟩
theorem own_below {w w' : World} {Bs n : Nat} {v : Value} {xs : List Value} (h : w.ownsRow Bs 47 9 v n xs) (b : Below w.heap.size w w') : w'.ownsRow Bs 47 9 v n xs := h.kept (grown_below b none) (by cases h : v.ownBlock <;> simp)
set_option maxRecDepth 100000 in
set_option maxHeartbeats 4000000 in
theorem eqf_any {w : World} {B1 B2 : Nat} {v1 v2 : Value} {L M : List Sl} (h1 : w.ownsRow B1 47 9 v1 L.length (scells L)) (h2 : w.ownsRow B2 47 9 v2 M.length (scells M)) :
    Calls Tryd.prog 37 #[v1, v2, .func (.func 38) #[] #[]] w fun e w' => e = .returned (.bool (eqL L M)) ∧ Below w.heap.size w w' := by
  obtain ⟨a1, c1, rfl, f1, m1⟩ := row_slice9 h1
  obtain ⟨a2, c2, rfl, f2, m2⟩ := row_slice9 h2
  have HH := Lib.hid (And.intro h1 (And.intro h2 (And.intro f1 f2)))
  clear h1 h2 f1 f2
  by_cases hl : L.length = M.length
  · have t : ((L.length : Int) == (M.length : Int)) = true := by simp [hl]
    go_enter Tryd.func37, Tryd.ntmps37
    have HLM := Lib.hid hl
    obtain ⟨n, hn⟩ : ∃ n, n = L.length := ⟨_, rfl⟩
    have hn2 : M.length = n := by rw [hn]; exact hl.symm
    rw [hn2, ← hn]
    rw [hn2, ← hn] at t
    rw [← hn] at m1
    unfold maxLen at m1
    have HN := Lib.hid hn
    clear m2 hn hn2 hl
    go_wp2_with fail
    have B : Hid (Below w.heap.size w w) := Below.refl _ _
    go_loopg [17] n (fun gh s17 wx => ∃ i : Nat, gh = n - i ∧ i ≤ n ∧ s17 = .int .i64 (i : Int) ∧ Hid (∀ j, j < i → likeK (L[j]!) (M[j]!) = true) ∧ Hid (Below w.heap.size w wx))
    case atStart => exact ⟨0, rfl, Nat.zero_le _, rfl, fun j hj => absurd hj (Nat.not_lt_zero _), B⟩
    case round =>
      clear B
      obtain ⟨i, hg, hin, rfl, HJ, HB⟩ := hrel
      have HI := Lib.hid hg
      clear hg
      by_cases hlt : i < n
      · have x1 : (i : Int) < (n : Int) := by omega
        have x0 : (0 : Int) ≤ (i : Int) := by omega
        have hiL : i < L.length := by rw [← HN.out]; exact hlt
        have hiM : i < M.length := by rw [← HLM.out, ← HN.out]; exact hlt
        obtain ⟨g1, rfl⟩ := HH.out.2.2.1 (by omega)
        obtain ⟨g2, rfl⟩ := HH.out.2.2.2 (by omega)
        have R1 := own_below HH.out.1 HB.out
        have R2 := own_below HH.out.2.1 HB.out
        obtain ⟨p0, p1, p2, p3, p4, p5, p6, p7, p8⟩ := row_at R1 hiL
        obtain ⟨q0, q1, q2, q3, q4, q5, q6, q7, q8⟩ := row_at R2 hiM
        obtain ⟨x, hx⟩ : ∃ x, x = L[i]! := ⟨_, rfl⟩
        obtain ⟨y, hy⟩ : ∃ y, y = M[i]! := ⟨_, rfl⟩
        rw [← hx] at p0 p1 p2 p3 p4 p5 p6 p7 p8
        rw [← hy] at q0 q1 q2 q3 q4 q5 q6 q7 q8
        have HXY := Lib.hid (And.intro hx (And.intro hy hlt))
        have hg2 := World.block_lt_of_cell? wr _ q0
        have HQ := Lib.hid (row_at R2 hiM)
        rw [← hy] at HQ
        have HC := Lib.hid (fun W => sameK x y W)
        clear hx hy R1 R2 hlt hiL hiM
        go_upto_region 6 with (fail)
        generalize hw : wr.alloc (.cells #[.int .i64 x.k, .int .i64 x.b, .int .i64 x.p, .int .i64 x.m0, .int .i64 x.m1, .int .i64 x.m2, .int .i64 x.m3, .int .i64 x.m4, .int .i64 x.m5] 47 (0, 0)) = w1
        obtain ⟨J1, b1⟩ := newSl wr w1 x hw
        clear hw p0 p1 p2 p3 p4 p5 p6 p7 p8 q0 q1 q2 q3 q4 q5 q6 q7 q8
        obtain ⟨q0, q1, q2, q3, q4, q5, q6, q7, q8⟩ := HQ.out
        have hb := b1.block g2 hg2
        replace q0 := (cell_heapT hb).trans q0
        replace q1 := (cell_heapT hb).trans q1
        replace q2 := (cell_heapT hb).trans q2
        replace q3 := (cell_heapT hb).trans q3
        replace q4 := (cell_heapT hb).trans q4
        replace q5 := (cell_heapT hb).trans q5
        replace q6 := (cell_heapT hb).trans q6
        replace q7 := (cell_heapT hb).trans q7
        replace q8 := (cell_heapT hb).trans q8
        obtain ⟨xb, hxb⟩ : ∃ xb, xb = wr.heap.size := ⟨_, rfl⟩
        rw [← hxb] at J1 ⊢
        clear hb hg2 HQ hxb
        go_upto_region 7 with (fail)
        generalize hw : w1.alloc (.cells #[.int .i64 y.k, .int .i64 y.b, .int .i64 y.p, .int .i64 y.m0, .int .i64 y.m1, .int .i64 y.m2, .int .i64 y.m3, .int .i64 y.m4, .int .i64 y.m5] 47 (0, 0)) = w2
        obtain ⟨J2, b2⟩ := newSl w1 w2 y hw
        clear hw q0 q1 q2 q3 q4 q5 q6 q7 q8
        obtain ⟨yb, hyb⟩ : ∃ yb, yb = w1.heap.size := ⟨_, rfl⟩
        rw [← hyb] at J2 ⊢
        have J1' := (b2.block xb (lt_of_block J1)).trans J1
        have HB2 : Hid (Below w.heap.size w w2) := HB.out.trans ((b1.trans (b2.mono b1.size)).mono HB.out.size)
        clear hyb J1 b1 b2
        obtain ⟨p0, p1, p2, p3, p4, p5, p6, p7, p8⟩ := sl_cells9 (s := x) J1'
        obtain ⟨q0, q1, q2, q3, q4, q5, q6, q7, q8⟩ := sl_cells9 (s := y) J2
        clear J1' J2
        go_wp2_with fail
        refine (HC.out w2).mono ?_
        rintro e w3 ⟨rfl, b3⟩
        have HB3 : Hid (Below w.heap.size w w3) := HB2.out.trans (b3.mono HB2.out.size)
        clear p0 p1 p2 p3 p4 p5 p6 p7 p8 q0 q1 q2 q3 q4 q5 q6 q7 q8 b3 HB2
        cases hk : likeK x y with
        | true =>
          have HJ1 : Hid (∀ j, j < i + 1 → likeK (L[j]!) (M[j]!) = true) := fun j hj => by
            by_cases e : j = i
            · rw [e, ← HXY.out.1, ← HXY.out.2.1]; exact hk
            · exact HJ.out j (by omega)
          clear hk
          go_wp2_with fail
          go_roundg (n - (i + 1))
          case measure => have := HI.out; have := HXY.out.2.2; omega
          case rel => exact ⟨i + 1, rfl, HXY.out.2.2, by go_num, HJ1, HB3⟩
        | false =>
          have HF : Hid (eqL L M = false) := by
            show eqL L M = false
            unfold eqL
            refine decide_eq_false fun h => ?_
            have := h.2 i (by rw [← HN.out]; exact HXY.out.2.2)
            rw [← HXY.out.1, ← HXY.out.2.1, hk] at this
            cases this
          clear hk
          go_wp2_with fail
          go_ret
          exact ⟨by rw [HF.out]; rfl, HB3.out⟩
      · obtain rfl : i = n := by omega
        go_wp2_with fail
        go_ret
        refine ⟨?_, HB.out⟩
        have : eqL L M = true := by
          unfold eqL
          exact decide_eq_true ⟨HLM.out, fun j hj => HJ.out j (by rw [HN.out]; exact hj)⟩
        rw [this]
        rfl
  · have t : ((L.length : Int) == (M.length : Int)) = false := by simp; omega
    have he : eqL L M = false := by unfold eqL; exact decide_eq_false fun h => hl h.1
    rw [he]
    clear he hl
    go_enter Tryd.func37, Tryd.ntmps37
    go_wp2_with fail
    go_ret
    exact ⟨rfl, Below.refl _ _⟩
end Go.Proofs.YtpbckjagiebmjaaDoor.Tb
