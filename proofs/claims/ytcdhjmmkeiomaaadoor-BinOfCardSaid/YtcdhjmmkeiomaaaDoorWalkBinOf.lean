/- The walk over BinOf. By the verifier of shale. -/
import Derived.Test.YtcdhjmmkeiomaaaDoorRefSay
import Derived.Test.YtcdhjmmkeiomaaaDoorLaidBinOf
namespace Go.Proofs.YtcdhjmmkeiomaaaDoor.walkBinOf
open Go Go.RowKit Bin
set_option linter.unusedVariables false
theorem row_z {w : World} {a : Option Addr} {len cap : Nat} {zs : List Int} (h : IsRow .i64 w a len cap zs) : RowZ w a len (fun i => zs.getD i 0) := by
  intro i hi
  rcases h with ⟨rfl, rfl, rfl, rfl⟩ | ⟨x, rfl, hl, hm, hz, hc, hw⟩
  · omega
  · obtain ⟨bb, off, spot⟩ := x
    have c0 := hc i (by omega)
    obtain rfl : spot = none := by simpa [Addr.add] using World.cell?_spot (hc 0 (by omega))
    rw [add_row] at c0
    exact ⟨bb, off, rfl, c0, World.block_lt_of_cell? w _ c0⟩
theorem rowZ_below {w w' : World} {a : Option Addr} {n : Nat} {z : Nat → Int} (h : RowZ w a n z) (b : Below w.heap.size w w') : RowZ w' a n z := by
  intro i hi
  obtain ⟨bb, off, e, hc, hb⟩ := h i hi
  exact ⟨bb, off, e, (b.cell (p := ⟨bb, off + i, none⟩) hb).trans hc, Nat.lt_of_lt_of_le hb b.size⟩
set_option maxRecDepth 100000 in
set_option maxHeartbeats 1000000 in
theorem long (a : Option Addr) (n cap : Nat) (w : World) (p : Addr) (E : ErrAt w 2 p) (h : 100 < n) :
    Calls Tryd.prog 4 #[.slice a n cap] w fun e w' => e = .returned (.bool true) ∧ Below w.heap.size w w' := by
  have t : decide ((100 : Int) < (n : Int)) = true := decide_eq_true (by omega)
  go_enter Tryd.func4, Tryd.ntmps4
  go_wp2_with fail
  refine (first_any w p E).mono ?_
  rintro e w1 ⟨rfl, b1⟩
  clear E
  go_wp2_with fail
  go_ret
  exact ⟨rfl, b1⟩
set_option maxRecDepth 100000 in
set_option maxHeartbeats 2000000 in
theorem bad (a : Option Addr) (n cap : Nat) (z : Nat → Int) (j : Nat) (w : World) (h : RowZ w a n z) (hj : j < n) (hn : n ≤ 100) (hgood : ∀ i, i < j → 0 ≤ z i ∧ z i ≤ 2048) (hbad : z j < 0 ∨ 2048 < z j) (p : Addr) (E : ErrAt w 2 p) :
    Calls Tryd.prog 4 #[.slice a n cap] w fun e w' => e = .returned (.bool true) ∧ Below w.heap.size w w' := by
  have t : decide ((100 : Int) < (n : Int)) = false := decide_eq_false (by omega)
  have q1 := eql_err p
  have HR := Lib.hid h
  have HGd := Lib.hid hgood
  have HBad := Lib.hid hbad
  have hb2 : (decide (z j < 0) = true) ∨ (decide (z j < 0) = false ∧ decide (2048 < z j) = true) := by
    by_cases h : z j < 0
    · exact Or.inl (decide_eq_true h)
    · exact Or.inr ⟨decide_eq_false h, decide_eq_true (by omega)⟩
  have HB := Lib.hid hb2
  clear h hgood hbad hb2
  go_enter Tryd.func4, Tryd.ntmps4
  go_wp2_with fail
  refine (first_any w p E).mono ?_
  rintro e w1 ⟨rfl, b1⟩
  have HR1 := Lib.hid (rowZ_below HR.out b1)
  have E1 := E.below b1
  clear E HR t
  go_wp2_with fail
  refine (of_bad a n cap z j w1 HR1.out hj (by omega) HGd.out HBad.out p E1).mono ?_
  rintro e w2 ⟨rfl, d⟩
  have HR2 := Lib.hid (rowZ_below HR1.out (d.below _))
  have E2 := (E1.drawn d).1
  have B2 := b1.trans (d.below _)
  clear E1 HR1 d b1 HBad
  unfold Sent at E2
  have HE2 := Lib.hid E2
  clear E2
  go_wp2_with fail
  go_loopg [6] n (fun gh s6 wx => ∃ (k : Nat), gh = n - k ∧ k ≤ j ∧ s6 = .int .i64 (k : Int) ∧ w2 = wx)
  case atStart => exact ⟨0, rfl, by omega, rfl, rfl⟩
  case round =>
    obtain ⟨k, hg, hk, rfl, rfl⟩ := hrel
    have HG := Lib.hid hg
    clear hg
    have x1 : (k : Int) < (n : Int) := by omega
    have x0 : (0 : Int) ≤ (k : Int) := by omega
    obtain ⟨bb, off, rfl, c1, hb⟩ := HR2.out k (by omega)
    by_cases hlt : k < j
    · obtain ⟨g1, g2⟩ := HGd.out k hlt
      have t1 : decide (z k < 0) = false := decide_eq_false (by omega)
      have t2 : decide (2048 < z k) = false := decide_eq_false (by omega)
      clear hb g1 g2
      go_wp2_with fail
      go_roundg (n - (k + 1))
      case measure => have := HG.out; omega
      case rel => exact ⟨k + 1, rfl, by omega, by go_num, rfl⟩
    · obtain rfl : k = j := by omega
      have e2 := HE2.out
      clear hb
      rcases HB.out with t1 | ⟨t1, t2⟩
      all_goals
        go_wp2_with fail
        go_ret
        exact ⟨rfl, B2⟩
set_option maxRecDepth 100000 in
set_option maxHeartbeats 2000000 in
theorem good (a : Option Addr) (n cap : Nat) (es : List Nat) (w : World) (h : RowN w a n es) (hn : n ≤ 100) (hes : ∀ e ∈ es, e ≤ 2048) (p : Addr) (E : ErrAt w 2 p) :
    Calls Tryd.prog 4 #[.slice a n cap] w fun e w' => e = .returned (.bool true) ∧ Below w.heap.size w w' := by
  have t : decide ((100 : Int) < (n : Int)) = false := decide_eq_false (by omega)
  have HR := Lib.hid h
  have HE := Lib.hid hes
  have HX : Hid (xp es < room 300) := room_pow 300 (xp_most es 2048 (mostL_le hes)) (by decide)
  clear h hes
  go_enter Tryd.func4, Tryd.ntmps4
  go_wp2_with fail
  refine (first_any w p E).mono ?_
  rintro e w1 ⟨rfl, b1⟩
  have HR1 := Lib.hid (HR.out.below b1)
  clear E HR t
  go_wp2_with fail
  refine (of_any a n cap es w1 HR1.out (by omega) HE.out).mono ?_
  rintro e w2 ⟨a2, n2, c2, X, rfl, hX, bX, vX, b2⟩
  have hN := newV hX bX vX 300 HX.out
  have HR2 := Lib.hid (HR1.out.below b2)
  have B2 := b1.trans (b2.mono b1.size)
  clear HR1 b1 b2 hX bX vX
  go_wp2_with fail
  go_loopg [6] n (fun gh s6 wx => ∃ (k : Nat), gh = n - k ∧ k ≤ n ∧ s6 = .int .i64 (k : Int) ∧ w2 = wx)
  case atStart => exact ⟨0, rfl, by omega, rfl, rfl⟩
  case round =>
    obtain ⟨k, hg, hk, rfl, rfl⟩ := hrel
    have HG := Lib.hid hg
    clear hg
    by_cases hlt : k < n
    · have x1 : (k : Int) < (n : Int) := by omega
      have x0 : (0 : Int) ≤ (k : Int) := by omega
      obtain ⟨bb, off, rfl, c1, hb⟩ := HR2.out.row k hlt
      have hke : k < es.length := by have := HR2.out.hlen; omega
      have he : es.getD k 0 ≤ 2048 := by
        rw [List.getD_eq_getElem?_getD, List.getElem?_eq_getElem hke]
        exact HE.out _ (List.getElem_mem hke)
      generalize hq : es.getD k 0 = q at c1 he ⊢
      have t1 : decide ((q : Int) < 0) = false := decide_eq_false (by omega)
      have t2 : decide ((2048 : Int) < (q : Int)) = false := decide_eq_false (by omega)
      clear hb hke hq he
      go_wp2_with fail
      go_roundg (n - (k + 1))
      case measure => have := HG.out; omega
      case rel => exact ⟨k + 1, rfl, by omega, by go_num, rfl⟩
    · obtain rfl : k = n := by omega
      go_wp2_with fail
      refine (rofV a k cap es w2 HR2.out (by omega) HE.out).mono ?_
      rintro e w3 ⟨a3, n3, c3, rfl, hR, b3⟩
      have hN3 := hN.since b3
      have B3 := B2.trans (b3.mono B2.size)
      clear hN b3 B2
      go_wp2_with fail
      refine (sayV hN3 hR).mono ?_
      rintro e w4 ⟨rfl, rfl⟩
      clear hN3 hR
      go_wp2_with fail
      go_ret
      exact ⟨rfl, B3⟩
theorem walk (a0 : Option Addr) (len0 cap0 : Nat) (z0 : List Int) (W : World) (w0 : IsRow .i64 W a0 len0 cap0 z0) (h : LaidBinOf.Holds W) :
    Calls Tryd.prog 4 #[.slice a0 len0 cap0] W fun e w' => e = .returned (.bool true) ∧ Below W.heap.size W w' := by
  obtain ⟨f, ⟨E0, E1⟩, _⟩ := h
  have hz := row_z w0
  by_cases hn : len0 ≤ 100
  · by_cases hb : ∃ j, j < len0 ∧ (z0.getD j 0 < 0 ∨ 2048 < z0.getD j 0)
    · have key : ∀ m, (∃ j, j < m ∧ j < len0 ∧ (z0.getD j 0 < 0 ∨ 2048 < z0.getD j 0)) → ∃ j, j < len0 ∧ (z0.getD j 0 < 0 ∨ 2048 < z0.getD j 0) ∧ ∀ i, i < j → 0 ≤ z0.getD i 0 ∧ z0.getD i 0 ≤ 2048 := by
        intro m
        induction m with
        | zero => rintro ⟨j, h, _⟩; omega
        | succ m ih =>
          rintro ⟨j, h1, h2, h3⟩
          by_cases hx : ∃ i, i < m ∧ i < len0 ∧ (z0.getD i 0 < 0 ∨ 2048 < z0.getD i 0)
          · exact ih hx
          · refine ⟨j, h2, h3, fun i hi => ?_⟩
            have : ¬ (z0.getD i 0 < 0 ∨ 2048 < z0.getD i 0) := fun h => hx ⟨i, by omega, by omega, h⟩
            omega
      obtain ⟨j, h1, h2⟩ := hb
      obtain ⟨j, h1, h2, h3⟩ := key (j + 1) ⟨j, by omega, h1, h2⟩
      exact bad a0 len0 cap0 (fun i => z0.getD i 0) j W hz h1 hn h3 h2 _ E0
    · have hall : ∀ i, i < len0 → 0 ≤ z0.getD i 0 ∧ z0.getD i 0 ≤ 2048 := fun i hi => by
        have : ¬ (z0.getD i 0 < 0 ∨ 2048 < z0.getD i 0) := fun h => hb ⟨i, hi, h⟩
        omega
      refine good a0 len0 cap0 ((List.range len0).map fun i => (z0.getD i 0).toNat) W ⟨by simp, fun i hi => ?_⟩ hn (fun e he => ?_) _ E0
      · obtain ⟨bb, off, e, hc, hb⟩ := hz i hi
        refine ⟨bb, off, e, ?_, hb⟩
        rw [hc]
        congr 2
        have := hall i hi
        rw [List.getD_eq_getElem?_getD, List.getElem?_map, List.getElem?_range hi]
        show z0.getD i 0 = (((z0.getD i 0).toNat : Nat) : Int)
        omega
      · obtain ⟨i, hi, rfl⟩ := List.mem_map.1 he
        have := hall i (List.mem_range.1 hi)
        omega
  · exact long a0 len0 cap0 W _ E0 (by omega)
end Go.Proofs.YtcdhjmmkeiomaaaDoor.walkBinOf
