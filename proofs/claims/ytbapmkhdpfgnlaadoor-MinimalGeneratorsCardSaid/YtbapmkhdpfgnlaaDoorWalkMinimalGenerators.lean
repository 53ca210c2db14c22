/- The walk over MinimalGenerators. By the verifier of shale. -/
import Derived.Test.YtbapmkhdpfgnlaaDoorGreat1
import Derived.Test.YtbapmkhdpfgnlaaDoorGreat2
import Derived.Test.YtbapmkhdpfgnlaaDoorGreat3
import Derived.Test.YtbapmkhdpfgnlaaDoorGreat4
import Derived.Test.YtbapmkhdpfgnlaaDoorGreat5
import Derived.Test.YtbapmkhdpfgnlaaDoorGreat6
import Derived.Test.YtbapmkhdpfgnlaaDoorGreat7
import Derived.Test.YtbapmkhdpfgnlaaDoorLaidMinimalGenerators
namespace Go.Proofs.YtbapmkhdpfgnlaaDoor.walkMinimalGenerators
open Go Go.RowKit Cos Bin
set_option linter.unusedVariables false
/-- an error and its number. -/
def SeeV (f : Nat → Addr) (v : Value) (c : Int) : Prop := (v = .nilIface ∧ c = 0) ∨ ∃ i, i < 19 ∧ v = errOf (f i) ∧ c = 101 + (i : Int)
theorem is_v {w : World} {f : Nat → Addr} (h : AllErrs w f) {v : Value} {c : Int} (s : SeeV f v c) : Calls Tryd.prog 25 #[v, .int .i64 c] w fun x w' => x = .returned (.bool true) ∧ Below w.heap.size w w' := by
  rcases s with ⟨rfl, rfl⟩ | ⟨i, hi, rfl, hc⟩
  · exact see_nil w
  · exact see_err w f h i hi c hc
theorem least_both (a t : Int) (f : Nat → Addr) : ∃ (d : Int) (v : Value) (c : Int), SeeV f v c ∧
    (∀ w, AllErrs w f → Calls Tryd.prog 23 #[.int .i64 a, .int .i64 t] w fun e w' => e = .returned (.tuple #[.int .i64 d, v]) ∧ Below w.heap.size w w') ∧
    (∀ w, Calls Tryd.prog 24 #[.int .i64 a, .int .i64 t] w fun e w' => (∃ x n k, e = .returned (.tuple #[.int .i64 d, .slice x n k, .int .i64 c])) ∧ Below w.heap.size w w') := by
  by_cases ha : a < 3 ∨ 14 < a
  · refine ⟨0, errOf (f 0), 101, Or.inr ⟨0, by decide, rfl, rfl⟩, fun w h => ?_, fun w => ?_⟩
    · refine (least_bad a t w (f 0) (needed_m a t ha w (f 0) h.1.1)).mono ?_
      rintro e w' ⟨rfl, d⟩
      exact ⟨rfl, d.below _⟩
    · refine (rleast_m a t ha w).mono ?_
      rintro e w' ⟨rfl, rfl⟩
      exact ⟨⟨_, _, _, rfl⟩, Below.refl _ _⟩
  · by_cases ht : t < 1 ∨ 40 < t
    · refine ⟨0, errOf (f 1), 102, Or.inr ⟨1, by decide, rfl, rfl⟩, fun w h => ?_, fun w => ?_⟩
      · refine (least_bad a t w (f 1) (needed_t a t (by omega) ht w (f 1) h.1.2.1)).mono ?_
        rintro e w' ⟨rfl, d⟩
        exact ⟨rfl, d.below _⟩
      · refine (rleast_t a t (by omega) ht w).mono ?_
        rintro e w' ⟨rfl, rfl⟩
        exact ⟨⟨_, _, _, rfl⟩, Below.refl _ _⟩
    · obtain ⟨m, rfl⟩ : ∃ m : Nat, a = (m : Int) := ⟨a.toNat, by omega⟩
      obtain ⟨t, rfl⟩ : ∃ k : Nat, t = (k : Int) := ⟨t.toNat, by omega⟩
      by_cases hd : dgs m (leads m 1 2 t) < sz m
      · refine ⟨((dgs m (leads m 1 2 t) : Nat) : Int), .nilIface, 0, Or.inl ⟨rfl, rfl⟩, fun w h => ?_, fun w => ?_⟩
        · refine (least_any m t (by omega) (by omega) (by omega) (by omega) w (f 4) h.1.2.2.2.2.1).mono ?_
          rintro e w' (⟨_, rfl, b⟩ | ⟨h2, _⟩)
          · exact ⟨rfl, b⟩
          · exact absurd hd (by omega)
        · refine (rleast_any m t (by omega) (by omega) (by omega) (by omega) w).mono ?_
          rintro e w' (⟨_, x, n, k, rfl, _, b⟩ | ⟨h2, _⟩)
          · exact ⟨⟨_, _, _, rfl⟩, b⟩
          · exact absurd hd (by omega)
      · refine ⟨0, errOf (f 4), 105, Or.inr ⟨4, by decide, rfl, rfl⟩, fun w h => ?_, fun w => ?_⟩
        · refine (least_any m t (by omega) (by omega) (by omega) (by omega) w (f 4) h.1.2.2.2.2.1).mono ?_
          rintro e w' (⟨h2, _⟩ | ⟨_, rfl, b⟩)
          · exact absurd h2 hd
          · exact ⟨rfl, b⟩
        · refine (rleast_any m t (by omega) (by omega) (by omega) (by omega) w).mono ?_
          rintro e w' (⟨h2, _⟩ | ⟨_, rfl, b⟩)
          · exact absurd h2 hd
          · exact ⟨⟨_, _, _, rfl⟩, b⟩
set_option maxHeartbeats 400000 in
theorem rgenerator_t (m : Nat) (t : Int) (hm : 3 ≤ m) (hm2 : m ≤ 14) (ht : t < 1 ∨ 40 < t) (w : World) :
    Calls Tryd.prog 27 #[.int .i64 (m : Int), .int .i64 t] w fun e w' => e = .returned (.tuple #[.slice none 0 0, .int .i64 102]) ∧ w = w' := by
  go_enter Tryd.func27, Tryd.ntmps27
  go_wp2_with fail
  refine (rleast_t (m : Int) t ⟨by omega, by omega⟩ ht w).mono ?_
  rintro e w1 ⟨rfl, rfl⟩
  go_wp2_with fail
  go_ret2
  exact ⟨rfl, rfl⟩
theorem gen_both (m : Nat) [M : Pl.Mid m] (t : Int) (f : Nat → Addr) : ∃ (g : Nat) (v : Value) (c : Int), SeeV f v c ∧
    (∀ (w : World) (s be ce bl : Nat), Fld.FldAt m w s be ce bl → AllErrs w f → Calls Tryd.prog 26 #[.pointer (some ⟨s, 0, none⟩), .int .i64 t] w fun e w' => (∃ x n k, e = .returned (.tuple #[.slice x n k, v]) ∧ NewV w w' 81 x n k g) ∧ Below w.heap.size w w') ∧
    (∀ w, Calls Tryd.prog 27 #[.int .i64 (m : Int), .int .i64 t] w fun e w' => (∃ x n k, e = .returned (.tuple #[.slice x n k, .int .i64 c]) ∧ NewV w w' 81 x n k g) ∧ Below w.heap.size w w') := by
  have hm := M.lo
  have hm2 := M.hi
  have nilv : ∀ w w' : World, NewV w w' 81 none 0 0 0 := fun w w' => ⟨[], ⟨rfl, Nat.le_refl _, by decide, Or.inl ⟨rfl, rfl, rfl⟩⟩, bare_nil, rfl, Nat.zero_le _⟩
  by_cases ht : t < 1 ∨ 40 < t
  · refine ⟨0, errOf (f 1), 102, Or.inr ⟨1, by decide, rfl, rfl⟩, fun w s be ce bl F h => ?_, fun w => ?_⟩
    · refine (generator_t (m := m) t ht w F (f 1) h.1.2.1).mono ?_
      rintro e w' ⟨rfl, d⟩
      exact ⟨⟨_, _, _, rfl, nilv _ _⟩, d.below _⟩
    · refine (rgenerator_t m t hm hm2 ht w).mono ?_
      rintro e w' ⟨rfl, rfl⟩
      exact ⟨⟨_, _, _, rfl, nilv _ _⟩, Below.refl _ _⟩
  · obtain ⟨t, rfl⟩ : ∃ k : Nat, t = (k : Int) := ⟨t.toNat, by omega⟩
    by_cases hd : dgs m (leads m 1 2 t) < sz m
    · refine ⟨gpr m (leads m 1 2 t), .nilIface, 0, Or.inl ⟨rfl, rfl⟩, fun w s be ce bl F h => ?_, fun w => ?_⟩
      · refine (generator_any (m := m) t (by omega) (by omega) w F (f 4) h.1.2.2.2.2.1).mono ?_
        rintro e w' (⟨_, x, n, k, rfl, h3, b⟩ | ⟨h2, _⟩)
        · exact ⟨⟨_, _, _, rfl, h3⟩, b⟩
        · exact absurd hd (by omega)
      · refine (rgenerator_any (m := m) t (by omega) (by omega) w).mono ?_
        rintro e w' (⟨_, x, n, k, rfl, h3, b⟩ | ⟨h2, _⟩)
        · exact ⟨⟨_, _, _, rfl, h3⟩, b⟩
        · exact absurd hd (by omega)
    · refine ⟨0, errOf (f 4), 105, Or.inr ⟨4, by decide, rfl, rfl⟩, fun w s be ce bl F h => ?_, fun w => ?_⟩
      · refine (generator_any (m := m) t (by omega) (by omega) w F (f 4) h.1.2.2.2.2.1).mono ?_
        rintro e w' (⟨h2, _⟩ | ⟨_, rfl, b⟩)
        · exact absurd h2 hd
        · exact ⟨⟨_, _, _, rfl, nilv _ _⟩, b⟩
      · refine (rgenerator_any (m := m) t (by omega) (by omega) w).mono ?_
        rintro e w' (⟨h2, _⟩ | ⟨_, rfl, b⟩)
        · exact absurd h2 hd
        · exact ⟨⟨_, _, _, rfl, nilv _ _⟩, b⟩
set_option maxRecDepth 100000 in
set_option maxHeartbeats 2000000 in
theorem core (x0 x1 : Int) (w : World) (f : Nat → Addr) (E : AllErrs w f) :
    Calls Tryd.prog 5 #[.int .i64 x0, .int .i64 x1] w fun e w' => e = .returned (.bool true) ∧ Below w.heap.size w w' := by
  have hm3 : 3 ≤ mk7 x0 := Pl.Mid.lo
  obtain ⟨d, v, c, S1, L1, L2⟩ := least_both x0 x1 f
  obtain ⟨g, v2, c2, S2, G1, G2⟩ := gen_both (mk7 x0) x1 f
  go_enter Tryd.func5, Tryd.ntmps5
  go_wp2_with fail
  refine (first_any w (f 4) E.1.2.2.2.2.1).mono ?_
  rintro e w1 ⟨rfl, B⟩
  replace E := E.below B
  go_wp2_with fail
  refine (L1 w1 E).mono ?_
  rintro e w2 ⟨rfl, b⟩
  replace B := B.trans (b.mono B.size)
  replace E := E.below b
  clear b L1
  go_wp2_with fail
  refine (L2 w2).mono ?_
  rintro e w3 ⟨⟨x, n, k, rfl⟩, b⟩
  replace B := B.trans (b.mono B.size)
  replace E := E.below b
  clear b L2
  go_wp2_with fail
  refine (is_v E S1).mono ?_
  rintro e w4 ⟨rfl, b⟩
  replace B := B.trans (b.mono B.size)
  replace E := E.below b
  clear b S1
  go_wp2_with fail
  refine (made_any x0 w4).mono ?_
  rintro e w5 ⟨s, be, ce, bl, rfl, F, b⟩
  replace B := B.trans (b.mono B.size)
  replace E := E.below b
  clear b
  go_wp2_with fail
  refine (G1 w5 s be ce bl F E).mono ?_
  rintro e w6 ⟨⟨x6, n6, k6, rfl, h6⟩, b⟩
  replace B := B.trans (b.mono B.size)
  replace E := E.below b
  clear b G1 F
  go_wp2_with fail
  refine (G2 w6).mono ?_
  rintro e w7 ⟨⟨x7, n7, k7, rfl, h7⟩, b⟩
  replace B := B.trans (b.mono B.size)
  replace E := E.below b
  replace h6 := newV_since h6 b
  clear b G2
  go_wp2_with fail
  refine (sameNV h6 h7 rfl).mono ?_
  rintro e w' ⟨rfl, rfl⟩
  clear h6 h7
  go_wp2_with fail
  refine (is_v E S2).mono ?_
  rintro e w8 ⟨rfl, b⟩
  replace B := B.trans (b.mono B.size)
  clear b
  go_wp2_with fail
  go_ret
  exact ⟨rfl, B⟩
theorem walk (x0 x1 : Int) (W : World) (w0 : (Lit.int .i64 x0).wf = true) (w1 : (Lit.int .i64 x1).wf = true) (h : LaidMinimalGenerators.Holds W) :
    Calls Tryd.prog 5 #[.int .i64 x0, .int .i64 x1] W fun e w' => e = .returned (.bool true) ∧ Below W.heap.size W w' := by
  obtain ⟨f, hE⟩ := h
  have HE : AllErrs W f := hE
  exact core x0 x1 W f HE
end Go.Proofs.YtbapmkhdpfgnlaaDoor.walkMinimalGenerators
