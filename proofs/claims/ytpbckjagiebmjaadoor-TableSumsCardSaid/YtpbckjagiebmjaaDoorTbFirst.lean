/- The examples of chapter 20, as the statements ask them first of all. By the verifier of shale. -/
import Derived.Test.YtpbckjagiebmjaaDoorTbNewW
import Derived.Test.YtpbckjagiebmjaaDoorTbNo
namespace Go.Proofs.YtpbckjagiebmjaaDoor.Tb
open Go Go.RowKit
set_option linter.unusedVariables false
set_option linter.unusedSimpArgs false
theorem SetAt.bel {w w' : World} {base tb mb ob B P cO : Nat} {kb : Nat → Nat} {kf kf' : Nat → Nat → Int} {m m' : Int → Option Sl} {cnt nb cnt' nb' : Nat} (T : TabAt w base tb mb ob B P cO kb kf m cnt nb) (h : SetAt w base tb mb ob B P cO kb kf' m' cnt' nb' w') : Below base w w' := by
  refine { os := h.2.os, tape := h.2.tape, output := h.2.output, size := h.2.size, block := fun k hk => h.2.same k (by have := T.lt; have := T.apart.1; omega) fun hm => ?_ }
  rcases List.mem_cons.1 hm with rfl | hm
  · have := T.apart.2.1; omega
  · obtain ⟨c, hc, rfl⟩ := List.mem_map.1 hm
    have := (T.apart.2.2.2.2.2.2 c (List.mem_range.1 hc)).1
    omega
theorem belB {w X Y : World} {base : Nat} (hbase : base = w.heap.size) (B : Below base w X) (b : Below X.heap.size X Y) : Below base w Y := B.trans (b.mono (by rw [hbase]; exact B.size))
abbrev kf0 : Nat → Nat → Int := fun _ _ => -1
abbrev m0 : Int → Option Sl := fun _ => none
abbrev kf1 : Nat → Nat → Int := kfS kf0 0 1 5
abbrev s1 : Sl := ⟨5, 0, 1, 0, 0, 0, 0, 0, 0⟩
abbrev m1 : Int → Option Sl := mS m0 5 s1
abbrev kf2 : Nat → Nat → Int := kfS (kfD kf1 0 1) 1 1 5
abbrev s2 : Sl := ⟨5, 1, 1, 0, 0, 0, 0, 0, 0⟩
abbrev m2 : Int → Option Sl := mS (mD m1 5) 5 s2
abbrev meZ : Value := .agg #[.int .i64 0, .int .i64 0, .int .i64 0, .int .i64 0, .int .i64 0, .int .i64 0]
set_option maxRecDepth 100000 in
set_option maxHeartbeats 4000000 in
theorem first20_any (w : World) {yo yn : Addr} (EO : ErrAt w 1 yo) (EN : ErrAt w 2 yn) :
    Calls Tryd.prog 6 #[] w fun e w' => e = .returned (.bool true) ∧ Below w.heap.size w w' := by
  obtain ⟨base, hbase⟩ : ∃ base, base = w.heap.size := ⟨_, rfl⟩
  have HBS := Lib.hid hbase
  have HE : Hid (∀ W, Below base w W → ErrAt W 1 yo ∧ ErrAt W 2 yn) := fun W b => by rw [hbase] at b; exact ⟨EO.below b, EN.below b⟩
  have HNew : Hid (Calls Tryd.prog 7 #[.int .i64 4, .int .i64 8] w (MadeT w 4 8)) := new_any (B := 4) (P := 8) (by decide) (by decide) (by decide) (by decide) w
  rw [← hbase]
  clear EO EN hbase
  go_enter Tryd.func6, Tryd.ntmps6
  go_wp2_with fail
  refine HNew.out.mono ?_
  rintro e w1 ⟨tb, mb, ob, cO, kb, rfl, T1, b1⟩
  rw [← HBS.out] at T1 b1
  have HT1 := Lib.hid (And.intro T1 b1)
  have h1 : Hid (Calls Tryd.prog 10 #[.pointer (some ⟨tb, 0, none⟩), .int .i64 5, .agg #[.int .i64 0, .int .i64 1], meZ] w1 fun e w' => e = .returned (.tuple #[.agg #[.int .i64 0, .int .i64 0], .bool false, .nilIface]) ∧ SetAt w1 base tb mb ob 4 8 cO kb kf1 m1 1 1 w') := set_new (b := 0) (p := 1) T1 (by decide) (by decide) (by decide) (by decide) (by decide) 0 0 0 0 0 0 rfl rfl
  clear T1 b1 HNew
  go_wp2_with fail
  refine h1.out.mono ?_
  rintro e w2 ⟨rfl, S2⟩
  clear h1
  go_wp2_with fail
  generalize hw : w2.alloc (.cells #[.int .i64 0, .int .i64 0] 24 (0, 0)) = w3
  obtain ⟨_, b3⟩ := newPl w2 w3 0 0 hw
  clear hw
  have HT3 : Hid (TabAt w3 base tb mb ob 4 8 cO kb kf1 m1 1 1 ∧ Below base w w3) := ⟨S2.1.below b3, belB HBS.out (HT1.out.2.trans (SetAt.bel HT1.out.1 S2)) b3⟩
  obtain ⟨z3, hz3⟩ : ∃ z, z = w2.heap.size := ⟨_, rfl⟩
  rw [← hz3]
  have h2 : Hid (Calls Tryd.prog 10 #[.pointer (some ⟨tb, 0, none⟩), .int .i64 5, .agg #[.int .i64 1, .int .i64 1], meZ] w3 fun e w' => e = .returned (.tuple #[.agg #[.int .i64 0, .int .i64 1], .bool true, .nilIface]) ∧ SetAt w3 base tb mb ob 4 8 cO kb kf2 m2 1 2 w') := set_hadF (b := 1) (p := 1) (s := s1) HT3.out.1 (by decide) (by decide) (by decide) (by decide) (by decide) 0 0 0 0 0 0 (by simp [mS]) (by decide)
  clear S2 b3 hz3 HT1
  refine h2.out.mono ?_
  rintro e w4 ⟨rfl, S4⟩
  clear h2
  go_wp2_with fail
  generalize hw : w4.alloc (.cells #[.int .i64 0, .int .i64 1] 24 (0, 0)) = w5
  obtain ⟨K5, b5⟩ := newPl w4 w5 0 1 hw
  clear hw
  obtain ⟨z5, hz5⟩ : ∃ z, z = w4.heap.size := ⟨_, rfl⟩
  rw [← hz5] at K5 ⊢
  have HT5 : Hid (TabAt w5 base tb mb ob 4 8 cO kb kf2 m2 1 2 ∧ Below base w w5 ∧ w5.heap[z5]? = some (.cells #[.int .i64 0, .int .i64 1] 24 (0, 0))) := ⟨S4.1.below b5, belB HBS.out (HT3.out.2.trans (SetAt.bel HT3.out.1 S4)) b5, K5⟩
  have h3 : Hid (Calls Tryd.prog 10 #[.pointer (some ⟨tb, 0, none⟩), .int .i64 6, .agg #[.int .i64 1, .int .i64 1], meZ] w5 fun e w' => e = .returned (.tuple #[.agg #[.int .i64 0, .int .i64 0], .bool false, errOf yo]) ∧ Below w5.heap.size w5 w') := set_ord (b := 1) (p := 1) HT5.out.1 (by decide) (by decide) (by decide) (by decide) (by decide) (by decide) 0 0 0 0 0 0 (HE.out w5 HT5.out.2.1).1
  clear S4 b5 hz5 HT3 K5
  refine h3.out.mono ?_
  rintro e w6 ⟨rfl, b6⟩
  clear h3
  go_wp2_with fail
  generalize hw : w6.alloc (.cells #[.int .i64 0, .int .i64 0] 24 (0, 0)) = w7
  obtain ⟨_, b7⟩ := newPl w6 w7 0 0 hw
  clear hw
  have b57 := b6.trans (b7.mono b6.size)
  have HT7 : Hid (TabAt w7 base tb mb ob 4 8 cO kb kf2 m2 1 2 ∧ Below base w w7 ∧ w7.heap[z5]? = some (.cells #[.int .i64 0, .int .i64 1] 24 (0, 0))) := ⟨HT5.out.1.below b57, belB HBS.out HT5.out.2.1 b57, (b57.block z5 (lt_of_block HT5.out.2.2)).trans HT5.out.2.2⟩
  obtain ⟨z6, hz6⟩ : ∃ z, z = w6.heap.size := ⟨_, rfl⟩
  rw [← hz6]
  have h4 : Hid (Calls Tryd.prog 10 #[.pointer (some ⟨tb, 0, none⟩), .int .i64 6, .agg #[.int .i64 4, .int .i64 0], meZ] w7 fun e w' => e = .returned (.tuple #[.agg #[.int .i64 0, .int .i64 0], .bool false, errOf yn]) ∧ Below w7.heap.size w7 w') := set_num (b := 4) (p := 0) HT7.out.1 (by decide) (by decide) (by decide) 0 0 0 0 0 0 (HE.out w7 HT7.out.2.1).2
  clear b6 b7 b57 hz6 HT5
  refine h4.out.mono ?_
  rintro e w8 ⟨rfl, b8⟩
  clear h4
  go_wp2_with fail
  generalize hw : w8.alloc (.cells #[.int .i64 0, .int .i64 0] 24 (0, 0)) = w9
  obtain ⟨_, b9⟩ := newPl w8 w9 0 0 hw
  clear hw
  have b79 := b8.trans (b9.mono b8.size)
  have HT9 : Hid (TabAt w9 base tb mb ob 4 8 cO kb kf2 m2 1 2 ∧ Below base w w9 ∧ w9.heap[z5]? = some (.cells #[.int .i64 0, .int .i64 1] 24 (0, 0))) := ⟨HT7.out.1.below b79, belB HBS.out HT7.out.2.1 b79, (b79.block z5 (lt_of_block HT7.out.2.2)).trans HT7.out.2.2⟩
  obtain ⟨z8, hz8⟩ : ∃ z, z = w8.heap.size := ⟨_, rfl⟩
  rw [← hz8]
  have h5 : Hid (Calls Tryd.prog 15 #[.pointer (some ⟨tb, 0, none⟩), .agg #[.int .i64 0, .int .i64 1]] w9 fun e w' => e = .returned (.tuple #[.int .i64 0, .bool false]) ∧ Below w9.heap.size w9 w') := at_no (b := 0) (p := 1) HT9.out.1 (by decide) (by decide) (by decide)
  clear b8 b9 b79 hz8 HT7
  refine h5.out.mono ?_
  rintro e wA ⟨rfl, bA⟩
  clear h5
  have HTA : Hid (TabAt wA base tb mb ob 4 8 cO kb kf2 m2 1 2 ∧ Below base w wA) := ⟨HT9.out.1.below bA, belB HBS.out HT9.out.2.1 bA⟩
  have KA := (bA.block z5 (lt_of_block HT9.out.2.2)).trans HT9.out.2.2
  obtain ⟨x0, x1, _⟩ := pl_cells KA
  have q1 : wA.cell? ⟨1, 0, none⟩ = some (errOf yo) := (HE.out wA HTA.out.2).1.1
  have q2 : wA.cell? ⟨2, 0, none⟩ = some (errOf yn) := (HE.out wA HTA.out.2).2.1
  have eq1 : ∀ W, (binOp .eql 28 (errOf yo) (errOf yo)).run Tryd.prog W = .ok (.bool true) W := fun W => eql_err yo W
  have eq2 : ∀ W, (binOp .eql 28 (errOf yn) (errOf yn)).run Tryd.prog W = .ok (.bool true) W := fun W => eql_err yn W
  have HL0 : Hid (Calls Tryd.prog 19 #[.pointer (some ⟨tb, 0, none⟩), .int .i64 0] wA fun e w' => e = .returned (.int .i64 0) ∧ wA = w') := live_any (b := 0) HTA.out.1 (by decide)
  have HL1 : Hid (Calls Tryd.prog 19 #[.pointer (some ⟨tb, 0, none⟩), .int .i64 1] wA fun e w' => e = .returned (.int .i64 1) ∧ wA = w') := live_any (b := 1) HTA.out.1 (by decide)
  clear KA bA HT9
  go_wp2_with (first
    | (go_at_call 19; (with_reducible refine Calls.mono HL0.out ?_); rintro e' w' ⟨rfl, rfl⟩)
    | (go_at_call 19; (with_reducible refine Calls.mono HL1.out ?_); rintro e' w' ⟨rfl, rfl⟩))
  go_ret
  exact ⟨rfl, HTA.out.2⟩
end Go.Proofs.YtpbckjagiebmjaaDoor.Tb
