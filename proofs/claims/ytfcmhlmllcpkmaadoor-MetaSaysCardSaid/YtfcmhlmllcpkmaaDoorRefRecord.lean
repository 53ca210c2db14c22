/- shaleref13's Record: a record as bytes. By the verifier of shale. -/
import Derived.Test.YtfcmhlmllcpkmaaDoorRefRec
import Derived.Deep.RegionHeld3
namespace Go.Proofs.YtfcmhlmllcpkmaaDoor.Meta
open Go Go.RowKit Crc
set_option linter.unusedVariables false
/-- bytes in new memory. -/
abbrev NewBytes (l : List (BitVec 8)) (w : World) (e : Ending) (w' : World) : Prop := ∃ v', e = .returned v' ∧ IsBytes w' v' l ∧ Below w.heap.size w w'
set_option maxRecDepth 100000 in
set_option maxHeartbeats 4000000 in
theorem record_any (m : M6) (d : List (BitVec 8)) (v : Value) (w : World) (hv : Arg8 w v d) :
    Calls Tryd.prog 16 #[metaV m, v] w (NewBytes (rec32 m d) w) := by
  have HL := Lib.hid (And.intro (rec_new w m 23) ((Below.refl w.heap.size w).alloc (Nat.le_refl _) (.cells #[.int .i64 (fld m 0), .int .i64 (fld m 1), .int .i64 (fld m 2), .int .i64 (fld m 3), .int .i64 (fld m 4), .int .i64 (fld m 5)] 23)))
  have HV := Lib.hid hv
  clear hv
  go_enter Tryd.func16, Tryd.ntmps16
  go_upto_region 1 with (fail)
  obtain ⟨h1, B⟩ := HL.out
  clear HL
  generalize w.alloc (.cells #[.int .i64 (fld m 0), .int .i64 (fld m 1), .int .i64 (fld m 2), .int .i64 (fld m 3), .int .i64 (fld m 4), .int .i64 (fld m 5)] 23) = w1 at h1 B ⊢
  have c0 := h1.cell 0 (by omega); have c1 := h1.cell 1 (by omega); have c2 := h1.cell 2 (by omega)
  have hs : w1.heap.size ≤ w1.drew.heap.size := Nat.le_refl _
  have R1 : Hid (∀ W, Below w1.heap.size w1 W → RecAt W w.heap.size m 23) := fun W b => h1.below b h1.lt
  have bw : Below w1.heap.size w1 w1 := Below.refl _ _
  have d0 : w1.drew.cell? ⟨w.heap.size, 0, none⟩ = some (.int .i64 (fld m 0)) := c0
  have d1 : w1.drew.cell? ⟨w.heap.size, 1, none⟩ = some (.int .i64 (fld m 1)) := c1
  have d2 : w1.drew.cell? ⟨w.heap.size, 2, none⟩ = some (.int .i64 (fld m 2)) := c2
  go_region_held3 (fun w' => w'.cell? ⟨w.heap.size, 0, none⟩ = some (.int .i64 (fld m 0)) ∧ w'.cell? ⟨w.heap.size, 1, none⟩ = some (.int .i64 (fld m 1)) ∧ w'.cell? ⟨w.heap.size, 2, none⟩ = some (.int .i64 (fld m 2))) (first | assumption | exact ⟨by assumption, by assumption, by assumption⟩)
    (first
      | (go_at_call 28; with_reducible refine Calls.mono (four_any [] _ _ _ w1.heap.size _ (Own8.nil _ _) hs (Nat.zero_le _)) ?_; rintro e w' ⟨v1, rfl, o1, b1⟩; replace bw := bw.drew.trans b1; have hs' := bw.size; have rr := R1.out _ bw; have k0 := rr.cell 0 (by decide); have k1 := rr.cell 1 (by decide); have k2 := rr.cell 2 (by decide); clear rr)
      | (go_at_call 28; with_reducible refine Calls.mono (four_any _ _ _ _ w1.heap.size _ (by assumption) hs' (by decide)) ?_; rintro e w' ⟨v2, rfl, o2, b2⟩; replace bw := bw.trans b2; replace hs' := bw.size; have rr := R1.out _ bw; replace k0 := rr.cell 0 (by decide); replace k1 := rr.cell 1 (by decide); replace k2 := rr.cell 2 (by decide); clear rr))
  have O3 : Own8 w' w1.heap.size v2 12 (flds m 3) := o2
  clear o1 o2 k0 k1 k2 c0 c1 c2 d0 d1 d2 hs
  generalize w' = w2 at O3 bw hs' ⊢
  have rr := R1.out _ bw
  have c3 := rr.cell 3 (by omega); have c4 := rr.cell 4 (by omega); have c5 := rr.cell 5 (by omega)
  have d3 : w2.drew.cell? ⟨w.heap.size, 3, none⟩ = some (.int .i64 (fld m 3)) := c3
  have d4 : w2.drew.cell? ⟨w.heap.size, 4, none⟩ = some (.int .i64 (fld m 4)) := c4
  have d5 : w2.drew.cell? ⟨w.heap.size, 5, none⟩ = some (.int .i64 (fld m 5)) := c5
  have O3d : Own8 w2.drew w1.heap.size v2 12 (flds m 3) := O3
  have hsd : w1.heap.size ≤ w2.drew.heap.size := hs'
  replace bw := bw.drew
  clear rr O3 hs'
  go_wp2_with fail
  go_region_held3 (fun w' => w'.cell? ⟨w.heap.size, 3, none⟩ = some (.int .i64 (fld m 3)) ∧ w'.cell? ⟨w.heap.size, 4, none⟩ = some (.int .i64 (fld m 4)) ∧ w'.cell? ⟨w.heap.size, 5, none⟩ = some (.int .i64 (fld m 5))) (first | assumption | exact ⟨by assumption, by assumption, by assumption⟩)
    (first
      | (go_at_call 28; with_reducible refine Calls.mono (four_any _ _ _ _ w1.heap.size _ (by assumption) hsd (by decide)) ?_; rintro e w' ⟨v3, rfl, o3, b3⟩; replace bw := bw.trans b3; replace hsd := bw.size; have rr := R1.out _ bw; have k3 := rr.cell 3 (by decide); have k4 := rr.cell 4 (by decide); have k5 := rr.cell 5 (by decide); clear rr))
  have O6 : Own8 w' w1.heap.size v3 24 (flds m 6) := o3
  clear o3 b3 k3 k4 k5 c3 c4 c5 d3 d4 d5 O3d
  generalize w' = w3 at O6 bw hsd ⊢
  have B3 := B.trans (bw.mono B.size)
  go_wp2_with fail
  refine (rof_any d _ w3 (HV.out.since (Nat.le_refl _) B3)).mono ?_
  rintro e w4 ⟨rfl, rfl⟩
  go_wp2_with fail
  refine (four_any (flds m 6) _ _ 24 w1.heap.size w3 O6 hsd (by decide)).mono ?_
  rintro e w4 ⟨v4, rfl, o4, b4⟩
  have O7 : Own8 w4 w1.heap.size v4 28 (body m d) := o4
  have bw4 := bw.trans b4
  clear o4 b4 O6
  go_wp2_with fail
  refine (rof_any (body m d) _ w4 ⟨O7.bytes, by rw [body_length]; decide⟩).mono ?_
  rintro e w5 ⟨rfl, rfl⟩
  go_wp2_with fail
  refine (four_any (body m d) _ _ 28 w1.heap.size w4 O7 bw4.size (by decide)).mono ?_
  rintro e w6 ⟨v6, rfl, o6, b6⟩
  have O8 : Own8 w6 w1.heap.size v6 32 (rec32 m d) := o6
  clear o6
  go_wp2_with fail
  go_ret
  exact ⟨v6, rfl, O8.bytes, B.trans ((bw4.trans b6).mono B.size)⟩
end Go.Proofs.YtfcmhlmllcpkmaaDoor.Meta
