/- The examples of chapter 11, as the statements ask them first of all. By the verifier of shale. -/
import Derived.Test.YtggiknecfiaokaaScrWalks
namespace Go.Proofs.Ytggiknecfiaokaa.Scr
open Go Go.RowKit Bits16
set_option linter.unusedVariables false
attribute [local go_sem] hxor hor hand1 Bits32.bxor

/-- what Seed answers. -/
def seedOf (b p : Int) : Int := (1 + win b * 257 + win p * 31) % 65536
set_option maxRecDepth 100000 in
set_option maxHeartbeats 1000000 in
theorem seed_any (b p : Int) (w : World) :
    Calls Try.prog 17 #[.agg #[.int .i64 b, .int .i64 p]] w fun e w' => e = .returned (.int .i64 (seedOf b p)) ∧ Below w.heap.size w w' := by
  have j1 := within_any b
  have j2 := within_any p
  have a1 := win_lo b
  have a2 := win_hi b
  have a3 := win_lo p
  have a4 := win_hi p
  have e1 : IntKind.i64.wrap (win b * 257) = win b * 257 := IntWalk.i64_in _ (by omega)
  have e2 : IntKind.i64.wrap (1 + win b * 257) = 1 + win b * 257 := IntWalk.i64_in _ (by omega)
  have e3 : IntKind.i64.wrap (win p * 31) = win p * 31 := IntWalk.i64_in _ (by omega)
  have e4 : IntKind.i64.wrap (1 + win b * 257 + win p * 31) = 1 + win b * 257 + win p * 31 := IntWalk.i64_in _ (by omega)
  have e5 : (1 + win b * 257 + win p * 31).tmod 65536 = seedOf b p := Int.tmod_eq_emod_of_nonneg (by omega)
  have c1 : (w.alloc (.cells #[.int .i64 b, .int .i64 p] 24)).cell? ⟨w.heap.size, 0, none⟩ = some (.int .i64 b) := by
    unfold World.cell?
    simp only
    rw [heap_alloc_new]
    rfl
  have c2 : (w.alloc (.cells #[.int .i64 b, .int .i64 p] 24)).cell? ⟨w.heap.size, 1, none⟩ = some (.int .i64 p) := by
    unfold World.cell?
    simp only
    rw [heap_alloc_new]
    rfl
  have hb : Below w.heap.size w (w.alloc (.cells #[.int .i64 b, .int .i64 p] 24)) := (Below.refl _ _).alloc (Nat.le_refl _) _
  go_enter Try.func17, Try.ntmps17
  go_wp2_with fail
  generalize w.alloc (.cells #[.int .i64 b, .int .i64 p] 24) = w0 at c1 c2 hb ⊢
  go_region_held3 (fun w' => w'.cell? ⟨w.heap.size, 0, none⟩ = some (.int .i64 b) ∧ w'.cell? ⟨w.heap.size, 1, none⟩ = some (.int .i64 p)) (go_keep)
    (first
      | (go_at_call 22; refine Calls.mono (gives_run (v := ?_) ?_) ?_; rotate_left; (first | with_reducible exact j1 | with_reducible exact j2); rintro e w' ⟨rfl, rfl⟩))
  go_wp2
  go_ret
  exact ⟨rfl, hb.drew⟩

theorem v1 : Bits32.b (out (start (BitVec.ofInt 16 1))) = 1 := by decide +kernel
theorem v2 : Bits32.b (out (start (BitVec.ofInt 16 0))) = 225 := by decide +kernel
theorem v3 : seedOf 1 2 = 320 := by decide +kernel
theorem v4 : seedOf (-1) 0 = 1 := by decide +kernel
set_option maxRecDepth 100000 in
set_option maxHeartbeats 1000000 in
theorem first_any (w : World) :
    Calls Try.prog 7 #[] w fun e w' => e = .returned (.bool true) ∧ Below w.heap.size w w' := by
  have e1 := v1
  have e2 := v2
  have e3 := v3
  have e4 := v4
  go_enter Try.func7, Try.ntmps7
  go_wp2_with fail
  refine (new_any 1 w).mono ?_
  rintro e w1 ⟨rfl, s1, b1⟩
  go_wp2_with fail
  refine (new_any 0 w1).mono ?_
  rintro e w2 ⟨rfl, s2, b2⟩
  have h12 := lt_of_block s1
  have s1 : IsStr w2 w.heap.size (start (BitVec.ofInt 16 1)) := (b2.block _ (lt_of_block s1)).trans s1
  have hlt := lt_of_block s2
  go_wp2_with fail
  refine (next_any _ _ _ s1).mono ?_
  rintro e w3 ⟨rfl, s3, o3⟩
  have s2 : IsStr w3 w1.heap.size (start (BitVec.ofInt 16 0)) := (o3.block _ (by omega)).trans s2
  go_wp2_with fail
  refine (next_any _ _ _ s2).mono ?_
  rintro e w4 ⟨rfl, s4, o4⟩
  have bw : Below w.heap.size w w4 := (b1.trans (b2.mono b1.size)).trans ((o3.below (Nat.le_refl _)).trans (o4.below (by omega)))
  go_wp2_with fail
  refine (seed_any _ _ _).mono ?_
  rintro e w5 ⟨rfl, b5⟩
  go_wp2_with fail
  refine (seed_any _ _ _).mono ?_
  rintro e w6 ⟨rfl, b6⟩
  go_wp2
  go_ret
  exact ⟨rfl, (bw.trans (b5.mono bw.size)).trans (b6.mono (bw.trans (b5.mono bw.size)).size)⟩
end Go.Proofs.Ytggiknecfiaokaa.Scr
