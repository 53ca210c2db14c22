/- The walk over FieldLogs. By the verifier of shale. -/
import Derived.Test.YtdcnknlpmajlfaaDoorFldFirst
import Derived.Test.YtdcnknlpmajlfaaDoorLaidFieldLogs
namespace Go.Proofs.YtdcnknlpmajlfaaDoor.walkFieldLogs
open Go Go.RowKit Bits16 Fld
set_option linter.unusedVariables false
set_option maxRecDepth 100000 in
set_option maxHeartbeats 2000000 in
theorem walk (z a : Int) (w : World) (_w0 : (Lit.int .i64 z).wf = true) (_w1 : (Lit.int .i64 a).wf = true) (hL : LaidFieldLogs.Holds w) :
    Calls Tryd.prog 4 #[.int .i64 z, .int .i64 a] w fun e w' => e = .returned (.bool true) ∧ Below w.heap.size w w' := by
  obtain ⟨g, ⟨E0, E1⟩, _⟩ := hL
  generalize g 0 = p at E0
  generalize g 1 = q at E1
  have l1 := made_lo z
  have l2 := made_hi z
  have q1 := eql_err q
  have HL := Lib.hid (low_any (made z) l1 l2 a)
  by_cases h0 : el (made z) a = 0
  · have t := h_zero h0
    go_enter Tryd.func4, Tryd.ntmps4
    go_wp2_with fail
    refine (first_any w p q E0 E1).mono ?_
    rintro e w1 ⟨rfl, b1⟩
    have E1 := E1.below b1
    go_wp2_with fail
    refine (made_any z w1).mono ?_
    rintro e w2 ⟨s, be, ce, bl, rfl, f, b2⟩
    have E1 := E1.below b2
    have b2 := b1.trans (b2.mono b1.size)
    go_wp2_with fail
    refine (log_zero l1 l2 a _ f h0 q E1.1).mono ?_
    rintro e w3 ⟨rfl, d⟩
    have f3 := f.drawn l1 d
    have E1 := E1.drawn d
    have b3 := b2.trans (d.below _)
    go_wp2_with fail
    refine (order_zero l1 l2 a _ f3 h0 q E1.1).mono ?_
    rintro e w4 ⟨rfl, d⟩
    have E1 := E1.drawn d
    have b4 := b3.trans (d.below _)
    have c1 := E1.1
    unfold Sent at c1
    go_wp2_with fail
    refine (HL.out w4).mono ?_
    rintro e w5 ⟨rfl, rfl⟩
    clear f f3 h0
    go_wp2_with fail
    go_ret
    exact ⟨rfl, b4⟩
  · have t := h_not h0
    go_enter Tryd.func4, Tryd.ntmps4
    go_wp2_with fail
    refine (first_any w p q E0 E1).mono ?_
    rintro e w1 ⟨rfl, b1⟩
    go_wp2_with fail
    refine (made_any z w1).mono ?_
    rintro e w2 ⟨s, be, ce, bl, rfl, f, b2⟩
    have b2 := b1.trans (b2.mono b1.size)
    go_wp2_with fail
    refine (log_any l1 l2 a _ f h0).mono ?_
    rintro e w3 ⟨rfl, rfl⟩
    go_wp2_with fail
    refine (order_some l1 l2 a _ f h0).mono ?_
    rintro e w4 ⟨rfl, d⟩
    have b4 := b2.trans (d.below _)
    go_wp2_with fail
    refine (HL.out w4).mono ?_
    rintro e w5 ⟨rfl, rfl⟩
    go_wp2_with fail
    refine (rlog_any (made z) l1 l2 a h0 _).mono ?_
    rintro e w6 ⟨rfl, b⟩
    have b5 := b4.trans (b.mono b4.size)
    go_wp2_with fail
    refine (rord_any (made z) l1 l2 a h0 _).mono ?_
    rintro e w7 ⟨rfl, b⟩
    have b6 := b5.trans (b.mono b5.size)
    clear f h0
    go_wp2_with fail
    go_ret
    exact ⟨rfl, b6⟩
end Go.Proofs.YtdcnknlpmajlfaaDoor.walkFieldLogs
