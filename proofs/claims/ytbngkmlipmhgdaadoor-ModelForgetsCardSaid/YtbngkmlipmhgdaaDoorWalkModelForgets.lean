/- The walk over ModelForgets, whole. By the verifier of shale. -/
import Derived.Test.YtbngkmlipmhgdaaDoorMoForg
import Derived.Test.YtbngkmlipmhgdaaDoorMoFirst
import Derived.Test.YtbngkmlipmhgdaaDoorLaidModelForgets
namespace Go.Proofs.YtbngkmlipmhgdaaDoor.walkModelForgets
open Go Go.RowKit Mo
set_option linter.unusedVariables false
theorem walk (a0 : Option Addr) (len0 cap0 : Nat) (z0 : Nat → EnV) (a1 : Int) (W : World) (w0 : RowEn W a0 len0 z0) (w1 : (Lit.int .i64 a1).wf = true) (h : LaidModelForgets.Holds W) :
    Calls Tryd.prog 4 #[.slice a0 len0 cap0, .int .i64 a1] W fun e w' => e = .returned (.bool true) ∧ Below W.heap.size W w' :=
  forgets a0 len0 cap0 z0 a1 W first26_any w0
end Go.Proofs.YtbngkmlipmhgdaaDoor.walkModelForgets
