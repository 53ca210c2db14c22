/- A table's All, Same, Get. By the verifier of shale. -/
import Derived.Test.YtpbckjagiebmjaaDoorTbSort
import Derived.Test.YtpbckjagiebmjaaDoorTbAll
import Derived.Test.YtpbckjagiebmjaaDoorTbSame
namespace Go.Proofs.YtpbckjagiebmjaaDoor.Tb
open Go Go.RowKit Go.Maps Go.Sort
set_option linter.unusedVariables false
set_option linter.unusedSimpArgs false
set_option maxRecDepth 100000 in
set_option maxHeartbeats 2000000 in
theorem all_any {w : World} {base tb mb ob B P cO : Nat} {kb : Nat → Nat} {kf : Nat → Nat → Int} {m : Int → Option Sl} {cnt nb : Nat} (T : TabAt w base tb mb ob B P cO kb kf m cnt nb) (hc : cnt ≤ 1000) :
    Calls Tryd.prog 22 #[.pointer (some ⟨tb, 0, none⟩)] w (SlotsP w m (fun _ => true) Sl.k) := by
  have HA := Lib.hid (all_coll T hc (fun wr v L h hl => sort_g enterK laysK w.heap.size wr v L h hl))
  clear T hc
  go_enter Tryd.func22, Tryd.ntmps22
  go_wp2_with fail
  refine HA.out.mono ?_
  rintro e w' ⟨v, L, rfl, h⟩
  have HF : Hid (SlotsP w m (fun _ => true) Sl.k (.returned v) w') := ⟨v, L, rfl, h⟩
  clear h
  go_wp2_with fail
  go_ret
  exact HF.out
end Go.Proofs.YtpbckjagiebmjaaDoor.Tb
