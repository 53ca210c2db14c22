/- The examples of chapter 1, as the statements ask them first of all. By the verifier of shale. -/
import Derived.Test.YtakfbjalclnpmaaDoorCrcWalks
import Derived.Lib.SlBytesConst
namespace Go.Proofs.YtakfbjalclnpmaaDoor.Crc
open Go Go.RowKit
attribute [local go_sem] Bits32.xor64

def l9 : List (BitVec 8) := [49#8, 50#8, 51#8, 52#8, 53#8, 54#8, 55#8, 56#8, 57#8]
def l4 : List (BitVec 8) := [49#8, 50#8, 51#8, 52#8]
def l5 : List (BitVec 8) := [53#8, 54#8, 55#8, 56#8, 57#8]
theorem v9 : Bits32.u (crc l9) = 3421780262 := by decide +kernel
theorem v0 : Bits32.u (crc []) = 0 := by decide +kernel
theorem v45 : Bits32.u (mul (crc l4) (pow (8 * 5)) ^^^ crc l5) = 3421780262 := by decide +kernel
theorem v1 : Bits32.u (pow (8 * 1 + 31 - 0)) = Bits32.u (crc [0#8] ^^^ crc [1#8]) := by decide +kernel

set_option maxRecDepth 100000 in
set_option maxHeartbeats 1000000 in
theorem first_any (w : World) (ht : Tab w) :
    Calls Tryd.prog 8 #[] w fun e w' => e = .returned (.bool true) ∧ Below w.heap.size w w' := by
  have kc := fun (w : World) (C : Array Value) (n c : Nat) => Lib.run_convert_bytes_const (P := Tryd.prog) w 22 5 C n c Tryd.underlying22 Tryd.underlying5
  have e9 := v9
  have e0 := v0
  have e45 := v45
  have e1 := v1
  go_enter Tryd.func8, Tryd.ntmps8
  go_wp2_with fail
  refine (of_lit l9 w ht _ _ _ _ _ rfl rfl (by decide)).mono ?_
  rintro e w1 ⟨rfl, b1⟩
  go_wp2_with fail
  refine (of_nil w1 (ht.below b1 ht.lt)).mono ?_
  rintro e w2 ⟨rfl, b2⟩
  have b2 := b1.trans (b2.mono b1.size)
  go_wp2_with fail
  refine (of_lit l4 w2 (ht.below b2 ht.lt) _ _ _ _ _ rfl rfl (by decide)).mono ?_
  rintro e w3 ⟨rfl, b3⟩
  have b3 := b2.trans (b3.mono b2.size)
  go_wp2_with fail
  refine (of_lit l5 w3 (ht.below b3 ht.lt) _ _ _ _ _ rfl rfl (by decide)).mono ?_
  rintro e w4 ⟨rfl, b4⟩
  have b4 := b3.trans (b4.mono b3.size)
  go_wp2_with fail
  refine (join_at (crc l4) (crc l5) _ 5 rfl _ (by decide)).mono ?_
  rintro e w5 ⟨rfl, rfl⟩
  go_wp2_with fail
  refine (flipped_at _ _ 1 0 rfl rfl _ (by decide) (by decide)).mono ?_
  rintro e w5 ⟨rfl, rfl⟩
  go_wp2_with fail
  refine (of_lit [0#8] w4 (ht.below b4 ht.lt) _ _ _ _ _ rfl rfl (by decide)).mono ?_
  rintro e w5 ⟨rfl, b5⟩
  have b5 := b4.trans (b5.mono b4.size)
  go_wp2_with fail
  refine (of_lit [1#8] w5 (ht.below b5 ht.lt) _ _ _ _ _ rfl rfl (by decide)).mono ?_
  rintro e w6 ⟨rfl, b6⟩
  have b6 := b5.trans (b6.mono b5.size)
  go_wp2
  go_ret
  exact ⟨rfl, b6⟩
end Go.Proofs.YtakfbjalclnpmaaDoor.Crc
