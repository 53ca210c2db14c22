/- A table's Same and Get. By the verifier of shale. -/
import Derived.Test.YtpbckjagiebmjaaDoorTbEqf
namespace Go.Proofs.YtpbckjagiebmjaaDoor.Tb
open Go Go.RowKit Go.Maps Go.Sort
set_option linter.unusedVariables false
set_option linter.unusedSimpArgs false
/-- all slots of a table, by keys. -/
def ListOf (m : Int → Option Sl) (L : List Sl) : Prop := (∀ s, s ∈ L ↔ m s.k = some s) ∧ (L.map Sl.k).Nodup ∧ L.Pairwise (fun x y => x.k ≤ y.k)
theorem listOf_of {w : World} {m : Int → Option Sl} {e : Ending} {w' : World} (h : SlotsP w m (fun _ => true) Sl.k e w') : ∃ v L, e = .returned v ∧ w'.ownsRow w.heap.size 47 9 v L.length (scells L) ∧ ListOf m L ∧ L.length ≤ 1000 ∧ Below w.heap.size w w' := by
  obtain ⟨v, L, h1, h2, h3, h4, h5, h6, h7⟩ := h
  exact ⟨v, L, h1, h2, ⟨fun s => by rw [h3 s]; simp, h4, h5⟩, h6, h7⟩
set_option maxRecDepth 100000 in
set_option maxHeartbeats 2000000 in
theorem same_any {w : World} {base tb mb ob B P cO : Nat} {kb : Nat → Nat} {kf : Nat → Nat → Int} {m : Int → Option Sl} {cnt nb : Nat} {base' tb' mb' ob' B' P' cO' : Nat} {kb' : Nat → Nat} {kf' : Nat → Nat → Int} {m' : Int → Option Sl} {cnt' nb' : Nat} (T : TabAt w base tb mb ob B P cO kb kf m cnt nb) (U : TabAt w base' tb' mb' ob' B' P' cO' kb' kf' m' cnt' nb') (hc : cnt ≤ 1000) (hc' : cnt' ≤ 1000) :
    Calls Tryd.prog 24 #[.pointer (some ⟨tb, 0, none⟩), .pointer (some ⟨tb', 0, none⟩)] w fun e w' => ∃ L M, ListOf m L ∧ ListOf m' M ∧ e = .returned (.bool (eqL L M)) ∧ Below w.heap.size w w' := by
  have HT := Lib.hid (And.intro T (And.intro U (And.intro hc hc')))
  clear T U hc hc'
  go_enter Tryd.func24, Tryd.ntmps24
  go_wp2_with fail
  refine (all_any HT.out.1 HT.out.2.2.1).mono ?_
  intro e w1 h
  obtain ⟨v1, L, rfl, r1, l1, _, b1⟩ := listOf_of h
  have H1 := Lib.hid (And.intro r1 (And.intro l1 b1))
  clear h r1 l1 b1
  go_wp2_with fail
  refine (all_any (HT.out.2.1.below H1.out.2.2) HT.out.2.2.2).mono ?_
  intro e w2 h
  obtain ⟨v2, M, rfl, r2, l2, _, b2⟩ := listOf_of h
  have H2 := Lib.hid (And.intro r2 (And.intro l2 b2))
  clear h r2 l2 b2
  go_wp2_with fail
  refine (eqf_any (own_below H1.out.1 H2.out.2.2) H2.out.1).mono ?_
  rintro e w3 ⟨rfl, b3⟩
  have HB : Hid (Below w.heap.size w w3) := H1.out.2.2.trans ((H2.out.2.2.trans (b3.mono H2.out.2.2.size)).mono H1.out.2.2.size)
  generalize hr : eqL L M = r
  have HR := Lib.hid hr
  clear b3 hr
  go_wp2_with fail
  go_ret
  exact ⟨L, M, H1.out.2.1, H2.out.2.1, by rw [HR.out]; rfl, HB.out⟩
end Go.Proofs.YtpbckjagiebmjaaDoor.Tb
