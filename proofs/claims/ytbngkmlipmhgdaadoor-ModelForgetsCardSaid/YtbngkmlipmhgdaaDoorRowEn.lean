/- A list of entries, handed in. By the verifier of shale. -/
import Derived.Test.YtbngkmlipmhgdaaDoorArgs
import Derived.Test.YtbngkmlipmhgdaaDoorRow
import Derived.Deep.Slices
import Derived.ChangeSame
namespace Go.Proofs.YtbngkmlipmhgdaaDoor
open Go Go.RowKit Go.ChangeShapes Go.WideShapes Go.Deep
set_option linter.unusedVariables false
set_option linter.unusedSimpArgs false
/-- an entry: key, whether it is to be gone. -/
structure EnV where
  key : Int
  trim : Bool
def EnAt (w : World) (bb o : Nat) (d : EnV) : Prop := w.cell? ⟨bb, o, none⟩ = some (.int .i64 d.key) ∧ w.cell? ⟨bb, o + 1, none⟩ = some (.bool d.trim)
def RowEn (w : World) (a : Option Addr) (len : Nat) (D : Nat → EnV) : Prop := len ≤ maxLen ∧ ∀ i, i < len → ∃ bb off, a = some ⟨bb, off, none⟩ ∧ EnAt w bb (off + i * 3) (D i)
theorem row_en {H : Type} {enc : TypeId × Value → H} {w : World} {base : Nat} {held : Bool} {fuel : Nat} {a : Option Addr} {len cap : Nat} {x : DataW H × List MemPlace}
    (h : DataW.trod enc Tryd.prog w base (fun _ => true) held fuel 38 [.slice a len cap] = some x) : ∃ D, RowEn w a len D := by
  have hlen : len ≤ maxLen := by
    rcases open_slice Tryd.underlying38 h with ⟨h0, _⟩ | ⟨p, len', cap', m, n, D, Pl, hcs, hb, hl, hm, hmm, hx, hat⟩
    · simp only [List.cons.injEq, and_true] at h0
      cases h0
      omega
    · simp only [List.cons.injEq, and_true] at hcs
      cases hcs
      omega
  have each : ∀ i, i < len → ∃ d : EnV, ∃ bb off, a = some ⟨bb, off, none⟩ ∧ EnAt w bb (off + i * 3) d := by
    intro i hi
    rcases open_slice Tryd.underlying38 h with ⟨h0, _⟩ | ⟨p, len', cap', m, n, D, Pl, hcs, hb, hl, hm, hmm, hx, hat⟩
    · simp only [List.cons.injEq, and_true] at h0
      cases h0
      omega
    · simp only [List.cons.injEq, and_true] at hcs
      cases hcs
      have hspot : p.spot = none := by
        obtain ⟨cs0, hc0, _⟩ := hat 0 (by rw [hmm]; split <;> omega)
        rw [show Tryd.prog.cellsOf 33 = 3 by kernel_rfl] at hc0
        obtain ⟨_, hl0, hcell0⟩ := World.cells?_some hc0
        have d00 := (hcell0 0 (by omega)).trans (List.getElem?_eq_getElem (by omega))
        simpa [Addr.add] using World.cell?_spot d00
      obtain ⟨cs', hc, ht⟩ := hat i (by rw [hmm]; split <;> omega)
      rw [show Tryd.prog.cellsOf 33 = 3 by kernel_rfl] at hc
      obtain ⟨_, hcl, hcell⟩ := World.cells?_some hc
      obtain ⟨ys, n2, _, _, _, hyl, hg⟩ := DataW.trod_struct Tryd.underlying33 ht
      have g0 := hg 0 _ rfl
      have g1 := hg 1 _ rfl
      match cs', hcl, ys, hyl with
      | [v0, v1, v2], _, [y0, y1, y2], _ =>
        change DataW.trod enc Tryd.prog w base (fun _ => true) held n2 3 (([v0, v1, v2].drop 0).take (Tryd.prog.cellsOf 3)) = some y0 at g0
        change DataW.trod enc Tryd.prog w base (fun _ => true) held n2 4 (([v0, v1, v2].drop 1).take (Tryd.prog.cellsOf 4)) = some y1 at g1
        rw [show Tryd.prog.cellsOf 3 = 1 by kernel_rfl] at g0
        rw [show Tryd.prog.cellsOf 4 = 1 by kernel_rfl] at g1
        change DataW.trod enc Tryd.prog w base (fun _ => true) held n2 3 [v0] = some y0 at g0
        change DataW.trod enc Tryd.prog w base (fun _ => true) held n2 4 [v1] = some y1 at g1
        obtain ⟨k0, e0, _, w0⟩ := DataW.trod_int Tryd.underlying3 g0
        obtain ⟨b1, e1, _⟩ := DataW.trod_bool Tryd.underlying4 g1
        simp only [List.cons.injEq, and_true] at e0 e1
        subst e0 e1
        obtain ⟨bb, off, spot⟩ := p
        have d0 := hcell 0 (by omega)
        have d1 := hcell 1 (by omega)
        obtain rfl : spot = none := hspot
        have hadd : ∀ j, (((⟨bb, off, none⟩ : Addr).add (i * 3)).add j) = ⟨bb, off + i * 3 + j, none⟩ := fun j => by unfold Addr.add; split <;> split <;> simp_all
        rw [hadd] at d0 d1
        exact ⟨⟨k0, b1⟩, bb, off, rfl, d0, d1⟩
  exact ⟨fun i => if h : i < len then (each i h).choose else ⟨0, false⟩, hlen, fun i hi => by
    obtain ⟨bb, off, h1, h2⟩ := (each i hi).choose_spec
    refine ⟨bb, off, h1, ?_⟩
    simp only [dif_pos hi]
    exact h2⟩
end Go.Proofs.YtbngkmlipmhgdaaDoor
