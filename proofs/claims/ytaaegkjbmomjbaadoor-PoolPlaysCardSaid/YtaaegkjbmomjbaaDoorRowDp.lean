/- A list of what a pool is told, handed in. By the verifier of shale. -/
import Derived.Test.YtaaegkjbmomjbaaDoorArgs
import Derived.Test.YtaaegkjbmomjbaaDoorRow
import Derived.Deep.Slices
import Derived.ChangeSame
namespace Go.Proofs.YtaaegkjbmomjbaaDoor
open Go Go.RowKit Go.ChangeShapes Go.WideShapes Go.Deep
set_option linter.unusedVariables false
set_option linter.unusedSimpArgs false
structure DoP where
  kind : Int
  a : Int
  b : Int
def DpAt (w : World) (bb o : Nat) (d : DoP) : Prop := w.cell? ⟨bb, o, none⟩ = some (.int .i64 d.kind) ∧ w.cell? ⟨bb, o + 1, none⟩ = some (.int .i64 d.a) ∧ w.cell? ⟨bb, o + 2, none⟩ = some (.int .i64 d.b)
def RowDp (w : World) (a : Option Addr) (len : Nat) (D : Nat → DoP) : Prop := len ≤ maxLen ∧ ∀ i, i < len → ∃ bb off, a = some ⟨bb, off, none⟩ ∧ DpAt w bb (off + i * 3) (D i)
set_option maxRecDepth 100000 in
theorem row_dp {H : Type} {enc : TypeId × Value → H} {w : World} {base : Nat} {held : Bool} {fuel : Nat} {a : Option Addr} {len cap : Nat} {x : DataW H × List MemPlace}
    (h : DataW.trod enc Tryd.prog w base (fun _ => true) held fuel 22 [.slice a len cap] = some x) : ∃ D, RowDp w a len D := by
  have hm0 : len ≤ maxLen := by
    rcases open_slice Tryd.underlying22 h with ⟨h0, _⟩ | ⟨p, len', cap', m, n, D, Pl, hcs, hb, hl, hm, hmm, hx, hat⟩
    · simp only [List.cons.injEq, and_true] at h0
      cases h0
      exact Nat.zero_le _
    · simp only [List.cons.injEq, and_true] at hcs
      cases hcs
      omega
  have each : ∀ i, i < len → ∃ d : DoP, ∃ bb off, a = some ⟨bb, off, none⟩ ∧ DpAt w bb (off + i * 3) d := by
    intro i hi
    rcases open_slice Tryd.underlying22 h with ⟨h0, _⟩ | ⟨p, len', cap', m, n, D, Pl, hcs, hb, hl, hm, hmm, hx, hat⟩
    · simp only [List.cons.injEq, and_true] at h0
      cases h0
      omega
    · simp only [List.cons.injEq, and_true] at hcs
      cases hcs
      have hspot : p.spot = none := by
        obtain ⟨cs0, hc0, _⟩ := hat 0 (by rw [hmm]; split <;> omega)
        rw [show Tryd.prog.cellsOf 31 = 3 by kernel_rfl] at hc0
        obtain ⟨_, hl0, hcell0⟩ := World.cells?_some hc0
        have d00 := (hcell0 0 (by omega)).trans (List.getElem?_eq_getElem (by omega))
        simpa [Addr.add] using World.cell?_spot d00
      obtain ⟨cs', hc, ht⟩ := hat i (by rw [hmm]; split <;> omega)
      rw [show Tryd.prog.cellsOf 31 = 3 by kernel_rfl] at hc
      obtain ⟨_, hcl, hcell⟩ := World.cells?_some hc
      obtain ⟨xs, n1, _, _, _, hxl, hf⟩ := DataW.trod_struct Tryd.underlying31 ht
      have f0 := hf 0 _ rfl
      have f1 := hf 1 _ rfl
      have f2 := hf 2 _ rfl
      match cs', hcl, xs, hxl with
      | [v0, v1, v2], _, [x0, x1, x2], _ =>
        change DataW.trod enc Tryd.prog w base (fun _ => true) held n1 3 (([v0, v1, v2].drop 0).take (Tryd.prog.cellsOf 3)) = some x0 at f0
        change DataW.trod enc Tryd.prog w base (fun _ => true) held n1 3 (([v0, v1, v2].drop 1).take (Tryd.prog.cellsOf 3)) = some x1 at f1
        change DataW.trod enc Tryd.prog w base (fun _ => true) held n1 3 (([v0, v1, v2].drop 2).take (Tryd.prog.cellsOf 3)) = some x2 at f2
        rw [show Tryd.prog.cellsOf 3 = 1 by kernel_rfl] at f0 f1 f2
        change DataW.trod enc Tryd.prog w base (fun _ => true) held n1 3 [v0] = some x0 at f0
        change DataW.trod enc Tryd.prog w base (fun _ => true) held n1 3 [v1] = some x1 at f1
        change DataW.trod enc Tryd.prog w base (fun _ => true) held n1 3 [v2] = some x2 at f2
        obtain ⟨k0, e0, _, w0⟩ := DataW.trod_int Tryd.underlying3 f0
        obtain ⟨k1, e1, _, w1⟩ := DataW.trod_int Tryd.underlying3 f1
        obtain ⟨k2, e2, _, w2⟩ := DataW.trod_int Tryd.underlying3 f2
        simp only [List.cons.injEq, and_true] at e0 e1 e2
        subst e0 e1 e2
        obtain ⟨bb, off, spot⟩ := p
        have d0 := hcell 0 (by omega)
        have d1 := hcell 1 (by omega)
        obtain rfl : spot = none := hspot
        have hadd : ∀ j, (((⟨bb, off, none⟩ : Addr).add (i * 3)).add j) = ⟨bb, off + i * 3 + j, none⟩ := fun j => by unfold Addr.add; split <;> split <;> simp_all
        have d2 := hcell 2 (by omega)
        rw [hadd] at d0 d1 d2
        exact ⟨⟨k0, k1, k2⟩, bb, off, rfl, d0, d1, d2⟩
  exact ⟨fun i => if h : i < len then (each i h).choose else ⟨0, 0, 0⟩, hm0, fun i hi => by
    obtain ⟨bb, off, h1, h2⟩ := (each i hi).choose_spec
    refine ⟨bb, off, h1, ?_⟩
    simp only [dif_pos hi]
    exact h2⟩
end Go.Proofs.YtaaegkjbmomjbaaDoor
