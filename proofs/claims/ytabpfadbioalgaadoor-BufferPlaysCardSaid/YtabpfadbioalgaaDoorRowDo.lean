/- A list of what a buffer is told, handed in. By the verifier of shale. -/
import Derived.Test.YtabpfadbioalgaaDoorArgs
import Derived.Test.YtabpfadbioalgaaDoorRow
import Derived.Deep.Slices
import Derived.ChangeSame
namespace Go.Proofs.YtabpfadbioalgaaDoor
open Go Go.RowKit Go.ChangeShapes Go.WideShapes Go.Deep
set_option linter.unusedVariables false
set_option linter.unusedSimpArgs false
/-- one thing that a buffer is told: key, whether it is to be gone, data, whether all goes. -/
structure DoV where
  key : Int
  trim : Bool
  a : Option Addr
  n : Nat
  c : Nat
  z : List Int
  clear : Bool
def DoAt (w : World) (bb o : Nat) (d : DoV) : Prop := w.cell? ⟨bb, o, none⟩ = some (.int .i64 d.key) ∧ w.cell? ⟨bb, o + 1, none⟩ = some (.bool d.trim) ∧ w.cell? ⟨bb, o + 2, none⟩ = some (.slice d.a d.n d.c) ∧ w.cell? ⟨bb, o + 3, none⟩ = some (.bool d.clear) ∧ IsRow .u8 w d.a d.n d.c d.z ∧ (Lit.int .i64 d.key).wf = true
def RowDo (w : World) (a : Option Addr) (len : Nat) (D : Nat → DoV) : Prop := ∀ i, i < len → ∃ bb off, a = some ⟨bb, off, none⟩ ∧ DoAt w bb (off + i * 4) (D i)
theorem row_do {H : Type} {enc : TypeId × Value → H} {w : World} {base : Nat} {held : Bool} {fuel : Nat} {a : Option Addr} {len cap : Nat} {x : DataW H × List MemPlace}
    (h : DataW.trod enc Tryd.prog w base (fun _ => true) held fuel 22 [.slice a len cap] = some x) : ∃ D, RowDo w a len D := by
  have each : ∀ i, i < len → ∃ d : DoV, ∃ bb off, a = some ⟨bb, off, none⟩ ∧ DoAt w bb (off + i * 4) d := by
    intro i hi
    rcases open_slice Tryd.underlying22 h with ⟨h0, _⟩ | ⟨p, len', cap', m, n, D, Pl, hcs, hb, hl, hm, hmm, hx, hat⟩
    · simp only [List.cons.injEq, and_true] at h0
      cases h0
      omega
    · simp only [List.cons.injEq, and_true] at hcs
      cases hcs
      have hspot : p.spot = none := by
        obtain ⟨cs0, hc0, _⟩ := hat 0 (by rw [hmm]; split <;> omega)
        rw [show Tryd.prog.cellsOf 37 = 4 by kernel_rfl] at hc0
        obtain ⟨_, hl0, hcell0⟩ := World.cells?_some hc0
        have d00 := (hcell0 0 (by omega)).trans (List.getElem?_eq_getElem (by omega))
        simpa [Addr.add] using World.cell?_spot d00
      obtain ⟨cs', hc, ht⟩ := hat i (by rw [hmm]; split <;> omega)
      rw [show Tryd.prog.cellsOf 37 = 4 by kernel_rfl] at hc
      obtain ⟨_, hcl, hcell⟩ := World.cells?_some hc
      obtain ⟨xs, n1, _, _, _, hxl, hf⟩ := DataW.trod_struct Tryd.underlying37 ht
      have f0 := hf 0 _ rfl
      have f1 := hf 1 _ rfl
      match cs', hcl, xs, hxl with
      | [v0, v1, v2, v3], _, [x0, x1], _ =>
        change DataW.trod enc Tryd.prog w base (fun _ => true) held n1 35 (([v0, v1, v2, v3].drop 0).take (Tryd.prog.cellsOf 35)) = some x0 at f0
        change DataW.trod enc Tryd.prog w base (fun _ => true) held n1 4 (([v0, v1, v2, v3].drop 3).take (Tryd.prog.cellsOf 4)) = some x1 at f1
        rw [show Tryd.prog.cellsOf 35 = 3 by kernel_rfl] at f0
        rw [show Tryd.prog.cellsOf 4 = 1 by kernel_rfl] at f1
        change DataW.trod enc Tryd.prog w base (fun _ => true) held n1 35 [v0, v1, v2] = some x0 at f0
        change DataW.trod enc Tryd.prog w base (fun _ => true) held n1 4 [v3] = some x1 at f1
        obtain ⟨b3, e3, _⟩ := DataW.trod_bool Tryd.underlying4 f1
        obtain ⟨ys, n2, _, _, _, hyl, hg⟩ := DataW.trod_struct Tryd.underlying35 f0
        have g0 := hg 0 _ rfl
        have g1 := hg 1 _ rfl
        have g2 := hg 2 _ rfl
        match ys, hyl with
        | [y0, y1, y2], _ =>
          change DataW.trod enc Tryd.prog w base (fun _ => true) held n2 3 (([v0, v1, v2].drop 0).take (Tryd.prog.cellsOf 3)) = some y0 at g0
          change DataW.trod enc Tryd.prog w base (fun _ => true) held n2 4 (([v0, v1, v2].drop 1).take (Tryd.prog.cellsOf 4)) = some y1 at g1
          change DataW.trod enc Tryd.prog w base (fun _ => true) held n2 33 (([v0, v1, v2].drop 2).take (Tryd.prog.cellsOf 33)) = some y2 at g2
          rw [show Tryd.prog.cellsOf 3 = 1 by kernel_rfl] at g0
          rw [show Tryd.prog.cellsOf 4 = 1 by kernel_rfl] at g1
          rw [show Tryd.prog.cellsOf 33 = 1 by kernel_rfl] at g2
          change DataW.trod enc Tryd.prog w base (fun _ => true) held n2 3 [v0] = some y0 at g0
          change DataW.trod enc Tryd.prog w base (fun _ => true) held n2 4 [v1] = some y1 at g1
          change DataW.trod enc Tryd.prog w base (fun _ => true) held n2 33 [v2] = some y2 at g2
          obtain ⟨k0, e0, _, w0⟩ := DataW.trod_int Tryd.underlying3 g0
          obtain ⟨b1, e1, _⟩ := DataW.trod_bool Tryd.underlying4 g1
          simp only [List.cons.injEq, and_true] at e0 e1 e3
          subst e0 e1 e3
          have h2 : ∃ a2 n2 c2 z2, v2 = .slice a2 n2 c2 ∧ IsRow .u8 w a2 n2 c2 z2 := by
            rcases open_ints Tryd.underlying33 Tryd.underlying5 (by kernel_rfl) g2 with ⟨hcs, _⟩ | ⟨x, l, c, zs, hcs, _, hl, hm, hz, _, hcell, hwz⟩
            · simp at hcs
              exact ⟨_, _, _, [], hcs, .inl ⟨rfl, rfl, rfl, rfl⟩⟩
            · simp at hcs
              exact ⟨_, _, _, zs, hcs, .inr ⟨_, rfl, hl, hm, by simpa using hz, hcell, hwz⟩⟩
          obtain ⟨a2, l2, c2, z2, rfl, hr⟩ := h2
          obtain ⟨bb, off, spot⟩ := p
          have d0 := hcell 0 (by omega)
          have d1 := hcell 1 (by omega)
          have d2 := hcell 2 (by omega)
          have d3 := hcell 3 (by omega)
          obtain rfl : spot = none := hspot
          have hadd : ∀ j, (((⟨bb, off, none⟩ : Addr).add (i * 4)).add j) = ⟨bb, off + i * 4 + j, none⟩ := fun j => by unfold Addr.add; split <;> split <;> simp_all
          rw [hadd] at d0 d1 d2 d3
          exact ⟨⟨k0, b1, a2, l2, c2, z2, b3⟩, bb, off, rfl, d0, d1, d2, d3, hr, w0⟩
  exact ⟨fun i => if h : i < len then (each i h).choose else ⟨0, false, none, 0, 0, [], false⟩, fun i hi => by
    obtain ⟨bb, off, h1, h2⟩ := (each i hi).choose_spec
    refine ⟨bb, off, h1, ?_⟩
    simp only [dif_pos hi]
    exact h2⟩
end Go.Proofs.YtabpfadbioalgaaDoor
