/- A list of what a table is told, handed in. By the verifier of shale. -/
import Derived.Test.YtpbckjagiebmjaaDoorArgs
import Derived.Test.YtpbckjagiebmjaaDoorRow
import Derived.Deep.Slices
import Derived.ChangeSame
namespace Go.Proofs.YtpbckjagiebmjaaDoor
open Go Go.RowKit Go.ChangeShapes Go.WideShapes Go.Deep
set_option linter.unusedVariables false
set_option linter.unusedSimpArgs false
structure DoT where
  key : Int
  b : Int
  p : Int
  m0 : Int
  m1 : Int
  m2 : Int
  m3 : Int
  m4 : Int
  m5 : Int
  drop : Bool
instance : Inhabited DoT := ⟨⟨0, 0, 0, 0, 0, 0, 0, 0, 0, false⟩⟩
def DoTAt (w : World) (bb o : Nat) (d : DoT) : Prop := w.cell? ⟨bb, o, none⟩ = some (.int .i64 d.key) ∧ w.cell? ⟨bb, o + 1, none⟩ = some (.int .i64 d.b) ∧ w.cell? ⟨bb, o + 2, none⟩ = some (.int .i64 d.p) ∧ w.cell? ⟨bb, o + 3, none⟩ = some (.int .i64 d.m0) ∧ w.cell? ⟨bb, o + 4, none⟩ = some (.int .i64 d.m1) ∧ w.cell? ⟨bb, o + 5, none⟩ = some (.int .i64 d.m2) ∧ w.cell? ⟨bb, o + 6, none⟩ = some (.int .i64 d.m3) ∧ w.cell? ⟨bb, o + 7, none⟩ = some (.int .i64 d.m4) ∧ w.cell? ⟨bb, o + 8, none⟩ = some (.int .i64 d.m5) ∧ w.cell? ⟨bb, o + 9, none⟩ = some (.bool d.drop)
def RowTd (w : World) (a : Option Addr) (len : Nat) (D : Nat → DoT) : Prop := len ≤ maxLen ∧ ∀ i, i < len → ∃ bb off, a = some ⟨bb, off, none⟩ ∧ DoTAt w bb (off + i * 10) (D i)
set_option maxRecDepth 100000 in
theorem row_td {H : Type} {enc : TypeId × Value → H} {w : World} {base : Nat} {held : Bool} {fuel : Nat} {a : Option Addr} {len cap : Nat} {x : DataW H × List MemPlace}
    (h : DataW.trod enc Tryd.prog w base (fun _ => true) held fuel 22 [.slice a len cap] = some x) : ∃ D, RowTd w a len D := by
  have hm0 : len ≤ maxLen := by
    rcases open_slice Tryd.underlying22 h with ⟨h0, _⟩ | ⟨p, len', cap', m, n, D, Pl, hcs, hb, hl, hm, hmm, hx, hat⟩
    · simp only [List.cons.injEq, and_true] at h0
      cases h0
      exact Nat.zero_le _
    · simp only [List.cons.injEq, and_true] at hcs
      cases hcs
      omega
  have each : ∀ i, i < len → ∃ d : DoT, ∃ bb off, a = some ⟨bb, off, none⟩ ∧ DoTAt w bb (off + i * 10) d := by
    intro i hi
    rcases open_slice Tryd.underlying22 h with ⟨h0, _⟩ | ⟨p, len', cap', m, n, D, Pl, hcs, hb, hl, hm, hmm, hx, hat⟩
    · simp only [List.cons.injEq, and_true] at h0
      cases h0
      omega
    · simp only [List.cons.injEq, and_true] at hcs
      cases hcs
      have hspot : p.spot = none := by
        obtain ⟨cs0, hc0, _⟩ := hat 0 (by rw [hmm]; split <;> omega)
        rw [show Tryd.prog.cellsOf 38 = 10 by kernel_rfl] at hc0
        obtain ⟨_, hl0, hcell0⟩ := World.cells?_some hc0
        have d00 := (hcell0 0 (by omega)).trans (List.getElem?_eq_getElem (by omega))
        simpa [Addr.add] using World.cell?_spot d00
      obtain ⟨cs', hc, ht⟩ := hat i (by rw [hmm]; split <;> omega)
      rw [show Tryd.prog.cellsOf 38 = 10 by kernel_rfl] at hc
      obtain ⟨_, hcl, hcell⟩ := World.cells?_some hc
      obtain ⟨xs, n1, _, _, _, hxl, hf⟩ := DataW.trod_struct Tryd.underlying38 ht
      have f0 := hf 0 _ rfl
      have f1 := hf 1 _ rfl
      have f2 := hf 2 _ rfl
      have f3 := hf 3 _ rfl
      match cs', hcl, xs, hxl with
      | [v0, v1, v2, v3, v4, v5, v6, v7, v8, v9], _, [x0, x1, x2, x3], _ =>
        change DataW.trod enc Tryd.prog w base (fun _ => true) held n1 3 (([v0, v1, v2, v3, v4, v5, v6, v7, v8, v9].drop 0).take (Tryd.prog.cellsOf 3)) = some x0 at f0
        change DataW.trod enc Tryd.prog w base (fun _ => true) held n1 24 (([v0, v1, v2, v3, v4, v5, v6, v7, v8, v9].drop 1).take (Tryd.prog.cellsOf 24)) = some x1 at f1
        change DataW.trod enc Tryd.prog w base (fun _ => true) held n1 36 (([v0, v1, v2, v3, v4, v5, v6, v7, v8, v9].drop 3).take (Tryd.prog.cellsOf 36)) = some x2 at f2
        change DataW.trod enc Tryd.prog w base (fun _ => true) held n1 4 (([v0, v1, v2, v3, v4, v5, v6, v7, v8, v9].drop 9).take (Tryd.prog.cellsOf 4)) = some x3 at f3
        rw [show Tryd.prog.cellsOf 3 = 1 by kernel_rfl] at f0
        rw [show Tryd.prog.cellsOf 24 = 2 by kernel_rfl] at f1
        rw [show Tryd.prog.cellsOf 36 = 6 by kernel_rfl] at f2
        rw [show Tryd.prog.cellsOf 4 = 1 by kernel_rfl] at f3
        change DataW.trod enc Tryd.prog w base (fun _ => true) held n1 3 [v0] = some x0 at f0
        change DataW.trod enc Tryd.prog w base (fun _ => true) held n1 24 [v1, v2] = some x1 at f1
        change DataW.trod enc Tryd.prog w base (fun _ => true) held n1 36 [v3, v4, v5, v6, v7, v8] = some x2 at f2
        change DataW.trod enc Tryd.prog w base (fun _ => true) held n1 4 [v9] = some x3 at f3
        obtain ⟨k0, e0, _, w0⟩ := DataW.trod_int Tryd.underlying3 f0
        obtain ⟨k9, e9, _⟩ := DataW.trod_bool Tryd.underlying4 f3
        obtain ⟨ys, n2, _, _, _, hyl, hg⟩ := DataW.trod_struct Tryd.underlying24 f1
        obtain ⟨zs, n3, _, _, _, hzl, hh⟩ := DataW.trod_struct Tryd.underlying36 f2
        have g0 := hg 0 _ rfl
        have g1 := hg 1 _ rfl
        have h0 := hh 0 _ rfl
        have h1 := hh 1 _ rfl
        have h2 := hh 2 _ rfl
        have h3 := hh 3 _ rfl
        have h4 := hh 4 _ rfl
        have h5 := hh 5 _ rfl
        match ys, hyl, zs, hzl with
        | [y0, y1], _, [z0, z1, z2, z3, z4, z5], _ =>
          change DataW.trod enc Tryd.prog w base (fun _ => true) held n2 3 (([v1, v2].drop 0).take (Tryd.prog.cellsOf 3)) = some y0 at g0
          change DataW.trod enc Tryd.prog w base (fun _ => true) held n2 3 (([v1, v2].drop 1).take (Tryd.prog.cellsOf 3)) = some y1 at g1
          change DataW.trod enc Tryd.prog w base (fun _ => true) held n3 3 (([v3, v4, v5, v6, v7, v8].drop 0).take (Tryd.prog.cellsOf 3)) = some z0 at h0
          change DataW.trod enc Tryd.prog w base (fun _ => true) held n3 3 (([v3, v4, v5, v6, v7, v8].drop 1).take (Tryd.prog.cellsOf 3)) = some z1 at h1
          change DataW.trod enc Tryd.prog w base (fun _ => true) held n3 3 (([v3, v4, v5, v6, v7, v8].drop 2).take (Tryd.prog.cellsOf 3)) = some z2 at h2
          change DataW.trod enc Tryd.prog w base (fun _ => true) held n3 3 (([v3, v4, v5, v6, v7, v8].drop 3).take (Tryd.prog.cellsOf 3)) = some z3 at h3
          change DataW.trod enc Tryd.prog w base (fun _ => true) held n3 3 (([v3, v4, v5, v6, v7, v8].drop 4).take (Tryd.prog.cellsOf 3)) = some z4 at h4
          change DataW.trod enc Tryd.prog w base (fun _ => true) held n3 3 (([v3, v4, v5, v6, v7, v8].drop 5).take (Tryd.prog.cellsOf 3)) = some z5 at h5
          rw [show Tryd.prog.cellsOf 3 = 1 by kernel_rfl] at g0 g1 h0 h1 h2 h3 h4 h5
          change DataW.trod enc Tryd.prog w base (fun _ => true) held n2 3 [v1] = some y0 at g0
          change DataW.trod enc Tryd.prog w base (fun _ => true) held n2 3 [v2] = some y1 at g1
          change DataW.trod enc Tryd.prog w base (fun _ => true) held n3 3 [v3] = some z0 at h0
          change DataW.trod enc Tryd.prog w base (fun _ => true) held n3 3 [v4] = some z1 at h1
          change DataW.trod enc Tryd.prog w base (fun _ => true) held n3 3 [v5] = some z2 at h2
          change DataW.trod enc Tryd.prog w base (fun _ => true) held n3 3 [v6] = some z3 at h3
          change DataW.trod enc Tryd.prog w base (fun _ => true) held n3 3 [v7] = some z4 at h4
          change DataW.trod enc Tryd.prog w base (fun _ => true) held n3 3 [v8] = some z5 at h5
          obtain ⟨k1, e1, _, w1⟩ := DataW.trod_int Tryd.underlying3 g0
          obtain ⟨k2, e2, _, w2⟩ := DataW.trod_int Tryd.underlying3 g1
          obtain ⟨k3, e3, _, w3⟩ := DataW.trod_int Tryd.underlying3 h0
          obtain ⟨k4, e4, _, w4⟩ := DataW.trod_int Tryd.underlying3 h1
          obtain ⟨k5, e5, _, w5⟩ := DataW.trod_int Tryd.underlying3 h2
          obtain ⟨k6, e6, _, w6⟩ := DataW.trod_int Tryd.underlying3 h3
          obtain ⟨k7, e7, _, w7⟩ := DataW.trod_int Tryd.underlying3 h4
          obtain ⟨k8, e8, _, w8⟩ := DataW.trod_int Tryd.underlying3 h5
          simp only [List.cons.injEq, and_true] at e0 e1 e2 e3 e4 e5 e6 e7 e8 e9
          subst e0 e1 e2 e3 e4 e5 e6 e7 e8 e9
          obtain ⟨bb, off, spot⟩ := p
          have d0 := hcell 0 (by omega)
          have d1 := hcell 1 (by omega)
          have d2 := hcell 2 (by omega)
          have d3 := hcell 3 (by omega)
          have d4 := hcell 4 (by omega)
          have d5 := hcell 5 (by omega)
          have d6 := hcell 6 (by omega)
          have d7 := hcell 7 (by omega)
          have d8 := hcell 8 (by omega)
          have d9 := hcell 9 (by omega)
          obtain rfl : spot = none := hspot
          have hadd : ∀ j, (((⟨bb, off, none⟩ : Addr).add (i * 10)).add j) = ⟨bb, off + i * 10 + j, none⟩ := fun j => by unfold Addr.add; split <;> split <;> simp_all
          rw [hadd] at d0 d1 d2 d3 d4 d5 d6 d7 d8 d9
          exact ⟨⟨k0, k1, k2, k3, k4, k5, k6, k7, k8, k9⟩, bb, off, rfl, d0, d1, d2, d3, d4, d5, d6, d7, d8, d9⟩
  exact ⟨fun i => if h : i < len then (each i h).choose else default, hm0, fun i hi => by
    obtain ⟨bb, off, h1, h2⟩ := (each i hi).choose_spec
    refine ⟨bb, off, h1, ?_⟩
    simp only [dif_pos hi]
    exact h2⟩
end Go.Proofs.YtpbckjagiebmjaaDoor
