/- Package heap's Init over a queue; a queue filled. By the verifier of shale. -/
import Derived.Test.YtaaegkjbmomjbaaDoorPoIs
namespace Go.Proofs.YtaaegkjbmomjbaaDoor.Po
open Go Go.RowKit Hp
set_option linter.unusedVariables false
set_option linter.unusedSimpArgs false
def InitPost (w : World) (base qb : Nat) (ty : TypeId) (v : Value) (L : List It) (e : Ending) (w' : World) : Prop := ∃ m, e = .returned (.tuple #[]) ∧ Heaped w' base qb ty v m ∧ List.Perm m L ∧ Tn (qbl qb v) w w' (qbl qb v)
def InitI (w : World) (base qb : Nat) (ty : TypeId) (g N c : Nat) (L : List It) (j : Nat) (m : List It) (wx : World) : Prop := HpAt wx base qb ty g N c m ∧ HeapFrom m N j ∧ List.Perm m L ∧ Only g w wx
set_option maxHeartbeats 1000000 in
theorem init_any {w : World} {base qb : Nat} {ty : TypeId} {v : Value} {L : List It} (Q : QAt w base qb ty v L) (hL : L.length ≤ 1000) :
    Calls Tryd.prog 33 #[.iface 62 (.pointer (some ⟨qb, 0, none⟩))] w (InitPost w base qb ty v L) := by
  by_cases h0 : L.length = 0
  · have hLn : L = [] := List.length_eq_zero_iff.1 h0
    obtain ⟨a, c, rfl, _⟩ := row_sliceP Q.row
    have hm := mLen Q.cell.1
    rw [h0] at hm
    have HLN := Lib.hid (qlen_any a 0 c w)
    have HF : Hid (InitPost w base qb ty (.slice a L.length c) L (.returned (.tuple #[])) w) := ⟨L, rfl, ⟨Q, fun k h1 h2 => absurd h2 (by omega)⟩, List.Perm.refl _, Tn.refl _ _⟩
    clear Q hLn h0
    go_enter Tryd.func33, Tryd.ntmps33
    go_wp2_with fail
    refine HLN.out.mono ?_
    rintro e w1' ⟨rfl, rfl⟩
    clear hm HLN
    go_wp2_with fail
    go_loop [3] (fun s3 => s3 = .int .i64 (-1)) (fun s3 => 0)
    case atStart => rfl
    case round =>
      subst hrel
      go_wp2_with fail
      go_end0
      exact HF.out
  · obtain ⟨a, c, rfl, hnc, hmx, hcell, hne⟩ := row_sliceP Q.row
    cases a with
    | none => exact absurd rfl (hne (by omega))
    | some p =>
      obtain ⟨g, rfl, _⟩ := hcell p rfl
      obtain ⟨N, hN⟩ : ∃ N, N = L.length := ⟨_, rfl⟩
      have H : HpAt w base qb ty g N c L := ⟨by rw [hN]; exact Q, hN.symm⟩
      rw [← hN] at hL h0 ⊢
      obtain ⟨j0, hj0⟩ : ∃ j0, j0 = N / 2 := ⟨_, rfl⟩
      have HS : Hid (InitI w base qb ty g N c L j0 L w) := ⟨H, fun k h1 h2 h3 => absurd h3 (by omega), List.Perm.refl _, Only.refl _ _⟩
      have hm := mLen H.cell
      have HLN := Lib.hid (qlen_any (some ⟨g, 0, none⟩) N c w)
      have e1 : (N : Int).tdiv 2 = (j0 : Int) := by rw [Int.tdiv_eq_ediv_of_nonneg (by omega)]; omega
      have e2 : (N : Int) / 2 = (j0 : Int) := by omega
      have b0 : (0 : Int) ≤ (N : Int) := by omega
      have b1 : (N : Int) ≤ 1000 := by omega
      have HN := Lib.hid (And.intro hN (And.intro hL hj0))
      clear Q H hnc hmx hcell hne hN h0 hj0
      go_enter Tryd.func33, Tryd.ntmps33
      go_wp2_with fail
      refine HLN.out.mono ?_
      rintro e w1' ⟨rfl, rfl⟩
      clear hm HLN
      go_wp2_with fail
      have e3 : (j0 : Int) - 1 = (j0 : Int) - 1 := rfl
      clear e3
      go_loopg [3] j0 (fun gh s3 wx => ∃ (j : Nat) (m : List It), gh = j ∧ j ≤ j0 ∧ s3 = .int .i64 ((j : Int) - 1) ∧ Hid (InitI w base qb ty g N c L j m wx))
      case atStart => exact ⟨j0, L, rfl, Nat.le_refl _, rfl, HS⟩
      case round =>
        clear HS e1 e2
        obtain ⟨j, m, hg, hjj, rfl, HX⟩ := hrel
        have HG := Lib.hid (And.intro hg hjj)
        clear hg
        by_cases hz : j = 0
        · subst hz
          have HF : Hid (InitPost w base qb ty (.slice (some ⟨g, 0, none⟩) N c) L (.returned (.tuple #[])) wr) := ⟨m, rfl, ⟨HX.out.1.q, by rw [HX.out.1.len]; exact HX.out.2.1⟩, HX.out.2.2.1, only_tn HX.out.2.2.2⟩
          clear hjj
          go_wp2_with fail
          go_end0
          exact HF.out
        · obtain ⟨i, hi⟩ : ∃ i, j = i + 1 := ⟨j - 1, by omega⟩
          have e5 : (j : Int) - 1 = (i : Int) := by omega
          rw [e5]
          have y0 : (0 : Int) ≤ (i : Int) := by omega
          have y1 : (i : Int) ≤ 1000 := by have := HN.out; omega
          have HI := Lib.hid hi
          have HD := Lib.hid (down_any HX.out.1 (n := N) (lo := i) (i0 := i) (Nat.le_refl _) (by omega) (HeapFrom.pre (by rw [← hi]; exact HX.out.2.1)) (Nat.le_refl _) (by have := HN.out; omega))
          clear hz hi e5 hjj
          go_wp2_with fail
          refine HD.out.mono ?_
          rintro e w2 ⟨m2, r, rfl, d2, h2, o2⟩
          have HN2 : Hid (InitI w base qb ty g N c L i m2 w2) := ⟨h2, d2.init, d2.perm.trans HX.out.2.2.1, HX.out.2.2.2.trans o2⟩
          clear d2 h2 o2 HD
          go_wp2_with fail
          go_roundg i
          case measure => have := HG.out; have := HI.out; omega
          case rel => exact ⟨i, m2, rfl, by have := HG.out; have := HI.out; omega, rfl, HN2⟩
end Go.Proofs.YtaaegkjbmomjbaaDoor.Po
