/- Package heap's down over a queue. By the verifier of shale. -/
import Derived.Test.YtaaegkjbmomjbaaDoorPoHeap
namespace Go.Proofs.YtaaegkjbmomjbaaDoor.Po
open Go Go.RowKit Hp
set_option linter.unusedVariables false
set_option linter.unusedSimpArgs false
theorem mLess {w : World} {qb : Nat} {v : Value} (hv : w.cell? ⟨qb, 0, none⟩ = some v) (F : Nat) : (method (F + 1) 62 (.pointer (some ⟨qb, 0, none⟩)) "Less").run Tryd.prog w = .ok (64, v) w := methQ (.inr (.inl ⟨rfl, rfl⟩)) hv F
theorem mLen {w : World} {qb : Nat} {v : Value} (hv : w.cell? ⟨qb, 0, none⟩ = some v) (F : Nat) : (method (F + 1) 62 (.pointer (some ⟨qb, 0, none⟩)) "Len").run Tryd.prog w = .ok (63, v) w := methQ (.inl ⟨rfl, rfl⟩) hv F
theorem mSwap {w : World} {qb : Nat} {v : Value} (hv : w.cell? ⟨qb, 0, none⟩ = some v) (F : Nat) : (method (F + 1) 62 (.pointer (some ⟨qb, 0, none⟩)) "Swap").run Tryd.prog w = .ok (65, v) w := methQ (.inr (.inr ⟨rfl, rfl⟩)) hv F
def DownPost (w : World) (base qb : Nat) (ty : TypeId) (g N c : Nat) (L : List It) (n lo i0 : Nat) (e : Ending) (w' : World) : Prop := ∃ m moved, e = .returned (.bool moved) ∧ DnEnd L n lo i0 m moved ∧ HpAt w' base qb ty g N c m ∧ Only g w w'
def DownI (w : World) (base qb : Nat) (ty : TypeId) (g N c : Nat) (L : List It) (n lo i0 : Nat) (m : List It) (i : Nat) (wx : World) : Prop := Dn L n lo i0 m i ∧ HpAt wx base qb ty g N c m ∧ Only g w wx
set_option maxHeartbeats 1000000 in
theorem down_any {w : World} {base qb : Nat} {ty : TypeId} {g N c : Nat} {L : List It} (H : HpAt w base qb ty g N c L) {n lo i0 : Nat} (hn : n ≤ N) (hN : N ≤ 1000000) (hpre : ∀ c, 0 < c → c < n → lo ≤ (c - 1) / 2 → (c - 1) / 2 ≠ i0 → c ≠ i0 → ok L c) (hlo : lo ≤ i0) (h0 : i0 ≤ 1000000) :
    Calls Tryd.prog 39 #[.iface 62 (.pointer (some ⟨qb, 0, none⟩)), .int .i64 (i0 : Int), .int .i64 (n : Int)] w (DownPost w base qb ty g N c L n lo i0) := by
  have HS : Hid (DownI w base qb ty g N c L n lo i0 L i0 w) := ⟨Dn.start hpre hlo (by rw [H.len]; exact hn), H, Only.refl _ _⟩
  have HN := Lib.hid (And.intro hn (And.intro hN h0))
  clear H hpre hlo hn hN h0
  go_enter Tryd.func39, Tryd.ntmps39
  go_wp2_with fail
  go_loopg [7] (n - i0) (fun gh s7 wx => ∃ (i : Nat) (m : List It), gh = n - i ∧ s7 = .int .i64 (i : Int) ∧ Hid (DownI w base qb ty g N c L n lo i0 m i wx))
  case atStart => exact ⟨i0, L, rfl, rfl, HS⟩
  case round =>
    clear HS
    obtain ⟨i, m, hg, rfl, HX⟩ := hrel
    have HG := Lib.hid hg
    have hile := HX.out.1.le
    have hnn := HN.out
    have b0 : (0 : Int) ≤ (i : Int) := by omega
    have b1 : (i : Int) ≤ 1000000 := by omega
    have b2 : (n : Int) ≤ 1000000 := by omega
    clear hg
    by_cases hc : i * 2 + 1 < n
    · have d1 : decide ((n : Int) ≤ 2 * (i : Int) + 1) = false := decide_eq_false (by omega)
      have d2 : decide (2 * (i : Int) + 1 < 0) = false := decide_eq_false (by omega)
      have HI : Hid (i < N) := by show i < N; omega
      clear hile hnn
      go_upto_region 6 with (fail)
      obtain ⟨j1, hj1⟩ : ∃ j1, j1 = i * 2 + 1 := ⟨_, rfl⟩
      obtain ⟨j2, hj2⟩ : ∃ j2, j2 = i * 2 + 2 := ⟨_, rfl⟩
      have e1 : 2 * (i : Int) + 1 = (j1 : Int) := by omega
      have e2 : 2 * (i : Int) + 1 + 1 = (j2 : Int) := by omega
      rw [e2, e1]
      have hj1n : j1 < n := by omega
      clear d1 d2 e1 e2
      have HJ := Lib.hid (And.intro hj1 hj2)
      have kids : ∀ c, 0 < c → (c - 1) / 2 = i → c = j1 ∨ c = j2 := by intro c h0 h; omega
      have HKI := Lib.hid kids
      clear hj1 hj2 hc kids
      by_cases hc2 : j2 < n
      · have d3 : decide (j2 < n) = true := decide_eq_true hc2
        have HK := Lib.hid (And.intro hj1n hc2)
        have HL := Lib.hid (qless HX.out.2.1 (i := j2) (j := j1) (by have := HN.out; omega) (by have := HN.out; omega))
        have hm := mLess HX.out.2.1.cell
        clear hj1n hc2
        cases hb : Lt.lt (m[j2]!) (m[j1]!)
        · rw [hb] at HL
          have HB1 := Lib.hid hb
          clear hb
          go_wp2_with fail
          refine HL.out.mono ?_
          rintro e' w' ⟨rfl, hq, ho⟩
          replace HX : Hid (DownI w base qb ty g N c L n lo i0 m i w') := ⟨HX.out.1, hq, HX.out.2.2.trans ho⟩
          clear hm HL hq ho
          have HL2 := Lib.hid (qless HX.out.2.1 (i := j1) (j := i) (by have := HN.out; have := HK.out; omega) HI.out)
          have hm := mLess HX.out.2.1.cell
          cases hb : Lt.lt (m[j1]!) (m[i]!)
          · rw [hb] at HL2
            have HB := Lib.hid hb
            clear hb
            go_wp2_with fail
            refine HL2.out.mono ?_
            rintro e' w' ⟨rfl, hq, ho⟩
            have HF : Hid (DownPost w base qb ty g N c L n lo i0 (.returned (.bool (decide (i0 < i)))) w') := ⟨m, _, rfl, HX.out.1.stop (fun c h0 hc' hp => by unfold ok; rw [hp]; rcases HKI.out c h0 hp with rfl | rfl; exact HB.out; exact Lt.tr _ _ _ HB.out HB1.out), hq, HX.out.2.2.trans ho⟩
            clear hq ho hm HL2
            go_wp2_with fail
            go_ret
            exact HF.out
          · rw [hb] at HL2
            have HB := Lib.hid hb
            clear hb
            go_wp2_with fail
            refine HL2.out.mono ?_
            rintro e' w' ⟨rfl, hq, ho⟩
            have HX2 := Lib.hid (And.intro hq (HX.out.2.2.trans ho))
            have HS := Lib.hid (qswap hq (i := i) (j := j1) HI.out (by have := HN.out; have := HK.out; omega))
            clear hm HL2
            have hm := mSwap hq.cell
            clear hq ho
            go_wp2_with fail
            refine HS.out.mono ?_
            rintro e' w' ⟨rfl, hq, ho⟩
            have HN2 : Hid (DownI w base qb ty g N c L n lo i0 (swapL m i j1) j1 w') := ⟨HX.out.1.step (by have := HJ.out; omega) (by have := HJ.out; omega) HK.out.1 (fun c h0 hc' hp => by rcases HKI.out c h0 hp with rfl | rfl; exact irr _; exact HB1.out) HB.out, hq, HX2.out.2.trans ho⟩
            clear hm hq ho HS
            go_wp2_with fail
            go_roundg (n - j1)
            case measure => have := HG.out; have := HJ.out; have := HK.out.1; omega
            case rel => exact ⟨j1, _, rfl, rfl, HN2⟩
        · rw [hb] at HL
          have HB1 := Lib.hid hb
          clear hb
          go_wp2_with fail
          refine HL.out.mono ?_
          rintro e' w' ⟨rfl, hq, ho⟩
          replace HX : Hid (DownI w base qb ty g N c L n lo i0 m i w') := ⟨HX.out.1, hq, HX.out.2.2.trans ho⟩
          clear hm HL hq ho
          have HL2 := Lib.hid (qless HX.out.2.1 (i := j2) (j := i) (by have := HN.out; have := HK.out; omega) HI.out)
          have hm := mLess HX.out.2.1.cell
          cases hb : Lt.lt (m[j2]!) (m[i]!)
          · rw [hb] at HL2
            have HB := Lib.hid hb
            clear hb
            go_wp2_with fail
            refine HL2.out.mono ?_
            rintro e' w' ⟨rfl, hq, ho⟩
            have HF : Hid (DownPost w base qb ty g N c L n lo i0 (.returned (.bool (decide (i0 < i)))) w') := ⟨m, _, rfl, HX.out.1.stop (fun c h0 hc' hp => by unfold ok; rw [hp]; rcases HKI.out c h0 hp with rfl | rfl; exact Lt.tr _ _ _ HB.out (Lt.asym _ _ HB1.out); exact HB.out), hq, HX.out.2.2.trans ho⟩
            clear hq ho hm HL2
            go_wp2_with fail
            go_ret
            exact HF.out
          · rw [hb] at HL2
            have HB := Lib.hid hb
            clear hb
            go_wp2_with fail
            refine HL2.out.mono ?_
            rintro e' w' ⟨rfl, hq, ho⟩
            have HX2 := Lib.hid (And.intro hq (HX.out.2.2.trans ho))
            have HS := Lib.hid (qswap hq (i := i) (j := j2) HI.out (by have := HN.out; have := HK.out; omega))
            clear hm HL2
            have hm := mSwap hq.cell
            clear hq ho
            go_wp2_with fail
            refine HS.out.mono ?_
            rintro e' w' ⟨rfl, hq, ho⟩
            have HN2 : Hid (DownI w base qb ty g N c L n lo i0 (swapL m i j2) j2 w') := ⟨HX.out.1.step (by have := HJ.out; omega) (by have := HJ.out; omega) HK.out.2 (fun c h0 hc' hp => by rcases HKI.out c h0 hp with rfl | rfl; exact Lt.asym _ _ HB1.out; exact irr _) HB.out, hq, HX2.out.2.trans ho⟩
            clear hm hq ho HS
            go_wp2_with fail
            go_roundg (n - j2)
            case measure => have := HG.out; have := HJ.out; have := HK.out.2; omega
            case rel => exact ⟨j2, _, rfl, rfl, HN2⟩
      · have d3 : decide (j2 < n) = false := decide_eq_false hc2
        have HK := Lib.hid (And.intro hj1n hc2)
        clear hj1n hc2
        have HL2 := Lib.hid (qless HX.out.2.1 (i := j1) (j := i) (by have := HN.out; have := HK.out; omega) HI.out)
        have hm := mLess HX.out.2.1.cell
        cases hb : Lt.lt (m[j1]!) (m[i]!)
        · rw [hb] at HL2
          have HB := Lib.hid hb
          clear hb
          go_wp2_with fail
          refine HL2.out.mono ?_
          rintro e' w' ⟨rfl, hq, ho⟩
          have HF : Hid (DownPost w base qb ty g N c L n lo i0 (.returned (.bool (decide (i0 < i)))) w') := ⟨m, _, rfl, HX.out.1.stop (fun c h0 hc' hp => by unfold ok; rw [hp]; rcases HKI.out c h0 hp with rfl | rfl; exact HB.out; exact absurd hc' HK.out.2), hq, HX.out.2.2.trans ho⟩
          clear hq ho hm HL2
          go_wp2_with fail
          go_ret
          exact HF.out
        · rw [hb] at HL2
          have HB := Lib.hid hb
          clear hb
          go_wp2_with fail
          refine HL2.out.mono ?_
          rintro e' w' ⟨rfl, hq, ho⟩
          have HX2 := Lib.hid (And.intro hq (HX.out.2.2.trans ho))
          have HS := Lib.hid (qswap hq (i := i) (j := j1) HI.out (by have := HN.out; have := HK.out; omega))
          clear hm HL2
          have hm := mSwap hq.cell
          clear hq ho
          go_wp2_with fail
          refine HS.out.mono ?_
          rintro e' w' ⟨rfl, hq, ho⟩
          have HN2 : Hid (DownI w base qb ty g N c L n lo i0 (swapL m i j1) j1 w') := ⟨HX.out.1.step (by have := HJ.out; omega) (by have := HJ.out; omega) HK.out.1 (fun c h0 hc' hp => by rcases HKI.out c h0 hp with rfl | rfl; exact irr _; exact absurd hc' HK.out.2) HB.out, hq, HX2.out.2.trans ho⟩
          clear hm hq ho HS
          go_wp2_with fail
          go_roundg (n - j1)
          case measure => have := HG.out; have := HJ.out; have := HK.out.1; omega
          case rel => exact ⟨j1, _, rfl, rfl, HN2⟩
    · have hc2 : (n : Int) ≤ (2 * (i : Int) + 1) := by omega
      have d1 : decide ((n : Int) ≤ 2 * (i : Int) + 1) = true := decide_eq_true (by omega)
      clear hile hnn
      go_wp2_with fail
      go_ret
      exact ⟨m, decide (i0 < i), rfl, HX.out.1.stop (fun c h0 hc' hp => by omega), HX.out.2⟩
end Go.Proofs.YtaaegkjbmomjbaaDoor.Po
