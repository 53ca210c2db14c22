/- The document's pool: its Most. By the verifier of shale. -/
import Derived.Test.YtaaegkjbmomjbaaDoorPoRef
import Derived.Lib.QuietBelow
namespace Go.Proofs.YtaaegkjbmomjbaaDoor.Po
open Go Go.RowKit Hp
set_option linter.unusedVariables false
set_option linter.unusedSimpArgs false
/-- where the most worn of the first i stands. -/
def MostAt (R : List It) (i : Nat) : Option Nat → Prop
  | none => i = 0
  | some k => k < i ∧ Top R (R[k]!) (i - 1)
def optI : Option Nat → Int
  | none => -1
  | some j => (j : Int)
def RMost (w : World) (R : List It) (e : Ending) (w' : World) : Prop := ∃ l, MostAt R R.length l ∧ e = .returned (.int .i64 (optI l)) ∧ Below w.heap.size w w'
set_option maxRecDepth 100000 in
set_option maxHeartbeats 4000000 in
theorem rmost_any {w : World} {base xb c : Nat} {a : Option Addr} {R : List It} (Q : RefP w base xb a c R) (hL : R.length ≤ 1000) :
    Calls Tryd.prog 16 #[.pointer (some ⟨xb, 0, none⟩)] w (RMost w R) := by
  obtain ⟨n, hn⟩ : ∃ n, n = R.length := ⟨_, rfl⟩
  have HQ := Lib.hid (And.intro Q (And.intro hn hL))
  have hkw : ∀ W, Below w.heap.size w W → W.cell? ⟨xb, 0, none⟩ = some (.slice a n c) := fun W d => by rw [hn]; exact (Q.below d).cell.1
  have HK := Lib.hid hkw
  rw [← hn] at hL
  clear Q hn hkw
  have H0 : Hid (Below w.heap.size w w) := Below.refl _ w
  go_enter Tryd.func16, Tryd.ntmps16
  go_wp2_with fail
  go_loopg [3, 4] n (fun gh s3 s4 wx => ∃ (i : Nat) (l : Option Nat), gh = n - i ∧ i ≤ n ∧ s3 = .int .i64 (optI l) ∧ s4 = .int .i64 (i : Int) ∧ Hid (Below w.heap.size w wx ∧ MostAt R i l))
  case atStart => exact ⟨0, none, rfl, Nat.zero_le _, rfl, rfl, H0.out, rfl⟩
  case round =>
    clear H0
    obtain ⟨i, l, hg, hin, rfl, rfl, HX⟩ := hrel
    have HG := Lib.hid (And.intro hg hin)
    have x0 : (0 : Int) ≤ (i : Int) := by omega
    have x2 : (i : Int) ≤ 1000 := by omega
    have k0 := HK.out wr HX.out.1
    clear hg hin
    by_cases hlt : i < n
    · have x1 : (i : Int) < (n : Int) := by omega
      have x1' : i < n := hlt
      have HL := Lib.hid hlt
      obtain ⟨g, q, rfl, _, c0, c1⟩ := (HQ.out.1.below HX.out.1).item (i := i) (by rw [← HQ.out.2.1]; exact hlt)
      clear hlt
      cases l with
      | none =>
        have HI : Hid (MostAt R (i + 1) (some i)) := by
          have h : i = 0 := HX.out.2
          subst h
          exact ⟨by omega, Top.zero R⟩
        rw [show optI none = -1 from rfl]
        clear c0 c1
        go_upto_region 5 with (fail)
        replace k0 := cell_regrown k0
        refine wp_region_quiet_below (by kernel_rfl) (by kernel_rfl) ?_
        repeat (go_big_quiet_step (fail))
        refine wpQuiet_nil ?_
        intro _ hw'
        obtain ⟨⟨dq, osq⟩, hw''⟩ := hw'
        subst hw''
        have b5 := below_regrown wr dq osq
        generalize Sort.grow (redrawn wr dq) osq = w5 at b5 ⊢
        have HD := Lib.hid (HX.out.1.trans (b5.mono HX.out.1.size))
        clear b5
        go_wp2_with fail
        go_roundg (n - (i + 1))
        case measure => have := HG.out; have := HL.out; omega
        case rel => exact ⟨i + 1, some i, rfl, HL.out, rfl, by go_num, HD.out, HI.out⟩
      | some k =>
        rw [show optI (some k) = (k : Int) from rfl]
        obtain ⟨hki, htop⟩ := HX.out.2
        obtain ⟨g', q', e, _, d0, d1⟩ := (HQ.out.1.below HX.out.1).item (i := k) (by rw [← HQ.out.2.1]; have := HL.out; omega)
        cases e
        have hnew := fun hm => Top.new htop hm
        have hold := fun hm => Top.old htop hm
        rw [show i - 1 + 1 = i from by omega] at hnew hold
        obtain ⟨x, hx⟩ : ∃ x, x = R[i]! := ⟨_, rfl⟩
        obtain ⟨m, hm⟩ : ∃ m, m = R[k]! := ⟨_, rfl⟩
        rw [← hm] at d0 d1 hnew hold
        rw [← hx] at c0 c1
        have HNO : Hid ((more x m → MostAt R (i + 1) (some i)) ∧ (¬ more x m → MostAt R (i + 1) (some k))) := by
          refine ⟨fun h => ⟨by omega, ?_⟩, fun h => ⟨by omega, ?_⟩⟩
          · rw [hx] at h; exact hnew h
          · rw [hx] at h; rw [← hm]; exact hold h
        have y0 : (0 : Int) ≤ (k : Int) := by omega
        have y1 : (k : Int) < (n : Int) := by have := HL.out; omega
        have y2 : k < n := by have := HL.out; omega
        have q0 : decide ((k : Int) < 0) = false := decide_eq_false (by omega)
        clear hki htop hnew hold hx hm
        go_upto_region 5 with (fail)
        replace k0 := cell_regrown k0
        replace c0 := cell_regrown c0
        replace c1 := cell_regrown c1
        replace d0 := cell_regrown d0
        replace d1 := cell_regrown d1
        by_cases g1 : m.w < x.w
        · have q1 : decide (m.w < x.w) = true := decide_eq_true g1
          have HI := Lib.hid (HNO.out.1 (.inl g1))
          clear g1
          refine wp_region_quiet_below (by kernel_rfl) (by kernel_rfl) ?_
          repeat (go_big_quiet_step (fail))
          refine wpQuiet_nil ?_
          intro _ hw'
          obtain ⟨⟨dq, osq⟩, hw''⟩ := hw'
          subst hw''
          have b5 := below_regrown wr dq osq
          generalize Sort.grow (redrawn wr dq) osq = w5 at b5 ⊢
          have HD := Lib.hid (HX.out.1.trans (b5.mono HX.out.1.size))
          clear b5
          go_wp2_with fail
          go_roundg (n - (i + 1))
          case measure => have := HG.out; have := HL.out; omega
          case rel => exact ⟨i + 1, some i, rfl, HL.out, rfl, by go_num, HD.out, HI.out⟩
        · have q1 : decide (m.w < x.w) = false := decide_eq_false g1
          by_cases g2 : x.w = m.w
          · have q2 : (x.w == m.w) = true := by rw [g2]; exact beq_self_eq_true _
            by_cases g3 : x.b < m.b
            · have q3 : decide (x.b < m.b) = true := decide_eq_true g3
              have HI := Lib.hid (HNO.out.1 (.inr ⟨g2, g3⟩))
              clear g1 g2 g3
              refine wp_region_quiet_below (by kernel_rfl) (by kernel_rfl) ?_
              repeat (go_big_quiet_step (fail))
              refine wpQuiet_nil ?_
              intro _ hw'
              obtain ⟨⟨dq, osq⟩, hw''⟩ := hw'
              subst hw''
              have b5 := below_regrown wr dq osq
              generalize Sort.grow (redrawn wr dq) osq = w5 at b5 ⊢
              have HD := Lib.hid (HX.out.1.trans (b5.mono HX.out.1.size))
              clear b5
              go_wp2_with fail
              go_roundg (n - (i + 1))
              case measure => have := HG.out; have := HL.out; omega
              case rel => exact ⟨i + 1, some i, rfl, HL.out, rfl, by go_num, HD.out, HI.out⟩
            · have q3 : decide (x.b < m.b) = false := decide_eq_false g3
              have HI := Lib.hid (HNO.out.2 (by unfold more; omega))
              clear g1 g2 g3
              refine wp_region_quiet_below (by kernel_rfl) (by kernel_rfl) ?_
              repeat (go_big_quiet_step (fail))
              refine wpQuiet_nil ?_
              intro _ hw'
              obtain ⟨⟨dq, osq⟩, hw''⟩ := hw'
              subst hw''
              have b5 := below_regrown wr dq osq
              generalize Sort.grow (redrawn wr dq) osq = w5 at b5 ⊢
              have HD := Lib.hid (HX.out.1.trans (b5.mono HX.out.1.size))
              clear b5
              go_wp2_with fail
              go_roundg (n - (i + 1))
              case measure => have := HG.out; have := HL.out; omega
              case rel => exact ⟨i + 1, some k, rfl, HL.out, rfl, by go_num, HD.out, HI.out⟩
          · have q2 : (x.w == m.w) = false := by rw [beq_eq_false_iff_ne]; exact g2
            have HI := Lib.hid (HNO.out.2 (by unfold more; omega))
            clear g1 g2
            refine wp_region_quiet_below (by kernel_rfl) (by kernel_rfl) ?_
            repeat (go_big_quiet_step (fail))
            refine wpQuiet_nil ?_
            intro _ hw'
            obtain ⟨⟨dq, osq⟩, hw''⟩ := hw'
            subst hw''
            have b5 := below_regrown wr dq osq
            generalize Sort.grow (redrawn wr dq) osq = w5 at b5 ⊢
            have HD := Lib.hid (HX.out.1.trans (b5.mono HX.out.1.size))
            clear b5
            go_wp2_with fail
            go_roundg (n - (i + 1))
            case measure => have := HG.out; have := HL.out; omega
            case rel => exact ⟨i + 1, some k, rfl, HL.out, rfl, by go_num, HD.out, HI.out⟩
    · obtain rfl : n = i := by have := HG.out.2; omega
      have HF : Hid (RMost w R (.returned (.int .i64 (optI l))) wr) := ⟨l, by rw [← HQ.out.2.1]; exact HX.out.2, rfl, HX.out.1⟩
      go_wp2_with fail
      go_ret
      exact HF.out
end Go.Proofs.YtaaegkjbmomjbaaDoor.Po
