/- The walk over a table's New. By the verifier of shale. -/
import Derived.Test.YtpbckjagiebmjaaDoorTbNew
import Derived.Deep.RegionLaw
namespace Go.Proofs.YtpbckjagiebmjaaDoor.Tb
open Go Go.RowKit
set_option linter.unusedVariables false
set_option linter.unusedSimpArgs false
/-- what New makes. -/
def MadeT (w : World) (B P : Nat) (e : Ending) (w' : World) : Prop := ∃ tb mb ob cO kb, e = .returned (.tuple #[.pointer (some ⟨tb, 0, none⟩), .nilIface]) ∧ TabAt w' w.heap.size tb mb ob B P cO kb (fun _ _ => -1) (fun _ => none) 0 0 ∧ Below w.heap.size w w'
theorem made_of {w wx : World} {tb mb P B : Nat} {v : Value} {kb : Nat → Nat} (h : NewI w tb mb P B v kb wx) (hB : 0 < B) (hB64 : B ≤ 64) (hP : 0 < P) (hP64 : P ≤ 64) (hm : w.heap.size ≤ mb) (hmt : mb < tb) : ∃ ob cO, v = .slice (some ⟨ob, 0, none⟩) B cO ∧ TabAt wx w.heap.size tb mb ob B P cO kb (fun _ _ => -1) (fun _ => none) 0 0 := by
  obtain ⟨ob, cO, rfl, hob, hol⟩ := h.row.form hB
  have hcap : B ≤ cO ∧ cO ≤ maxLen := by
    rcases h.row.2 with ⟨_, h0⟩ | ⟨g, cap, cur, hv, _, _, h3, h4, _⟩
    · omega
    · cases hv; exact ⟨h3, h4⟩
  refine ⟨ob, cO, rfl, h.blk, ?_, fun b hb => ?_, fun b hb => ?_, h.inj, ⟨by omega, hm, by omega, by omega, by omega, by omega, fun b hb => ?_⟩, ⟨hB, hB64, hP, hP64, hcap⟩, (fun k s hs => by cases hs), fun b p hb hp hn => absurd rfl hn⟩
  · exact MapAt.fresh h.map
  · have hc := h.row.cells (g := ob) rfl
    have := hc b (.slice (some ⟨kb b, 0, none⟩) P P) (by unfold rowsV; simp [hb])
    have hadd : (⟨ob, 0, none⟩ : Addr).add b = ⟨ob, b, none⟩ := by by_cases h : b = 0 <;> simp [Addr.add, h]
    rwa [hadd] at this
  · have h1 := (h.rows b hb).1
    have : (List.range P).map (fun _ => (-1 : Int)) = List.replicate P (-1) := by
      apply List.ext_getElem?
      intro j
      by_cases hj : j < P
      · simp [hj]
      · simp [hj]
    show Blk64 wx (kb b) ((List.range P).map fun _ => (-1 : Int))
    rw [this]
    exact h1
  · obtain ⟨_, h2, h3⟩ := h.rows b hb
    exact ⟨by omega, by omega, by omega, fun e => h3 (by rw [e]; rfl)⟩
set_option maxRecDepth 100000 in
set_option maxHeartbeats 2000000 in
theorem new_any {B P : Nat} (hB : 0 < B) (hB64 : B ≤ 64) (hP : 0 < P) (hP64 : P ≤ 64) (w : World) : Calls Tryd.prog 7 #[.int .i64 (B : Int), .int .i64 (P : Int)] w (MadeT w B P) := by
  obtain ⟨i0, hi, hz0, hz1, hz2⟩ := infoR
  have t1 : decide ((B : Int) < 1) = false := decide_eq_false (by omega)
  have t2 : decide ((64 : Int) < (B : Int)) = false := decide_eq_false (by omega)
  have t3 : decide ((P : Int) < 1) = false := decide_eq_false (by omega)
  have t4 : decide ((64 : Int) < (P : Int)) = false := decide_eq_false (by omega)
  have HBP := Lib.hid (And.intro hB (And.intro hB64 (And.intro hP hP64)))
  have hmk : (Instr.makeMap 69 none).run Tryd.prog w = .ok (.map (some w.heap.size)) (w.alloc (.map #[] 0)) := run_makeMap _ _
  go_enter Tryd.func7, Tryd.ntmps7
  go_upto_region 4 with (fail)
  clear t1 t2 t3 t4 hmk
  generalize hw : w.alloc (.map #[] 0) = w1
  have hs1 : w1.heap.size = w.heap.size + 1 := by rw [← hw]; simp
  have K1 : w1.heap[w.heap.size]? = some (.map #[] 0) := by rw [← hw]; exact heap_alloc_new w _
  have b1 : Below w.heap.size w w1 := by rw [← hw]; exact (Below.refl _ _).alloc (Nat.le_refl _) _
  clear hw
  rw [← hs1]
  generalize hw : w1.alloc (.cells #[.map (some w.heap.size), .slice none 0 0] 72 (0, 0)) = w2
  have K2 : w2.heap[w1.heap.size]? = some (.cells #[.map (some w.heap.size), .slice none 0 0] 72 (0, 0)) := by rw [← hw]; exact heap_alloc_new w1 _
  have b2 : Below w1.heap.size w1 w2 := by rw [← hw]; exact (Below.refl _ _).alloc (Nat.le_refl _) _
  clear hw
  obtain ⟨mb, hmb⟩ : ∃ mb, mb = w.heap.size := ⟨_, rfl⟩
  obtain ⟨tb, htb⟩ : ∃ tb, tb = w1.heap.size := ⟨_, rfl⟩
  rw [← hmb] at K1 K2 ⊢
  rw [← htb] at K2 ⊢
  have HMT : Hid (w.heap.size ≤ mb ∧ mb < tb) := ⟨by omega, by omega⟩
  have HN0 : Hid (NewI w tb mb P 0 (.slice none 0 0) (fun _ => 0) w2) := ⟨K2, (b2.block mb (lt_of_block K1)).trans K1, World.ownsRow_nil _ _ _ _, fun b hb => absurd hb (Nat.not_lt_zero b), fun a b ha => absurd ha (Nat.not_lt_zero a), b1.trans (b2.mono b1.size)⟩
  clear K1 K2 b1 b2 hs1 hmb htb
  go_wp2_with fail
  go_loopg [26] B (fun gh s26 wx => ∃ i : Nat, gh = B - i ∧ i ≤ B ∧ s26 = .int .i64 (i : Int) ∧ ∃ v kb, Hid (NewI w tb mb P i v kb wx))
  case atStart => exact ⟨0, rfl, Nat.zero_le _, rfl, _, _, HN0⟩
  case round =>
    clear HN0
    obtain ⟨i, hg, hk, rfl, v, kb, HX⟩ := hrel
    have HI := Lib.hid hg
    clear hg
    by_cases hlt : i < B
    · have x1 : (i : Int) < (B : Int) := by omega
      have x0 : (0 : Int) ≤ (i : Int) := by omega
      go_upto_region 6 with (fail)
      have c1 : wr.drew.cell? ⟨tb, 1, none⟩ = some v := (pl_cells HX.out.blk).2.1
      have htl := lt_of_block HX.out.blk
      have c1' : wr.cell? ⟨tb, 1, none⟩ = some v := c1
      have c2 : ((wr.alloc (.cells #[.int .i64 (-1)] 3 (0, 0))).drew).cell? ⟨tb, 1, none⟩ = some v := (cell_heapT (Below.heap_alloc wr _ _ htl)).trans c1
      have c2' : (wr.alloc (.cells #[.int .i64 (-1)] 3 (0, 0))).cell? ⟨tb, 1, none⟩ = some v := c2
      have hb0 : Below wr.heap.size wr ((wr.alloc (.cells #[.int .i64 (-1)] 3 (0, 0))).drew) := Below.drew ((Below.refl _ _).alloc (Nat.le_refl _) _)
      have hsz : ((wr.alloc (.cells #[.int .i64 (-1)] 3 (0, 0))).drew).heap.size = wr.heap.size + 1 := World.size_alloc _ _
      have h0 : ((wr.alloc (.cells #[.int .i64 (-1)] 3 (0, 0))).drew).cell? ⟨wr.heap.size, 0, none⟩ = some (.int .i64 (-1)) := by
        have h := cell_one_new wr (.int .i64 (-1)) 3 0 _ rfl
        rwa [show (⟨wr.heap.size, 0, none⟩ : Addr).add 0 = ⟨wr.heap.size, 0, none⟩ by simp [Addr.add]] at h
      have HRep : Hid (Calls Tryd.prog 25 #[.slice (some ⟨wr.heap.size, 0, none⟩) 1 1, .int .i64 (P : Int)] ((wr.alloc (.cells #[.int .i64 (-1)] 3 (0, 0))).drew) fun e w' => e = .returned (.slice (some ⟨wr.heap.size + 1, 0, none⟩) P P) ∧ Blk64 w' (wr.heap.size + 1) (List.replicate P (-1)) ∧ Below wr.heap.size wr w') := by
        have h := repeat_any (c0 := 1) HBP.out.2.2.1 HBP.out.2.2.2 _ h0
        rw [hsz] at h
        refine h.mono ?_
        rintro e w' ⟨rfl, r1, r2⟩
        exact ⟨rfl, r1, hb0.trans (r2.mono (by omega))⟩
      have HRT : Hid (∀ w5, Below wr.heap.size wr w5 → RoundT tb P i 0 (wr.heap.size + 1) v kb w5) := fun w5 b5 => newI_round HX.out b5 _
      have HIP := Lib.hid (And.intro hlt hk)
      have hi64 : i ≤ 64 := by have := HBP.out.2.1; omega
      clear htl hb0 hsz h0
      go_region_law (first
        | (go_simp; go_at_call 25; refine Calls.mono HRep.out ?_; rintro e w5 ⟨rfl, hR5, b5⟩; have r5 := Lib.hid (HRT.out w5 b5); have c5 := r5.out.c5; have c6 := r5.out.c6)
        | (refine step_append_lies _ (by rfl) _ _ _ (by rfl) (tb + 1) 73 i0 (.slice none 0 0) 1 24 Tryd.underlying70 hi hz0 hz1 hz2 rfl (by decide) v i (rowsV kb P i) (by rfl) r5.out.own ⟨w5.heap.size, 0, none⟩ 1 1 [.slice (some ⟨wr.heap.size + 1, 0, none⟩) P P] (by rfl) rfl r5.out.news (by intro u hu; rw [List.mem_singleton.1 hu]; rfl) (by decide) (by unfold maxLen; omega) (by omega) r5.out.base (w5.heap.size + 1) (by simp) ?_; intro g1 cap1 w9 hown9 hg9 hor9 hlt9; have q3 := (r5.out.q3 w9 hg9).1; have q4 := (r5.out.q3 w9 hg9).2))
      all_goals
        have HN : Hid (NewI w tb mb P (i + 1) (.slice (some ⟨g1, 0, none⟩) (i + 1) cap1) (fun b => if b = i then wr.heap.size + 1 else kb b) (w9.setCell ⟨tb, 1, none⟩ (.slice (some ⟨g1, 0, none⟩) (i + 1) cap1))) := newI_next HX.out HMT.out.2 b5 (Nat.le_succ _) hR5 hown9 hg9 hor9 HMT.out.1
        clear hown9 hg9 hor9 hlt9 q3 q4 r5 c5 c6 hR5 b5 c1 c2 c1' c2' HRep HRT
        go_wp2_with fail
        go_roundg (B - (i + 1))
        case measure => have := HI.out; have := HIP.out; omega
        case rel => exact ⟨i + 1, rfl, HIP.out.1, by go_num, _, _, HN⟩
    · obtain rfl : i = B := by omega
      go_wp2_with fail
      go_ret2
      obtain ⟨ob, cO, rfl, T⟩ := made_of HX.out HBP.out.1 HBP.out.2.1 HBP.out.2.2.1 HBP.out.2.2.2 HMT.out.1 HMT.out.2
      exact ⟨tb, mb, ob, cO, kb, rfl, T, HX.out.wx⟩
end Go.Proofs.YtpbckjagiebmjaaDoor.Tb
