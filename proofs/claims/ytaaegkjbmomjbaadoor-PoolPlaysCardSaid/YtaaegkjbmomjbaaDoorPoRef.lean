/- The document's pool, in memory: Has, Take. By the verifier of shale. -/
import Derived.Test.YtaaegkjbmomjbaaDoorPoIs
namespace Go.Proofs.YtaaegkjbmomjbaaDoor.Po
open Go Go.RowKit Hp
set_option linter.unusedVariables false
set_option linter.unusedSimpArgs false
/-- a slice that reads as these items, wherever it lies. -/
def ReadsP (w : World) (base xb : Nat) (a : Option Addr) (R : List It) : Prop := (0 < R.length → a ≠ none) ∧ ∀ p, a = some p → ∃ g o, p = ⟨g, o, none⟩ ∧ base ≤ g ∧ g < w.heap.size ∧ g ≠ xb ∧ ∀ i, i < R.length → w.cell? ⟨g, o + i * 2, none⟩ = some (.int .i64 (R[i]!).b) ∧ w.cell? ⟨g, o + i * 2 + 1, none⟩ = some (.int .i64 (R[i]!).w)
structure RefP (w : World) (base xb : Nat) (a : Option Addr) (c : Nat) (R : List It) : Prop where
  x0 : base ≤ xb
  blk : w.heap[xb]? = some (.cells #[.slice a R.length c] 29 (0, 0))
  cap : R.length ≤ c ∧ c ≤ maxLen
  row : ReadsP w base xb a R
def rbl (xb : Nat) (a : Option Addr) : List Nat := xb :: a.toList.map Addr.block
section
variable {w w' : World} {base xb c : Nat} {a : Option Addr} {R : List It}
theorem RefP.lt (h : RefP w base xb a c R) : xb < w.heap.size := lt_of_block h.blk
theorem RefP.cell (h : RefP w base xb a c R) : w.cell? ⟨xb, 0, none⟩ = some (.slice a R.length c) ∧ ∀ i, w.frozen? ⟨xb, i, none⟩ = false := by
  refine ⟨?_, fun i => ?_⟩
  · unfold World.cell?; simp only; rw [h.blk]; rfl
  · unfold World.frozen?; simp only; rw [h.blk]; rfl
theorem ReadsP.same (h : ReadsP w base xb a R) (hs : w.heap.size ≤ w'.heap.size) (o : ∀ p, a = some p → w'.heap[p.block]? = w.heap[p.block]?) : ReadsP w' base xb a R := by
  refine ⟨h.1, fun p hp => ?_⟩
  obtain ⟨g, q, rfl, h1, h2, h3, h4⟩ := h.2 p hp
  exact ⟨g, q, rfl, h1, by omega, h3, fun i hi => ⟨(World.cell?_of_block (a := ⟨g, _, none⟩) (show w'.heap[g]? = w.heap[g]? from o _ hp)).trans (h4 i hi).1, (World.cell?_of_block (a := ⟨g, _, none⟩) (show w'.heap[g]? = w.heap[g]? from o _ hp)).trans (h4 i hi).2⟩⟩
theorem RefP.bl_lt (h : RefP w base xb a c R) : ∀ k ∈ rbl xb a, base ≤ k ∧ k < w.heap.size := by
  intro k hk
  rcases List.mem_cons.1 hk with rfl | hk
  · exact ⟨h.x0, h.lt⟩
  · obtain ⟨p, hp, rfl⟩ := List.mem_map.1 hk
    obtain ⟨g, q, rfl, h1, h2, _⟩ := h.row.2 p (by simpa using hp)
    exact ⟨h1, h2⟩
theorem RefP.same (h : RefP w base xb a c R) (hs : w.heap.size ≤ w'.heap.size) (o : ∀ k ∈ rbl xb a, w'.heap[k]? = w.heap[k]?) : RefP w' base xb a c R :=
  ⟨h.x0, (o xb (List.mem_cons_self ..)).trans h.blk, h.cap, h.row.same hs fun p hp => o _ (List.mem_cons_of_mem _ (List.mem_map.2 ⟨p, by simp [hp], rfl⟩))⟩
theorem RefP.below (h : RefP w base xb a c R) (b : Below w.heap.size w w') : RefP w' base xb a c R := h.same b.size fun k hk => b.block k (h.bl_lt k hk).2
theorem RefP.item (h : RefP w base xb a c R) {i : Nat} (hi : i < R.length) : ∃ g o, a = some ⟨g, o, none⟩ ∧ g ≠ xb ∧ w.cell? ⟨g, o + i * 2, none⟩ = some (.int .i64 (R[i]!).b) ∧ w.cell? ⟨g, o + i * 2 + 1, none⟩ = some (.int .i64 (R[i]!).w) := by
  cases a with
  | none => exact absurd rfl (h.row.1 (by omega))
  | some p =>
    obtain ⟨g, o, rfl, _, _, h3, h4⟩ := h.row.2 p rfl
    exact ⟨g, o, rfl, h3, h4 i hi⟩
set_option maxHeartbeats 1000000 in
theorem rhas_any (Q : RefP w base xb a c R) (hL : R.length ≤ 1000) (b : Int) :
    Calls Tryd.prog 19 #[.pointer (some ⟨xb, 0, none⟩), .int .i64 b] w fun e w' => e = .returned (.bool (idx? R b).isSome) ∧ w = w' := by
  obtain ⟨n, hn⟩ : ∃ n, n = R.length := ⟨_, rfl⟩
  have HQ := Lib.hid (And.intro Q (And.intro hn hL))
  have k0 := Q.cell.1
  rw [← hn] at k0 hL
  clear Q hn
  go_enter Tryd.func19, Tryd.ntmps19
  go_wp2_with fail
  go_loop [5] (fun s5 => ∃ i : Nat, i ≤ n ∧ s5 = .int .i64 (i : Int) ∧ Hid (∀ j, j < i → (R[j]!).b ≠ b)) (fun s5 => n - (intOf s5).toNat)
  case atStart => exact ⟨0, Nat.zero_le _, rfl, fun j hj => absurd hj (Nat.not_lt_zero _)⟩
  case round =>
    obtain ⟨i, hin, rfl, HX⟩ := hrel
    have x0 : (0 : Int) ≤ (i : Int) := by omega
    have x2 : (i : Int) ≤ 1000 := by omega
    by_cases hlt : i < n
    · have x1 : (i : Int) < (n : Int) := by omega
      obtain ⟨g, o, rfl, _, c0, _⟩ := HQ.out.1.item (i := i) (by rw [← HQ.out.2.1]; exact hlt)
      obtain ⟨x, hx⟩ : ∃ x, x = R[i]! := ⟨_, rfl⟩
      rw [← hx] at c0
      have HXX := Lib.hid hx
      clear hx
      cases hb : (x.b == b)
      · have HNE : Hid (x.b ≠ b) := by show x.b ≠ b; simpa using hb
        go_wp2_with fail
        go_round
        case rel => exact ⟨i + 1, by omega, by go_num, fun j hj => by
          by_cases e : j = i
          · rw [e, ← HXX.out]; exact HNE.out
          · exact HX.out j (by omega)⟩
        case measure => simp [intOf]; omega
      · have HNE : Hid (x.b = b) := by show x.b = b; simpa using hb
        have HF : Hid (true = (idx? R b).isSome) := by
          show true = _
          rw [idx_some (i := i) (by rw [← HQ.out.2.1]; exact hlt) (by rw [← HXX.out]; exact HNE.out) HX.out]
          rfl
        go_wp2_with fail
        go_ret
        exact ⟨by rw [← HF.out]; rfl, rfl⟩
    · obtain rfl : n = i := by omega
      have HF : Hid (false = (idx? R b).isSome) := by
        show false = _
        rw [idx_none (by rw [← HQ.out.2.1]; exact HX.out)]
        rfl
      go_wp2_with fail
      go_ret
      exact ⟨by rw [← HF.out]; rfl, rfl⟩
theorem rtake_none (Q : RefP w base xb a c []) :
    Calls Tryd.prog 14 #[.pointer (some ⟨xb, 0, none⟩)] w fun e w' => e = .returned (.tuple #[.int .i64 0, .bool false]) ∧ w = w' := by
  have k0 := Q.cell.1
  rw [show ([] : List It).length = 0 from rfl] at k0
  clear Q
  go_enter Tryd.func14, Tryd.ntmps14
  go_wp2_with fail
  go_ret2
  exact ⟨rfl, rfl⟩
/-- what a change of the document's pool leaves. -/
def ROut (w : World) (base xb : Nat) (a : Option Addr) (R : List It) (r : Value) (e : Ending) (w' : World) : Prop := ∃ a' c', e = .returned r ∧ RefP w' base xb a' c' R ∧ Tn (rbl xb a) w w' (rbl xb a') ∧ a' ≠ none
theorem reads_tail {x : It} {R : List It} {g o : Nat} (h : ReadsP w base xb (some ⟨g, o, none⟩) (x :: R)) : ReadsP w base xb (some ⟨g, o + 2, none⟩) R := by
  refine ⟨(fun _ e => (nomatch e)), fun p hp => ?_⟩
  obtain ⟨g', o', e, h1, h2, h3, h4⟩ := h.2 _ rfl
  cases e
  cases hp
  refine ⟨g, o + 2, rfl, h1, h2, h3, fun i hi => ?_⟩
  have := h4 (i + 1) (by simpa using hi)
  rw [show o + (i + 1) * 2 = o + 2 + i * 2 from by omega] at this
  simpa using this
set_option maxHeartbeats 1000000 in
theorem rtake_some {x : It} (Q : RefP w base xb a c (x :: R)) (hL : R.length ≤ 1000) :
    Calls Tryd.prog 14 #[.pointer (some ⟨xb, 0, none⟩)] w (ROut w base xb a R (.tuple #[.int .i64 x.b, .bool true])) := by
  obtain ⟨n, hn⟩ : ∃ n, n = R.length := ⟨_, rfl⟩
  obtain ⟨g, o, rfl, hg, c0, _⟩ := Q.item (i := 0) (by simp)
  obtain ⟨N, hN⟩ : ∃ N, N = n + 1 := ⟨_, rfl⟩
  have k0 := Q.cell.1
  have k1 := Q.cell.2 0
  rw [show (x :: R).length = N from by rw [hN, hn]; rfl] at k0
  rw [show ((x :: R)[0]!).b = x.b from rfl, Nat.zero_mul, Nat.add_zero] at c0
  have hc := Q.cap
  rw [show (x :: R).length = N from by rw [hN, hn]; rfl] at hc
  unfold maxLen at hc
  have HQ := Lib.hid (And.intro Q (And.intro hn (And.intro hN hg)))
  have d1 : ((N : Int) == 0) = false := by rw [beq_eq_false_iff_ne]; omega
  have d2 : ¬ (N = 0) := by omega
  have d3 : 0 < N := by omega
  have d4 : (1 : Int) ≤ (N : Int) := by omega
  have d5 : (1 : Int) ≤ (c : Int) := by omega
  have d6 : 1 ≤ N := by omega
  have d7 : 1 ≤ c := by omega
  have e2 : N - 1 = n := by omega
  have e3 : (N : Int) - 1 = (n : Int) := by omega
  have o2 := Only.setCell w ⟨xb, 0, none⟩
  have fin : ∀ a' c', n ≤ c' → c' ≤ maxLen → (∀ p, a' = some p → p.block = g) → a' ≠ none → ReadsP w base xb a' R → ROut w base xb (some ⟨g, o, none⟩) R (.tuple #[.int .i64 x.b, .bool true]) (.returned (.tuple #[.int .i64 x.b, .bool true])) (w.setCell ⟨xb, 0, none⟩ (.slice a' n c')) := by
    intro a' c' h1 h2 h3 h5 h4
    have o3 := o2 (.slice a' n c')
    refine ⟨a', c', rfl, ⟨HQ.out.1.x0, ?_, ⟨by rw [← HQ.out.2.1]; exact h1, h2⟩, ?_⟩, ⟨o3.os, o3.tape, o3.output, by rw [o3.size]; exact Nat.le_refl _, fun k _ hk => o3.block k fun e => hk (by rw [e]; exact List.mem_cons_self ..), fun k hk => ?_⟩, h5⟩
    · rw [← HQ.out.2.1]
      exact heap_setCell_same _ _ 0 _ _ _ HQ.out.1.blk
    · exact h4.same (by rw [o3.size]; exact Nat.le_refl _) fun p hp => o3.block _ (by rw [h3 p hp]; exact HQ.out.2.2.2)
    · rcases List.mem_cons.1 hk with rfl | hk
      · exact .inl (List.mem_cons_self ..)
      · obtain ⟨p, hp, rfl⟩ := List.mem_map.1 hk
        exact .inl (List.mem_cons_of_mem _ (List.mem_map.2 ⟨_, by simp; rfl, (h3 p (by simpa using hp)).symm⟩))
  by_cases hc1 : c = 1
  · have e1 : (c : Int) = 1 := by omega
    have hR : R = [] := List.length_eq_zero_iff.1 (by omega)
    have HF := Lib.hid (fin (some ⟨g, o, none⟩) (c - 1) (by omega) (by unfold maxLen; omega) (fun p hp => by cases hp; rfl) (by simp) (by
      rw [hR]
      exact ⟨fun h => absurd h (by simp), fun p hp => by
        obtain ⟨g', o', e, h1, h2, h3, h4⟩ := HQ.out.1.row.2 p hp
        exact ⟨g', o', e, h1, h2, h3, fun i hi => absurd hi (by simp)⟩⟩))
    subst hc1
    clear Q fin o2 hn hN hg hR
    go_enter Tryd.func14, Tryd.ntmps14
    go_wp2_with fail
    go_ret2
    exact HF.out
  · have e1 : ¬ ((c : Int) = 1) := by omega
    have HF := Lib.hid (fin (some ⟨g, o + 2, none⟩) (c - 1) (by omega) (by unfold maxLen; omega) (fun p hp => by cases hp; rfl) (by simp) (reads_tail HQ.out.1.row))
    clear Q fin o2 hn hN hg
    go_enter Tryd.func14, Tryd.ntmps14
    go_wp2_with fail
    go_ret2
    exact HF.out
end
end Go.Proofs.YtaaegkjbmomjbaaDoor.Po
