/- A queue filled from a pool. By the verifier of shale. -/
import Derived.Test.YtaaegkjbmomjbaaDoorPoInit
namespace Go.Proofs.YtaaegkjbmomjbaaDoor.Po
open Go Go.RowKit Hp
set_option linter.unusedVariables false
set_option linter.unusedSimpArgs false
theorem take_snocP (L : List It) {k : Nat} (hk : k < L.length) : L.take (k + 1) = L.take k ++ [L[k]!] := by
  rw [getElem!_pos L k hk]
  exact List.take_succ_eq_append_getElem hk
def FillI (W0 : World) (rb : Nat) (ty : TypeId) (L : List It) (k : Nat) (v : Value) (wx : World) : Prop := QAt wx W0.heap.size rb ty v (L.take k) ∧ Below W0.heap.size W0 wx
def FillPost (W0 : World) (rb : Nat) (ty : TypeId) (L : List It) (e : Ending) (w' : World) : Prop := ∃ v, e = .returned (.tuple #[]) ∧ QAt w' W0.heap.size rb ty v L ∧ Below W0.heap.size W0 w'
theorem tn_belowQ {W0 w w' : World} {rb : Nat} {ty : TypeId} {v v' : Value} {M : List It} (b : Below W0.heap.size W0 w) (Q : QAt w W0.heap.size rb ty v M) (t : Tn (qbl rb v) w w' (qbl rb v')) : Below W0.heap.size W0 w' :=
  ⟨t.os.trans b.os, t.tape.trans b.tape, t.output.trans b.output, Nat.le_trans b.size t.size, fun k hk => (t.same k (Nat.lt_of_lt_of_le hk b.size) fun hm => by have := (Q.bl_lt k hm).1; omega).trans (b.block k hk)⟩
set_option maxHeartbeats 1000000 in
theorem fill_any {W0 w : World} {base pb rb : Nat} {tyP ty : TypeId} {v : Value} {L : List It} (Q : QAt W0 base pb tyP v L) (hL : L.length ≤ 1000) (R : QAt w W0.heap.size rb ty (.slice none 0 0) []) (b : Below W0.heap.size W0 w) :
    Calls Tryd.prog 31 #[v, .func (.func 32) #[.pointer (some ⟨rb, 0, none⟩)] #[]] w (FillPost W0 rb ty L) := by
  obtain ⟨a, c, rfl, hnc, hm, hcell, hne⟩ := row_sliceP Q.row
  obtain ⟨n, hn⟩ : ∃ n, n = L.length := ⟨_, rfl⟩
  have HN := Lib.hid hn
  have hcw : ∀ W, Below W0.heap.size W0 W → ∀ k, k < n → ∃ g, a = some ⟨g, 0, none⟩ ∧ W.cell? ⟨g, k * 2, none⟩ = some (.int .i64 (L[k]!).b) ∧ W.cell? ⟨g, k * 2 + 1, none⟩ = some (.int .i64 (L[k]!).w) := by
    intro W b2 k hk
    cases a with
    | none => exact absurd rfl (hne (by omega))
    | some a =>
      obtain ⟨g, rfl, _, hg, _, h2⟩ := hcell a rfl
      obtain ⟨h3, h4⟩ := h2 k (by omega)
      exact ⟨g, rfl, (World.cell?_of_block (a := ⟨g, _, none⟩) (b2.block g hg)).trans h3, (World.cell?_of_block (a := ⟨g, _, none⟩) (b2.block g hg)).trans h4⟩
  have HC := Lib.hid hcw
  have HS : Hid (FillI W0 rb ty L 0 (.slice none 0 0) w) := ⟨by simpa using R, b⟩
  rw [← hn] at hL ⊢
  clear Q hnc hm hcell hne hcw hn R b
  go_enter Tryd.func31, Tryd.ntmps31
  go_wp2_with fail
  go_loopg [8] n (fun gh s8 wx => ∃ (k : Nat) (v : Value), gh = n - k ∧ k ≤ n ∧ s8 = .int .i64 (k : Int) ∧ Hid (FillI W0 rb ty L k v wx))
  case atStart => exact ⟨0, _, rfl, Nat.zero_le _, rfl, HS⟩
  case round =>
    clear HS
    obtain ⟨k, v, hg, hkn, rfl, HX⟩ := hrel
    have HG := Lib.hid (And.intro hg hkn)
    have x0 : (0 : Int) ≤ (k : Int) := by omega
    have x2 : (k : Int) ≤ 1000 := by omega
    clear hg hkn
    by_cases hlt : k < n
    · have x1 : (k : Int) < (n : Int) := by omega
      obtain ⟨g, rfl, c0, c1⟩ := HC.out wr HX.out.2 k hlt
      have hsn := take_snocP L (k := k) (by rw [← HN.out]; exact hlt)
      obtain ⟨x, hx⟩ : ∃ x, x = L[k]! := ⟨_, rfl⟩
      rw [← hx] at c0 c1 hsn
      have HL := Lib.hid (And.intro hlt hsn)
      clear hx hsn hlt
      go_upto_region 3 with (fail)
      generalize hw : wr.alloc (.cells #[.int .i64 x.b, .int .i64 x.w] 64 (0, 0)) = w3
      obtain ⟨J3, b3, _⟩ := newIt wr w3 x hw
      clear hw
      obtain ⟨zx, hzx⟩ : ∃ zx, zx = wr.heap.size := ⟨_, rfl⟩
      rw [← hzx] at J3 ⊢
      obtain ⟨y0, y1, _⟩ := it_cells J3
      have HX3 : Hid (FillI W0 rb ty L k v w3) := ⟨HX.out.1.below b3, HX.out.2.trans (b3.mono HX.out.2.size)⟩
      have HP := Lib.hid (qpush_any HX3.out.1 (by simp; have := HN.out; omega) HX3.out.2.size x)
      clear c0 c1 J3 b3 hzx
      go_wp2_with fail
      refine HP.out.mono ?_
      rintro e w4 ⟨g', c', rfl, q4, t4⟩
      have HN2 : Hid (∃ v', FillI W0 rb ty L (k + 1) v' w4) := ⟨_, by show QAt _ _ _ _ _ (L.take (k + 1)); rw [HL.out.2]; exact q4, tn_belowQ HX3.out.2 HX3.out.1 t4⟩
      clear q4 t4 HP y0 y1
      obtain ⟨v', h4⟩ := HN2.out
      have HN3 := Lib.hid h4
      clear h4 HN2
      go_wp2_with fail
      go_roundg (n - (k + 1))
      case measure => have := HG.out; have := HL.out; omega
      case rel => exact ⟨k + 1, v', rfl, HL.out.1, by go_num, HN3⟩
    · obtain rfl : n = k := by have := HG.out.2; omega
      have HF : Hid (FillPost W0 rb ty L (.returned (.tuple #[])) wr) := ⟨v, rfl, by have h := HX.out.1; rw [HN.out, List.take_length] at h; exact h, HX.out.2⟩
      go_wp2_with fail
      go_end0
      exact HF.out
end Go.Proofs.YtaaegkjbmomjbaaDoor.Po
