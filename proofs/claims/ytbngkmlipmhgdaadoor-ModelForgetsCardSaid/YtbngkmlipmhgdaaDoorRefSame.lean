/- shaleref.SameBytes: are two lists of bytes the same? By the verifier of shale. -/
import Derived.Test.YtbngkmlipmhgdaaDoorRow
import Derived.WalkKit
import Derived.WalkSpells
import Derived.WalkLawsBesides
import Derived.Laws.BytesArg
namespace Go.Proofs.YtbngkmlipmhgdaaDoor
open Go Go.RowKit
set_option linter.unusedVariables false
/-- bytes as a string. -/
def strOf (l : List (BitVec 8)) : ByteArray := strOfNums (l.map Bits32.b)
theorem strOf_inj (l m : List (BitVec 8)) (h : strOf l = strOf m) : l = m := by
  have e := congrArg (fun s : ByteArray => s.data.toList) h
  simp only [strOf, strOfNums_data, List.map_map] at e
  have key : ∀ (l m : List (BitVec 8)), l.map ((fun n : Int => UInt8.ofNat n.toNat) ∘ Bits32.b) = m.map ((fun n : Int => UInt8.ofNat n.toNat) ∘ Bits32.b) → l = m := by
    intro l
    induction l with
    | nil => intro m h; cases m with | nil => rfl | cons _ _ => simp at h
    | cons a l ih =>
      intro m h
      cases m with
      | nil => simp at h
      | cons b m =>
        simp only [List.map_cons, List.cons.injEq, Function.comp] at h
        rw [ih m h.2]
        congr 1
        have e := congrArg UInt8.toNat h.1
        unfold Bits32.b at e
        simp at e
        have := a.isLt
        have := b.isLt
        apply BitVec.eq_of_toNat_eq
        omega
  exact key l m e
/-- bytes in a slice, as SameBytes reads them. -/
def Str8 (w : World) (v : Value) (l : List (BitVec 8)) : Prop := ∀ w', (∀ b, b < w.heap.size → w'.heap[b]? = w.heap[b]?) → (convert 31 9 v).run Tryd.prog w' = .ok (.string (strOf l)) w'
theorem Str8.nil (w : World) (p : Option Addr) (c : Nat) : Str8 w (.slice p 0 c) [] := by
  intro w' h
  rw [run_convert_bytes_string w' 31 9 5 p 0 c Tryd.underlying31 Tryd.underlying5 Tryd.underlying9]
  cases p with
  | none => simp [Conv.bytesToString]; rfl
  | some a =>
    have hl : (loadCells a 0).run Tryd.prog w' = .ok #[] w' := by
      have := run_loadCells_list (P := Tryd.prog) w' a [] (fun j v hj => by simp at hj)
      simpa using this
    rw [run_bytesToString w' a 0 c [] (by simpa using hl)]
    rfl
theorem Str8.of {w : World} {v : Value} {l : List (BitVec 8)} (h : IsBytes w v l) : Str8 w v l := by
  rcases h with ⟨rfl, p, c, rfl⟩ | ⟨bb, off, cap, rfl, hr, hb⟩
  · exact Str8.nil w p c
  · intro w' hw
    have := run_convert_bytes_arg (P := Tryd.prog) w' 31 5 Tryd.underlying31 Tryd.underlying5 bb off l.length cap (l.map Bits32.b) (by simp)
      (fun i hi => by
        rw [World.cell?_of_block (w := w) (hw bb hb), hr i hi]
        unfold nth8
        simp [hi]) 9 Tryd.underlying9
    exact this
set_option maxHeartbeats 400000 in
theorem same_any (l m : List (BitVec 8)) (v u : Value) (w : World) (hv : Str8 w v l) (hu : Str8 w u m) :
    Calls Tryd.prog 14 #[v, u] w fun e w' => e = .returned (.bool (decide (l = m))) ∧ w = w' := by
  have h1 := hv w (fun _ _ => rfl)
  have h2 := hu w (fun _ _ => rfl)
  go_enter Tryd.func14, Tryd.ntmps14
  go_wp2
  go_ret
  refine ⟨?_, rfl⟩
  have e : ((strOf l).toList == (strOf m).toList) = decide (l = m) := by
    rw [Bool.eq_iff_iff, beq_iff_eq, decide_eq_true_iff]
    constructor
    · intro h
      rw [ByteArray.toList_eq, ByteArray.toList_eq] at h
      exact strOf_inj l m (by
        have : (strOf l).data = (strOf m).data := Array.toList_inj.1 h
        cases hl : strOf l; cases hm : strOf m
        simp_all)
    · intro h; rw [h]
  rw [← e]; rfl
/-- the same memory, but for draws. -/
def SameHeap (W w : World) : Prop := w.heap = W.heap
theorem SameHeap.refl (W : World) : SameHeap W W := rfl
theorem SameHeap.drew {W w : World} (h : SameHeap W w) : SameHeap W w.drew := h
theorem Str8.since {W w : World} {v : Value} {l : List (BitVec 8)} (h : Str8 W v l) (o : ∀ b, b < W.heap.size → w.heap[b]? = W.heap[b]?) (hs : W.heap.size ≤ w.heap.size) : Str8 w v l :=
  fun w' hw => h w' (fun b hb => (hw b (Nat.lt_of_lt_of_le hb hs)).trans (o b hb))
theorem same_since {l m : List (BitVec 8)} {v u : Value} {W w : World} (hv : Str8 W v l) (hu : Str8 W u m) (h : SameHeap W w) :
    Calls Tryd.prog 14 #[v, u] w fun e w' => e = .returned (.bool (decide (l = m))) ∧ w = w' :=
  same_any l m v u w (hv.since (fun b _ => by rw [show w.heap = W.heap from h]) (by rw [show w.heap = W.heap from h]; exact Nat.le_refl _)) (hu.since (fun b _ => by rw [show w.heap = W.heap from h]) (by rw [show w.heap = W.heap from h]; exact Nat.le_refl _))
/-- SameBytes answers c of these two, in whatever world that has W's memory. -/
def Sames (W : World) (v u : Value) (c : Bool) : Prop := ∀ w, SameHeap W w → Calls Tryd.prog 14 #[v, u] w fun e w' => e = .returned (.bool c) ∧ w = w'
theorem Sames.mk {W : World} {v u : Value} {l m : List (BitVec 8)} {c : Bool} (hv : Str8 W v l) (hu : Str8 W u m) (hc : decide (l = m) = c) : Sames W v u c := by
  intro w h; rw [← hc]; exact same_since hv hu h
theorem sames_run {W w : World} {v u : Value} {c : Bool} (h : Sames W v u c) (hs : SameHeap W w) : Calls Tryd.prog 14 #[v, u] w fun e w' => e = .returned (.bool c) ∧ w = w' := h w hs
end Go.Proofs.YtbngkmlipmhgdaaDoor
