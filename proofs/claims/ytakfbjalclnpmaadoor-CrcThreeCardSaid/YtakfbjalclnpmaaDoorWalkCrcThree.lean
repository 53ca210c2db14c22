/- The walk over CrcThree. By the verifier of shale. -/
import Derived.Test.YtakfbjalclnpmaaDoorCrcFirst
import Derived.Test.YtakfbjalclnpmaaDoorRow
import Derived.Deep.RegionHeld3
namespace Go.Proofs.YtakfbjalclnpmaaDoor.walkCrcThree
open Go Go.RowKit Crc
set_option linter.unusedVariables false
attribute [local go_sem] Bits32.xor64 Bits32.bxor

/-- the xor of the first k of three lists, and 0 behind. -/
def mix (l1 l2 l3 : List (BitVec 8)) (m k : Nat) : List (BitVec 8) :=
  (List.zipWith (· ^^^ ·) (List.zipWith (· ^^^ ·) (l1.take k) (l2.take k)) (l3.take k)) ++ List.replicate (m - k) 0
theorem mix_length (l1 l2 l3 : List (BitVec 8)) (m k : Nat) (hk : k ≤ m) (h1 : m ≤ l1.length) (h2 : m ≤ l2.length) (h3 : m ≤ l3.length) : (mix l1 l2 l3 m k).length = m := by
  simp [mix]; omega
theorem mix_set (l1 l2 l3 : List (BitVec 8)) (m k : Nat) (hk : k < m) (h1 : m ≤ l1.length) (h2 : m ≤ l2.length) (h3 : m ≤ l3.length) :
    (mix l1 l2 l3 m k).set k (nth8 l1 k ^^^ nth8 l2 k ^^^ nth8 l3 k) = mix l1 l2 l3 m (k + 1) := by
  unfold mix nth8
  have e : ∀ l : List (BitVec 8), m ≤ l.length → l.take (k + 1) = l.take k ++ [l.getD k 0] := by
    intro l hl
    rw [List.take_succ_eq_append_getElem (by omega), List.getD_eq_getElem?_getD, List.getElem?_eq_getElem (by omega)]; rfl
  rw [e l1 h1, e l2 h2, e l3 h3]
  have len : ∀ l : List (BitVec 8), m ≤ l.length → (l.take k).length = k := by intro l hl; simp; omega
  rw [List.zipWith_append (by rw [len l1 h1, len l2 h2]), List.zipWith_append (by rw [List.length_zipWith, len l1 h1, len l2 h2, len l3 h3]; omega)]
  obtain ⟨r, hr⟩ : ∃ r, m - k = r + 1 := ⟨m - k - 1, by omega⟩
  rw [hr, List.replicate_succ, List.set_append_right _ _ (by simp [len l1 h1, len l2 h2, len l3 h3])]
  simp [len l1 h1, len l2 h2, len l3 h3, show m - (k + 1) = r by omega]
theorem mix_zero (l1 l2 l3 : List (BitVec 8)) (m : Nat) : mix l1 l2 l3 m 0 = List.replicate m 0 := by simp [mix]
theorem mix_all (l1 l2 l3 : List (BitVec 8)) (m : Nat) (h1 : m ≤ l1.length) (h2 : m ≤ l2.length) (h3 : m ≤ l3.length) :
    crc (mix l1 l2 l3 m m) = crc (l1.take m) ^^^ crc (l2.take m) ^^^ crc (l3.take m) := by
  rw [← crc_three _ _ _ (by simp; omega) (by simp; omega)]
  simp [mix]

set_option maxRecDepth 100000 in
set_option maxHeartbeats 8000000 in
theorem three_core (b1 o1 n1 c1 b2 o2 n2 c2 b3 o3 n3 c3 m : Nat) (l1 l2 l3 : List (BitVec 8)) (w : World) (ht : Tab w)
    (r1 : Row8 w b1 o1 l1) (r2 : Row8 w b2 o2 l2) (r3 : Row8 w b3 o3 l3) (lt1 : b1 < w.heap.size) (lt2 : b2 < w.heap.size) (lt3 : b3 < w.heap.size)
    (e1 : n1 = l1.length) (e2 : n2 = l2.length) (e3 : n3 = l3.length) (k1 : n1 ≤ c1) (k2 : n2 ≤ c2) (k3 : n3 ≤ c3) (g1 : n1 ≤ maxLen) (g2 : n2 ≤ maxLen) (g3 : n3 ≤ maxLen)
    (hm0 : 0 < m) (hm : m ≤ 2000)
    (hc : (m = n1 ∧ m ≤ n2 ∧ m ≤ n3) ∨ (m = n2 ∧ m < n1 ∧ m ≤ n3) ∨ (m = n3 ∧ m < n1 ∧ m < n2)) :
    Calls Tryd.prog 7 #[.slice (some ⟨b1, o1, none⟩) n1 c1, .slice (some ⟨b2, o2, none⟩) n2 c2, .slice (some ⟨b3, o3, none⟩) n3 c3] w fun e w' => e = .returned (.bool true) ∧ Below w.heap.size w w' := by
  have t1 : ¬ ((2000 : Int) < (m : Int)) := by omega
  have hmk := fun w => made8 w m (by omega)
  have q1 : m ≤ l1.length := by omega
  have q2 : m ≤ l2.length := by omega
  have q3 : m ≤ l3.length := by omega
  have x1 : (m : Int) ≤ (c1 : Int) := by omega
  have x2 : (m : Int) ≤ (c2 : Int) := by omega
  have x3 : (m : Int) ≤ (c3 : Int) := by omega
  have HF := Lib.hid (mix_all l1 l2 l3 m q1 q2 q3)
  have a1 : Arg8 w (.slice (some ⟨b1, o1, none⟩) m c1) (l1.take m) := Arg8.take r1 lt1 (by omega) (by omega)
  have a2 : Arg8 w (.slice (some ⟨b2, o2, none⟩) m c2) (l2.take m) := Arg8.take r2 lt2 (by omega) (by omega)
  have a3 : Arg8 w (.slice (some ⟨b3, o3, none⟩) m c3) (l3.take m) := Arg8.take r3 lt3 (by omega) (by omega)
  have HY : Hid (∀ k : Nat, k < m → (k : Int) < (n1 : Int) ∧ (k : Int) < (n2 : Int) ∧ (k : Int) < (n3 : Int)) := by intro k hk; omega
  clear e1 e2 e3 g1 g2 g3
  rcases hc with ⟨rfl, hc1, hc2⟩ | ⟨rfl, hc1, hc2⟩ | ⟨rfl, hc1, hc2⟩
  all_goals
    go_enter Tryd.func7, Tryd.ntmps7
    go_wp2_with fail
    refine (first_any w ht).mono ?_
    rintro e w1 ⟨rfl, bl1⟩
    go_wp2_with fail
    go_loopg [10] m (fun g s10 wx => ∃ k : Nat, k ≤ m ∧ g = m - k ∧ s10 = .int .i64 (k : Int) ∧ Blk8 wx w1.heap.size (mix l1 l2 l3 m k) ∧ Below w1.heap.size w1 wx)
    case atStart => exact ⟨0, Nat.zero_le _, by omega, rfl, by rw [mix_zero]; exact Blk8.new _ _, (Below.refl _ _).alloc (Nat.le_refl _) _⟩
    case round =>
      obtain ⟨k, hk, hg, rfl, hb, bl⟩ := hrel
      have HG := Lib.hid hg
      clear hg
      have bw : Below w.heap.size w wr := bl1.trans (bl.mono bl1.size)
      have HW := Lib.hid bl1.size
      by_cases hlt : k < m
      · have d1 := (r1.below bw lt1) k (by omega)
        have d2 := (r2.below bw lt2) k (by omega)
        have d3 := (r3.below bw lt3) k (by omega)
        have d4 := hb.cell (i := k) (by rw [mix_length l1 l2 l3 m k hk q1 q2 q3]; exact hlt)
        have d5 := hb.free k
        have y0 : (0 : Int) ≤ (k : Int) := by omega
        have y1 : (k : Int) < (m : Int) := by omega
        obtain ⟨y2, y3, y4⟩ := HY.out k hlt
        have z1 : b1 ≠ w1.heap.size := by have := bl1.size; omega
        have z2 : b2 ≠ w1.heap.size := by have := bl1.size; omega
        have z3 : b3 ≠ w1.heap.size := by have := bl1.size; omega
        have v1 := fun v => ((Only.setCell wr ⟨w1.heap.size, k, none⟩ v).cell (p := ⟨b1, o1 + k, none⟩) z1).trans d1
        have v2 := fun v => ((Only.setCell wr ⟨w1.heap.size, k, none⟩ v).cell (p := ⟨b2, o2 + k, none⟩) z2).trans d2
        have v3 := fun v => ((Only.setCell wr ⟨w1.heap.size, k, none⟩ v).cell (p := ⟨b3, o3 + k, none⟩) z3).trans d3
        have HS := Lib.hid (mix_set l1 l2 l3 m k hlt q1 q2 q3)
        go_wp2_with fail
        go_region_held3 (fun w' => w'.cell? ⟨b1, o1 + k, none⟩ = some (.int .u8 (Bits32.b (nth8 l1 k))) ∧ w'.cell? ⟨b2, o2 + k, none⟩ = some (.int .u8 (Bits32.b (nth8 l2 k))) ∧ w'.cell? ⟨b3, o3 + k, none⟩ = some (.int .u8 (Bits32.b (nth8 l3 k))))
          (first | go_keep | exact ⟨v1 _, v2 _, v3 _⟩) (fail)
        go_wp2
        go_roundg (m - (k + 1))
        case measure => have := HG.out; omega
        case rel => exact ⟨k + 1, by omega, rfl, by go_num, by rw [← HS.out]; exact (hb.set _ _).drew, (bl.setCell (p := ⟨w1.heap.size, k, none⟩) (Nat.le_refl _) _).drew⟩
      · obtain rfl : k = m := by omega
        have hx := hb.arg (n := k) (cap := k) (mix_length l1 l2 l3 k k (Nat.le_refl _) q1 q2 q3).symm (by unfold maxLen; omega)
        have a1 := a1.since (Nat.le_refl _) bw
        have a2 := a2.since (Nat.le_refl _) bw
        have a3 := a3.since (Nat.le_refl _) bw
        have htr := ht.below bw ht.lt
        have HF2 := HF.out
        clear hmk
        go_wp2_with fail
        go_region_held3 (fun w' => Below wr.heap.size wr w') (first | assumption | exact Below.drew (Below.refl _ _))
          (first
            | (go_at_call 13; refine Calls.mono (of_since (l := ?_) htr ?_ (by assumption)) ?_; rotate_left; (first | with_reducible exact hx | with_reducible exact a1 | with_reducible exact a2 | with_reducible exact a3); rintro e w' ⟨rfl, hg⟩))
        go_wp2
        go_ret
        refine ⟨rfl, bw.trans (Below.mono ?_ bw.size)⟩
        assumption

set_option maxRecDepth 100000 in
set_option maxHeartbeats 2000000 in
theorem three_long (p1 p2 p3 : Option Addr) (n1 c1 n2 c2 n3 c3 : Nat) (w : World) (ht : Tab w) (h1 : 2000 < n1) (h2 : 2000 < n2) (h3 : 2000 < n3) :
    Calls Tryd.prog 7 #[.slice p1 n1 c1, .slice p2 n2 c2, .slice p3 n3 c3] w fun e w' => e = .returned (.bool true) ∧ Below w.heap.size w w' := by
  go_enter Tryd.func7, Tryd.ntmps7
  go_wp2_with fail
  refine (first_any w ht).mono ?_
  rintro e w1 ⟨rfl, bl1⟩
  go_wp2_with fail
  all_goals
    go_ret
    exact ⟨rfl, bl1⟩

set_option maxRecDepth 100000 in
set_option maxHeartbeats 2000000 in
theorem three_none (p1 p2 p3 : Option Addr) (n1 c1 n2 c2 n3 c3 : Nat) (w : World) (ht : Tab w) (h1 : p1 = none → c1 = 0) (h2 : p2 = none → c2 = 0) (h3 : p3 = none → c3 = 0) 
    (hc : (0 = n1 ∧ 0 ≤ n2 ∧ 0 ≤ n3) ∨ (0 = n2 ∧ 0 < n1 ∧ 0 ≤ n3) ∨ (0 = n3 ∧ 0 < n1 ∧ 0 < n2)) :
    Calls Tryd.prog 7 #[.slice p1 n1 c1, .slice p2 n2 c2, .slice p3 n3 c3] w fun e w' => e = .returned (.bool true) ∧ Below w.heap.size w w' := by
  have hmk : ∀ w, (Instr.makeSlice 22 (.int .i64 0) (.int .i64 0)).run Tryd.prog w = .ok (.slice (some ⟨w.heap.size, 0, none⟩) 0 0) (w.alloc (obj8 [])) := fun w => made8 w 0 (by omega)
  have hn := fun (W : World) (a : Option Addr) (c : Nat) => Arg8.nil W a c
  rcases hc with ⟨rfl, hc1, hc2⟩ | ⟨rfl, hc1, hc2⟩ | ⟨rfl, hc1, hc2⟩
  all_goals
    go_enter Tryd.func7, Tryd.ntmps7
    go_wp2_with fail
    refine (first_any w ht).mono ?_
    rintro e w1 ⟨rfl, bl1⟩
    go_wp2_with fail
    go_loopg [10] 0 (fun _ s10 wx => s10 = .int .i64 0 ∧ Below w.heap.size w wx)
    case atStart => exact ⟨rfl, bl1.alloc bl1.size _⟩
    case round =>
      obtain ⟨rfl, bw⟩ := hrel
      go_wp2_with fail
      go_region_held3 (fun w' => Below w.heap.size w w') (first | assumption | exact Below.drew (by assumption))
        (first
          | (go_at_call 13; refine Calls.mono (of_since (l := ?_) ht ?_ (by assumption)) ?_; rotate_left; (with_reducible exact hn _ _ _); rintro e w' ⟨rfl, hg⟩))
      go_wp2
      go_ret
      exact ⟨rfl, by assumption⟩

theorem nil_cap {k : IntKind} {w : World} {a : Option Addr} {len cap : Nat} {zs : List Int} (h : IsRow k w a len cap zs) : a = none → cap = 0 := by
  rintro rfl
  rcases h with ⟨_, _, h, _⟩ | ⟨x, h, _⟩
  · exact h
  · cases h
theorem walk (a0 : Option Addr) (len0 cap0 : Nat) (z0 : List Int) (a1 : Option Addr) (len1 cap1 : Nat) (z1 : List Int) (a2 : Option Addr) (len2 cap2 : Nat) (z2 : List Int) (w : World)
    (w0 : IsRow .u8 w a0 len0 cap0 z0) (w1 : IsRow .u8 w a1 len1 cap1 z1) (w2 : IsRow .u8 w a2 len2 cap2 z2) (ht : Tab w) :
    Calls Tryd.prog 7 #[.slice a0 len0 cap0, .slice a1 len1 cap1, .slice a2 len2 cap2] w fun e w' => e = .returned (.bool true) ∧ Below w.heap.size w w' := by
  obtain ⟨m0, h0⟩ := w0.bytes
  obtain ⟨m1, h1⟩ := w1.bytes
  obtain ⟨m2, h2⟩ := w2.bytes
  by_cases h : 2000 < len0 ∧ 2000 < len1 ∧ 2000 < len2
  · exact three_long _ _ _ _ _ _ _ _ _ w ht h.1 h.2.1 h.2.2
  · have none : (0 = len0 ∧ 0 ≤ len1 ∧ 0 ≤ len2) ∨ (0 = len1 ∧ 0 < len0 ∧ 0 ≤ len2) ∨ (0 = len2 ∧ 0 < len0 ∧ 0 < len1) →
        Calls Tryd.prog 7 #[.slice a0 len0 cap0, .slice a1 len1 cap1, .slice a2 len2 cap2] w fun e w' => e = .returned (.bool true) ∧ Below w.heap.size w w' :=
      fun hc => three_none _ _ _ _ _ _ _ _ _ w ht (nil_cap w0) (nil_cap w1) (nil_cap w2) hc
    rcases h0 with h0 | ⟨b1, o1, l1, rfl, hl1, hc1, r1, lt1⟩
    · exact none (by omega)
    · rcases h1 with h1 | ⟨b2, o2, l2, rfl, hl2, hc2, r2, lt2⟩
      · exact none (by omega)
      · rcases h2 with h2 | ⟨b3, o3, l3, rfl, hl3, hc3, r3, lt3⟩
        · exact none (by omega)
        · by_cases hz : len0 = 0 ∨ len1 = 0 ∨ len2 = 0
          · exact none (by omega)
          · exact three_core b1 o1 len0 cap0 b2 o2 len1 cap1 b3 o3 len2 cap2 (min (min len0 len1) len2) l1 l2 l3 w ht r1 r2 r3 lt1 lt2 lt3 hl1.symm hl2.symm hl3.symm hc1 hc2 hc3 m0 m1 m2 (by omega) (by omega) (by omega)
end Go.Proofs.YtakfbjalclnpmaaDoor.walkCrcThree
