/- The walks over package scramble. By the verifier of shale. -/
import Derived.Test.YtggiknecfiaokaaRows
import Derived.Test.YtggiknecfiaokaaBits16
import Derived.Test.YtggiknecfiaokaaScrMath
import Derived.Test.YtggiknecfiaokaaMem
import Derived.WalkKit
import Derived.WalkSpells
import Derived.WalkLawsBesides
import Derived.OneCell
import Derived.Deep.LoopGhost
import Derived.Deep.RegionHeld3
namespace Go.Proofs.Ytggiknecfiaokaa.Scr
open Go Go.RowKit Bits16
set_option linter.unusedVariables false
section
attribute [local go_sem] hxor hor hand1 Bits32.bxor
attribute [local go_sem high] Bits16.shr1 Bits16.shr2 Bits16.shr3 Bits16.shr5 Bits16.shl15

/-- Block s is a stream with that state. -/
def IsStr (w : World) (s : Nat) (x : BitVec 16) : Prop := w.heap[s]? = some (.cells #[.int .u16 (h x)] 45 (0, 0))
theorem IsStr.put {w : World} {s : Nat} {x : BitVec 16} (e : IsStr w s x) (y : BitVec 16) : IsStr (w.setCell ⟨s, 0, none⟩ (.int .u16 (h y))) s y := one_setCell e

set_option maxHeartbeats 400000 in
theorem step_any (x : BitVec 16) (s : Nat) (w : World) (hs : IsStr w s x) :
    Calls Try.prog 21 #[.pointer (some ⟨s, 0, none⟩)] w fun e w' => e = .returned (.int .i64 (h (x &&& 1#16))) ∧ w.setCell ⟨s, 0, none⟩ (.int .u16 (h (lf x))) = w' := by
  have c0 := cell_of_one hs
  have f0 := free_of_one hs
  have H : Hid (_ = lf x) := (rfl : (x >>> 1) ||| ((x ^^^ (x >>> 2) ^^^ (x >>> 3) ^^^ (x >>> 5)) <<< 15) = lf x)
  have l1 := h_lo (x &&& 1#16)
  have l2 := h_hi (x &&& 1#16)
  clear hs
  go_enter Try.func21, Try.ntmps21
  go_wp2
  go_ret
  exact ⟨rfl, by rw [H.out]⟩

theorem or_low (x : BitVec 16) (k : Nat) (hk : k < 8) : bits .or .i64 ((lowN x k : Nat) : Int) (wrap64 (h (lfs k x &&& 1#16) * 2 ^ k)) = ((lowN x (k + 1) : Nat) : Int) := by
  have h1 : (lfs k x &&& 1#16).toNat ≤ 1 := by rw [BitVec.toNat_and]; exact Nat.and_le_right
  have h2 : lowN x k < 2 ^ k := Nat.mod_lt _ (Nat.two_pow_pos k)
  have h3 : 2 ^ k ≤ 2 ^ 7 := Nat.pow_le_pow_right (by decide) (by omega)
  have h4 : 2 ^ k * (lfs k x &&& 1#16).toNat ≤ 2 ^ k * 1 := Nat.mul_le_mul_left _ h1
  have e : wrap64 (h (lfs k x &&& 1#16) * 2 ^ k) = ((2 ^ k * (lfs k x &&& 1#16).toNat : Nat) : Int) := by
    unfold h
    rw [show (((lfs k x &&& 1#16).toNat : Int) * 2 ^ k) = ((2 ^ k * (lfs k x &&& 1#16).toNat : Nat) : Int) by rw [Int.natCast_mul, Int.natCast_pow, Int.mul_comm]; rfl]
    exact IntWalk.wrap64_in _ (by omega)
  rw [e, Bits16.or64 _ _ (by omega) (by omega), lowN_succ x k (by omega), Nat.or_comm]
  rw [nat_join k _ _ (by simp) h2]
  omega
set_option maxHeartbeats 400000 in
theorem next_any (x : BitVec 16) (s : Nat) (w : World) (hs : IsStr w s x) :
    Calls Try.prog 11 #[.pointer (some ⟨s, 0, none⟩)] w fun e w' => e = .returned (.int .i64 (Bits32.b (out x))) ∧ IsStr w' s (lfs 8 x) ∧ Only s w w' := by
  go_enter Try.func11, Try.ntmps11
  go_wp2
  go_loopg [3, 5] 8 (fun g s3 s5 wx => ∃ k : Nat, k ≤ 8 ∧ g = 8 - k ∧ s5 = .int .i64 (k : Int) ∧ s3 = .int .i64 ((lowN x k : Nat) : Int) ∧ IsStr wx s (lfs k x) ∧ Only s w wx)
  case atStart => exact ⟨0, by omega, rfl, rfl, by unfold lowN; simp [Nat.mod_one], hs, Only.refl _ _⟩
  case round =>
    obtain ⟨k, hk, hg, rfl, rfl, hd, ho⟩ := hrel
    have HG := Lib.hid hg
    clear hg
    by_cases hlt : k < 8
    · have hlt' : (k : Int) < 8 := by omega
      have hlt2 : (0 : Int) ≤ (k : Int) := by omega
      go_wp2_with fail
      refine (step_any _ _ _ hd).mono ?_
      rintro e w1 ⟨rfl, rfl⟩
      have HO := Lib.hid (or_low x k hlt)
      have HS := Lib.hid (lfs_succ k x)
      go_wp2
      go_roundg (8 - (k + 1))
      case measure => have := HG.out; omega
      case rel => exact ⟨k + 1, by omega, rfl, by go_num, by rw [HO.out], by rw [HS.out]; exact hd.put _, ho.trans (Only.setCell _ ⟨s, 0, none⟩ _)⟩
    · obtain rfl : k = 8 := by omega
      go_wp2
      go_ret
      exact ⟨by unfold Bits32.b; rw [lowN_out]; rfl, hd, ho⟩

set_option maxHeartbeats 400000 in
theorem new_any (x : Int) (w : World) :
    Calls Try.prog 8 #[.int .i64 x] w fun e w' => e = .returned (.pointer (some ⟨w.heap.size, 0, none⟩)) ∧ IsStr w' w.heap.size (start (BitVec.ofInt 16 x)) ∧ Below w.heap.size w w' := by
  have hw := h_u16 x
  by_cases h0 : BitVec.ofInt 16 x = 0
  · have t : (h (BitVec.ofInt 16 x) == 0) = true := by rw [h0]; rfl
    have e : start (BitVec.ofInt 16 x) = 0xACE1#16 := if_pos h0
    rw [e]
    clear h0 e
    go_enter Try.func8, Try.ntmps8
    go_wp2
    go_ret
    refine ⟨rfl, ?_, ?_⟩
    · exact heap_alloc_new w _
    · exact (Below.refl _ _).alloc (Nat.le_refl _) _
  · have t : (h (BitVec.ofInt 16 x) == 0) = false := by
      rw [beq_eq_false_iff_ne]
      intro e
      exact h0 (h_inj _ 0 e)
    have e : start (BitVec.ofInt 16 x) = BitVec.ofInt 16 x := if_neg h0
    rw [e]
    clear h0 e
    go_enter Try.func8, Try.ntmps8
    go_wp2
    go_ret
    refine ⟨rfl, heap_alloc_new w _, (Below.refl _ _).alloc (Nat.le_refl _) _⟩

/-- the stream's method value, as it is handed on. -/
abbrev nextOf (s : Nat) : Value := .func (.func 11) #[.pointer (some ⟨s, 0, none⟩)] #[]

set_option maxRecDepth 100000 in
set_option maxHeartbeats 1000000 in
theorem xor_some (x : BitVec 16) (l : List (BitVec 8)) (s bb off n cap : Nat) (w : World) (hs : IsStr w s x) (hr : Row8 w bb off l) (hb : bb < w.heap.size) (h1 : bb ≠ s) (hl : n = l.length) (hn : n ≤ 1000000) :
    Calls Try.prog 23 #[.slice (some ⟨bb, off, none⟩) n cap, nextOf s] w fun e w' =>
      e = .returned (.slice (some ⟨w.heap.size, 0, none⟩) n n) ∧ IsStr w' s (lfs (8 * n) x) ∧ Blk8 w' w.heap.size (mixL x l) ∧ Upd s w w' := by
  have hmk := fun w => made8 w n hn
  have HL := Lib.hid hl
  have hsl := lt_of_block hs
  clear hl
  go_enter Try.func23, Try.ntmps23
  go_wp2_with fail
  go_loopg [13] n (fun g s13 wx => ∃ k : Nat, k ≤ n ∧ g = n - k ∧ s13 = .int .i64 (k : Int) ∧ IsStr wx s (lfs (8 * k) x) ∧ Blk8 wx w.heap.size (part x l k) ∧ Upd s w wx)
  case atStart => exact ⟨0, Nat.zero_le _, rfl, rfl, (Below.heap_alloc w _ s hsl).trans hs, by rw [part_zero, ← HL.out]; exact Blk8.new _ _, (Upd.refl _ _).below ((Below.refl _ _).alloc (Nat.le_refl _) _)⟩
  case round =>
    obtain ⟨k, hk, hg, rfl, hd, hB, hU⟩ := hrel
    have HG := Lib.hid hg
    clear hg
    by_cases hlt : k < n
    · have y0 : (0 : Int) ≤ (k : Int) := by omega
      have y1 : (k : Int) < (n : Int) := by omega
      have c1 := (hr.upd hU hb h1) k (by have := HL.out; omega)
      go_wp2_with fail
      refine (next_any _ _ _ hd).mono ?_
      rintro e w1 ⟨rfl, hd2, ho⟩
      have hB2 : Blk8 w1 w.heap.size (part x l k) := (ho.block _ (by omega)).trans hB
      have c2 := hB2.cell (i := k) (by rw [part_length x l k (by have := HL.out; omega)]; have := HL.out; omega)
      have c3 := hB2.free k
      have HP := Lib.hid (part_set x l k (by have := HL.out; omega))
      have lo := Bits32.b_lo (out (lfs (8 * k) x))
      have hi := Bits32.b_hi (out (lfs (8 * k) x))
      go_wp2
      go_roundg (n - (k + 1))
      case measure => have := HG.out; omega
      case rel =>
        refine ⟨k + 1, by omega, rfl, by go_num, ?_, ?_, (hU.only ho).setNew (p := ⟨w.heap.size, k, none⟩) (Nat.le_refl _) _⟩
        · rw [lfs_add, show 8 * k + 8 = 8 * (k + 1) by omega] at hd2
          exact (Below.heap_setCell _ _ _ _ (by simp; omega)).trans hd2
        · rw [← HP.out]; exact hB2.set k _
    · obtain rfl : k = n := by omega
      go_wp2
      go_ret
      refine ⟨rfl, hd, ?_, hU⟩
      rw [← part_all, ← HL.out]; exact hB

set_option maxRecDepth 100000 in
set_option maxHeartbeats 1000000 in
theorem xor_none (x : BitVec 16) (s cap : Nat) (p : Option Addr) (w : World) (hs : IsStr w s x) :
    Calls Try.prog 23 #[.slice p 0 cap, nextOf s] w fun e w' =>
      e = .returned (.slice (some ⟨w.heap.size, 0, none⟩) 0 0) ∧ IsStr w' s x ∧ Blk8 w' w.heap.size [] ∧ Upd s w w' := by
  have hmk : ∀ w, (Instr.makeSlice 22 (.int .i64 0) (.int .i64 0)).run Try.prog w = .ok (.slice (some ⟨w.heap.size, 0, none⟩) 0 0) (w.alloc (obj8 [])) := fun w => made8 w 0 (by omega)
  have hsl := lt_of_block hs
  have h1 : IsStr (w.alloc (obj8 [])) s x := (Below.heap_alloc w _ s hsl).trans hs
  have h2 : Blk8 (w.alloc (obj8 [])) w.heap.size [] := Blk8.new _ _
  have h3 : Upd s w (w.alloc (obj8 [])) := (Upd.refl _ _).below ((Below.refl _ _).alloc (Nat.le_refl _) _)
  go_enter Try.func23, Try.ntmps23
  go_wp2_with fail
  go_loopg [13] 0 (fun _ s13 wx => s13 = .int .i64 0 ∧ wx = w.alloc (obj8 []))
  case atStart => exact ⟨rfl, rfl⟩
  case round =>
    obtain ⟨rfl, rfl⟩ := hrel
    go_wp2
    go_ret
    exact ⟨rfl, h1, h2, h3⟩

theorem xor_any (x : BitVec 16) (l : List (BitVec 8)) (s n cap : Nat) (p : Option Addr) (w : World) (hs : IsStr w s x) (hl : n = l.length) (hn : n ≤ 1000000)
    (hr : n = 0 ∨ ∃ bb off, p = some ⟨bb, off, none⟩ ∧ Row8 w bb off l ∧ bb < w.heap.size ∧ bb ≠ s) :
    Calls Try.prog 23 #[.slice p n cap, nextOf s] w fun e w' =>
      e = .returned (.slice (some ⟨w.heap.size, 0, none⟩) n n) ∧ IsStr w' s (lfs (8 * n) x) ∧ Blk8 w' w.heap.size (mixL x l) ∧ Upd s w w' := by
  rcases hr with rfl | ⟨bb, off, rfl, hr, hb, h1⟩
  · obtain rfl : l = [] := List.eq_nil_of_length_eq_zero hl.symm
    exact xor_none x s cap p w hs
  · exact xor_some x l s bb off n cap w hs hr hb h1 hl hn

set_option maxHeartbeats 400000 in
theorem smix_any (x : BitVec 16) (l : List (BitVec 8)) (s n cap : Nat) (p : Option Addr) (w : World) (hs : IsStr w s x) (hl : n = l.length) (hn : n ≤ 1000000)
    (hr : n = 0 ∨ ∃ bb off, p = some ⟨bb, off, none⟩ ∧ Row8 w bb off l ∧ bb < w.heap.size ∧ bb ≠ s) :
    Calls Try.prog 20 #[.pointer (some ⟨s, 0, none⟩), .slice p n cap] w fun e w' =>
      e = .returned (.slice (some ⟨w.heap.size, 0, none⟩) n n) ∧ IsStr w' s (lfs (8 * n) x) ∧ Blk8 w' w.heap.size (mixL x l) ∧ Upd s w w' := by
  have HL := Lib.hid hl
  clear hl
  go_enter Try.func20, Try.ntmps20
  go_wp2_with fail
  refine (xor_any x l s n cap p w hs HL.out hn hr).mono ?_
  rintro e w1 ⟨rfl, h1, h2, h3⟩
  go_wp2
  go_ret
  exact ⟨rfl, h1, h2, h3⟩

set_option maxHeartbeats 400000 in
theorem mix_any (z : Int) (l : List (BitVec 8)) (n cap : Nat) (p : Option Addr) (w : World) (hl : n = l.length) (hn : n ≤ 1000000)
    (hr : n = 0 ∨ ∃ bb off, p = some ⟨bb, off, none⟩ ∧ Row8 w bb off l ∧ bb < w.heap.size) :
    Calls Try.prog 13 #[.int .i64 z, .slice p n cap] w fun e w' => ∃ g,
      e = .returned (.slice (some ⟨g, 0, none⟩) n n) ∧ Blk8 w' g (mixL (start (BitVec.ofInt 16 z)) l) ∧ Below w.heap.size w w' ∧ w.heap.size ≤ g := by
  have HL := Lib.hid hl
  clear hl
  go_enter Try.func13, Try.ntmps13
  go_wp2_with fail
  refine (new_any z w).mono ?_
  rintro e w1 ⟨rfl, h1, b1⟩
  go_wp2_with fail
  refine (smix_any _ l w.heap.size n cap p w1 h1 HL.out hn ?_).mono ?_
  · rcases hr with hr | ⟨bb, off, hp, hr, hb⟩
    · exact Or.inl hr
    · exact Or.inr ⟨bb, off, hp, hr.below b1 hb, Nat.lt_of_lt_of_le hb b1.size, by omega⟩
  rintro e w2 ⟨rfl, h2, h3, h4⟩
  go_wp2
  go_ret
  exact ⟨w1.heap.size, rfl, h3, b1.trans (h4.toBelow (Nat.le_refl _) b1.size), b1.size⟩

set_option maxRecDepth 100000 in
set_option maxHeartbeats 1000000 in
theorem skip_any (z : Int) (n : Nat) (w : World) (hn : n ≤ 1048576) :
    Calls Try.prog 15 #[.int .i64 z, .int .i64 (n : Int)] w fun e w' =>
      e = .returned (.int .i64 (h (lfs (8 * n % 65535) (start (BitVec.ofInt 16 z))))) ∧ Below w.heap.size w w' := by
  by_cases h0 : n = 0
  · subst h0
    go_enter Try.func15, Try.ntmps15
    go_wp2_with fail
    refine (new_any z w).mono ?_
    rintro e w1 ⟨rfl, h1, b1⟩
    have c0 := cell_of_one h1
    have l1 := h_lo (start (BitVec.ofInt 16 z))
    have l2 := h_hi (start (BitVec.ofInt 16 z))
    go_wp2_with fail
    go_loopg [14] 0 (fun _ s14 wx => s14 = .int .i64 0 ∧ w1 = wx)
    case atStart => exact ⟨rfl, rfl⟩
    case round =>
      obtain ⟨rfl, rfl⟩ := hrel
      go_wp2
      go_ret
      exact ⟨rfl, b1⟩
  · have t1 : decide ((1048576 : Int) < (n : Int)) = false := by simp; omega
    have t2 : 0 < n := by omega
    have t3 : (n : Int) ≤ 1048576 := by omega
    obtain ⟨m, hm, hme⟩ : ∃ m, m = 8 * n % 65535 ∧ 8 * (n : Int) % 65535 = (m : Int) := ⟨_, rfl, by omega⟩
    rw [← hm]
    clear hm h0
    go_enter Try.func15, Try.ntmps15
    go_wp2_with fail
    refine (new_any z w).mono ?_
    rintro e w1 ⟨rfl, h1, b1⟩
    go_wp2_with fail
    rw [hme]
    go_loopg [14] m (fun g s14 wx => ∃ k : Nat, k ≤ m ∧ g = m - k ∧ s14 = .int .i64 (k : Int) ∧ IsStr wx w.heap.size (lfs k (start (BitVec.ofInt 16 z))) ∧ Below w.heap.size w wx)
    case atStart => exact ⟨0, Nat.zero_le _, rfl, rfl, h1, b1⟩
    case round =>
      obtain ⟨k, hk, hg, rfl, hd, bb⟩ := hrel
      have HG := Lib.hid hg
      clear hg
      by_cases hlt : k < m
      · have hlt' : (k : Int) < (m : Int) := by omega
        have HS := Lib.hid (lfs_succ k (start (BitVec.ofInt 16 z)))
        go_wp2_with fail
        refine (step_any _ _ _ hd).mono ?_
        rintro e w2 ⟨rfl, rfl⟩
        go_wp2
        go_roundg (m - (k + 1))
        case measure => have := HG.out; omega
        case rel => exact ⟨k + 1, by omega, rfl, by go_num, by rw [HS.out]; exact hd.put _, bb.setCell (p := ⟨w.heap.size, 0, none⟩) (Nat.le_refl _) _⟩
      · obtain rfl : k = m := by omega
        have c0 := cell_of_one hd
        have l1 := h_lo (lfs k (start (BitVec.ofInt 16 z)))
        have l2 := h_hi (lfs k (start (BitVec.ofInt 16 z)))
        go_wp2
        go_ret
        exact ⟨rfl, bb⟩

/-- a number brought into 0 .. MaxNum. -/
def win (n : Int) : Int := if n < 0 then 0 else if 1073741824 < n then 1073741824 else n
theorem win_lo (n : Int) : 0 ≤ win n := by unfold win; split <;> (try split) <;> omega
theorem win_hi (n : Int) : win n ≤ 1073741824 := by unfold win; split <;> (try split) <;> omega
set_option maxHeartbeats 400000 in
theorem within_any (n : Int) : Gives 22 #[.int .i64 n] (.int .i64 (win n)) := by
  intro w
  have H : Hid (win n = if n < 0 then 0 else if 1073741824 < n then 1073741824 else n) := rfl
  by_cases h1 : n < 0
  · have e : Hid (win n = 0) := by show _ = _; rw [H.out, if_pos h1]
    have h2 : ¬ (1073741824 < n) := by omega
    have h3 : ¬ (0 < n) := by omega
    have h4 : n < 1073741824 := by omega
    go_enter Try.func22, Try.ntmps22
    go_wp2
    go_ret
    exact ⟨by rw [e.out]; rfl, rfl⟩
  · by_cases h2 : 1073741824 < n
    · have e : Hid (win n = 1073741824) := by show _ = _; rw [H.out, if_neg h1, if_pos h2]
      go_enter Try.func22, Try.ntmps22
      go_wp2
      go_ret
      exact ⟨by rw [e.out]; rfl, rfl⟩
    · have e : Hid (win n = n) := by show _ = _; rw [H.out, if_neg h1, if_neg h2]
      go_enter Try.func22, Try.ntmps22
      go_wp2
      all_goals go_ret
      all_goals exact ⟨by rw [e.out]; first | rfl | (simp; omega), rfl⟩
theorem skip_at (z x : Int) (n : Nat) (hx : x = (n : Int)) (w : World) (hn : n ≤ 1048576) :
    Calls Try.prog 15 #[.int .i64 z, .int .i64 x] w fun e w' =>
      e = .returned (.int .i64 (h (lfs (8 * n % 65535) (start (BitVec.ofInt 16 z))))) ∧ Below w.heap.size w w' := by
  subst hx; exact skip_any z n w hn
end
end Go.Proofs.Ytggiknecfiaokaa.Scr
