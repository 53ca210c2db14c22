/- Texts of the verifier of shale, laid into one: ScrWalks, ScrFirst, Args. -/
import Derived.Test.YtdhcigiaidlmbaaGreatDoorGreat1
import Derived.Test.YtdhcigiaidlmbaaGreatDoorGreat2
import Derived.Test.YtdhcigiaidlmbaaGreatDoorRows
import Derived.WalkKit
import Derived.WalkSpells
import Derived.WalkLawsBesides
import Derived.OneCell
import Derived.Deep.LoopGhost
import Derived.Deep.RegionHeld3
import Derived.Deep.Fields
import Derived.ChangeArms
import Derived.WideShapes
import Derived.ProofKit
import Derived.ChangeOld
/- The walks over package scramble. By the verifier of shale. -/
namespace Go.Proofs.YtdhcigiaidlmbaaGreatDoor.Scr
open Go Go.RowKit Bits16
set_option linter.unusedVariables false
section
attribute [local go_sem] hxor hor hand1 Bits32.bxor
attribute [local go_sem high] Bits16.shr1 Bits16.shr2 Bits16.shr3 Bits16.shr5 Bits16.shl15

/-- Block s is a stream with that state. -/
def IsStr (w : World) (s : Nat) (x : BitVec 16) : Prop := w.heap[s]? = some (.cells #[.int .u16 (h x)] 165 (0, 0))
theorem IsStr.put {w : World} {s : Nat} {x : BitVec 16} (e : IsStr w s x) (y : BitVec 16) : IsStr (w.setCell ⟨s, 0, none⟩ (.int .u16 (h y))) s y := one_setCell e

set_option maxHeartbeats 400000 in
theorem step_any (x : BitVec 16) (s : Nat) (w : World) (hs : IsStr w s x) :
    Calls Tryz.prog 152 #[.pointer (some ⟨s, 0, none⟩)] w fun e w' => e = .returned (.int .i64 (h (x &&& 1#16))) ∧ w.setCell ⟨s, 0, none⟩ (.int .u16 (h (lf x))) = w' := by
  have c0 := cell_of_one hs
  have f0 := free_of_one hs
  have H : Hid (_ = lf x) := (rfl : (x >>> 1) ||| ((x ^^^ (x >>> 2) ^^^ (x >>> 3) ^^^ (x >>> 5)) <<< 15) = lf x)
  have l1 := h_lo (x &&& 1#16)
  have l2 := h_hi (x &&& 1#16)
  clear hs
  go_enter Tryz.func152, Tryz.ntmps152
  go_wp2
  go_ret
  exact ⟨rfl, by rw [H.out]⟩

theorem or_low (x : BitVec 16) (k : Nat) (hk : k < 8) : bits .or .i64 ((lowN x k : Nat) : Int) (wrap64 (h (lfs k x &&& 1#16) * 2 ^ k)) = ((lowN x (k + 1) : Nat) : Int) := by
  have h1 : (lfs k x &&& 1#16).toNat ≤ 1 := by rw [BitVec.toNat_and]; exact Nat.and_le_right
  have h2 : lowN x k < 2 ^ k := Nat.mod_lt _ (Nat.two_pow_pos k)
  have h3 : 2 ^ k ≤ 2 ^ 7 := Nat.pow_le_pow_right (by decide) (by omega)
  have h4 : 2 ^ k * (lfs k x &&& 1#16).toNat ≤ 2 ^ k * 1 := Nat.mul_le_mul_left _ h1
  have e : wrap64 (h (lfs k x &&& 1#16) * 2 ^ k) = ((2 ^ k * (lfs k x &&& 1#16).toNat : Nat) : Int) := by
    unfold h
    rw [show (((lfs k x &&& 1#16).toNat : Int) * 2 ^ k) = ((2 ^ k * (lfs k x &&& 1#16).toNat : Nat) : Int) by rw [Int.natCast_mul, Int.natCast_pow, Int.mul_comm]; rfl]
    exact IntWalk.wrap64_in _ (by omega)
  rw [e, Bits16.or64 _ _ (by omega) (by omega), lowN_succ x k (by omega), Nat.or_comm]
  rw [nat_join k _ _ (by simp) h2]
  omega
set_option maxHeartbeats 400000 in
theorem next_any (x : BitVec 16) (s : Nat) (w : World) (hs : IsStr w s x) :
    Calls Tryz.prog 112 #[.pointer (some ⟨s, 0, none⟩)] w fun e w' => e = .returned (.int .i64 (Bits32.b (out x))) ∧ IsStr w' s (lfs 8 x) ∧ Only s w w' := by
  go_enter Tryz.func112, Tryz.ntmps112
  go_wp2
  go_loopg [3, 5] 8 (fun g s3 s5 wx => ∃ k : Nat, k ≤ 8 ∧ g = 8 - k ∧ s5 = .int .i64 (k : Int) ∧ s3 = .int .i64 ((lowN x k : Nat) : Int) ∧ IsStr wx s (lfs k x) ∧ Only s w wx)
  case atStart => exact ⟨0, by omega, rfl, rfl, by unfold lowN; simp [Nat.mod_one], hs, Only.refl _ _⟩
  case round =>
    obtain ⟨k, hk, hg, rfl, rfl, hd, ho⟩ := hrel
    have HG := Lib.hid hg
    clear hg
    by_cases hlt : k < 8
    · have hlt' : (k : Int) < 8 := by omega
      have hlt2 : (0 : Int) ≤ (k : Int) := by omega
      go_wp2_with fail
      refine (step_any _ _ _ hd).mono ?_
      rintro e w1 ⟨rfl, rfl⟩
      have HO := Lib.hid (or_low x k hlt)
      have HS := Lib.hid (lfs_succ k x)
      go_wp2
      go_roundg (8 - (k + 1))
      case measure => have := HG.out; omega
      case rel => exact ⟨k + 1, by omega, rfl, by go_num, by rw [HO.out], by rw [HS.out]; exact hd.put _, ho.trans (Only.setCell _ ⟨s, 0, none⟩ _)⟩
    · obtain rfl : k = 8 := by omega
      go_wp2
      go_ret
      exact ⟨by unfold Bits32.b; rw [lowN_out]; rfl, hd, ho⟩

set_option maxHeartbeats 400000 in
theorem new_any (x : Int) (w : World) :
    Calls Tryz.prog 71 #[.int .i64 x] w fun e w' => e = .returned (.pointer (some ⟨w.heap.size, 0, none⟩)) ∧ IsStr w' w.heap.size (start (BitVec.ofInt 16 x)) ∧ Below w.heap.size w w' := by
  have hw := h_u16 x
  by_cases h0 : BitVec.ofInt 16 x = 0
  · have t : (h (BitVec.ofInt 16 x) == 0) = true := by rw [h0]; rfl
    have e : start (BitVec.ofInt 16 x) = 0xACE1#16 := if_pos h0
    rw [e]
    clear h0 e
    go_enter Tryz.func71, Tryz.ntmps71
    go_wp2
    go_ret
    refine ⟨rfl, ?_, ?_⟩
    · exact heap_alloc_new w _
    · exact (Below.refl _ _).alloc (Nat.le_refl _) _
  · have t : (h (BitVec.ofInt 16 x) == 0) = false := by
      rw [beq_eq_false_iff_ne]
      intro e
      exact h0 (h_inj _ 0 e)
    have e : start (BitVec.ofInt 16 x) = BitVec.ofInt 16 x := if_neg h0
    rw [e]
    clear h0 e
    go_enter Tryz.func71, Tryz.ntmps71
    go_wp2
    go_ret
    refine ⟨rfl, heap_alloc_new w _, (Below.refl _ _).alloc (Nat.le_refl _) _⟩

/-- the stream's method value, as it is handed on. -/
abbrev nextOf (s : Nat) : Value := .func (.func 112) #[.pointer (some ⟨s, 0, none⟩)] #[]

set_option maxRecDepth 100000 in
set_option maxHeartbeats 1000000 in
theorem xor_some (x : BitVec 16) (l : List (BitVec 8)) (s bb off n cap : Nat) (w : World) (hs : IsStr w s x) (hr : Row8 w bb off l) (hb : bb < w.heap.size) (h1 : bb ≠ s) (hl : n = l.length) (hn : n ≤ 1000000) :
    Calls Tryz.prog 111 #[.slice (some ⟨bb, off, none⟩) n cap, nextOf s] w fun e w' =>
      e = .returned (.slice (some ⟨w.heap.size, 0, none⟩) n n) ∧ IsStr w' s (lfs (8 * n) x) ∧ Blk8 w' w.heap.size (mixL x l) ∧ Upd s w w' := by
  have hmk := fun w => made8 w n hn
  have HL := Lib.hid hl
  have hsl := lt_of_block hs
  clear hl
  go_enter Tryz.func111, Tryz.ntmps111
  go_wp2_with fail
  go_loopg [13] n (fun g s13 wx => ∃ k : Nat, k ≤ n ∧ g = n - k ∧ s13 = .int .i64 (k : Int) ∧ IsStr wx s (lfs (8 * k) x) ∧ Blk8 wx w.heap.size (part x l k) ∧ Upd s w wx)
  case atStart => exact ⟨0, Nat.zero_le _, rfl, rfl, (Below.heap_alloc w _ s hsl).trans hs, by rw [part_zero, ← HL.out]; exact Blk8.new _ _, (Upd.refl _ _).below ((Below.refl _ _).alloc (Nat.le_refl _) _)⟩
  case round =>
    obtain ⟨k, hk, hg, rfl, hd, hB, hU⟩ := hrel
    have HG := Lib.hid hg
    clear hg
    by_cases hlt : k < n
    · have y0 : (0 : Int) ≤ (k : Int) := by omega
      have y1 : (k : Int) < (n : Int) := by omega
      have c1 := (hr.upd hU hb h1) k (by have := HL.out; omega)
      go_wp2_with fail
      refine (next_any _ _ _ hd).mono ?_
      rintro e w1 ⟨rfl, hd2, ho⟩
      have hB2 : Blk8 w1 w.heap.size (part x l k) := (ho.block _ (by omega)).trans hB
      have c2 := hB2.cell (i := k) (by rw [part_length x l k (by have := HL.out; omega)]; have := HL.out; omega)
      have c3 := hB2.free k
      have HP := Lib.hid (part_set x l k (by have := HL.out; omega))
      have lo := Bits32.b_lo (out (lfs (8 * k) x))
      have hi := Bits32.b_hi (out (lfs (8 * k) x))
      go_wp2
      go_roundg (n - (k + 1))
      case measure => have := HG.out; omega
      case rel =>
        refine ⟨k + 1, by omega, rfl, by go_num, ?_, ?_, (hU.only ho).setNew (p := ⟨w.heap.size, k, none⟩) (Nat.le_refl _) _⟩
        · rw [lfs_add, show 8 * k + 8 = 8 * (k + 1) by omega] at hd2
          exact (Below.heap_setCell _ _ _ _ (by simp; omega)).trans hd2
        · rw [← HP.out]; exact hB2.set k _
    · obtain rfl : k = n := by omega
      go_wp2
      go_ret
      refine ⟨rfl, hd, ?_, hU⟩
      rw [← part_all, ← HL.out]; exact hB

set_option maxRecDepth 100000 in
set_option maxHeartbeats 1000000 in
theorem xor_none (x : BitVec 16) (s cap : Nat) (p : Option Addr) (w : World) (hs : IsStr w s x) :
    Calls Tryz.prog 111 #[.slice p 0 cap, nextOf s] w fun e w' =>
      e = .returned (.slice (some ⟨w.heap.size, 0, none⟩) 0 0) ∧ IsStr w' s x ∧ Blk8 w' w.heap.size [] ∧ Upd s w w' := by
  have hmk : ∀ w, (Instr.makeSlice 25 (.int .i64 0) (.int .i64 0)).run Tryz.prog w = .ok (.slice (some ⟨w.heap.size, 0, none⟩) 0 0) (w.alloc (obj8 [])) := fun w => made8 w 0 (by omega)
  have hsl := lt_of_block hs
  have h1 : IsStr (w.alloc (obj8 [])) s x := (Below.heap_alloc w _ s hsl).trans hs
  have h2 : Blk8 (w.alloc (obj8 [])) w.heap.size [] := Blk8.new _ _
  have h3 : Upd s w (w.alloc (obj8 [])) := (Upd.refl _ _).below ((Below.refl _ _).alloc (Nat.le_refl _) _)
  go_enter Tryz.func111, Tryz.ntmps111
  go_wp2_with fail
  go_loopg [13] 0 (fun _ s13 wx => s13 = .int .i64 0 ∧ wx = w.alloc (obj8 []))
  case atStart => exact ⟨rfl, rfl⟩
  case round =>
    obtain ⟨rfl, rfl⟩ := hrel
    go_wp2
    go_ret
    exact ⟨rfl, h1, h2, h3⟩

theorem xor_any (x : BitVec 16) (l : List (BitVec 8)) (s n cap : Nat) (p : Option Addr) (w : World) (hs : IsStr w s x) (hl : n = l.length) (hn : n ≤ 1000000)
    (hr : n = 0 ∨ ∃ bb off, p = some ⟨bb, off, none⟩ ∧ Row8 w bb off l ∧ bb < w.heap.size ∧ bb ≠ s) :
    Calls Tryz.prog 111 #[.slice p n cap, nextOf s] w fun e w' =>
      e = .returned (.slice (some ⟨w.heap.size, 0, none⟩) n n) ∧ IsStr w' s (lfs (8 * n) x) ∧ Blk8 w' w.heap.size (mixL x l) ∧ Upd s w w' := by
  rcases hr with rfl | ⟨bb, off, rfl, hr, hb, h1⟩
  · obtain rfl : l = [] := List.eq_nil_of_length_eq_zero hl.symm
    exact xor_none x s cap p w hs
  · exact xor_some x l s bb off n cap w hs hr hb h1 hl hn

set_option maxHeartbeats 400000 in
theorem smix_any (x : BitVec 16) (l : List (BitVec 8)) (s n cap : Nat) (p : Option Addr) (w : World) (hs : IsStr w s x) (hl : n = l.length) (hn : n ≤ 1000000)
    (hr : n = 0 ∨ ∃ bb off, p = some ⟨bb, off, none⟩ ∧ Row8 w bb off l ∧ bb < w.heap.size ∧ bb ≠ s) :
    Calls Tryz.prog 72 #[.pointer (some ⟨s, 0, none⟩), .slice p n cap] w fun e w' =>
      e = .returned (.slice (some ⟨w.heap.size, 0, none⟩) n n) ∧ IsStr w' s (lfs (8 * n) x) ∧ Blk8 w' w.heap.size (mixL x l) ∧ Upd s w w' := by
  have HL := Lib.hid hl
  clear hl
  go_enter Tryz.func72, Tryz.ntmps72
  go_wp2_with fail
  refine (xor_any x l s n cap p w hs HL.out hn hr).mono ?_
  rintro e w1 ⟨rfl, h1, h2, h3⟩
  go_wp2
  go_ret
  exact ⟨rfl, h1, h2, h3⟩

set_option maxHeartbeats 400000 in
theorem mix_any (z : Int) (l : List (BitVec 8)) (n cap : Nat) (p : Option Addr) (w : World) (hl : n = l.length) (hn : n ≤ 1000000)
    (hr : n = 0 ∨ ∃ bb off, p = some ⟨bb, off, none⟩ ∧ Row8 w bb off l ∧ bb < w.heap.size) :
    Calls Tryz.prog 45 #[.int .i64 z, .slice p n cap] w fun e w' => ∃ g,
      e = .returned (.slice (some ⟨g, 0, none⟩) n n) ∧ Blk8 w' g (mixL (start (BitVec.ofInt 16 z)) l) ∧ Below w.heap.size w w' ∧ w.heap.size ≤ g := by
  have HL := Lib.hid hl
  clear hl
  go_enter Tryz.func45, Tryz.ntmps45
  go_wp2_with fail
  refine (new_any z w).mono ?_
  rintro e w1 ⟨rfl, h1, b1⟩
  go_wp2_with fail
  refine (smix_any _ l w.heap.size n cap p w1 h1 HL.out hn ?_).mono ?_
  · rcases hr with hr | ⟨bb, off, hp, hr, hb⟩
    · exact Or.inl hr
    · exact Or.inr ⟨bb, off, hp, hr.below b1 hb, Nat.lt_of_lt_of_le hb b1.size, by omega⟩
  rintro e w2 ⟨rfl, h2, h3, h4⟩
  go_wp2
  go_ret
  exact ⟨w1.heap.size, rfl, h3, b1.trans (h4.toBelow (Nat.le_refl _) b1.size), b1.size⟩

/-- a number brought into 0 .. MaxNum. -/
def win (n : Int) : Int := if n < 0 then 0 else if 1073741824 < n then 1073741824 else n
theorem win_lo (n : Int) : 0 ≤ win n := by unfold win; split <;> (try split) <;> omega
theorem win_hi (n : Int) : win n ≤ 1073741824 := by unfold win; split <;> (try split) <;> omega
set_option maxHeartbeats 400000 in
theorem within_any (n : Int) : Gives 73 #[.int .i64 n] (.int .i64 (win n)) := by
  intro w
  have H : Hid (win n = if n < 0 then 0 else if 1073741824 < n then 1073741824 else n) := rfl
  by_cases h1 : n < 0
  · have e : Hid (win n = 0) := by show _ = _; rw [H.out, if_pos h1]
    have h2 : ¬ (1073741824 < n) := by omega
    have h3 : ¬ (0 < n) := by omega
    have h4 : n < 1073741824 := by omega
    go_enter Tryz.func73, Tryz.ntmps73
    go_wp2
    go_ret
    exact ⟨by rw [e.out]; rfl, rfl⟩
  · by_cases h2 : 1073741824 < n
    · have e : Hid (win n = 1073741824) := by show _ = _; rw [H.out, if_neg h1, if_pos h2]
      go_enter Tryz.func73, Tryz.ntmps73
      go_wp2
      go_ret
      exact ⟨by rw [e.out]; rfl, rfl⟩
    · have e : Hid (win n = n) := by show _ = _; rw [H.out, if_neg h1, if_neg h2]
      go_enter Tryz.func73, Tryz.ntmps73
      go_wp2
      all_goals go_ret
      all_goals exact ⟨by rw [e.out]; first | rfl | (simp; omega), rfl⟩
end
end Go.Proofs.YtdhcigiaidlmbaaGreatDoor.Scr
/- The examples of chapter 11, as the statements ask them first of all. By the verifier of shale. -/
namespace Go.Proofs.YtdhcigiaidlmbaaGreatDoor.Scr
open Go Go.RowKit Bits16
set_option linter.unusedVariables false
attribute [local go_sem] hxor hor hand1 Bits32.bxor

/-- what Seed answers. -/
def seedOf (b p : Int) : Int := (1 + win b * 257 + win p * 31) % 65536
set_option maxRecDepth 100000 in
set_option maxHeartbeats 1000000 in
theorem seed_any (b p : Int) (w : World) :
    Calls Tryz.prog 46 #[.agg #[.int .i64 b, .int .i64 p]] w fun e w' => e = .returned (.int .i64 (seedOf b p)) ∧ Below w.heap.size w w' := by
  have j1 := within_any b
  have j2 := within_any p
  have a1 := win_lo b
  have a2 := win_hi b
  have a3 := win_lo p
  have a4 := win_hi p
  have e1 : IntKind.i64.wrap (win b * 257) = win b * 257 := IntWalk.i64_in _ (by omega)
  have e2 : IntKind.i64.wrap (1 + win b * 257) = 1 + win b * 257 := IntWalk.i64_in _ (by omega)
  have e3 : IntKind.i64.wrap (win p * 31) = win p * 31 := IntWalk.i64_in _ (by omega)
  have e4 : IntKind.i64.wrap (1 + win b * 257 + win p * 31) = 1 + win b * 257 + win p * 31 := IntWalk.i64_in _ (by omega)
  have e5 : (1 + win b * 257 + win p * 31).tmod 65536 = seedOf b p := Int.tmod_eq_emod_of_nonneg (by omega)
  have c1 : (w.alloc (.cells #[.int .i64 b, .int .i64 p] 43)).cell? ⟨w.heap.size, 0, none⟩ = some (.int .i64 b) := by
    unfold World.cell?
    simp only
    rw [heap_alloc_new]
    rfl
  have c2 : (w.alloc (.cells #[.int .i64 b, .int .i64 p] 43)).cell? ⟨w.heap.size, 1, none⟩ = some (.int .i64 p) := by
    unfold World.cell?
    simp only
    rw [heap_alloc_new]
    rfl
  have hb : Below w.heap.size w (w.alloc (.cells #[.int .i64 b, .int .i64 p] 43)) := (Below.refl _ _).alloc (Nat.le_refl _) _
  go_enter Tryz.func46, Tryz.ntmps46
  go_wp2_with fail
  generalize w.alloc (.cells #[.int .i64 b, .int .i64 p] 43) = w0 at c1 c2 hb ⊢
  go_region_held3 (fun w' => w'.cell? ⟨w.heap.size, 0, none⟩ = some (.int .i64 b) ∧ w'.cell? ⟨w.heap.size, 1, none⟩ = some (.int .i64 p)) (go_keep)
    (first
      | (go_at_call 73; refine Calls.mono (gives_run (v := ?_) ?_) ?_; rotate_left; (first | with_reducible exact j1 | with_reducible exact j2); rintro e w' ⟨rfl, rfl⟩))
  go_wp2
  go_ret
  exact ⟨rfl, hb.drew⟩

theorem v1 : Bits32.b (out (start (BitVec.ofInt 16 1))) = 1 := by decide +kernel
theorem v2 : Bits32.b (out (start (BitVec.ofInt 16 0))) = 225 := by decide +kernel
theorem v3 : seedOf 1 2 = 320 := by decide +kernel
theorem v4 : seedOf (-1) 0 = 1 := by decide +kernel
end Go.Proofs.YtdhcigiaidlmbaaGreatDoor.Scr
/- Structs of integers that came in by value. By the verifier of shale. -/
namespace Go.Proofs.YtdhcigiaidlmbaaGreatDoor
open Go Go.RowKit Go.ChangeShapes Go.WideShapes Go.Deep
/-- a struct of integers alone, handed in by value: its cells are integers that fit. -/
theorem open_ints_struct {H : Type} {enc : TypeId × Value → H} {P : Program} {w : World} {base b0 : Nat} {spare : Nat → Bool} {held : Bool} {r : Reach} {k : IntKind} {t : TypeId} {fs : Array Field} {v : Value} {d : DataW H} {p : List MemPlace}
    (hs : P.underlying t = some (.struct fs)) (hone : oneCellFields P fs = true) (hC : P.cellsOf t = fs.size) (hi : ∀ (j : Nat) (f : Field), fs[j]? = some f → P.underlying f.type = some (.int k))
    (hv : Value.okWide P w r b0 t v) (h : DataW.Trod enc P w base spare held t v d p) :
    ∃ n : Nat → Int, v = .agg ((List.range fs.size).map fun i => .int k (n i)).toArray ∧ ∀ i, i < fs.size → (Lit.int k (n i)).wf = true := by
  obtain ⟨cs, rfl, hsz⟩ := okWide_struct hs hv
  obtain ⟨fuel, hf⟩ := h
  obtain ⟨xs, n, _, _, hl, _, hg⟩ := DataW.trod_struct hs hf
  have each : ∀ j, j < fs.size → ∃ m, cs[j]? = some (.int k m) ∧ (Lit.int k m).wf = true := by
    intro j hj
    have hf0 : fs[j]? = some (fs[j]'hj) := Array.getElem?_eq_getElem hj
    obtain ⟨o, c⟩ := hone_of hone j _ hf0
    have g := hg j _ hf0
    rw [o, c] at g
    have hx : j < xs.length := by omega
    rw [List.getElem?_eq_getElem hx] at g
    obtain ⟨m, e, _, hw⟩ := DataW.trod_int (hi j _ hf0) g
    refine ⟨m, ?_, hw⟩
    have hj2 : j < cs.toList.length := by rw [Array.length_toList]; omega
    have e2 : (cs.toList.drop j).take 1 = [.int k m] := by simpa [Value.cells] using e
    rw [List.drop_eq_getElem_cons hj2] at e2
    simp only [List.take_succ_cons, List.take_zero, List.cons.injEq, and_true] at e2
    rw [Array.getElem?_eq_getElem (by simpa using hj2)]
    congr 1
  refine ⟨fun j => match cs[j]? with | some (.int _ m) => m | _ => 0, ?_, fun i hi => ?_⟩
  · congr 1
    apply Array.ext_getElem?
    intro j
    by_cases hj : j < fs.size
    · obtain ⟨m, e, _⟩ := each j hj
      rw [e]
      simp [hj, e]
    · have h1 : cs.size ≤ j := by omega
      rw [Array.getElem?_eq_none h1, Array.getElem?_eq_none (by simp; omega)]
  · obtain ⟨m, e, hw⟩ := each i hi
    simp only [e]
    exact hw
end Go.Proofs.YtdhcigiaidlmbaaGreatDoor
