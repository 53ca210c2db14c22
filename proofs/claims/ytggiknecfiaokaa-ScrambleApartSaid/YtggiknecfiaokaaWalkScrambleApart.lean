/- The walk over ScrambleApart. By the verifier of shale. -/
import Derived.Test.YtggiknecfiaokaaScrFirst
import Derived.Test.YtggiknecfiaokaaScrOrder
import Derived.Test.YtggiknecfiaokaaRefSame
import Derived.Deep.Cut
import Derived.Deep.DeepCutAuto
namespace Go.Proofs.Ytggiknecfiaokaa.walkScrambleApart
open Go Go.RowKit Bits16 Scr
set_option linter.unusedVariables false
theorem and16 (x : Int) : bits .and .i64 x 65535 = h (BitVec.ofInt 16 x) := by
  show IntKind.i64.wrap ((BitVec.ofInt 64 x &&& BitVec.ofInt 64 65535).toNat : Int) = _
  have e : (BitVec.ofInt 64 x &&& BitVec.ofInt 64 65535).toNat = (BitVec.ofInt 16 x).toNat := by
    rw [BitVec.toNat_and, show (BitVec.ofInt 64 65535).toNat = 2 ^ 16 - 1 by decide, Nat.and_two_pow_sub_one_eq_mod, BitVec.toNat_ofInt, BitVec.toNat_ofInt]
    omega
  rw [e]
  unfold h
  have := (BitVec.ofInt 16 x).isLt
  exact IntWalk.i64_in _ (by omega)
/-- a byte, eight bits up. -/
def b8 (c : BitVec 8) : Int := ((256 * c.toNat : Nat) : Int)
theorem or_b8 (x : BitVec 16) : bits .or .i64 (Bits32.b (out x)) (b8 (out (lfs 8 x))) = h x := by
  unfold Bits32.b b8 h
  have h1 := (out x).isLt
  have h2 := (out (lfs 8 x)).isLt
  rw [Bits16.or64 _ _ (by omega) (by omega), Nat.or_comm, nat_join 8 _ _ (by omega) h1]
  have := two_bytes x
  omega
theorem fin (x : BitVec 16) : (bits .or .i64 (IntKind.i64.wrap (Bits32.b (out x))) (IntKind.i64.wrap (IntKind.i64.wrap (Bits32.b (out (lfs 8 x))) * 256)) == h x) = true := by
  have a1 := Bits32.b_lo (out x)
  have a2 := Bits32.b_hi (out x)
  have a3 := Bits32.b_lo (out (lfs 8 x))
  have a4 := Bits32.b_hi (out (lfs 8 x))
  have e1 : IntKind.i64.wrap (Bits32.b (out x)) = Bits32.b (out x) := IntWalk.i64_in _ (by omega)
  have e2 : IntKind.i64.wrap (Bits32.b (out (lfs 8 x))) = Bits32.b (out (lfs 8 x)) := IntWalk.i64_in _ (by omega)
  have e3 : IntKind.i64.wrap (Bits32.b (out (lfs 8 x)) * 256) = b8 (out (lfs 8 x)) := by
    rw [IntWalk.i64_in _ (by omega)]
    unfold Bits32.b b8
    omega
  rw [e1, e2, e3, or_b8]
  exact beq_self_eq_true _
set_option maxRecDepth 100000 in
set_option maxHeartbeats 2000000 in
theorem walk (a b : Int) (w : World) (_w0 : (Lit.int .i64 a).wf = true) (_w1 : (Lit.int .i64 b).wf = true) :
    Calls Try.prog 6 #[.int .i64 a, .int .i64 b] w fun e w' => e = .returned (.bool true) ∧ Below w.heap.size w w' := by
  have hmk : ∀ w, (Instr.makeSlice 22 (.int .i64 20) (.int .i64 20)).run Try.prog w = .ok (.slice (some ⟨w.heap.size, 0, none⟩) 20 20) (w.alloc (obj8 zeros)) := fun w => made8 w 20 (by omega)
  have ha := and16 a
  have hb := and16 b
  go_enter Try.func6, Try.ntmps6
  go_wp2_with fail
  refine (first_any w).mono ?_
  rintro e w1 ⟨rfl, b1⟩
  go_wp2_with fail
  have z1 : Row8 (w1.alloc (obj8 zeros)) w1.heap.size 0 zeros := (Blk8.new _ _).row
  refine (mix_any a zeros 20 20 _ _ rfl (by omega) (Or.inr ⟨w1.heap.size, 0, rfl, z1, by simp⟩)).mono ?_
  rintro e w2 ⟨g, rfl, hx, b2, hg⟩
  go_wp2_with fail
  have z2 : Row8 (w2.alloc (obj8 zeros)) w2.heap.size 0 zeros := (Blk8.new _ _).row
  refine (mix_any b zeros 20 20 _ _ rfl (by omega) (Or.inr ⟨w2.heap.size, 0, rfl, z2, by simp⟩)).mono ?_
  rintro e w3 ⟨g2, rfl, hy, b3, hg2⟩
  have hx : Blk8 w3 g (mixL (Scr.start (BitVec.ofInt 16 a)) zeros) := (b3.block _ (by have := hx.lt; simp; omega)).trans ((Below.heap_alloc w2 _ _ hx.lt).trans hx)
  have bw : Below w.heap.size w w3 := by
    have c1 : Below w.heap.size w (w1.alloc (obj8 zeros)) := b1.alloc b1.size _
    have c2 := c1.trans (b2.mono c1.size)
    have c3 : Below w.heap.size w (w2.alloc (obj8 zeros)) := c2.alloc c2.size _
    exact c3.trans (b3.mono c3.size)
  clear hmk z1 z2
  have hst : ∀ z : BitVec 16, ((h z == 0) = true ∧ (44257 : Int) = h (Scr.start z)) ∨ ((h z == 0) = false ∧ h z = h (Scr.start z)) := by
    intro z
    by_cases hz : z = 0
    · subst hz; exact Or.inl ⟨rfl, rfl⟩
    · refine Or.inr ⟨?_, by rw [Scr.start_of z hz]⟩
      rw [beq_eq_false_iff_ne]
      intro e
      exact hz (h_inj z 0 e)
  have H1 := Lib.hid (hst (BitVec.ofInt 16 a))
  have H2 := Lib.hid (hst (BitVec.ofInt 16 b))
  clear hst
  go_upto_if 22 with (fail)
  go_cut [8] (fun s8 wx => s8 = .int .i64 (h (Scr.start (BitVec.ofInt 16 a))) ∧ w3 = wx)
  case first =>
    rcases H1.out with ⟨u1, u2⟩ | ⟨u1, u2⟩
    · rw [u1]
      have U := Lib.hid u2
      clear u1 u2
      go_wp2
      go_meet
      case rel => exact ⟨by rw [U.out], rfl⟩
    · rw [u1]
      have U := Lib.hid u2
      clear u1 u2
      go_wp2
      go_meet
      case rel => exact ⟨by rw [U.out], rfl⟩
  case rest =>
    obtain ⟨rfl, rfl⟩ := hcut
    go_upto_if 24 with (fail)
    go_cut [9] (fun s9 wx => s9 = .int .i64 (h (Scr.start (BitVec.ofInt 16 b))) ∧ w3 = wx)
    case first =>
      rcases H2.out with ⟨u1, u2⟩ | ⟨u1, u2⟩
      · rw [u1]
        have U := Lib.hid u2
        clear u1 u2
        go_wp2
        go_meet
        case rel => exact ⟨by rw [U.out], rfl⟩
      · rw [u1]
        have U := Lib.hid u2
        clear u1 u2
        go_wp2
        go_meet
        case rel => exact ⟨by rw [U.out], rfl⟩
    case rest =>
      obtain ⟨rfl, rfl⟩ := hcut
      clear H1 H2 ha hb
      generalize Scr.start (BitVec.ofInt 16 a) = S at hx ⊢
      generalize Scr.start (BitVec.ofInt 16 b) = T at hy ⊢
      have l1 : (mixL S zeros).length = 20 := mixL_length _ _
      have l2 : (mixL T zeros).length = 20 := mixL_length _ _
      have s1 : Str8 w3 (.slice (some ⟨g, 0, none⟩) 2 20) ((mixL S zeros).take 2) := Str8.of (IsBytes.mk (by rw [List.length_take, l1]; rfl) (hx.row.take 2) hx.lt)
      have s2 : Str8 w3 (.slice (some ⟨g2, 0, none⟩) 2 20) ((mixL T zeros).take 2) := Str8.of (IsBytes.mk (by rw [List.length_take, l2]; rfl) (hy.row.take 2) hy.lt)
      have s3 : Str8 w3 (.slice (some ⟨g, 0, none⟩) 20 20) (mixL S zeros) := Str8.of (IsBytes.mk l1.symm hx.row hx.lt)
      have s4 : Str8 w3 (.slice (some ⟨g2, 0, none⟩) 20 20) (mixL T zeros) := Str8.of (IsBytes.mk l2.symm hy.row hy.lt)
      have d0 : w3.cell? ⟨g, 0, none⟩ = some (.int .u8 (Bits32.b (out S))) := by
        have := hx.cell (i := 0) (by omega)
        obtain ⟨r, hr⟩ := mix_zeros S
        rwa [hr] at this
      have d1 : w3.cell? ⟨g, 1, none⟩ = some (.int .u8 (Bits32.b (out (lfs 8 S)))) := by
        have := hx.cell (i := 1) (by omega)
        obtain ⟨r, hr⟩ := mix_zeros S
        rwa [hr] at this
      obtain ⟨c, hc⟩ : ∃ c : Bool, decide (S = T) = c := ⟨_, rfl⟩
      have f1 : (h S == h T) = c := by
        rw [← hc, Bool.eq_iff_iff, beq_iff_eq, decide_eq_true_iff]
        exact ⟨fun e => h_inj _ _ e, fun e => by rw [e]⟩
      have f2 : decide ((mixL S zeros).take 2 = (mixL T zeros).take 2) = c := by rw [mix_two]; exact hc
      have f3 : decide (mixL S zeros = mixL T zeros) = c := by rw [mix_same]; exact hc
      have n0 := Bits32.b_lo (out S)
      have n1 := Bits32.b_hi (out S)
      have n2 := Bits32.b_lo (out (lfs 8 S))
      have n3 := Bits32.b_hi (out (lfs 8 S))
      have p1 := Sames.mk s1 s2 f2
      have p2 := Sames.mk s3 s4 f3
      clear l1 l2 s1 s2 s3 s4 f2 f3 hc hx hy
      go_wp2_with fail
      go_region_held3 (fun w' => SameHeap w3 w' ∧ w'.cell? ⟨g, 0, none⟩ = some (.int .u8 (Bits32.b (out S))) ∧ w'.cell? ⟨g, 1, none⟩ = some (.int .u8 (Bits32.b (out (lfs 8 S)))))
        (first | assumption | exact ⟨SameHeap.drew (SameHeap.refl _), d0, d1⟩)
        (first
          | (go_at_call 12; refine Calls.mono (sames_run (c := ?_) ?_ (And.left (by assumption))) ?_; rotate_left; (first | with_reducible exact p1 | with_reducible exact p2); rintro e w' ⟨rfl, rfl⟩))
      go_wp2
      go_ret
      exact ⟨congrArg (fun r => Ending.returned (.bool r)) (fin S), bw.drew⟩
end Go.Proofs.Ytggiknecfiaokaa.walkScrambleApart
