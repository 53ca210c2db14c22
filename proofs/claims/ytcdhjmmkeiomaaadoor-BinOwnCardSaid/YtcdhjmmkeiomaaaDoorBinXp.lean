/- The walks over package binpoly's power, sum and Of. By the verifier of shale. -/
import Derived.Test.YtcdhjmmkeiomaaaDoorBinGcd
namespace Go.Proofs.YtcdhjmmkeiomaaaDoor.Bin
open Go Go.RowKit
set_option linter.unusedVariables false
set_option maxRecDepth 100000 in
set_option maxHeartbeats 1000000 in
theorem power_any (i : Nat) (w : World) (hi : i ≤ 2048) :
    Calls Tryd.prog 52 #[.int .i64 (i : Int)] w (GivesP (2 ^ i) w) := by
  obtain ⟨N, hN⟩ : ∃ N, N = i / 8 + 1 := ⟨_, rfl⟩
  have eN : (i : Int) / 8 + 1 = (N : Int) := by omega
  have bN : N ≤ 300 := by omega
  have hmk := made8P w N (by omega)
  have HN := Lib.hid hN
  have HB : Hid (Buf8 (w.alloc (obj8 (List.replicate N 0))) w.heap.size (List.replicate N 0)) := buf_of_blk (Blk8.new w _)
  have b0 := (Below.refl w.heap.size w).alloc (Nat.le_refl _) (obj8 (List.replicate N 0))
  have HB0 := Lib.hid b0
  clear hN b0
  go_enter Tryd.func52, Tryd.ntmps52
  go_wp2_with fail
  refine (turn_any (List.replicate N 0) w.heap.size N N i _ HB.out (by simp) (by have := HN.out; omega) (by omega)).mono ?_
  rintro e w2 ⟨rfl, ⟨X, hXl, hXv, hX⟩, hO⟩
  have hl : X.length = N := by rw [hXl]; simp
  have hv : val X = 2 ^ i := by rw [hXv, val_zeros, Nat.zero_xor]
  have hd : Deg (val X) i := by rw [hv]; exact ⟨Nat.le_refl _, by rw [Nat.pow_succ]; have := Nat.two_pow_pos i; omega⟩
  have HL := Lib.hid hl
  have HF : Hid (Bare X) := bare_of_deg hd (by rw [hl]; exact HN.out)
  have HV := Lib.hid hv
  clear hXl hXv hl hv hd
  go_wp2_with fail
  go_ret
  exact ⟨_, _, _, X, rfl, ⟨HL.out.symm, Nat.le_refl _, by unfold maxLen; omega, Or.inr ⟨_, rfl, Nat.le_refl _, hX⟩⟩, HF.out, HV.out, HB0.out.trans (hO.below (Nat.le_refl _))⟩
theorem room_of {x n k : Nat} (h : x < 2 ^ n) (hk : n ≤ 8 * k) : x < room k := Nat.lt_of_lt_of_le h (Nat.pow_le_pow_right (by decide) hk)
/-- the sum of x to these. -/
def xp : List Nat → Nat
  | [] => 0
  | e :: l => 2 ^ e ^^^ xp l
theorem xp_append (l m : List Nat) : xp (l ++ m) = xp l ^^^ xp m := by
  induction l with
  | nil => simp [xp]
  | cons a l ih => simp only [List.cons_append, xp, ih, Nat.xor_assoc]
theorem xp_lt (l : List Nat) (n : Nat) (h : ∀ e ∈ l, e < n) : xp l < 2 ^ n := by
  induction l with
  | nil => exact Nat.two_pow_pos n
  | cons a l ih =>
    exact Nat.xor_lt_two_pow (Nat.pow_lt_pow_right (by decide) (h a (by simp))) (ih fun e he => h e (by simp [he]))
/-- numbers that stand in a row. -/
structure RowN (w : World) (a : Option Addr) (n : Nat) (es : List Nat) : Prop where
  hlen : n = es.length
  row : ∀ i, i < n → ∃ bb off, a = some ⟨bb, off, none⟩ ∧ w.cell? ⟨bb, off + i, none⟩ = some (.int .i64 ((es.getD i 0 : Nat) : Int)) ∧ bb < w.heap.size
theorem RowN.below {w w' : World} {a : Option Addr} {n : Nat} {es : List Nat} (h : RowN w a n es) (b : Below w.heap.size w w') : RowN w' a n es :=
  ⟨h.hlen, fun i hi => by
    obtain ⟨bb, off, e, hc, hb⟩ := h.row i hi
    exact ⟨bb, off, e, (b.cell (p := ⟨bb, off + i, none⟩) hb).trans hc, Nat.lt_of_lt_of_le hb b.size⟩⟩
theorem take_getD (es : List Nat) (k : Nat) (h : k < es.length) : es.take (k + 1) = es.take k ++ [es.getD k 0] := by
  rw [List.take_succ_eq_append_getElem h, List.getD_eq_getElem?_getD, List.getElem?_eq_getElem h]; rfl
set_option maxRecDepth 100000 in
set_option maxHeartbeats 2000000 in
theorem sum_any (a : Option Addr) (n cap : Nat) (es : List Nat) (w : World) (h : RowN w a n es) (hn : n ≤ 100000) (hes : ∀ e ∈ es, e ≤ 2048) :
    Calls Tryd.prog 50 #[.slice a n cap, .func (.func 13) #[] #[]] w (GivesP (xp es) w) := by
  have HR := Lib.hid h
  have HE := Lib.hid hes
  have nilP : NewP w w none 0 0 [] := ⟨rfl, Nat.le_refl _, by decide, Or.inl ⟨rfl, rfl, rfl⟩⟩
  have HN := Lib.hid nilP
  clear h hes nilP
  go_enter Tryd.func50, Tryd.ntmps50
  go_wp2_with fail
  go_loopg [5, 10] n (fun gh s5 s10 wx => ∃ (k : Nat) (b : Option Addr) (nb cb : Nat) (X : List (BitVec 8)), gh = n - k ∧ k ≤ n ∧ s10 = .int .i64 (k : Int) ∧ s5 = .slice b nb cb ∧ NewP w wx b nb cb X ∧ Bare X ∧ Hid (val X = xp (es.take k)) ∧ Below w.heap.size w wx)
  case atStart => exact ⟨0, none, 0, 0, [], rfl, by omega, rfl, rfl, HN.out, bare_nil, (show val [] = xp (List.take 0 es) by rw [List.take_zero]; rfl), Below.refl _ _⟩
  case round =>
    obtain ⟨k, b, nb, cb, X, hg, hk, rfl, rfl, hX, bX, HV, hB⟩ := hrel
    have HG := Lib.hid hg
    clear hg
    by_cases hlt : k < n
    · have x1 : (k : Int) < (n : Int) := by omega
      have x0 : (0 : Int) ≤ (k : Int) := by omega
      obtain ⟨bb, off, rfl, hc, hb⟩ := HR.out.row k hlt
      have c1 := (hB.cell (p := ⟨bb, off + k, none⟩) hb).trans hc
      have hke : k < es.length := by have := HR.out.hlen; omega
      have he : es.getD k 0 ≤ 2048 := by
        rw [List.getD_eq_getElem?_getD, List.getElem?_eq_getElem hke]
        exact HE.out _ (List.getElem_mem hke)
      have HT := Lib.hid (take_getD es k hke)
      have hroom : nb ≤ 257 := by
        rw [hX.hlen]
        apply bare_len bX
        rw [HV.out]
        exact room_of (xp_lt _ 2049 (fun e he => by have := HE.out e (List.mem_of_mem_take he); omega)) (by omega)
      generalize hq : es.getD k 0 = q at c1 he HT ⊢
      clear hc hb hke hq
      go_wp2_with fail
      refine (power_any q wr he).mono ?_
      rintro e w2 ⟨c, nc, cc, Y, rfl, hY, bY, vY, b2⟩
      have hny : nc ≤ 257 := by
        rw [hY.hlen]
        apply bare_len bY
        rw [vY]
        exact room_of (n := q + 1) (Nat.pow_lt_pow_right (by decide) (by omega)) (by omega)
      go_wp2_with fail
      refine (add_any b nb cb X c nc cc Y w2 (hX.since b2).pol hY.pol (by omega) (by omega)).mono ?_
      rintro e w3 ⟨d, nd, cd, Z, rfl, hZ, bZ, vZ, b3⟩
      have B2 := hB.trans (b2.mono hB.size)
      have B3 := B2.trans (b3.mono B2.size)
      have HF : Hid (NewP w w3 d nd cd Z ∧ val Z = xp (es.take (k + 1))) := by
        refine ⟨hZ.from B2.size, ?_⟩
        rw [vZ, vY, HV.out, HT.out, xp_append]
        simp [xp]
      clear hZ vZ hY bY vY hX bX HV b2 b3 hB hny hroom B2
      go_wp2_with fail
      go_roundg (n - (k + 1))
      case measure => have := HG.out; omega
      case rel => exact ⟨k + 1, d, nd, cd, Z, rfl, by omega, by go_num, rfl, HF.out.1, bZ, HF.out.2, B3⟩
    · obtain rfl : k = n := by omega
      have HF : Hid (val X = xp es) := by show _ = _; rw [HV.out, List.take_of_length_le (by have := HR.out.hlen; omega)]
      clear HV
      go_wp2_with fail
      go_ret
      exact ⟨b, nb, cb, X, rfl, hX, bX, HF.out, hB⟩
set_option maxRecDepth 100000 in
set_option maxHeartbeats 2000000 in
theorem of_any (a : Option Addr) (n cap : Nat) (es : List Nat) (w : World) (h : RowN w a n es) (hn : n ≤ 100000) (hes : ∀ e ∈ es, e ≤ 2048) :
    Calls Tryd.prog 35 #[.slice a n cap] w (GivesPE (xp es) w) := by
  have HR := Lib.hid h
  have HE := Lib.hid hes
  clear h hes
  go_enter Tryd.func35, Tryd.ntmps35
  go_wp2_with fail
  go_loopg [8] n (fun gh s8 wx => ∃ (k : Nat), gh = n - k ∧ k ≤ n ∧ s8 = .int .i64 (k : Int) ∧ w = wx)
  case atStart => exact ⟨0, rfl, by omega, rfl, rfl⟩
  case round =>
    obtain ⟨k, hg, hk, rfl, rfl⟩ := hrel
    have HG := Lib.hid hg
    clear hg
    by_cases hlt : k < n
    · have x1 : (k : Int) < (n : Int) := by omega
      have x0 : (0 : Int) ≤ (k : Int) := by omega
      obtain ⟨bb, off, rfl, c1, hb⟩ := HR.out.row k hlt
      have hke : k < es.length := by have := HR.out.hlen; omega
      have he : es.getD k 0 ≤ 2048 := by
        rw [List.getD_eq_getElem?_getD, List.getElem?_eq_getElem hke]
        exact HE.out _ (List.getElem_mem hke)
      generalize hq : es.getD k 0 = q at c1 he ⊢
      have t1 : decide ((q : Int) < 0) = false := decide_eq_false (by omega)
      have t2 : decide ((2048 : Int) < (q : Int)) = false := decide_eq_false (by omega)
      clear hb hke hq he
      go_wp2_with fail
      go_roundg (n - (k + 1))
      case measure => have := HG.out; omega
      case rel => exact ⟨k + 1, rfl, by omega, by go_num, rfl⟩
    · obtain rfl : k = n := by omega
      go_wp2_with fail
      refine (sum_any a k cap es w HR.out hn HE.out).mono ?_
      rintro e w2 ⟨b, nb, cb, X, rfl, hX, bX, vX, b2⟩
      go_wp2_with fail
      go_ret2
      exact ⟨b, nb, cb, X, rfl, hX, bX, vX, b2⟩
end Go.Proofs.YtcdhjmmkeiomaaaDoor.Bin
