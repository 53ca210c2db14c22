/- The statements' own polynomials (shaleref2): Eval, Add, Times. By the verifier of shale. -/
import Derived.Test.YtgfaaaeechgjmaaDoorRefTrim
import Derived.Lib.QuietBelow
namespace Go.Proofs.YtgfaaaeechgjmaaDoor.Pl
open Go Go.RowKit Fld Bits16
set_option linter.unusedVariables false
theorem regrown0 (w : World) : ∃ p : Regrown, w.drew = Sort.grow (redrawn w p.d) p.os := ⟨⟨w.drawn + 1, #[]⟩, by rw [Sort.grow_empty]; rfl⟩
section
variable {m : Nat} [M : Mid m]
theorem rmul_zz (a b : El m) (w : World) : Calls Tryd.prog 32 #[.int .i64 (m : Int), .int .i64 (zn a), .int .i64 (zn b)] w fun e w' => e = .returned (.int .i64 (zn (a * b))) ∧ Below w.heap.size w w' := by
  have := rmul_any m M.lo M.hi (zn a) (zn b) w
  rwa [mul_zn, elm_zn, elm_zn] at this
theorem rmul_zx (a : El m) (x : Int) (w : World) : Calls Tryd.prog 32 #[.int .i64 (m : Int), .int .i64 (zn a), .int .i64 x] w fun e w' => e = .returned (.int .i64 (zn (a * elm m x))) ∧ Below w.heap.size w w' := by
  have := rmul_any m M.lo M.hi (zn a) x w
  rwa [mul_zn, elm_zn] at this
set_option maxRecDepth 100000 in
set_option maxHeartbeats 1000000 in
theorem reval_any (a : Option Addr) (n cap : Nat) (l : List Int) (x : Int) (w : World) (h : RowZ w a n cap l) :
    Calls Tryd.prog 21 #[.int .i64 (m : Int), .slice a n cap, .int .i64 x] w
      fun e w' => e = .returned (.int .i64 (zn (ev n (sr m l) (elm m x)))) ∧ Below w.heap.size w w' := by
  have HP := Lib.hid h
  have hm : n ≤ maxLen := Nat.le_trans h.hcap h.hmost
  unfold maxLen at hm
  clear h
  go_enter Tryd.func21, Tryd.ntmps21
  go_wp2_with fail
  go_loopg [7, 8] n (fun gh s9 s10 wx => ∃ k j : Nat, gh = k ∧ k + j = n ∧ s10 = .int .i64 ((k : Int) - 1) ∧ s9 = .int .i64 (zn (ev j (dr (sr m l) k) (elm m x))) ∧ Below w.heap.size w wx)
  case atStart => exact ⟨n, 0, rfl, by omega, rfl, rfl, Below.refl _ _⟩
  case round =>
    obtain ⟨k, j, hg, hkj, rfl, rfl, hD⟩ := hrel
    have HG := Lib.hid hg
    clear hg
    rcases k with _ | k
    · have HJ : Hid (j = n) := by show _ = _; omega
      have HE : Hid (zn (ev j (dr (sr m l) 0) (elm m x)) = zn (ev n (sr m l) (elm m x))) := by
        show _ = _
        rw [HJ.out]
        have : dr (sr m l) 0 = sr m l := funext fun i => by show sr m l (0 + i) = _; rw [Nat.zero_add]
        rw [this]
      clear hkj
      go_wp2_with fail
      go_ret
      exact ⟨ret_i64 HE.out, hD⟩
    · have x0 : (0 : Int) ≤ (k : Int) := by omega
      have x1 : (k : Int) < (n : Int) := by omega
      rw [show ((k + 1 : Nat) : Int) - 1 = (k : Int) by omega]
      obtain ⟨bb, off, rfl, c1, hb⟩ := (HP.out.below hD).row k (by omega)
      have c1 := cell_regrown c1
      have HM : Hid (∀ q os, Calls Tryd.prog 32 #[.int .i64 (m : Int), .int .i64 (zn (ev j (dr (sr m l) (k + 1)) (elm m x))), .int .i64 x] (Sort.grow (redrawn wr q) os) fun e w'' => e = .returned (.int .i64 (zn (ev j (dr (sr m l) (k + 1)) (elm m x) * elm m x))) ∧ ∃ p : Regrown, w'' = Sort.grow (redrawn wr p.d) p.os) := fun q os => Calls.regrown_of (rmul_zx _ x _)
      have HL : Hid (∀ q os, Calls Tryd.prog 31 #[.int .i64 (m : Int), .int .i64 (l.getD k 0)] (Sort.grow (redrawn wr q) os) fun e w'' => e = .returned (.int .i64 (zn (elm m (l.getD k 0)))) ∧ ∃ p : Regrown, w'' = Sort.grow (redrawn wr p.d) p.os) := fun q os => Calls.regrown_of ((rlow_any _ _).mono fun _ _ ⟨h1, h2⟩ => ⟨h1, by rw [← h2]; exact Below.refl _ _⟩)
      have hz3 : bits .xor .i64 (zn (ev j (dr (sr m l) (k + 1)) (elm m x) * elm m x)) (zn (elm m (l.getD k 0))) = zn (ev (j + 1) (dr (sr m l) k) (elm m x)) := by
        rw [zn_add, sr_at, ev_dr]
      generalize zn (ev j (dr (sr m l) (k + 1)) (elm m x)) = z1 at HM ⊢
      generalize zn (ev j (dr (sr m l) (k + 1)) (elm m x) * elm m x) = z2 at HM hz3
      generalize zn (elm m (l.getD k 0)) = z5 at HL hz3
      generalize l.getD k 0 = z4 at c1 HL
      have HD := Lib.hid hD
      clear hD hb
      go_wp2_with fail
      refine wp_region_quiet_below (by kernel_rfl) (by kernel_rfl) ?_
      repeat (go_big_quiet_step (first | (go_at_call 32; with_reducible exact HM.out _ _) | (go_at_call 31; with_reducible exact HL.out _ _)))
      refine wpQuiet_nil ?_
      intro _ hw'
      obtain ⟨⟨dq, osq⟩, hw''⟩ := hw'
      subst hw''
      have hD2 : Below w.heap.size w (Sort.grow (redrawn wr dq) osq) := HD.out.trans ((below_regrown wr dq osq).mono HD.out.size)
      generalize Sort.grow (redrawn wr dq) osq = w5 at hD2 ⊢
      clear c1
      go_wp2_with fail
      go_roundg k
      case measure => have := HG.out; omega
      case rel => exact ⟨k, j + 1, rfl, by omega, by go_num, rfl, hD2⟩
/-- the first k numbers of f, and 0 up to N. -/
def upN (f : Nat → Int) (N k : Nat) : List Int := (List.range N).map fun i => if i < k then f i else 0
omit M in
theorem upN_length (f : Nat → Int) (N k : Nat) : (upN f N k).length = N := by simp [upN]
omit M in
theorem upN_set (f : Nat → Int) (N k : Nat) : (upN f N k).set k (f k) = upN f N (k + 1) := by
  apply List.ext_getElem
  · simp [upN]
  · intro i h1 h2
    simp only [upN, List.getElem_set, List.getElem_map, List.getElem_range]
    by_cases h : k = i
    · rw [if_pos h, if_pos (by omega), h]
    · rw [if_neg h]
      by_cases h3 : i < k
      · rw [if_pos h3, if_pos (by omega)]
      · rw [if_neg h3, if_neg (by omega)]
omit M in
theorem upN_at (f : Nat → Int) (N k i : Nat) (hi : i < N) (hk : k ≤ i) : nth64 (upN f N k) i = 0 := by
  unfold nth64
  rw [List.getD_eq_getElem?_getD, List.getElem?_eq_getElem (by rw [upN_length]; exact hi)]
  simp only [upN, List.getElem_map, List.getElem_range, Option.getD_some]
  rw [if_neg (by omega)]
omit M in
theorem upN_zero (f : Nat → Int) (N : Nat) : List.replicate N 0 = upN f N 0 := by
  apply List.ext_getElem
  · simp [upN]
  · intro i h1 h2; simp [upN]
/-- what Add lays at i: the numbers' own bits. -/
def rawN (l1 l2 : List Int) (i : Nat) : Int :=
  if i < l1.length then (if i < l2.length then bits .xor .i64 (l1.getD i 0) (l2.getD i 0) else l1.getD i 0) else bits .xor .i64 0 (l2.getD i 0)
theorem elm_xor (x y : Int) : elm m (bits .xor .i64 x y) = elm m x + elm m y := El.ext (el_xor m M.hi x y)
theorem sr_raw (l1 l2 : List Int) (N : Nat) (h1 : l1.length ≤ N) (h2 : l2.length ≤ N) : sr m (upN (rawN l1 l2) N N) = padd (sr m l1) (sr m l2) := by
  funext i
  show elm m ((upN (rawN l1 l2) N N).getD i 0) = elm m (l1.getD i 0) + elm m (l2.getD i 0)
  by_cases hi : i < N
  · rw [List.getD_eq_getElem?_getD, List.getElem?_eq_getElem (by rw [upN_length]; exact hi)]
    simp only [upN, List.getElem_map, List.getElem_range, Option.getD_some]
    rw [if_pos hi]
    unfold rawN
    by_cases a1 : i < l1.length
    · rw [if_pos a1]
      by_cases a2 : i < l2.length
      · rw [if_pos a2, elm_xor]
      · rw [if_neg a2, show l2.getD i 0 = 0 by rw [List.getD_eq_getElem?_getD, List.getElem?_eq_none (by omega)]; rfl, elm_zero, Fl.add_zero]
    · rw [if_neg a1, elm_xor, show l1.getD i 0 = 0 by rw [List.getD_eq_getElem?_getD, List.getElem?_eq_none (by omega)]; rfl]
  · rw [show (upN (rawN l1 l2) N N).getD i 0 = 0 by rw [List.getD_eq_getElem?_getD, List.getElem?_eq_none (by rw [upN_length]; omega)]; rfl,
      show l1.getD i 0 = 0 by rw [List.getD_eq_getElem?_getD, List.getElem?_eq_none (by omega)]; rfl, show l2.getD i 0 = 0 by rw [List.getD_eq_getElem?_getD, List.getElem?_eq_none (by omega)]; rfl, elm_zero, Fl.add_zero]
end
end Go.Proofs.YtgfaaaeechgjmaaDoor.Pl
