/- The walk over package binpoly's Add. By the verifier of shale. -/
import Derived.Test.YtcdhjmmkeiomaaaDoorBinShift
import Derived.Laws.CopyOwn
import Derived.OwnWalk
namespace Go.Proofs.YtcdhjmmkeiomaaaDoor.Bin
open Go Go.RowKit
set_option linter.unusedVariables false
theorem made8P (w : World) (n : Nat) (hn : n ≤ 1000000) :
    (Instr.makeSlice 24 (.int .i64 (n : Int)) (.int .i64 (n : Int))).run Tryd.prog w = .ok (.slice (some ⟨w.heap.size, 0, none⟩) n n) (w.alloc (obj8 (List.replicate n 0))) := by
  obtain ⟨i0, hi, hz0, hz1, hz2⟩ := info8
  rw [run_make (P := Tryd.prog) w 24 5 i0 (.int .u8 0) Tryd.underlying24 hi hz0 .i64 .i64 (n : Int) (n : Int) (by omega) (by omega) (by rw [hz2]; omega) (by omega)]
  congr 2
  unfold obj8 madeCells
  rw [hz1]
  congr 1
  apply Array.ext
  · simp
  · intro i h1 h2
    simp [Value.cells, Bits32.b, Nat.mod_one]
theorem size8 : (Tryd.prog.info? 5).map (·.size) = some 1 := by kernel_rfl
/-- a polynomial in new memory, or none. -/
structure NewP (w w' : World) (a : Option Addr) (n cap : Nat) (X : List (BitVec 8)) : Prop where
  hlen : n = X.length
  hcap : n ≤ cap
  hmost : cap ≤ maxLen
  own : (a = none ∧ n = 0 ∧ cap = 0) ∨ ∃ g, a = some ⟨g, 0, none⟩ ∧ w.heap.size ≤ g ∧ Buf8 w' g X
theorem NewP.pol {w w' : World} {a : Option Addr} {n cap : Nat} {X : List (BitVec 8)} (h : NewP w w' a n cap X) : Pol w' a n cap X := by
  refine ⟨h.hlen, h.hcap, h.hmost, ?_, ?_⟩
  · intro e
    rcases h.own with ⟨_, _, h2⟩ | ⟨g, h2, _⟩
    · exact h2
    · rw [e] at h2; cases h2
  · rcases h.own with ⟨_, h2, _⟩ | ⟨g, h2, _, hb⟩
    · exact Or.inl h2
    · exact Or.inr ⟨g, 0, h2, hb.row, hb.lt⟩
theorem buf_take {w : World} {g : Nat} {X : List (BitVec 8)} (h : Buf8 w g X) (k : Nat) : Buf8 w g (X.take k) := by
  obtain ⟨cur, t, hh, hc⟩ := h
  refine ⟨cur, t, hh, fun i hi => ?_⟩
  rw [List.length_take] at hi
  rw [hc i (by omega), nth8_take, if_pos (by omega)]
theorem buf_of_blk {w : World} {g : Nat} {X : List (BitVec 8)} (h : Blk8 w g X) : Buf8 w g X := ⟨_, _, h, fun i hi => by simp [nth8, hi]⟩
/-- the answer is a polynomial of this value, bare, in new memory. -/
abbrev GivesP (v : Nat) (w : World) (e : Ending) (w' : World) : Prop := ∃ a n cap X, e = .returned (.slice a n cap) ∧ NewP w w' a n cap X ∧ Bare X ∧ val X = v ∧ Below w.heap.size w w'
theorem arg_src {W : World} {a : Option Addr} {n cap : Nat} {l : List (BitVec 8)} (h : Pol W a n cap l) (W' : World) (b : Below W.heap.size W W') : 0 < (cells8 l).length → ∃ ad, a = some ad ∧ ∀ j v, (cells8 l)[j]? = some v → W'.cell? (ad.add j) = some v := by
  intro h0
  rw [cells8_length] at h0
  rcases h.hrow with h1 | ⟨bb, off, rfl, hr, hb⟩
  · have := h.hlen; omega
  · refine ⟨_, rfl, fun j v hj => ?_⟩
    have hj2 : j < l.length := by
      have := (List.getElem?_eq_some_iff.1 hj).1
      rwa [cells8_length] at this
    have hadd : (⟨bb, off, none⟩ : Addr).add j = ⟨bb, off + j, none⟩ := by by_cases h : j = 0 <;> simp [Addr.add, h]
    rw [hadd, (hr.below b hb) j hj2, ← hj]
    unfold cells8 nth8
    simp [hj2]
theorem splice_all (xs : List Value) (z : Value) (n : Nat) (h : n = xs.length) : splice (List.replicate n z) 0 xs = xs := by
  unfold splice
  simp [h]
section
attribute [local go_sem] Bits32.bxor
set_option maxRecDepth 100000 in
set_option maxHeartbeats 2000000 in
theorem add_any (a1 : Option Addr) (n1 c1 : Nat) (l : List (BitVec 8)) (a2 : Option Addr) (n2 c2 : Nat) (m : List (BitVec 8)) (w : World) (h1 : Pol w a1 n1 c1 l) (h2 : Pol w a2 n2 c2 m) (k1 : n1 ≤ 100000) (k2 : n2 ≤ 100000) :
    Calls Tryd.prog 13 #[.slice a1 n1 c1, .slice a2 n2 c2] w (GivesP (val l ^^^ val m) w) := by
  have HP1 := Lib.hid h1
  have HP2 := Lib.hid h2
  have hm1 := made8P w n1 (by omega)
  have hm2 := made8P w n2 (by omega)
  clear h1 h2
  by_cases hlt : n1 < n2
  · have t : decide ((n1 : Int) < (n2 : Int)) = true := decide_eq_true (by omega)
    have HCB : Hid ((w.alloc (obj8 (List.replicate n2 0))).heap[w.heap.size]? = some (.cells (List.replicate n2 (Value.int .u8 0)).toArray 5 (0, 0))) := by
      show _ = _
      rw [heap_alloc_new]; unfold obj8; simp [Bits32.b]
    have HB0 : Hid (Below w.heap.size w (w.alloc (obj8 (List.replicate n2 0)))) := (Below.refl _ _).alloc (Nat.le_refl _) _
    clear hm1
    go_enter Tryd.func13, Tryd.ntmps13
    go_wp2_with ((with_reducible show wpList _ _ _ _ _ _); refine wpList_copy_splice (o := ⟨some 20, _, _, _, _, _⟩) rfl (.tmp 18) (.tmp 19) 24 24 rfl 5 Tryd.underlying24 size8 (some ⟨w.heap.size, 0, none⟩) a2 n2 n2 n2 c2 rfl rfl w.heap.size 0 (List.replicate n2 (.int .u8 0)) 5 HCB.out (cells8 m) (by rw [cells8_length, ← HP2.out.hlen]; exact (Nat.min_self _).symm) (fun h0 => ⟨rfl, arg_src HP2.out _ HB0.out h0⟩) (by rw [cells8_length, List.length_replicate, ← HP2.out.hlen]; omega) (cells8_one _) w.heap.size w HB0.out (Nat.le_refl _) ?_; intro w2 hw2 hb2)
    have hX0 : Blk8 w2 w.heap.size m := by
      have := hw2.out
      rw [splice_all _ _ _ (by rw [cells8_length]; exact HP2.out.hlen)] at this
      exact this
    clear hw2
    go_wp2_with fail
    go_loopg [23] n1 (fun gh s23 wx => ∃ (k : Nat) (X : List (BitVec 8)), gh = n1 - k ∧ k ≤ n1 ∧ s23 = .int .i64 (k : Int) ∧ X.length = n2 ∧ val X = val m ^^^ val (l.take k) ∧ Blk8 wx w.heap.size X ∧ Below w.heap.size w wx)
    case atStart => exact ⟨0, m, rfl, by omega, rfl, HP2.out.hlen.symm, by simp [val], hX0, hb2⟩
    case round =>
      obtain ⟨k, X, hg, hk, rfl, hXl, hXv, hX, hB⟩ := hrel
      have HG := Lib.hid hg
      have HV := Lib.hid hXv
      have HXL := Lib.hid hXl
      clear hg hXv hXl hX0 hb2
      by_cases hk2 : k < n1
      · obtain ⟨bb, off, rfl, hr, hb⟩ : ∃ bb off, a1 = some ⟨bb, off, none⟩ ∧ Row8 w bb off l ∧ bb < w.heap.size := by
          rcases HP1.out.hrow with h | h
          · omega
          · exact h
        have hkQ : k < l.length := by have := HP1.out.hlen; omega
        have v1 := (hr.below hB hb) k hkQ
        have v2 := hX.cell (i := k) (by have := HXL.out; omega)
        have v3 := hX.free k
        have x1 : (k : Int) < (n1 : Int) := by omega
        have x2 : (k : Int) < (n2 : Int) := by omega
        have x0 : (0 : Int) ≤ (k : Int) := by omega
        have HF : Hid (val (X.set k (nth8 X k ^^^ nth8 l k)) = val m ^^^ val (l.take (k + 1))) := by
          show _ = _
          rw [val_set X k _ (by have := HXL.out; omega), val_take_succ l k hkQ, HV.out, Nat.xor_assoc]
        clear hr hb
        go_wp2_with fail
        go_roundg (n1 - (k + 1))
        case measure => have := HG.out; omega
        case rel => exact ⟨k + 1, _, rfl, by omega, by go_num, by rw [List.length_set]; exact HXL.out, HF.out, hX.set k _, hB.setCell (p := ⟨w.heap.size, k, none⟩) (Nat.le_refl _) _⟩
      · obtain rfl : k = n1 := by omega
        have hpol : Pol wr (some ⟨w.heap.size, 0, none⟩) n2 n2 X := ⟨HXL.out.symm, Nat.le_refl _, by unfold maxLen; omega, by (intro h; cases h), Or.inr ⟨_, _, rfl, hX.row, hX.lt⟩⟩
        go_wp2_with fail
        refine (trim_any _ n2 n2 X wr hpol).mono ?_
        rintro e w4 ⟨rfl, rfl⟩
        go_wp2_with fail
        go_ret
        have htl := tl_le X n2
        refine ⟨_, _, _, trimL X, rfl, ⟨by rw [trimL_length, HXL.out], htl, by unfold maxLen; omega, Or.inr ⟨_, rfl, Nat.le_refl _, buf_take (buf_of_blk hX) _⟩⟩, bare_trim X, ?_, hB⟩
        rw [val_trim, HV.out, List.take_of_length_le (by have := HP1.out.hlen; omega), Nat.xor_comm]
  · have t : decide ((n1 : Int) < (n2 : Int)) = false := decide_eq_false (by omega)
    have HCB : Hid ((w.alloc (obj8 (List.replicate n1 0))).heap[w.heap.size]? = some (.cells (List.replicate n1 (Value.int .u8 0)).toArray 5 (0, 0))) := by
      show _ = _
      rw [heap_alloc_new]; unfold obj8; simp [Bits32.b]
    have HB0 : Hid (Below w.heap.size w (w.alloc (obj8 (List.replicate n1 0)))) := (Below.refl _ _).alloc (Nat.le_refl _) _
    clear hm2
    go_enter Tryd.func13, Tryd.ntmps13
    go_wp2_with ((with_reducible show wpList _ _ _ _ _ _); refine wpList_copy_splice (o := ⟨some 20, _, _, _, _, _⟩) rfl (.tmp 18) (.tmp 19) 24 24 rfl 5 Tryd.underlying24 size8 (some ⟨w.heap.size, 0, none⟩) a1 n1 n1 n1 c1 rfl rfl w.heap.size 0 (List.replicate n1 (.int .u8 0)) 5 HCB.out (cells8 l) (by rw [cells8_length, ← HP1.out.hlen]; exact (Nat.min_self _).symm) (fun h0 => ⟨rfl, arg_src HP1.out _ HB0.out h0⟩) (by rw [cells8_length, List.length_replicate, ← HP1.out.hlen]; omega) (cells8_one _) w.heap.size w HB0.out (Nat.le_refl _) ?_; intro w2 hw2 hb2)
    have hX0 : Blk8 w2 w.heap.size l := by
      have := hw2.out
      rw [splice_all _ _ _ (by rw [cells8_length]; exact HP1.out.hlen)] at this
      exact this
    clear hw2
    go_wp2_with fail
    go_loopg [23] n2 (fun gh s23 wx => ∃ (k : Nat) (X : List (BitVec 8)), gh = n2 - k ∧ k ≤ n2 ∧ s23 = .int .i64 (k : Int) ∧ X.length = n1 ∧ val X = val l ^^^ val (m.take k) ∧ Blk8 wx w.heap.size X ∧ Below w.heap.size w wx)
    case atStart => exact ⟨0, l, rfl, by omega, rfl, HP1.out.hlen.symm, by simp [val], hX0, hb2⟩
    case round =>
      obtain ⟨k, X, hg, hk, rfl, hXl, hXv, hX, hB⟩ := hrel
      have HG := Lib.hid hg
      have HV := Lib.hid hXv
      have HXL := Lib.hid hXl
      clear hg hXv hXl hX0 hb2
      by_cases hk2 : k < n2
      · obtain ⟨bb, off, rfl, hr, hb⟩ : ∃ bb off, a2 = some ⟨bb, off, none⟩ ∧ Row8 w bb off m ∧ bb < w.heap.size := by
          rcases HP2.out.hrow with h | h
          · omega
          · exact h
        have hkQ : k < m.length := by have := HP2.out.hlen; omega
        have v1 := (hr.below hB hb) k hkQ
        have v2 := hX.cell (i := k) (by have := HXL.out; omega)
        have v3 := hX.free k
        have x1 : (k : Int) < (n2 : Int) := by omega
        have x2 : (k : Int) < (n1 : Int) := by omega
        have x0 : (0 : Int) ≤ (k : Int) := by omega
        have HF : Hid (val (X.set k (nth8 X k ^^^ nth8 m k)) = val l ^^^ val (m.take (k + 1))) := by
          show _ = _
          rw [val_set X k _ (by have := HXL.out; omega), val_take_succ m k hkQ, HV.out, Nat.xor_assoc]
        clear hr hb
        go_wp2_with fail
        go_roundg (n2 - (k + 1))
        case measure => have := HG.out; omega
        case rel => exact ⟨k + 1, _, rfl, by omega, by go_num, by rw [List.length_set]; exact HXL.out, HF.out, hX.set k _, hB.setCell (p := ⟨w.heap.size, k, none⟩) (Nat.le_refl _) _⟩
      · obtain rfl : k = n2 := by omega
        have hpol : Pol wr (some ⟨w.heap.size, 0, none⟩) n1 n1 X := ⟨HXL.out.symm, Nat.le_refl _, by unfold maxLen; omega, by (intro h; cases h), Or.inr ⟨_, _, rfl, hX.row, hX.lt⟩⟩
        go_wp2_with fail
        refine (trim_any _ n1 n1 X wr hpol).mono ?_
        rintro e w4 ⟨rfl, rfl⟩
        go_wp2_with fail
        go_ret
        have htl := tl_le X n1
        refine ⟨_, _, _, trimL X, rfl, ⟨by rw [trimL_length, HXL.out], htl, by unfold maxLen; omega, Or.inr ⟨_, rfl, Nat.le_refl _, buf_take (buf_of_blk hX) _⟩⟩, bare_trim X, ?_, hB⟩
        rw [val_trim, HV.out, List.take_of_length_le (by have := HP2.out.hlen; omega)]
end
end Go.Proofs.YtcdhjmmkeiomaaaDoor.Bin
