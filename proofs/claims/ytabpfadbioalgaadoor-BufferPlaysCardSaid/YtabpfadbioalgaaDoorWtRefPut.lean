/- The document's Put. By the verifier of shale. -/
import Derived.Test.YtabpfadbioalgaaDoorWtRef
import Derived.Deep.AppendLies
import Derived.Deep.Cut
namespace Go.Proofs.YtabpfadbioalgaaDoor.Wt
open Go Go.RowKit Bin
set_option linter.unusedVariables false
set_option linter.unusedSimpArgs false
/-- what Put leaves. -/
def RPutPost (base xb : Nat) (sz mo sc : Int) (v : Value) (M : List Ent) (key : Int) (trim : Bool) (n : Nat) (l : List (BitVec 8)) (w : World) (en : Ending) (w' : World) : Prop :=
  (at? M key = none ∧ mo ≤ (M.length : Int) ∧ en = .returned (.int .i64 114) ∧ Below w.heap.size w w') ∨
  ((at? M key ≠ none ∨ (M.length : Int) < mo) ∧ en = .returned (.int .i64 0) ∧ ∃ u e, e.key = key ∧ e.trim = trim ∧ e.n = n ∧ e.l = l ∧ (∀ q, e.a = some q → w.heap.size ≤ q.block) ∧ RefAt w' base xb sz mo sc u (restL M key ++ [e]) ∧ Tn (blks xb v) w w' (blks xb u))
theorem rest_take {M : List Ent} {k : Nat} {d : Ent} (hd : M[k]? = some d) (key : Int) : restL (M.take (k + 1)) key = if d.key = key then restL (M.take k) key else restL (M.take k) key ++ [d] := by
  have h := List.getElem?_eq_some_iff.1 hd
  unfold restL
  rw [List.take_add_one, hd, List.filter_append]
  by_cases hk : d.key = key
  · rw [if_pos hk]; simp [hk]
  · rw [if_neg hk]; simp [hk]
theorem rest_le (M : List Ent) (key : Int) : (restL M key).length ≤ M.length := List.length_filter_le _ _
theorem mem_rest {M : List Ent} {key : Int} {d : Ent} (h : d ∈ restL M key) : d ∈ M := (List.mem_filter.1 h).1
theorem ent_news (w : World) (e : Ent) : ∀ j u, e.cells[j]? = some u → ((w.alloc (.cells #[.int .i64 e.key, .bool e.trim, .slice e.a e.n e.c] 35 (0, 0)))).cell? ((⟨w.heap.size, 0, none⟩ : Addr).add j) = some u := World.news_of_block (cs := #[.int .i64 e.key, .bool e.trim, .slice e.a e.n e.c]) (fr := (0, 0)) (t := 35) (heap_alloc_new w _)
theorem ent_one (e : Ent) : ∀ u ∈ e.cells, u.oneCell' = true := by
  intro u hu
  unfold Ent.cells at hu
  simp only [List.mem_cons, List.not_mem_nil, or_false] at hu
  rcases hu with rfl | rfl | rfl <;> rfl
/-- the list that Put makes, so far. -/
def PutI (w wx : World) (R : List Ent) (v : Value) (m : Nat) : Prop := m = R.length ∧ wx.ownsRow w.heap.size 35 3 v m (ecells R) ∧ Below w.heap.size w wx
theorem PutI.add {w wx w5 : World} {R : List Ent} {p : Option Addr} {m c g cap : Nat} {e : Ent} (h : PutI w wx R (.slice p m c) m) (h5 : w5.ownsRow w.heap.size 35 3 (.slice (some ⟨g, 0, none⟩) (m + 1) cap) (m + 1) (ecells R ++ e.cells)) (hg : (wx.alloc (.cells #[.int .i64 e.key, .bool e.trim, .slice e.a e.n e.c] 35 (0, 0))).grownBy w5 (Value.slice p m c).ownBlock) : PutI w w5 (R ++ [e]) (.slice (some ⟨g, 0, none⟩) (m + 1) cap) (m + 1) := by
  refine ⟨by rw [List.length_append, h.1]; rfl, ?_, ?_⟩
  · rw [ecells_append]
    have : ecells [e] = e.cells := by show e.cells ++ [] = _; rw [List.append_nil]
    rw [this]
    exact h5
  · have b := h.2.2
    have ba := b.alloc b.size (.cells #[.int .i64 e.key, .bool e.trim, .slice e.a e.n e.c] 35 (0, 0))
    refine ⟨hg.os.trans ba.os, hg.tape.trans ba.tape, hg.output.trans ba.output, Nat.le_trans ba.size hg.size, fun k hk => ?_⟩
    refine (hg.block k (Nat.lt_of_lt_of_le hk ba.size) fun e => ?_).trans (ba.block k hk)
    have := (h.2.1.lt k e.symm).1
    omega
theorem PutI.keep {w X Y : World} {R : List Ent} {v : Value} {m : Nat} (h : PutI w X R v m) (b : Below w.heap.size w Y) (o : ∀ z, v.ownBlock = some z → Y.heap[z]? = X.heap[z]?) : PutI w Y R v m := by
  refine ⟨h.1, ⟨h.2.1.1, ?_⟩, b⟩
  rcases h.2.1.2 with h0 | ⟨g', cap', cur, hv, hbg, hh, r⟩
  · exact .inl h0
  · exact .inr ⟨g', cap', cur, hv, hbg, (o g' (by rw [hv]; rfl)).trans hh, r⟩
theorem PutI.more {w X Y : World} {R M : List Ent} {p : Option Addr} {m c base xb : Nat} {sz mo sc : Int} {v : Value} (b : Below X.heap.size X Y) (h : PutI w X R (.slice p m c) m ∧ RefAt X base xb sz mo sc v M ∧ Below w.heap.size w X) : PutI w Y R (.slice p m c) m ∧ RefAt Y base xb sz mo sc v M ∧ Below w.heap.size w Y :=
  have bb := h.2.2.trans (b.mono h.2.2.size)
  ⟨h.1.keep bb fun z hz => b.block z (h.1.2.1.lt z hz).2, h.2.1.below b, bb⟩
theorem PutI.store {w X Y : World} {R M : List Ent} {p av : Option Addr} {m c cv N eb base xb : Nat} {sz mo sc : Int} (o : Only eb X Y) (he : w.heap.size ≤ eb) (hp : ∀ z, (Value.slice p m c).ownBlock = some z → z ≠ eb) (hM : RefAt w base xb sz mo sc (.slice av M.length cv) M) (hN : N = M.length) (h : PutI w X R (.slice p m c) m ∧ RefAt X base xb sz mo sc (.slice av N cv) M ∧ Below w.heap.size w X) : PutI w Y R (.slice p m c) m ∧ RefAt Y base xb sz mo sc (.slice av N cv) M ∧ Below w.heap.size w Y :=
  have bb := h.2.2.trans (o.below he)
  ⟨h.1.keep bb fun z hz => o.block z (hp z hz), by rw [hN]; exact hM.below bb, bb⟩
theorem Blk8.buf {w : World} {g : Nat} {l : List (BitVec 8)} (h : Blk8 w g l) : Buf8 w g l := ⟨_, _, h, fun i hi => by simp [nth8, hi]⟩
theorem rput_end {w W w5 : World} {base xb g cap m c' : Nat} {sz mo sc : Int} {v : Value} {M R : List Ent} {p : Option Addr} (hM : RefAt w base xb sz mo sc v M) (h2 : PutI w W R (.slice p m c') m) (hR : ∀ d ∈ R, d ∈ M) (e : Ent) (he : Pol W e.a e.n e.c e.l) (hq : ∀ q, e.a = some q → w.heap.size ≤ q.block ∧ q.block < W.heap.size ∧ some q.block ≠ (Value.slice p m c').ownBlock)
    (hown : w5.ownsRow w.heap.size 35 3 (.slice (some ⟨g, 0, none⟩) (m + 1) cap) (m + 1) (ecells R ++ e.cells)) (hg : (W.alloc (.cells #[.int .i64 e.key, .bool e.trim, .slice e.a e.n e.c] 35 (0, 0))).grownBy w5 (Value.slice p m c').ownBlock) (ho : (Value.slice p m c').ownBlock = some g ∨ g = (W.alloc (.cells #[.int .i64 e.key, .bool e.trim, .slice e.a e.n e.c] 35 (0, 0))).heap.size) :
    RefAt (w5.setCell ⟨xb, 3, none⟩ (.slice (some ⟨g, 0, none⟩) (m + 1) cap)) base xb sz mo sc (.slice (some ⟨g, 0, none⟩) (m + 1) cap) (R ++ [e]) ∧
      Tn (blks xb v) w (w5.setCell ⟨xb, 3, none⟩ (.slice (some ⟨g, 0, none⟩) (m + 1) cap)) (blks xb (.slice (some ⟨g, 0, none⟩) (m + 1) cap)) := by
  have h := PutI.add h2 hown hg
  have hm := h2.1
  subst hm
  have hs : W.heap.size ≤ w5.heap.size := Nat.le_trans (by rw [World.size_alloc]; omega) hg.size
  refine rput_at hM (Nat.le_refl _) hR (pol_same he hs fun q hq' => ?_) (fun q hq' => ?_) h.2.2 hown
  · have h3 := hq q hq'
    exact (hg.block _ (by rw [World.size_alloc]; omega) h3.2.2).trans (Below.heap_alloc W _ _ h3.2.1)
  · have h3 := hq q hq'
    refine ⟨h3.1, by omega, fun e1 => ?_⟩
    rcases ho with ho | ho
    · exact h3.2.2 (by rw [ho, e1])
    · rw [World.size_alloc] at ho; omega
section
variable {w : World} {base xb : Nat} {sz mo sc : Int} {v : Value} {M : List Ent}
set_option maxHeartbeats 1000000 in
theorem rput_range (B : RefAt w base xb sz mo sc v M) (key : Int) (h : (decide (0 ≤ key) && decide (key < sc)) = false) (d : Value) (t : Bool) :
    Calls Tryd.prog 10 #[.pointer (some ⟨xb, 0, none⟩), .int .i64 key, d, .bool t] w fun en w' => en = .returned (.int .i64 102) ∧ w = w' := by
  obtain ⟨k0, k1, k2, k3, _⟩ := B.cells
  clear B
  by_cases h1 : key < 0
  · have t1 : decide (key < 0) = true := decide_eq_true h1
    clear h
    go_enter Tryd.func10, Tryd.ntmps10
    go_wp2_with fail
    go_ret
    exact ⟨rfl, rfl⟩
  · have t1 : decide (key < 0) = false := decide_eq_false h1
    have h2 : sc ≤ key := by
      have : decide (0 ≤ key) = true := decide_eq_true (by omega)
      rw [this] at h
      simp at h
      exact h
    have t2 : decide (sc ≤ key) = true := decide_eq_true h2
    clear h
    go_enter Tryd.func10, Tryd.ntmps10
    go_wp2_with fail
    go_ret
    exact ⟨rfl, rfl⟩
set_option maxHeartbeats 1000000 in
theorem rput_size (B : RefAt w base xb sz mo sc v M) (key : Int) (h0 : 0 ≤ key) (h1 : key < sc) (a : Option Addr) (n c : Nat) (hn : (n : Int) ≠ sz) :
    Calls Tryd.prog 10 #[.pointer (some ⟨xb, 0, none⟩), .int .i64 key, .slice a n c, .bool false] w fun en w' => en = .returned (.int .i64 116) ∧ w = w' := by
  obtain ⟨k0, k1, k2, k3, _⟩ := B.cells
  have t1 : decide (key < 0) = false := decide_eq_false (by omega)
  have t2 : decide (sc ≤ key) = false := decide_eq_false (by omega)
  have q1 : ((n : Int) == sz) = false := by rw [beq_eq_false_iff_ne]; exact hn
  clear B h0 h1
  go_enter Tryd.func10, Tryd.ntmps10
  go_wp2_with fail
  go_ret
  exact ⟨rfl, rfl⟩
set_option maxRecDepth 100000 in
set_option maxHeartbeats 2000000 in
theorem rput_gone (B : RefAt w base xb sz mo sc v M) (hL : M.length ≤ 1000) (hno : (M.map Ent.key).Nodup) (key : Int) (h0 : 0 ≤ key) (h1 : key < sc) :
    Calls Tryd.prog 10 #[.pointer (some ⟨xb, 0, none⟩), .int .i64 key, .slice none 0 0, .bool true] w (RPutPost base xb sz mo sc v M key true 0 [] w) := by
  obtain ⟨i0, hi, hz0, hz1, hz2⟩ := infoE
  obtain ⟨av, cv, rfl, hvc, hvm, _⟩ := row_slice B.row
  have t1 : decide (key < 0) = false := decide_eq_false (by omega)
  have t2 : decide (sc ≤ key) = false := decide_eq_false (by omega)
  obtain ⟨N, hN⟩ : ∃ N, N = M.length := ⟨_, rfl⟩
  have HB := Lib.hid B
  have HNL := Lib.hid (And.intro hN hno)
  obtain ⟨k0, k1, k2, k3, kf⟩ := B.cells
  rw [← hN] at k3 hL hvc
  have HI0 : Hid (PutI w w [] (.slice none 0 0) 0) := ⟨rfl, World.ownsRow_nil _ _ _ _, Below.refl _ _⟩
  have HAt : Hid (((restL M key).length = N ↔ at? M key = none) ∧ (restL M key).length ≤ N) := ⟨by rw [hN]; exact rest_at hno, by rw [hN]; exact rest_le M key⟩
  unfold maxLen at hvm
  clear B hno hN kf h0 h1
  have : True := trivial
  go_enter Tryd.func10, Tryd.ntmps10
  go_wp2_with fail
  clear k0 k1 k2 k3 t1 t2
  go_loopg [9, 10] N (fun gh s9 s10 wx => ∃ k : Nat, gh = N - k ∧ k ≤ N ∧ s10 = .int .i64 (k : Int) ∧ ∃ p m c, s9 = .slice p m c ∧ m ≤ c ∧ Hid (PutI w wx (restL (M.take k) key) (.slice p m c) m))
  case atStart => exact ⟨0, rfl, Nat.zero_le _, rfl, none, 0, 0, rfl, Nat.le_refl _, by rw [List.take_zero]; exact HI0⟩
  case round =>
    clear HI0
    obtain ⟨k, hg, hk, rfl, p, m, c', rfl, hmc, HX⟩ := hrel
    have HI := Lib.hid hg
    clear hg
    have HBk := Lib.hid (HB.out.below HX.out.2.2)
    obtain ⟨k0, k1, k2, k3, kf⟩ := HBk.out.cells
    rw [← HNL.out.1] at k3
    by_cases hlt : k < N
    · have x1 : (k : Int) < (N : Int) := by omega
      have x0 : (0 : Int) ≤ (k : Int) := by omega
      obtain ⟨d, hd⟩ : ∃ d, M[k]? = some d := ⟨M[k]'(by rw [← HNL.out.1]; exact hlt), List.getElem?_eq_getElem _⟩
      obtain ⟨g, rfl, hgb, c0, c1, c2⟩ := row_cells HBk.out.row hd
      have hRT := rest_take hd key
      have hm1 : m ≤ 1000 := by
        have h1 := HX.out.1
        have h2 := rest_le (M.take k) key
        have h3 := List.length_take_le k M
        omega
      by_cases hkk : d.key = key
      · rw [if_pos hkk] at hRT
        rw [hkk] at c0
        have HN : Hid (PutI w wr (restL (M.take (k + 1)) key) (.slice p m c') m) := by rw [hRT]; exact HX.out
        clear hRT hkk hd HX
        go_wp2_with fail
        go_roundg (N - (k + 1))
        case measure => have := HI.out; omega
        case rel => exact ⟨k + 1, rfl, hlt, by go_num, _, _, _, rfl, hmc, HN⟩
      · rw [if_neg hkk] at hRT
        have q1 : (d.key == key) = false := by rw [beq_eq_false_iff_ne]; exact hkk
        have q2 : (d.key != key) = true := by rw [bne, q1]; rfl
        have HNW := Lib.hid (ent_news wr d)
        have HON := Lib.hid (ent_one d)
        have HRo : Hid ((wr.alloc (.cells #[.int .i64 d.key, .bool d.trim, .slice d.a d.n d.c] 35 (0, 0))).ownsRow w.heap.size 35 3 (.slice p m c') m (ecells (restL (M.take k) key))) := World.ownsRow.alloc HX.out.2.1 _
        have hws : w.heap.size ≤ wr.heap.size := HX.out.2.2.size
        have HAdd : Hid (∀ (g5 cap5 : Nat) (w5 : World), w5.ownsRow w.heap.size 35 3 (.slice (some ⟨g5, 0, none⟩) (m + 1) cap5) (m + 1) (ecells (restL (M.take k) key) ++ d.cells) → (wr.alloc (.cells #[.int .i64 d.key, .bool d.trim, .slice d.a d.n d.c] 35 (0, 0))).grownBy w5 (Value.slice p m c').ownBlock → PutI w w5 (restL (M.take (k + 1)) key) (.slice (some ⟨g5, 0, none⟩) (m + 1) cap5) (m + 1)) := fun g5 cap5 w5 h5 hg => by
          rw [hRT]; exact HX.out.add h5 hg
        clear hRT hkk hd HX
        go_wp2_with (at_builtin; refine wpList_append_lies _ rfl _ _ 30 rfl w.heap.size 35 i0 (.agg #[.int .i64 0, .bool false, .slice none 0 0]) 3 40 Tryd.underlying30 hi hz0 hz1 hz2 rfl (by decide) (.slice p m c') m (ecells (restL (M.take k) key)) rfl HRo.out ⟨wr.heap.size, 0, none⟩ 1 1 d.cells rfl rfl HNW.out HON.out (by decide) (by unfold maxLen; omega) (by omega) (by rw [World.size_alloc]; omega) _ rfl ?_; intro g5 cap5 w5 hown5 hg5 hor5 hlt5; have HA := Lib.hid (HAdd.out g5 cap5 w5 hown5 hg5); have hcap5 : m + 1 ≤ cap5 := (by obtain ⟨_, _, e5, e6, _⟩ := row_slice (L := restL (M.take (k + 1)) key) (by have h := HA.out; have h2 := h.2.1; rw [h.1] at h2; exact h2); cases e5; have := HA.out.1; omega); clear hown5 hg5 hor5 hlt5)
        go_roundg (N - (k + 1))
        case measure => have := HI.out; omega
        case rel => exact ⟨k + 1, rfl, hlt, by go_num, _, _, _, rfl, hcap5, HA⟩
    · obtain rfl : k = N := by omega
      have htk : M.take k = M := List.take_of_length_le (by rw [← HNL.out.1]; exact Nat.le_refl _)
      rw [htk] at HX
      have hm0 : m = (restL M key).length := HX.out.1
      have hmk : m ≤ k := by rw [hm0]; exact HAt.out.2
      have hiff : m = k ↔ at? M key = none := by rw [hm0]; exact HAt.out.1
      clear hm0 htk hlt HAt hk
      by_cases hfull : m = k ∧ mo ≤ (k : Int)
      · obtain ⟨hmk2, hmo⟩ := hfull
        have hat := hiff.1 hmk2
        subst hmk2
        have y1 : decide (mo ≤ (m : Int)) = true := decide_eq_true hmo
        have HF := Lib.hid (And.intro hat hmo)
        clear hiff hmk hat hmo
        go_wp2_with fail
        go_quiet (fail)
        have HD : Hid (Below w.heap.size w (wr.drewN nq)) := HX.out.2.2.trans (((Drawn.mk wr nq).below wr.heap.size).mono HX.out.2.2.size)
        generalize wr.drewN nq = w7 at HD ⊢
        go_wp2_with fail
        go_ret
        exact .inl ⟨HF.out.1, by rw [← HNL.out.1]; exact HF.out.2, rfl, HD.out⟩
      · have hc : at? M key ≠ none ∨ (M.length : Int) < mo := by
          rw [← HNL.out.1]
          by_cases h : m = k
          · exact .inr (by have : ¬ mo ≤ (k : Int) := fun h2 => hfull ⟨h, h2⟩; omega)
          · exact .inl (fun h2 => h (hiff.2 h2))
        have HC := Lib.hid hc
        have hsplit : (m = k ∧ ¬ mo ≤ (k : Int)) ∨ m ≠ k := by
          by_cases h : m = k
          · exact .inl ⟨h, fun h2 => hfull ⟨h, h2⟩⟩
          · exact .inr h
        have hk1 : k ≤ 1000 := hL
        have hm1 : m ≤ 1000 := by omega
        have HX2 := Lib.hid (And.intro HX.out HBk.out)
        clear hc hiff hfull HX
        have hkey : ∀ nq, Hid (PutI w (wr.drewN nq) (restL M key) (.slice p m c') m ∧ RefAt (wr.drewN nq) base xb sz mo sc (.slice av k cv) M ∧ Below w.heap.size w (wr.drewN nq)) := fun nq => by
          have b := (Drawn.mk wr nq).below wr.heap.size
          have h := HX2.out.2.below b
          have h2 := HX2.out.1
          have bb := h2.2.2.trans (b.mono h2.2.2.size)
          have hrow : (wr.drewN nq).ownsRow w.heap.size 35 3 (.slice p m c') m (ecells (restL M key)) := by
            refine ⟨h2.2.1.1, ?_⟩
            rcases h2.2.1.2 with h0 | ⟨g', cap', cur, hv, hbg, hh, r⟩
            · exact .inl h0
            · exact .inr ⟨g', cap', cur, hv, hbg, (b.block g' (lt_of_block hh)).trans hh, r⟩
          refine ⟨⟨h2.1, hrow, bb⟩, ?_, bb⟩
          have := HNL.out.1
          rw [this]
          exact h
        rcases hsplit with ⟨rfl, hmo⟩ | hne
        · have y1 : decide (mo ≤ (m : Int)) = false := decide_eq_false hmo
          have y2 : ((m : Int) == (m : Int)) = true := by simp
          go_wp2_with fail
          go_quiet (fail)
          replace hkey := hkey nq
          generalize wr.drewN nq = w7 at hkey ⊢
          clear k0 k1 k2 k3 kf
          have H7 := Lib.hid hkey.out
          clear hkey
          go_upto_region 16 with (fail)
          generalize hw : w7.alloc (.cells #[.int .i64 key, .bool true, .slice none 0 0] 35 (0, 0)) = w8
          obtain ⟨hx8, b8⟩ := newE w7 w8 ⟨key, true, none, 0, 0, []⟩ hw
          obtain ⟨eb, heb⟩ : ∃ eb, eb = w7.heap.size := ⟨_, rfl⟩
          rw [← heb] at hx8 ⊢
          clear hw heb
          have H8 : Hid (PutI w w8 (restL M key) (.slice p m c') m ∧ RefAt w8 base xb sz mo sc (.slice av m cv) M ∧ Below w.heap.size w w8) := PutI.more b8 H7.out
          have HE : Hid (Pol w8 none 0 0 [] ∧ ∀ q, (none : Option Addr) = some q → w.heap.size ≤ q.block ∧ q.block < w8.heap.size ∧ some q.block ≠ (Value.slice p m c').ownBlock) := ⟨⟨rfl, Nat.le_refl _, Nat.zero_le _, fun _ => rfl, .inl rfl⟩, fun q hq => by cases hq⟩
          have HE2 : Hid (∀ q, (none : Option Addr) = some q → w.heap.size ≤ q.block) := fun q hq => by cases hq
          clear b8 H7
          obtain ⟨hp8, hM8, b08⟩ := H8.out
          obtain ⟨k0, k1, k2, k3, kf⟩ := hM8.cells
          obtain ⟨c0, c1, c2, _⟩ := ent3 hx8
          have HNW := Lib.hid (ent_news w8 (⟨key, true, none, 0, 0, []⟩ : Ent))
          have HON := Lib.hid (ent_one (⟨key, true, none, 0, 0, []⟩ : Ent))
          have HRo : Hid ((w8.alloc (.cells #[.int .i64 key, .bool true, .slice none 0 0] 35 (0, 0))).ownsRow w.heap.size 35 3 (.slice p m c') m (ecells (restL M key))) := World.ownsRow.alloc hp8.2.1 _
          have hws : w.heap.size ≤ w8.heap.size := b08.size
          have HQ : Hid (∀ (g5 cap5 : Nat) (w5 : World), w5.ownsRow w.heap.size 35 3 (.slice (some ⟨g5, 0, none⟩) (m + 1) cap5) (m + 1) (ecells (restL M key) ++ (⟨key, true, none, 0, 0, []⟩ : Ent).cells) → (w8.alloc (.cells #[.int .i64 key, .bool true, .slice none 0 0] 35 (0, 0))).grownBy w5 (Value.slice p m c').ownBlock → ((Value.slice p m c').ownBlock = some g5 ∨ g5 = (w8.alloc (.cells #[.int .i64 key, .bool true, .slice none 0 0] 35 (0, 0))).heap.size) →
              (w5.cell? ⟨xb, 3, none⟩ = some (.slice av m cv) ∧ w5.frozen? ⟨xb, 3, none⟩ = false) ∧ (RefAt (w5.setCell ⟨xb, 3, none⟩ (.slice (some ⟨g5, 0, none⟩) (m + 1) cap5)) base xb sz mo sc (.slice (some ⟨g5, 0, none⟩) (m + 1) cap5) (restL M key ++ [(⟨key, true, none, 0, 0, []⟩ : Ent)]) ∧ Tn (blks xb (.slice av M.length cv)) w (w5.setCell ⟨xb, 3, none⟩ (.slice (some ⟨g5, 0, none⟩) (m + 1) cap5)) (blks xb (.slice (some ⟨g5, 0, none⟩) (m + 1) cap5)))) := fun g5 cap5 w5 h5 hg ho => by
            have hB5 := HB.out.below (PutI.add (e := (⟨key, true, none, 0, 0, []⟩ : Ent)) hp8 h5 hg).2.2
            obtain ⟨_, _, _, q3, qf⟩ := hB5.cells
            rw [← HNL.out.1] at q3
            exact ⟨⟨q3, qf 3⟩, rput_end HB.out hp8 (fun d hd => mem_rest hd) (⟨key, true, none, 0, 0, []⟩ : Ent) HE.out.1 HE.out.2 h5 hg ho⟩
          clear hp8 hM8 b08 hx8 H8
          go_wp2_with (at_builtin; refine wpList_append_lies _ rfl _ _ 30 rfl w.heap.size 35 i0 (.agg #[.int .i64 0, .bool false, .slice none 0 0]) 3 40 Tryd.underlying30 hi hz0 hz1 hz2 rfl (by decide) (.slice p m c') m (ecells (restL M key)) rfl HRo.out ⟨w8.heap.size, 0, none⟩ 1 1 (Ent.cells (⟨key, true, none, 0, 0, []⟩ : Ent)) rfl rfl HNW.out HON.out (by decide) (by unfold maxLen; omega) (by omega) (by rw [World.size_alloc]; omega) _ rfl ?_; intro g5 cap5 w5 hown5 hg5 hor5 hlt5; have q3 := (HQ.out g5 cap5 w5 hown5 hg5 hor5).1.1; have q4 := (HQ.out g5 cap5 w5 hown5 hg5 hor5).1.2; have HA := Lib.hid (HQ.out g5 cap5 w5 hown5 hg5 hor5).2; clear hown5 hg5 hor5 hlt5)
          go_ret
          exact .inr ⟨HC.out, rfl, _, (⟨key, true, none, 0, 0, []⟩ : Ent), rfl, rfl, rfl, rfl, HE2.out, HA.out.1, HA.out.2⟩
        · have y1 : ((m : Int) == (k : Int)) = false := by rw [beq_eq_false_iff_ne]; omega
          have y2 : (m == k) = false := by rw [beq_eq_false_iff_ne]; exact hne
          go_wp2_with fail
          go_quiet (fail)
          replace hkey := hkey nq
          generalize wr.drewN nq = w7 at hkey ⊢
          clear k0 k1 k2 k3 kf
          have H7 := Lib.hid hkey.out
          clear hkey
          go_upto_region 16 with (fail)
          generalize hw : w7.alloc (.cells #[.int .i64 key, .bool true, .slice none 0 0] 35 (0, 0)) = w8
          obtain ⟨hx8, b8⟩ := newE w7 w8 ⟨key, true, none, 0, 0, []⟩ hw
          obtain ⟨eb, heb⟩ : ∃ eb, eb = w7.heap.size := ⟨_, rfl⟩
          rw [← heb] at hx8 ⊢
          clear hw heb
          have H8 : Hid (PutI w w8 (restL M key) (.slice p m c') m ∧ RefAt w8 base xb sz mo sc (.slice av k cv) M ∧ Below w.heap.size w w8) := PutI.more b8 H7.out
          have HE : Hid (Pol w8 none 0 0 [] ∧ ∀ q, (none : Option Addr) = some q → w.heap.size ≤ q.block ∧ q.block < w8.heap.size ∧ some q.block ≠ (Value.slice p m c').ownBlock) := ⟨⟨rfl, Nat.le_refl _, Nat.zero_le _, fun _ => rfl, .inl rfl⟩, fun q hq => by cases hq⟩
          have HE2 : Hid (∀ q, (none : Option Addr) = some q → w.heap.size ≤ q.block) := fun q hq => by cases hq
          clear b8 H7
          obtain ⟨hp8, hM8, b08⟩ := H8.out
          obtain ⟨k0, k1, k2, k3, kf⟩ := hM8.cells
          obtain ⟨c0, c1, c2, _⟩ := ent3 hx8
          have HNW := Lib.hid (ent_news w8 (⟨key, true, none, 0, 0, []⟩ : Ent))
          have HON := Lib.hid (ent_one (⟨key, true, none, 0, 0, []⟩ : Ent))
          have HRo : Hid ((w8.alloc (.cells #[.int .i64 key, .bool true, .slice none 0 0] 35 (0, 0))).ownsRow w.heap.size 35 3 (.slice p m c') m (ecells (restL M key))) := World.ownsRow.alloc hp8.2.1 _
          have hws : w.heap.size ≤ w8.heap.size := b08.size
          have HQ : Hid (∀ (g5 cap5 : Nat) (w5 : World), w5.ownsRow w.heap.size 35 3 (.slice (some ⟨g5, 0, none⟩) (m + 1) cap5) (m + 1) (ecells (restL M key) ++ (⟨key, true, none, 0, 0, []⟩ : Ent).cells) → (w8.alloc (.cells #[.int .i64 key, .bool true, .slice none 0 0] 35 (0, 0))).grownBy w5 (Value.slice p m c').ownBlock → ((Value.slice p m c').ownBlock = some g5 ∨ g5 = (w8.alloc (.cells #[.int .i64 key, .bool true, .slice none 0 0] 35 (0, 0))).heap.size) →
              (w5.cell? ⟨xb, 3, none⟩ = some (.slice av k cv) ∧ w5.frozen? ⟨xb, 3, none⟩ = false) ∧ (RefAt (w5.setCell ⟨xb, 3, none⟩ (.slice (some ⟨g5, 0, none⟩) (m + 1) cap5)) base xb sz mo sc (.slice (some ⟨g5, 0, none⟩) (m + 1) cap5) (restL M key ++ [(⟨key, true, none, 0, 0, []⟩ : Ent)]) ∧ Tn (blks xb (.slice av M.length cv)) w (w5.setCell ⟨xb, 3, none⟩ (.slice (some ⟨g5, 0, none⟩) (m + 1) cap5)) (blks xb (.slice (some ⟨g5, 0, none⟩) (m + 1) cap5)))) := fun g5 cap5 w5 h5 hg ho => by
            have hB5 := HB.out.below (PutI.add (e := (⟨key, true, none, 0, 0, []⟩ : Ent)) hp8 h5 hg).2.2
            obtain ⟨_, _, _, q3, qf⟩ := hB5.cells
            rw [← HNL.out.1] at q3
            exact ⟨⟨q3, qf 3⟩, rput_end HB.out hp8 (fun d hd => mem_rest hd) (⟨key, true, none, 0, 0, []⟩ : Ent) HE.out.1 HE.out.2 h5 hg ho⟩
          clear hp8 hM8 b08 hx8 H8
          go_wp2_with (at_builtin; refine wpList_append_lies _ rfl _ _ 30 rfl w.heap.size 35 i0 (.agg #[.int .i64 0, .bool false, .slice none 0 0]) 3 40 Tryd.underlying30 hi hz0 hz1 hz2 rfl (by decide) (.slice p m c') m (ecells (restL M key)) rfl HRo.out ⟨w8.heap.size, 0, none⟩ 1 1 (Ent.cells (⟨key, true, none, 0, 0, []⟩ : Ent)) rfl rfl HNW.out HON.out (by decide) (by unfold maxLen; omega) (by omega) (by rw [World.size_alloc]; omega) _ rfl ?_; intro g5 cap5 w5 hown5 hg5 hor5 hlt5; have q3 := (HQ.out g5 cap5 w5 hown5 hg5 hor5).1.1; have q4 := (HQ.out g5 cap5 w5 hown5 hg5 hor5).1.2; have HA := Lib.hid (HQ.out g5 cap5 w5 hown5 hg5 hor5).2; clear hown5 hg5 hor5 hlt5)
          go_ret
          exact .inr ⟨HC.out, rfl, _, (⟨key, true, none, 0, 0, []⟩ : Ent), rfl, rfl, rfl, rfl, HE2.out, HA.out.1, HA.out.2⟩
set_option maxRecDepth 100000 in
set_option maxHeartbeats 2000000 in
theorem rput_data {n : Nat} (B : RefAt w base xb (n : Int) mo sc v M) (hL : M.length ≤ 1000) (hno : (M.map Ent.key).Nodup) (key : Int) (h0 : 0 ≤ key) (h1 : key < sc) {a : Option Addr} {c : Nat} {l : List (BitVec 8)} (hd0 : Pol w a n c l) (hn5 : n ≤ 100000) :
    Calls Tryd.prog 10 #[.pointer (some ⟨xb, 0, none⟩), .int .i64 key, .slice a n c, .bool false] w (RPutPost base xb (n : Int) mo sc v M key false n l w) := by
  obtain ⟨i0, hi, hz0, hz1, hz2⟩ := infoE
  obtain ⟨av, cv, rfl, hvc, hvm, _⟩ := row_slice B.row
  have t1 : decide (key < 0) = false := decide_eq_false (by omega)
  have t2 : decide (sc ≤ key) = false := decide_eq_false (by omega)
  obtain ⟨N, hN⟩ : ∃ N, N = M.length := ⟨_, rfl⟩
  have HB := Lib.hid B
  have HNL := Lib.hid (And.intro hN hno)
  obtain ⟨k0, k1, k2, k3, kf⟩ := B.cells
  rw [← hN] at k3 hL hvc
  have HI0 : Hid (PutI w w [] (.slice none 0 0) 0) := ⟨rfl, World.ownsRow_nil _ _ _ _, Below.refl _ _⟩
  have HAt : Hid (((restL M key).length = N ↔ at? M key = none) ∧ (restL M key).length ≤ N) := ⟨by rw [hN]; exact rest_at hno, by rw [hN]; exact rest_le M key⟩
  unfold maxLen at hvm
  clear B hno hN kf h0 h1
  have hnn : ((n : Int) == (n : Int)) = true := by simp
  have HD0 := Lib.hid hd0
  clear hd0
  go_enter Tryd.func10, Tryd.ntmps10
  go_wp2_with fail
  clear k0 k1 k2 k3 t1 t2
  go_loopg [9, 10] N (fun gh s9 s10 wx => ∃ k : Nat, gh = N - k ∧ k ≤ N ∧ s10 = .int .i64 (k : Int) ∧ ∃ p m c, s9 = .slice p m c ∧ m ≤ c ∧ Hid (PutI w wx (restL (M.take k) key) (.slice p m c) m))
  case atStart => exact ⟨0, rfl, Nat.zero_le _, rfl, none, 0, 0, rfl, Nat.le_refl _, by rw [List.take_zero]; exact HI0⟩
  case round =>
    clear HI0
    obtain ⟨k, hg, hk, rfl, p, m, c', rfl, hmc, HX⟩ := hrel
    have HI := Lib.hid hg
    clear hg
    have HBk := Lib.hid (HB.out.below HX.out.2.2)
    obtain ⟨k0, k1, k2, k3, kf⟩ := HBk.out.cells
    rw [← HNL.out.1] at k3
    by_cases hlt : k < N
    · have x1 : (k : Int) < (N : Int) := by omega
      have x0 : (0 : Int) ≤ (k : Int) := by omega
      obtain ⟨d, hd⟩ : ∃ d, M[k]? = some d := ⟨M[k]'(by rw [← HNL.out.1]; exact hlt), List.getElem?_eq_getElem _⟩
      obtain ⟨g, rfl, hgb, c0, c1, c2⟩ := row_cells HBk.out.row hd
      have hRT := rest_take hd key
      have hm1 : m ≤ 1000 := by
        have h1 := HX.out.1
        have h2 := rest_le (M.take k) key
        have h3 := List.length_take_le k M
        omega
      by_cases hkk : d.key = key
      · rw [if_pos hkk] at hRT
        rw [hkk] at c0
        have HN : Hid (PutI w wr (restL (M.take (k + 1)) key) (.slice p m c') m) := by rw [hRT]; exact HX.out
        clear hRT hkk hd HX
        go_wp2_with fail
        go_roundg (N - (k + 1))
        case measure => have := HI.out; omega
        case rel => exact ⟨k + 1, rfl, hlt, by go_num, _, _, _, rfl, hmc, HN⟩
      · rw [if_neg hkk] at hRT
        have q1 : (d.key == key) = false := by rw [beq_eq_false_iff_ne]; exact hkk
        have q2 : (d.key != key) = true := by rw [bne, q1]; rfl
        have HNW := Lib.hid (ent_news wr d)
        have HON := Lib.hid (ent_one d)
        have HRo : Hid ((wr.alloc (.cells #[.int .i64 d.key, .bool d.trim, .slice d.a d.n d.c] 35 (0, 0))).ownsRow w.heap.size 35 3 (.slice p m c') m (ecells (restL (M.take k) key))) := World.ownsRow.alloc HX.out.2.1 _
        have hws : w.heap.size ≤ wr.heap.size := HX.out.2.2.size
        have HAdd : Hid (∀ (g5 cap5 : Nat) (w5 : World), w5.ownsRow w.heap.size 35 3 (.slice (some ⟨g5, 0, none⟩) (m + 1) cap5) (m + 1) (ecells (restL (M.take k) key) ++ d.cells) → (wr.alloc (.cells #[.int .i64 d.key, .bool d.trim, .slice d.a d.n d.c] 35 (0, 0))).grownBy w5 (Value.slice p m c').ownBlock → PutI w w5 (restL (M.take (k + 1)) key) (.slice (some ⟨g5, 0, none⟩) (m + 1) cap5) (m + 1)) := fun g5 cap5 w5 h5 hg => by
          rw [hRT]; exact HX.out.add h5 hg
        clear hRT hkk hd HX
        go_wp2_with (at_builtin; refine wpList_append_lies _ rfl _ _ 30 rfl w.heap.size 35 i0 (.agg #[.int .i64 0, .bool false, .slice none 0 0]) 3 40 Tryd.underlying30 hi hz0 hz1 hz2 rfl (by decide) (.slice p m c') m (ecells (restL (M.take k) key)) rfl HRo.out ⟨wr.heap.size, 0, none⟩ 1 1 d.cells rfl rfl HNW.out HON.out (by decide) (by unfold maxLen; omega) (by omega) (by rw [World.size_alloc]; omega) _ rfl ?_; intro g5 cap5 w5 hown5 hg5 hor5 hlt5; have HA := Lib.hid (HAdd.out g5 cap5 w5 hown5 hg5); have hcap5 : m + 1 ≤ cap5 := (by obtain ⟨_, _, e5, e6, _⟩ := row_slice (L := restL (M.take (k + 1)) key) (by have h := HA.out; have h2 := h.2.1; rw [h.1] at h2; exact h2); cases e5; have := HA.out.1; omega); clear hown5 hg5 hor5 hlt5)
        go_roundg (N - (k + 1))
        case measure => have := HI.out; omega
        case rel => exact ⟨k + 1, rfl, hlt, by go_num, _, _, _, rfl, hcap5, HA⟩
    · obtain rfl : k = N := by omega
      have htk : M.take k = M := List.take_of_length_le (by rw [← HNL.out.1]; exact Nat.le_refl _)
      rw [htk] at HX
      have hm0 : m = (restL M key).length := HX.out.1
      have hmk : m ≤ k := by rw [hm0]; exact HAt.out.2
      have hiff : m = k ↔ at? M key = none := by rw [hm0]; exact HAt.out.1
      clear hm0 htk hlt HAt hk
      by_cases hfull : m = k ∧ mo ≤ (k : Int)
      · obtain ⟨hmk2, hmo⟩ := hfull
        have hat := hiff.1 hmk2
        subst hmk2
        have y1 : decide (mo ≤ (m : Int)) = true := decide_eq_true hmo
        have HF := Lib.hid (And.intro hat hmo)
        clear hiff hmk hat hmo
        go_wp2_with fail
        go_quiet (fail)
        have HD : Hid (Below w.heap.size w (wr.drewN nq)) := HX.out.2.2.trans (((Drawn.mk wr nq).below wr.heap.size).mono HX.out.2.2.size)
        generalize wr.drewN nq = w7 at HD ⊢
        go_wp2_with fail
        go_ret
        exact .inl ⟨HF.out.1, by rw [← HNL.out.1]; exact HF.out.2, rfl, HD.out⟩
      · have hc : at? M key ≠ none ∨ (M.length : Int) < mo := by
          rw [← HNL.out.1]
          by_cases h : m = k
          · exact .inr (by have : ¬ mo ≤ (k : Int) := fun h2 => hfull ⟨h, h2⟩; omega)
          · exact .inl (fun h2 => h (hiff.2 h2))
        have HC := Lib.hid hc
        have hsplit : (m = k ∧ ¬ mo ≤ (k : Int)) ∨ m ≠ k := by
          by_cases h : m = k
          · exact .inl ⟨h, fun h2 => hfull ⟨h, h2⟩⟩
          · exact .inr h
        have hk1 : k ≤ 1000 := hL
        have hm1 : m ≤ 1000 := by omega
        have HX2 := Lib.hid (And.intro HX.out HBk.out)
        clear hc hiff hfull HX
        have hkey : ∀ nq, Hid (PutI w (wr.drewN nq) (restL M key) (.slice p m c') m ∧ RefAt (wr.drewN nq) base xb (n : Int) mo sc (.slice av k cv) M ∧ Below w.heap.size w (wr.drewN nq)) := fun nq => by
          have b := (Drawn.mk wr nq).below wr.heap.size
          have h := HX2.out.2.below b
          have h2 := HX2.out.1
          have bb := h2.2.2.trans (b.mono h2.2.2.size)
          have hrow : (wr.drewN nq).ownsRow w.heap.size 35 3 (.slice p m c') m (ecells (restL M key)) := by
            refine ⟨h2.2.1.1, ?_⟩
            rcases h2.2.1.2 with h0 | ⟨g', cap', cur, hv, hbg, hh, r⟩
            · exact .inl h0
            · exact .inr ⟨g', cap', cur, hv, hbg, (b.block g' (lt_of_block hh)).trans hh, r⟩
          refine ⟨⟨h2.1, hrow, bb⟩, ?_, bb⟩
          have := HNL.out.1
          rw [this]
          exact h
        rcases hsplit with ⟨rfl, hmo⟩ | hne
        · have y1 : decide (mo ≤ (m : Int)) = false := decide_eq_false hmo
          have y2 : ((m : Int) == (m : Int)) = true := by simp
          go_wp2_with fail
          go_quiet (fail)
          replace hkey := hkey nq
          generalize wr.drewN nq = w7 at hkey ⊢
          clear k0 k1 k2 k3 kf
          have H7 := Lib.hid hkey.out
          clear hkey
          go_upto_region 15 with (fail)
          generalize hw : w7.alloc (.cells #[.int .i64 key, .bool false, .slice none 0 0] 35 (0, 0)) = w6
          obtain ⟨hx8, b8⟩ := newE w7 w6 ⟨key, false, none, 0, 0, []⟩ hw
          obtain ⟨eb, heb⟩ : ∃ eb, eb = w7.heap.size := ⟨_, rfl⟩
          have heb7 : eb = w7.heap.size := heb
          rw [← heb] at hx8 ⊢
          clear hw heb
          have H8 : Hid (PutI w w6 (restL M key) (.slice p m c') m ∧ RefAt w6 base xb (n : Int) mo sc (.slice av m cv) M ∧ Below w.heap.size w w6) := PutI.more b8 H7.out
          have hp7 : ∀ z, (Value.slice p m c').ownBlock = some z → z < eb := fun z hz => by rw [heb7]; exact (H7.out.1.2.1.lt z hz).2
          have hweb : w.heap.size ≤ eb := by rw [heb7]; exact H7.out.2.2.size
          have HP6 := Lib.hid (HD0.out.below H8.out.2.2)
          have HK := Lib.hid (And.intro hx8 (And.intro hp7 hweb))
          have HCp := Lib.hid (copy_all a n c l w6 (fun h => ⟨by have := HP6.out.hcap; have := HP6.out.hnil h; omega, HP6.out.hnil h⟩) HP6.out.hrow HP6.out.hlen (by omega))
          clear b8 H7 hx8 heb7 hp7 hweb
          go_wp2_with fail
          refine HCp.out.mono ?_
          rintro e' w9 ⟨rfl, hbk, b9⟩
          clear HCp
          obtain ⟨hx8, hp7, hweb⟩ := HK.out
          have hl6 : eb < w6.heap.size := lt_of_block hx8
          obtain ⟨db, hdb⟩ : ∃ db, db = w6.heap.size := ⟨_, rfl⟩
          rw [← hdb] at hbk ⊢
          have hx9 := (b9.block eb hl6).trans hx8
          obtain ⟨c0, c1, c2, cf⟩ := ent3 hx9
          have cf2 := cf 2
          have o8 : Only eb w9 (w9.setCell ⟨eb, 2, none⟩ (.slice (some ⟨db, 0, none⟩) n n)) := Only.setCell _ ⟨eb, 2, none⟩ _
          have hxA : (w9.setCell ⟨eb, 2, none⟩ (.slice (some ⟨db, 0, none⟩) n n)).heap[eb]? = some (.cells #[.int .i64 key, .bool false, .slice (some ⟨db, 0, none⟩) n n] 35 (0, 0)) := heap_setCell_same _ _ 2 _ _ _ hx9
          have H9 : Hid ((PutI w (w9.setCell ⟨eb, 2, none⟩ (.slice (some ⟨db, 0, none⟩) n n)) (restL M key) (.slice p m c') m ∧ RefAt (w9.setCell ⟨eb, 2, none⟩ (.slice (some ⟨db, 0, none⟩) n n)) base xb (n : Int) mo sc (.slice av m cv) M ∧ Below w.heap.size w (w9.setCell ⟨eb, 2, none⟩ (.slice (some ⟨db, 0, none⟩) n n))) ∧ (Pol (w9.setCell ⟨eb, 2, none⟩ (.slice (some ⟨db, 0, none⟩) n n)) (some ⟨db, 0, none⟩) n n l ∧ ∀ q, (some ⟨db, 0, none⟩ : Option Addr) = some q → w.heap.size ≤ q.block ∧ q.block < (w9.setCell ⟨eb, 2, none⟩ (.slice (some ⟨db, 0, none⟩) n n)).heap.size ∧ some q.block ≠ (Value.slice p m c').ownBlock) ∧ (w9.setCell ⟨eb, 2, none⟩ (.slice (some ⟨db, 0, none⟩) n n)).heap[eb]? = some (.cells #[.int .i64 key, .bool false, .slice (some ⟨db, 0, none⟩) n n] 35 (0, 0))) := by
            have h9 := PutI.more b9 H8.out
            have hedb : eb < db := by rw [hdb]; exact hl6
            refine ⟨PutI.store o8 hweb (fun z hz => by have := hp7 z hz; omega) HB.out HNL.out.1 h9, ⟨⟨HP6.out.hlen, Nat.le_refl _, by have := HP6.out.hcap; have := HP6.out.hmost; omega, (fun h => by cases h), .inr ⟨db, 0, rfl, (fun i hi => ?_), ?_⟩⟩, ?_⟩, hxA⟩
            · have h1 := (Blk8.buf hbk).row i hi
              unfold World.cell? at h1 ⊢
              simp only at h1 ⊢
              rw [o8.block db (by omega)]
              exact h1
            · rw [o8.size]; exact lt_of_block hbk
            · intro q hq
              cases hq
              refine ⟨by show w.heap.size ≤ db; omega, by rw [o8.size]; exact lt_of_block hbk, fun e => ?_⟩
              have := hp7 db e.symm
              omega
          clear hx8 hp7 hweb hl6 hdb hbk hx9 cf o8 hxA b9 H8 HP6 HK
          go_upto_region 16 with (fail)
          generalize w9.setCell ⟨eb, 2, none⟩ (.slice (some ⟨db, 0, none⟩) n n) = w8 at H9 ⊢
          clear c0 c1 c2 cf2
          have H8 := Lib.hid H9.out.1
          have HE := Lib.hid H9.out.2.1
          have hx8 := H9.out.2.2
          have HE2 : Hid (∀ q, (some ⟨db, 0, none⟩ : Option Addr) = some q → w.heap.size ≤ q.block) := fun q hq => (HE.out.2 q hq).1
          clear H9
          obtain ⟨hp8, hM8, b08⟩ := H8.out
          obtain ⟨k0, k1, k2, k3, kf⟩ := hM8.cells
          obtain ⟨c0, c1, c2, _⟩ := ent3 hx8
          have HNW := Lib.hid (ent_news w8 (⟨key, false, some ⟨db, 0, none⟩, n, n, l⟩ : Ent))
          have HON := Lib.hid (ent_one (⟨key, false, some ⟨db, 0, none⟩, n, n, l⟩ : Ent))
          have HRo : Hid ((w8.alloc (.cells #[.int .i64 key, .bool false, .slice (some ⟨db, 0, none⟩) n n] 35 (0, 0))).ownsRow w.heap.size 35 3 (.slice p m c') m (ecells (restL M key))) := World.ownsRow.alloc hp8.2.1 _
          have hws : w.heap.size ≤ w8.heap.size := b08.size
          have HQ : Hid (∀ (g5 cap5 : Nat) (w5 : World), w5.ownsRow w.heap.size 35 3 (.slice (some ⟨g5, 0, none⟩) (m + 1) cap5) (m + 1) (ecells (restL M key) ++ (⟨key, false, some ⟨db, 0, none⟩, n, n, l⟩ : Ent).cells) → (w8.alloc (.cells #[.int .i64 key, .bool false, .slice (some ⟨db, 0, none⟩) n n] 35 (0, 0))).grownBy w5 (Value.slice p m c').ownBlock → ((Value.slice p m c').ownBlock = some g5 ∨ g5 = (w8.alloc (.cells #[.int .i64 key, .bool false, .slice (some ⟨db, 0, none⟩) n n] 35 (0, 0))).heap.size) →
              (w5.cell? ⟨xb, 3, none⟩ = some (.slice av m cv) ∧ w5.frozen? ⟨xb, 3, none⟩ = false) ∧ (RefAt (w5.setCell ⟨xb, 3, none⟩ (.slice (some ⟨g5, 0, none⟩) (m + 1) cap5)) base xb (n : Int) mo sc (.slice (some ⟨g5, 0, none⟩) (m + 1) cap5) (restL M key ++ [(⟨key, false, some ⟨db, 0, none⟩, n, n, l⟩ : Ent)]) ∧ Tn (blks xb (.slice av M.length cv)) w (w5.setCell ⟨xb, 3, none⟩ (.slice (some ⟨g5, 0, none⟩) (m + 1) cap5)) (blks xb (.slice (some ⟨g5, 0, none⟩) (m + 1) cap5)))) := fun g5 cap5 w5 h5 hg ho => by
            have hB5 := HB.out.below (PutI.add (e := (⟨key, false, some ⟨db, 0, none⟩, n, n, l⟩ : Ent)) hp8 h5 hg).2.2
            obtain ⟨_, _, _, q3, qf⟩ := hB5.cells
            rw [← HNL.out.1] at q3
            exact ⟨⟨q3, qf 3⟩, rput_end HB.out hp8 (fun d hd => mem_rest hd) (⟨key, false, some ⟨db, 0, none⟩, n, n, l⟩ : Ent) HE.out.1 HE.out.2 h5 hg ho⟩
          clear hp8 hM8 b08 hx8 H8
          go_wp2_with (at_builtin; refine wpList_append_lies _ rfl _ _ 30 rfl w.heap.size 35 i0 (.agg #[.int .i64 0, .bool false, .slice none 0 0]) 3 40 Tryd.underlying30 hi hz0 hz1 hz2 rfl (by decide) (.slice p m c') m (ecells (restL M key)) rfl HRo.out ⟨w8.heap.size, 0, none⟩ 1 1 (Ent.cells (⟨key, false, some ⟨db, 0, none⟩, n, n, l⟩ : Ent)) rfl rfl HNW.out HON.out (by decide) (by unfold maxLen; omega) (by omega) (by rw [World.size_alloc]; omega) _ rfl ?_; intro g5 cap5 w5 hown5 hg5 hor5 hlt5; have q3 := (HQ.out g5 cap5 w5 hown5 hg5 hor5).1.1; have q4 := (HQ.out g5 cap5 w5 hown5 hg5 hor5).1.2; have HA := Lib.hid (HQ.out g5 cap5 w5 hown5 hg5 hor5).2; clear hown5 hg5 hor5 hlt5)
          go_ret
          exact .inr ⟨HC.out, rfl, _, (⟨key, false, some ⟨db, 0, none⟩, n, n, l⟩ : Ent), rfl, rfl, rfl, rfl, HE2.out, HA.out.1, HA.out.2⟩
        · have y1 : ((m : Int) == (k : Int)) = false := by rw [beq_eq_false_iff_ne]; omega
          have y2 : (m == k) = false := by rw [beq_eq_false_iff_ne]; exact hne
          go_wp2_with fail
          go_quiet (fail)
          replace hkey := hkey nq
          generalize wr.drewN nq = w7 at hkey ⊢
          clear k0 k1 k2 k3 kf
          have H7 := Lib.hid hkey.out
          clear hkey
          go_upto_region 15 with (fail)
          generalize hw : w7.alloc (.cells #[.int .i64 key, .bool false, .slice none 0 0] 35 (0, 0)) = w6
          obtain ⟨hx8, b8⟩ := newE w7 w6 ⟨key, false, none, 0, 0, []⟩ hw
          obtain ⟨eb, heb⟩ : ∃ eb, eb = w7.heap.size := ⟨_, rfl⟩
          have heb7 : eb = w7.heap.size := heb
          rw [← heb] at hx8 ⊢
          clear hw heb
          have H8 : Hid (PutI w w6 (restL M key) (.slice p m c') m ∧ RefAt w6 base xb (n : Int) mo sc (.slice av k cv) M ∧ Below w.heap.size w w6) := PutI.more b8 H7.out
          have hp7 : ∀ z, (Value.slice p m c').ownBlock = some z → z < eb := fun z hz => by rw [heb7]; exact (H7.out.1.2.1.lt z hz).2
          have hweb : w.heap.size ≤ eb := by rw [heb7]; exact H7.out.2.2.size
          have HP6 := Lib.hid (HD0.out.below H8.out.2.2)
          have HK := Lib.hid (And.intro hx8 (And.intro hp7 hweb))
          have HCp := Lib.hid (copy_all a n c l w6 (fun h => ⟨by have := HP6.out.hcap; have := HP6.out.hnil h; omega, HP6.out.hnil h⟩) HP6.out.hrow HP6.out.hlen (by omega))
          clear b8 H7 hx8 heb7 hp7 hweb
          go_wp2_with fail
          refine HCp.out.mono ?_
          rintro e' w9 ⟨rfl, hbk, b9⟩
          clear HCp
          obtain ⟨hx8, hp7, hweb⟩ := HK.out
          have hl6 : eb < w6.heap.size := lt_of_block hx8
          obtain ⟨db, hdb⟩ : ∃ db, db = w6.heap.size := ⟨_, rfl⟩
          rw [← hdb] at hbk ⊢
          have hx9 := (b9.block eb hl6).trans hx8
          obtain ⟨c0, c1, c2, cf⟩ := ent3 hx9
          have cf2 := cf 2
          have o8 : Only eb w9 (w9.setCell ⟨eb, 2, none⟩ (.slice (some ⟨db, 0, none⟩) n n)) := Only.setCell _ ⟨eb, 2, none⟩ _
          have hxA : (w9.setCell ⟨eb, 2, none⟩ (.slice (some ⟨db, 0, none⟩) n n)).heap[eb]? = some (.cells #[.int .i64 key, .bool false, .slice (some ⟨db, 0, none⟩) n n] 35 (0, 0)) := heap_setCell_same _ _ 2 _ _ _ hx9
          have H9 : Hid ((PutI w (w9.setCell ⟨eb, 2, none⟩ (.slice (some ⟨db, 0, none⟩) n n)) (restL M key) (.slice p m c') m ∧ RefAt (w9.setCell ⟨eb, 2, none⟩ (.slice (some ⟨db, 0, none⟩) n n)) base xb (n : Int) mo sc (.slice av k cv) M ∧ Below w.heap.size w (w9.setCell ⟨eb, 2, none⟩ (.slice (some ⟨db, 0, none⟩) n n))) ∧ (Pol (w9.setCell ⟨eb, 2, none⟩ (.slice (some ⟨db, 0, none⟩) n n)) (some ⟨db, 0, none⟩) n n l ∧ ∀ q, (some ⟨db, 0, none⟩ : Option Addr) = some q → w.heap.size ≤ q.block ∧ q.block < (w9.setCell ⟨eb, 2, none⟩ (.slice (some ⟨db, 0, none⟩) n n)).heap.size ∧ some q.block ≠ (Value.slice p m c').ownBlock) ∧ (w9.setCell ⟨eb, 2, none⟩ (.slice (some ⟨db, 0, none⟩) n n)).heap[eb]? = some (.cells #[.int .i64 key, .bool false, .slice (some ⟨db, 0, none⟩) n n] 35 (0, 0))) := by
            have h9 := PutI.more b9 H8.out
            have hedb : eb < db := by rw [hdb]; exact hl6
            refine ⟨PutI.store o8 hweb (fun z hz => by have := hp7 z hz; omega) HB.out HNL.out.1 h9, ⟨⟨HP6.out.hlen, Nat.le_refl _, by have := HP6.out.hcap; have := HP6.out.hmost; omega, (fun h => by cases h), .inr ⟨db, 0, rfl, (fun i hi => ?_), ?_⟩⟩, ?_⟩, hxA⟩
            · have h1 := (Blk8.buf hbk).row i hi
              unfold World.cell? at h1 ⊢
              simp only at h1 ⊢
              rw [o8.block db (by omega)]
              exact h1
            · rw [o8.size]; exact lt_of_block hbk
            · intro q hq
              cases hq
              refine ⟨by show w.heap.size ≤ db; omega, by rw [o8.size]; exact lt_of_block hbk, fun e => ?_⟩
              have := hp7 db e.symm
              omega
          clear hx8 hp7 hweb hl6 hdb hbk hx9 cf o8 hxA b9 H8 HP6 HK
          go_upto_region 16 with (fail)
          generalize w9.setCell ⟨eb, 2, none⟩ (.slice (some ⟨db, 0, none⟩) n n) = w8 at H9 ⊢
          clear c0 c1 c2 cf2
          have H8 := Lib.hid H9.out.1
          have HE := Lib.hid H9.out.2.1
          have hx8 := H9.out.2.2
          have HE2 : Hid (∀ q, (some ⟨db, 0, none⟩ : Option Addr) = some q → w.heap.size ≤ q.block) := fun q hq => (HE.out.2 q hq).1
          clear H9
          obtain ⟨hp8, hM8, b08⟩ := H8.out
          obtain ⟨k0, k1, k2, k3, kf⟩ := hM8.cells
          obtain ⟨c0, c1, c2, _⟩ := ent3 hx8
          have HNW := Lib.hid (ent_news w8 (⟨key, false, some ⟨db, 0, none⟩, n, n, l⟩ : Ent))
          have HON := Lib.hid (ent_one (⟨key, false, some ⟨db, 0, none⟩, n, n, l⟩ : Ent))
          have HRo : Hid ((w8.alloc (.cells #[.int .i64 key, .bool false, .slice (some ⟨db, 0, none⟩) n n] 35 (0, 0))).ownsRow w.heap.size 35 3 (.slice p m c') m (ecells (restL M key))) := World.ownsRow.alloc hp8.2.1 _
          have hws : w.heap.size ≤ w8.heap.size := b08.size
          have HQ : Hid (∀ (g5 cap5 : Nat) (w5 : World), w5.ownsRow w.heap.size 35 3 (.slice (some ⟨g5, 0, none⟩) (m + 1) cap5) (m + 1) (ecells (restL M key) ++ (⟨key, false, some ⟨db, 0, none⟩, n, n, l⟩ : Ent).cells) → (w8.alloc (.cells #[.int .i64 key, .bool false, .slice (some ⟨db, 0, none⟩) n n] 35 (0, 0))).grownBy w5 (Value.slice p m c').ownBlock → ((Value.slice p m c').ownBlock = some g5 ∨ g5 = (w8.alloc (.cells #[.int .i64 key, .bool false, .slice (some ⟨db, 0, none⟩) n n] 35 (0, 0))).heap.size) →
              (w5.cell? ⟨xb, 3, none⟩ = some (.slice av k cv) ∧ w5.frozen? ⟨xb, 3, none⟩ = false) ∧ (RefAt (w5.setCell ⟨xb, 3, none⟩ (.slice (some ⟨g5, 0, none⟩) (m + 1) cap5)) base xb (n : Int) mo sc (.slice (some ⟨g5, 0, none⟩) (m + 1) cap5) (restL M key ++ [(⟨key, false, some ⟨db, 0, none⟩, n, n, l⟩ : Ent)]) ∧ Tn (blks xb (.slice av M.length cv)) w (w5.setCell ⟨xb, 3, none⟩ (.slice (some ⟨g5, 0, none⟩) (m + 1) cap5)) (blks xb (.slice (some ⟨g5, 0, none⟩) (m + 1) cap5)))) := fun g5 cap5 w5 h5 hg ho => by
            have hB5 := HB.out.below (PutI.add (e := (⟨key, false, some ⟨db, 0, none⟩, n, n, l⟩ : Ent)) hp8 h5 hg).2.2
            obtain ⟨_, _, _, q3, qf⟩ := hB5.cells
            rw [← HNL.out.1] at q3
            exact ⟨⟨q3, qf 3⟩, rput_end HB.out hp8 (fun d hd => mem_rest hd) (⟨key, false, some ⟨db, 0, none⟩, n, n, l⟩ : Ent) HE.out.1 HE.out.2 h5 hg ho⟩
          clear hp8 hM8 b08 hx8 H8
          go_wp2_with (at_builtin; refine wpList_append_lies _ rfl _ _ 30 rfl w.heap.size 35 i0 (.agg #[.int .i64 0, .bool false, .slice none 0 0]) 3 40 Tryd.underlying30 hi hz0 hz1 hz2 rfl (by decide) (.slice p m c') m (ecells (restL M key)) rfl HRo.out ⟨w8.heap.size, 0, none⟩ 1 1 (Ent.cells (⟨key, false, some ⟨db, 0, none⟩, n, n, l⟩ : Ent)) rfl rfl HNW.out HON.out (by decide) (by unfold maxLen; omega) (by omega) (by rw [World.size_alloc]; omega) _ rfl ?_; intro g5 cap5 w5 hown5 hg5 hor5 hlt5; have q3 := (HQ.out g5 cap5 w5 hown5 hg5 hor5).1.1; have q4 := (HQ.out g5 cap5 w5 hown5 hg5 hor5).1.2; have HA := Lib.hid (HQ.out g5 cap5 w5 hown5 hg5 hor5).2; clear hown5 hg5 hor5 hlt5)
          go_ret
          exact .inr ⟨HC.out, rfl, _, (⟨key, false, some ⟨db, 0, none⟩, n, n, l⟩ : Ent), rfl, rfl, rfl, rfl, HE2.out, HA.out.1, HA.out.2⟩
end
end Go.Proofs.YtabpfadbioalgaaDoor.Wt
