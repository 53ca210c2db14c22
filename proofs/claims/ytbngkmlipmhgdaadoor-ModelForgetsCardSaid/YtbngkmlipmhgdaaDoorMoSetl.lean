/- A model settles. By the verifier of shale. -/
import Derived.Test.YtbngkmlipmhgdaaDoorMoIter
import Derived.Test.YtbngkmlipmhgdaaDoorMarks
import Derived.Shelf.Abstract
namespace Go.Proofs.YtbngkmlipmhgdaaDoor.Mo
open Go Go.RowKit Bin
set_option linter.unusedVariables false
set_option linter.unusedSimpArgs false
attribute [local go_sem] Oper.semAt_some
theorem MoAt.dis {w : World} {mo n sz : Nat} {T : Nat → Bs} {L : List (Nat × Bs)} {bl dl : List Nat} {cb : Nat} (h : MoAt w mo n sz T L bl dl cb) : ∀ k ∈ dl, k ∉ bl := by
  obtain ⟨_, _, _, _, _, _, _, _, h⟩ := h
  exact h.dis
theorem MoAt.mf {w : World} {mo cb n sz : Nat} {T : Nat → Bs} {L : List (Nat × Bs)} {bl dl : List Nat} {cbd : Nat} (h : MoAt w mo n sz T L bl dl cbd) (hc : w.heap[cb]? = some (.cells #[.pointer (some ⟨mo, 0, none⟩)] 24 (0, 0))) : MF mo cb n sz w := by
  obtain ⟨_, _, _, _, _, _, _, _, h⟩ := h
  exact ⟨hc, _, _, _, h.blk⟩
theorem newC {w W : World} {v : Value} {t : TypeId} (h : w.alloc (.cells #[v] t (0, 0)) = W) : W.heap[w.heap.size]? = some (.cells #[v] t (0, 0)) ∧ Below w.heap.size w W ∧ W.heap.size = w.heap.size + 1 := by
  subst h
  exact ⟨heap_alloc_new w _, (Below.refl _ _).alloc (Nat.le_refl _) _, by simp⟩
/-- does the front of so many say so? -/
def EqJ (n n2 : Nat) (T : Nat → Bs) (L : List (Nat × Bs)) (M : Nat → Bs) (j : Nat) : Prop := n = n2 ∧ eqN (app T (L.take j)) M n
theorem res_two {tmps : Array Value} {w : World} {g f : Nat} {v x : Value} (hp : tmps.getD 4 undef = .pointer (some ⟨g, 0, none⟩)) (hq : tmps.getD 5 undef = .pointer (some ⟨f, 0, none⟩)) (hc : w.cell? ⟨g, 0, none⟩ = some v) (hd : w.cell? ⟨f, 0, none⟩ = some x) (hi : ∃ k, v = .int .i64 k) (hb : ∃ k, x = .bool k) :
    (results Tryd.f19 tmps).run Tryd.prog w = .ok (.tuple #[v, x]) w := by
  have hp' : tmps[4]?.getD undef = .pointer (some ⟨g, 0, none⟩) := by simpa using hp
  have hq' : tmps[5]?.getD undef = .pointer (some ⟨f, 0, none⟩) := by simpa using hq
  obtain ⟨k, rfl⟩ := hi
  obtain ⟨b, rfl⟩ := hb
  simp [results, Tryd.results19, hp', hq', asAddr, go_sem, hc, hd]
/-- how Settle ends where a front is the list. -/
def SetlIx (w2 : World) (mo n n2 sz : Nat) (T : Nat → Bs) (L : List (Nat × Bs)) (M : Nat → Bs) (bl dl : List Nat) (cbd rb fb : Nat) (cde : Code) (pre : List Fd) (bl' : List Nat) (W : World) : Prop :=
  cde = .ret ∧ ∃ k blF, k ≤ L.length ∧ EqJ n n2 T L M k ∧ (∀ j, j < k → ¬ EqJ n n2 T L M j) ∧ bl' = rb :: fb :: blF ∧ MoAt W mo n sz (app T (L.take k)) [] blF dl cbd ∧ W.heap[rb]? = some (.cells #[.int .i64 (k : Int)] 3 (0, 0)) ∧ W.heap[fb]? = some (.cells #[.bool true] 4 (0, 0)) ∧ Tn (rb :: fb :: bl) w2 W (rb :: fb :: blF)
theorem setl_fr {w2 : World} {mo n n2 sz : Nat} {T : Nat → Bs} {L : List (Nat × Bs)} {M : Nat → Bs} {bl dl : List Nat} {cbd rb fb : Nat} (hd : ∀ k ∈ dl, k < w2.heap.size) (hr : rb < w2.heap.size ∧ fb < w2.heap.size) : ∀ c pre bl' X Y, SetlIx w2 mo n n2 sz T L M bl dl cbd rb fb c pre bl' X → Fr w2.heap.size [] bl' X Y → SetlIx w2 mo n n2 sz T L M bl dl cbd rb fb c pre bl' Y := by
  rintro c pre bl' X Y ⟨h0, k, blF, h1, h2, h3, rfl, h4, h5, h6, h7⟩ f
  refine ⟨h0, k, blF, h1, h2, h3, rfl, h4.keep f.size fun z hz => ?_, (f.same rb (.inr (by simp)) (lt_of_block h5)).trans h5, (f.same fb (.inr (by simp)) (lt_of_block h6)).trans h6, ?_⟩
  · refine f.same z ?_ (h4.lt z hz)
    rcases hz with hz | hz
    · exact .inr (by simp [hz])
    · exact .inl ⟨hd z hz, by simp⟩
  · exact ⟨f.os.trans h7.os, f.tape.trans h7.tape, f.output.trans h7.output, Nat.le_trans h7.size f.size, fun z hz hn => (f.same z (.inl ⟨hz, by simp⟩) (Nat.lt_of_lt_of_le hz h7.size)).trans (h7.same z hz hn), h7.new⟩
/-- behind the stores of the body that returns. -/
theorem setl_stop {w2 W W3 : World} {mo n n2 sz : Nat} {T : Nat → Bs} {L : List (Nat × Bs)} {M : Nat → Bs} {bl dl blF : List Nat} {cbd rb fb k : Nat} {pre : List Fd} {gx : List Nat}
    (hb : Below w2.heap.size w2 W) (hne : rb ≠ fb) (hrb : rb ∉ bl ∧ rb ∉ dl ∧ rb < w2.heap.size) (hfb : fb ∉ bl ∧ fb ∉ dl ∧ fb < w2.heap.size) (h5 : W3.heap[rb]? = some (.cells #[.int .i64 0] 3 (0, 0))) (h6 : W3.heap[fb]? = some (.cells #[.bool false] 4 (0, 0)))
    (hk : k ≤ L.length) (he : EqJ n n2 T L M k) (hn : ∀ j, j < k → ¬ EqJ n n2 T L M j) (hM : MoAt W3 mo n sz (app T (L.take k)) [] blF dl cbd) (t : Tn bl W W3 blF) :
    ∃ bl', Tn (gx ++ (rb :: fb :: bl)) W ((W3.setCell ⟨rb, 0, none⟩ (.int .i64 (k : Int))).setCell ⟨fb, 0, none⟩ (.bool true)) bl' ∧ SetlIx w2 mo n n2 sz T L M bl dl cbd rb fb .ret pre bl' ((W3.setCell ⟨rb, 0, none⟩ (.int .i64 (k : Int))).setCell ⟨fb, 0, none⟩ (.bool true)) := by
  have notF : ∀ z, z < w2.heap.size → z ∉ bl → z ∉ blF := fun z hz hn hm => by
    rcases t.new z hm with h | h
    · exact hn h
    · have := hb.size; omega
  have o1 := Only.setCell W3 ⟨rb, 0, none⟩ (.int .i64 (k : Int))
  have o2 := Only.setCell (W3.setCell ⟨rb, 0, none⟩ (.int .i64 (k : Int))) ⟨fb, 0, none⟩ (.bool true)
  have tw : Tn (rb :: fb :: bl) W W3 (rb :: fb :: blF) := ⟨t.os, t.tape, t.output, t.size, fun z hz hn => t.same z hz fun h => hn (by simp [h]), fun z hz => by
    rcases List.mem_cons.1 hz with rfl | hz
    · exact .inl (by simp)
    · rcases List.mem_cons.1 hz with rfl | hz
      · exact .inl (by simp)
      · rcases t.new z hz with h | h
        · exact .inl (by simp [h])
        · exact .inr h⟩
  have ts : Tn (rb :: fb :: blF) W3 ((W3.setCell ⟨rb, 0, none⟩ (.int .i64 (k : Int))).setCell ⟨fb, 0, none⟩ (.bool true)) (rb :: fb :: blF) := (Tn.setCell W3 ⟨rb, 0, none⟩ _ (by simp)).trans (Tn.setCell _ ⟨fb, 0, none⟩ _ (by simp))
  have hs : W3.heap.size ≤ ((W3.setCell ⟨rb, 0, none⟩ (.int .i64 (k : Int))).setCell ⟨fb, 0, none⟩ (.bool true)).heap.size := by rw [o2.size, o1.size]; exact Nat.le_refl _
  have tall := tw.trans ts
  refine ⟨rb :: fb :: blF, ⟨tall.os, tall.tape, tall.output, tall.size, fun z hz hn => tall.same z hz fun h => hn (List.mem_append_right _ h), fun z hz => ?_⟩, rfl, k, blF, hk, he, hn, rfl, hM.keep hs fun z hz => ?_, ?_, ?_, ?_⟩
  · rcases tall.new z hz with h | h
    · exact .inl (List.mem_append_right _ h)
    · exact .inr h
  · have z1 : z ≠ rb := fun e => by
      rcases hz with hz | hz
      · exact notF rb hrb.2.2 hrb.1 (by rw [← e]; exact hz)
      · exact hrb.2.1 (by rw [← e]; exact hz)
    have z2 : z ≠ fb := fun e => by
      rcases hz with hz | hz
      · exact notF fb hfb.2.2 hfb.1 (by rw [← e]; exact hz)
      · exact hfb.2.1 (by rw [← e]; exact hz)
    exact (o2.block z z2).trans (o1.block z z1)
  · exact (o2.block rb hne).trans (heap_setCell_same W3 rb 0 _ _ _ h5)
  · exact heap_setCell_same _ fb 0 _ _ _ ((o1.block fb (Ne.symm hne)).trans h6)
  · have tb : Tn (rb :: fb :: bl) w2 W (rb :: fb :: bl) := ⟨hb.os, hb.tape, hb.output, hb.size, fun z hz _ => hb.block z hz, fun _ h => .inl h⟩
    exact tb.trans tall
def SetlPost (w : World) (mo n n2 sz : Nat) (T : Nat → Bs) (L : List (Nat × Bs)) (M : Nat → Bs) (bl dl : List Nat) (cbd : Nat) (e : Ending) (w' : World) : Prop :=
  (∃ k, k ≤ L.length ∧ EqJ n n2 T L M k ∧ (∀ j, j < k → ¬ EqJ n n2 T L M j) ∧ e = .returned (.tuple #[.int .i64 (k : Int), .bool true]) ∧ SetPost w mo n sz (app T (L.take k)) bl dl cbd w') ∨
  ((∀ j, j ≤ L.length → ¬ EqJ n n2 T L M j) ∧ e = .returned (.tuple #[.int .i64 0, .bool false]) ∧ Below w.heap.size w w')
theorem boxes4 (w W : World) (mo : Nat) (s : Value) (h : (((w.alloc (.cells #[.pointer (some ⟨mo, 0, none⟩)] 24 (0, 0))).alloc (.cells #[s] 36 (0, 0))).alloc (.cells #[.int .i64 0] 3 (0, 0))).alloc (.cells #[.bool false] 4 (0, 0)) = W) :
    W.heap[w.heap.size]? = some (.cells #[.pointer (some ⟨mo, 0, none⟩)] 24 (0, 0)) ∧ W.heap[w.heap.size + 1]? = some (.cells #[s] 36 (0, 0)) ∧ W.heap[w.heap.size + 1 + 1]? = some (.cells #[.int .i64 0] 3 (0, 0)) ∧ W.heap[w.heap.size + 1 + 1 + 1]? = some (.cells #[.bool false] 4 (0, 0)) ∧ Below w.heap.size w W := by
  generalize h1 : w.alloc (.cells #[.pointer (some ⟨mo, 0, none⟩)] 24 (0, 0)) = w1 at h
  obtain ⟨k1, b1, s1⟩ := newC h1
  generalize h2 : w1.alloc (.cells #[s] 36 (0, 0)) = w2 at h
  obtain ⟨k2, b2, s2⟩ := newC h2
  generalize h3 : w2.alloc (.cells #[.int .i64 0] 3 (0, 0)) = w3 at h
  obtain ⟨k3, b3, s3⟩ := newC h3
  obtain ⟨k4, b4, s4⟩ := newC h
  rw [← s1, ← s2, ← s3]
  have k1' := (b2.block _ (lt_of_block k1)).trans k1
  have k1'' := (b3.block _ (lt_of_block k1')).trans k1'
  have k2' := (b3.block _ (lt_of_block k2)).trans k2
  exact ⟨(b4.block _ (lt_of_block k1'')).trans k1'', (b4.block _ (lt_of_block k2')).trans k2', (b4.block _ (lt_of_block k3)).trans k3, k4, ((b1.trans (b2.mono b1.size)).trans (b3.mono (by omega))).trans (b4.mono (by omega))⟩
set_option maxRecDepth 100000 in
set_option maxHeartbeats 4000000 in
theorem settl_any {w : World} {mo n sz : Nat} {T : Nat → Bs} {L : List (Nat × Bs)} {bl dl : List Nat} {cbd : Nat} (h : MoAt w mo n sz T L bl dl cbd) {a : Option Addr} {n2 c2 : Nat} {M : Nat → Bs} (hl : LstAt w a n2 M) (hn2 : n2 ≤ maxLen) :
    Calls Tryd.prog 19 #[.pointer (some ⟨mo, 0, none⟩), .slice a n2 c2] w (SetlPost w mo n n2 sz T L M bl dl cbd) := by
  refine (callsIn_wide (n := 3)).1 ?_
  refine callsIn_of_wp_marks Tryd.func19 rfl trivial ?_ rfl
  simp only [Tryd.ntmps19, List.size_toArray, List.length_cons, List.length_nil, Nat.reduceAdd, Nat.reduceSub, Array.replicate_succ, Array.replicate_zero, List.push_toArray, List.append_toArray, List.nil_append, List.cons_append]
  refine wpIn_wide.2 ?_
  have HH := Lib.hid (And.intro h (And.intro hl hn2))
  clear h hl hn2
  go_upto_region 1 with (fail)
  generalize hw : (((w.alloc (.cells #[.pointer (some ⟨mo, 0, none⟩)] 24 (0, 0))).alloc (.cells #[.slice a n2 c2] 36 (0, 0))).alloc (.cells #[.int .i64 0] 3 (0, 0))).alloc (.cells #[.bool false] 4 (0, 0)) = w1
  obtain ⟨k1, k2, k3, k4, b1⟩ := boxes4 w w1 mo _ hw
  clear hw
  obtain ⟨xb, hxb⟩ : ∃ x, x = w.heap.size := ⟨_, rfl⟩
  obtain ⟨lb, hlb⟩ : ∃ x, x = w.heap.size + 1 := ⟨_, rfl⟩
  obtain ⟨rb, hrb⟩ : ∃ x, x = w.heap.size + 1 + 1 := ⟨_, rfl⟩
  obtain ⟨fb, hfb⟩ : ∃ x, x = w.heap.size + 1 + 1 + 1 := ⟨_, rfl⟩
  rw [← hfb] at k4 ⊢
  rw [← hrb] at k3 ⊢
  rw [← hlb] at k2 ⊢
  rw [← hxb] at k1 ⊢
  have x1 := cell_of_one k1
  have HNE : Hid (w.heap.size ≤ xb ∧ w.heap.size ≤ lb ∧ w.heap.size ≤ rb ∧ w.heap.size ≤ fb ∧ rb ≠ fb) := ⟨by omega, by omega, by omega, by omega, by omega⟩
  have H1 := Lib.hid (And.intro k1 (And.intro k2 (And.intro k3 (And.intro k4 b1))))
  clear k1 k2 k3 k4 b1 hxb hlb hrb hfb
  go_wp2_with fail
  refine (fronts_any mo w1).mono ?_
  rintro e w2 ⟨rfl, hcb, b2⟩
  obtain ⟨cb, hcbe⟩ : ∃ cb, cb = w1.heap.size := ⟨_, rfl⟩
  rw [← hcbe] at hcb ⊢
  have H2 : Hid (w2.heap[xb]? = some (.cells #[.pointer (some ⟨mo, 0, none⟩)] 24 (0, 0)) ∧ w2.heap[lb]? = some (.cells #[.slice a n2 c2] 36 (0, 0)) ∧ w2.heap[rb]? = some (.cells #[.int .i64 0] 3 (0, 0)) ∧ w2.heap[fb]? = some (.cells #[.bool false] 4 (0, 0)) ∧ w2.heap[cb]? = some (.cells #[.pointer (some ⟨mo, 0, none⟩)] 24 (0, 0)) ∧ Below w.heap.size w w2 ∧ MoAt w2 mo n sz T L bl dl cbd ∧ LstAt w2 a n2 M) := by
    obtain ⟨k1, k2, k3, k4, b1⟩ := H1.out
    have b12 := b1.trans (b2.mono b1.size)
    exact ⟨(b2.block _ (lt_of_block k1)).trans k1, (b2.block _ (lt_of_block k2)).trans k2, (b2.block _ (lt_of_block k3)).trans k3, (b2.block _ (lt_of_block k4)).trans k4, hcb, b12, HH.out.1.below b12, HH.out.2.1.below b12⟩
  have HX : Hid ((rb ∉ bl ∧ rb ∉ dl ∧ rb < w2.heap.size) ∧ (fb ∉ bl ∧ fb ∉ dl ∧ fb < w2.heap.size) ∧ ∀ k ∈ dl, k < w2.heap.size) := by
    have hlt := HH.out.1.lt
    have hn := HNE.out
    have hs := H2.out.2.2.2.2.2.1.size
    refine ⟨⟨fun h => ?_, fun h => ?_, lt_of_block H2.out.2.2.1⟩, ⟨fun h => ?_, fun h => ?_, lt_of_block H2.out.2.2.2.1⟩, fun k hk => ?_⟩
    · have := hlt rb (.inl h); omega
    · have := hlt rb (.inr h); omega
    · have := hlt fb (.inl h); omega
    · have := hlt fb (.inr h); omega
    · have := hlt k (.inr hk); omega
  have hlens := HH.out.1.lens
  have HL := Lib.hid hlens
  clear hcb hcbe b2 H1 hlens x1
  go_wp2_with fail
  refine wpIn_wide.1 (range_giftM (n := 3) (gf := 28) (lb := #[.pointer (some ⟨cb, 0, none⟩)]) rfl (enters_of Tryd.func28 (by kernel_rfl) rfl)
    (encs := encF n) (fun _ => rfl) (gift := gift n) (V := VF n sz T L w2.heap.size) [] (M := MF mo cb n sz) (C := FindsF mo cb n sz T L bl dl cbd)
    (fun pre bl' W => bl' = rb :: fb :: bl ∧ Below w2.heap.size w2 W ∧ ∀ j, j < pre.length → ¬ EqJ n n2 T L M j) (SetlIx w2 mo n n2 sz T L M bl dl cbd rb fb) ?_ (setl_fr HX.out.2.2 ⟨HX.out.1.2.2, HX.out.2.1.2.2⟩) ?_ ?_ (bl0 := rb :: fb :: bl) ?_ ?_ vf_gift vf_lt vf_same
    (fronts_iter 2 w2.heap.size mo cb n sz T L bl dl cbd)
    ?a1_s (fun x W0 => W0) ?_ ?assign_s ?body_s ?done_s ?stop_s)
  case assign_s =>
    intro l q W K hK
    have HK := Lib.hid hK
    clear hK
    gi_wp2
    exact HK.out
  · rintro pre bl' X Y ⟨rfl, h1, h2⟩ f
    exact ⟨rfl, ⟨f.os.trans h1.os, f.tape.trans h1.tape, f.output.trans h1.output, Nat.le_trans h1.size f.size, fun k hk => (f.same k (.inl ⟨hk, by simp⟩) (Nat.lt_of_lt_of_le hk h1.size)).trans (h1.block k hk)⟩, h2⟩
  · rintro pre bl' X ⟨rfl, h1, _⟩ k hk
    have hs := h1.size
    rcases List.mem_cons.1 hk with rfl | hk
    · have := HX.out.1.2.2; omega
    · rcases List.mem_cons.1 hk with rfl | hk
      · have := HX.out.2.1.2.2; omega
      · have := H2.out.2.2.2.2.2.2.1.lt k (.inl hk); omega
  · rintro pre bl' X ⟨rfl, h1, _⟩
    exact (H2.out.2.2.2.2.2.2.1.below h1).mf ((h1.block cb (lt_of_block H2.out.2.2.2.2.1)).trans H2.out.2.2.2.2.1)
  · exact ⟨rfl, Below.refl _ _, fun j hj => absurd hj (Nat.not_lt_zero j)⟩
  · intro W hW
    refine ⟨H2.out.2.2.2.2.2.2.1.below hW, (hW.block cb (lt_of_block H2.out.2.2.2.2.1)).trans H2.out.2.2.2.2.1, fun k hk hm => ?_⟩
    have h1 := HX.out.2.2 k hk
    simp only [List.mem_cons] at hm
    rcases hm with h | h | h | h | h
    · omega
    · omega
    · exact HX.out.1.2.1 (by rw [← h]; exact hk)
    · exact HX.out.2.1.2.1 (by rw [← h]; exact hk)
    · exact HH.out.1.dis k hk h
  · intro q W
    exact Below.refl _ _
  case body_s =>
    rintro l pre bl' ⟨k, og, kb⟩ W0 W hB0 hsz hW hbl hgf ⟨rfl, hb, hne⟩ ⟨hV1, hV2, hV3, hV4, hV5⟩
    have hk : k = pre.length := hV1
    have hk2 : k ≤ L.length := hV2
    have hA : AllS W og n sz kb (app T (L.take k)) := hV3
    have hMo := H2.out.2.2.2.2.2.2.1.below hb
    have hlen := app_len (L.take k) T HL.out.1 (fun p hp => (HL.out.2.1 p (List.mem_of_mem_take hp)).2)
    have HE := Lib.hid (equalF_any (c1 := n) (c2 := c2) (hA.lst hlen HL.out.2.2.2.2.2.1) (H2.out.2.2.2.2.2.2.2.below hb) HL.out.2.2.2.1 HH.out.2.2)
    have r1 := (hb.block rb (lt_of_block H2.out.2.2.1)).trans H2.out.2.2.1
    have r2 := (hb.block fb (lt_of_block H2.out.2.2.2.1)).trans H2.out.2.2.2.1
    have c1 := cell_of_one ((hb.block xb (lt_of_block H2.out.1)).trans H2.out.1)
    have c2' := cell_of_one ((hb.block lb (lt_of_block H2.out.2.1)).trans H2.out.2.1)
    have HB := Lib.hid (And.intro hb (And.intro hne (And.intro hk (And.intro hk2 (And.intro hMo (And.intro r1 r2))))))
    clear hb hne hk hk2 hMo hlen hA hV1 hV2 hV3 hV4 hV5 r1 r2 hB0 hsz hW hbl hgf
    gi_wp2
    refine ⟨trivial, (CallsIn.inRound l (callsIn_wide.2 HE.out)).mono ?_⟩
    rintro e w' ⟨rfl, rfl⟩
    clear HE c2'
    by_cases hq : EqJ n n2 T L M k
    · rw [decide_eq_true (show n = n2 ∧ eqN (app T (L.take k)) M n from hq)]
      have HS := Lib.hid (settle_any HB.out.2.2.2.2.1 k HB.out.2.2.2.1)
      have HQ := Lib.hid hq
      clear hq
      gi_wp2
      refine ⟨trivial, (CallsIn.inRound l (callsIn_wide.2 HS.out)).mono ?_⟩
      rintro e W3 ⟨rfl, blF, hM3, t3⟩
      have r1 := (t3.same rb (lt_of_block HB.out.2.2.2.2.2.1) HX.out.1.1).trans HB.out.2.2.2.2.2.1
      have r2 := (t3.same fb (lt_of_block HB.out.2.2.2.2.2.2) HX.out.2.1.1).trans HB.out.2.2.2.2.2.2
      have hne := HB.out.2.1
      rw [← HB.out.2.2.1] at hne
      have HF := Lib.hid (setl_stop (pre := pre ++ [⟨k, og, kb⟩]) (gx := gift n ⟨k, og, kb⟩) HB.out.1 HNE.out.2.2.2.2 HX.out.1 HX.out.2.1 r1 r2 HB.out.2.2.2.1 HQ.out hne hM3 t3)
      have q1 := cell_of_one r1
      have q2 := free_of_one r1
      have o1 := Only.setCell W3 ⟨rb, 0, none⟩ (.int .i64 (k : Int))
      have r2' := (o1.block fb (Ne.symm HNE.out.2.2.2.2)).trans r2
      have q3 := cell_of_one r2'
      have q4 := free_of_one r2'
      clear hM3 t3 r1 r2 hne o1 r2' HS c1
      gi_wp2
      exact HF.out
    · rw [decide_eq_false (show ¬ (n = n2 ∧ eqN (app T (L.take k)) M n) from hq)]
      have HN : Hid (∀ j, j < (pre ++ [(⟨k, og, kb⟩ : Fd)]).length → ¬ EqJ n n2 T L M j) := fun j hj => by
        rw [List.length_append] at hj
        by_cases hjk : j = k
        · rw [hjk]; exact hq
        · exact HB.out.2.1 j (by have := HB.out.2.2.1; simp at hj; omega)
      clear hq c1
      gi_wp2
      exact ⟨rb :: fb :: bl, ⟨rfl, rfl, rfl, Nat.le_refl _, fun _ _ _ => rfl, fun z hz => .inl (List.mem_append_right _ hz)⟩, rfl, HB.out.1, HN.out⟩
  case done_s =>
    rintro D xs bl' W hD hDl hDb hS ⟨rfl, hb, hne⟩ hdef
    have r1 := (hb.block rb (lt_of_block H2.out.2.2.1)).trans H2.out.2.2.1
    have r2 := (hb.block fb (lt_of_block H2.out.2.2.2.1)).trans H2.out.2.2.2.1
    have q1 := cell_of_one r1
    have q2 := free_of_one r1
    have o1 := Only.setCell W ⟨rb, 0, none⟩ (.int .i64 0)
    have r2' := (o1.block fb (Ne.symm HNE.out.2.2.2.2)).trans r2
    have q3 := cell_of_one r2'
    have q4 := free_of_one r2'
    have o2 := Only.setCell (W.setCell ⟨rb, 0, none⟩ (.int .i64 0)) ⟨fb, 0, none⟩ (.bool false)
    have HF : Hid (((W.setCell ⟨rb, 0, none⟩ (.int .i64 0)).setCell ⟨fb, 0, none⟩ (.bool false)).heap[rb]? = some (.cells #[.int .i64 0] 3 (0, 0)) ∧ ((W.setCell ⟨rb, 0, none⟩ (.int .i64 0)).setCell ⟨fb, 0, none⟩ (.bool false)).heap[fb]? = some (.cells #[.bool false] 4 (0, 0)) ∧ ((W.setCell ⟨rb, 0, none⟩ (.int .i64 0)).setCell ⟨fb, 0, none⟩ (.bool false)).heap[D]? = some (.deferred (some [])) ∧ D ≠ rb ∧ D ≠ fb ∧ w.heap.size ≤ D ∧ Below w.heap.size w ((W.setCell ⟨rb, 0, none⟩ (.int .i64 0)).setCell ⟨fb, 0, none⟩ (.bool false)) ∧ ∀ j, j ≤ L.length → ¬ EqJ n n2 T L M j) := by
      have d1 : D ≠ rb := fun e => hDb (by simp [e])
      have d2 : D ≠ fb := fun e => hDb (by simp [e])
      have hn := HNE.out
      have hs := H2.out.2.2.2.2.2.1.size
      refine ⟨(o2.block rb hn.2.2.2.2).trans (heap_setCell_same W rb 0 _ _ _ r1), heap_setCell_same _ fb 0 _ _ _ r2', (o2.block D d2).trans ((o1.block D d1).trans hdef), d1, d2, by omega, ?_, fun j hj => hne j (by rw [hS]; omega)⟩
      exact ((H2.out.2.2.2.2.2.1.trans (hb.mono hs)).trans (o1.below hn.2.2.1)).trans (o2.below hn.2.2.2.1)
    clear hb hne hdef hD hDl hDb hS r1 r2 o1 r2' o2
    go_wp2_with fail
    refine marks_post [D] _ (by simp) (fun X hX => ?_) (fun W' e1 e2 e3 e4 e5 => ?_)
    · rw [List.mem_singleton.1 hX]
      exact HF.out.2.2.1
    · have f5 : ∀ k, k ≠ D → W'.heap[k]? = _ := fun k hk => e5 k (by simpa using hk)
      obtain ⟨f1, f2, _, d1, d2, hD, hb, hne⟩ := HF.out
      refine ⟨_, res_two rfl rfl (cell_of_one ((f5 rb (Ne.symm d1)).trans f1)) (cell_of_one ((f5 fb (Ne.symm d2)).trans f2)) ⟨_, rfl⟩ ⟨_, rfl⟩, .inr ⟨hne, rfl, hb.trans ⟨e1, e2, e3, by rw [e4]; exact Nat.le_refl _, fun k hk => f5 k (by omega)⟩⟩⟩
  case stop_s =>
    rintro D cde pre bl' W hD hDl hDb hS ⟨rfl, k, blF, h1, h2, h3, rfl, h4, h5, h6, h7⟩ hdef
    have HF : Hid (k ≤ L.length ∧ EqJ n n2 T L M k ∧ (∀ j, j < k → ¬ EqJ n n2 T L M j) ∧ MoAt W mo n sz (app T (L.take k)) [] blF dl cbd ∧ W.heap[rb]? = some (.cells #[.int .i64 (k : Int)] 3 (0, 0)) ∧ W.heap[fb]? = some (.cells #[.bool true] 4 (0, 0)) ∧ Tn (rb :: fb :: bl) w2 W (rb :: fb :: blF) ∧ D ∉ rb :: fb :: blF ∧ w2.heap.size ≤ D ∧ W.heap[D]? = some (.deferred (some []))) := ⟨h1, h2, h3, h4, h5, h6, h7, hDb, hD, hdef⟩
    clear h1 h2 h3 h4 h5 h6 h7 hD hDl hDb hS hdef
    gi_wp2
    refine marks_post [D] _ (by simp) (fun X hX => ?_) (fun W' e1 e2 e3 e4 e5 => ?_)
    · rw [List.mem_singleton.1 hX]
      exact HF.out.2.2.2.2.2.2.2.2.2
    · have f5 : ∀ z, z ≠ D → W'.heap[z]? = W.heap[z]? := fun z hz => e5 z (by simpa using hz)
      obtain ⟨h1, h2, h3, h4, h5, h6, h7, hDb, hD, hdef⟩ := HF.out
      simp only [List.mem_cons, not_or] at hDb
      have hs := H2.out.2.2.2.2.2.1.size
      have hn := HNE.out
      refine ⟨_, res_two rfl rfl (cell_of_one ((f5 rb (Ne.symm hDb.1)).trans h5)) (cell_of_one ((f5 fb (Ne.symm hDb.2.1)).trans h6)) ⟨_, rfl⟩ ⟨_, rfl⟩, .inl ⟨k, h1, h2, h3, rfl, blF, ?_, ?_⟩⟩
      · refine h4.keep (by rw [e4]; exact Nat.le_refl _) fun z hz => f5 z fun e => ?_
        rcases hz with hz | hz
        · exact hDb.2.2 (by rw [← e]; exact hz)
        · have := HX.out.2.2 z hz; omega
      · have hwo : Tn bl w W blF := by
          have b := H2.out.2.2.2.2.2.1
          refine ⟨h7.os.trans b.os, h7.tape.trans b.tape, h7.output.trans b.output, Nat.le_trans b.size h7.size, fun z hz hzn => ?_, fun z hz => ?_⟩
          · refine (h7.same z (by omega) fun hm => ?_).trans (b.block z hz)
            rcases List.mem_cons.1 hm with h | hm
            · omega
            · rcases List.mem_cons.1 hm with h | hm
              · omega
              · exact hzn hm
          · rcases h7.new z (by simp [hz]) with hm | hm
            · rcases List.mem_cons.1 hm with h | hm
              · exact .inr (by omega)
              · rcases List.mem_cons.1 hm with h | hm
                · exact .inr (by omega)
                · exact .inl hm
            · exact .inr (by omega)
        exact ⟨e1.trans hwo.os, e2.trans hwo.tape, e3.trans hwo.output, by rw [e4]; exact hwo.size, fun z hz hzn => (f5 z (by omega)).trans (hwo.same z hz hzn), hwo.new⟩
end Go.Proofs.YtbngkmlipmhgdaaDoor.Mo
